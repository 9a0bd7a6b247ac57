import Derived.Test.YtphclnolomgjoaaGreatDoorB09
import Derived.Deep.LoopGhost
import Derived.Test.YtphclnolomgjoaaGreatDoorB06
import Derived.Lib.SliceRun
set_option linter.unusedVariables false
set_option linter.unusedSimpArgs false
set_option maxRecDepth 100000
set_option maxHeartbeats 4000000
namespace Go.Proofs.YtphclnolomgjoaaGreatDoor
open Tryz
open Go.RowKit
variable {W W' w w':World}{b bx cap hb i i0 j k:Nat}{f v:Value}{p:Pw}{T T':Nat->Prop}{l zs:List Pw}{e t t':TypeId}{xs:List Value}{nodes:List Node}{vs:Array Value}
structure HpAt (W:World) (hb:Nat) (f v:Value) (ys:List Pw):Prop where
 at_:Blk W hb 247 #[f,v]
 row:W.ownsRow 0 95 1 v ys.length (qa0 ys)
 ne:v.ownBlock≠some hb
theorem HpAt.get{ys:List Pw}(h:HpAt W hb f v ys)(hi:ys[i]?=some p):∃g cap,v=.slice (some ⟨g,0,none⟩) ys.length cap/\g<W.heap.size/\g≠hb/\ys.length<=cap/\cap<=maxLen/\W.cell? ⟨g,i,none⟩=some (nptr p.blk)/\W.frozen? ⟨g,i,none⟩=false:=by
 obtain⟨g,cap,rfl,h1,h2⟩:=qa9 h.row (Nat.lt_of_le_of_lt (Nat.zero_le _) (xr0.1 hi).1)
 have:=h.row.cells (g:=g) rfl i (nptr p.blk) (by unfold qa0;rw[xrs,hi];rfl)
 rw[Addr.add_lit,Nat.zero_add]at this
 exact⟨g,cap,rfl,qap h.row rfl,fun e=>h.ne (by simp[Value.ownBlock,e]),h1,h2,this,h.row.frozenAt _⟩
theorem HpAt.drew{ys:List Pw}(h:HpAt W hb f v ys):HpAt W.drew hb f v ys:=⟨h.at_.drew,h.row.drew,h.ne⟩
theorem quc{ys:List Pw}(h:HpAt w hb f v ys)(hl:ys.length<=100){a b:Pw}(hi:ys[i]?=some a)(hj:ys[j]?=some b)(mg:i≠j):
  Calls prog 229 #[.pointer (some ⟨hb,0,none⟩),.int .i64 i,.int .i64 j] w fun e w'=>e=.returned (.tuple #[])/\HpAt w' hb f v (swp ys i j a b)/\Keep (fun y=>v.ownBlock=some y) w w':=by
 obtain⟨g,cap,hv,bK,iW,cS,fl,ci,fi⟩:=h.get hi;obtain⟨g',av,dd,_,_,_,_,cj,fj⟩:=h.get hj;rw[hv]at dd;injection dd with e1 _ e3;injection e1 with e1;injection e1 with e1;subst e1 e3;have ep:=(xr0.1 hi).1;have fE:=(xr0.1 hj).1;have c1:=h.at_.cell 1;have ak:=h.at_.lt;simp only[xq0,xq1,xq2]at c1;rw[hv]at c1;obtain⟨n,hn⟩:∃n,n=ys.length:=⟨_,rfl⟩;rw[<-hn]at c1 ep fE cS hl;have h1:(i:Int)<n:=by omega
 have h2:(0:Int)<=i:=by omega
 have h3:(j:Int)<n:=by omega
 have h4:(0:Int)<=j:=by omega
 have zj:¬(j=i):=fun e=>mg e.symm
 have eQ:¬(hb=g):=fun e=>iW e.symm
 have aK:HpAt ((w.setCell ⟨g,i,none⟩ (nptr b.blk)).setCell ⟨g,j,none⟩ (nptr a.blk)) hb f v (swp ys i j a b)/\Keep (fun y=>v.ownBlock=some y) w ((w.setCell ⟨g,i,none⟩ (nptr b.blk)).setCell ⟨g,j,none⟩ (nptr a.blk)):=by
  subst hv
  refine⟨⟨(h.at_.other _ _ eQ).other _ _ eQ,?_,h.ne⟩,?_⟩
  ·have r1:=((h.row.stored i (nptr b.blk)).1.stored j (nptr a.blk)).1;rw[qlx]
   have:qa0 (swp ys i j a b)=((qa0 ys).set i (nptr b.blk)).set j (nptr a.blk):=by simp[qa0,swp,List.map_set]
   rw[this]
   exact r1
  ·exact((Keep.refl _ _).setCell (p:=⟨g,i,none⟩) (by simp[Value.ownBlock]) _).setCell (p:=⟨g,j,none⟩) (by simp[Value.ownBlock]) _
 have HP:Hid (HpAt ((w.setCell ⟨g,i,none⟩ (nptr b.blk)).setCell ⟨g,j,none⟩ (nptr a.blk)) hb f v (swp ys i j a b)/\Keep (fun y=>v.ownBlock=some y) w ((w.setCell ⟨g,i,none⟩ (nptr b.blk)).setCell ⟨g,j,none⟩ (nptr a.blk))):=aK;clear aK h hi hj hn;unfold nptr at ci cj
 go_enter func229,ntmps229
 go_wp2_with fail
 go_region
 all_goals go_wp2_with fail
 go_end0
 obtain⟨p1,p2⟩:=HP.out
 exact⟨rfl,p1.drew,p2.drew⟩
theorem HpAt.below{ys:List Pw}(h:HpAt W hb f v ys)(hB:Below W.heap.size W W'):HpAt W' hb f v ys :=
 ⟨h.at_.below hB h.at_.lt,qaf (T:=fun _=>False) h.row (Keep.new hB) (fun _ _ e=>e),h.ne⟩
theorem qqo{ys:List Pw}(h:HpAt w hb (.func (.func 168) #[] #[]) v ys)(hl:ys.length<=100){a:Pw}(hi:ys[i]?=some a)(k_:j<=1000)(lt:Pw->Pw->Bool)
  (bB:∀W,Below w.heap.size w W->∀b,ys[j]?=some b->Calls prog 168 #[nptr b.blk,nptr a.blk] W fun e w'=>e=.returned (.bool (lt b a))/\Below W.heap.size W w') :
  Calls prog 228 #[.pointer (some ⟨hb,0,none⟩),.int .i64 i,.int .i64 j] w fun e w'=>e=.returned (.int .i64 (match ys[j]? with|some b=>if lt b a then(j:Int) else(i:Int)|none=>(i:Int)))/\Below w.heap.size w w':=by
 obtain⟨g,cap,hv,bK,iW,cS,fl,ci,fi⟩:=h.get hi;have ep:=(xr0.1 hi).1;have c0:=h.at_.cell 0;have c1:=h.at_.cell 1;have ak:=h.at_.lt;simp only[xq0,xq1,xq2]at c0 c1;rw[hv]at c1;obtain⟨n,hn⟩:∃n,n=ys.length:=⟨_,rfl⟩;rw[<-hn]at c1 ep cS hl;have h1:(i:Int)<n:=by omega
 have h2:(0:Int)<=i:=by omega
 have h4:(0:Int)<=j:=by omega
 have HN:Hid (n=ys.length):=hn;clear hn
 cases hj:ys[j]? with
 |none =>
  have rA:decide (j<n)=false:=decide_eq_false (by have:=List.getElem?_eq_none_iff.1 hj;have:=HN.out;omega);clear bB h hj hi hv
  simp only
  go_enter func228,ntmps228
  go_wp2_with fail
  go_quiet (fail)
  go_wp2_with fail
  go_ret
  exact⟨rfl,xrm (Below.refl _ _) _⟩
 |some b =>
  obtain⟨g',av,dd,_,_,_,_,cj,fj⟩:=h.get hj;rw[hv]at dd;injection dd with e1 _ e3;injection e1 with e1;injection e1 with e1;subst e1 e3;have i_:(j:Int)<n:=by have:=(xr0.1 hj).1;have:=HN.out;omega
  have rA:decide ((j:Int)<n)=true:=decide_eq_true i_;have fu:=fun W hW=>bB W hW b hj
  unfold nptr at ci cj fu;clear bB h hi hj hv
  simp only
  generalize lt b a=t at fu ⊢
  go_enter func228,ntmps228
  go_upto_region 1 with fail
  go_cut [34] from 7 (fun q wx=>q=.bool t/\Below w.heap.size w wx)
  case first =>
   go_region_held3 (fun w'=>w'.cell? ⟨hb,0,none⟩=some (.func (.func 168) #[] #[])/\w'.cell? ⟨hb,1,none⟩=some (.slice (some ⟨g,0,none⟩) n cap)/\w'.cell? ⟨g,i,none⟩=some (.pointer (some ⟨a.blk,0,none⟩))/\w'.cell? ⟨g,j,none⟩=some (.pointer (some ⟨b.blk,0,none⟩))) (go_keep)
    (first
    |(go_at_call 168;refine(fu _ ?_).mono ?_;(focus exact bel2);rintro e w1 ⟨rfl,aa⟩;have au:Below w.heap.size w w1:=qab (by exact bel2) aa;have r0:=(au.cell (p:=⟨hb,0,none⟩) ak).trans c0;have r1:=(au.cell (p:=⟨hb,1,none⟩) ak).trans c1;have r2:=(au.cell (p:=⟨g,i,none⟩) bK).trans ci;have r3:=(au.cell (p:=⟨g,j,none⟩) bK).trans cj))
   all_goals go_wp2_with fail
   go_meet
   exact⟨rfl,au⟩
  case rest =>
   obtain⟨rfl,dF⟩:=hcut
   cases t
   ·go_wp2_with fail
    go_ret
    exact⟨rfl,dF⟩
   ·go_wp2_with fail
    go_ret
    exact⟨rfl,dF⟩
theorem quo2(k:Nat)(hk:0<k):((k:Int)-1).tdiv 2=((k-1) / 2:Nat):=by
 obtain⟨m,rfl⟩:∃m,k=m+1:=⟨k-1,by omega⟩;simp only[Nat.add_sub_cancel];rw[show((m+1:Nat):Int)-1=(m:Int) by omega]
 rfl
def Befs (w:World)(T:Nat->Prop)(ys:List Pw)(lt:Pw->Pw->Bool):Prop :=
 ∀W,Keep T w W->∀a∈ys,∀b∈ys,Calls prog 168 #[nptr a.blk,nptr b.blk] W fun e w'=>e=.returned (.bool (lt a b))/\Below W.heap.size W w'
theorem qx2{ys:List Pw}{lt:Pw->Pw->Bool}(O:Ord lt)(h:HpAt w hb (.func (.func 168) #[] #[]) v ys)(hl:ys.length<=100)(hk:k<ys.length)(hU:qgi lt ys k)(bB:Befs w (fun y=>v.ownBlock=some y) ys lt):
  Calls prog 227 #[.pointer (some ⟨hb,0,none⟩),.int .i64 k] w fun e w'=>e=.returned (.tuple #[])/\∃zs,zs.Perm ys/\qb2 lt zs/\HpAt w' hb (.func (.func 168) #[] #[]) v zs/\Keep (fun y=>v.ownBlock=some y) w w':=by
 have ak:=h.at_.lt;obtain⟨T,hT⟩:∃T:Nat->Prop,T=fun y=>v.ownBlock=some y:=⟨_,rfl⟩
 rw[<-hT]at bB ⊢;have HT:Hid (T=fun y=>v.ownBlock=some y):=hT;clear hT
 go_enter func227,ntmps227
 go_wp2_with fail
 go_loopg [1] k (fun q vk wr=>∃(j:Nat) (zs:List Pw),vk=.int .i64 j/\j<=q/\j<zs.length/\zs.Perm ys/\qgi lt zs j/\HpAt wr hb (.func (.func 168) #[] #[]) v zs/\Keep T w wr)
 case atStart=>exact⟨k,ys,rfl,Nat.le_refl _,hk,List.Perm.refl _,hU,h,Keep.refl _ _⟩
 case round =>
  clear h hU hk;obtain⟨j,zs,rfl,wD,fE,aN,hU,hH,hK⟩:=hrel;have iI:zs.length<=100:=by rw[aN.length_eq];exact hl
  by_cases hj0:j=0
  ·subst hj0;have aV:=hU.zero;have HE:Hid (qb2 lt zs):=aV;clear aV hU
   go_wp2_with fail
   go_end0
   exact⟨rfl,zs,aN,HE.out,hH,hK⟩
  ·obtain⟨a,ha⟩:∃a,zs[j]?=some a:=⟨_,xr1 fE⟩;obtain⟨b,ct⟩:∃b,zs[(j-1) / 2]?=some b:=⟨_,xr1 (by omega)⟩;have pd:=quo2 j (by omega);obtain⟨p,hp⟩:∃p,p=(j-1) / 2:=⟨_,rfl⟩;rw[<-hp]at ct pd;have mo:p<j:=by omega
   have HP:Hid (p=(j-1) / 2):=hp;clear hp;obtain⟨g,cap,hv,bK,iW,cS,fl,ci,fi⟩:=hH.get ha;obtain⟨g',av,dd,_,_,_,_,cj,fj⟩:=hH.get ct;rw[hv]at dd;injection dd with e1 _ e3;injection e1 with e1;injection e1 with e1;subst e1 e3;have c0:=hH.at_.cell 0;have c1:=hH.at_.cell 1;have rm:=hH.at_.lt;simp only[xq0,xq1,xq2]at c0 c1;rw[hv]at c1;have ik:=aN.mem_iff.1 (xr2 ha);have vL:=aN.mem_iff.1 (xr2 ct);have fu:=fun W (hW:Below wr.heap.size wr W)=>bB W (hK.trans (Keep.new hW)) a ik b vL
   have jv:=fun W (hW:Below wr.heap.size wr W)=>quc (hH.below hW) iI ha ct (by omega)
   obtain⟨n,hn⟩:∃n,n=zs.length:=⟨_,rfl⟩;rw[<-hn]at c1 cS fE iI;have HN:Hid (n=zs.length):=hn;have HV:Hid (v=.slice (some ⟨g,0,none⟩) zs.length cap):=hv;have mY:(j:Int)<n:=by omega
   have rz:(0:Int)<=j:=by omega
   have BS:(0:Int)<j:=by omega
   have lA:(p:Int)<n:=by omega
   have mm:(0:Int)<=p:=by omega
   unfold nptr at ci cj fu;have HH:Hid (HpAt wr hb (.func (.func 168) #[] #[]) v zs):=hH;have HA:Hid (zs[j]?=some a/\zs[p]?=some b):=⟨ha,ct⟩;clear hn hv ha ct hH hj0;generalize hlt0:lt a b=t at fu;have qi:Hid (lt a b=t):=hlt0;clear hlt0
   go_upto_region 2 with fail
   go_cut [29] from 5 to 34 (fun q wx=>q=.bool (!t)/\Below wr.heap.size wr wx)
   case first =>
    go_region_held3 (fun w'=>w'.cell? ⟨hb,0,none⟩=some (.func (.func 168) #[] #[])/\w'.cell? ⟨hb,1,none⟩=some (.slice (some ⟨g,0,none⟩) n cap)/\w'.cell? ⟨g,j,none⟩=some (.pointer (some ⟨a.blk,0,none⟩))/\w'.cell? ⟨g,p,none⟩=some (.pointer (some ⟨b.blk,0,none⟩))) (go_keep)
     (first
     |(go_at_call 168;refine(fu _ ?_).mono ?_;(focus exact bel2);rintro e w1 ⟨rfl,aa⟩;have au:Below wr.heap.size wr w1:=qab (by exact bel2) aa;have r0:=(au.cell (p:=⟨hb,0,none⟩) rm).trans c0;have r1:=(au.cell (p:=⟨hb,1,none⟩) rm).trans c1;have r2:=(au.cell (p:=⟨g,j,none⟩) bK).trans ci;have r3:=(au.cell (p:=⟨g,p,none⟩) bK).trans cj))
    all_goals go_wp2_with fail
    go_meet
    exact⟨rfl,au⟩
   case rest =>
    obtain⟨rfl,dF⟩:=hcut;clear c0 c1 ci cj fi fj fu
    cases t
    ·have aV:=hU.stop HA.out.1 (by rw[<-HP.out];exact HA.out.2) qi.out;have HE:Hid (qb2 lt zs):=aV;clear aV hU
     go_wp2_with fail
     exact xrn (v:=.tuple #[]) (by simp[results,results227,go_sem]) rfl ⟨rfl,zs,aN,HE.out,HH.out.below dF,hK.trans (Keep.new dF)⟩
    ·go_wp2_with fail
     refine(jv _ dF).mono ?_
     rintro e w3 ⟨rfl,oe,eH⟩
     have vy:qgi lt (swp zs j p a b) p:=by
      have:=hU.step O (by omega) HA.out.1 (by rw[<-HP.out];exact HA.out.2) qi.out
      rw[<-HP.out]at this
      exact this
     have eh:(swp zs j p a b).Perm ys:=(qij (by omega) HA.out.1 HA.out.2).trans aN;have lZ:Keep T w w3:=(hK.trans (Keep.new dF)).trans (by rw[HT.out];exact eH);clear jv hU
     go_wp2_with fail
     go_roundg p
     case measure=>omega
     case rel=>exact⟨p,swp zs j p a b,rfl,Nat.le_refl _,by rw[qlx,<- HN.out];omega,eh,vy,oe,lZ⟩
def fo {α : Type}(lt : α -> α -> Bool)(zs:List α)(a : α)(i j:Nat):Nat:=match zs[j]? with|some b=>if lt b a then j else i|none=>i
theorem qkt{α : Type}{lt : α -> α -> Bool}(O:Ord lt){zs:List α}{a a1 : α}(h:qb8 lt zs k)(ha:zs[k]?=some a)(fk:zs[fo lt zs a k (2*k+1)]?=some a1):
  (fo lt zs a1 (fo lt zs a k (2*k+1)) (2*k+2)=k/\qb2 lt zs) \/
  (fo lt zs a1 (fo lt zs a k (2*k+1)) (2*k+2)≠k/\∃b,zs[fo lt zs a1 (fo lt zs a k (2*k+1)) (2*k+2)]?=some b/\k<fo lt zs a1 (fo lt zs a k (2*k+1)) (2*k+2)/\qb8 lt (swp zs k (fo lt zs a1 (fo lt zs a k (2*k+1)) (2*k+2)) a b) (fo lt zs a1 (fo lt zs a k (2*k+1)) (2*k+2))):=by
 unfold fo at *
 cases h1:zs[2*k+1]? with
 |none =>
  rw[h1]at fk
  simp only at fk ⊢
  rw[ha]at fk;cases fk;have h2:zs[2*k+2]?=none:=List.getElem?_eq_none_iff.2 (by have:=List.getElem?_eq_none_iff.1 h1;omega);rw[h2]
  simp only
  exact .inl ⟨trivial,h.stop ha (fun b hb=>by rw[h1]at hb;cases hb) (fun b hb=>by rw[h2]at hb;cases hb)⟩
 |some c1 =>
  rw[h1]at fk
  simp only at fk ⊢
  cases jI:lt c1 a with
  |false =>
   rw[jI]at fk;simp only[Bool.false_eq_true,if_false]at fk ⊢;rw[ha]at fk;cases fk
   cases h2:zs[2*k+2]? with
   |none =>
    simp only
    exact .inl ⟨trivial,h.stop ha (fun b hb=>by rw[h1]at hb;cases hb;exact jI) (fun b hb=>by rw[h2]at hb;cases hb)⟩
   |some c2 =>
    simp only
    cases fZ:lt c2 a with
    |false =>
     simp only[Bool.false_eq_true,if_false]
     exact .inl ⟨trivial,h.stop ha (fun b hb=>by rw[h1]at hb;cases hb;exact jI) (fun b hb=>by rw[h2]at hb;cases hb;exact fZ)⟩
    |true =>
     simp only[if_true]
     refine .inr ⟨by omega,c2,h2,by omega,h.step O (.inr rfl) ha h2 fZ (fun c x hc hx aW=>?_)⟩
     have fw:c=2*k+1:=by omega
     subst fw;rw[h1]at hx;cases hx
     exact O.trans _ _ _ jI (O.asymm _ _ fZ)
  |true =>
   rw[jI]at fk;simp only[if_true]at fk ⊢;have cS:c1=a1:=by rw[h1]at fk;injection fk
   subst cS
   cases h2:zs[2*k+2]? with
   |none =>
    simp only
    refine .inr ⟨by omega,c1,h1,by omega,h.step O (.inl rfl) ha h1 jI (fun c x hc hx aW=>?_)⟩
    have fw:c=2*k+2:=by omega
    subst fw;rw[h2]at hx;cases hx
   |some c2 =>
    simp only
    cases fZ:lt c2 c1 with
    |false =>
     simp only[Bool.false_eq_true,if_false]
     refine .inr ⟨by omega,c1,h1,by omega,h.step O (.inl rfl) ha h1 jI (fun c x hc hx aW=>?_)⟩
     have fw:c=2*k+2:=by omega
     subst fw;rw[h2]at hx;cases hx
     exact fZ
    |true =>
     simp only[if_true];have oQ:lt c2 a=true:=by
      cases hh:lt c2 a with
      |true=>rfl
      |false =>
       have:=O.trans _ _ _ hh (O.asymm _ _ jI)
       rw[fZ]at this;cases this
     refine .inr ⟨by omega,c2,h2,by omega,h.step O (.inr rfl) ha h2 oQ (fun c x hc hx aW=>?_)⟩
     have fw:c=2*k+1:=by omega
     subst fw;rw[h1]at hx;cases hx
     exact O.asymm _ _ fZ
theorem qys{α : Type}(lt : α -> α -> Bool)(zs:List α)(a : α)(hi:i<zs.length):fo lt zs a i j<zs.length:=by
 unfold fo
 cases h:zs[j]? with
 |none=>exact hi
 |some b =>
  simp only
  split
  ·exact(xr0.1 h).1
  ·exact hi
theorem qqm{ys:List Pw}(h:HpAt w hb (.func (.func 168) #[] #[]) v ys)(hl:ys.length<=100){a:Pw}(hi:ys[i]?=some a)(k_:j<=1000)(lt:Pw->Pw->Bool)
  (bB:Befs w (fun y=>v.ownBlock=some y) ys lt) :
  Calls prog 228 #[.pointer (some ⟨hb,0,none⟩),.int .i64 i,.int .i64 j] w fun e w'=>e=.returned (.int .i64 (fo lt ys a i j))/\Below w.heap.size w w':=by
 refine(qqo h hl hi k_ lt (fun W hW b hb=>bB W (Keep.new hW) b (xr2 hb) a (xr2 hi))).mono ?_
 rintro e w' ⟨rfl,hB⟩
 refine⟨?_,hB⟩
 unfold fo
 cases ys[j]? with
 |none=>rfl
 |some b=>simp only;split<;>rfl
theorem Befs.keep{ys:List Pw}{lt:Pw->Pw->Bool}(h:Befs w T ys lt)(hk:Keep T w w'):Befs w' T ys lt:=fun W hW=>h W (hk.trans hW)
theorem Befs.perm{ys:List Pw}{lt:Pw->Pw->Bool}(h:Befs w T ys lt)(hp:zs.Perm ys):Befs w T zs lt:=fun W hW a ha b hb=>h W hW a (hp.mem_iff.1 ha) b (hp.mem_iff.1 hb)
theorem qx5{ys:List Pw}{lt:Pw->Pw->Bool}(O:Ord lt)(h:HpAt w hb (.func (.func 168) #[] #[]) v ys)(hl:ys.length<=100)(hk:k<ys.length)(hU:qb8 lt ys k)(bB:Befs w (fun y=>v.ownBlock=some y) ys lt):
  Calls prog 209 #[.pointer (some ⟨hb,0,none⟩),.int .i64 k] w fun e w'=>e=.returned (.tuple #[])/\∃zs,zs.Perm ys/\qb2 lt zs/\HpAt w' hb (.func (.func 168) #[] #[]) v zs/\Keep (fun y=>v.ownBlock=some y) w w':=by
 obtain⟨T,hT⟩:∃T:Nat->Prop,T=fun y=>v.ownBlock=some y:=⟨_,rfl⟩
 have oH:=fun (W:World) (zs:List Pw) (i j:Nat) (a:Pw) (hH:HpAt W hb (.func (.func 168) #[] #[]) v zs) (iI:zs.length<=100) (hi:zs[i]?=some a) (k_:j<=1000) (bh:Befs W T zs lt)=>qqm hH iI hi k_ lt (by rw[<-hT];exact bh)
 rw[<-hT]at bB ⊢;have HT:Hid (T=fun y=>v.ownBlock=some y):=hT;clear hT;obtain⟨N,hN⟩:∃N,N=ys.length:=⟨_,rfl⟩;have HN:Hid (N=ys.length):=hN;rw[<-hN]at hl;clear hN
 go_enter func209,ntmps209
 go_wp2_with fail
 go_loopg [1] N (fun q vk wr=>∃(j:Nat) (zs:List Pw),vk=.int .i64 j/\N<=q+j/\j<N/\zs.Perm ys/\qb8 lt zs j/\HpAt wr hb (.func (.func 168) #[] #[]) v zs/\Keep T w wr)
 case atStart=>exact⟨k,ys,rfl,by omega,by rw[HN.out];exact hk,List.Perm.refl _,hU,h,Keep.refl _ _⟩
 case round =>
  clear h hU hk;obtain⟨j,zs,rfl,wD,fE,aN,hU,hH,hK⟩:=hrel;have sK:zs.length=N:=by rw[HN.out];exact aN.length_eq
  have iI:zs.length<=100:=by omega
  obtain⟨a,ha⟩:∃a,zs[j]?=some a:=⟨_,xr1 (by omega)⟩;obtain⟨f1,hZ⟩:∃f1,f1=fo lt zs a j (2*j+1):=⟨_,rfl⟩;have kW:f1<zs.length:=by rw[hZ];exact qys lt zs a (by omega)
  obtain⟨a1,fk⟩:∃a1,zs[f1]?=some a1:=⟨_,xr1 kW⟩;obtain⟨f2,iu⟩:∃f2,f2=fo lt zs a1 f1 (2*j+2):=⟨_,rfl⟩;have cv:=qkt O hU ha (by rw[<-hZ];exact fk);rw[<-hZ,<- iu]at cv;have mO:=(bB.keep hK).perm aN;have c1:=oH wr zs j (2*j+1) a hH iI ha (by omega) mO;rw[<-hZ]at c1;have c2:=fun W (hW:Below wr.heap.size wr W)=>oH W zs f1 (2*j+2) a1 (hH.below hW) iI fk (by omega) (mO.keep (Keep.new hW))
  rw[<-iu]at c2;have e1:((2*j+1:Nat):Int)=2*(j:Int)+1:=by omega
  have e2:((2*j+2:Nat):Int)=2*(j:Int)+2:=by omega
  rw[e1]at c1;rw[e2]at c2;have HC:Hid (f2=j/\qb2 lt zs\/(f2≠j/\∃b,zs[f2]?=some b/\j<f2/\qb8 lt (swp zs j f2 a b) f2)):=cv;have HA:Hid (zs[j]?=some a):=ha;have HH:Hid (HpAt wr hb (.func (.func 168) #[] #[]) v zs):=hH;have uF:Hid (zs.length=N):=sK;clear cv ha fk hZ iu oH hU e1 e2 hH sK mO kW;have mY:(0:Int)<=j:=by omega
  have rz:(j:Int)<=100:=by omega
  go_wp2_with fail
  refine c1.mono ?_
  rintro e w1 ⟨rfl,aa⟩
  go_wp2_with fail
  refine(c2 _ aa).mono ?_
  rintro e w2 ⟨rfl,ag⟩
  have aP:Below wr.heap.size wr w2:=qab aa ag;clear c1 c2 aa ag
  rcases HC.out with ⟨hf,iA⟩|⟨hf,b,mM,BT,hD⟩
  ·have HE:Hid (qb2 lt zs):=iA;clear iA;subst hf
   go_wp2_with fail
   exact xrn (v:=.tuple #[]) (by simp[results,results209,go_sem]) rfl ⟨rfl,zs,aN,HE.out,HH.out.below aP,hK.trans (Keep.new aP)⟩
  ·have kX:((f2:Int) == (j:Int))=false:=by simp;omega
   have jv:=quc (HH.out.below aP) iI HA.out mM (by omega);have eh:(swp zs j f2 a b).Perm ys:=(qij (by omega) HA.out mM).trans aN;have oG:f2<N:=by have:=(xr0.1 mM).1;have:=uF.out;omega
   have HD:Hid (qb8 lt (swp zs j f2 a b) f2):=hD;clear hD mM hf
   go_wp2_with fail
   refine jv.mono ?_
   rintro e w3 ⟨rfl,oe,eH⟩
   have lZ:Keep T w w3:=(hK.trans (Keep.new aP)).trans (by rw[HT.out];exact eH);clear jv
   go_wp2_with fail
   go_roundg (N-f2)
   case measure=>omega
   case rel=>exact⟨f2,swp zs j f2 a b,rfl,by omega,oG,eh,HD.out,oe,lZ⟩
theorem i91a:(prog.info? 95).map (fun i=>(i.size,i.bytes))=some (1,8):=by kernel_rfl
theorem i91b:(prog.info? 95).bind (fun i=>i.zero)=some (.pointer none):=by kernel_rfl
theorem qxo:qfa 95 1 8:=qge i91a i91b rfl
theorem un94:prog.underlying 98=some (.slice 95):=by kernel_rfl
theorem HpAt.form{ys:List Pw}(h:HpAt W hb f v ys):∃a cap,v=.slice a ys.length cap/\ys.length<=cap/\cap<=maxLen:=by
 rcases h.row.2 with ⟨rfl,h0⟩|⟨g,cap,aH,rfl,_,_,h1,h2,_⟩
 ·exact⟨none,0,by rw[h0],by omega,Nat.zero_le _⟩
 ·exact⟨_,cap,rfl,h1,h2⟩
theorem Keep.qbm(h:Keep T w W)(hk:Keep T' W W')(hs:∀b,b<w.heap.size->T' b->T b):Keep T w W' :=
 ⟨hk.os.trans h.os,hk.tape.trans h.tape,hk.output.trans h.output,Nat.le_trans h.size hk.size,fun k cf ht=>(hk.block k (xrg cf h.size) (fun e=>ht (hs k cf e))).trans (h.block k cf ht)⟩
theorem qxz{ys:List Pw}{lt:Pw->Pw->Bool}(O:Ord lt)(h:HpAt w hb (.func (.func 168) #[] #[]) v ys)(hl:ys.length<=50)(hU:qb2 lt ys)(p:Pw)(bB:Befs w (fun y=>y=hb\/v.ownBlock=some y) (ys++[p]) lt):
  Calls prog 208 #[.pointer (some ⟨hb,0,none⟩),nptr p.blk] w fun e w'=>e=.returned (.tuple #[])/\∃v' zs,zs.Perm (ys++[p])/\qb2 lt zs/\HpAt w' hb (.func (.func 168) #[] #[]) v' zs/\Keep (fun y=>y=hb\/v.ownBlock=some y) w w'/\(v'.ownBlock=v.ownBlock\/∃g,v'.ownBlock=some g/\w.heap.size<=g):=by
 have ak:=h.at_.lt;have c1:=h.at_.cell 1;simp only[xq0,xq1,xq2]at c1;have bj:Below w.heap.size w (w.alloc (.cells #[nptr p.blk] 95)):=by exact bel2
 have mG:=h.below bj;have cB:=qey un94 qxo (by omega) (w.alloc (.cells #[nptr p.blk] 95)) v ys.length (qa0 ys) mG.row w.heap.size 1 1 (by omega) [nptr p.blk] rfl (Blk.new w 95 _) (fun u hu=>by simp at hu;subst hu;rfl) (by unfold maxLen;omega) (by omega);have aK:∀g' av w',AppR (w.alloc (.cells #[nptr p.blk] 95)) v.ownBlock 95 1 (ys.length+1) (qa0 ys++[nptr p.blk]) g' av w'->Blk w' hb 247 #[.func (.func 168) #[] #[],v]/\HpAt (w'.setCell ⟨hb,1,none⟩ (.slice (some ⟨g',0,none⟩) (ys.length+1) av)) hb (.func (.func 168) #[] #[]) (.slice (some ⟨g',0,none⟩) (ys.length+1) av) (ys++[p])/\Keep (fun y=>y=hb\/v.ownBlock=some y) w (w'.setCell ⟨hb,1,none⟩ (.slice (some ⟨g',0,none⟩) (ys.length+1) av))/\(v.ownBlock=some g'\/w.heap.size<=g'):=fun g' av w' R=>by
  have bh:=mG.at_.keep R.keep h.ne;have cd:g'≠hb:=fun e=>by
   rcases R.new with e2|e2
   ·rw[e]at e2;exact h.ne e2
   ·simp at e2;omega
  refine⟨bh,⟨?_,?_,?_⟩,?_,?_⟩
  ·have:=bh.set 1 (.slice (some ⟨g',0,none⟩) (ys.length+1) av)
   simpa using this
  ·have:qa0 (ys++[p])=qa0 ys++[nptr p.blk]:=by simp[qa0]
   rw[this,show(ys++[p]).length=ys.length+1 by simp]
   exact xrl R.own (by simp[Value.ownBlock];exact cd) _
  ·simp[Value.ownBlock];exact cd
  ·exact(((Keep.new (T:=fun y=>y=hb\/v.ownBlock=some y) bj).qbm R.keep (fun b _ e=>.inr e))).setCell (p:=⟨hb,1,none⟩) (.inl rfl) _
  ·exact R.new.imp id (fun e=>by simp at e;omega)
 have fJ:=fun g' av W (hW:HpAt W hb (.func (.func 168) #[] #[]) (.slice (some ⟨g',0,none⟩) (ys.length+1) av) (ys++[p])) (hk:Keep (fun y=>y=hb\/v.ownBlock=some y) w W) (hn:v.ownBlock=some g'\/w.heap.size<=g') =>
  qx2 (k:=ys.length) O hW (by simp;omega) (by simp) (hU.push p) (fun W2 du=>bB W2 (hk.qbm du (fun b ag e=>by
   simp[Value.ownBlock]at e
   subst e
   rcases hn with e|e
   ·exact .inr e
   ·omega)))
 obtain⟨a0,cy,hv,dn,ia⟩:=h.form;obtain⟨n,hn⟩:∃n,n=ys.length:=⟨_,rfl⟩;rw[<-hn]at cB aK fJ hl hv dn;have HV:Hid (v=.slice a0 n cy):=hv;clear h mG hU bB hn hv;unfold nptr at cB ⊢;generalize mr:qa0 ys=pp at cB aK;clear mr
 go_enter func208,ntmps208
 go_wp2_with (at_builtin;refine qbd (by rfl) _ _ _ _ rfl _ _ rfl (by rfl) cB ?_;rintro v1 w1 ⟨g1,q1,rfl,R1⟩;obtain⟨aa,mH,dD,dH⟩:=aK _ _ _ R1;have f1:=aa.frozen 1;have fw:=aa.cell 1;have dV:=R1.le;have gU:=R1.mx;simp only[xq0,xq1,xq2]at fw)
 refine(fJ _ _ _ mH dD dH).mono ?_
 rintro e w2 ⟨rfl,zs,hp,hh,mI,dN⟩
 have eH:Keep (fun y=>y=hb\/v.ownBlock=some y) w w2:=dD.qbm dN (fun b ag e=>by
  simp[Value.ownBlock]at e
  subst e
  rcases dH with e|e
  ·exact .inr e
  ·omega)
 have cn:(Value.slice (some ⟨g1,0,none⟩) (n+1) q1).ownBlock=v.ownBlock\/∃g,(Value.slice (some ⟨g1,0,none⟩) (n+1) q1).ownBlock=some g/\w.heap.size<=g:=by
  rcases dH with e|e
  ·left;rw[e];rfl
  ·exact .inr ⟨g1,rfl,e⟩
 clear fJ aK cB
 go_wp2_with fail
 go_end0
 exact⟨rfl,_,zs,hp,hh,mI,eH,cn⟩
theorem qlv{g n:Nat}(h:W.ownsRow 0 e 1 (.slice (some ⟨g,0,none⟩) n cap) n xs){m:Nat}(hm:m<=n):W.ownsRow 0 e 1 (.slice (some ⟨g,0,none⟩) m cap) m (xs.take m):=by
 obtain⟨hl,hr⟩:=h
 rcases hr with ⟨hv,_⟩|⟨g',av,aH,hv,hb,hg,h1,h2,h3,h4⟩
 ·cases hv
 ·injection hv with e1 _ e3;injection e1 with e1;injection e1 with e1;subst e1 e3
  refine⟨by simp at hl ⊢;omega,.inr ⟨g,cap,aH,rfl,hb,hg,by omega,h2,h3,?_⟩⟩
  rw[<-h4,List.take_take]
  congr 1
  omega
theorem qhx{ys:List Pw}(h:HpAt w hb f v ys)(hl:ys.length<=100)(hj:ys.length<=j)(k_:j<=1000):
  Calls prog 228 #[.pointer (some ⟨hb,0,none⟩),.int .i64 i,.int .i64 j] w fun e w'=>e=.returned (.int .i64 i)/\Below w.heap.size w w':=by
 obtain⟨a0,cap,hv,cS,fl⟩:=h.form;have c1:=h.at_.cell 1;have ak:=h.at_.lt;simp only[xq0,xq1,xq2]at c1;rw[hv]at c1;obtain⟨n,hn⟩:∃n,n=ys.length:=⟨_,rfl⟩;rw[<-hn]at c1 cS hl hj;have rA:decide (j<n)=false:=decide_eq_false (by omega);have h4:(0:Int)<=j:=by omega
 clear h hv hn hj
 go_enter func228,ntmps228
 go_wp2_with fail
 go_quiet (fail)
 go_wp2_with fail
 go_ret
 exact⟨rfl,xrm (Below.refl _ _) _⟩
theorem qwd(h:HpAt w hb f v []):
  Calls prog 209 #[.pointer (some ⟨hb,0,none⟩),.int .i64 0] w fun e w'=>e=.returned (.tuple #[])/\Below w.heap.size w w':=by
 have c1:=qhx (i:=0) (j:=1) h (by simp) (by simp) (by omega);have c2:=fun W (hW:Below w.heap.size w W)=>qhx (i:=0) (j:=2) (h.below hW) (by simp) (by simp) (by omega)
 have ak:=h.at_.lt;simp only[Int.cast_ofNat_Int,Int.natCast_zero]at c1 c2;clear h
 go_enter func209,ntmps209
 go_wp2_with fail
 refine wp_loop_rounds 1 ?_
 rw[rounds_succ]
 go_wp2_with fail
 refine c1.mono ?_
 rintro e w1 ⟨rfl,aa⟩
 go_wp2_with fail
 refine(c2 _ aa).mono ?_
 rintro e w2 ⟨rfl,ag⟩
 go_wp2_with fail
 exact xrn (v:=.tuple #[]) (by simp[results,results209,go_sem]) rfl ⟨rfl,qab aa ag⟩
def PopR (hb:Nat)(v:Value)(ys:List Pw)(lt:Pw->Pw->Bool)(w:World)(e:Ending)(w':World):Prop :=
 (ys=[]/\e=.returned (.tuple #[.pointer none,.bool false])/\w'=w) \/
 (∃(a:Pw) (v':Value) (zs:List Pw),ys[0]?=some a/\e=.returned (.tuple #[nptr a.blk,.bool true])/\(a::zs).Perm ys/\qb2 lt zs/\HpAt w' hb (.func (.func 168) #[] #[]) v' zs/\Keep (fun y=>y=hb\/v.ownBlock=some y) w w'/\v'.ownBlock=v.ownBlock)
theorem qzm{ys:List Pw}{lt:Pw->Pw->Bool}(O:Ord lt)(h:HpAt w hb (.func (.func 168) #[] #[]) v ys)(hl:ys.length<=100)(hU:qb2 lt ys)(bB:Befs w (fun y=>y=hb\/v.ownBlock=some y) ys lt):
  Calls prog 171 #[.pointer (some ⟨hb,0,none⟩)] w (PopR hb v ys lt w):=by
 have ak:=h.at_.lt;have c1:=h.at_.cell 1;simp only[xq0,xq1,xq2]at c1
 by_cases h0:ys=[]
 ·subst h0;obtain⟨a0,cy,hv,dn,ia⟩:=h.form;rw[hv]at c1;simp only[List.length_nil]at c1;clear bB hU
  go_enter func171,ntmps171
  go_wp2_with fail
  exact xrn (v:=.tuple #[.pointer none,.bool false]) (by simp[results,results171,go_sem]) rfl (.inl ⟨rfl,rfl,rfl⟩)
 ·have dC:0<ys.length:=by cases ys with|nil=>exact absurd rfl h0|cons _ _=>simp
  obtain⟨a,ha⟩:∃a,ys[0]?=some a:=⟨_,xr1 dC⟩;obtain⟨b,dk⟩:∃b,ys[ys.length-1]?=some b:=⟨_,xr1 (by omega)⟩;obtain⟨g,cap,hv,bK,iW,cS,fl,ca,fa⟩:=h.get ha;obtain⟨g',av,dd,_,_,_,_,cb,fb⟩:=h.get dk;rw[hv]at dd;injection dd with e1 _ e3;injection e1 with e1;injection e1 with e1;subst e1 e3;rw[hv]at c1;have f1:=h.at_.frozen 1;have eQ:¬(hb=g):=fun e=>iW e.symm
  obtain⟨m,hm⟩:∃m,ys.length=m+1:=⟨ys.length-1,by omega⟩;have eE:ys.length-1=m:=by omega
  rw[eE]at cb fb dk;have ax:∀(nq:Nat) (W:World),W=((((w.drewN nq).setCell ⟨g,0,none⟩ (nptr b.blk)).setCell ⟨g,m,none⟩ (.pointer none)).setCell ⟨hb,1,none⟩ (.slice (some ⟨g,0,none⟩) m cap))->HpAt W hb (.func (.func 168) #[] #[]) (.slice (some ⟨g,0,none⟩) m cap) ((ys.set 0 b).take m)/\Keep (fun y=>y=hb\/v.ownBlock=some y) w W:=by
   rintro nq W rfl
   refine⟨⟨?_,?_,?_⟩,?_⟩
   ·have:=(((h.at_.drewN nq).other ⟨g,0,none⟩ (nptr b.blk) eQ).other ⟨g,m,none⟩ (.pointer none) eQ).set 1 (.slice (some ⟨g,0,none⟩) m cap)
    simpa using this
   ·have aS:=h.row;rw[hv]at aS;have r1:=((aS.stored 0 (nptr b.blk)).1.stored m (.pointer none)).1;have r2:=qlv r1 (m:=m) (by omega);have r3:=xrl r2 (a:=⟨hb,1,none⟩) (by simp[Value.ownBlock];exact iW) (.slice (some ⟨g,0,none⟩) m cap);have a9:((ys.set 0 b).take m).length=m:=by simp;omega
    rw[a9];have mr:qa0 ((ys.set 0 b).take m)=(((qa0 ys).set 0 (nptr b.blk)).set m (.pointer none)).take m:=by
     have e1:(((qa0 ys).set 0 (nptr b.blk)).set m (.pointer none)).take m=((qa0 ys).set 0 (nptr b.blk)).take m:=List.take_set_of_le (Nat.le_refl m);rw[e1]
     simp[qa0,List.map_set,List.map_take]
    rw[mr]
    exact r3
   ·simp[Value.ownBlock];exact iW
   ·have hT:v.ownBlock=some g:=by rw[hv];rfl
    exact((((Keep.refl _ _).drewN nq).setCell (p:=⟨g,0,none⟩) (.inr hT) _).setCell (p:=⟨g,m,none⟩) (.inr hT) _).setCell (p:=⟨hb,1,none⟩) (.inl rfl) _
  have hD:qb8 lt ((ys.set 0 b).take m) 0:=by rw[<-eE];exact hU.pop b
  have kF:(a::(ys.set 0 b).take m).Perm ys:=by rw[<-eE];exact qpn ha (by rw[eE];exact dk)
  have aD:∀x∈(ys.set 0 b).take m,x∈ys:=fun x hx=>kF.mem_iff.1 (xru _ hx)
  have da:∀(nq:Nat) (W:World),W=((((w.drewN nq).setCell ⟨g,0,none⟩ (nptr b.blk)).setCell ⟨g,m,none⟩ (.pointer none)).setCell ⟨hb,1,none⟩ (.slice (some ⟨g,0,none⟩) m cap))->Calls prog 209 #[.pointer (some ⟨hb,0,none⟩),.int .i64 0] W fun e w'=>e=.returned (.tuple #[])/\PopR hb v ys lt w (.returned (.tuple #[nptr a.blk,.bool true])) w':=fun nq W hW=>by
   obtain⟨hH,hK⟩:=ax nq W hW;have aG:(Value.slice (some ⟨g,0,none⟩) m cap).ownBlock=v.ownBlock:=by rw[hv];rfl
   by_cases hm0:m=0
   ·subst hm0;simp only[List.take_zero]at hH kF
    refine(qwd hH).mono ?_
    rintro e w' ⟨rfl,hB⟩
    exact⟨rfl,.inr ⟨a,_,[],ha,rfl,kF,fun j x y hj hx=>by simp at hx,hH.below hB,hK.trans (Keep.new hB),aG⟩⟩
   ·have a9:((ys.set 0 b).take m).length=m:=by simp;omega
    have hs:=qx5 (k:=0) O hH (by omega) (by omega) hD (fun W2 du x hx y hy=>bB W2 (hK.qbm du (fun k _ e=>.inr (by rw[<-aG];exact e))) x (aD x hx) y (aD y hy))
    refine hs.mono ?_
    rintro e w' ⟨rfl,zs,hp,hh,mI,dN⟩
    exact⟨rfl,.inr ⟨a,_,zs,ha,rfl,((hp.cons a).trans kF),hh,mI,hK.qbm dN (fun k _ e=>.inr (by rw[<-aG];exact e)),aG⟩⟩
  rw[hm]at c1 cS hl;have Cb:(0:Int)<=m:=by omega
  have BK:w.frozen? ⟨g,0,none⟩=false:=fa;unfold nptr at ca cb da;have HX:Hid (∀w',PopR hb v ys lt w (.returned (.tuple #[nptr a.blk,.bool true])) w'->PopR hb v ys lt w (.returned (.tuple #[nptr a.blk,.bool true])) w'):=fun _ e=>e
  have qe:Hid (m=0->b=a):=fun e=>by subst e;rw[ha]at dk;cases dk;rfl
  clear ax hD kF aD h bB hU hv ha dk h0 dC hm eE HX;generalize PopR hb v ys lt w=X at da ⊢
  by_cases hm0:m=0
  ·have g_:=qe.out hm0;subst hm0;subst g_;clear qe
   go_enter func171,ntmps171
   go_upto_region 4 with fail
   go_quiet (fail)
   go_wp2_with fail
   go_region
   all_goals go_wp2_with fail
   refine(da _ _ rfl).mono ?_
   rintro e w2 ⟨rfl,hX⟩
   go_wp2_with fail
   exact hX
  ·have wN:¬(0=m):=fun e=>hm0 e.symm
   go_enter func171,ntmps171
   go_upto_region 4 with fail
   go_quiet (fail)
   go_wp2_with fail
   go_region
   all_goals go_wp2_with fail
   refine(da _ _ rfl).mono ?_
   rintro e w2 ⟨rfl,hX⟩
   go_wp2_with fail
   exact hX
def ltP (a b:Pw):Bool:=Op.bytesLess (qaa a.x.key) (qaa b.x.key)
theorem qn9:Ord ltP:=⟨fun a b h=>qgm _ _ h,fun a b c h1 h2=>qfw _ _ _ h1 h2⟩
theorem qnm(T:Tree nodes)(hN:∀n∈nodes,qag w n){a b:Pw}(ha:PwIn w nodes a)(hb:PwIn w nodes b):
  Calls prog 168 #[nptr a.blk,nptr b.blk] w fun e w'=>e=.returned (.bool (ltP a b))/\Below w.heap.size w w':=by
 obtain⟨m,hm,ln,df⟩:=ha.leaf;obtain⟨k,hk,oP,lk⟩:=hb.leaf;have pU:=fun W (hW:Below w.heap.size w W)=>qig T _ m hm rfl W (fun n hn=>(hN n hn).below hW)
 have mn:=fun W (hW:Below w.heap.size w W)=>qig T _ k hk rfl W (fun n hn=>(hN n hn).below hW)
 have o7:=fun W (hW:Below w.heap.size w W)=>(ha.below hW).cells.2.1
 have vQ:=fun W (hW:Below w.heap.size w W)=>(hb.below hW).cells.2.1
 rw[ln,df]at pU;rw[oP,lk]at mn;have ak:Op.bytesLess (sb (qaa a.x.key)).toList (sb (qaa b.x.key)).toList=ltP a b:=by unfold ltP;rw[qb3,qb3,qbs,qbs]
 generalize ltP a b=t at ak ⊢;generalize sb (qaa a.x.key)=pa at pU ak;generalize sb (qaa b.x.key)=pb at mn ak;generalize a.blk=ab at *;generalize b.blk=bb at *;generalize a.q=aq at *;generalize b.q=bq at *;have x1:=o7 w (Below.refl _ _);have x2:=vQ w (Below.refl _ _);clear ln df oP lk ha hb hm hk;unfold nptr at pU mn ⊢
 go_enter func168,ntmps168
 go_upto_region 1 with fail
 go_region_held3 (fun w'=>w'.cell? ⟨ab,1,none⟩=some (.pointer (some ⟨aq,0,none⟩))/\w'.cell? ⟨bb,1,none⟩=some (.pointer (some ⟨bq,0,none⟩))) (go_keep)
  (first
  |(go_at_call_of 47 (Value.pointer (some ⟨aq,0,none⟩));refine(pU _ ?_).mono ?_;(focus exact bel2);rintro e w1 ⟨rfl,aa⟩;have au:Below w.heap.size w w1:=qab (by exact bel2) aa;have y1:=o7 _ au;have y2:=vQ _ au)
  |(go_at_call_of 47 (Value.pointer (some ⟨bq,0,none⟩));refine(mn _ ?_).mono ?_;(focus exact bel2);rintro e w2 ⟨rfl,ag⟩;have aP:Below w.heap.size w w2:=qab (by exact bel2) ag;have z1:=o7 _ aP;have z2:=vQ _ aP))
 all_goals go_wp2_with fail
 go_ret
 exact⟨rfl,aP⟩
theorem un91:prog.underlying 95=some (.pointer 105):=by kernel_rfl
theorem qz7:(prog.info? 105).map (fun i=>i.size)=some 4:=by kernel_rfl
theorem qxp:∃j,prog.info? 105=some j/\j.size≠0:=by
 have h:=qz7
 cases hi:prog.info? 105 with
 |none=>rw[hi]at h;cases h
 |some j=>rw[hi]at h;simp at h;exact⟨j,rfl,by omega⟩
theorem qym{x m:Pw}(hx:Blk W x.blk 105 x.cells)(hm:Blk W m.blk 105 m.cells):(binOp .eql 95 (.pointer (some ⟨x.blk,0,none⟩)) (.pointer (some ⟨m.blk,0,none⟩))).run prog W=.ok (.bool (x.blk == m.blk)) W:=by
 obtain⟨j,hj,hs⟩:=qxp
 by_cases h:x.blk=m.blk
 ·rw[h,beq_self_eq_true]
  exact run_eql_ptr_same _ _ un91 hj
 ·have hb:(x.blk == m.blk)=false:=by simp[h]
  rw[hb]
  exact run_eql_ptr_other _ un91 hj hs (fun e=>h (by injection e)) hx hm
theorem wo1{x:Pw}(hx:Blk w x.blk 105 x.cells)(hp:Blk w p.blk 105 p.cells)(hb:w.cell? ⟨bx,0,none⟩=some (nptr p.blk)):
  Calls prog 188 #[nptr x.blk,.pointer (some ⟨bx,0,none⟩)] w fun e w'=>e=.returned (.bool (x.blk == p.blk))/\w'=w:=by
 have gm:=qym hx hp;unfold nptr at hb ⊢
 go_enter func188,ntmps188
 go_wp2
 go_ret
 exact⟨rfl,rfl⟩
structure WRow (W:World) (v:Value) (l:List Pw):Prop where
 row:W.ownsRow 0 95 1 v l.length (qa0 l)
 works:∀p∈l,Blk W p.blk 105 p.cells
theorem WRow.at_(h:WRow W v l)(hi:l[i]?=some p):∃g cap,v=.slice (some ⟨g,0,none⟩) l.length cap/\g<W.heap.size/\l.length<=cap/\cap<=maxLen/\W.cell? ⟨g,i,none⟩=some (nptr p.blk):=by
 obtain⟨g,cap,rfl,h1,h2⟩:=qa9 h.row (Nat.lt_of_le_of_lt (Nat.zero_le _) (xr0.1 hi).1)
 have:=h.row.cells (g:=g) rfl i (nptr p.blk) (by unfold qa0;rw[xrs,hi];rfl)
 rw[Addr.add_lit,Nat.zero_add]at this
 exact⟨g,cap,rfl,qap h.row rfl,h1,h2,this⟩
theorem WRow.form(h:WRow W v l):∃a cap,v=.slice a l.length cap/\l.length<=cap/\cap<=maxLen:=by
 rcases h.row.2 with ⟨rfl,h0⟩|⟨g,cap,aH,rfl,_,_,h1,h2,_⟩
 ·exact⟨none,0,by rw[h0],by omega,Nat.zero_le _⟩
 ·exact⟨_,cap,rfl,h1,h2⟩
def IdxR (l:List Pw)(p:Pw)(e:Ending):Prop:=(∃i:Nat,e=.returned (.int .i64 i)/\l[i]?=some p)\/(p ∉ l/\e=.returned (.int .i64 (-1)))
theorem qqu(h:WRow w v l)(hl:l.length<=100)(hp:Blk w p.blk 105 p.cells)(iZ:∀a∈l,a.blk=p.blk->a=p)(hb:w.cell? ⟨bx,0,none⟩=some (nptr p.blk)):
  Calls prog 222 #[v,.func (.func 188) #[] #[.pointer (some ⟨bx,0,none⟩)]] w fun e w'=>IdxR l p e/\w'=w:=by
 obtain⟨a0,cy,hv,dn,ia⟩:=h.form;have bJ:=fun i q (hi:l[i]?=some q)=>h.at_ hi
 have gk:=fun q (hq:q∈l)=>wo1 (h.works q hq) hp hb
 obtain⟨n,hn⟩:∃n,n=l.length:=⟨_,rfl⟩;rw[<-hn]at hv bJ hl dn;have HN:Hid (n=l.length):=hn;clear hn;subst hv
 go_enter func222,ntmps222
 go_wp2
 go_loop [8] (fun i=>∃k:Nat,k<=n/\i=.int .i64 k/\∀j q,j<k->l[j]?=some q->q≠p) (fun i=>n-(intOf i).toNat)
 case atStart=>exact⟨0,Nat.zero_le _,rfl,fun j q hj=>by omega⟩
 case round =>
  obtain⟨k,hk,rfl,ay⟩:=hrel;have my:Hid (∀j q,j<k->l[j]?=some q->q≠p):=ay;clear ay
  by_cases ak:k<n
  ·obtain⟨q,hq⟩:∃q,l[k]?=some q:=⟨_,xr1 (by rw[<-HN.out];exact ak)⟩;obtain⟨g,cap,he,bK,cS,fl,hc⟩:=bJ k q hq;injection he with e1 _ e3;subst e1 e3;have ib:=xr2 hq;have hw:=gk q ib;have HQ:Hid (l[k]?=some q):=hq;have ja:(k:Int)<n:=by omega
   have eM:(0:Int)<=k:=by omega
   unfold nptr at hc hw;clear hq bJ gk
   cases jo:(q.blk == p.blk)
   ·rw[jo]at hw
    go_wp2_with (go_at_call 188;refine hw.mono ?_;rintro e w1 ⟨rfl,ck⟩;subst ck)
    go_round
    case rel =>
     refine⟨k+1,by omega,by go_num,fun j y hj hy=>?_⟩
     rcases Nat.lt_or_ge j k with h1|h1
     ·exact my.out j y h1 hy
     ·obtain rfl:j=k:=by omega
      rw[HQ.out]at hy;cases hy;intro e;rw[e]at jo;simp at jo
    case measure=>simp[intOf];omega
   ·rw[jo]at hw
    go_wp2_with (go_at_call 188;refine hw.mono ?_;rintro e w1 ⟨rfl,ck⟩;subst ck)
    go_ret
    have:q=p:=iZ q ib (by simpa using jo)
    exact⟨.inl ⟨k,rfl,by rw[<-this];exact HQ.out⟩,rfl⟩
  ·go_wp2
   go_ret
   refine⟨.inr ⟨fun hm=>?_,rfl⟩,rfl⟩
   obtain⟨j,hj⟩:=xre hm;have h1:=(xr0.1 hj).1
   exact my.out j p (by have:=HN.out;omega) hj rfl
theorem qah{size n:Nat}(h:W.ownsRow 0 t size v n xs)(hb:Blk W b t' vs)(ht:t≠t'):v.ownBlock≠some b:=by
 intro e;obtain⟨_,hr⟩:=h
 rcases hr with ⟨rfl,_⟩|⟨g,cap,aH,rfl,_,hg,_⟩
 ·simp[Value.ownBlock]at e
 ·simp[Value.ownBlock]at e
  subst e
  have:=hg.symm.trans hb
  injection this with this;injection this with _ h2 _
  exact ht h2
def qjq (l zs:List Pw)(i0 j:Nat):Prop:=zs.length=l.length/\∀m,zs[m]?=if m<i0 then l[m]? else if m+1<j then l[m+1]? else l[m]?
theorem qjq.start(l:List Pw)(i0:Nat):qjq l l i0 (i0+1):=⟨rfl,fun m=>by
 by_cases h:m<i0
 ·simp[h]
 ·simp[h,show ¬(m+1<i0+1) by omega]⟩
theorem qjq.step(h:qjq l zs i0 j)(hj:i0<j){q:Pw}(hq:l[j]?=some q):qjq l (zs.set (j-1) q) i0 (j+1):=by
 refine⟨by rw[List.length_set];exact h.1,fun m=>?_⟩
 have fE:=(xr0.1 hq).1;rw[List.getElem?_set]
 by_cases e:j-1=m
 ·subst e;rw[if_pos rfl,if_pos (by rw[h.1];omega),if_neg (by omega),if_pos (by omega),show j-1+1=j by omega,hq]
 ·rw[if_neg e,h.2 m]
  by_cases h1:m<i0
  ·simp[h1]
  ·simp only[h1,if_false]
   by_cases h2:m+1<j
   ·simp[h2,show m+1<j+1 by omega]
   ·simp[h2,show ¬(m+1<j+1) by omega]
theorem qjq.done(h:qjq l zs i0 l.length)(hi:i0<l.length):zs.take (l.length-1)=l.take i0++l.drop (i0+1):=by
 apply List.ext_getElem?
 intro m;rw[List.getElem?_take]
 by_cases hm:m<l.length-1
 ·rw[if_pos hm,h.2 m]
  by_cases h1:m<i0
  ·rw[if_pos h1,xrp (by simp;omega),List.getElem?_take_of_lt h1]
  ·rw[if_neg h1,if_pos (by omega),xro (by simp;omega),List.getElem?_drop]
   congr 1
   simp;omega
 ·rw[if_neg hm]
  symm
  rw[List.getElem?_eq_none_iff]
  simp;omega
def WoR (v:Value)(l:List Pw)(p:Pw)(w:World)(e:Ending)(w':World):Prop :=
 (p ∉ l/\e=.returned v/\Below w.heap.size w w') \/
 (∃(i:Nat) (v':Value),l[i]?=some p/\e=.returned v'/\WRow w' v' (l.take i++l.drop (i+1))/\Keep (fun y=>v.ownBlock=some y) w w'/\v'.ownBlock=v.ownBlock)
theorem qzz(w:World):(zeroValue 95).run prog w=.ok (.pointer none) w:=by kernel_rfl
theorem qnr(h:WRow w v l)(hl:l.length<=100)(hp:Blk w p.blk 105 p.cells)(iZ:∀a∈l,a.blk=p.blk->a=p)(bT:l.Nodup)(hb:w.cell? ⟨bx,0,none⟩=some (nptr p.blk))(ct:v.ownBlock≠some bx):
  Calls prog 187 #[v,.func (.func 188) #[] #[.pointer (some ⟨bx,0,none⟩)]] w (WoR v l p w):=by
 have rp:=qqu h hl hp iZ hb
 go_enter func187,ntmps187
 go_wp2_with fail
 refine rp.mono ?_
 obtain⟨a0,cy,hv,dn,ia⟩:=h.form
 rintro e w1 ⟨(⟨i,rfl,hi⟩|⟨ay,rfl⟩),ck⟩
 ·subst ck;have ep:=(xr0.1 hi).1;obtain⟨g,cap,et,bK,cS,fl,_⟩:=h.at_ hi;rw[hv]at et;injection et with e1 _ e3;subst e1 e3;obtain⟨n,hn⟩:∃n,n=l.length:=⟨_,rfl⟩;have HN:Hid (n=l.length):=hn;rw[<-hn]at hv hl ep cS dn;have tJ:v.ownBlock=some g:=by rw[hv];rfl
  have nY:=h.row;rw[hv,<- hn]at nY;have cB:∀q∈l,g≠q.blk:=fun q hq e=>qah h.row (h.works q hq) (by decide) (by rw[tJ,e])
  have jA:g≠p.blk:=cB p (xr2 hi);have BO:g≠bx:=fun e=>ct (by rw[tJ,e])
  have dk:bx<w1.heap.size:=xrb _ _ hb;have lM:=h.works;have wT:((i:Int) == -1)=false:=by simp
  have mU:(0:Int)<=i:=by omega
  have HV:Hid (v=.slice (some ⟨g,0,none⟩) n cy):=hv;have HI:Hid (l[i]?=some p):=hi;clear rp hn hi h;subst hv
  go_wp2_with fail
  go_loopw [5,6] (fun vi vj wr=>∃(j:Nat) (zs:List Pw),i+1<=j/\j<=n/\vj=.int .i64 j/\vi=.int .i64 ((j-1:Nat):Int)/\qjq l zs i j/\wr.ownsRow 0 95 1 (.slice (some ⟨g,0,none⟩) n cy) n (qa0 zs)/\Keep (fun y=>y=g) w1 wr) (fun _ vj _=>n-(intOf vj).toNat)
  case atStart=>exact⟨i+1,l,Nat.le_refl _,by omega,by go_num,by simp,qjq.start l i,nY,Keep.refl _ _⟩
  case round =>
   obtain⟨j,zs,mY,rz,rfl,rfl,hM,hR,hK⟩:=hrel
   by_cases ak:j<n
   ·obtain⟨q,hq⟩:∃q,l[j]?=some q:=⟨_,xr1 (by rw[<-HN.out];exact ak)⟩;have ib:=xr2 hq;have dK:q≠p:=fun e=>by
     subst e
     have:=(List.getElem?_inj (by rw[<-HN.out];exact ak) bT).1 (hq.trans HI.out.symm)
     omega
    have rV:(q.blk == p.blk)=false:=by
     cases hh:(q.blk == p.blk) with
     |false=>rfl
     |true=>exact absurd (iZ q ib (by simpa using hh)) dK
    have qb:zs[j]?=some q:=by rw[hM.2 j,if_neg (by omega),if_neg (by omega)];exact hq
    have cj:=hR.cells (g:=g) rfl j (nptr q.blk) (by unfold qa0;rw[xrs,qb];rfl);rw[Addr.add_lit,Nat.zero_add]at cj;have fj:=hR.frozenAt (g:=g) (j-1);have hw:=wo1 ((lM q ib).keep hK (fun e=>cB q ib e.symm)) (hp.keep hK (fun e=>jA e.symm)) ((hK.cell (p:=⟨bx,0,none⟩) dk (fun e=>BO e.symm)).trans hb);rw[rV]at hw;obtain⟨z,hz⟩:∃z,zs[j-1]?=some z:=⟨_,xr1 (by rw[hM.1,<- HN.out];omega)⟩;have cz:=hR.cells (g:=g) rfl (j-1) (nptr z.blk) (by unfold qa0;rw[xrs,hz];rfl);rw[Addr.add_lit,Nat.zero_add]at cz;have yL:=hM.step (by omega) hq;have cX:=(hR.stored (j-1) (nptr q.blk)).1;have mr:qa0 (zs.set (j-1) q)=(qa0 zs).set (j-1) (nptr q.blk):=by simp[qa0,List.map_set]
    rw[<-mr]at cX;have dN:=hK.setCell (p:=⟨g,j-1,none⟩) rfl (nptr q.blk);have HF:Hid (qjq l (zs.set (j-1) q) i (j+1)/\(wr.setCell ⟨g,j-1,none⟩ (nptr q.blk)).ownsRow 0 95 1 (.slice (some ⟨g,0,none⟩) n cy) n (qa0 (zs.set (j-1) q))/\Keep (fun y=>y=g) w1 (wr.setCell ⟨g,j-1,none⟩ (nptr q.blk))):=⟨yL,cX,dN⟩;obtain⟨j',pP⟩:∃j',j=j'+1:=⟨j-1,by omega⟩;subst pP;simp only[Nat.add_sub_cancel]at HF cz fj ⊢;unfold nptr at cj cz hw;clear yL cX dN mr hM hR hK hq qb hz;have k1:((j'+1:Nat):Int)<n:=by omega
    have k2:(j':Int)<n:=by omega
    have k3:(0:Int)<=j':=by omega
    go_wp2_with fail
    refine hw.mono ?_
    rintro e w2 ⟨rfl,eG⟩
    subst eG;clear hw
    go_wp2_with fail
    obtain⟨m1,m2,m3⟩:=HF.out
    exact⟨⟨j'+2,zs.set j' q,by omega,by omega,by go_num,by go_num,m1,m2,m3⟩,by simp[intOf];omega⟩
   ·have i_:j=n:=by omega
    subst i_;obtain⟨n',dp⟩:∃n',j=n'+1:=⟨j-1,by omega⟩;have a9:zs.length=j:=by rw[hM.1,<- HN.out]
    obtain⟨z,hz⟩:∃z,zs[n']?=some z:=⟨_,xr1 (by omega)⟩;have cz:=hR.cells (g:=g) rfl n' (nptr z.blk) (by unfold qa0;rw[xrs,hz];rfl);rw[Addr.add_lit,Nat.zero_add]at cz;have fz:=hR.frozenAt (g:=g) n';have bm:=fun ty c=>Lib.run_clear_slice (P:=prog) wr 98 95 ty (.pointer none) un94 qzz rfl rfl g n' 1 c (by omega) (fun k hk=>by
     have:k=0:=by omega
     subst this;rw[Nat.add_zero,cz];rfl) (fun k hk=>by
     have:k=0:=by omega
     subst this
     exact fz)
    have lE:WoR (.slice (some ⟨g,0,none⟩) j cy) l p w1 (.returned (.slice (some ⟨g,0,none⟩) n' cy)) (wr.setCell ⟨g,n',none⟩ (.pointer none)):=by
     refine .inr ⟨i,_,HI.out,rfl,⟨?_,fun q hq=>?_⟩,?_,rfl⟩
     ·have r1:=(hR.stored n' (.pointer none)).1;have r2:=qlv r1 (m:=n') (by omega);have e1:((qa0 zs).set n' (.pointer none)).take n'=(qa0 zs).take n':=List.take_set_of_le (Nat.le_refl n');rw[e1]at r2;have hd:=hM;rw[HN.out]at hd;have mc:=hd.done (by rw[<-HN.out];omega);have jI:l.length-1=n':=by rw[<-HN.out];omega
      rw[jI]at mc;rw[<-mc]
      have:qa0 (zs.take n')=(qa0 zs).take n':=by simp[qa0,List.map_take]
      rw[this,show(zs.take n').length=n' by simp;omega]
      exact r2
     ·have jd:q∈l:=by
       rcases xri.1 hq with h1|h1
       ·exact List.mem_of_mem_take h1
       ·exact List.mem_of_mem_drop h1
      exact((lM q jd).keep hK (fun e=>cB q jd e.symm)).other _ _ (fun e=>cB q jd e.symm)
     ·exact(hK.mono (fun y e=>by rw[e];rfl)).setCell (p:=⟨g,n',none⟩) (by rfl) _
    have uB:Hid (WoR (.slice (some ⟨g,0,none⟩) j cy) l p w1 (.returned (.slice (some ⟨g,0,none⟩) n' cy)) (wr.setCell ⟨g,n',none⟩ (.pointer none))):=lE;subst dp;simp only[World.setCells,List.replicate]at bm;clear lE hM hR hK a9 hz;simp only[Nat.add_sub_cancel];have k2:(n':Int)<(n'+1:Nat):=by omega
    have k3:(0:Int)<=n':=by omega
    have k4:¬((n':Int)=cy):=by omega
    go_wp2_with fail
    go_ret
    exact uB.out
 ·subst ck;clear hv
  go_wp2_with fail
  go_ret
  exact .inl ⟨ay,rfl,Below.refl _ _⟩
theorem qcy(h:WRow w v l)(hl:l.length<=100)(hp:Blk w p.blk 105 p.cells)(iZ:∀a∈l,a.blk=p.blk->a=p)(bT:l.Nodup):
  Calls prog 138 #[v,nptr p.blk] w (WoR v l p w):=by
 have bj:Below w.heap.size w (w.alloc (.cells #[nptr p.blk] 95)):=by exact bel2
 have hb:=(Box.new w 95 (nptr p.blk)).cell;have h1:WRow (w.alloc (.cells #[nptr p.blk] 95)) v l:=⟨qaf (T:=fun _=>False) h.row (Keep.new bj) (fun _ _ e=>e),fun q hq=>(h.works q hq).alloc _⟩;have ct:v.ownBlock≠some w.heap.size:=fun e=>by have:=qap h.row e;omega
 have hd:=qnr h1 hl (hp.alloc _) iZ bT hb ct;have jL:∀(fn:Fn) (first cap:Array Value) (w:World),(Instr.makeFunc fn first cap).run prog w=.ok (.func fn first cap) w:=fun _ _ _ _=>rfl
 have aF:∀e w',WoR v l p (w.alloc (.cells #[nptr p.blk] 95)) e w'->WoR v l p w e w':=fun e w' hr=>by
  rcases hr with ⟨h1,h2,h3⟩|⟨i,v',h1,h2,h3,h4,h5⟩
  ·exact .inl ⟨h1,h2,qab bj h3⟩
  ·exact .inr ⟨i,v',h1,h2,h3,(Keep.new (T:=fun y=>v.ownBlock=some y) bj).trans h4,h5⟩
 have HV:Hid (∀e w',WoR v l p (w.alloc (.cells #[nptr p.blk] 95)) e w'->(∃x,e=.returned x)/\WoR v l p w e w'):=fun e w' hr=>⟨by rcases hr with ⟨_,h2,_⟩|⟨_,v',_,h2,_⟩<;>exact⟨_,h2⟩,aF e w' hr⟩
 clear aF h h1 iZ;unfold nptr at hd HV ⊢;generalize WoR v l p w=X at HV ⊢;generalize WoR v l p (w.alloc (.cells #[.pointer (some ⟨p.blk,0,none⟩)] 95))=Y at hd HV
 go_enter func138,ntmps138
 go_wp2_with fail
 refine hd.mono ?_
 intro e w1 hy;obtain⟨⟨x,rfl⟩,hx⟩:=HV.out _ _ hy;clear hd hy HV
 go_wp2_with fail
 exact hx
end Go.Proofs.YtphclnolomgjoaaGreatDoor
