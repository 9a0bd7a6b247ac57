import Derived.Test.YtphclnolomgjoaaGreatDoorE11
set_option linter.unusedVariables false
set_option linter.unusedSimpArgs false
set_option maxRecDepth 100000
set_option maxHeartbeats 4000000
namespace Go.Proofs.YtphclnolomgjoaaGreatDoor
open Tryz
section
open Go.RowKit Go.Shelf
variable {w:World}{bt rr:Nat}{va:Value}{l:List Pw}{p:Pw}
attribute [local go_sem] Oper.semAt_some
theorem fV{α : Type}{f : α -> Bool}{l:List α}(h:l.all (fun x=>!f x)=true):l.find? f=none:=by
 rw[List.find?_eq_none];intro x a
 have:=List.all_eq_true.1 h x a
 simpa using this
theorem nr{α : Type}{f : α -> Bool}{l pre:List α}{x : α}(h:pre++[x] <+: l)(hp:pre.all (fun x=>!f x)=true)(a:f x=true):l.find? f=some x:=by
 obtain⟨t,rfl⟩:=h;rw[List.append_assoc,List.find?_append,fV hp]
 simp[a]
theorem oJ{za:List zc}(ea:zr za)(oa:U_ za)(h:Rd w za bt rr va l)(hp:vz w za p){n:zc}(ra:n∈za)(sa:n.ze=p.q):
  Calls prog 210 #[vP rr,zi p.ze] w fun e w'=>e=vR (xd (ug za l p.x n))/\Bw w w':=by
 have J:∀k:Nat,Fence.wide.depth.isSome=true->1<=k:=fun k h=>by simp[Fence.wide]at h
 have Ea:rr<w.heap.size:=VE _ _ h.bk;have Fa:bt<w.heap.size:=VE _ _ h.ad;have I:=fun W' (o:Bw w W')=>pY (w:=W') (h.below o).ad ⟨(h.below o).ps.row,(h.below o).ps.zu⟩ (h_ h.ps.len)
 have da:=fun b (hb:va.ownBlock=some b)=>UI h.ps.row hb
 have Z:∀q∈l,∀W',Bw w W'->Calls prog 231 #[vP rr,zi q.ze,zi p.ze] W' fun e w'=>e=vR (.bool ((ups za 4 n).any (Xx za l p.x q.x)))/\Below W'.heap.size W' w':=fun q hq W' o=>by
  obtain⟨m,qa,L,M⟩:=h.ps.zj q hq
  exact kn ea oa (h.below o) (hp.below o) ((h.ps.one hq).below o) ra sa qa L M
 unfold ug;generalize P:(fun q:Pw=>(ups za 4 n).any (Xx za l p.x q.x))=f;have ba:∀q∈l,∀W',Bw w W'->Calls prog 231 #[vP rr,vP q.ze,vP p.ze] W' fun e w'=>e=vR (.bool (f q))/\Below W'.heap.size W' w':=by
  rw[<-P];exact Z
 clear Z P
 refine(UK (n:=3)).1 ?_
 refine callsIn_of_wp_marks func210 rfl trivial ?_ rfl
 unfold zi at I ⊢;simp only[ntmps210,zC,Nat.reduceAdd,Nat.reduceSub];obtain⟨d,g⟩:∃d,d=((w.alloc (.cells #[vP rr] 186)).alloc (.cells #[vP p.ze] 95)).alloc (.cells #[.pointer none] 95):=⟨_,rfl⟩;have G:Bw w d:=by rw[g];exact cl
 have aa:zz d w.heap.size 186 (vP rr):=by rw[g];exact((zz.new w 186 _).alloc _).alloc _
 have ua:zz d (w.heap.size+1) 95 (vP p.ze):=by
  have:=(zz.new (w.alloc (.cells #[vP rr] 186)) 95 (vP p.ze)).alloc (.cells #[.pointer none] 95)
  rw[Vv]at this;rw[g];exact this
 have Aa:zz d (w.heap.size+1+1) 95 (.pointer none):=by
  have:=zz.new ((w.alloc (.cells #[vP rr] 186)).alloc (.cells #[vP p.ze] 95)) 95 (.pointer none)
  rw[Vv,Vv]at this;rw[g];exact this
 have ma:d.heap.size=w.heap.size+3:=by rw[g];simp
 have c1:=aa.cell;have c2:=(h.below G).bk;rw[g]at c1 c2
 gi_wp2_with ((first|refine⟨trivial,J _,?_⟩|refine⟨trivial,?_⟩);gi_at_call 230;refine(UK.2 (I _ Vy)).mono ?_;rintro e Ga ⟨rfl,rfl,C⟩)
 obtain⟨W,r⟩:∃W,W=d.alloc (.cells #[.pointer (some (vA bt 1))] 132):=⟨_,rfl⟩;have Ia:W.heap.size=w.heap.size+4:=by rw[r];simp[ma]
 have Ba:zz W w.heap.size 186 (vP rr):=by rw[r];exact aa.alloc _
 have Ca:zz W (w.heap.size+1) 95 (vP p.ze):=by rw[r];exact ua.alloc _
 have Da:zz W (w.heap.size+1+1) 95 (.pointer none):=by rw[r];exact Aa.alloc _
 have ka:Bw w W:=by rw[r];exact G.alloc G.size _
 simp only[Vv]at C;simp only[<-g,<- r]at C ⊢;have hq:=C (fun b=>b=w.heap.size+1+1) (fun b e=>by omega) (fun e=>by omega) (fun b hb e=>by have:=da b hb;omega);clear C I r g c1 c2;have u:∀b,b<W.heap.size->¬(False\/(W.heap.size<=b/\b<W.heap.size+2+4)):=fun b hb e=>by rcases e with e|e;exact e;omega
 refine Y6 (T:=fun b=>b=w.heap.size+1+1) (S:=fun _=>False) rfl (enters_of func238 k_ rfl) hq (Below.refl _ _) (fun _=>rfl) (fun b e=>e.elim) (fun b e=>by omega)
  (fun (pre:List Pw) A=>pre.all (fun x=>!f x)=true/\zz A w.heap.size 186 (vP rr)/\zz A (w.heap.size+1) 95 (vP p.ze)/\zz A (w.heap.size+1+1) 95 (.pointer none)/\Bw w A)
  (fun c (pre:List Pw) A=>c=.ret/\(∃q v,pre=v++[q]/\v.all (fun x=>!f x)=true/\f q=true/\zz A (w.heap.size+1+1) 95 (vP q.ze))/\Bw w A)
  (fun pre A B i s=>⟨i.1,i.2.1.zf s (u _ o_),i.2.2.1.zf s (u _ o_),i.2.2.2.1.zf s (u _ o_),i.2.2.2.2.trans (s.ya i.2.2.2.2.size (fun b ia=>u b o_))⟩)
  (fun c pre A B i s=>by
   obtain⟨L,⟨q,v,M,h3,N,na⟩,X⟩:=i
   exact⟨L,⟨q,v,M,h3,N,na.zf s (u _ o_)⟩,X.trans (s.ya X.size (fun b ia=>u b o_))⟩)
  ⟨rfl,Ba,Ca,Da,ka⟩
  (fun x=>{tmps:=#[vP rr,vP p.ze,vP w.heap.size,vP (w.heap.size+1),vP (w.heap.size+1+1),vP x.ze,vP rr,vP rr,.pointer (some (vA rr 1)),.pointer (some (vA bt 1)),.func (.func 238) #[] #[vP (w.heap.size+1+1+1)],vP x.ze,undef,undef,undef,undef,undef],defers:=[]}) ?assign ?body ?done ?stop
 case assign =>
  intro l x W K pa
  gi_wp2
  exact pa
 case body =>
  rintro l2 pre x ga ⟨y,D,E,t,j⟩ Ka z
  have la:x∈l:=List.mem_reverse.1 (z.subset s_);have F:=ba x la ga j;have c1:=D.cell;have c2:=E.cell;have U:Hid (pre.all (fun x=>!f x)=true):=y;have l1:=D.lt;have ca:=E.lt;have Y:=t.lt;generalize hfx:f x=V at F;have R:Hid (f x=V):=hfx;clear y hq hfx z
  cases V
  ·gi_wp2_with ((first|refine⟨trivial,J _,?_⟩|refine⟨trivial,?_⟩);gi_at_call 231;refine(CallsIn.inRound l2 (UK.2 F)).mono ?_;rintro e ha ⟨rfl,a⟩)
   refine⟨zd.new a,?_,D.below a l1,E.below a ca,t.below a Y,s5 j a⟩
   rw[List.all_append,U.out]
   simp[R.out]
  ·gi_wp2_with ((first|refine⟨trivial,J _,?_⟩|refine⟨trivial,?_⟩);gi_at_call 231;refine(CallsIn.inRound l2 (UK.2 F)).mono ?_;rintro e ha ⟨rfl,a⟩;have Q:=t.below a Y;have Ha:=Q.cell;have Ja:=Q.frozen)
   exact⟨(zd.new (T:=fun b=>b=w.heap.size+1+1\/W.heap.size+2+4<=b) a).setCell (p:=vA (w.heap.size+1+1) 0) (.inl rfl) _,rfl,⟨x,pre,rfl,U.out,R.out,Q.set _⟩,(s5 j a).setCell t_ _⟩
 case done =>
  rintro A ⟨y,D,E,t,j⟩ O
  have La:=t.cell;have P:=t.frozen
  gi_wp2
  have ta:(A.setCell (vA (w.heap.size+1+1) 0) (.pointer none)).heap[W.heap.size]?=some (.deferred (some [])):=(Below.heap_setCell _ _ _ _ t_).trans O;have H:=((t.set (.pointer none)).put W.heap.size (.deferred none) o_).cell
  refine⟨s_,.inl ⟨_,_,rfl,run_takeDeferred ta,?_⟩⟩
  refine⟨.pointer none,by simp[results,results210,go_sem,H],?_,Wn (j.setCell t_ _) _ _ o_⟩
  rw[fV y];rfl
 case stop =>
  rintro c pre A z ⟨rfl,⟨q,v,rfl,h3,N,ja⟩,j⟩ O
  gi_wp2
  have H:=(ja.put W.heap.size (.deferred none) o_).cell
  refine⟨s_,.inl ⟨_,_,rfl,run_takeDeferred O,?_⟩⟩
  refine⟨vP q.ze,by simp[results,results210,go_sem,H],?_,Wn j _ _ o_⟩
  rw[nr z h3 N];rfl
end
section
open Go.RowKit
variable {b cap hb i j n:Nat}{g k l f fM fu o u jd y v:Value}{w' m t:World}{T T':Nat->Prop}{e:TypeId}{xs:List Value}{p:Pw}{a d:List Pw}{qJ:List (Int×Int)}{st:Int}
structure Ak where
 p:Pw
 s:Int
variable {c:List Ak}
def akv (a:Ak):Value:=.agg #[zi a.p.ze,vI a.s]
def vo (l:List Ak):List Value:=l.flatMap fun a=>[zi a.p.ze,vI a.s]
theorem o5(a b:List Ak):vo (a++b)=vo a++vo b:=by simp[vo]
theorem dS:∀(l:List Ak) (i:Nat) (a:Ak),l[i]?=some a->(vo l)[i*2]?=some (zi a.p.ze)/\(vo l)[i*2+1]?=some (vI a.s)
 | [],i,a,h=>by simp at h
 |x::l,0,a,h=>by simp at h;subst h;simp[vo]
 |x::l,i+1,a,h=>by
  have b:=dS l i a (j_ h);have e:vo (x::l)=[zi x.p.ze,vI x.s]++vo l:=rfl;rw[e,show(i+1)*2=i*2+2 by omega,show i*2+2+1=i*2+1+2 by omega]
  simpa using b
theorem bU:∀(l:List Ak) (i:Nat) (b:Ak),vo (l.set i b)=((vo l).set (i*2) (zi b.p.ze)).set (i*2+1) (vI b.s)
 | [],i,b=>by simp[vo]
 |x::l,0,b=>by simp[vo]
 |x::l,i+1,b=>by
  have a:=bU l i b;have e:∀l,vo (x::l)=zi x.p.ze :: vI x.s::vo l:=fun l=>rfl
  rw[UD,e,e,a,show(i+1)*2=i*2+1+1 by omega,show i*2+1+1+1=(i*2+1)+1+1 by omega];simp only[UD]
theorem sn(l:List Ak)(m:Nat):vo (l.take m)=(vo l).take (m*2):=by
 induction l generalizing m with
 |nil=>simp[vo]
 |cons x l a =>
  cases m with
  |zero=>simp[vo]
  |succ m =>
   have e:∀l,vo (x::l)=zi x.p.ze :: vI x.s::vo l:=fun l=>rfl
   rw[List.take_succ_cons,e,e,a,show(m+1)*2=m*2+1+1 by omega];simp only[List.take_succ_cons]
structure yp (W:World) (hb:Nat) (f v:Value) (c:List Ak):Prop where
 zl:zg W hb 254 #[f,v]
 row:W.ownsRow 0 226 2 v c.length (vo c)
 ne:v.ownBlock≠some hb
theorem yp.get{W:World}(h:yp W hb f v c){p:Ak}(a:c[i]?=some p):∃g cap,v=vS g c.length cap/\g<W.heap.size/\g≠hb/\c.length<=cap/\cap<=maxLen/\(W.cell? (vA g (i*2))=some (zi p.p.ze)/\W.cell? (vA g (i*2+1))=some (vI p.s))/\(W.frozen? (vA g (i*2))=false/\W.frozen? (vA g (i*2+1))=false):=by
 obtain⟨g,cap,rfl,j,k⟩:=VX h.row (Nat.lt_of_le_of_lt (Nat.zero_le _) (Uy.1 a).1);have b:=h.row.cells (g:=g) rfl (i*2) (zi p.p.ze) (dS _ _ _ a).1;have d:=h.row.cells (g:=g) rfl (i*2+1) (vI p.s) (dS _ _ _ a).2;rw[Addr.add_lit,Nat.zero_add]at b d
 exact⟨g,cap,rfl,UI h.row rfl,fun e=>h.ne (by simp[Value.ownBlock,e]),j,k,⟨b,d⟩,h.row.frozenAt _,h.row.frozenAt _⟩
theorem yp.drew{W:World}(h:yp W hb f v c):yp W.drew hb f v c:=⟨h.zl.drew,h.row.drew,h.ne⟩
theorem yp.below{W W':World}(h:yp W hb f v c)(a:Bw W W'):yp W' hb f v c :=
 ⟨h.zl.below a h.zl.lt,s8 (T:=fun _=>False) h.row (zd.new a) (fun _ _ e=>e),h.ne⟩
theorem jV{w:World}(h:yp w hb f v c)(J:c.length<=100){a b:Ak}(o:c[i]?=some a)(q:c[j]?=some b)(M:i≠j):
  Calls prog 233 #[vP hb,vI i,vI j] w fun e w'=>e=vT #[]/\yp w' hb f v (vh c i j a b)/\zd (fun y=>v.ownBlock=some y) w w':=by
 obtain⟨g,cap,r,U,K,G,aa,⟨E,O⟩,V,R⟩:=h.get o;obtain⟨g',cap',u,_,_,_,_,⟨F,P⟩,W,S⟩:=h.get q;rw[r]at u;injection u with k _ H;injection k with k;injection k with k;subst k H;have I:=(Uy.1 o).1;have L:=(Uy.1 q).1;have c1:=h.zl.cell 1;have T:=h.zl.lt;simp only[s7]at c1;rw[r]at c1;obtain⟨n,x⟩:∃n,n=c.length:=⟨_,rfl⟩;rw[<-x]at c1 I L G J;have X:(i:Int)<n:=o_;have Y:(0:Int)<=i:=o_;have h3:(j:Int)<n:=o_;have Z:(0:Int)<=j:=o_;have Q:¬(j=i):=fun e=>M e.symm
 have l:¬(hb=g):=fun e=>K e.symm
 have ba:¬(j*2=i*2):=o_;have ca:¬(j*2+1=i*2):=o_;have da:¬(j*2=i*2+1):=o_;have ea:¬(j*2+1=i*2+1):=o_;obtain⟨d,m⟩:∃d,d=(((w.setCell (vA g (i*2)) (zi b.p.ze)).setCell (vA g (i*2+1)) (vI b.s)).setCell (vA g (j*2)) (zi a.p.ze)).setCell (vA g (j*2+1)) (vI a.s):=⟨_,rfl⟩;have t:yp d hb f v (vh c i j a b)/\zd (fun y=>v.ownBlock=some y) w d:=by
  subst r;rw[m]
  refine⟨⟨(((h.zl.other _ _ l).other _ _ l).other _ _ l).other _ _ l,?_,h.ne⟩,?_⟩
  ·have N:=((((h.row.stored (i*2) (zi b.p.ze)).1.stored (i*2+1) (vI b.s)).1.stored (j*2) (zi a.p.ze)).1.stored (j*2+1) (vI a.s)).1;rw[b5]
   have:vo (vh c i j a b)=(((((vo c).set (i*2) (zi b.p.ze)).set (i*2+1) (vI b.s)).set (j*2) (zi a.p.ze)).set (j*2+1) (vI a.s)):=by unfold vh;rw[bU,bU]
   rw[this]
   exact N
  ·exact((((zd.refl _ _).setCell (p:=vA g (i*2)) (by simp[Value.ownBlock]) _).setCell (p:=vA g (i*2+1)) (by simp[Value.ownBlock]) _).setCell (p:=vA g (j*2)) (by simp[Value.ownBlock]) _).setCell (p:=vA g (j*2+1)) (by simp[Value.ownBlock]) _
 have C:Hid (yp d hb f v (vh c i j a b)/\zd (fun y=>v.ownBlock=some y) w d):=t;have D:Hid (d=(((w.setCell (vA g (i*2)) (zi b.p.ze)).setCell (vA g (i*2+1)) (vI b.s)).setCell (vA g (j*2)) (zi a.p.ze)).setCell (vA g (j*2+1)) (vI a.s)):=m;clear t h o q x m;unfold zi at E F
 go_enter func233,ntmps233
 go_wp2_with fail
 go_region
 all_goals go_wp2_with fail
 go_end0
 obtain⟨A,B⟩:=C.out;have z:=D.out;unfold zi at z;rw[z]at A B
 exact⟨rfl,A.drew,B.drew⟩
theorem pF{w:World}(h:yp w hb (.func (.func 176) #[] #[]) v c)(N:c.length<=100){a:Ak}(o:c[i]?=some a)(ha:j<=1000)(lt:Ak->Ak->Bool)
  (u:∀W,Bw w W->∀b,c[j]?=some b->Calls prog 176 #[akv b,akv a] W fun e w'=>e=vR (.bool (lt b a))/\Bw W w') :
  Calls prog 234 #[vP hb,vI i,vI j] w fun e w'=>e=vR (vI (match c[j]? with|some b=>if lt b a then(j:Int) else(i:Int)|none=>(i:Int)))/\Bw w w':=by
 obtain⟨g,cap,r,l,aa,J,ba,⟨B,F⟩,U,Q⟩:=h.get o;have L:=(Uy.1 o).1;have c0:=h.zl.cell 0;have c1:=h.zl.cell 1;have A:=h.zl.lt;simp only[s7]at c0 c1;rw[r]at c1;obtain⟨n,x⟩:∃n,n=c.length:=⟨_,rfl⟩;rw[<-x]at c1 L J N;have X:(i:Int)<n:=o_;have Y:(0:Int)<=i:=o_;have Z:(0:Int)<=j:=o_;have z:Hid (n=c.length):=x;clear x
 cases f:c[j]? with
 |none =>
  have H:decide (j<n)=false:=decide_eq_false (by have:=List.getElem?_eq_none_iff.1 f;have:=z.out;omega);clear u h f o r
  simp only
  go_enter func234,ntmps234
  go_wp2_with fail
  go_quiet (fail)
  go_wp2_with fail
  go_ret
  exact⟨rfl,UT (Below.refl _ _) _⟩
 |some b =>
  obtain⟨g',cap',E,_,_,_,_,⟨C,G⟩,V,R⟩:=h.get f;rw[r]at E;injection E with k _ K;injection k with k;injection k with k;subst k K;have O:(j:Int)<n:=by have:=(Uy.1 f).1;have:=z.out;omega
  have H:decide ((j:Int)<n)=true:=decide_eq_true O;have y:=fun W M=>u W M b f
  unfold akv zi at y;unfold zi at B C;clear u h o f r
  simp only
  generalize lt b a=t at y ⊢
  go_enter func234,ntmps234
  go_upto_region 1 with fail
  go_cut [34] from 7 (fun q P=>q=.bool t/\Bw w P)
  case first =>
   go_region_held3 (fun w'=>w'.cell? (vA hb 0)=some (.func (.func 176) #[] #[])/\w'.cell? (vA hb 1)=some (vS g n cap)/\w'.cell? (vA g (i*2))=some (vP a.p.ze)/\w'.cell? (vA g (i*2+1))=some (vI a.s)/\w'.cell? (vA g (j*2))=some (vP b.p.ze)/\w'.cell? (vA g (j*2+1))=some (vI b.s)) (go_keep)
    (first
    |(go_at_call 176;refine(y _ ?_).mono ?_;(focus exact cl);rintro e m ⟨rfl,I⟩;have d:Bw w m:=s5 cl I;have ca:=(d.cell (p:=vA hb 0) A).trans c0;have da:=(d.cell (p:=vA hb 1) A).trans c1;have ea:=(d.cell (p:=vA g (i*2)) l).trans B;have S:=(d.cell (p:=vA g (i*2+1)) l).trans F;have ga:=(d.cell (p:=vA g (j*2)) l).trans C;have T:=(d.cell (p:=vA g (j*2+1)) l).trans G))
   all_goals go_wp2_with fail
   go_meet
   exact⟨rfl,d⟩
  case rest =>
   obtain⟨rfl,D⟩:=hcut
   cases t
   ·go_wp2_with fail
    go_ret
    exact⟨rfl,D⟩
   ·go_wp2_with fail
    go_ret
    exact⟨rfl,D⟩
def uo (w:World)(T:Nat->Prop)(c:List Ak)(lt:Ak->Ak->Bool):Prop :=
 ∀W,zd T w W->∀a∈c,∀b∈c,Calls prog 176 #[akv a,akv b] W fun e w'=>e=vR (.bool (lt a b))/\Bw W w'
theorem k6{w:World}{lt:Ak->Ak->Bool}(O:Ord lt)(h:yp w hb (.func (.func 176) #[] #[]) v c)(ra:c.length<=100){k:Nat}(V:k<c.length)(i:Xq lt c k)(S:uo w (fun y=>v.ownBlock=some y) c lt):
  Calls prog 214 #[vP hb,vI k] w fun e w'=>e=vT #[]/\∃d,d.Perm c/\Vt lt d/\yp w' hb (.func (.func 176) #[] #[]) v d/\zd (fun y=>v.ownBlock=some y) w w':=by
 have Ka:=h.zl.lt;obtain⟨T,K⟩:∃T:Nat->Prop,T=fun y=>v.ownBlock=some y:=⟨_,rfl⟩
 rw[<-K]at S ⊢;have ia:Hid (T=fun y=>v.ownBlock=some y):=K;clear K
 go_enter func214,ntmps214
 go_wp2_with fail
 go_loopg [1] k (fun q Aa wr=>∃(j:Nat) (d:List Ak),Aa=vI j/\j<=q/\j<d.length/\d.Perm c/\Xq lt d j/\yp wr hb (.func (.func 176) #[] #[]) v d/\zd T w wr)
 case atStart=>exact⟨k,c,rfl,Nat.le_refl _,V,List.Perm.refl _,i,h,zd.refl _ _⟩
 case round =>
  clear h i V;obtain⟨j,d,rfl,Ha,X,r,i,f,D⟩:=hrel;have Z:d.length<=100:=by rw[r.length_eq];exact ra
  by_cases aa:j=0
  ·subst aa;have x:=i.zero;have G:Hid (Vt lt d):=x;clear x i
   go_wp2_with fail
   go_end0
   exact⟨rfl,d,r,G.out,f,D⟩
  ·obtain⟨a,A⟩:∃a,d[j]?=some a:=⟨_,Ur X⟩;obtain⟨b,u⟩:∃b,d[(j-1) / 2]?=some b:=⟨_,Ur o_⟩;have ca:=quo2 j o_;obtain⟨p,hp⟩:∃p,p=(j-1) / 2:=⟨_,rfl⟩;rw[<-hp]at u ca;have Ta:p<j:=o_;have H:Hid (p=(j-1) / 2):=hp;clear hp;obtain⟨g,cap,E,B,La,ma,Ma,⟨I,P⟩,oa,da⟩:=f.get A;obtain⟨g',cap',U,_,_,_,_,⟨J,Q⟩,pa,ea⟩:=f.get u;rw[E]at U;injection U with z _ na;injection z with z;injection z with z;subst z na;have c0:=f.zl.cell 0;have c1:=f.zl.cell 1;have R:=f.zl.lt;simp only[s7]at c0 c1;rw[E]at c1;have ta:=r.mem_iff.1 (Uq A);have ka:=r.mem_iff.1 (Uq u);have F:=fun W (L:Bw wr W)=>S W (D.trans (zd.new L)) a ta b ka
   have ba:=fun W (L:Bw wr W)=>jV (f.below L) Z A u o_
   obtain⟨n,M⟩:∃n,n=d.length:=⟨_,rfl⟩;rw[<-M]at c1 ma X Z;have ha:Hid (n=d.length):=M;have Ga:Hid (v=vS g d.length cap):=E;have Na:(j:Int)<n:=o_;have Sa:(0:Int)<=j:=o_;have Ea:(0:Int)<j:=o_;have Ua:(p:Int)<n:=o_;have Fa:(0:Int)<=p:=o_;unfold akv zi at F;unfold zi at I J;have ga:Hid (yp wr hb (.func (.func 176) #[] #[]) v d):=f;have o:Hid (d[j]?=some a/\d[p]?=some b):=⟨A,u⟩;clear M E A u f aa;generalize Y:lt a b=t at F;have N:Hid (lt a b=t):=Y;clear Y
   go_upto_region 2 with fail
   go_cut [29] from 5 to 34 (fun q Ca=>q=.bool (!t)/\Bw wr Ca)
   case first =>
    go_region_held3 (fun w'=>w'.cell? (vA hb 0)=some (.func (.func 176) #[] #[])/\w'.cell? (vA hb 1)=some (vS g n cap)/\w'.cell? (vA g (j*2))=some (vP a.p.ze)/\w'.cell? (vA g (j*2+1))=some (vI a.s)/\w'.cell? (vA g (p*2))=some (vP b.p.ze)/\w'.cell? (vA g (p*2+1))=some (vI b.s)) (go_keep)
     (first
     |(go_at_call 176;refine(F _ ?_).mono ?_;(focus exact cl);rintro e m ⟨rfl,la⟩;have l:Bw wr m:=s5 cl la;have Oa:=(l.cell (p:=vA hb 0) R).trans c0;have Pa:=(l.cell (p:=vA hb 1) R).trans c1;have Qa:=(l.cell (p:=vA g (j*2)) B).trans I;have Ia:=(l.cell (p:=vA g (j*2+1)) B).trans P;have Ra:=(l.cell (p:=vA g (p*2)) B).trans J;have Ja:=(l.cell (p:=vA g (p*2+1)) B).trans Q))
    all_goals go_wp2_with fail
    go_meet
    exact⟨rfl,l⟩
   case rest =>
    obtain⟨rfl,C⟩:=hcut;clear c0 c1 I J P Q oa pa da ea F
    cases t
    ·have x:=i.stop o.out.1 (by rw[<-H.out];exact o.out.2) N.out;have G:Hid (Vt lt d):=x;clear x i
     go_wp2_with fail
     exact Us (v:=.tuple #[]) (by simp[results,results214,go_sem]) rfl ⟨rfl,d,r,G.out,ga.out.below C,D.trans (zd.new C)⟩
    ·go_wp2_with fail
     refine(ba _ C).mono ?_
     rintro e Ba ⟨rfl,Da,sa⟩
     have ja:Xq lt (vh d j p a b) p:=by
      have:=i.step O o_ o.out.1 (by rw[<-H.out];exact o.out.2) N.out
      rw[<-H.out]at this
      exact this
     have qa:(vh d j p a b).Perm c:=(bP o_ o.out.1 o.out.2).trans r;have ua:zd T w Ba:=(D.trans (zd.new C)).trans (by rw[ia.out];exact sa);clear ba i
     go_wp2_with fail
     go_roundg p
     case measure=>omega
     case rel=>exact⟨p,vh d j p a b,rfl,Nat.le_refl _,by rw[b5,<- ha.out];omega,qa,ja,Da,ua⟩
theorem pD{w:World}(h:yp w hb (.func (.func 176) #[] #[]) v c)(l:c.length<=100){a:Ak}(d:c[i]?=some a)(m:j<=1000)(lt:Ak->Ak->Bool)
  (f:uo w (fun y=>v.ownBlock=some y) c lt) :
  Calls prog 234 #[vP hb,vI i,vI j] w fun e w'=>e=vR (vI (fo lt c a i j))/\Bw w w':=by
 refine(pF h l d m lt (fun W k b hb=>f W (zd.new k) b (Uq hb) a (Uq d))).mono ?_
 rintro e w' ⟨rfl,g⟩
 refine⟨?_,g⟩
 unfold fo
 cases c[j]? with
 |none=>rfl
 |some b=>simp only;split<;>rfl
theorem uo.zf{w:World}{lt:Ak->Ak->Bool}(h:uo w T c lt)(b:zd T w w'):uo w' T c lt:=fun W a=>h W (b.trans a)
theorem uo.perm{w:World}{d:List Ak}{lt:Ak->Ak->Bool}(h:uo w T c lt)(hp:d.Perm c):uo w T d lt:=fun W e a f b hb=>h W e a (hp.mem_iff.1 f) b (hp.mem_iff.1 hb)
theorem lh{w:World}{lt:Ak->Ak->Bool}(O:Ord lt)(h:yp w hb (.func (.func 176) #[] #[]) v c)(ka:c.length<=100){k:Nat}(X:k<c.length)(o:WH lt c k)(Q:uo w (fun y=>v.ownBlock=some y) c lt):
  Calls prog 215 #[vP hb,vI k] w fun e w'=>e=vT #[]/\∃d,d.Perm c/\Vt lt d/\yp w' hb (.func (.func 176) #[] #[]) v d/\zd (fun y=>v.ownBlock=some y) w w':=by
 obtain⟨T,u⟩:∃T:Nat->Prop,T=fun y=>v.ownBlock=some y:=⟨_,rfl⟩
 have I:=fun (W:World) (d:List Ak) (i j:Nat) (a:Ak) (l:yp W hb (.func (.func 176) #[] #[]) v d) (p:d.length<=100) (ja:d[i]?=some a) (na:j<=1000) (ha:uo W T d lt)=>pD l p ja na lt (by rw[<-u];exact ha)
 rw[<-u]at Q ⊢;have ga:Hid (T=fun y=>v.ownBlock=some y):=u;clear u;obtain⟨N,E⟩:∃N,N=c.length:=⟨_,rfl⟩;have M:Hid (N=c.length):=E;rw[<-E]at ka;clear E
 go_enter func215,ntmps215
 go_wp2_with fail
 go_loopg [1] N (fun q oa wr=>∃(j:Nat) (d:List Ak),oa=vI j/\N<=q+j/\j<N/\d.Perm c/\WH lt d j/\yp wr hb (.func (.func 176) #[] #[]) v d/\zd T w wr)
 case atStart=>exact⟨k,c,rfl,o_,by rw[M.out];exact X,List.Perm.refl _,o,h,zd.refl _ _⟩
 case round =>
  clear h o X;obtain⟨j,d,rfl,sa,ua,s,o,l,D⟩:=hrel;have J:d.length=N:=by rw[M.out];exact s.length_eq
  have p:d.length<=100:=o_;obtain⟨a,x⟩:∃a,d[j]?=some a:=⟨_,Ur o_⟩;obtain⟨g,n⟩:∃g,g=fo lt d a j (2*j+1):=⟨_,rfl⟩;have aa:g<d.length:=by rw[n];exact e7 lt d a o_
  obtain⟨a1,G⟩:∃a1,d[g]?=some a1:=⟨_,Ur aa⟩;obtain⟨f,C⟩:∃f,f=fo lt d a1 g (2*j+2):=⟨_,rfl⟩;have B:=hF O o x (by rw[<-n];exact G);rw[<-n,<- C]at B;have H:=(Q.zf D).perm s;have c1:=I wr d j (2*j+1) a l p x o_ H;rw[<-n]at c1;have c2:=fun W (V:Bw wr W)=>I W d g (2*j+2) a1 (l.below V) p G o_ (H.zf (zd.new V))
  rw[<-C]at c2;have R:((2*j+1:Nat):Int)=2*(j:Int)+1:=o_;have S:((2*j+2:Nat):Int)=2*(j:Int)+2:=o_;rw[R]at c1;rw[S]at c2;have ca:Hid (f=j/\Vt lt d\/(f≠j/\∃b,d[f]?=some b/\j<f/\WH lt (vh d j f a b) f)):=B;have K:Hid (d[j]?=some a):=x;have L:Hid (yp wr hb (.func (.func 176) #[] #[]) v d):=l;have ba:Hid (d.length=N):=J;clear B x G n C I o R S l J H aa;have Aa:(0:Int)<=j:=o_;have Ca:(j:Int)<=100:=o_
  go_wp2_with fail
  refine c1.mono ?_
  rintro e m ⟨rfl,A⟩
  go_wp2_with fail
  refine(c2 _ A).mono ?_
  rintro e t ⟨rfl,P⟩
  have r:Bw wr t:=s5 A P;clear c1 c2 A P
  rcases ca.out with ⟨F,Y⟩|⟨F,b,z,ta,U⟩
  ·have ea:Hid (Vt lt d):=Y;clear Y;subst F
   go_wp2_with fail
   exact Us (v:=.tuple #[]) (by simp[results,results215,go_sem]) rfl ⟨rfl,d,s,ea.out,L.out.below r,D.trans (zd.new r)⟩
  ·have Ba:((f:Int) == (j:Int))=false:=by simp;omega
   have Z:=jV (L.out.below r) p K.out z o_;have ia:(vh d j f a b).Perm c:=(bP o_ K.out z).trans s;have ra:f<N:=by have:=(Uy.1 z).1;have:=ba.out;omega
   have da:Hid (WH lt (vh d j f a b) f):=U;clear U z F
   go_wp2_with fail
   refine Z.mono ?_
   rintro e pa ⟨rfl,qa,la⟩
   have ma:zd T w pa:=(D.trans (zd.new r)).trans (by rw[ga.out];exact la);clear Z
   go_wp2_with fail
   go_roundg (N-f)
   case measure=>omega
   case rel=>exact⟨f,vh d j f a b,rfl,o_,ra,ia,da.out,qa,ma⟩
theorem l0:(prog.info? 226).map (fun i=>(i.size,i.bytes))=some (2,16):=k_
theorem l5:(prog.info? 226).bind (fun i=>i.zero)=some (.agg #[.pointer none,vI 0]):=k_
theorem lH:Wx 226 2 16:=XD l0 l5 rfl
theorem mo:prog.underlying 252=some (.slice 226):=k_
theorem yp.form{W:World}(h:yp W hb f v c):∃a cap,v=.slice a c.length cap/\c.length<=cap/\cap<=maxLen:=by
 rcases h.row.2 with ⟨rfl,b⟩|⟨g,cap,i,rfl,_,_,d,e,_⟩
 ·exact⟨none,0,by rw[b],o_,Nat.zero_le _⟩
 ·exact⟨_,cap,rfl,d,e⟩
theorem yp.rN{W W':World}(h:yp W hb f v c)(a:Bw W W'):W'.ownsRow 0 226 2 v c.length (vo c):=s8 (T:=fun _=>False) h.row (zd.new a) (fun _ _ e=>e)
theorem jN{w:World}{lt:Ak->Ak->Bool}(O:Ord lt)(h:yp w hb (.func (.func 176) #[] #[]) v c)(da:c.length<=50)(L:Vt lt c)(p:Ak)(I:uo w (fun y=>y=hb\/v.ownBlock=some y) (c++[p]) lt):
  Calls prog 177 #[vP hb,akv p] w fun e w'=>e=vT #[]/\∃E i,i.Perm (c++[p])/\Vt lt i/\yp w' hb (.func (.func 176) #[] #[]) E i/\zd (fun y=>y=hb\/v.ownBlock=some y) w w'/\(E.ownBlock=v.ownBlock\/∃g,E.ownBlock=some g/\w.heap.size<=g):=by
 have S:=h.zl.lt;have c1:=h.zl.cell 1;simp only[s7]at c1;have d:=fun (W:World) (Z:Bw w W) (N:Nat) (U:zg W N 226 #[zi p.p.ze,vI p.s])=>Wv mo lH o_ W v c.length (vo c) (h.rN Z) N 1 1 o_ [zi p.p.ze,vI p.s] rfl U (fun u M=>by simp at M;rcases M with rfl|rfl<;>rfl) (by unfold maxLen;omega) o_
 have l:∀W,Bw w W->∀g' cap' w',xq W v.ownBlock 226 2 (c.length+1) (vo c++[zi p.p.ze,vI p.s]) g' cap' w'->zg w' hb 254 #[.func (.func 176) #[] #[],v]/\Hid (∀j,Below (w'.setCell (vA hb 1) (vS g' (c.length+1) cap')).heap.size (w'.setCell (vA hb 1) (vS g' (c.length+1) cap')) j->yp j hb (.func (.func 176) #[] #[]) (vS g' (c.length+1) cap') (c++[p])/\zd (fun y=>y=hb\/v.ownBlock=some y) w j/\(v.ownBlock=some g'\/w.heap.size<=g')):=fun W x g' cap' w' R=>by
  have G:=(h.zl.below x S).zf R.zf h.ne;have na:=x.size;have J:g'≠hb:=fun e=>by
   rcases R.new with z|z
   ·rw[e]at z;exact h.ne z
   ·omega
  refine⟨G,fun j B=>⟨⟨?_,?_,?_⟩,?_,?_⟩⟩
  ·have:=G.set 1 (vS g' (c.length+1) cap')
   have h3:zg (w'.setCell (vA hb 1) (vS g' (c.length+1) cap')) hb 254 #[.func (.func 176) #[] #[],vS g' (c.length+1) cap']:=by simpa using this
   exact h3.below B h3.lt
  ·have:vo (c++[p])=vo c++[zi p.p.ze,vI p.s]:=by rw[o5];rfl
   rw[this,show(c++[p]).length=c.length+1 by simp]
   exact s8 (T:=fun _=>False) (UQ R.own (by simp[Value.ownBlock];exact J) _) (zd.new B) (fun _ _ e=>e)
  ·simp[Value.ownBlock];exact J
  ·exact((((zd.new (T:=fun y=>y=hb\/v.ownBlock=some y) x).Vf R.zf (fun b _ e=>.inr e))).setCell (p:=vA hb 1) (.inl rfl) _).WW B
  ·exact R.new.imp id (fun e=>by omega)
 have D:=fun g' cap' W (aa:yp W hb (.func (.func 176) #[] #[]) (vS g' (c.length+1) cap') (c++[p])) (ca:zd (fun y=>y=hb\/v.ownBlock=some y) w W) (q:v.ownBlock=some g'\/w.heap.size<=g') =>
  k6 (k:=c.length) O aa t_ s_ (L.push p) (fun P Y=>I P (ca.Vf Y (fun b Q e=>by
   simp[Value.ownBlock]at e
   subst e
   rcases q with e|e
   ·exact .inr e
   ·omega)))
 have F:∀(g1 f:Nat) (W t:World),(v.ownBlock=some g1\/w.heap.size<=g1)->zd (fun y=>y=hb\/v.ownBlock=some y) w W->zd (fun y=>(vS g1 (c.length+1) f).ownBlock=some y) W t->zd (fun y=>y=hb\/v.ownBlock=some y) w t/\((vS g1 (c.length+1) f).ownBlock=v.ownBlock\/∃g,(vS g1 (c.length+1) f).ownBlock=some g/\w.heap.size<=g):=fun g1 f W t a o A=>by
  refine⟨o.Vf A (fun b Q e=>?_),?_⟩
  ·simp[Value.ownBlock]at e
   subst e
   rcases a with e|e
   ·exact .inr e
   ·omega
  ·rcases a with e|e
   ·left;rw[e];rfl
   ·exact .inr ⟨g1,rfl,e⟩
 obtain⟨a0,X,C,V,pa⟩:=h.form;obtain⟨n,q⟩:∃n,n=c.length:=⟨_,rfl⟩;rw[<-q]at d l D F da C V;have ka:Hid (v=.slice a0 n X):=C;have la:=h.zl;clear h L I q;subst C;unfold akv zi;unfold zi at d;generalize ha:vo c=ra at d l;clear ha
 go_enter func177,ntmps177
 go_upto_region 1 with fail
 go_region_law (refine WL rfl (.tmp 8) (.tmp 10) 252 252 rfl _ _ ?_ ?_ (d _ ?_ ?_ ?_) ?_;(focus (simp[Act.eval,Act.put]));(focus ((try simp[Act.eval,Act.put]);(try rfl)));(focus exact cl);(focus exact s6);rintro sa m ⟨g1,f,rfl,r⟩;obtain⟨H,ga⟩:=l _ cl _ _ _ r;have ma:=H.frozen 1;have ea:=H.cell 1;have oa:=r.le;have qa:=r.mx;simp only[s7]at ea)
 all_goals go_wp2_with fail
 all_goals obtain⟨ja,o,a⟩:=ga.out _ (Below.refl _ _)
 all_goals refine(D _ _ _ ja o a).mono ?_
 all_goals rintro e t ⟨rfl,i,hp,ba,ia,A⟩
 all_goals have K:=F _ _ _ _ a o A
 all_goals clear D l d
 all_goals go_wp2_with fail
 all_goals go_end0
 all_goals exact⟨rfl,_,i,hp,ba,ia,K.1,K.2⟩
theorem fX{w:World}(h:yp w hb f v c)(k:c.length<=100)(a:c.length<=j)(q:j<=1000):
  Calls prog 234 #[vP hb,vI i,vI j] w fun e w'=>e=vR (vI i)/\Bw w w':=by
 obtain⟨a0,cap,d,g,p⟩:=h.form;have c1:=h.zl.cell 1;have m:=h.zl.lt;simp only[s7]at c1;rw[d]at c1;obtain⟨n,b⟩:∃n,n=c.length:=⟨_,rfl⟩;rw[<-b]at c1 g k a;have l:decide (j<n)=false:=decide_eq_false o_;have o:(0:Int)<=j:=o_;clear h d b a
 go_enter func234,ntmps234
 go_wp2_with fail
 go_quiet (fail)
 go_wp2_with fail
 go_ret
 exact⟨rfl,UT (Below.refl _ _) _⟩
theorem ru{w:World}(h:yp w hb f v []):
  Calls prog 215 #[vP hb,vI 0] w fun e w'=>e=vT #[]/\Bw w w':=by
 have c1:=fX (i:=0) (j:=1) h s_ s_ o_;have c2:=fun W (c:Bw w W)=>fX (i:=0) (j:=2) (h.below c) s_ s_ o_
 have d:=h.zl.lt;simp only[Int.cast_ofNat_Int,Int.natCast_zero]at c1 c2;clear h
 go_enter func215,ntmps215
 go_wp2_with fail
 refine wp_loop_rounds 1 ?_
 rw[rounds_succ]
 go_wp2_with fail
 refine c1.mono ?_
 rintro e m ⟨rfl,a⟩
 go_wp2_with fail
 refine(c2 _ a).mono ?_
 rintro e t ⟨rfl,b⟩
 go_wp2_with fail
 exact Us (v:=.tuple #[]) (by simp[results,results215,go_sem]) rfl ⟨rfl,s5 a b⟩
theorem rm{W:World}{g s:Nat}(h:W.ownsRow 0 e s (vS g n cap) n xs){m:Nat}(l:m<=n):W.ownsRow 0 e s (vS g m cap) m (xs.take (m*s)):=by
 obtain⟨k,o⟩:=h
 rcases o with ⟨b,_⟩|⟨g',cap',c,b,hb,j,q,f,h3,i⟩
 ·cases b
 ·injection b with a _ d;injection a with a;injection a with a;subst a d;have p:m*s<=n*s:=Nat.mul_le_mul_right s l
  refine⟨by rw[List.length_take,k];omega,.inr ⟨g,cap,c,rfl,hb,j,o_,f,h3,?_⟩⟩
  rw[<-i,List.take_take]
  congr 1
  omega
theorem yp.other{W:World}(h:yp W hb f v c)(p:Addr)(u:Value)(a:hb≠p.block)(b:v.ownBlock≠some p.block):yp (W.setCell p u) hb f v c :=
 ⟨h.zl.other _ _ a,UQ h.row b _,h.ne⟩
def PopQ (hb:Nat)(v:Value)(c:List Ak)(lt:Ak->Ak->Bool)(w:World)(e:Ending)(w':World):Prop :=
 (c=[]/\e=vR (.tuple #[.agg #[.pointer none,vI 0],.bool false])/\Bw w w') \/
 (∃(a:Ak) (d:Value) (b:List Ak),c[0]?=some a/\e=vT #[akv a,.bool true]/\(a::b).Perm c/\Vt lt b/\yp w' hb (.func (.func 176) #[] #[]) d b/\zd (fun y=>y=hb\/v.ownBlock=some y) w w'/\d.ownBlock=v.ownBlock)
theorem lN{w:World}{lt:Ak->Ak->Bool}(O:Ord lt)(h:yp w hb (.func (.func 176) #[] #[]) v c)(qb:c.length<=100)(oa:Vt lt c)(ja:uo w (fun y=>y=hb\/v.ownBlock=some y) c lt):
  Calls prog 179 #[vP hb] w (PopQ hb v c lt w):=by
 have kb:=h.zl.lt;have c1:=h.zl.cell 1;simp only[s7]at c1
 by_cases la:c=[]
 ·subst la;obtain⟨a0,Jb,f,Ib,Mb⟩:=h.form;rw[f]at c1;simp only[List.length_nil]at c1;clear ja oa
  go_enter func179,ntmps179
  go_wp2_with fail
  have b2:zg ((w.alloc (.cells #[.pointer none,vI 0] 226)).alloc (.cells #[.pointer none,vI 0] 226)) w.heap.size 226 #[.pointer none,vI 0]:=s6;have Xa:=b2.cell
  exact Us (v:=.tuple #[.agg #[.pointer none,vI 0],.bool false]) (by simp[results,results179,go_sem,Xa]) rfl (.inl ⟨rfl,rfl,cl⟩)
 ·have Ra:0<c.length:=by cases c with|nil=>exact absurd rfl la|cons _ _=>simp
  obtain⟨a,K⟩:∃a,c[0]?=some a:=⟨_,Ur Ra⟩;obtain⟨b,D⟩:∃b,c[c.length-1]?=some b:=⟨_,Ur o_⟩;obtain⟨g,cap,f,Z,ra,mb,Xa,⟨Qa,Ia⟩,fa,gb⟩:=h.get K;obtain⟨g',cap',Ta,_,_,_,_,⟨ia,ea⟩,fb,Fa⟩:=h.get D;rw[f]at Ta;injection Ta with E _ nb;injection E with E;injection E with E;subst E nb;rw[f]at c1;have ob:=h.zl.frozen 1;have aa:¬(hb=g):=fun e=>ra e.symm
  obtain⟨m,Wa⟩:∃m,c.length=m+1:=⟨c.length-1,o_⟩;have M:c.length-1=m:=o_;rw[M]at ia fb ea Fa D;have H:∀n,(vS g n cap).ownBlock=v.ownBlock:=fun n=>by rw[f];rfl
  have Ka:∀(l W:World),Bw w l->W=(((((l.setCell (vA g 0) (zi b.p.ze)).setCell (vA g 1) (vI b.s)).setCell (vA g (m*2)) (.pointer none)).setCell (vA g (m*2+1)) (vI 0)).setCell (vA hb 1) (vS g m cap))->yp W hb (.func (.func 176) #[] #[]) (vS g m cap) ((c.set 0 b).take m)/\zd (fun y=>y=hb\/v.ownBlock=some y) w W:=by
   rintro l W Y rfl
   have J:=h.below Y
   refine⟨⟨?_,?_,?_⟩,?_⟩
   ·have:=((((J.zl.other (vA g 0) (zi b.p.ze) aa).other (vA g 1) (vI b.s) aa).other (vA g (m*2)) (.pointer none) aa).other (vA g (m*2+1)) (vI 0) aa).set 1 (vS g m cap)
    simpa using this
   ·have Ma:=J.row;rw[f]at Ma;have Ya:=((((Ma.stored 0 (zi b.p.ze)).1.stored 1 (vI b.s)).1.stored (m*2) (.pointer none)).1.stored (m*2+1) (vI 0)).1;have Za:=rm Ya (m:=m) o_;have ab:=UQ Za (a:=(vA hb 1)) (by simp[Value.ownBlock];exact ra) (vS g m cap);have Na:((c.set 0 b).take m).length=m:=by simp;omega
    rw[Na];have Ab:vo ((c.set 0 b).take m)=(((((vo c).set 0 (zi b.p.ze)).set 1 (vI b.s)).set (m*2) (.pointer none)).set (m*2+1) (vI 0)).take (m*2):=by
     rw[sn,bU,List.take_set_of_le (by omega:m*2<=m*2+1),List.take_set_of_le (Nat.le_refl (m*2))]
    rw[Ab]
    exact ab
   ·simp[Value.ownBlock];exact ra
   ·have r:v.ownBlock=some g:=by rw[f];rfl
    exact((((((zd.new Y).setCell (p:=vA g 0) (.inr r) _).setCell (p:=vA g 1) (.inr r) _).setCell (p:=vA g (m*2)) (.inr r) _).setCell (p:=vA g (m*2+1)) (.inr r) _).setCell (p:=vA hb 1) (.inl rfl) _)
  have Va:WH lt ((c.set 0 b).take m) 0:=by rw[<-M];exact oa.pop b
  have Q:(a::(c.set 0 b).take m).Perm c:=by rw[<-M];exact jq K (by rw[M];exact D)
  have ga:∀x∈(c.set 0 b).take m,x∈c:=fun x L=>Q.mem_iff.1 (V3 _ L)
  have z:∀(l W:World),Bw w l->W=(((((l.setCell (vA g 0) (zi b.p.ze)).setCell (vA g 1) (vI b.s)).setCell (vA g (m*2)) (.pointer none)).setCell (vA g (m*2+1)) (vI 0)).setCell (vA hb 1) (vS g m cap)) ->
    Calls prog 215 #[vP hb,vI 0] W fun e w'=>e=vT #[]/\zd (fun y=>y=hb\/v.ownBlock=some y) l w'/\∀x y,PopQ hb v c lt w (vT #[akv a,.bool true]) ((w'.setCell (vA w.heap.size 0) x).setCell (vA w.heap.size 1) y):=fun l W Y q=>by
   obtain⟨ba,na⟩:=Ka l W Y q;have Ua:zd (fun y=>y=hb\/v.ownBlock=some y) l W:=by
    have r:v.ownBlock=some g:=by rw[f];rfl
    rw[q]
    exact((((((zd.refl _ _).setCell (p:=vA g 0) (.inr r) _).setCell (p:=vA g 1) (.inr r) _).setCell (p:=vA g (m*2)) (.inr r) _).setCell (p:=vA g (m*2+1)) (.inr r) _).setCell (p:=vA hb 1) (.inl rfl) _)
   have cb:(vS g m cap).ownBlock≠some w.heap.size:=by simp[Value.ownBlock];omega
   have Pa:∀w' B,(a::B).Perm c->Vt lt B->yp w' hb (.func (.func 176) #[] #[]) (vS g m cap) B->zd (fun y=>y=hb\/v.ownBlock=some y) w w'->∀x y,PopQ hb v c lt w (vT #[akv a,.bool true]) ((w'.setCell (vA w.heap.size 0) x).setCell (vA w.heap.size 1) y):=fun w' B hp qa ua o x y =>
    .inr ⟨a,_,B,K,rfl,hp,qa,(ua.other _ _ t_ cb).other _ _ t_ cb,o.Vf (((zd.refl (fun b=>b=w.heap.size) _).setCell (p:=vA w.heap.size 0) rfl _).setCell (p:=vA w.heap.size 1) rfl _) (fun b hb e=>by omega),H m⟩
   by_cases R:m=0
   ·subst R;simp only[List.take_zero]at ba Q
    refine(ru ba).mono ?_
    rintro e w' ⟨rfl,ma⟩
    exact⟨rfl,Ua.trans (zd.new ma),Pa w' [] Q (fun j x y Lb L=>by simp at L) (ba.below ma) (na.trans (zd.new ma))⟩
   ·have Na:((c.set 0 b).take m).length=m:=by simp;omega
    have rb:=lh (k:=0) O ba o_ o_ Va (fun jb pb x L y vb=>ja jb (na.Vf pb (fun k _ e=>.inr (by rw[<-H m];exact e))) x (ga x L) y (ga y vb))
    refine rb.mono ?_
    rintro e w' ⟨rfl,B,hp,qa,ua,o⟩
    exact⟨rfl,Ua.Vf o (fun k _ e=>.inr (by rw[<-H m];exact e)),Pa w' B ((hp.cons a).trans Q) qa ua (na.Vf o (fun k _ e=>.inr (by rw[<-H m];exact e)))⟩
  rw[Wa]at c1 mb qb;have Fb:(0:Int)<=m:=o_;have Db:IntKind.i64.wrap (m:Int)=(m:Int):=by rw[IntKind.wrap_i64];omega
  have I:=fun (W:World) (q:Bw w W)=>(⟨(q.cell (p:=vA hb 1) kb).trans c1,(q.cell (p:=vA g 0) Z).trans Qa,(q.cell (p:=vA g 1) Z).trans Ia,(q.cell (p:=vA g (m*2)) Z).trans ia,(q.cell (p:=vA g (m*2+1)) Z).trans ea,(h.below q).zl.frozen 1,(by have:=(h.below q).row;rw[f]at this;exact this.frozenAt)⟩:_/\_/\_/\_/\_/\_/\∀i,W.frozen? (vA g i)=false)
  have Ea:Hid (m=0->b=a):=fun e=>by subst e;rw[K]at D;cases D;rfl
  have Ja:∀y,v.ownBlock=some y->y=g:=fun y e=>by rw[f]at e;simp[Value.ownBlock]at e;exact e.symm
  clear Ka Va Q ga ja oa h f K D la Ra Wa M H c1 Qa Ia ia ea fa gb fb Fa ob;generalize hXX:PopQ hb v c lt w=X at z ⊢;clear hXX;unfold zi at I z;unfold akv zi at z
  go_enter func179,ntmps179
  obtain⟨d,C⟩:∃d,d=(w.alloc (.cells #[.pointer none,vI 0] 226)).alloc (.cells #[.pointer none,vI 0] 226):=⟨_,rfl⟩;have La:Bw w d:=by rw[C];exact cl
  have b2:zg d w.heap.size 226 #[.pointer none,vI 0]:=by rw[C];exact s6
  have ha:zg d (w.heap.size+1) 226 #[.pointer none,vI 0]:=by rw[C];exact zg.new' s_
  have Sa:d.heap.size=w.heap.size+2:=by rw[C];simp
  obtain⟨ca,da,U,N,G,V,P⟩:=I d La;have ib:=P 0;have J:=I _ (show Bw w ((w.alloc (.cells #[.pointer none,vI 0] 226)).alloc (.cells #[.pointer none,vI 0] 226)) by exact cl);have i1:=J.1;clear J
  go_upto_region 4 with fail
  rw[<-C];clear C i1;have E:¬(hb=d.heap.size):=o_;have Kb:¬(g=d.heap.size):=o_;have Gb:¬(d.heap.size=hb):=o_;have Hb:¬(d.heap.size=g):=o_;have Ob:Hid (d.heap.size=w.heap.size+2):=Sa;clear Sa
  go_region_held3 (fun w'=>w'.cell? (vA hb 1)=some (vS g (m+1) cap)/\w'.cell? (vA g 0)=some (vP a.p.ze)/\w'.cell? (vA g 1)=some (vI a.s)) (go_keep) (fail)
  obtain⟨A,T⟩:∃A,A=(d.alloc (.cells #[vP a.p.ze,vI a.s] 226)).drew:=⟨_,rfl⟩;have ka:Bw d A:=by rw[T];exact cl
  have Oa:zg A d.heap.size 226 #[vP a.p.ze,vI a.s]:=by rw[T];exact s6
  have Ha:=b2.below ka b2.lt;have eb:=ha.below ka ha.lt;have db:=s5 La ka;rw[<-T];clear T ca da U N G V P ib b2 ha;obtain⟨ca,da,U,N,G,V,P⟩:=I A db;clear I;have Nb:=eb.cell;have Pb:¬(w.heap.size+1=g):=o_;have q2:¬(g=w.heap.size+1):=o_;have Qb:¬(hb=g):=o_;have bb:∀(W:World) (p:Addr) (u:Value),(W.setCell p u).drew=W.drew.setCell p u:=fun _ _ _=>rfl
  have Ga:Hid (∀(W:World) (p:Addr) (u:Value),(W.setCell p u).drew=W.drew.setCell p u):=bb;clear bb
  by_cases R:m=0
  ·have yb:=Ea.out R;subst R;subst yb;simp only[Nat.zero_mul,Nat.zero_add]at N G z;clear N G Ea
   go_upto_region 5 with fail
   go_region
   go_wp2_with fail
   go_region
   go_wp2_with fail
   simp only[Ga.out]
   refine(z A.drew.drew _ cl rfl).mono ?_
   rintro e t ⟨rfl,o,pa⟩
   have F:∀y,y≠hb->y≠g->¬(y=hb\/v.ownBlock=some y):=fun y Aa Ba e=>e.elim Aa (fun e=>Ba (Ja y e))
   have ta:=(Oa.drew.drew).zf o (F _ o_ o_);have s2:=(Ha.drew.drew).zf o (F _ o_ o_);have S:=ta.cell;have Bb:=s2.cell;have Cb:=s2.frozen;have Ca:=S 0;have Da:=S 1;simp only[s7]at Ca Da;clear z ca da U V P
   go_wp2_with fail
   have sa:=((s2.set 0 (vP b.p.ze)).set 1 (vI b.s)).cell
   exact Us (v:=.tuple #[.agg #[vP b.p.ze,vI b.s],.bool true]) (by simp[results,results179,go_sem,sa]) rfl (pa _ _)
  ·have Eb:¬(0=m):=fun e=>R e.symm
   have Ya:¬(0=m*2):=o_;have Za:¬(1=m*2):=o_;have ab:¬(1=m*2+1):=o_;have r4:¬(m*2=0):=o_;have r5:¬(m*2=1):=o_;have Rb:¬(m*2+1=1):=o_
   go_upto_region 5 with fail
   go_region
   go_wp2_with fail
   go_region
   go_wp2_with fail
   simp only[Ga.out]
   refine(z A.drew.drew _ cl rfl).mono ?_
   rintro e t ⟨rfl,o,pa⟩
   have F:∀y,y≠hb->y≠g->¬(y=hb\/v.ownBlock=some y):=fun y Aa Ba e=>e.elim Aa (fun e=>Ba (Ja y e))
   have ta:=(Oa.drew.drew).zf o (F _ o_ o_);have s2:=(Ha.drew.drew).zf o (F _ o_ o_);have S:=ta.cell;have Bb:=s2.cell;have Cb:=s2.frozen;have Ca:=S 0;have Da:=S 1;simp only[s7]at Ca Da;clear z ca da U N G V P
   go_wp2_with fail
   have sa:=((s2.set 0 (vP a.p.ze)).set 1 (vI a.s)).cell
   exact Us (v:=.tuple #[.agg #[vP a.p.ze,vI a.s],.bool true]) (by simp[results,results179,go_sem,sa]) rfl (pa _ _)
structure yu (W:World) (za:List zc) (rr bt:Nat) (r:zc) (zw vw va ev:Value) (ws zh:List Pw) (zt:List (Int×Int)):Prop where
 yj:∀n∈za,UA W n
 ld:Xm W rr bt (zi r.ze) (zi r.ze) zw vw va ev ws zh zt
 lf:∀p∈ws++zh,∃n∈za,n.ze=p.q/\n.zb=p.x.zb
 nm:∀p∈ws++zh,(0<=p.x.d0/\p.x.d0<=1000)/\(0<=p.x.d1/\p.x.d1<=1000)
structure Wj (za:List zc) (rr bt:Nat) (vw va ev:Value) (ws zh:List Pw) (T:Nat->Prop):Prop where
 ns:∀n∈za,¬T n.ze/\∀g,n.sl.ownBlock=some g->¬T g
 rr:¬T rr
 bt:¬T bt
 vw:∀b,vw.ownBlock=some b->¬T b
 va:∀b,va.ownBlock=some b->¬T b
 ev:∀b,ev.ownBlock=some b->¬T b
 ws:∀p∈ws++zh,¬T p.ze
section
variable {W W':World}{za:List zc}{rr bt:Nat}{r:zc}{zw vw va ev:Value}{ws zh:List Pw}{zt:List (Int×Int)}
theorem yu.zf(h:yu W za rr bt r zw vw va ev ws zh zt)(b:zd T W W')(a:Wj za rr bt vw va ev ws zh T):yu W' za rr bt r zw vw va ev ws zh zt :=
 ⟨Y3 a.ns h.yj b,⟨h.ld.bk.zf b a.bt a.vw a.va a.ws,h.ld.rnd.zf b a.rr a.ev⟩,h.lf,h.nm⟩
theorem yu.below(h:yu W za rr bt r zw vw va ev ws zh zt)(hb:Bw W W'):yu W' za rr bt r zw vw va ev ws zh zt :=
 h.zf (T:=fun _=>False) (zd.new hb) ⟨fun _ _=>⟨id,fun _ _=>id⟩,id,id,fun _ _=>id,fun _ _=>id,fun _ _=>id,fun _ _=>id⟩
theorem yu.cells(h:yu W za rr bt r zw vw va ev ws zh zt):W.cell? (vA rr 0)=some (zi r.ze)/\W.cell? (vA rr 1)=some (.pointer (some (vA bt 1)))/\W.cell? (vA rr 2)=some ev/\W.cell? (vA bt 2)=some vw/\W.cell? (vA bt 3)=some va :=
 ⟨h.ld.rnd.zl.cell 0,h.ld.rnd.zl.cell 1,h.ld.rnd.zl.cell 2,h.ld.bk.zl.cell 2,h.ld.bk.zl.cell 3⟩
theorem yu.rd(h:yu W za rr bt r zw vw va ev ws zh zt):Rd W za bt rr va zh :=
 ⟨h.yj,h.cells.2.1,h.cells.2.2.2.2,⟨h.ld.bk.yr,fun p hp=>h.ld.bk.zu p (U8 _ hp),fun p hp=>h.lf p (U8 _ hp),fun p hp=>h.nm p (U8 _ hp),by have:=h.ld.bk.len;omega⟩⟩
theorem yu.rw_(h:yu W za rr bt r zw vw va ev ws zh zt):Rw W za bt rr r vw ws :=
 ⟨h.yj,h.cells.1,h.cells.2.1,h.cells.2.2.2.1,⟨h.ld.bk.yc,fun p hp=>h.ld.bk.zu p (UM _ hp)⟩,by have:=h.ld.bk.len;omega,fun p hp=>by obtain⟨n,a,b,_⟩:=h.lf p (UM _ hp);exact⟨n,a,b⟩⟩
theorem yu.pin(h:yu W za rr bt r zw vw va ev ws zh zt)(hp:p∈ws++zh):vz W za p:=⟨h.ld.bk.zu p hp,h.lf p hp,h.nm p hp⟩
theorem yu.lt(h:yu W za rr bt r zw vw va ev ws zh zt)(a:∀b,T b->W.heap.size<=b):Wj za rr bt vw va ev ws zh T :=
 ⟨fun n c=>⟨fun e=>by have:=(h.yj n c).lt;have:=a _ e;omega,fun g d e=>by have:=((h.yj n c).row.lt g d).2;have:=a _ e;omega⟩,fun e=>by have:=h.ld.rnd.zl.lt;have:=a _ e;omega,fun e=>by have:=h.ld.bk.zl.lt;have:=a _ e;omega,fun b hb e=>by have:=UI h.ld.bk.yc hb;have:=a _ e;omega,fun b hb e=>by have:=UI h.ld.bk.yr hb;have:=a _ e;omega,fun b hb e=>by have:=UI h.ld.rnd.row hb;have:=a _ e;omega,fun p hp e=>by have:=(h.ld.bk.zu p hp).lt;have:=a _ e;omega⟩
theorem Wj.or(h:Wj za rr bt vw va ev ws zh T)(a:Wj za rr bt vw va ev ws zh T'):Wj za rr bt vw va ev ws zh (fun b=>T b\/T' b) :=
 ⟨fun n c=>⟨fun e=>e.elim (h.ns n c).1 (a.ns n c).1,fun g d e=>e.elim ((h.ns n c).2 g d) ((a.ns n c).2 g d)⟩,fun e=>e.elim h.rr a.rr,fun e=>e.elim h.bt a.bt,fun b hb e=>e.elim (h.vw b hb) (a.vw b hb),fun b hb e=>e.elim (h.va b hb) (a.va b hb),fun b hb e=>e.elim (h.ev b hb) (a.ev b hb),fun p hp e=>e.elim (h.ws p hp) (a.ws p hp)⟩
theorem Wj.mono(h:Wj za rr bt vw va ev ws zh T)(a:∀b,T' b->T b):Wj za rr bt vw va ev ws zh T' :=
 ⟨fun n c=>⟨fun e=>(h.ns n c).1 (a _ e),fun g d e=>(h.ns n c).2 g d (a _ e)⟩,fun e=>h.rr (a _ e),fun e=>h.bt (a _ e),fun b hb e=>h.vw b hb (a _ e),fun b hb e=>h.va b hb (a _ e),fun b hb e=>h.ev b hb (a _ e),fun p hp e=>h.ws p hp (a _ e)⟩
theorem Wj.rw_(h:Wj za rr bt vw va ev ws zh T):XR za bt rr vw ws T:=⟨h.ns,h.rr,h.bt,h.vw,fun p hp=>h.ws p (UM _ hp)⟩
theorem yu.dC(h:yu W za rr bt r zw vw va ev ws zh zt):∀n∈za,¬LdT rr bt vw va ev n.ze/\∀g,n.sl.ownBlock=some g->¬LdT rr bt vw va ev g:=fun n d=>by
 have b:zg W n.ze 136 n.cells:=(h.yj n d).zl;have a:=(h.yj n d).row
 refine⟨?_,fun g c=>?_⟩
 ·rintro(e|(e|e|e)|e)
  ·exact Wh b h.ld.rnd.zl d_ e
  ·exact Wh b h.ld.bk.zl d_ e
  ·exact UY h.ld.bk.yc b d_ e
  ·exact UY h.ld.bk.yr b d_ e
  ·exact UY h.ld.rnd.row b d_ e
 ·rintro(e|(e|e|e)|e)
  ·subst e;exact UY a h.ld.rnd.zl d_ c
  ·subst e;exact UY a h.ld.bk.zl d_ c
  ·exact Xu a h.ld.bk.yc d_ c e
  ·exact Xu a h.ld.bk.yr d_ c e
  ·exact Xu a h.ld.rnd.row d_ c e
end
structure V9 (rr bt:Nat) (w w':World) (vw va ev g k l:Value):Prop where
 zf:zd (LdT rr bt vw va ev) w w'
 new:LdN w vw va ev g k l
theorem V9.refl(rr bt:Nat)(w:World)(vw va ev:Value):V9 rr bt w w vw va ev vw va ev:=⟨zd.refl _ _,⟨fun b e=>e.elim (fun e=>.inl e) (fun e=>.inr (.inl e)),fun b e=>.inl e⟩⟩
theorem V9.trans{rr bt:Nat}{w:World}{vw va ev:Value}(h:V9 rr bt w m vw va ev u o y)(k:V9 rr bt m t u o y jd fu fM):V9 rr bt w t vw va ev jd fu fM:=by
 refine⟨h.zf.Vf k.zf (fun b hb e=>?_),⟨fun b e=>?_,fun b e=>?_⟩⟩
 ·rcases e with e|(e|e|e)|e
  ·exact .inl e
  ·exact .inr (.inl (.inl e))
  ·rcases h.new.all b (.inl e) with e|e|e|e
   ·exact .inr (.inl (.inr (.inl e)))
   ·exact .inr (.inl (.inr (.inr e)))
   ·exact .inr (.inr e)
   ·omega
  ·rcases h.new.all b (.inr (.inl e)) with e|e|e|e
   ·exact .inr (.inl (.inr (.inl e)))
   ·exact .inr (.inl (.inr (.inr e)))
   ·exact .inr (.inr e)
   ·omega
  ·rcases h.new.all b (.inr (.inr e)) with e|e|e|e
   ·exact .inr (.inl (.inr (.inl e)))
   ·exact .inr (.inl (.inr (.inr e)))
   ·exact .inr (.inr e)
   ·omega
 ·rcases k.new.bk b e with e|e|e
  ·exact h.new.bk b (.inl e)
  ·exact h.new.bk b (.inr e)
  ·exact .inr (.inr (Nat.le_trans h.zf.size e))
 ·rcases k.new.ev b e with e|e
  ·exact h.new.ev b e
  ·exact .inr (Nat.le_trans h.zf.size e)
theorem V9.below{rr bt:Nat}{w:World}{vw va ev:Value}(h:V9 rr bt w m vw va ev u o y)(hb:Bw m t):V9 rr bt w t vw va ev u o y:=⟨h.zf.WW hb,h.new⟩
section
variable {w:World}{za:List zc}{rr bt:Nat}{r:zc}{zw vw va ev:Value}{ws zh:List Pw}{zt:List (Int×Int)}
theorem yu.next(h:yu w za rr bt r zw vw va ev ws zh zt)(e:Xm t rr bt (zi r.ze) (zi r.ze) zw g k l d a qJ)(b:zd (LdT rr bt vw va ev) w t)(f:LdN w vw va ev g k l)(c:∀p∈d++a,p∈ws++zh):
  yu t za rr bt r zw g k l d a qJ/\V9 rr bt w t vw va ev g k l :=
 ⟨⟨Y3 h.dC h.yj b,e,fun p hp=>h.lf p (c p hp),fun p hp=>h.nm p (c p hp)⟩,⟨b,f⟩⟩
theorem yu.admit(h:yu w za rr bt r zw vw va ev ws zh zt)(j:zt.length<=10000)(b:ws[i]?=some p):
  Calls prog 173 #[vP rr,zi p.ze] w fun e w'=>e=vT #[]/\∃g k l,yu w' za rr bt r zw g k l (ws.take i++ws.drop (i+1)) (zh++[p]) (zt++[(1,p.x.zm)])/\V9 rr bt w w' vw va ev g k l:=by
 refine(o4 h.ld j b).mono ?_
 rintro e w' ⟨d,g,k,l,c,f,m⟩
 refine⟨d,g,k,l,h.next c f m (fun q hq=>?_)⟩
 rcases UU.1 hq with a|a
 ·exact UM _ (XI a)
 ·rcases UU.1 a with a|a
  ·exact U8 _ a
  ·simp at a;subst a;exact UM _ (Uq b)
theorem rM(H:zr za)(Ia:U_ za)(h:yu w za rr bt r zw vw va ev ws zh zt){Ws:List Wk}(hp:p∈ws++zh){n:zc}(P:n∈za)(Ka:n.ze=p.q)(ka:n.zb=p.x.zb)(R:yl za Ws ws zh)(I:wi (za.map zc.zq) p.x st Ws)(na:zt.length+yo Ws<=10000):
  Calls prog 172 #[vP rr,zi p.ze] w fun e w'=>e=vT #[]/\∃g k l d a,yu w' za rr bt r zw g k l d a (room (za.map zc.zq) p.x (yo Ws) ⟨Ws,zt⟩).zt/\yl za (room (za.map zc.zq) p.x (yo Ws) ⟨Ws,zt⟩).Ws d a/\V9 rr bt w w' vw va ev g k l/\d++a ⊆ ws++zh/\ws++zh ⊆ d++a:=by
 have X:∀(W:World) (vw va ev:Value) (ws zh:List Pw) (zt:List (Int×Int)),yu W za rr bt r zw vw va ev ws zh zt->p∈ws++zh->Calls prog 210 #[vP rr,vP p.ze] W fun e w'=>e=vR (xd (ug za zh p.x n))/\Bw W w':=fun W vw va ev ws zh zt ma Ga=>oJ H Ia ma.rd (ma.pin Ga) P Ka
 have Ra:=fun W (p:Pw)=>ZD (W:=W) (x:=p)
 have La:=fun W=>ZV (W:=W)
 obtain⟨L,O⟩:∃L,L=za.map zc.zq:=⟨_,rfl⟩;rw[<-O]at I ⊢;obtain⟨fin,K⟩:∃fin,fin=room L p.x (yo Ws) ⟨Ws,zt⟩:=⟨_,rfl⟩;rw[<-K];have aa:Hid (L=za.map zc.zq):=O;clear O;unfold zi
 go_enter func172,ntmps172
 go_wp2_with fail
 refine(X _ _ _ _ _ _ _ h hp).mono ?_
 rintro e m ⟨rfl,A⟩
 have z:=h.below A;generalize G:xd (ug za zh p.x n)=Sa;have Na:Hid (xd (ug za zh p.x n)=Sa):=G;clear G
 go_wp2_with fail
 go_loopg [4] (yo Ws) (fun q v wr=>∃(g k l:Value) (d a:List Pw) (s:MS),v=xd (ug za a p.x n)/\yo s.Ws<=q/\yu wr za rr bt r zw g k l d a s.zt/\yl za s.Ws d a/\wi L p.x st s.Ws/\fin=room L p.x (yo s.Ws) s/\s.zt.length+yo s.Ws<=10000/\V9 rr bt w wr vw va ev g k l/\d++a ⊆ ws++zh/\ws++zh ⊆ d++a)
 case atStart=>exact⟨vw,va,ev,ws,zh,⟨Ws,zt⟩,Na.out.symm,Nat.le_refl _,z,R,I,K,na,(V9.refl _ _ _ _ _ _).below A,fun _ e=>e,fun _ e=>e⟩
 case round =>
  clear z A K na R I;obtain⟨g,k,l,d,a,s,rfl,hq,j,C,hI,D,bb,ea,sa,M⟩:=hrel
  cases oa:ug za a p.x n with
  |none =>
   have J:=C.kl H hI.yh P ka oa;rw[<-aa.out]at J;have ga:fin=s:=by rw[D];exact room_end (fL.2 J) _
   have Z:Hid (fin=s):=ga;clear D ga J;simp only[xd]
   go_wp2_with fail
   go_end0
   refine⟨rfl,g,k,l,d,a,?_,?_,ea,sa,M⟩
   ·rw[Z.out];exact j
   ·rw[Z.out];exact C
  |some f =>
   obtain⟨i,v,qa,E,Q,S,G,Y⟩:=C.km H hI.yh P ka oa;rw[<-aa.out]at Q;have B:=fy (s:=s) Q S;obtain⟨b,F⟩:∃b:MS,b=⟨v.yi 0::(s.Ws.take qa++s.Ws.drop (qa+1)),s.zt++[(2,v.zm)]⟩:=⟨_,rfl⟩;rw[<-F]at B;have ba:=hI.step B;have T:=(nM hI.yh B).1;have ia:fin=room L p.x (yo b.Ws) b:=by rw[D,<- T];exact jP B _
   have la:yl za b.Ws (f::d) (a.take i++a.drop (i+1)):=by rw[F];exact C.X9 hI.yh E S G Y
   have U:b.zt=s.zt++[(2,f.x.zm)]:=by rw[F,Y];rfl
   have ra:b.zt.length+yo b.Ws<=10000:=by rw[U];simp;omega
   have Ba:=Uq E;have da:∀x∈(f::d)++(a.take i++a.drop (i+1)),x∈d++a:=fun x c=>by
    rcases UU.1 c with c|c
    ·rcases List.mem_cons.1 c with rfl|c
     ·exact U8 _ Ba
     ·exact UM _ c
    ·exact U8 _ (XI c)
   have ua:∀x∈d++a,x∈(f::d)++(a.take i++a.drop (i+1)):=fun x c=>by
    rcases UU.1 c with c|c
    ·exact UM _ (V3 _ c)
    ·have:=(YW E).mem_iff.1 c
     rcases List.mem_cons.1 this with rfl|this
     ·exact UM _ (List.mem_cons_self ..)
     ·exact U8 _ this
   have V:=pq j.ld.bk E;have pa:∀m u o,xh m bt (zi r.ze) zw u o (f::d) (a.take i++a.drop (i+1))->zd (wz bt g k) wr m->Xm m rr bt (zi r.ze) (zi r.ze) zw u o l (f::d) (a.take i++a.drop (i+1)) s.zt:=fun m u o hb Ja=>⟨hb,j.ld.rnd.zf Ja j.ld.bE.1 j.ld.bE.2⟩
   obtain⟨_,ab,_⟩:=j.cells;have ha:=Ra;clear La;have Aa:Hid (wi L p.x st b.Ws/\fin=room L p.x (yo b.Ws) b/\yl za b.Ws (f::d) (a.take i++a.drop (i+1))/\b.zt=s.zt++[(2,f.x.zm)]/\b.zt.length+yo b.Ws<=10000/\yo b.Ws+1=yo s.Ws):=⟨ba.1,ia,la,U,ra,T⟩;clear ba ia la U ra T B Q S D F;simp only[xd];unfold zi at V ⊢
   go_wp2_with fail
   refine V.mono ?_
   rintro e t ⟨rfl,u,o,A,ja,ha⟩
   have z:=pa t u o A ja;have N:=iw z.rnd o_ (z.bk.zu f s_) 2;clear V pa;unfold zi at N
   go_wp2_with fail
   refine N.mono ?_
   rintro e Ua ⟨rfl,y,Ha,Ea,Fa⟩
   obtain⟨Oa,Pa,Qa⟩:=j.ld.told z ja ha Ha Ea Fa;obtain⟨ta,Ca⟩:=j.next Oa Pa Qa da;have Ma:=X Ua _ _ _ _ _ _ ta (ua _ (M hp));clear N
   go_wp2_with fail
   refine Ma.mono ?_
   rintro e cb ⟨rfl,ca⟩
   obtain⟨Va,Wa,Xa,Ya,Za,db⟩:=Aa.out;generalize hv4:xd (ug za (a.take i++a.drop (i+1)) p.x n)=Ta;have Da:Hid (xd (ug za (a.take i++a.drop (i+1)) p.x n)=Ta):=hv4;clear hv4
   go_wp2_with fail
   go_roundg (yo b.Ws)
   case measure=>omega
   case rel=>exact⟨u,o,y,_,_,b,Da.out.symm,Nat.le_refl _,by rw[Ya];exact ta.below ca,Xa,Va,Wa,Za,(ea.trans Ca).below ca,fun x c=>sa (da x c),fun x c=>ua x (M c)⟩
end
def tx (za:List zc)(zh:List Pw):Option Pw->List Pw
 |some p=>if ub za zh p.x then [p] else []
 |none=>[]
section
variable {w:World}{za:List zc}{rr bt:Nat}{r:zc}{zw vw va ev:Value}{ws zh:List Pw}{zt:List (Int×Int)}
theorem yu.befs(h:yu w za rr bt r zw vw va ev ws zh zt)(f:zr za)(j:Wj za rr bt vw va ev ws zh T){c:List Pw}(e:∀p∈c,p∈ws++zh):um w T c ltP:=fun W i a g b hb=>by
 have d:=h.zf i j
 exact nD f d.yj (d.pin (e a g)) (d.pin (e b hb))
theorem yy.zf{W W':World}{c:List Pw}(h:yy W hb f v c)(a:zd T W W')(d:¬T hb)(e:∀b,v.ownBlock=some b->¬T b):yy W' hb f v c:=⟨h.zl.zf a d,s8 h.row a e,h.ne⟩
theorem gi(A:zr za)(F:U_ za)(h:yu w za rr bt r zw vw va ev ws zh zt){c:List Pw}(i:yy w hb (.func (.func 168) #[] #[]) v c)(k:Vt ltP c)(G:c.length<=50)(I:∀p∈c,p∈ws++zh)(H:Wj za rr bt vw va ev ws zh (fun y=>y=hb\/v.ownBlock=some y))(o:Option Pw)(D:∀p,o=some p->p∈ws++zh):
  Calls prog 170 #[vP rr,vP hb,xd o] w fun e w'=>e=vT #[]/\∃b d,d.Perm (c++tx za zh o)/\Vt ltP d/\yy w' hb (.func (.func 168) #[] #[]) b d/\zd (fun y=>y=hb\/v.ownBlock=some y) w w'/\(b.ownBlock=v.ownBlock\/∃g,b.ownBlock=some g/\w.heap.size<=g):=by
 have Q:=fun W=>ZV (W:=W)
 have S:=fun W (p:Pw)=>ZD (W:=W) (x:=p)
 cases o with
 |none =>
  simp only[xd,tx,List.append_nil]
  go_enter func170,ntmps170
  go_wp2_with fail
  go_end0
  exact⟨rfl,v,c,List.Perm.refl _,k,i,zd.refl _ _,.inl rfl⟩
 |some p =>
  have B:=D p rfl;have n:=gR A F h.rd (h.pin B);have l:=fun W (C:Bw w W)=>tF dZ (i.below C) G k p ((h.below C).befs A H (fun q hq=>by
   rcases UU.1 hq with e|e
   ·exact I q e
   ·simp at e;subst e;exact B))
  have f:ub za zh p.x=((xe (yf (pun zh p.x.zb)+p.x.d0) (xt za p.x.zb) == 0)&&(xe (yg (pun zh p.x.zb)+p.x.d1) (xr za p.x.zb) == 0)):=rfl;simp only[xd];obtain⟨M,j⟩:∃M,M=tx za zh (some p):=⟨_,rfl⟩;rw[<-j];have z:Hid (M=if ub za zh p.x then [p] else []):=j;clear j;generalize xe (yf (pun zh p.x.zb)+p.x.d0) (xt za p.x.zb)=a0 at *;generalize xe (yg (pun zh p.x.zb)+p.x.d1) (xr za p.x.zb)=a1 at *;unfold zi at n l ⊢;have s:∀W,(Op.equalIn 10000 35 (.agg #[vI a0,vI a1]) (.agg #[vI 0,vI 0])).run prog W=.ok (a0 == 0&&a1 == 0) W:=fun W=>eq35 9998 a0 a1 0 0 W
  generalize E:(a0 == 0&&a1 == 0)=b0 at s f;have u:Hid (ub za zh p.x=b0):=f;clear f E
  go_enter func170,ntmps170
  go_wp2_with fail
  refine n.mono ?_
  rintro e m ⟨rfl,a⟩
  have J:=l m a;have R:=s m;clear n l s
  cases b0
  ·go_wp2_with fail
   go_end0
   refine⟨rfl,v,c,?_,k,i.below a,zd.new a,.inl rfl⟩
   rw[z.out,u.out];simp
  ·go_wp2_with fail
   refine J.mono ?_
   rintro e t ⟨rfl,b,d,K,L,N,O,P⟩
   go_wp2_with fail
   go_end0
   refine⟨rfl,b,d,?_,L,N,(zd.new a).trans O,P.imp id (fun ⟨g,g1,g2⟩=>⟨g,g1,Nat.le_trans a.size g2⟩)⟩
   rw[z.out,u.out];exact K
end
section
variable {za:List zc}{Ws:List Wk}{ws zh:List Pw}
theorem mM(Ws:List Wk)(h:∀x∈Ws,0<=x.st):(Ws.filter (fun x=>x.st == 0)++Ws.filter (fun x=>decide (0<x.st))).Perm Ws:=by
 have a:=List.filter_append_perm (fun x:Wk=>x.st == 0) Ws
 refine List.Perm.trans (List.Perm.append_left _ (List.Perm.of_eq (List.filter_congr fun x b=>?_))) a
 have:=h x b
 by_cases e:x.st=0
 ·simp[e]
 ·rw[beq_eq_false_iff_ne.2 e,decide_eq_true o_];rfl
theorem yl.nums(R:yl za Ws ws zh)(h:∀x∈Ws,0<=x.st):((ws++zh).map (·.x.zm)).Perm (Ws.map (·.zm)):=by
 obtain⟨b,e,f,_⟩:=R.a;have c:(ws++zh).map (·.x.zm)=(ws.map (·.x)).map (·.zm)++(zh.map (·.x)).map (·.zm):=by rw[List.map_append,List.map_map,List.map_map];rfl
 have d:(b.map (·.yi 0)).map (·.zm)=b.map (·.zm):=by rw[List.map_map];rfl
 rw[c,e,d,R.w]
 have:=(mM Ws h).map (·.zm)
 rw[List.map_append]at this
 exact List.Perm.trans (List.Perm.append_left _ (f.map _)) this
theorem yl.uniq(R:yl za Ws ws zh)(b:vr Ws st){q:Pw}(hp:p∈ws++zh)(hq:q∈ws++zh)(e:p.x.zm=q.x.zm):p=q:=by
 have d:((ws++zh).map (·.x.zm)).Nodup:=(R.nums (fun x g=>(b.st x g).1)).nodup_iff.2 b.nums;obtain⟨i,c⟩:=Vh hp;obtain⟨j,a⟩:=Vh hq
 have:i=j:=bK (f:=fun p:Pw=>p.x.zm) d c a e
 subst this;rw[c]at a;injection a
theorem yl.idx(R:yl za Ws ws zh)(d:vr Ws st){a:Pw}(e:a∈ws++zh)(g:Vr Ws a.x.zb=some a.x):∃i:Nat,ws[i]?=some a:=by
 obtain⟨b,c,_⟩:=VG g;have h:a.x∈ws.map (·.x):=by rw[R.w];exact Vu.2 ⟨b,by simp[c]⟩
 obtain⟨p,hp,f⟩:=UC.1 h
 have:p=a:=R.uniq d (UM _ hp) e (by rw[f])
 subst this
 exact Vh hp
theorem ZX(h:Vn ws b=some p):p∈ws:=List.mem_of_find?_eq_some h
theorem gI{l:List zc}(h:p∈U7 ws l):p∈ws:=by
 obtain⟨n,_,a⟩:=List.mem_filterMap.1 h
 exact ZX a
theorem yl.YX(R:yl za Ws ws zh)(T:zr za)(b:U_ za){n:zc}(c:n∈za)(h:Vn ws n.ze=some p):Vr Ws n.zb=some p.x/\p.x.zb=n.zb:=by
 have:=R.head T b c
 unfold Vn at h;rw[h]at this;have a:Vr Ws n.zb=some p.x:=this.symm
 exact⟨a,(VG a).2.2⟩
theorem yl.more(R:yl za Ws ws zh)(T:zr za)(b:U_ za)(f:xm Ws){n:zc}(a:n∈za):(tx za zh (Vn ws n.ze)).map (·.x)=z6 (za.map zc.zq) Ws n.zb:=by
 have c:=R.head T b a;unfold z6 tx
 cases hp:Vn ws n.ze with
 |none =>
  unfold Vn at hp;rw[hp]at c;rw[<-c];rfl
 |some p =>
  obtain⟨d,e⟩:=R.YX T b a hp;rw[d]
  simp only
  rw[R.own T f (by rw[e];exact(T.ok n a).1)]
  split<;>rfl
theorem yl.mj(R:yl za Ws ws zh)(T:zr za)(k:U_ za)(o:vr Ws st){l:List zc}(f:l.Perm za){c:List Pw}(i:c.Perm ((U7 ws l).filter fun p=>ub za zh p.x)):VA (za.map zc.zq) Ws (c.map (·.x)):=by
 have j:∀p,p∈U7 ws l↔∃n∈za,Vn ws n.ze=some p:=fun p=>by
  unfold U7;rw[List.mem_filterMap]
  constructor
  ·rintro⟨n,a,b⟩;exact⟨n,f.mem_iff.1 a,b⟩
  ·rintro⟨n,a,b⟩;exact⟨n,f.mem_iff.2 a,b⟩
 have B:((U7 ws l).map (·.x.zb)).Nodup:=by
  have t:(l.map (·.zb)).Nodup:=(f.map _).nodup_iff.2 T.nodup;have A:((U7 ws l).map (·.x.zb)).Sublist (l.map (·.zb)):=by
   have v:∀n∈l,n∈za:=fun n h=>f.mem_iff.1 h
   clear j i t f
   induction l with
   |nil=>exact List.Sublist.slnil
   |cons n l C =>
    have r:=C (fun m q=>v m (V3 _ q));have e:U7 ws (n::l)=(Vn ws n.ze).toList++U7 ws l:=by
     unfold U7
     cases h:Vn ws n.ze<;>simp[List.filterMap_cons,h]
    rw[e]
    cases h:Vn ws n.ze with
    |none=>simpa using r.cons n.zb
    |some p =>
     have:=(R.YX T k (v n (List.mem_cons_self ..)) h).2
     simp only[Option.toList_some,List.singleton_append,List.map_cons];rw[this]
     exact r.cons_cons _
  exact A.nodup t
 refine⟨?_,fun y=>?_⟩
 ·have a:((c.map (·.x)).map (·.zb)).Nodup:=by
   rw[List.map_map]
   refine((i.map _).nodup_iff).2 ?_
   exact B.sublist ((List.filter_sublist ..).map _)
  exact Yz a
 ·rw[UC]
  constructor
  ·rintro⟨p,hp,rfl⟩
   obtain⟨a,b⟩:=Vu.1 (i.mem_iff.1 hp);obtain⟨n,g,h3⟩:=(j p).1 a;obtain⟨g1,g2⟩:=R.YX T k g h3;rw[R.own T o.yh (by rw[g2];exact(T.ok n g).1)]at b
   exact⟨by rw[g2];exact g1,b⟩
  ·rintro⟨a,b⟩
   obtain⟨g1,g2,_⟩:=VG a;have q:y∈ws.map (·.x):=by rw[R.w];exact Vu.2 ⟨g1,by simp[g2]⟩
   obtain⟨E,z,D⟩:=UC.1 q;obtain⟨n,g,_,s⟩:=R.zj E (UM _ z);rw[D]at s;have d:=R.head T k g;rw[s,a]at d
   cases hq:Vn ws n.ze with
   |none=>unfold Vn at hq;rw[hq]at d;cases d
   |some p =>
    unfold Vn at hq;rw[hq]at d;have u:p.x=y:=by simpa using d
    refine⟨p,i.mem_iff.2 (Vu.2 ⟨(j p).2 ⟨n,g,hq⟩,?_⟩),u⟩
    rw[u,R.own T o.yh (o.yh.ok y g1).1]
    exact b
end
theorem Wj.ldt{za:List zc}{rr bt:Nat}{vw va ev:Value}{ws zh:List Pw}(h:Wj za rr bt vw va ev ws zh T)(hb:T b):¬LdT rr bt vw va ev b:=by
 rintro(e|(e|e|e)|e)
 ·subst e;exact h.rr hb
 ·subst e;exact h.bt hb
 ·exact h.vw b e hb
 ·exact h.va b e hb
 ·exact h.ev b e hb
theorem Wj.step{za:List zc}{rr bt:Nat}{w:World}{vw va ev:Value}{ws zh:List Pw}(h:Wj za rr bt vw va ev ws zh T)(i:V9 rr bt w w' vw va ev g k l)(c:∀b,T b->b<w.heap.size)(f:∀p∈d++a,p∈ws++zh):Wj za rr bt g k l d a T:=by
 have zb:∀b,g.ownBlock=some b\/k.ownBlock=some b\/l.ownBlock=some b->¬T b:=fun b e hb=>by
  rcases i.new.all b e with e|e|e|e
  ·exact h.vw b e hb
  ·exact h.va b e hb
  ·exact h.ev b e hb
  ·have:=c b hb;omega
 exact⟨h.ns,h.rr,h.bt,fun b hb=>zb b (.inl hb),fun b hb=>zb b (.inr (.inl hb)),fun b hb=>zb b (.inr (.inr hb)),fun p hp=>h.ws p (f p hp)⟩
end
section
open Go.RowKit Go.Shelf
variable {e:TypeId}{b hb n size:Nat}{xs:List Value}{T:Nat->Prop}{aR a_ cG f u:Value}{vs:Array Value}{g j z:List Pw}{a:SS}{d:List Wk}
def vg (W:World)(b:Nat):Prop:=∃vs t f,W.heap[b]?=some (.cells vs t f)
theorem Yh{W:World}{v:Value}(h:W.ownsRow 0 e size v n xs)(hb:v.ownBlock=some b):vg W b:=by
 rcases h.2 with ⟨rfl,_⟩|⟨g,cap,c,rfl,_,a,_⟩
 ·cases hb
 ·simp[Value.ownBlock]at hb;subst hb;exact⟨_,_,_,a⟩
theorem Z2{A i:World}(d:zd T A i){D:Nat}{x:Option (List Deferred)}(a:A.heap[D]?=some (.deferred x))(c:∀b,T b->vg A b):i.heap[D]?=some (.deferred x):=by
 refine(d.block D (Vz.1 a).1 (fun e=>?_)).trans a
 obtain⟨vs,t,f,h⟩:=c D e;rw[a]at h
 cases h
theorem yy.isC{W:World}{v:Value}{c:List Pw}(h:yy W hb f v c):∀b,(b=hb\/v.ownBlock=some b)->vg W b:=fun b e=>by
 rcases e with rfl|e
 ·exact⟨_,_,_,h.zl⟩
 ·exact Yh h.row e
theorem yy.Xk{W:World}{v:Value}{c:List Pw}(h:yy W hb f v c){t:TypeId}(a:zg W b t vs)(d:t≠247)(g:t≠95):¬(b=hb\/v.ownBlock=some b):=by
 rintro(e|e)
 ·exact Wh a h.zl d e
 ·exact UY h.row a (fun e=>g e.symm) e
section
variable {W:World}{za:List zc}{rr bt:Nat}{r:zc}{zw vw va ev:Value}{ws zh:List Pw}{zt:List (Int×Int)}
theorem yu.isC(h:yu W za rr bt r zw vw va ev ws zh zt):∀b,LdT rr bt vw va ev b->vg W b:=fun b e=>by
 rcases e with rfl|(rfl|e|e)|e
 ·exact⟨_,_,_,h.ld.rnd.zl⟩
 ·exact⟨_,_,_,h.ld.bk.zl⟩
 ·exact Yh h.ld.bk.yc e
 ·exact Yh h.ld.bk.yr e
 ·exact Yh h.ld.rnd.row e
theorem yu.Xk(h:yu W za rr bt r zw vw va ev ws zh zt){t:TypeId}(a:zg W b t vs)(c:t≠188)(d:t≠102)(h3:t≠95)(f:t≠60):¬LdT rr bt vw va ev b:=by
 rintro(e|(e|e|e)|e)
 ·exact Wh a h.ld.rnd.zl c e
 ·exact Wh a h.ld.bk.zl d e
 ·exact UY h.ld.bk.yc a (fun e=>h3 e.symm) e
 ·exact UY h.ld.bk.yr a (fun e=>h3 e.symm) e
 ·exact UY h.ld.rnd.row a (fun e=>f e.symm) e
end
structure GC (za:List zc) (rr bt:Nat) (r:zc) (zw:Value) (w:World) (D:Nat) (t o m:Value) (yf l:List Pw) (fin:SS) (k:Nat) (A:World) (v:Value) (c:List Pw) (vw va ev:Value) (ws zh:List Pw) (s:SS):Prop where
 hp:yy A (w.heap.size+1) (.func (.func 168) #[] #[]) v c
 heap:Vt ltP c
 mem:∀p∈c,p∈ws++zh
 ld:yu A za rr bt r zw vw va ev ws zh s.zt
 rel:yl za s.Ws ws zh
 inv:ye s
 it:fin=wW (ej (za.map zc.zq)) k s
 ms:x9 (za.map zc.zq) s.Ws<=k
 bd:s.zt.length+25*k<=1000
 st:V9 rr bt w A t o m vw va ev
 out:Wj za rr bt vw va ev ws zh (fun y=>y=w.heap.size+1\/v.ownBlock=some y)
 low:∀b,v.ownBlock=some b->w.heap.size<=b
 sub:∀p∈ws++zh,p∈yf++l
 b1:zz A w.heap.size 186 (vP rr)
 b3:zz A (w.heap.size+1+1) 216 (vP (w.heap.size+1))
 d:A.heap[D]?=some (.deferred (some []))
section
variable {za:List zc}{rr bt:Nat}{r:zc}{zw:Value}{w:World}{D:Nat}{t o m:Value}{yf l:List Pw}{fin:SS}{k:Nat}{A i:World}{v:Value}{c:List Pw}{vw va ev:Value}{ws zh:List Pw}{s:SS}
theorem GC.below(h:GC za rr bt r zw w D t o m yf l fin k A v c vw va ev ws zh s)(hb:Bw A i):GC za rr bt r zw w D t o m yf l fin k i v c vw va ev ws zh s :=
 ⟨h.hp.below hb,h.heap,h.mem,h.ld.below hb,h.rel,h.inv,h.it,h.ms,h.bd,h.st.below hb,h.out,h.low,h.sub,h.b1.below hb h.b1.lt,h.b3.below hb h.b3.lt,(hb.block D (Vz.1 h.d).1).trans h.d⟩
theorem GC.aq(h:GC za rr bt r zw w D t o m yf l fin k A v c vw va ev ws zh s)(hp:yy i (w.heap.size+1) (.func (.func 168) #[] #[]) u z)(B:Vt ltP z)(C:∀p∈z,p∈ws++zh)(a:zd (fun y=>y=w.heap.size+1\/v.ownBlock=some y) A i)(n:u.ownBlock=v.ownBlock\/∃g,u.ownBlock=some g/\A.heap.size<=g):GC za rr bt r zw w D t o m yf l fin k i u z vw va ev ws zh s:=by
 have E:∀b,(b=w.heap.size+1\/v.ownBlock=some b)->w.heap.size<=b:=fun b e=>e.elim (fun e=>by omega) (h.low b)
 have F:=h.st.zf.size
 refine⟨hp,B,C,h.ld.zf a h.out,h.rel,h.inv,h.it,h.ms,h.bd,⟨h.st.zf.Vf a (fun b hb e=>by have:=E b e;omega),h.st.new⟩,?_,?_,h.sub,h.b1.zf a (h.hp.Xk h.b1 d_ d_),h.b3.zf a (h.hp.Xk h.b3 d_ d_),Z2 a h.d h.hp.isC⟩
 ·rcases n with e|⟨g,e,j⟩
  ·rw[e];exact h.out
  ·have q:=h.out.mono (T':=fun y=>y=w.heap.size+1) (fun b e=>.inl e);have x:=h.ld.lt (T:=fun y=>u.ownBlock=some y) (fun b f=>by rw[e]at f;cases f;exact j)
   exact q.or x
 ·intro b hb
  rcases n with e|⟨g,e,j⟩
  ·rw[e]at hb;exact h.low b hb
  ·rw[e]at hb;cases hb;omega
theorem GC.en(h:GC za rr bt r zw w D t o m yf l fin k A v c vw va ev ws zh s){k':Nat}(z:yu i za rr bt r zw aR a_ cG j g a.zt)(n:V9 rr bt A i vw va ev aR a_ cG)(q:∀p∈j++g,p∈ws++zh)(C:∀p∈ws++zh,p∈j++g)(B:yl za a.Ws j g)(y:ye a)(x:fin=wW (ej (za.map zc.zq)) k' a)(u:x9 (za.map zc.zq) a.Ws<=k')(E:a.zt.length+25*k'<=1000):GC za rr bt r zw w D t o m yf l fin k' i v c aR a_ cG j g a:=by
 have f:=n.zf;have F:∀b,(b=w.heap.size+1\/v.ownBlock=some b)->b<A.heap.size:=fun b e=>e.elim (fun e=>by have:=h.hp.zl.lt;omega) (fun e=>UI h.hp.row e)
 refine⟨h.hp.zf f (h.out.ldt (.inl rfl)) (fun b hb=>h.out.ldt (.inr hb)),h.heap,fun p hp=>C p (h.mem p hp),z,B,y,x,u,E,h.st.trans n,h.out.step n F q,h.low,fun p hp=>h.sub p (q p hp),h.b1.zf f (h.ld.Xk h.b1 d_ d_ d_ d_),h.b3.zf f (h.ld.Xk h.b3 d_ d_ d_ d_),Z2 f h.d h.ld.isC⟩
def G1 (za:List zc)(rr bt:Nat)(r:zc)(zw:Value)(w:World)(D:Nat)(t o m:Value)(yf l:List Pw)(fin:SS)(k:Nat)(d e:Value)(A:World):Prop :=
 ∃v c vw va ev ws zh s,GC za rr bt r zw w D t o m yf l fin k A v c vw va ev ws zh s /\
  ((e=.bool false/\d=.pointer none/\fin=s)\/(e=.bool true/\∃a,d=vP a.ze/\a∈ws++zh/\VA (za.map zc.zq) s.Ws (a.x::c.map (·.x))/\∀b∈c,ltP b a=false))
theorem GC.len(h:GC za rr bt r zw w D t o m yf l fin k A v c vw va ev ws zh s)(f:VA (za.map zc.zq) s.Ws (c.map (·.x))):c.length<=24:=by
 have i:(c.map (·.x)).length<=s.Ws.length:=by
  have a:∀y∈c.map (·.x),y∈s.Ws:=fun y b=>(VG ((f.all y).1 b).1).1
  have d:=f.nd;have p:((c.map (·.x)).map (·.zm)).Nodup:=by
   rw[List.nodup_iff_pairwise_ne,List.pairwise_map];rw[List.nodup_iff_pairwise_ne]at d
   exact d.imp_of_mem (fun j hb g e=>g (YL h.inv.yh.nums (a _ j) (a _ hb) e))
  have:=YD p (l':=s.Ws.map (·.zm)) (fun x n=>by
   obtain⟨y,b,rfl⟩:=UC.1 n
   exact UC.2 ⟨y,a y b,rfl⟩)
  simpa using this
 have q:=h.inv.yh.yh.len
 simp at i
 omega
theorem GC.pop(q:zr za)(h:GC za rr bt r zw w D t o m yf l fin k A v c vw va ev ws zh s)(f:VA (za.map zc.zq) s.Ws (c.map (·.x))):
  Calls prog 171 #[vP (w.heap.size+1)] A fun e i=>∃g n,e=vT #[g,n]/\G1 za rr bt r zw w D t o m yf l fin k g n i:=by
 have I:=h.len f
 refine(lM dZ h.hp o_ h.heap (h.ld.befs q h.out h.mem)).mono ?_
 rintro e i (⟨B,rfl,rfl⟩|⟨a,u,z,C,rfl,d,h3,E,F,G⟩)
 ·subst B
  refine⟨_,_,rfl,v,[],vw,va,ev,ws,zh,s,h,.inl ⟨rfl,rfl,?_⟩⟩
  rw[h.it]
  exact Yu (f.ends h.inv) k
 ·have y:=h.heap.min dZ C (Yt _)
  refine⟨_,_,rfl,u,z,vw,va,ev,ws,zh,s,h.aq E h3 (fun p hp=>h.mem p (d.mem_iff.1 (V3 _ hp))) F (.inl G),.inr ⟨rfl,a,rfl,h.mem a (d.mem_iff.1 (List.mem_cons_self ..)),?_,fun b hb=>?_⟩⟩
  ·exact f.perm (d.symm.map (·.x))
  ·obtain⟨j,H⟩:=Vh (d.mem_iff.1 (V3 a hb))
   exact y j b H
end
theorem rG{L:List zx}{s:SS}(I:ye s)(f:VA L s.Ws d):d.length<=24:=by
 have k:d.length<=s.Ws.length:=by
  have a:∀y∈d,y∈s.Ws:=fun y b=>(VG ((f.all y).1 b).1).1
  have c:=f.nd;have j:(d.map (·.zm)).Nodup:=by
   rw[List.nodup_iff_pairwise_ne,List.pairwise_map];rw[List.nodup_iff_pairwise_ne]at c
   exact c.imp_of_mem (fun h hb g e=>g (YL I.yh.nums (a _ h) (a _ hb) e))
  have:=YD j (l':=s.Ws.map (·.zm)) (fun x i=>by
   obtain⟨y,b,rfl⟩:=UC.1 i
   exact UC.2 ⟨y,a y b,rfl⟩)
  simpa using this
 have l:=I.yh.yh.len
 omega
section
variable {za:List zc}{rr bt:Nat}{r:zc}{zw:Value}{w:World}{D:Nat}{t o m:Value}{yf l:List Pw}{fin:SS}{k:Nat}{A i:World}{v:Value}{c:List Pw}{vw va ev:Value}{ws zh:List Pw}{s:SS}
theorem GC.owned(h:GC za rr bt r zw w D t o m yf l fin k A v c vw va ev ws zh s){a:Pw}(I:a∈ws++zh)(u:VA (za.map zc.zq) s.Ws (a.x::c.map (·.x)))(q:∀b∈c,ltP b a=false):
  wi (za.map zc.zq) a.x s.st s.Ws/\s.zt.length+yo s.Ws<=10000/\(room (za.map zc.zq) a.x (yo s.Ws) ⟨s.Ws,s.zt⟩).zt.length<=10000 /\
  (∀yg d,yl za (room (za.map zc.zq) a.x (yo s.Ws) ⟨s.Ws,s.zt⟩).Ws yg d->a∈yg++d->∃i:Nat,yg[i]?=some a/\yl za (VS (za.map zc.zq) a.x s).Ws (yg.take i++yg.drop (i+1)) (d++[a])) /\
  ye (VS (za.map zc.zq) a.x s)/\VA (za.map zc.zq) (VS (za.map zc.zq) a.x s).Ws (z6 (za.map zc.zq) (VS (za.map zc.zq) a.x s).Ws a.x.zb++c.map (·.x)) /\
  ∃k',k=k'+1/\fin=wW (ej (za.map zc.zq)) k' (VS (za.map zc.zq) a.x s)/\x9 (za.map zc.zq) (VS (za.map zc.zq) a.x s).Ws<=k'/\(VS (za.map zc.zq) a.x s).zt.length+25*k'<=1000:=by
 obtain⟨d1,f,p⟩:=u.does h.inv (fun y z=>by
  obtain⟨b,hb,rfl⟩:=UC.1 z
  exact q b hb)
 obtain⟨i1,i2,i3,i4,i5⟩:=h.inv.own d1;have H:yo s.Ws<=24:=Nat.le_trans (Wt _ _) h.inv.yh.yh.len;have J:=h.bd;have G:=h.ms;obtain⟨g1,g2,g3,g4⟩:=wi.room (yo s.Ws) ⟨s.Ws,s.zt⟩ f
 simp only at g3
 refine⟨f,o_,o_,fun yg d j C=>?_,i1,p,?_⟩
 ·obtain⟨i,g⟩:=j.idx g1.yh C g1.head;obtain⟨E,F,_⟩:=VG g1.head;obtain⟨B,n⟩:=Vh E
  refine⟨i,g,?_⟩
  have e:(VS (za.map zc.zq) a.x s).Ws=(room (za.map zc.zq) a.x (yo s.Ws) ⟨s.Ws,s.zt⟩).Ws.set B (a.x.yi (s.st+1)):=a7 g1.yh.nums n _;rw[e]
  exact j.admit g1.yh h.inv.st0 g n F rfl
 ·obtain⟨k',rfl⟩:∃k',k=k'+1:=⟨k-1,o_⟩
  exact⟨k',rfl,by rw[h.it];exact aW d1 k',o_,o_⟩
theorem GC.eF(b:zr za)(d:U_ za)(h:GC za rr bt r zw w D t o m yf l fin k A v c vw va ev ws zh s){n:zc}(C:n∈za)(f:VA (za.map zc.zq) s.Ws (z6 (za.map zc.zq) s.Ws n.zb++c.map (·.x))):
  Calls prog 170 #[vP rr,vP (w.heap.size+1),xd (Vn ws n.ze)] A fun e i=>e=vT #[]/\∃u z,GC za rr bt r zw w D t o m yf l fin k i u z vw va ev ws zh s/\VA (za.map zc.zq) s.Ws (z.map (·.x)):=by
 have B:=rG h.inv f
 simp at B
 refine(gi b d h.ld h.hp h.heap o_ h.mem h.out (Vn ws n.ze) (fun p e=>UM _ (ZX e))).mono ?_
 rintro e i ⟨y,u,z,g,E,F,G,H⟩
 have j:∀p∈tx za zh (Vn ws n.ze),p∈ws:=fun p hp=>by
  unfold tx at hp
  cases a:Vn ws n.ze with
  |none=>rw[a]at hp;cases hp
  |some q =>
   rw[a]at hp
   simp only at hp
   split at hp
   ·simp at hp;subst hp;exact ZX a
   ·cases hp
 refine⟨y,u,z,h.aq F E (fun p hp=>?_) G H,?_⟩
 ·rcases UU.1 (g.mem_iff.1 hp) with e|e
  ·exact h.mem p e
  ·exact UM _ (j p e)
 ·refine f.perm ?_
  rw[<-h.rel.more b d h.inv.yh.yh C]
  have:=g.map (·.x)
  rw[List.map_append]at this
  exact List.perm_append_comm.trans this.symm
end
end
section
open Go.RowKit
variable {w:World}{bt rr:Nat}{va:Value}{l:List Pw}{p:Pw}
def ltA (a b:Ak):Bool:=before (a.p.x,a.s) (b.p.x,b.s)
theorem ah:Ord ltA:=⟨fun a b h=>nj _ _ h,fun a b c d e=>mI _ _ _ d e⟩
theorem pg{a b:Ak}(j:zg w a.p.ze 105 a.p.cells)(hb:zg w b.p.ze 105 b.p.cells):
  Calls prog 176 #[akv a,akv b] w fun e w'=>e=vR (.bool (ltA a b))/\Bw w w':=by
 have t:=j.lt;have lb:=hb.lt;have u:∀W,Bw w W->W.cell? (vA a.p.ze 0)=some (vI a.p.x.zm):=fun W h=>(j.below h t).cell 0
 have v:∀W,Bw w W->W.cell? (vA b.p.ze 0)=some (vI b.p.x.zm):=fun W h=>(hb.below h lb).cell 0
 obtain⟨c,g⟩:∃c,c=(w.alloc (.cells #[vP a.p.ze,vI a.s] 226)).alloc (.cells #[vP b.p.ze,vI b.s] 226):=⟨_,rfl⟩;have i:Bw w c:=by rw[g];exact cl
 have b1:zg c w.heap.size 226 #[vP a.p.ze,vI a.s]:=by rw[g];exact s6
 have b2:zg c (w.heap.size+1) 226 #[vP b.p.ze,vI b.s]:=by rw[g];exact zg.new' s_
 have q:=u _ i;have r:=v _ i;have k:=b1.cell 0;have l:=b1.cell 1;have m:=b2.cell 0;have n:=b2.cell 1;simp only[s7]at k l m n;have f:ltA a b=if a.s≠b.s then decide (a.s<b.s) else decide (a.p.x.zm<b.p.x.zm):=rfl
 unfold akv zi
 go_enter func176,ntmps176
 rw[g]at q r k l m n
 by_cases d:a.s=b.s
 ·rw[f,if_neg (by simp[d])];have o:(a.s == b.s)=true:=by simp[d]
  clear f d
  go_upto_region 3 with fail
  go_region
  all_goals go_wp2_with fail
  all_goals go_ret
  all_goals exact⟨rfl,cl⟩
 ·rw[f,if_pos d];have o:(a.s == b.s)=false:=by simp[d]
  clear f
  go_wp2_with fail
  go_ret
  exact⟨rfl,cl⟩
theorem wrap64_in{n:Int}(a:0<=n)(b:n<=2000000000):wrap64 n=n:=by unfold wrap64;omega
theorem zg.new2(W:World)(o:Obj)(t:TypeId)(vs:Array Value):zg ((W.alloc o).alloc (.cells vs t)) (W.heap.size+1) t vs:=by
 have:=zg.new (W.alloc o) t vs
 rwa[Vv]at this
def WT (za:List zc)(l:List Pw)(x:Wk):Int:=max (xe (yf (pun l x.zb)+x.d0) (xt za x.zb)*max 1 (xr za [])) (xe (yg (pun l x.zb)+x.d1) (xr za x.zb)*max 1 (xt za []))
theorem gV{za:List zc}(T:zr za)(ea:U_ za)(h:Rd w za bt rr va l){r:zc}(ga:r∈za)(ca:r.zb=[])(aa:w.cell? (vA rr 0)=some (zi r.ze))(hp:vz w za p):
  Calls prog 178 #[vP rr,zi p.ze] w fun e w'=>e=vR (akv ⟨p,WT za l p.x⟩)/\Bw w w':=by
 have P:=fun W (j:Bw w W)=>gR T ea (h.below j) (hp.below j)
 have B:=fun W (j:Bw w W)=>Zo T ga W (h.below j).yj
 have Q:rr<w.heap.size:=VE _ _ h.bk;have q:=fun W (j:Bw w W)=>(j.cell (p:=vA rr 0) Q).trans aa
 have ubd:=h.ubd p.x.zb;have ma:=YT T p.x.zb;have gb:=YT T [];have Ma:=hp.zm;rw[ca]at B;unfold WT;have Ra:(0<=xe (yf (pun l p.x.zb)+p.x.d0) (xt za p.x.zb)/\xe (yf (pun l p.x.zb)+p.x.d0) (xt za p.x.zb)<=100000)/\(0<=xe (yg (pun l p.x.zb)+p.x.d1) (xr za p.x.zb)/\xe (yg (pun l p.x.zb)+p.x.d1) (xr za p.x.zb)<=100000):=by unfold xe;omega
 generalize xe (yf (pun l p.x.zb)+p.x.d0) (xt za p.x.zb)=a0 at *;generalize xe (yg (pun l p.x.zb)+p.x.d1) (xr za p.x.zb)=a1 at *;generalize xt za []=n0 at *;generalize xr za []=n1 at *;unfold akv zi at *
 go_enter func178,ntmps178
 go_upto_region 1 with fail
 obtain⟨b,o⟩:∃b,b=w.alloc (.cells #[.pointer none,vI 0] 226):=⟨_,rfl⟩;have f:Bw w b:=by rw[o];exact cl
 have M:zg b w.heap.size 226 #[.pointer none,vI 0]:=by rw[o];exact s6
 have mb:w.heap.size+1<=b.heap.size:=by rw[o];simp
 rw[<-o];clear o;have ha:=q _ f;have Y:¬(rr=b.heap.size):=o_;have U:¬(b.heap.size=rr):=o_;have Z:¬(rr=b.heap.size+1):=o_;have V:¬(b.heap.size+1=rr):=o_
 go_cut [5,6] from 8 to 15 (fun u y H=>∃s t,u=vP s/\y=vP t/\Bw b H/\zg H s 35 #[vI a0,vI a1]/\zg H t 35 #[vI n0,vI n1]/\b.heap.size<=s/\b.heap.size<=t)
 case first =>
  go_region_held3 (fun w'=>w'.cell? (vA rr 0)=some (vP r.ze)) (go_keep)
   (first
   |(go_at_call 207;refine(P _ (s5 f ?_)).mono ?_;(focus exact cl);rintro e c ⟨rfl,C⟩;have K:Bw b c:=s5 cl C;have rb:=q _ (s5 f K);have jb:=K.size;have qa:¬(rr=c.heap.size):=o_;have oa:¬(c.heap.size=rr):=o_;have ra:¬(rr=c.heap.size+1):=o_;have sa:¬(c.heap.size+1=rr):=o_;(try (have d1:zg c b.heap.size 35 #[vI 0,vI 0]:=zg.below (by first|(with_reducible exact zg.new _ _ _)|(with_reducible exact zg.drew (zg.new _ _ _))|(with_reducible exact zg.alloc (zg.new _ _ _) _)|(with_reducible exact zg.drew (zg.alloc (zg.new _ _ _) _))|(with_reducible exact zg.new2 _ _ _ _)|(with_reducible exact zg.drew (zg.new2 _ _ _ _))) C g_;have ba:=d1.lt;have ib:¬(b.heap.size=c.heap.size):=o_;have ab:¬(c.heap.size=b.heap.size):=o_;have Ba:¬(b.heap.size=c.heap.size+1):=o_;have Ca:¬(c.heap.size+1=b.heap.size):=o_));(try (have J:zg c (b.heap.size+1) 35 #[vI 0,vI 0]:=zg.below (by first|(with_reducible exact zg.new _ _ _)|(with_reducible exact zg.drew (zg.new _ _ _))|(with_reducible exact zg.alloc (zg.new _ _ _) _)|(with_reducible exact zg.drew (zg.alloc (zg.new _ _ _) _))|(with_reducible exact zg.new2 _ _ _ _)|(with_reducible exact zg.drew (zg.new2 _ _ _ _))) C g_;have X:=J.lt;have bb:¬(b.heap.size+1=c.heap.size):=o_;have cb:¬(c.heap.size=b.heap.size+1):=o_;have Da:¬(b.heap.size+1=c.heap.size+1):=o_;have Ea:¬(c.heap.size+1=b.heap.size+1):=o_)))
   |(go_at_call 85;refine(B _ (s5 f ?_)).mono ?_;(focus exact cl);rintro e d ⟨rfl,k⟩;have L:Bw b d:=s5 cl k;have vb:=q _ (s5 f L);have kb:=L.size;have ta:¬(rr=d.heap.size):=o_;have pa:¬(d.heap.size=rr):=o_;have ua:¬(rr=d.heap.size+1):=o_;have Aa:¬(d.heap.size+1=rr):=o_;(try (have:=ba;have E:zg d b.heap.size 35 #[vI 0,vI 0]:=zg.below (by first|(with_reducible exact d1)|(with_reducible exact d1.alloc _)) k g_;have Sa:=E.cell;have Na:=E.frozen;have Va:=E.lt;have Fa:¬(b.heap.size=d.heap.size):=o_;have Ga:¬(d.heap.size=b.heap.size):=o_));(try (have:=X;have A:zg d (b.heap.size+1) 35 #[vI 0,vI 0]:=zg.below (by with_reducible exact J) k g_;have Ta:=A.cell;have Oa:=A.frozen;have Wa:=A.lt;have Ha:¬(b.heap.size+1=d.heap.size):=o_;have Ia:¬(d.heap.size=b.heap.size+1):=o_));(try (have g2:zg d c.heap.size 35 #[vI 0,vI 0]:=zg.below (by first|(with_reducible exact zg.new _ _ _)|(with_reducible exact zg.drew (zg.new _ _ _))|(with_reducible exact zg.alloc (zg.new _ _ _) _)|(with_reducible exact zg.drew (zg.alloc (zg.new _ _ _) _))|(with_reducible exact zg.new2 _ _ _ _)|(with_reducible exact zg.drew (zg.new2 _ _ _ _))) k g_;have Ua:=g2.cell;have Pa:=g2.frozen;have Xa:=g2.lt;have Ja:¬(c.heap.size=d.heap.size):=o_;have Ka:¬(d.heap.size=c.heap.size):=o_));(try (have z:zg d (c.heap.size+1) 35 #[vI 0,vI 0]:=zg.below (by first|(with_reducible exact zg.new _ _ _)|(with_reducible exact zg.drew (zg.new _ _ _))|(with_reducible exact zg.alloc (zg.new _ _ _) _)|(with_reducible exact zg.drew (zg.alloc (zg.new _ _ _) _))|(with_reducible exact zg.new2 _ _ _ _)|(with_reducible exact zg.drew (zg.new2 _ _ _ _))) k g_;have La:=z.cell;have Qa:=z.frozen;have Ya:=z.lt;have db:¬(c.heap.size+1=d.heap.size):=o_;have eb:¬(d.heap.size=c.heap.size+1):=o_)))
   )
  all_goals go_wp2_with fail
  all_goals go_meet
  all_goals refine⟨_,_,rfl,rfl,?_,?_,?_,?_,?_⟩
  all_goals first
   |(with_reducible omega)
   |((repeat (first|(with_reducible assumption)|(with_reducible refine Xr ?_ o_ ..)|((with_reducible refine Below.alloc ?_ ?_ _);rotate_left;(focus (first|omega|(simp<;>omega))))));done)
   |((repeat (first|(with_reducible assumption)|(with_reducible exact zg.new _ _ _)|(with_reducible exact zg.new2 _ _ _ _)|(with_reducible exact XC (by assumption) ..)|(with_reducible refine zg.alloc ?_ _)|(with_reducible refine ZC ?_ o_ ..)));done)
   |(with_reducible exact XC (ZC (by assumption) o_ ..) ..)
   |exact zg.new' s_
 case rest =>
  obtain⟨s,t,rfl,rfl,N,u,y,na,Za⟩:=hcut;clear P B q ha Y U Z V;have I:=M.below N M.lt;have ia:=u.cell 0;have ja:=u.cell 1;have ka:=y.cell 0;have la:=y.cell 1;simp only[s7]at ia ja ka la;have D:∀a n:Int,0<=a->a<=100000->0<=n->n<=20000->0<=a*max 1 n/\a*max 1 n<=2000000000:=fun a n F G h3 ob=>by
   have da:1<=max 1 n:=o_;have O:max 1 n<=20000:=o_;generalize max 1 n=m at da O
   exact⟨Int.mul_nonneg F o_,by
    have:=Int.mul_le_mul G O o_ o_
    omega⟩
  have b1:=D a0 n1 o_ o_ o_ o_;have b2:=D a1 n0 o_ o_ o_ o_;clear D;have nb:=I.frozen;have g4:=I.cell;have g:(max 1 n1=1/\n1<=1)\/(max 1 n1=n1/\1<n1):=o_;have i:(max 1 n0=1/\n0<=1)\/(max 1 n0=n0/\1<n0):=o_
  rcases g with ⟨g,F⟩|⟨g,F⟩<;>rcases i with ⟨i,G⟩|⟨i,G⟩
  all_goals rw[g]at b1
  all_goals rw[i]at b2
  all_goals try simp only[Int.mul_one]at b1
  all_goals try simp only[Int.mul_one]at b2
  all_goals have pb:=wrap64_in b1.1 b1.2
  all_goals have qb:=wrap64_in b2.1 b2.2
  all_goals have R:Hid (max 1 n1=_):=g
  all_goals have S:Hid (max 1 n0=_):=i
  all_goals clear g i
  all_goals go_wp2_with fail
  all_goals refine Us (v:=.agg #[vP p.ze,vI (max (a0*max 1 n1) (a1*max 1 n0))]) ?_ rfl ⟨rfl,?_⟩
  all_goals first
   |exact Xr (s5 f N) (Nat.le_refl _) ..
   |skip
  all_goals rw[R.out,S.out]
  all_goals simp[results,results178,go_sem,g4]
  all_goals omega
end
end Go.Proofs.YtphclnolomgjoaaGreatDoor
