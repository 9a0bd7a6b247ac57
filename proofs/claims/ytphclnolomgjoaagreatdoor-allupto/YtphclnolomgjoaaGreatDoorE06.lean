import Derived.Test.YtphclnolomgjoaaGreatDoorE05
set_option linter.unusedVariables false
set_option linter.unusedSimpArgs false
set_option maxRecDepth 100000
set_option maxHeartbeats 4000000
namespace Go.Proofs.YtphclnolomgjoaaGreatDoor
open Tryz
open Go.RowKit
variable {W w:World}{br cW cap:Nat}{ao:Option Addr}{Ws:List Wk}{st zo:Int}
def xx (L:List zx)(Ws:List Wk)(s:Bs)(ok:Bool):Int :=
 if UB s=false then 1 else match UW L (s4 s) with
  |none=>3
  |some e=>if e.zj=false then 5 else if ok=false then 6 else if 24<=Ws.length then 7 else 0
def VR (zo:Int)(s:Bs)(a b:Int):Wk:=⟨zo+1,s4 s,a,b,0⟩
def SubG (br g:Nat)(c:Option Nat)(L:List zx)(Ws:List Wk)(zo st:Int)(s:Bs)(a b:Int)(w:World)(e:Ending)(w':World):Prop :=
 (xx L Ws s (Uu a b)≠0/\e=vR (.tuple #[vI 0,v0_,vI (xx L Ws s (Uu a b))])/\Bw w w') \/
 (xx L Ws s (Uu a b)=0/\∃sl,e=vT #[vI (zo+1),sl,vI 0]/\V_ w br g c L (zo+1) (UH L ⟨Ws++[VR zo s a b],st,[]⟩) sl w')
theorem nB{g:Nat}{L:List zx}(h:zy W br g cap L ao cW Ws zo st)(w:Ws.length<=24)(x:Wk)(f:Nat)(q:zg W f 178 #[vI x.zm,vG (sb (kN x.zb)),vI x.d0,vI x.d1,vI x.st])(v:∀b,(Value.slice ao Ws.length cW).ownBlock=some b->b≠f):
  ∃d w',(∀t,(Builtin.append_ #[165,165] t #[.slice ao Ws.length cW,vS f 1 1]).run prog W=.ok d w')/\∃g' cap',d=vS g' (Ws.length+1) cap'/\zg w' br 167 #[vS g L.length cap,.slice ao Ws.length cW,vI zo,vI st] /\
   zy (w'.setCell (vA br 1) d) br g cap L (some (vA g' 0)) cap' (Ws++[x]) zo st/\zd (fun b=>b=br\/(Value.slice ao Ws.length cW).ownBlock=some b) W (w'.setCell (vA br 1) d)/\((Value.slice ao Ws.length cW).ownBlock=some g'\/W.heap.size<=g'):=by
 obtain⟨d,w',s,g',cap',rfl,R⟩:=Wv un70 Zj o_ W _ Ws.length (UG Ws) h.yc f 1 1 o_ (UG [x]) rfl (by simpa [UG,VQ] using q) (Y7 _) (by unfold maxLen;omega) o_;have m:=h.ref.zl;have u:=(h.ref.row.lt g rfl).2;have k:¬((Value.slice ao Ws.length cW).ownBlock=some br):=fun e=>(h.ne1 br e).1 rfl
 have j:¬((Value.slice ao Ws.length cW).ownBlock=some g):=fun e=>(h.ne1 g e).2 rfl
 have l:=m.zf R.zf k;have n:g'≠br:=fun e=>by
  rcases R.new with a|a
  ·rw[e]at a;exact k a
  ·have:=m.lt;omega
 have o:g'≠g:=fun e=>by
  rcases R.new with a|a
  ·rw[e]at a;exact j a
  ·omega
 have i:(Ws++[x]).length=Ws.length+1:=s_
 refine⟨_,w',s,g',cap',rfl,l,⟨⟨?_,?_⟩,?_,?_⟩,?_,R.new⟩
 ·have r:=l.set 1 (vS g' (Ws.length+1) cap');rw[i]
  simpa using r
 ·exact UQ (s8 h.ref.row R.zf (fun y c e=>by simp[Value.ownBlock]at c;subst c;exact j e)) (fun e=>by simp[Value.ownBlock]at e;exact h.ref.ne e.symm) _
 ·rw[i,mz]
  exact UQ R.own (fun e=>by simp[Value.ownBlock]at e;exact n e) _
 ·intro y c;rw[i]at c
  simp[Value.ownBlock]at c
  subst c
  exact⟨n,o⟩
 ·exact(R.zf.mono (fun y e=>.inr e)).setCell (p:=vA br 1) (.inl rfl) _
theorem pI{g:Nat}{L:List zx}(h:zy w br g cap L ao cW Ws zo st)(E:ym L)(ga:wb L)(P:∀a∈L,∀b∈L,a.zb=b.zb->a=b)(I:ye ⟨Ws,st,[]⟩)(Oa:st<=900000000)(ob:0<=zo/\zo<=1000000000)(s:ByteArray)(ua:s.size<=2000000)(a b:Int)
  (hI:xx L Ws (bl s) (Uu a b)=0->ye ⟨Ws++[VR zo (bl s) a b],st,[]⟩) :
  Calls prog 70 #[vP br,vG s,.agg #[vI a,vI b]] w (SubG br g (Value.slice ao Ws.length cW).ownBlock L Ws zo st (bl s) a b w):=by
 have ja:=h.Wf;have Ta:g<w.heap.size:=(h.ref.row.lt g rfl).2;have Ca:=I.yh.yh.len
 simp only at Ca
 have b0:zg (w.alloc (.cells #[vI a,vI b] 35)) w.heap.size 35 #[vI a,vI b]:=zg.new w 35 _;have sa:=fun W=>W9 a b W
 cases C:UB (bl s)
 ·have H:=fun W=>bz s ua C W
  have j:Hid (∀w',Bw w w'->SubG br g (Value.slice ao Ws.length cW).ownBlock L Ws zo st (bl s) a b w (vT #[vI 0,v0_,vI 1]) w'):=fun w' hb=>by
   have:xx L Ws (bl s) (Uu a b)=1:=by unfold xx;rw[C];rfl
   exact .inl ⟨by rw[this];decide,by rw[this],hb⟩
  go_enter func70,ntmps70
  go_wp2_with (go_at_call 113;refine(H _).mono ?_;rintro e K ⟨rfl,A⟩)
  have o:Bw w K:=s5 cl A
  exact Us (v:=.tuple #[vI 0,v0_,vI 1]) (by simp[results,results70,go_sem]) rfl (j.out _ o)
 ·have H:=fun W=>Yx s ua C W
  have Aa:UL (s4 (bl s))=true:=by rw[<-VY];exact C
  cases hfi:UW L (s4 (bl s)) with
  |none =>
   have Q:=fun W (q:Bw w W)=>Yk (h.ref.below q) E P s (s4 (bl s)) Aa (Wi (bl s)).symm hfi
   have j:Hid (∀w',Bw w w'->SubG br g (Value.slice ao Ws.length cW).ownBlock L Ws zo st (bl s) a b w (vT #[vI 0,v0_,vI 3]) w'):=fun w' hb=>by
    have:xx L Ws (bl s) (Uu a b)=3:=by unfold xx;rw[C,hfi];rfl
    exact .inl ⟨by rw[this];decide,by rw[this],hb⟩
   clear hfi h E P I hI
   go_enter func70,ntmps70
   go_wp2_with (first
    |(go_at_call 113;refine(H _).mono ?_;rintro e K ⟨⟨S,cp,rfl,ia⟩,A⟩;have o:Bw w K:=s5 cl A)
    |(go_at_call 114;refine(Q _ o).mono ?_;rintro e eb ⟨rfl,Z⟩;subst Z))
   exact Us (v:=.tuple #[vI 0,v0_,vI 3]) (by simp[results,results70,go_sem]) rfl (j.out _ o)
  |some x =>
   have Q:=fun W (q:Bw w W)=>YJ (h.ref.below q) E P s (s4 (bl s)) Aa (Wi (bl s)).symm hfi
   have l:xx L Ws (bl s) (Uu a b)=if x.zj=false then 5 else if Uu a b=false then 6 else if 24<=Ws.length then 7 else 0:=by unfold xx;rw[C,hfi];rfl
   have j:Hid (∀w' k,Bw w w'->xx L Ws (bl s) (Uu a b)=k->k≠0->SubG br g (Value.slice ao Ws.length cW).ownBlock L Ws zo st (bl s) a b w (vT #[vI 0,v0_,vI k]) w'):=fun w' k hb e Wa=>.inl ⟨by rw[e];exact Wa,by rw[e],hb⟩
   have Ua:=h.ref.WQ;have Ra:=E.len;obtain⟨D,X⟩:∃D,D=L.length:=⟨_,rfl⟩;have Ga:Hid (D=L.length):=X;have na:w.cell? (vA br 0)=some (vS g D cap):=by have:=h.ref.zl.cell 0;rw[X];simpa using this
   rw[<-X]at Ua Ra;clear X;obtain⟨n,ba⟩:∃n,n=Ws.length:=⟨_,rfl⟩;have N:Hid (n=Ws.length):=ba;have oa:w.cell? (vA br 1)=some (.slice ao n cW):=by have:=h.ref.zl.cell 1;rw[ba];simpa using this
   clear ba;have Ma:Hid (∀(i:Nat),L[i]?=some x->i<D/\w.cell? (vA g (i*6+1))=some (.bool x.zj)):=fun i G=>⟨by rw[Ga.out];exact(Uy.1 G).1,h.ref.zq G rfl⟩
   go_enter func70,ntmps70
   go_upto_region 8 with (first
    |(go_at_call 113;refine(H _).mono ?_;rintro e K ⟨⟨S,cp,rfl,ia⟩,A⟩;have o:Bw w K:=s5 cl A;have b1:=b0.below A s_;have t:=b1.cell 0;have u:=b1.cell 1;simp only[s7]at t u)
    |(go_at_call 114;refine(Q _ o).mono ?_;rintro e eb ⟨⟨i,rfl,G⟩,Z⟩;subst Z;obtain⟨kb,ra⟩:=Ma.out i G;have nb:(i:Int)<D:=o_;have vb:(0:Int)<=i:=o_;have ib:¬((i:Int)<0):=o_)
    |(go_at_call 115;refine(sa _).mono ?_;rintro e M ⟨rfl,Y⟩;have d:Bw w M:=s5 o Y;have b3:=b1.below Y b1.lt))
   have f:=h.below d;have ab:=(d.cell (p:=vA br 0) ja).trans na;have bb:=(d.cell (p:=vA br 1) ja).trans oa;have Da:=f.ref.zl.cell 2;have cb:=f.ref.zl.frozen 2;simp only[s7]at Da;have da:=(d.cell (p:=vA g (i*6+1)) Ta).trans ra;clear Q H sa G ia t u ra na oa;have t:=b3.cell 0;have u:=b3.cell 1;simp only[s7]at t u
   cases B:x.zj
   ·rw[B]at da;have c:xx L Ws (bl s) (Uu a b)=5:=by rw[l,B];rfl
    have m:Hid (xx L Ws (bl s) (Uu a b)=5):=c;clear c l hI
    go_wp2_with fail
    exact Us (v:=.tuple #[vI 0,v0_,vI 5]) (by simp[results,results70,go_sem]) rfl (j.out _ _ d m.out d_)
   ·rw[B]at da
    cases ca:Uu a b
    ·have c:xx L Ws (bl s) (Uu a b)=6:=by rw[l,B,ca];rfl
     have m:Hid (xx L Ws (bl s) (Uu a b)=6):=c;clear c l hI
     go_wp2_with fail
     exact Us (v:=.tuple #[vI 0,v0_,vI 6]) (by simp[results,results70,go_sem]) rfl (j.out _ _ d m.out d_)
    ·by_cases ea:24<=n
     ·have c:xx L Ws (bl s) (Uu a b)=7:=by rw[l,B,ca,<- N.out];simp[ea]
      have m:Hid (xx L Ws (bl s) (Uu a b)=7):=c;clear c l hI;have Ha:(24:Int)<=n:=o_
      go_wp2_with fail
      exact Us (v:=.tuple #[vI 0,v0_,vI 7]) (by simp[results,results70,go_sem]) rfl (j.out _ _ d m.out d_)
     ·have c:xx L Ws (bl s) (Uu a b)=0:=by rw[l,B,ca,<- N.out];simp[ea]
      have ha:=hI c;have m:Hid (xx L Ws (bl s) (Uu a b)=0):=c;clear c l hI;have Ha:¬((24:Int)<=n):=o_;have F:zy (M.setCell (vA br 2) (vI (zo+1))) br g cap L ao cW Ws (zo+1) st:=by
       refine⟨⟨?_,?_⟩,?_,f.ne1⟩
       ·have:=f.ref.zl.set 2 (vI (zo+1))
        simpa using this
       ·exact UQ f.ref.row (fun e=>by simp[Value.ownBlock]at e;exact f.ref.ne e.symm) _
       ·exact UQ f.yc (fun e=>(f.ne1 _ e).1 rfl) _
      have aa:zd (fun y=>y=br) w (M.setCell (vA br 2) (vI (zo+1))):=(zd.new (T:=fun y=>y=br) d).setCell (p:=vA br 2) rfl _;have V:zg (M.setCell (vA br 2) (vI (zo+1))) w.heap.size 35 #[vI a,vI b]:=b3.other _ _ t_
      go_upto_region 16 with fail
      generalize M.setCell (vA br 2) (vI (zo+1))=z at F aa V ⊢;clear f ab bb Da cb da t u b3 d Y;have rb:br<z.heap.size:=F.Wf;have t:=V.cell 0;have u:=V.cell 1;have c1:z.cell? (vA br 1)=some (.slice ao n cW):=by have:=F.ref.zl.cell 1;rw[N.out];simpa using this
      have lb:=V.lt;simp only[s7]at t u;have la:∀W,Bw z W->∀J,zg W J 178 #[vI (zo+1),vG s,vI a,vI b,vI 0]->z.heap.size<=J->∃r w',(∀db,(Builtin.append_ #[165,165] db #[.slice ao n cW,vS J 1 1]).run prog W=.ok r w')/\∃g' cap',r=vS g' (n+1) cap'/\zg w' br 167 #[vS g L.length cap,.slice ao n cW,vI (zo+1),vI st]/\Hid (zy (w'.setCell (vA br 1) r) br g cap L (some (vA g' 0)) cap' (Ws++[VR zo (bl s) a b]) (zo+1) st/\zd (fun y=>y=br\/(Value.slice ao Ws.length cW).ownBlock=some y) w (w'.setCell (vA br 1) r)/\((Value.slice ao Ws.length cW).ownBlock=some g'\/w.heap.size<=g')):=fun W q J Sa mb=>by
       have Fa:sb (kN (s4 (bl s)))=s:=by rw[Wi,YU]
       obtain⟨r,w',ta,g',cap',e,Ea,Ja,Ka,Va⟩:=nB (F.below q) Ca (VR zo (bl s) a b) J (by unfold VR;simp only[Fa];exact Sa) (fun y U e=>by have:=UI F.yc U;omega);rw[<-N.out]at ta e Ea
       refine⟨r,w',ta,g',cap',e,Ea,Ja,((aa.mono (fun y e=>Or.inl e):zd (fun y=>y=br\/(Value.slice ao Ws.length cW).ownBlock=some y) w z).WW q).step Ka (fun y _ e=>e),?_⟩
       rcases Va with e|e
       ·exact .inl e
       ·exact .inr (Nat.le_trans (Nat.le_trans aa.size q.size) e)
      have pa:=fun W g' R (Xa:zy W br g cap L (some (vA g' 0)) R (Ws++[VR zo (bl s) a b]) (zo+1) st)=>bu Xa E ga ha Oa
      have ka:Hid (∀(W W':World) (g' R:Nat) (sl:Value),zd (fun y=>y=br\/(Value.slice ao Ws.length cW).ownBlock=some y) w W->((Value.slice ao Ws.length cW).ownBlock=some g'\/w.heap.size<=g')->(∃S Ba,VD W br g cap L (vS g' (Ws++[VR zo (bl s) a b]).length R).ownBlock (zo+1) (Ws++[VR zo (bl s) a b]).length W' S Ba (UH L ⟨Ws++[VR zo (bl s) a b],st,[]⟩).Ws (UH L ⟨Ws++[VR zo (bl s) a b],st,[]⟩).st sl (UH L ⟨Ws++[VR zo (bl s) a b],st,[]⟩).zt)->SubG br g (Value.slice ao Ws.length cW).ownBlock L Ws zo st (bl s) a b w (vT #[vI (zo+1),sl,vI 0]) W'):=by
       intro W W' g' R sl Ya Na ⟨S,Ba,Za⟩
       refine .inr ⟨m.out,sl,rfl,V_.Zf (Ya.mono (fun y e=>?_)) Za (fun y U jb=>?_) (.inl rfl)⟩
       ·rcases e with e|e
        ·exact .inl e
        ·exact .inr (.inr e)
       ·simp[Value.ownBlock]at U
        subst U
        rcases Na with e|e
        ·exact e
        ·omega
      clear h E ga P I ha F m j hfi
      go_region_law (refine WL rfl (.tmp 64) (.tmp 69) 165 165 rfl _ _ ?_ ?_ (la _ ?_ ?_ ?_ ?_) ?_;(focus (simp[Act.eval,Act.put]));(focus ((try simp[Act.eval,Act.put]);(try rfl)));(focus exact cl);(focus exact s6);(focus (simp));rintro r qb ⟨g',cap',rfl,ma,O⟩;have Ia:=ma.cell 1;have gb:=ma.frozen 1;simp only[s7]at Ia)
      all_goals go_wp2_with fail
      all_goals refine(pa _ _ _ O.out.1).mono ?_
      all_goals rintro e pb ⟨sl,La,Pa,rfl,qa⟩
      all_goals have Qa:=ka.out _ _ _ _ _ O.out.2.1 O.out.2.2 ⟨La,Pa,qa⟩
      all_goals clear pa la ka O qa
      all_goals go_wp2_with fail
      all_goals exact Us (v:=.tuple #[vI (zo+1),sl,vI 0]) (by simp[results,results70,go_sem]) rfl Qa
end Go.Proofs.YtphclnolomgjoaaGreatDoor
