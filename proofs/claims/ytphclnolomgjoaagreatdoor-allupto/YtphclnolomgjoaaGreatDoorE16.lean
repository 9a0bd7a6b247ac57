import Derived.Test.YtphclnolomgjoaaGreatDoorE06
set_option linter.unusedVariables false
set_option linter.unusedSimpArgs false
set_option maxRecDepth 100000
set_option maxHeartbeats 4000000
namespace Go.Proofs.YtphclnolomgjoaaGreatDoor
open Tryz
open Go.RowKit
variable {W w w' f:World}{br l c cW cap r g2 i j j2 q n q2 size:Nat}{ao o:Option Addr}{Ws Ws':List Wk}{Gv JK a d er st zo:Int}{u v v1 v2 v3:Value}{e:TypeId}{xs:List Value}{T:Nat->Prop}{k k' zb:List Bs}
def X_ (L:List zx)(Ws:List Wk)(e:zx):Bool:=sh0 L Ws e 0||sh1 L Ws e 0
def VU (L:List zx)(Ws:List Wk):Bool:=L.any (X_ L Ws)
theorem o7{g:Nat}{L:List zx}(h:zy w br g cap L ao cW Ws zo st)(E:ym L)(x:wb L)(z:xm Ws):
  Calls prog 163 #[vP br] w fun e w'=>e=vR (.bool (VU L Ws))/\Bw w w':=by
 have C:=h.ref.zl.lt;have D:=E.len;have F:=h.ref.WQ;obtain⟨n,f⟩:∃n,n=L.length:=⟨_,rfl⟩;have G:w.cell? (vA br 0)=some (vS g n cap):=by have:=h.ref.zl.cell 0;rw[f];simpa using this
 rw[<-f]at D F;have o:Hid (n=L.length):=f;clear f
 go_enter func163,ntmps163
 go_wp2
 go_loopw [3] (fun i wr=>∃k:Nat,k<=n/\i=vI k/\Bw w wr/\(L.take k).any (X_ L Ws)=false) (fun i _=>n-(intOf i).toNat)
 case atStart=>exact⟨0,Nat.zero_le _,rfl,cl,s_⟩
 case round =>
  obtain⟨k,P,rfl,c,r⟩:=hrel;have J:=(c.cell (p:=vA br 0) C).trans G;have l:Hid ((L.take k).any (X_ L Ws)=false):=r;clear r
  by_cases B:k<n
  ·have j:k<L.length:=by rw[<-o.out];exact B
   obtain⟨y,a⟩:∃y,L[k]?=some y:=⟨_,Ur j⟩;have q:Hid (L.take (k+1)=L.take k++[y]):=by
    rw[VT j];rw[Ur j]at a;cases a;rfl
   have m:=Uq a;have d:=fun W (I:Bw w W)=>dq (h.below I) E z a (x y m) 0 0 o_ o_
   have b:Hid (X_ L Ws y=(sh0 L Ws y 0||sh1 L Ws y 0)):=rfl;have u:Hid ((L.take (k+1)).any (X_ L Ws)=X_ L Ws y):=by
    show _=_
    rw[q.out,List.any_append,l.out];simp
   have s:Hid (X_ L Ws y=true->VU L Ws=true):=fun ht=>by
    show VU L Ws=true
    unfold VU;rw[W7]
    exact⟨y,m,ht⟩
   clear a m q l;generalize sh0 L Ws y 0=s0 at d b;generalize sh1 L Ws y 0=K at d b;generalize X_ L Ws y=Q at b u s;have O:(k:Int)<n:=o_
   go_wp2_with fail
   refine(d _ c).mono ?_
   rintro e M ⟨rfl,t⟩
   have A:Bw w M:=s5 c t;have N:=A.size;clear d t J
   cases s0<;>cases K
   all_goals go_wp2
   all_goals first
    |exact⟨⟨k+1,o_,by go_num,cl,by rw[u.out,b.out];rfl⟩,by simp[intOf];omega⟩
    |(go_ret;exact⟨VP (s.out (by rw[b.out];rfl)).symm,cl⟩)
  ·go_wp2
   go_ret
   have H:L.take k=L:=Vl (h_ o.out);have v:=l.out;rw[H]at v
   exact⟨VP (show false=VU L Ws from v.symm),c⟩
def yv (L:List zx)(s:Bs):Int:=if UB s=false then 1 else if s=[] then 2 else if (UW L (s4 s)).isSome then 0 else 3
def Yq (L:List zx)(s:Bs)(e:Ending):Prop :=
 (yv L s≠0/\e=vT #[vI 0,vI (yv L s)])\/(yv L s=0/\∃(i:Nat) (x:zx),L[i]?=some x/\x.zb=s4 s/\e=vT #[vI i,vI 0])
theorem ZW{g:Nat}{L:List zx}(h:VV w br g cap L v1 v2 v3)(E:ym L)(z:∀a∈L,∀b∈L,a.zb=b.zb->a=b)(s:ByteArray)(C:s.size<=2000000):
  Calls prog 117 #[vP br,vG s] w fun e w'=>Yq L (bl s) e/\Bw w w':=by
 have k:=fun W (j:Bw w W)=>eX (h.below j) (h_ E.len) s
 have G:=h.zl.lt
 cases f:UB (bl s)
 ·have q:=fun W=>bz s C f W
  have c:Hid (Yq L (bl s) (vT #[vI 0,vI 1])):=by
   have:yv L (bl s)=1:=by unfold yv;rw[f];rfl
   exact .inl ⟨by rw[this];decide,by rw[this]⟩
  generalize Yq L (bl s)=X at c ⊢;have t:∀W,Bw w W->Calls prog 114 #[vP br,vG s] W fun e w'=>(∃i,e=vR (vI i))/\w'=W:=fun W j=>(k W j).mono (fun e w' hp=>⟨by rcases hp.1 with ⟨i,x,p,_⟩|⟨_,p⟩<;>exact⟨_,p⟩,hp.2⟩)
  clear k h
  go_enter func117,ntmps117
  go_wp2_with (first
   |(go_at_call 113;refine(q _).mono ?_;rintro e o ⟨rfl,m⟩;have d:Bw w o:=s5 cl m)
   |(go_at_call 114;refine(t _ d).mono ?_;rintro e y ⟨⟨i,rfl⟩,n⟩;subst n))
  exact Us (v:=.tuple #[vI 0,vI 1]) (by simp[results,results117,go_sem]) rfl ⟨c.out,d⟩
 ·have q:=fun W=>Yx s C f W
  have r:UL (s4 (bl s))=true:=by rw[<-VY];exact f
  by_cases l:bl s=[]
  ·have F:s=⟨#[]⟩:=Wy (l.trans XP.symm);have c:Hid (Yq L (bl s) (vT #[vI 0,vI 2])):=by
    have:yv L (bl s)=2:=by unfold yv;rw[f,l];rfl
    exact .inl ⟨by rw[this];decide,by rw[this]⟩
   generalize Yq L (bl s)=X at c ⊢;have t:∀W,Bw w W->Calls prog 114 #[vP br,vG s] W fun e w'=>(∃i,e=vR (vI i))/\w'=W:=fun W j=>(k W j).mono (fun e w' hp=>⟨by rcases hp.1 with ⟨i,x,p,_⟩|⟨_,p⟩<;>exact⟨_,p⟩,hp.2⟩)
   clear k h f r l;subst F
   go_enter func117,ntmps117
   go_wp2_with (first
    |(go_at_call 113;refine(q _).mono ?_;rintro e o ⟨⟨B,cp,rfl,A⟩,m⟩;have d:Bw w o:=s5 cl m)
    |(go_at_call 114;refine(t _ d).mono ?_;rintro e y ⟨⟨i,rfl⟩,n⟩;subst n))
   exact Us (v:=.tuple #[vI 0,vI 2]) (by simp[results,results117,go_sem]) rfl ⟨c.out,d⟩
  ·have hq:(s.toList.isEmpty)=false:=by rw[V4];simpa using l
   cases hfi:UW L (s4 (bl s)) with
   |none =>
    have k:=fun W (j:Bw w W)=>Yk (h.below j) E z s (s4 (bl s)) r (Wi (bl s)).symm hfi
    have c:Hid (Yq L (bl s) (vT #[vI 0,vI 3])):=by
     have:yv L (bl s)=3:=by unfold yv;rw[f,hfi,if_neg l];rfl
     exact .inl ⟨by rw[this];decide,by rw[this]⟩
    generalize Yq L (bl s)=X at c ⊢;clear h f r l hfi
    go_enter func117,ntmps117
    go_wp2_with (first
     |(go_at_call 113;refine(q _).mono ?_;rintro e o ⟨⟨B,cp,rfl,A⟩,m⟩;have d:Bw w o:=s5 cl m)
     |(go_at_call 114;refine(k _ d).mono ?_;rintro e y ⟨rfl,n⟩;subst n))
    exact Us (v:=.tuple #[vI 0,vI 3]) (by simp[results,results117,go_sem]) rfl ⟨c.out,d⟩
   |some x =>
    have k:=fun W (j:Bw w W)=>YJ (h.below j) E z s (s4 (bl s)) r (Wi (bl s)).symm hfi
    have D:x.zb=s4 (bl s):=by have:=List.find?_some hfi;simpa using this
    have c:Hid (∀i:Nat,L[i]?=some x->Yq L (bl s) (vT #[vI i,vI 0])):=fun i u=>by
     have:yv L (bl s)=0:=by unfold yv;rw[f,hfi,if_neg l];rfl
     exact .inr ⟨this,i,x,u,D,rfl⟩
    generalize Yq L (bl s)=X at c ⊢;clear h f r l hfi D
    go_enter func117,ntmps117
    go_wp2_with (first
     |(go_at_call 113;refine(q _).mono ?_;rintro e o ⟨⟨B,cp,rfl,A⟩,m⟩;have d:Bw w o:=s5 cl m)
     |(go_at_call 114;refine(k _ d).mono ?_;rintro e y ⟨⟨i,rfl,u⟩,n⟩;subst n;have H:¬((i:Int)<0):=o_))
    exact Us (v:=.tuple #[vI i,vI 0]) (by simp[results,results117,go_sem]) rfl ⟨c.out i u,d⟩
theorem kL:(prog.info? 163).map (fun i=>(i.size,i.bytes))=some (6,56):=k_
theorem lZ:(prog.info? 163).bind (fun i=>i.zero)=some (.agg #[vG ⟨#[]⟩,.bool false,vI 0,vI 0,vI 0,vI 0]):=k_
theorem cg:Wx 163 6 56:=XD kL lZ rfl
theorem bJ(l:List zx):∀u∈UP l,u.oneCell'=true:=by
 intro u a;unfold UP at a;obtain⟨x,_,b⟩:=List.mem_flatMap.1 a
 simp[Vj]at b
 rcases b with rfl|rfl|rfl|rfl|rfl|rfl<;>rfl
theorem Y1{a:Option Addr}(h:W.ownsRow 0 e size (.slice a n c) n xs):n<=c/\c<=maxLen:=by
 rcases h.2 with ⟨h,f⟩|⟨g,cap,d,h,_,_,b,h3,_⟩
 ·cases h;exact⟨Nat.le_refl _,Nat.zero_le _⟩
 ·cases h;exact⟨b,h3⟩
theorem a9{a:Option Addr}(h:vn W none e size n xs a cap w'):Bw W w' :=
 h.zf.ya (Nat.le_refl _) (fun b _ hb=>by cases hb)
theorem di{g:Nat}{L:List zx}(h:zy w br g cap L ao cW Ws zo st)(Ba:L.length<=20)(Da:0<L.length)(Ca:Ws.length<=24):
  Calls prog 119 #[vP br] w fun e w'=>∃l g' cap' N P,e=vR (vP l)/\zy w' l g' cap' L N P Ws zo st/\Bw w w'/\w.heap.size<=l/\w.heap.size<=g'/\(∀b,(Value.slice N Ws.length P).ownBlock=some b->w.heap.size<=b):=by
 have K:=h.ref.zl.lt;have ca:=h.ref.WQ;have ha:=Y1 h.yc;obtain⟨n,f⟩:∃n,n=L.length:=⟨_,rfl⟩;obtain⟨m,d⟩:∃m,m=Ws.length:=⟨_,rfl⟩;have c0:w.cell? (vA br 0)=some (vS g n cap):=by have:=h.ref.zl.cell 0;rw[f];simpa using this
 have c1:w.cell? (vA br 1)=some (.slice ao m cW):=by have:=h.ref.zl.cell 1;rw[d];simpa using this
 have c2:w.cell? (vA br 2)=some (vI zo):=by have:=h.ref.zl.cell 2;simpa using this
 have ta:w.cell? (vA br 3)=some (vI st):=by have:=h.ref.zl.cell 3;simpa using this
 have ba:g<w.heap.size:=(h.ref.row.lt g rfl).2;have R:∀W,Bw w W->∃s w',(∀F,(Builtin.append_ #[164,164] F #[v0_,vS g n cap]).run prog W=.ok s w')/\∃g' cap',s=vS g' n cap'/\xq W none 163 6 n (UP L) g' cap' w':=fun W B=>by
  have:=bV Z8 cg o_ W v0_ 0 [] (Vx _ _ _ _) (vA g 0) n cap o_ (UP L) (by have:=h.ref.row.1;rw[f];exact this) (fun j u C=>by
   have:=h.ref.row.cells (g:=g) rfl j u C
   exact(B.cell (p:=((vA g 0):Addr).add j) (by rw[Addr.add_lit];exact ba)).trans this) (bJ L) (by unfold maxLen;omega) o_
  simpa [Value.ownBlock] using this
 have U:∀W,Bw w W->∃s w',(∀F,(Builtin.append_ #[165,165] F #[v0_,.slice ao m cW]).run prog W=.ok s w')/\∃I cap',s=.slice I m cap'/\vn W none 178 5 m (UG Ws) I cap' w':=fun W B=>by
  have:=XN un70 Zj o_ W none 0 0 (Nat.le_refl _) (Nat.zero_le _) [] (Vx _ _ _ _) ao m cW (UG Ws) (by have:=h.yc.1;rw[d];exact this) (fun ua=>by
   obtain⟨b,sa,ga,_,_⟩:=VX h.yc o_;injection ga with da _ _;subst da
   exact⟨_,rfl,fun j u C=>(B.cell (p:=((vA b 0):Addr).add j) (by rw[Addr.add_lit];exact UI h.yc rfl)).trans (h.yc.cells (g:=b) rfl j u C)⟩) (Y7 Ws) (by unfold maxLen;omega) o_
  simpa [Value.ownBlock] using this
 rw[<-f]at ca;rw[<-d]at ha;have S:Hid (n=L.length/\m=Ws.length):=⟨f,d⟩;clear f d h
 go_enter func119,ntmps119
 go_wp2
 go_region
 have o:zg (w.alloc (.cells #[v0_,v0_,vI zo,vI st] 167)).drew w.heap.size 167 #[v0_,v0_,vI zo,vI st]:=(zg.new w 167 _).drew;have z:Bw w (w.alloc (.cells #[v0_,v0_,vI zo,vI st] 167)).drew:=cl;obtain⟨y,H⟩:∃y,y=(w.alloc (.cells #[v0_,v0_,vI zo,vI st] 167)).drew:=⟨_,rfl⟩;rw[<-H]at o z ⊢;clear H;have Q:=o.cell 0;have la:=o.lt;have ka:=o.frozen 0;have ma:=(z.cell (p:=vA br 0) K).trans c0;simp only[s7]at Q
 go_wp2
 go_region_law (refine WL rfl (.tmp 18) (.tmp 22) 164 164 rfl _ _ ?_ ?_ (R _ ?_) ?_;(focus (simp[Act.eval,Act.put]));(focus ((try simp[Act.eval,Act.put]);(try rfl)));(focus exact cl);rintro vA i ⟨gA,a,rfl,q⟩;have r:zg i w.heap.size 167 #[v0_,v0_,vI zo,vI st]:=zg.below s6 q.below la;have M:Bw w i:=s5 cl q.below;have Y:=r.lt;have G:=r.cell 0;have X:=r.frozen 0;simp only[s7]at G)
 all_goals
  have Aa:y.heap.size<=gA:=by rcases q.new with e|e;(cases e);(simpa using e)
  have b1:zg (i.setCell (vA w.heap.size 0) (vS gA n a)) w.heap.size 167 #[vS gA n a,v0_,vI zo,vI st]:=by simpa using r.set 0 (vS gA n a)
  have J:Bw w (i.setCell (vA w.heap.size 0) (vS gA n a)):=M.setCell (p:=vA w.heap.size 0) (Nat.le_refl _) _;have E:(i.setCell (vA w.heap.size 0) (vS gA n a)).ownsRow 0 163 6 (vS gA n a) n (UP L):=UQ q.own (fun e=>by simp[Value.ownBlock]at e;omega) _;have ea:=(E.lt gA rfl).2;obtain⟨V,O⟩:∃V,V=i.setCell (vA w.heap.size 0) (vS gA n a):=⟨_,rfl⟩;rw[<-O]at b1 J E ea ⊢;clear O r M Y G X q Q ka ma o z;have na:=b1.cell 1;have pa:=b1.lt;have Ea:=b1.frozen 1;have v1:=(J.cell (p:=vA br 1) K).trans c1;simp only[s7]at na
  go_wp2
  go_region_law (refine WL rfl (.tmp 30) (.tmp 34) 165 165 rfl _ _ ?_ ?_ (U _ ?_) ?_;(focus (simp[Act.eval,Act.put]));(focus ((try simp[Act.eval,Act.put]);(try rfl)));(focus exact cl);rintro vB k ⟨aB,c,rfl,x⟩;have D:=a9 x;have t:zg k w.heap.size 167 #[vS gA n a,v0_,vI zo,vI st]:=zg.below s6 D (j_ pa);have oa:Bw w k:=s5 cl D;have ra:=t.lt;have Z:=t.cell 1;have qa:=t.frozen 1;simp only[s7]at Z)
  all_goals
   have A:∀b,(Value.slice aB m c).ownBlock=some b->V.heap.size<=b:=fun b hb=>by rcases x.new b hb with e|e;(cases e);(simpa using e)
   have b2:zg (k.setCell (vA w.heap.size 1) (.slice aB m c)) w.heap.size 167 #[vS gA n a,.slice aB m c,vI zo,vI st]:=by simpa using t.set 1 (.slice aB m c)
   have aa:Bw w (k.setCell (vA w.heap.size 1) (.slice aB m c)):=oa.setCell (p:=vA w.heap.size 1) (Nat.le_refl _) _;have ia:(k.setCell (vA w.heap.size 1) (.slice aB m c)).ownsRow 0 163 6 (vS gA n a) n (UP L):=UQ (s8 (T:=fun _=>False) E (zd.new (s5 (Below.refl _ _).drew D)) (fun _ _ h=>h)) (fun e=>by simp[Value.ownBlock]at e;omega) _;have ja:(k.setCell (vA w.heap.size 1) (.slice aB m c)).ownsRow 0 178 5 (.slice aB m c) m (UG Ws):=UQ x.own (fun e=>by have:=A _ e;simp at this;omega) _
   go_wp2
   obtain⟨f,d⟩:=S.out;subst f d
   exact Us (v:=vP w.heap.size) (by simp[results,results119,go_sem]) rfl ⟨_,_,_,_,_,rfl,⟨⟨b2,ia⟩,ja,fun b hb=>by have:=A b hb;omega⟩,aa,Nat.le_refl _,o_,fun b hb=>by have:=A b hb;omega⟩
theorem dH{g:Nat}{L':List zx}(h:zy w br g cap L' ao cW Ws' zo st)(E:ym L')(D:wb L')(I:ye ⟨Ws',st,[]⟩)(R:st<=900000000)
  {L:List zx} (f:zy w l g2 r L o q Ws Gv JK) (d0:l≠br) (d1:g2≠br) (x:∀b,(Value.slice o Ws.length q).ownBlock=some b->b≠br) :
  Calls prog 120 #[vP br,vP l] w fun e w' =>
   (VU L' Ws'=true/\e=vT #[v0_,vI 11]/\zy w' br g2 r L o q Ws zo st/\zd (fun b=>b=br) w w') \/
   (VU L' Ws'=false/\∃sl i j,e=vT #[sl,vI 0]/\VD w br g cap L' (Value.slice ao Ws'.length cW).ownBlock zo Ws'.length w' i j (UH L' ⟨Ws',st,[]⟩).Ws (UH L' ⟨Ws',st,[]⟩).st sl (UH L' ⟨Ws',st,[]⟩).zt):=by
 have d:=o7 h E D I.yh.yh;have J:=h.Wf
 cases N:VU L' Ws'
 ·have K:=fun W (U:Bw w W)=>bu (h.below U) E D I R
  rw[N]at d;have G:∀a w' sl i j,Bw w a->VD a br g cap L' (Value.slice ao Ws'.length cW).ownBlock zo Ws'.length w' i j (UH L' ⟨Ws',st,[]⟩).Ws (UH L' ⟨Ws',st,[]⟩).st sl (UH L' ⟨Ws',st,[]⟩).zt->VD w br g cap L' (Value.slice ao Ws'.length cW).ownBlock zo Ws'.length w' i j (UH L' ⟨Ws',st,[]⟩).Ws (UH L' ⟨Ws',st,[]⟩).st sl (UH L' ⟨Ws',st,[]⟩).zt:=fun a w' sl i j hb S =>
   ⟨S.ref,S.len,(zd.new hb).step S.zf (fun b _ e=>e),fun b y Q=>S.old b y (VJ Q hb.size),S.row,fun b y=>Nat.le_trans hb.size (S.new b y),S.sep⟩
  generalize VD w br g cap L' (Value.slice ao Ws'.length cW).ownBlock zo Ws'.length=Z at *;clear f
  go_enter func120,ntmps120
  go_wp2_with fail
  refine d.mono ?_
  rintro e a ⟨rfl,c⟩
  have O:=K a c;clear K d
  go_wp2_with fail
  refine O.mono ?_
  rintro e ea ⟨sl,a2,c2,rfl,M⟩
  have s:=G _ _ _ _ _ c M;clear M O G
  go_wp2_with fail
  exact Us (v:=.tuple #[sl,vI 0]) (by simp[results,results120,go_sem]) rfl (.inr ⟨trivial,sl,a2,c2,rfl,s⟩)
 ·rw[N]at d;have V:=f.Wf;obtain⟨n,B⟩:∃n,n=L.length:=⟨_,rfl⟩;obtain⟨m,A⟩:∃m,m=Ws.length:=⟨_,rfl⟩;obtain⟨ca,C⟩:∃u,u=vS g L'.length cap:=⟨_,rfl⟩;obtain⟨da,F⟩:∃u,u=Value.slice ao Ws'.length cW:=⟨_,rfl⟩;have t:=h.ref.zl;rw[<-C,<- F]at t;have z:=f.ref.zl;rw[<-B,<- A]at z;have s:∀a,Bw w a->zy ((a.setCell (vA br 0) (vS g2 n r)).setCell (vA br 1) (.slice o m q)) br g2 r L o q Ws zo st/\zd (fun b=>b=br) w ((a.setCell (vA br 0) (vS g2 n r)).setCell (vA br 1) (.slice o m q)):=fun a c=>by
   have b1:=t.below c J;have P:=f.below c
   refine⟨⟨⟨?_,?_⟩,?_,?_⟩,?_⟩
   ·have:=(b1.set 0 (vS g2 n r)).set 1 (.slice o m q)
    rw[<-B,<- A]
    simpa using this
   ·exact UQ (UQ P.ref.row (fun e=>by simp[Value.ownBlock]at e;exact d1 e) _) (fun e=>by simp[Value.ownBlock]at e;exact d1 e) _
   ·exact UQ (UQ P.yc (fun e=>x _ e rfl) _) (fun e=>x _ e rfl) _
   ·exact fun b hb=>⟨x b hb,(f.ne1 b hb).2⟩
   ·exact((zd.new (T:=fun b=>b=br) c).setCell (p:=vA br 0) rfl _).setCell (p:=vA br 1) rfl _
  clear h f d1 x B A C F
  go_enter func120,ntmps120
  go_wp2_with fail
  refine d.mono ?_
  rintro e a ⟨rfl,c⟩
  have H:Hid _:=s a c;have b1:=t.below c J;have k:=z.below c V;have c0:=k.cell 0;have c1:=k.cell 1;have X:=b1.cell 0;have Y:=b1.cell 1;have aa:=b1.frozen 0;have ba:=b1.frozen 1;have l1:=b1.lt;have l2:=k.lt;simp only[s7]at c0 c1 X Y;clear s d t z b1 k
  go_wp2_with fail
  exact Us (v:=.tuple #[v0_,vI 11]) (by simp[results,results120,go_sem]) rfl (.inl ⟨trivial,rfl,H.out.1,H.out.2⟩)
def ZN (L:List zx)(s:Bs)(ok:Bool)(a b:Int):Int :=
 if yv L s≠0 then yv L s else match UW L (s4 s) with
 |none=>3
 |some x=>if ok=false then 6 else if (!x.zj&&!(a == 0&&b == 0))=true then 6 else 0
def zx.U9(x:zx)(a b c d:Int):zx:={x with n0:=a,n1:=b,b0:=c,b1:=d}
theorem YK{g:Nat}{L:List zx}(h:VV w br g cap L v1 v2 v3)(E:ym L)(c:∀a∈L,∀b∈L,a.zb=b.zb->a=b)(s:ByteArray)(p:s.size<=2000000){x:zx}(k:yv L (bl s)=0)(f:UW L (s4 (bl s))=some x):
  Calls prog 117 #[vP br,vG s] w fun e w'=>(∃i:Nat,e=vT #[vI i,vI 0]/\L[i]?=some x)/\Bw w w' :=
 (ZW h E c s p).mono fun e w' hp=>by
  obtain⟨m,hb⟩:=hp
  rcases m with ⟨l,_⟩|⟨_,i,y,d,o,n⟩
  ·exact absurd k l
  ·have j:=List.mem_of_find?_eq_some f;have q:x.zb=s4 (bl s):=by have:=List.find?_some f;simpa using this
   have:=c y (Uq d) x j (o.trans q.symm)
   exact⟨⟨i,n,this ▸ d⟩,hb⟩
theorem nI{g:Nat}{L:List zx}(h:zy w br g cap L ao cW Ws zo st)(E:ym L)(O:∀a∈L,∀b∈L,a.zb=b.zb->a=b)(s:ByteArray)(U:s.size<=2000000)(a b c d:Int)(k:ZN L (bl s) (Uu a b&&Uu c d) a b=er)(D:er≠0):
  Calls prog 74 #[vP br,vG s,.agg #[vI a,vI b],.agg #[vI c,vI d]] w fun e w'=>e=vT #[v0_,vI er]/\Bw w w':=by
 have ea:=h.Wf;have ia:=h.ref.WQ;have ga:=E.len;have ca:zg ((w.alloc (.cells #[vI a,vI b] 35)).alloc (.cells #[vI c,vI d] 35)) w.heap.size 35 #[vI a,vI b]:=(zg.new w 35 _).alloc _;have da:zg ((w.alloc (.cells #[vI a,vI b] 35)).alloc (.cells #[vI c,vI d] 35)) (w.heap.size+1) 35 #[vI c,vI d]:=zg.new' s_
 by_cases l:yv L (bl s)=0
 ·have pa:∃x,UW L (s4 (bl s))=some x:=by
   unfold yv at l
   split at l
   ·omega
   ·split at l
    ·omega
    ·split at l
     ·rename_i h;exact Option.isSome_iff_exists.1 h
     ·omega
  obtain⟨x,K⟩:=pa;have q:=fun W (A:Bw w W)=>YK (h.ref.below A) E O s U l K
  have H:=fun W=>W9 a b W
  have I:=fun W=>W9 c d W
  unfold ZN at k;rw[if_neg (j_ l),K]at k
  simp only at k
  have Q:w.cell? (vA br 0)=some (vS g L.length cap):=by have:=h.ref.zl.cell 0;simpa using this
  have y:∀i:Nat,L[i]?=some x->i<L.length/\w.cell? (vA g (i*6+1))=some (.bool x.zj):=fun i r=>⟨(Uy.1 r).1,h.ref.zq r (j:=1) rfl⟩
  have ha:g<w.heap.size:=(h.ref.row.lt g rfl).2;have Z:er=6:=by
   rw[<-k]
   split
   ·rfl
   ·split
    ·rfl
    ·rename_i z ma;exfalso;apply D;rw[<-k,if_neg z,if_neg ma]
  subst Z;obtain⟨n,T⟩:∃n,n=L.length:=⟨_,rfl⟩;rw[<-T]at Q ia ga y;have ja:Uu a b=false\/(Uu a b=true/\Uu c d=false)\/(Uu a b=true/\Uu c d=true/\x.zj=false/\(a != 0)=true/\(a == 0)=false)\/(Uu a b=true/\Uu c d=true/\x.zj=false/\a=0/\(b != 0)=true/\(b == 0)=false):=by
   revert k
   by_cases oa:a=0<;>by_cases hb:b=0<;>cases Uu a b<;>cases Uu c d<;>cases x.zj<;>simp[oa,hb]
  clear h l K T k D
  rcases ja with u|⟨u,B⟩|⟨u,B,J,ka,la⟩|⟨u,B,J,rfl,ka,la⟩
  all_goals (try rw[u]at H);(try rw[B]at I);(try rw[J]at y)
  all_goals
   clear u;(try clear B);(try clear J)
   go_enter func74,ntmps74
   go_wp2_with (first
    |(go_at_call 117;refine(q _ cl).mono ?_;rintro e M ⟨⟨i,rfl,r⟩,t⟩;have ua:=(y i r).1;have aa:=(y i r).2;have sa:(i:Int)<n:=o_;have ra:(0:Int)<=i:=o_;have G:Bw w M:=s5 cl t;have C:=ca.below t t_;have X:=da.below t s_;have m:=C.cell 0;have o:=C.cell 1;simp only[s7]at m o;clear q y r)
    |(go_at_call 115;refine(H _).mono ?_;clear H;rintro e qa ⟨rfl,F⟩;have ba:Bw w qa:=s5 G F;have R:=C.below F C.lt;have S:=X.below F X.lt;clear m o;have m:=S.cell 0;have o:=S.cell 1;simp only[s7]at m o)
    |(go_at_call 115;refine(I _).mono ?_;clear I;rintro e f ⟨rfl,P⟩;have N:Bw w f:=s5 ba P;have V:=R.below P R.lt;clear m o;have m:=V.cell 0;have o:=V.cell 1;have Ba:=(N.cell (p:=vA br 0) ea).trans Q;have Ca:=(N.cell (p:=vA g (i*6+1)) ha).trans aa;simp only[s7]at m o))
   exact Us (v:=.tuple #[v0_,vI 6]) (by simp[results,results74,go_sem]) rfl ⟨rfl,by assumption⟩
 ·have q:=fun W (A:Bw w W)=>ZW (h.ref.below A) E O s U
  have Y:er=yv L (bl s):=by unfold ZN at k;rw[if_pos (j_ l)]at k;exact k.symm
  have q:∀W,Bw w W->Calls prog 117 #[vP br,vG s] W fun e w'=>e=vT #[vI 0,vI er]/\Bw W w':=fun W A=>(q W A).mono fun e w' hp=>by
   obtain⟨na,hb⟩:=hp
   rcases na with ⟨_,z⟩|⟨z,_⟩
   ·rw[Y];exact⟨z,hb⟩
   ·exact absurd z l
  have ta:(er != 0)=true:=by simp[D]
  have Aa:(er == 0)=false:=by simp[D]
  clear h k Y l
  go_enter func74,ntmps74
  go_wp2_with (first
   |(go_at_call 117;refine(q _ cl).mono ?_;rintro e M ⟨rfl,t⟩;have G:Bw w M:=s5 cl t))
  exact Us (v:=.tuple #[v0_,vI er]) (by simp[results,results74,go_sem]) rfl ⟨rfl,G⟩
def vv (L:List zx)(k:List Bs)(a b c d:Int):List zx:=L.map fun e=>if e.zb=k then e.U9 a b c d else e
theorem ju:∀(L:List zx) (i:Nat) (x:zx) (a b c d:Int),(L.map (·.zb)).Nodup->L[i]?=some x->L.set i (x.U9 a b c d)=vv L x.zb a b c d
 | [],i,x,_,_,_,_,_,h=>by simp at h
 |y::l,0,x,a,b,c,d,f,h=>by
  simp at h;subst h
  simp only[List.map_cons,List.nodup_cons,UC,not_exists,not_and]at f
  have:l.map (fun e=>if e.zb=y.zb then e.U9 a b c d else e)=l:=by
   conv=>rhs;rw[<-List.map_id l]
   exact List.map_congr_left fun e n=>by rw[if_neg (fun m=>f.1 e n m)];rfl
  simp[vv,this]
 |y::l,i+1,x,a,b,c,d,f,h=>by
  simp only[List.map_cons,List.nodup_cons,UC,not_exists,not_and]at f;have g:l[i]?=some x:=by simpa using h
  have j:=ju l i x a b c d f.2 g;have k:¬(y.zb=x.zb):=fun e=>f.1 x (Uq g) e.symm
  simp[vv,k]at j ⊢
  exact j
theorem fE:∀(L:List zx) (i:Nat) (x:zx) (a b:Int),L[i]?=some x->UP (L.set i (x.U9 a b x.b0 x.b1))=((UP L).set (i*6+2) (vI a)).set (i*6+3) (vI b)
 | [],i,x,_,_,h=>by simp at h
 |y::l,0,x,a,b,h=>by
  simp at h;subst h
  simp[UP,Vj,zx.U9]
 |y::l,i+1,x,a,b,h=>by
  have c:=fE l i x a b (j_ h);simp only[UD,UP,List.flatMap_cons]at c ⊢;rw[c,List.set_append_right _ _ (by simp[Vj];omega),List.set_append_right _ _ (by simp[Vj];omega)];rw[show(i+1)*6+2-(Vj y).length=i*6+2 by simp[Vj];omega,show(i+1)*6+3-(Vj y).length=i*6+3 by simp[Vj];omega]
theorem fF:∀(L:List zx) (i:Nat) (x:zx) (c d:Int),L[i]?=some x->UP (L.set i (x.U9 x.n0 x.n1 c d))=((UP L).set (i*6+4) (vI c)).set (i*6+5) (vI d)
 | [],i,x,_,_,h=>by simp at h
 |y::l,0,x,a,b,h=>by
  simp at h;subst h
  simp[UP,Vj,zx.U9]
 |y::l,i+1,x,a,b,h=>by
  have e:=fF l i x a b (j_ h);simp only[UD,UP,List.flatMap_cons]at e ⊢;rw[e,List.set_append_right _ _ (by simp[Vj];omega),List.set_append_right _ _ (by simp[Vj];omega)];rw[show(i+1)*6+4-(Vj y).length=i*6+4 by simp[Vj];omega,show(i+1)*6+5-(Vj y).length=i*6+5 by simp[Vj];omega]
theorem zy.two{g:Nat}{L:List zx}(h:zy w br g cap L ao cW Ws zo st){y:zx}(b:UP (L.set i y)=((UP L).set j u).set j2 v):
  zy ((w.setCell (vA g j) u).setCell (vA g j2) v) br g cap (L.set i y) ao cW Ws zo st:=by
 have a:=h.ref.ne
 refine⟨⟨?_,?_⟩,?_,h.ne1⟩
 ·rw[List.length_set]
  exact(h.ref.zl.other _ _ a).other _ _ a
 ·rw[List.length_set,b]
  exact((h.ref.row.stored j u).1.stored j2 v).1
 ·exact UQ (UQ h.yc (fun e=>(h.ne1 _ e).2 rfl) _) (fun e=>(h.ne1 _ e).2 rfl) _
theorem zy.drew{g:Nat}{L:List zx}(h:zy w br g cap L ao cW Ws zo st):zy w.drew br g cap L ao cW Ws zo st:=h.below ((Below.refl _ _).drew)
theorem zy.cu{g:Nat}{L:List zx}(h:zy w br g cap L ao cW Ws zo st)(a:zd T w w')(c:¬T br)(d:¬T g)(h3:∀b,(Value.slice ao Ws.length cW).ownBlock=some b->¬T b):zy w' br g cap L ao cW Ws zo st :=
 ⟨h.ref.zf a c d,s8 h.yc a h3,h.ne1⟩
theorem iD{b:Int}(h:Uu a b=true):(0<=a/\a<=1000)/\(0<=b/\b<=1000):=by
 unfold Uu at h
 have:=of_decide_eq_true h
 omega
theorem ym.vv{L:List zx}(E:ym L)(h:wb L){b c:Int}(l:Uu a b=true)(m:Uu c d=true):ym (vv L k a b c d)/\wb (vv L k a b c d):=by
 have i:=iD l;have j:=iD m
 refine⟨⟨?_,?_,by unfold Go.Proofs.YtphclnolomgjoaaGreatDoor.vv;simpa using E.len,by unfold Go.Proofs.YtphclnolomgjoaaGreatDoor.vv;simpa using E.pos⟩,?_⟩
 ·intro e f;obtain⟨y,g,rfl⟩:=UC.1 f
  have:=E.ok y g
  split
  ·exact this
  ·exact this
 ·intro e f;obtain⟨y,g,rfl⟩:=UC.1 f
  have:=E.zm y g
  split
  ·exact i
  ·exact this
 ·intro e f;obtain⟨y,g,rfl⟩:=UC.1 f
  have:=h y g
  split
  ·exact j
  ·exact this
def QuoG (br g:Nat)(a:Option Nat)(L L':List zx)(Ws:List Wk)(zo st:Int)(w:World)(e:Ending)(w':World):Prop :=
 (VU L' Ws=true/\e=vT #[v0_,vI 11]/\V_ w br g a L zo ⟨Ws,st,[]⟩ v0_ w') \/
 (VU L' Ws=false/\∃sl,e=vT #[sl,vI 0]/\V_ w br g a L' zo (UH L' ⟨Ws,st,[]⟩) sl w')
theorem nJ{g:Nat}{L:List zx}(h:zy w br g cap L ao cW Ws zo st)(E:ym L)(Ta:wb L)(Ka:(L.map (·.zb)).Nodup)(Ca:∀a∈L,∀b∈L,a.zb=b.zb->a=b)(I:ye ⟨Ws,st,[]⟩)(Za:st<=900000000)(s:ByteArray)(jb:s.size<=2000000)(a b c d:Int){x:zx}(La:yv L (bl s)=0)(la:UW L (s4 (bl s))=some x)(ha:Uu a b=true)(G:Uu c d=true)(Aa:x.zj=false->a=0/\b=0):
  Calls prog 74 #[vP br,vG s,.agg #[vI a,vI b],.agg #[vI c,vI d]] w (QuoG br g (Value.slice ao Ws.length cW).ownBlock L (vv L (s4 (bl s)) a b c d) Ws zo st w):=by
 have Ja:=h.Wf;have cb:=h.ref.WQ;have ab:=E.len;have Ha:zg ((w.alloc (.cells #[vI a,vI b] 35)).alloc (.cells #[vI c,vI d] 35)) w.heap.size 35 #[vI a,vI b]:=(zg.new w 35 _).alloc _;have Ia:zg ((w.alloc (.cells #[vI a,vI b] 35)).alloc (.cells #[vI c,vI d] 35)) (w.heap.size+1) 35 #[vI c,vI d]:=zg.new' s_;have vb:x.zb=s4 (bl s):=by have:=List.find?_some la;simpa using this
 have Ea:=fun W (ja:Bw w W)=>YK (h.ref.below ja) E Ca s jb La la
 have aa:=fun W=>W9 a b W
 have ca:=fun W=>W9 c d W
 rw[ha]at aa;rw[G]at ca;have da:w.cell? (vA br 0)=some (vS g L.length cap):=by have:=h.ref.zl.cell 0;simpa using this
 have K:∀i:Nat,L[i]?=some x->i<L.length/\w.cell? (vA g (i*6+1))=some (.bool x.zj):=fun i u=>⟨(Uy.1 u).1,h.ref.zq u (j:=1) rfl⟩
 have bb:g<w.heap.size:=(h.ref.row.lt g rfl).2;have Ma:=fun W (ja:Bw w W)=>di (h.below ja) E.len E.pos I.yh.yh.len
 obtain⟨n,ka⟩:∃n,n=L.length:=⟨_,rfl⟩;rw[<-ka]at da cb ab K;obtain⟨Sa,yb⟩:=E.vv Ta (k:=s4 (bl s)) ha G;have Xa:∀i:Nat,L[i]?=some x->L.set i (x.U9 a b c d)=vv L (s4 (bl s)) a b c d:=fun i u=>by rw[<-vb];exact ju L i x a b c d Ka u
 generalize vv L (s4 (bl s)) a b c d=L' at *;have Wa:Hid (n=L.length):=ka;clear La la ka Ca Ka ha G;have ba:x.zj=true\/(x.zj=false/\a=0/\b=0):=by
  cases ib:x.zj
  ·exact .inr ⟨rfl,Aa ib⟩
  ·exact .inl rfl
 clear Aa;have ba:(x.zj=true/\True)\/(x.zj=false/\(a != 0)=false/\(a == 0)=true/\(b != 0)=false/\(b == 0)=true):=by
  rcases ba with e|⟨e,rfl,rfl⟩
  ·exact .inl ⟨e,trivial⟩
  ·exact .inr ⟨e,rfl,rfl,rfl,rfl⟩
 rcases ba with ⟨ea,_⟩|⟨ea,Lb,Fb,Mb,Gb⟩
 all_goals
  rw[ea]at K;clear ea
  go_enter func74,ntmps74
  go_wp2_with (first
   |(go_at_call 117;refine(Ea _ cl).mono ?_;rintro e Qa ⟨⟨i,rfl,u⟩,S⟩;have Kb:=(K i u).1;have Da:=(K i u).2;have Db:(i:Int)<n:=o_;have Cb:(0:Int)<=i:=o_;have Fa:Bw w Qa:=s5 cl S;have J:=Ha.below S t_;have na:=Ia.below S s_;have m:=J.cell 0;have t:=J.cell 1;simp only[s7]at m t;clear Ea K)
   |(go_at_call 115;refine(aa _).mono ?_;clear aa;rintro e Ra ⟨rfl,T⟩;have Ga:Bw w Ra:=s5 Fa T;have ga:=J.below T J.lt;have H:=na.below T na.lt;clear m t;have m:=H.cell 0;have t:=H.cell 1;simp only[s7]at m t)
   |(go_at_call 115;refine(ca _).mono ?_;clear ca;rintro e f ⟨rfl,U⟩;have D:Bw w f:=s5 Ga U;have M:=ga.below U ga.lt;have ia:=H.below U H.lt;clear m t;have m:=M.cell 0;have t:=M.cell 1;have C:=(D.cell (p:=vA br 0) Ja).trans da;have ob:=(D.cell (p:=vA g (i*6+1)) bb).trans Da;simp only[s7]at m t)
   |(go_at_call 119;refine(Ma _ D).mono ?_;rintro e v ⟨l,g2,r,o,q,rfl,O,R,n1,n2,Na⟩))
  have nb:=D.size;have m1:w.heap.size<=l:=o_;have kb:w.heap.size<=g2:=o_;have X:∀b,(Value.slice o Ws.length q).ownBlock=some b->w.heap.size<=b:=fun b hb=>by have:=Na b hb;omega
  have V:Bw w v:=s5 D R;have A:=h.below V;have ra:=M.below R M.lt;have P:=ia.below R ia.lt;have Eb:g≠w.heap.size:=o_;clear m t C ob M ga J ia H na Ha Ia S T U R Fa Ga D Da Ma n1 n2 Na nb;clear f Ra Qa;have C:=(V.cell (p:=vA br 0) Ja).trans da;have q2:=A.ref.zq u (j:=2) rfl;have pb:v.cell? (vA g (i*6+2+1))=some (vI x.n1):=A.ref.zq u (j:=3) rfl;have db:v.frozen? (vA g (i*6+2+1))=false:=A.ref.row.frozenAt _;have G:v.frozen? (vA g (i*6+2))=false:=A.ref.row.frozenAt _;have m:=ra.cell 0;have t:=ra.cell 1;simp only[s7]at m t;have F:Hid (zy v br g cap L ao cW Ws zo st/\zy v l g2 r L o q Ws zo st/\zg v (w.heap.size+1) 35 #[vI c,vI d]):=⟨A,O,P⟩;clear A O P ra
  go_region
  all_goals
   obtain⟨A,O,P⟩:=F.out;clear F C q2 pb G db m t;have Bb:g<v.heap.size:=by have:=V.size;omega
   have ma:zd (fun y=>y=g) v ((v.setCell (vA g (i*6+2)) (vI a)).setCell (vA g (i*6+2+1)) (vI b)).drew:=(((zd.refl (fun y=>y=g) _).setCell (p:=vA g (i*6+2)) rfl _).setCell (p:=vA g (i*6+2+1)) rfl _).drew;have z:=(A.two (fE L i x a b u)).drew;have N:=O.cu ma o_ o_ (fun b hb=>by have:=X b hb;omega);have Z:=P.zf ma o_;have Y:(L.set i (x.U9 a b x.b0 x.b1))[i]?=some (x.U9 a b x.b0 x.b1):=by rw[List.getElem?_set_self];exact(Uy.1 u).1
   have Ua:(L.set i (x.U9 a b x.b0 x.b1)).length=n:=by rw[List.length_set];exact Wa.out.symm
   have Ya:(L.set i (x.U9 a b x.b0 x.b1)).set i ((x.U9 a b x.b0 x.b1).U9 (x.U9 a b x.b0 x.b1).n0 (x.U9 a b x.b0 x.b1).n1 c d)=L':=by rw[List.set_set];exact Xa i u
   clear A O P;generalize ((v.setCell (vA g (i*6+2)) (vI a)).setCell (vA g (i*6+2+1)) (vI b)).drew=B at *;generalize x.U9 a b x.b0 x.b1=y at *;generalize L.set i y=ua at *;have C:=z.ref.zl.cell 0;simp only[s7]at C;rw[Ua]at C;have qb:=z.ref.zq Y (j:=4) rfl;have rb:B.cell? (vA g (i*6+4+1))=some (vI y.b1):=z.ref.zq Y (j:=5) rfl;have eb:B.frozen? (vA g (i*6+4))=false:=z.ref.row.frozenAt _;have gb:B.frozen? (vA g (i*6+4+1))=false:=z.ref.row.frozenAt _;have m:=Z.cell 0;have t:=Z.cell 1;simp only[s7]at m t;have F:Hid (zy B br g cap ua ao cW Ws zo st/\zy B l g2 r L o q Ws zo st):=⟨z,N⟩;clear z N Z
   go_wp2
   go_region
   all_goals
    obtain⟨z,N⟩:=F.out;clear F C qb rb eb gb m t;have Pa:zd (fun y=>y=g) B ((B.setCell (vA g (i*6+4)) (vI c)).setCell (vA g (i*6+4+1)) (vI d)).drew:=(((zd.refl (fun y=>y=g) _).setCell (p:=vA g (i*6+4)) rfl _).setCell (p:=vA g (i*6+4+1)) rfl _).drew;have sa:=(z.two (fF ua i y c d Y)).drew;rw[Ya]at sa;have ta:=N.cu Pa o_ o_ (fun b hb=>by have:=X b hb;omega);generalize ((B.setCell (vA g (i*6+4)) (vI c)).setCell (vA g (i*6+4+1)) (vI d)).drew=Ba at *;have Oa:zd (fun b=>b=br\/b=g\/(Value.slice ao Ws.length cW).ownBlock=some b) w Ba:=((zd.new V).step ma (fun y _ e=>.inr (.inl e))).step Pa (fun y _ e=>.inr (.inl e));have Ab:Calls prog 120 #[vP br,vP l] Ba fun e w'=>∃sl er,e=vT #[sl,vI er]/\Hid (QuoG br g (Value.slice ao Ws.length cW).ownBlock L L' Ws zo st w (vT #[sl,vI er]) w'):=(dH sa Sa yb I Za ta o_ o_ (fun b hb=>by have:=X b hb;omega)).mono fun e w' hp=>by
     rcases hp with ⟨oa,pa,qa,mb⟩|⟨oa,sl,Hb,Jb,pa,qa⟩
     ·exact⟨_,_,pa,.inl ⟨oa,rfl,⟨g2,r,o,q,qa,.inr kb,fun b hb=>⟨fun Ib=>by have:=X b hb;omega,by simp[Value.ownBlock]⟩⟩,Oa.step mb (fun y _ e=>.inl e),Vx _ _ _ _,fun b hb=>by simp[Value.ownBlock]at hb⟩⟩
     ·exact⟨_,_,pa,.inr ⟨oa,sl,rfl,V_.Zf Oa qa (fun b hb _=>hb) (.inl rfl)⟩⟩
    clear z N sa ta;generalize QuoG br g (Value.slice ao Ws.length cW).ownBlock L L' Ws zo st w=Q at *
    go_wp2_with (first|(go_at_call 120;refine Ab.mono ?_;rintro e Nb ⟨sl,er,rfl,Va⟩))
    exact Va.out
def kidE (s:Bs)(e:zx):Bool:=xc (kN e.zb) s&&!decide (kN e.zb=s)
def atW (s:Bs)(x:Wk):Bool:=decide (kN x.zb=s)
def WD (L:List zx)(Ws:List Wk)(s:Bs):Bool:=L.any (kidE s)||Ws.any (atW s)
theorem iL{g:Nat}{L:List zx}(h:zy w br g cap L ao cW Ws zo st)(E:ym L)(F:xm Ws)(s:ByteArray)(N:s.size<=2000000):
  Calls prog 118 #[vP br,vG s] w fun e w'=>e=vR (.bool (WD L Ws (bl s)))/\w'=w:=by
 have I:=E.len;have O:=F.len;have J:=h.ref.WQ;have Q:=Y1 h.yc;obtain⟨n,t⟩:∃n,n=L.length:=⟨_,rfl⟩;obtain⟨m,r⟩:∃m,m=Ws.length:=⟨_,rfl⟩;have R:w.cell? (vA br 0)=some (vS g n cap):=by have:=h.ref.zl.cell 0;rw[t];simpa using this
 have T:w.cell? (vA br 1)=some (.slice ao m cW):=by have:=h.ref.zl.cell 1;rw[r];simpa using this
 rw[<-t]at I J;rw[<-r]at O Q;have p:Hid (n=L.length/\m=Ws.length):=⟨t,r⟩;clear t r
 go_enter func118,ntmps118
 go_wp2
 go_loop [5,6] (fun i _=>∃k:Nat,k<=n/\i=vI k/\(L.take k).any (kidE (bl s))=false) (fun i _=>n-(intOf i).toNat)
 case atStart=>exact⟨0,Nat.zero_le _,rfl,s_⟩
 case round =>
  obtain⟨k,M,rfl,l⟩:=hrel;have c:Hid ((L.take k).any (kidE (bl s))=false):=l;clear l
  by_cases x:k<n
  ·have d:k<L.length:=by rw[<-p.out.1];exact x
   obtain⟨y,a⟩:∃y,L[k]?=some y:=⟨_,Ur d⟩;have f:=Uq a;have o:L.take (k+1)=L.take k++[y]:=by
    rw[VT d];rw[Ur d]at a;cases a;rfl
   have z:Hid ((L.take (k+1)).any (kidE (bl s))=kidE (bl s) y):=by
    show _=_
    rw[o,List.any_append,c.out];simp
   have u:Hid (kidE (bl s) y=true->WD L Ws (bl s)=true):=fun ht=>by
    show WD L Ws (bl s)=true
    unfold WD;rw[Bool.or_eq_true,W7]
    exact .inl ⟨y,f,ht⟩
   have hp:=h.ref.zq a (j:=0) (v:=vG (sb (kN y.zb))) rfl;simp only[Nat.add_zero]at hp;have A:=X3 (sb (kN y.zb)) s w (E.small f) N;rw[UO]at A;have P:((sb (kN y.zb)).toList == s.toList)=decide (kN y.zb=bl s):=by rw[YM,UO]
   have C:Hid (kidE (bl s) y=(xc (kN y.zb) (bl s)&&!decide (kN y.zb=bl s))):=rfl;clear a f o c;generalize kidE (bl s) y=D at *;generalize xc (kN y.zb) (bl s)=i1 at *;generalize decide (kN y.zb=bl s)=i2 at *;have K:(k:Int)<n:=o_
   go_wp2_with fail
   refine A.mono ?_
   rintro e U ⟨rfl,H⟩
   subst H
   cases i1<;>cases i2
   all_goals go_wp2
   all_goals first
    |(go_ret;exact⟨VP (u.out (by rw[C.out];rfl)).symm,rfl⟩)
    |(go_round;(case rel=>exact⟨k+1,o_,by go_num,by rw[z.out,C.out];rfl⟩);(case measure=>simp[intOf];omega))
  ·have q:L.take k=L:=Vl (h_ p.out.1);have G:Hid (L.any (kidE (bl s))=false):=by have:=c.out;rw[q]at this;exact this
   clear c q
   go_wp2
   go_loop [7] (fun i=>∃k:Nat,k<=m/\i=vI k/\(Ws.take k).any (atW (bl s))=false) (fun i=>m-(intOf i).toNat)
   case atStart=>exact⟨0,Nat.zero_le _,rfl,s_⟩
   case round =>
    obtain⟨k,M,rfl,l⟩:=hrel;have c:Hid ((Ws.take k).any (atW (bl s))=false):=l;clear l
    by_cases x:k<m
    ·have d:k<Ws.length:=by rw[<-p.out.2];exact x
     obtain⟨y,a⟩:∃y,Ws[k]?=some y:=⟨_,Ur d⟩;have f:=Uq a;have o:Ws.take (k+1)=Ws.take k++[y]:=by
      rw[VT d];rw[Ur d]at a;cases a;rfl
     have z:Hid ((Ws.take (k+1)).any (atW (bl s))=atW (bl s) y):=by
      show _=_
      rw[o,List.any_append,c.out];simp
     have u:Hid (atW (bl s) y=true->WD L Ws (bl s)=true):=fun ht=>by
      show WD L Ws (bl s)=true
      unfold WD;rw[Bool.or_eq_true,W7,W7]
      exact .inr ⟨y,f,ht⟩
     obtain⟨b,rfl,S,_,_,_,hp,_⟩:=h.wk a;have P:((sb (kN y.zb)).toList == s.toList)=atW (bl s) y:=by rw[YM,UO];rfl
     clear a f o c;generalize atW (bl s) y=D at *;have K:(k:Int)<m:=o_
     cases D
     ·go_wp2
      go_round
      case rel=>exact⟨k+1,o_,by go_num,z.out⟩
      case measure=>simp[intOf];omega
     ·go_wp2
      go_ret
      exact⟨VP (u.out s_).symm,rfl⟩
    ·go_wp2
     go_ret
     have q:Ws.take k=Ws:=Vl (h_ p.out.2);have B:=c.out;rw[q]at B
     exact⟨VP (show false=WD L Ws (bl s) by unfold WD;rw[G.out,B];rfl),rfl⟩
theorem qW(Ws:List zx)(i:Nat):UP (Ws.take i)=(UP Ws).take (i*6):=by
 induction Ws generalizing i with
 |nil=>simp[UP]
 |cons a l b =>
  cases i with
  |zero=>simp[UP]
  |succ i =>
   have:=b i
   simp only[List.take_succ_cons,UP,List.flatMap_cons]at this ⊢;rw[this,List.take_append,show(i+1)*6-(Vj a).length=i*6 by simp[Vj];omega,Vl (l:=Vj a) (by simp[Vj];omega)]
theorem qU(Ws:List zx)(i:Nat):UP (Ws.drop i)=(UP Ws).drop (i*6):=by
 induction Ws generalizing i with
 |nil=>simp[UP]
 |cons a l b =>
  cases i with
  |zero=>simp[UP]
  |succ i =>
   have:=b i
   simp only[List.drop_succ_cons,UP,List.flatMap_cons]at this ⊢;rw[this,List.drop_append,show(i+1)*6-(Vj a).length=i*6 by simp[Vj];omega,List.drop_of_length_le (l:=Vj a) (by simp[Vj];omega),List.nil_append]
def xa (L:List zx)(k:List Bs):List zx:=L.filter fun e=>!decide (e.zb=k)
theorem hY:∀(L:List zx) (i:Nat) (x:zx),(L.map (·.zb)).Nodup->L[i]?=some x->L.take i++L.drop (i+1)=xa L x.zb
 | [],i,x,_,h=>by simp at h
 |y::l,0,x,a,h=>by
  simp at h;subst h
  simp only[List.map_cons,List.nodup_cons,UC,not_exists,not_and]at a
  have:l.filter (fun e=>!decide (e.zb=y.zb))=l:=List.filter_eq_self.2 fun e f=>by simp;exact a.1 e f
  simp[xa,this]
 |y::l,i+1,x,a,h=>by
  simp only[List.map_cons,List.nodup_cons,UC,not_exists,not_and]at a;have b:l[i]?=some x:=by simpa using h
  have c:=hY l i x a.2 b;have d:¬(y.zb=x.zb):=fun e=>a.1 x (Uq b) e.symm
  simp[xa,d]at c ⊢
  exact c
theorem zy.putL{g:Nat}{L L':List zx}(h:zy w br g cap L ao cW Ws zo st)(a:Bw w f){k:Nat}(i:L'.length=k)(j:f.ownsRow 0 163 6 (vS g2 k q2) k (UP L'))(l:w.heap.size<=g2):
  zy (f.setCell (vA br 0) (vS g2 k q2)) br g2 q2 L' ao cW Ws zo st/\zd (fun y=>y=br) w (f.setCell (vA br 0) (vS g2 k q2)):=by
 have c:=h.Wf;subst i
 refine⟨⟨⟨?_,?_⟩,?_,?_⟩,(zd.new (T:=fun y=>y=br) a).setCell (p:=vA br 0) rfl _⟩
 ·have d:=(h.ref.zl.below a c).set 0 (vS g2 L'.length q2)
  simpa using d
 ·exact UQ j (fun e=>by simp[Value.ownBlock]at e;omega) _
 ·exact UQ (s8 (T:=fun _=>False) h.yc (zd.new a) (fun _ _ h=>h)) (fun e=>(h.ne1 _ e).1 rfl) _
 ·intro b hb
  have:=UI h.yc hb
  exact⟨(h.ne1 b hb).1,o_⟩
theorem mW{g:Nat}{L:List zx}(h:zy w br g cap L ao cW Ws zo st)(E:ym L)(r:xm Ws)(o:∀a∈L,∀b∈L,a.zb=b.zb->a=b)(s:ByteArray)(n:s.size<=2000000)(c:(if yv L (bl s)≠0 then yv L (bl s) else if WD L Ws (bl s)=true then 9 else 0)=er)(l:er≠0):
  Calls prog 72 #[vP br,vG s] w fun e w'=>e=vT #[v0_,vI er]/\Bw w w':=by
 by_cases j:yv L (bl s)=0
 ·rw[if_neg (j_ j)]at c;have p:WD L Ws (bl s)=true:=by
   cases hb:WD L Ws (bl s)
   ·rw[hb]at c;exact absurd c.symm l
   ·rfl
  rw[if_pos p]at c;subst c;have d:=ZW h.ref E o s n;have d:Calls prog 117 #[vP br,vG s] w fun e w'=>(∃i:Nat,e=vT #[vI i,vI 0])/\Bw w w':=d.mono fun e w' hp=>by
   obtain⟨m,hb⟩:=hp
   rcases m with ⟨f,_⟩|⟨_,i,_,_,_,f⟩
   ·exact absurd j f
   ·exact⟨⟨i,f⟩,hb⟩
  have q:=fun W (u:Bw w W)=>iL (h.below u) E r s n
  rw[p]at q;clear h j
  go_enter func72,ntmps72
  go_wp2_with (first
   |(go_at_call 117;refine d.mono ?_;rintro e x ⟨⟨i,rfl⟩,k⟩)
   |(go_at_call 118;refine(q _ k).mono ?_;rintro e A ⟨rfl,t⟩;subst t))
  exact Us (v:=.tuple #[v0_,vI 9]) (by simp[results,results72,go_sem]) rfl ⟨rfl,k⟩
 ·have d:=ZW h.ref E o s n;rw[if_pos (j_ j)]at c;have d:Calls prog 117 #[vP br,vG s] w fun e w'=>e=vT #[vI 0,vI er]/\Bw w w':=d.mono fun e w' hp=>by
   obtain⟨m,hb⟩:=hp
   rcases m with ⟨_,f⟩|⟨f,_⟩
   ·rw[<-c];exact⟨f,hb⟩
   ·exact absurd f j
  have y:(er != 0)=true:=by simp[l]
  have z:(er == 0)=false:=by simp[l]
  clear h c j
  go_enter func72,ntmps72
  go_wp2_with (first
   |(go_at_call 117;refine d.mono ?_;rintro e x ⟨rfl,k⟩))
  exact Us (v:=.tuple #[v0_,vI er]) (by simp[results,results72,go_sem]) rfl ⟨rfl,k⟩
theorem mX{g:Nat}{L:List zx}(h:zy w br g cap L ao cW Ws zo st)(E:ym L)(Ca:(L.map (·.zb)).Nodup)(ra:∀a∈L,∀b∈L,a.zb=b.zb->a=b)(I:ye ⟨Ws,st,[]⟩)(Sa:st<=900000000)(s:ByteArray)(Fa:s.size<=2000000){x:zx}(Da:yv L (bl s)=0)(ia:UW L (s4 (bl s))=some x)(La:WD L Ws (bl s)=false)(Y:ym (xa L (s4 (bl s))))(Pa:wb (xa L (s4 (bl s)))):
  Calls prog 72 #[vP br,vG s] w (QuoG br g (Value.slice ao Ws.length cW).ownBlock L (xa L (s4 (bl s))) Ws zo st w):=by
 have Ta:=h.Wf;have Wa:=h.ref.WQ;have Va:=E.len;have qb:x.zb=s4 (bl s):=by have:=List.find?_some ia;simpa using this
 have ua:=YK h.ref E ra s Fa Da ia;have na:=fun W (J:Bw w W)=>iL (h.below J) E I.yh.yh s Fa
 rw[La]at na;have ea:w.cell? (vA br 0)=some (vS g L.length cap):=by have:=h.ref.zl.cell 0;simpa using this
 have yb:g<w.heap.size:=(h.ref.row.lt g rfl).2;have T:=fun W (J:Bw w W)=>di (h.below J) E.len E.pos I.yh.yh.len
 have ba:∀i:Nat,L[i]?=some x->L.take i++L.drop (i+1)=xa L (s4 (bl s)):=fun i D=>by rw[<-qb];exact hY L i x Ca D
 generalize xa L (s4 (bl s))=L' at *;clear Da ia ra Ca La;obtain⟨n,ha⟩:∃n,n=L.length:=⟨_,rfl⟩;rw[<-ha]at ea Wa Va;have K:Hid (n=L.length):=ha;clear ha
 go_enter func72,ntmps72
 go_upto_region 9 with (first
   |(go_at_call 117;refine ua.mono ?_;rintro e Lb ⟨⟨i,rfl,D⟩,v⟩;clear ua)
   |(go_at_call 118;refine(na _ v).mono ?_;rintro e d ⟨rfl,Xa⟩;subst Xa;clear na)
   |(go_at_call 119;refine(T _ v).mono ?_;rintro e c ⟨l,g2,r,o,q,rfl,Ka,ta,n1,n2,Ja⟩;clear T))
 have Ua:=v.size;have m1:w.heap.size<=l:=o_;have Ha:w.heap.size<=g2:=o_;have S:∀b,(Value.slice o Ws.length q).ownBlock=some b->w.heap.size<=b:=fun b hb=>by have:=Ja b hb;omega
 have M:Bw w c:=s5 v ta;clear ta v n1 n2 Ja Ua;have Ib:=M.size;have U:=h.below M;have Cb:i<n:=by have:=(Uy.1 D).1;have:=K.out;omega
 have Gb:(i:Int)<n:=o_;have Kb:(0:Int)<=i:=o_;have Jb:¬((i:Int)<0):=o_;have c0:c.cell? (vA br 0)=some (vS g n cap):=(M.cell (p:=vA br 0) Ta).trans ea;have Qa:g<c.heap.size:=o_;have pa:br<c.heap.size:=o_;have ca:∀(W:World),Bw c W->∀j u,(UP L)[j]?=some u->W.cell? (vA g j)=some u:=fun W J j u z=>by
  have:=U.ref.row.cells (g:=g) rfl j u z
  rw[Addr.add_lit,Nat.zero_add]at this
  exact(J.cell (p:=vA g j) Qa).trans this
 have ma:=XN Z8 cg o_ c none 0 0 (Nat.le_refl _) (Nat.zero_le _) [] (Vx _ _ _ _) (some (vA g 0)) i cap (UP (L.take i)) (by rw[fB,List.length_take];rw[Nat.min_eq_left (h_ K.out)])
  (fun _=>⟨_,rfl,fun j u z=>by
   rw[Addr.add_lit,Nat.zero_add]
   refine ca c (Below.refl _ _) j u ?_
   rw[qW]at z;rw[List.getElem?_take]at z
   split at z
   ·exact z
   ·cases z⟩) (bJ _) (by unfold maxLen;omega) o_
 simp only[Nat.zero_add,List.nil_append]at ma;have v:∀a1 m d,vn c v0_.ownBlock 163 6 i (UP (L.take i)) a1 m d->Bw c d:=fun a1 m d R=>a9 R
 have Na:∀a1 m d,vn c v0_.ownBlock 163 6 i (UP (L.take i)) a1 m d->∀(V:Option Addr) (c2:Nat),(0<n-(i+1)->V=some (vA g ((i+1)*6))) ->
   ∃Oa w',(∀nb,(Builtin.append_ #[164,164] nb #[.slice a1 i m,.slice V (n-(i+1)) c2]).run prog d=.ok Oa w')/\∃qa cap',Oa=.slice qa (i+(n-(i+1))) cap'/\vn d (Value.slice a1 i m).ownBlock 163 6 (i+(n-(i+1))) (UP (L.take i)++UP (L.drop (i+1))) qa cap' w' :=
  fun a1 m d R V c2 gb=>XN Z8 cg o_ d a1 i m R.le R.mx _ R.own V (n-(i+1)) c2 (UP (L.drop (i+1))) (by rw[fB,List.length_drop,<- K.out])
   (fun bb=>⟨_,gb bb,fun j u z=>by
    rw[qU,List.getElem?_drop]at z;rw[Addr.add_lit]
    exact ca d (v _ _ _ R) _ u z⟩) (bJ _) (by unfold maxLen;omega) o_
 have Aa:L'.length=i+(n-(i+1)):=by
  rw[<-ba i D]
  have:=K.out
  simp;omega
 have sa:∀a1 m d a2 q2 f,vn c v0_.ownBlock 163 6 i (UP (L.take i)) a1 m d->vn d (Value.slice a1 i m).ownBlock 163 6 (i+(n-(i+1))) (UP (L.take i)++UP (L.drop (i+1))) a2 q2 f ->
   ∃g3,a2=some (vA g3 0)/\Bw c f/\c.heap.size<=g3/\f.ownsRow 0 163 6 (vS g3 (i+(n-(i+1))) q2) (i+(n-(i+1))) (UP L'):=fun a1 m d a2 q2 f B t=>by
  have F:=v _ _ _ B;have Ia:∀y,(Value.slice a1 i m).ownBlock=some y->c.heap.size<=y:=fun y eb=>by
   rcases B.new y eb with e|e
   ·simp[Value.ownBlock]at e
   ·exact e
  have Ra:Bw c f:=F.trans ⟨t.zf.os,t.zf.tape,t.zf.output,t.zf.size,fun k Db=>t.zf.block k (h_ F.size) (fun e=>by have:=Ia k e;omega)⟩;have Ea:=t.own;have Ab:=Y.pos;obtain⟨g3,da,db,_,_⟩:=VX Ea o_;injection db with Ya _ Bb;subst Ya
  refine⟨g3,rfl,Ra,?_,?_⟩
  ·rcases t.new g3 rfl with e|e
   ·exact Ia _ e
   ·have:=F.size;omega
  ·rw[show UP L'=UP (L.take i)++UP (L.drop (i+1)) by rw[<-ba i D];simp[UP]]
   exact Ea
 have Ba:=U.ref.zl;have C:∀f:World,Bw c f->f.cell? (vA br 0)=some (vS g n cap)/\f.frozen? (vA br 0)=false/\br<f.heap.size:=fun f H=>⟨(H.cell (p:=vA br 0) pa).trans c0,(Ba.below H pa).frozen 0,by have:=H.size;omega⟩
 have Z:Hid (∀f g3 q2,Bw c f->c.heap.size<=g3->f.ownsRow 0 163 6 (vS g3 (i+(n-(i+1))) q2) (i+(n-(i+1))) (UP L') ->
   Calls prog 120 #[vP br,vP l] (f.setCell (vA br 0) (vS g3 (i+(n-(i+1))) q2)) fun e w'=>∃sl er,e=vT #[sl,vI er]/\Hid (QuoG br g (Value.slice ao Ws.length cW).ownBlock L L' Ws zo st w (vT #[sl,vI er]) w')):=fun f g3 q2 H ab cb=>by
  obtain⟨ib,Ga⟩:=U.putL H Aa cb ab;have kb:=Ka.cu Ga o_ o_ (fun b hb=>by have:=S b hb;omega);have Ma:zd (fun b=>b=br\/b=g\/(Value.slice ao Ws.length cW).ownBlock=some b) w (f.setCell (vA br 0) (vS g3 (i+(n-(i+1))) q2)):=(zd.new M).step Ga (fun y _ e=>.inl e)
  exact(dH ib Y Pa I Sa kb o_ o_ (fun b hb=>by have:=S b hb;omega)).mono fun e w' hp=>by
   rcases hp with ⟨ja,ka,la,mb⟩|⟨ja,sl,rb,da,ka,la⟩
   ·exact⟨_,_,ka,.inl ⟨ja,rfl,⟨g2,r,o,q,la,.inr Ha,fun b hb=>⟨fun vb=>by have:=S b hb;omega,by simp[Value.ownBlock]⟩⟩,Ma.step mb (fun y _ e=>.inl e),Vx _ _ _ _,fun b hb=>by simp[Value.ownBlock]at hb⟩⟩
   ·exact⟨_,_,ka,.inr ⟨ja,sl,rfl,V_.Zf Ma la (fun b hb _=>hb) (.inr o_)⟩⟩
 generalize QuoG br g (Value.slice ao Ws.length cW).ownBlock L L' Ws zo st w=Q at *;clear ca Ba h U Ka I E Y Pa D m1 Ha S ea Aa ba
 go_upto_region 10 with (at_builtin;refine Vk r_ _ _ _ _ rfl _ _ rfl r_ ma ?_;rintro v1 Mb ⟨a1,m,rfl,B⟩)
 have F:=v _ _ _ B;have c2:=(C _ F).1;have N:=Na _ _ _ B;have P:=fun a2 q2 f=>sa _ _ _ a2 q2 f B
 have Eb:=B.le;have Fb:=B.mx;clear ma Na v sa c0
 by_cases T:i+1=cap
 ·have G:=N (some (vA g 0)) 0 (fun h=>by omega);have O:n-(i+1)=0:=o_;subst T;rw[O]at G;rw[O]at P;rw[Nat.add_zero]at G P;rw[O,Nat.add_zero]at Z;clear N O
  go_wp2_with (first
   |(at_builtin;refine Vk r_ _ _ _ _ rfl _ _ rfl r_ G ?_;rintro v2 ob ⟨a2,q2,rfl,t⟩;obtain⟨g3,rfl,A,X,ga⟩:=P _ _ _ t;have Za:=(C _ A).2.1;have da:=(C _ A).1;have jb:=(C _ A).2.2;have oa:=Z.out _ _ _ A X ga)
   |(go_at_call 120;refine oa.mono ?_;rintro e pb ⟨sl,er,rfl,aa⟩))
  exact aa.out
 ·have Hb:¬((i:Int)+1=cap):=o_;have G:=N (some (vA g ((i+1)*6))) (cap-(i+1)) (fun _=>rfl);clear N
  go_wp2_with (first
   |(at_builtin;refine Vk r_ _ _ _ _ rfl _ _ rfl r_ G ?_;rintro v2 ob ⟨a2,q2,rfl,t⟩;obtain⟨g3,rfl,A,X,ga⟩:=P _ _ _ t;have Za:=(C _ A).2.1;have da:=(C _ A).1;have jb:=(C _ A).2.2;have oa:=Z.out _ _ _ A X ga)
   |(go_at_call 120;refine oa.mono ?_;rintro e pb ⟨sl,er,rfl,aa⟩))
  exact aa.out
def xz (k k' zb:List Bs):List Bs:=if k.isPrefixOf zb then k'++zb.drop k.length else zb
def wg (k k':List Bs)(e:zx):zx:={e with zb:=xz k k' e.zb}
def we (k k':List Bs)(x:Wk):Wk:={x with zb:=xz k k' x.zb}
theorem WC(h:k <+: zb):xz k k' zb=k'++zb.drop k.length:=by
 unfold xz;rw[if_pos (WK.2 h)]
theorem V7(h:¬k <+: zb):xz k k' zb=zb:=by
 unfold xz;rw[if_neg (fun e=>h (WK.1 e))]
theorem nS{tl:List Bs}(b:k≠[])(a:k'≠[]):kN k'++(kN (k++tl)).drop (kN k).length=kN (k'++tl):=by
 by_cases ht:tl=[]
 ·subst ht;simp
 ·rw[aJ k tl b ht,aJ k' tl a ht];simp
theorem qR(p a b:ByteArray)(w:World)(h:a.size<=p.size)(hp:p.size<=2000000)(hb:b.size<=2000000):
  Calls prog 123 #[vG p,vG a,vG b] w fun e w'=>e=vR (vG (sb (bl b++(bl p).drop a.size)))/\w'=w:=by
 have f:(a.size:Int)<=p.size:=o_;have d:(0:Int)<=a.size:=o_;have g:¬9223372036854775807<b.size+(p.size-a.size):=o_
 go_enter func123,ntmps123
 go_wp2
 have c:b++p.extract a.size p.size=sb (bl b++(bl p).drop a.size):=by
  refine Wy ?_
  rw[YY,YB,UO,Vl (by rw[List.length_drop,Wo];exact Nat.le_refl _)]
 go_ret
 exact⟨by rw[<-c];rfl,rfl⟩
theorem ry{tl:List Bs}(a:k≠[])(c:k'≠[])(d:UL (k++tl)=true)(f:UL k'=true)(l1:(k++tl).length<=4)(l2:k'.length<=5)(w:World):
  Calls prog 123 #[vG (sb (kN (k++tl))),vG (sb (kN k)),vG (sb (kN k'))] w fun e w'=>e=vR (vG (sb (kN (k'++tl))))/\w'=w:=by
 have g:=XY _ d;have j2:=XY _ f;have b:(sb (kN k)).size<=(sb (kN (k++tl))).size:=by
  rw[Wq,Wq]
  by_cases ht:tl=[]
  ·subst ht;simp
  ·rw[aJ k tl a ht];simp
 have:=qR (sb (kN (k++tl))) (sb (kN k)) (sb (kN k')) w b (by rw[Wq];omega) (by rw[Wq];omega)
 rw[UO,UO,Wq,nS a c]at this
 exact this
end Go.Proofs.YtphclnolomgjoaaGreatDoor
