import Derived.Test.YtphclnolomgjoaaGreatDoorE07
import Derived.Test.YtphclnolomgjoaaGreatDoorE04
set_option linter.unusedVariables false
set_option linter.unusedSimpArgs false
set_option maxRecDepth 100000
set_option maxHeartbeats 4000000
namespace Go.Proofs.YtphclnolomgjoaaGreatDoor
open Tryz
open Go.RowKit
variable {P:Program}{e E t' tl:TypeId}{H b bw bytes c c2 cA cB d k t g1 g2 g3 gA gN a B C D M z n size:Nat}{O S U V R K W W' g w w' I G A J x:World}{a2 aA aB f:Option Addr}{u ns xs:List Value}{r s F l y v j:Value}{L ms:List Int}{T:Nat->Prop}{m:Int}{vs:Array Value}{o:Option Nat}{zt:List (Int×Int)}
theorem nC(w:World)(t e:TypeId)(i0:TypeInfo)(z:Value)(size bytes:Nat)(ht:P.underlying t=some (.slice e))(G:P.info? e=some i0)(S:i0.zero=some z)
  (v:i0.size=size) (O:i0.bytes=bytes) (W:z.cells.size=size) (Q:0<size) (sl:Value) (n:Nat) (xs:List Value) (o:w.ownsRow 0 e size sl n xs)
  (ad:Addr) (m c:Nat) (ba:0<n+m) (d:List Value) (r:d.length=m*size) (E:∀j u,d[j]?=some u->w.cell? (ad.add j)=some u) (B:∀u∈d,u.oneCell'=true)
  (V:n+m<=maxLen) (hb:(n+m)*bytes<=140737488355328) (M:Value) (Y:∀u∈d,u=M) :
  ∃f w',(∀y,(Builtin.append_ #[t,t] y #[sl,.slice (some ad) m c]).run P w=.ok f w')/\w'.ownsRow 0 e size f (n+m) (xs++d)/\w.grownBy w' sl.ownBlock/\(f.ownBlock=sl.ownBlock\/∃g,f.ownBlock=some g/\w.heap.size<=g) /\
   w'.ownsRow 0 e size sl n xs/\(∀b j,w.cell? (vA b j)=some M->w'.cell? (vA b j)=some M):=by
 have N:∀ {f:Value} {w':World},w'.ownsRow w.heap.size e size f (n+m) (xs++d)->w'.ownsRow 0 e size f (n+m) (xs++d)/\∃g,f.ownBlock=some g/\w.heap.size<=g:=fun {f w'} h=>by
  obtain⟨B,C⟩:=h
  rcases C with ⟨_,aa⟩|⟨g,cap,l,rfl,hb,rest⟩
  ·omega
  ·exact⟨⟨B,.inr ⟨g,cap,l,rfl,Nat.zero_le _,rest⟩⟩,g,rfl,hb⟩
 have X:∀ {w':World},w.grownBy w' none->∀b j,w.cell? (vA b j)=some M->w'.cell? (vA b j)=some M:=fun {w'} i b j q=>i.cell q s_
 rcases o.2 with ⟨rfl,rfl⟩|⟨g,cap,l,rfl,_,p,U,J,D,K⟩
 ·have Z:xs=[]:=List.eq_nil_of_length_eq_zero (j_ o.1);subst Z;obtain⟨f,w',s,I,i,_⟩:=run_append_own (P:=P) w w.heap.size t 0 e i0 z size bytes ht G S v O W Q v0_ 0 [] (Vx w _ e size) ad m c d r E B V hb (Nat.le_refl _);have x:=N I
  exact⟨f,w',fun y=>s,x.1,i,.inr x.2,Vx _ _ _ _,X i⟩
 ·by_cases A:n+m<=cap
  ·have s:=fun y=>run_append_room (P:=P) w t y e i0 ht G g n cap l p ad m c d (by rw[v];exact r) E B A (by rw[v,r,D,<- Nat.add_mul];exact Nat.mul_le_mul_right _ A)
   rw[v]at s;have L:(xs++d).length=(n+m)*size:=by rw[List.length_append,o.1,r,Nat.add_mul]
   have ca:n*size+d.length<=l.size:=by rw[r,D,<- Nat.add_mul];exact Nat.mul_le_mul_right _ A
   refine⟨_,_,s,⟨L,.inr ⟨g,cap,_,rfl,Nat.zero_le _,setRow_heap w g l _ e _ p,A,J,?_,?_⟩⟩,⟨rfl,rfl,rfl,s_,fun k _ H=>setRow_other w g k _ (fun e=>H (by simp[Value.ownBlock,e]))⟩,.inl rfl,
    ⟨o.1,.inr ⟨g,cap,_,rfl,Nat.zero_le _,setRow_heap w g l _ e _ p,U,J,?_,?_⟩⟩,?_⟩
   ·simp only[List.size_toArray,List.length_append,List.length_take,List.length_drop,Array.length_toList]
    omega
   ·rw[K,<- L]
    exact List.take_left
   ·simp only[List.size_toArray,List.length_append,List.length_take,List.length_drop,Array.length_toList]
    omega
   ·rw[K,List.append_assoc,<- o.1]
    exact List.take_left
   ·intro b j q
    by_cases R:b=g
    ·subst R;rw[cell_of_row w b j l e (0,0) p]at q;rw[cell_of_row _ b j _ e _ (setRow_heap w b l _ e _ p)];rw[List.getElem?_toArray]
     rcases Nat.lt_or_ge j (n*size) with C|C
     ·rw[List.append_assoc,Wu t_,List.getElem?_take,if_pos C];simpa using q
     ·rcases Nat.lt_or_ge j (n*size+d.length) with h3|h3
      ·rw[List.append_assoc,Wp t_];have F:(List.take (n*size) l.toList).length=n*size:=by simp;omega
       rw[F,Wu o_];have T:j-n*size<d.length:=o_;rw[Ur T,Y _ (List.getElem_mem T)]
      ·rw[Wp t_];have F:(List.take (n*size) l.toList++d).length=n*size+d.length:=by simp;omega
       rw[F,List.getElem?_drop];rw[show n*size+d.length+(j-(n*size+d.length))=j by omega]
       simpa using q
    ·rw[World.cell?_of_block (w:=w) (a:=(vA b j)) (setRow_other w g b _ R)]
     exact q
  ·obtain⟨f,w',s,I,i⟩:=run_append_arg_grows (P:=P) w t 0 e i0 z size bytes ht G S v O W Q (vA g 0) n cap xs o.1 (o.cells (g:=g) rfl) ad m c d r E o_ V hb;have x:=N I
   refine⟨f,w',fun y=>s,x.1,⟨i.os,i.tape,i.output,i.size,fun k H _=>i.block k H s_⟩,.inr x.2,?_,X i⟩
   exact⟨o.1,.inr ⟨g,cap,l,rfl,Nat.zero_le _,(i.block g (Vz.1 p).1 s_).trans p,U,J,D,K⟩⟩
structure AppS (W:World) (l:Value) (e:TypeId) (size n k:Nat) (m:Int) (g cap:Nat) (w':World):Prop where
 le:k<=cap
 mx:cap<=maxLen
 own:w'.ownsRow 0 e size (vS g k cap) k (List.replicate (k*size) (vI m))
 zf:zd (fun b=>l.ownBlock=some b) W w'
 new:l.ownBlock=some g\/W.heap.size<=g
 row:w'.ownsRow 0 e size l n (List.replicate (n*size) (vI m))
 stay:∀b j,W.cell? (vA b j)=some (vI m)->w'.cell? (vA b j)=some (vI m)
theorem Zx{t:TypeId}(ht:prog.underlying t=some (.slice e))(A:Wx e size bytes)(s:0<size)(W:World)(sl:Value)(n:Nat)(M:Int)(l:W.ownsRow 0 e size sl n (List.replicate (n*size) (vI M)))
  (f m c:Nat) (G:0<m) (p:zg W f t' (List.replicate (m*size) (vI M)).toArray) (E:n+m<=maxLen) (hb:(n+m)*bytes<=140737488355328) :
  ∃h w',(∀F,(Builtin.append_ #[t,t] F #[sl,vS f m c]).run prog W=.ok h w')/\∃g cap,h=vS g (n+m) cap/\AppS W sl e size n (n+m) M g cap w':=by
 obtain⟨i0,z,b,h3,w,x,y⟩:=A;obtain⟨h,w',C,d,v,r,i,o⟩:=nC (P:=prog) W t e i0 z size bytes ht b h3 w x y s sl n _ l (vA f 0) m c o_ (List.replicate (m*size) (vI M)) s_
  (fun j u a=>by rw[Addr.add_lit,Nat.zero_add,p.cell,List.getElem?_toArray];exact a) (fun u a=>by rw[List.eq_of_mem_replicate a];rfl) E hb (vI M) (fun u a=>List.eq_of_mem_replicate a)
 obtain⟨g',cap',rfl,q,D⟩:=VX d o_;rw[List.replicate_append_replicate,<- Nat.add_mul]at d
 refine⟨_,w',C,g',cap',rfl,q,D,d,(zd.refl _ _).grown v (fun k B=>B),?_,i,o⟩
 rcases r with e|⟨g2,e,b⟩
 ·left;rw[<-e];rfl
 ·simp[Value.ownBlock]at e;subst e;exact .inr b
theorem sC(a b c e:Int)(w:World):(Op.equalIn 10000 35 (.agg #[vI a,vI b]) (.agg #[vI c,vI e])).run prog w=.ok (a == c&&b == e) w:=by
 rw[show(10000:Nat)=9998+2 from rfl,eq35]
theorem lD(d:Nat)(a b c e:Int)(w:World):(Op.equalIn (d+2) 60 (.agg #[vI a,vI b]) (.agg #[vI c,vI e])).run prog w=.ok (a == c&&b == e) w:=by
 have j:=underlying3;have f:=underlying60;have i:=sizeOf3;have g:=isAgg3;unfold Op.equalIn;simp only[Sem.run_bind,run_underlying f,Result.andThen_ok]
 simp[go_sem,i,g,List.range',Std.Legacy.Range.forIn_eq_forIn_range',part]
 by_cases h:a=c<;>by_cases k:b=e<;>simp[h,k]
theorem iA(a b c e:Int)(w:World):(Op.equalIn 10000 60 (.agg #[vI a,vI b]) (.agg #[vI c,vI e])).run prog w=.ok (a == c&&b == e) w:=by
 rw[show(10000:Nat)=9998+2 from rfl,lD]
def au (W:World)(ao:Option Addr)(l:List (Int×Int)):Prop:=∀(i:Nat) e,l[i]?=some e->∃g,ao=some (vA g 0)/\g<W.heap.size/\W.cell? (vA g (i*2))=some (vI e.1)/\W.cell? (vA g (i*2+1))=some (vI e.2)
def aj (W:World)(ao:Option Addr)(l:List Int):Prop:=∀(i:Nat) e,l[i]?=some e->∃g,ao=some (vA g 0)/\g<W.heap.size/\W.cell? (vA g i)=some (vI e)
theorem mF{l:List (Int×Int)}(g:n=l.length)(F:n<=1000)(C:n<=cA/\cA<=maxLen)(D:n<=cB/\cB<=maxLen)(d:au w aA l)(f:au w aB l):
  Calls prog 110 #[.slice aA n cA,.slice aB n cB] w fun e w'=>e=vR (.bool true)/\Bw w w':=by
 have u:Hid (n=l.length):=g;have s:Hid (au w aA l):=d;have t:Hid (au w aB l):=f;clear g d f;have hq:=iA
 go_enter func110,ntmps110
 go_wp2
 go_loopw [5] (fun i wr=>∃k:Nat,k<=n/\i=vI k/\Bw w wr) (fun i _=>n-(intOf i).toNat)
 case atStart=>exact⟨0,Nat.zero_le _,rfl,cl⟩
 case round =>
  obtain⟨k,E,rfl,a⟩:=hrel
  by_cases v:k<n
  ·obtain⟨e,b⟩:∃e,l[k]?=some e:=⟨_,Ur (by rw[<-u.out];exact v)⟩;obtain⟨gA,rfl,h,m,o⟩:=s.out k e b;obtain⟨c,rfl,j,q,r⟩:=t.out k e b;have z:=(a.cell (p:=vA gA (k*2)) h).trans m;have x:=(a.cell (p:=vA gA (k*2+1)) h).trans o;have A:=(a.cell (p:=vA c (k*2)) j).trans q;have y:=(a.cell (p:=vA c (k*2+1)) j).trans r;clear b m o q r;have G:(k:Int)<n:=o_;have B:(0:Int)<=k:=o_
   go_wp2_with fail
   go_quiet (fail)
   go_wp2_with fail
   exact⟨⟨k+1,o_,by go_num,UT a _⟩,by simp[intOf];omega⟩
  ·go_wp2
   go_ret
   exact⟨rfl,a⟩
theorem fN{l:List Int}(s:n=l.length)(P:n<=1000)(M:n<=cA/\cA<=maxLen)(N:n<=cB/\cB<=maxLen)(q:aj w aA l)(r:aj w aB l)(p:ByteArray)(lf:Bool)(a b c d u v:Int):
  Calls prog 125 #[.agg #[vG p,.bool lf,vI a,vI b,vI c,vI d,vI u,vI v,.slice aA n cA],.agg #[vG p,.bool lf,vI a,vI b,vI c,vI d,vI u,vI v,.slice aB n cB]] w
   fun e w'=>e=vR (.bool true)/\Bw w w':=by
 have C:Hid (n=l.length):=s;have A:Hid (aj w aA l):=q;have B:Hid (aj w aB l):=r;clear s q r;have hq:=sC;have b2:zg ((w.alloc (.cells #[vG p,.bool lf,vI a,vI b,vI c,vI d,vI u,vI v,.slice aA n cA] 37)).alloc (.cells #[vG p,.bool lf,vI a,vI b,vI c,vI d,vI u,vI v,.slice aB n cB] 37)) w.heap.size 37 #[vG p,.bool lf,vI a,vI b,vI c,vI d,vI u,vI v,.slice aA n cA]:=s6;have b3:zg ((w.alloc (.cells #[vG p,.bool lf,vI a,vI b,vI c,vI d,vI u,vI v,.slice aA n cA] 37)).alloc (.cells #[vG p,.bool lf,vI a,vI b,vI c,vI d,vI u,vI v,.slice aB n cB] 37)) (w.heap.size+1) 37 #[vG p,.bool lf,vI a,vI b,vI c,vI d,vI u,vI v,.slice aB n cB]:=zg.new' s_;have g:Bw w ((w.alloc (.cells #[vG p,.bool lf,vI a,vI b,vI c,vI d,vI u,vI v,.slice aA n cA] 37)).alloc (.cells #[vG p,.bool lf,vI a,vI b,vI c,vI d,vI u,vI v,.slice aB n cB] 37)):=cl
 go_enter func125,ntmps125
 go_wp2_with fail
 generalize ((w.alloc (.cells #[vG p,.bool lf,vI a,vI b,vI c,vI d,vI u,vI v,.slice aA n cA] 37)).alloc (.cells #[vG p,.bool lf,vI a,vI b,vI c,vI d,vI u,vI v,.slice aB n cB] 37))=m at b2 b3 g ⊢
 go_loopw [5] (fun i wr=>∃k:Nat,k<=n/\i=vI k/\Bw m wr) (fun i _=>n-(intOf i).toNat)
 case atStart=>exact⟨0,Nat.zero_le _,rfl,Below.refl _ _⟩
 case round =>
  obtain⟨k,O,rfl,f⟩:=hrel;have h:=g.trans (f.mono g.size);have c2:=b2.below f b2.lt;have o:=b3.below f b3.lt;have y:=c2.cell 8;have z:=o.cell 8;have Q:=c2.lt;have R:=o.lt;simp only[s7]at y z
  by_cases F:k<n
  ·obtain⟨e,j⟩:∃e,l[k]?=some e:=⟨_,Ur (by rw[<-C.out];exact F)⟩;obtain⟨gA,D,H,t⟩:=A.out k e j;obtain⟨G,E,I,x⟩:=B.out k e j;rw[D]at y;rw[E]at z;have J:=(h.cell (p:=vA gA k) H).trans t;have K:=(h.cell (p:=vA G k) I).trans x;clear j t x;have S:(k:Int)<n:=o_;have L:(0:Int)<=k:=o_
   go_wp2_with fail
   go_quiet (fail)
   go_wp2_with fail
   exact⟨⟨k+1,o_,by go_num,UT f _⟩,by simp[intOf];omega⟩
  ·go_wp2
   go_ret
   exact⟨rfl,h⟩
def Xn (W:World)(c:Nat)(v:Value)(m:Int):Prop :=
 v=v0_\/∃b len cap,v=vS b len cap/\len<=1000/\len<=cap/\cap<=maxLen/\b<W.heap.size/\∀j,j<len*c->W.cell? (vA b j)=some (vI m)
def ints (ms:List Int):List Value:=ms.map fun m=>vI m
structure Xo (W:World) (c:Nat) (tl:TypeId) (sl j:Value) (ns:List Value) (ms:List Int):Prop where
 row:W.ownsRow 0 tl 1 sl ns.length ns
 mrow:W.ownsRow 0 3 1 j ms.length (ints ms)
 len:ns.length=ms.length
 ok:∀(i:Nat) v m,ns[i]?=some v->ms[i]?=some m->Xn W c v m
theorem YI{t:TypeId}{sl:Value}(h:W.ownsRow 0 t 1 sl n xs):∃ao cap,sl=.slice ao n cap/\n<=cap/\cap<=maxLen/\∀(i:Nat) v,xs[i]?=some v->∃g,ao=some (vA g 0)/\g<W.heap.size/\W.cell? (vA g i)=some v:=by
 rcases h.2 with ⟨rfl,rfl⟩|⟨g,cap,e,rfl,_,d,b,c,h3⟩
 ·refine⟨none,0,rfl,Nat.le_refl _,Nat.zero_le _,fun i v a=>?_⟩
  have:=h.1
  rw[List.getElem?_eq_none o_]at a;cases a
 ·refine⟨_,cap,rfl,b,c,fun i v a=>⟨g,rfl,(Vz.1 d).1,?_⟩⟩
  have:=h.cells (g:=g) rfl i v a
  rwa[Addr.add_lit,Nat.zero_add]at this
theorem bo(hb:zg W bw 84 #[F,s,y,r,l])(z:Xo W 1 25 s r ns ms)(w:Xo W 2 48 y l u L)
  (sa:ns.length<=1000000000) (qa:u.length<=1000000000) :
  Calls prog 37 #[vP bw] W fun e w'=>e=vR (.bool true)/\Bw W w':=by
 obtain⟨U,X,rfl,n1,n2,ba⟩:=YI z.row;obtain⟨T,V,rfl,la,Fa,Y⟩:=YI w.row;obtain⟨aA,cA,rfl,a1,a2,S⟩:=YI z.mrow;obtain⟨aB,cB,rfl,b1,b2,b3⟩:=YI w.mrow;have E:=z.len;have G:=w.len;have M:=z.ok;have N:=w.ok;clear z w;have c1:=hb.cell 1;have c2:=hb.cell 2;have d:=hb.cell 3;have f:=hb.cell 4;simp only[s7]at c1 c2 d f;rw[<-E]at d a1;rw[<-G]at f b1;obtain⟨n,J⟩:∃n,n=ns.length:=⟨_,rfl⟩;obtain⟨q,hq⟩:∃q,q=u.length:=⟨_,rfl⟩;rw[<-J]at c1 d sa n1 a1;rw[<-hq]at c2 f qa la b1;have H:Hid (n=ns.length/\ns.length=ms.length):=⟨J,E⟩;have I:Hid (q=u.length/\u.length=L.length):=⟨hq,G⟩;have ga:Hid (∀(i:Nat) v m,ns[i]?=some v->ms[i]?=some m->Xn W 1 v m):=M;have ea:Hid (∀(i:Nat) v m,u[i]?=some v->L[i]?=some m->Xn W 2 v m):=N;clear J hq E G M N;have B:=hb.lt;have A:Hid (∀W',Bw W W'->W'.cell? (vA bw 1)=some (.slice U n X)/\W'.cell? (vA bw 2)=some (.slice T q V)/\W'.cell? (vA bw 3)=some (.slice aA n cA)/\W'.cell? (vA bw 4)=some (.slice aB q cB)):=by
  suffices na:(∀W',Bw W W'->W'.cell? (vA bw 1)=some (.slice U n X)/\W'.cell? (vA bw 2)=some (.slice T q V)/\W'.cell? (vA bw 3)=some (.slice aA n cA)/\W'.cell? (vA bw 4)=some (.slice aB q cB)) from na
  exact fun W' D=>⟨(D.cell (p:=vA bw 1) B).trans c1,(D.cell (p:=vA bw 2) B).trans c2,(D.cell (p:=vA bw 3) B).trans d,(D.cell (p:=vA bw 4) B).trans f⟩
 clear c1 c2 d f
 go_enter func37,ntmps37
 go_wp2
 go_loopw [3] (fun i wr=>∃k:Nat,k<=n/\i=vI k/\Bw W wr) (fun i _=>n-(intOf i).toNat)
 case atStart=>exact⟨0,Nat.zero_le _,rfl,Below.refl _ _⟩
 case round =>
  obtain⟨k,oa,rfl,c⟩:=hrel;obtain⟨c1,c2,d,f⟩:=A.out _ c
  by_cases t:k<n
  ·obtain⟨v,o⟩:∃v,ns[k]?=some v:=⟨_,Ur (by rw[<-H.out.1];exact t)⟩;obtain⟨m,h⟩:∃m,ms[k]?=some m:=⟨_,Ur (by rw[<-H.out.2,<- H.out.1];exact t)⟩;obtain⟨gN,rfl,P,da⟩:=ba k v o;obtain⟨gA,rfl,ha,Aa⟩:=S k (vI m) (by simp[ints,h]);have K:=ga.out k v m o h;clear o h ba S;have R:=(c.cell (p:=vA gN k) P).trans da
   rcases K with rfl|⟨b,len,cap,rfl,ra,ta,ua,C,g⟩
   ·go_wp2
    refine wp_loop_rounds 1 ?_
    rw[rounds_succ]
    go_wp2
    exact⟨⟨k+1,o_,by go_num,c⟩,by simp[intOf];omega⟩
   ·simp only[Nat.mul_one]at g
    go_wp2
    go_loopw [4] (fun j wr=>∃x:Nat,x<=len/\j=vI x/\Bw W wr) (fun j _=>len-(intOf j).toNat)
    case atStart=>exact⟨0,Nat.zero_le _,rfl,c⟩
    case round =>
     clear c1 c2 d f R;obtain⟨x,pa,rfl,a⟩:=hrel;obtain⟨c1,c2,d,f⟩:=A.out _ a;have R:=(a.cell (p:=vA gN k) P).trans da;have Ea:=(a.cell (p:=vA gA k) ha).trans Aa
     by_cases aa:x<len
     ·have ja:=(a.cell (p:=vA b x) C).trans (g x aa);clear g
      go_wp2
      go_quiet (fail)
      go_wp2
      exact⟨⟨x+1,o_,by go_num,UT a _⟩,by simp[intOf];omega⟩
     ·go_wp2
      exact⟨⟨k+1,o_,by go_num,a⟩,by simp[intOf];omega⟩
  ·go_wp2
   go_loopw [5] (fun i wr=>∃k:Nat,k<=q/\i=vI k/\Bw W wr) (fun i _=>q-(intOf i).toNat)
   case atStart=>exact⟨0,Nat.zero_le _,rfl,c⟩
   case round =>
    clear c1 c2 d f;obtain⟨k,oa,rfl,c⟩:=hrel;obtain⟨c1,c2,d,f⟩:=A.out _ c
    by_cases t:k<q
    ·obtain⟨v,o⟩:∃v,u[k]?=some v:=⟨_,Ur (by rw[<-I.out.1];exact t)⟩;obtain⟨m,h⟩:∃m,L[k]?=some m:=⟨_,Ur (by rw[<-I.out.2,<- I.out.1];exact t)⟩;obtain⟨Z,rfl,O,ca⟩:=Y k v o;obtain⟨ma,rfl,ia,Ba⟩:=b3 k (vI m) (by simp[ints,h]);have K:=ea.out k v m o h;clear o h Y b3;have Q:=(c.cell (p:=vA Z k) O).trans ca;have ka:=(c.cell (p:=vA ma k) ia).trans Ba
     rcases K with rfl|⟨b,len,cap,rfl,ra,ta,ua,C,g⟩
     ·go_wp2
      refine wp_loop_rounds 1 ?_
      rw[rounds_succ]
      go_wp2
      exact⟨⟨k+1,o_,by go_num,c⟩,by simp[intOf];omega⟩
     ·go_wp2
      go_loopw [7] (fun j wr=>∃x:Nat,x<=len/\j=vI x/\Bw W wr) (fun j _=>len-(intOf j).toNat)
      case atStart=>exact⟨0,Nat.zero_le _,rfl,c⟩
      case round =>
       clear c1 c2 d f Q ka;obtain⟨x,pa,rfl,a⟩:=hrel;obtain⟨c1,c2,d,f⟩:=A.out _ a;have Q:=(a.cell (p:=vA Z k) O).trans ca
       by_cases aa:x<len
       ·have ja:=(a.cell (p:=vA b (x*2)) C).trans (g (x*2) o_);have Ca:=(a.cell (p:=vA b (x*2+1)) C).trans (g (x*2+1) o_);clear g;have Da:=iA
        go_wp2
        exact⟨⟨x+1,o_,by go_num,a⟩,by simp[intOf];omega⟩
       ·go_wp2
        exact⟨⟨k+1,o_,by go_num,a⟩,by simp[intOf];omega⟩
    ·go_wp2
     go_ret
     exact⟨rfl,c⟩
structure OwnP (W:World) (bw k t:Nat) (E lt:TypeId) (sz:Nat) (vs:Array Value) (s r:Value) (ns:List Value) (ms:List Int) (l:Value) (a:Nat) (m:Int) (n:Nat)
  (O I G A x J S U V R K:World) (g1 B g2 C g3 D gN z gA M:Nat) (w':World):Prop where
 kp0:zd (fun b=>l.ownBlock=some b) W O
 r0:O.ownsRow 0 E sz l a (List.replicate (a*sz) (vI m))
 u1:Bw O S
 a1:AppS S l E sz a (a+1) m g1 B I
 u2:Bw I U
 a2:AppS U l E sz a (a+2) m g2 C G
 u3:Bw G V
 a3:AppS V l E sz a (a+3) m g3 D A
 u4:Bw A R
 aN:xq R s.ownBlock lt 1 (n+4) (ns++[l,vS g1 (a+1) B,vS g2 (a+2) C,vS g3 (a+3) D]) gN z x
 u5:Below x.heap.size (x.setCell (vA bw k) (vS gN (n+4) z)) K
 aA:xq K r.ownBlock 3 1 (n+4) (ints ms++[vI m,vI m,vI m,vI m]) gA M J
 end_:w'=J.setCell (vA bw t) (vS gA (n+4) M)
theorem dQ{k:Nat}{M:Value}(b:xs.length=n)(a:k<n):(List.replicate k M++xs.drop k).set k M=List.replicate (k+1) M++xs.drop (k+1):=by
 rw[List.set_append_right _ _ s_];simp only[List.length_replicate,Nat.sub_self];rw[List.drop_eq_getElem_cons o_,UE,List.replicate_succ',List.append_assoc]
 rfl
theorem mw(hb:zg W bw 84 #[F,s,y,r,l])(P:W.ownsRow 0 25 1 s ns.length ns)(N:W.ownsRow 0 3 1 r ns.length (ints ms))
  (Ya:ns.length<=1000000000) (Fa:s.ownBlock≠some bw) (ha:r.ownBlock≠some bw) (Ha:∀g,s.ownBlock=some g->r.ownBlock≠some g)
  (E:W.ownsRow 0 3 1 (.slice f a d) a xs) (qb:a<=990) (Ia:(Value.slice f a d).ownBlock≠some bw) (ja:∀g,(Value.slice f a d).ownBlock=some g->s.ownBlock≠some g) (ia:∀g,(Value.slice f a d).ownBlock=some g->r.ownBlock≠some g) :
  Calls prog 126 #[vP bw,.slice f a d] W fun e w'=>e=vT #[]/\∃O I G A x J S U V R K g1 B g2 C g3 D gN z gA M,
   OwnP W bw 1 3 3 25 1 #[F,s,y,r,l] s r ns ms (.slice f a d) a (-1-(ns.length:Int)) ns.length O I G A x J S U V R K g1 B g2 C g3 D gN z gA M w':=by
 obtain⟨aA,cA,rfl,a1,a2,_⟩:=YI N;obtain⟨ea,ga,rfl,n1,n2,_⟩:=YI P;obtain⟨n,Ga⟩:∃n,n=ns.length:=⟨_,rfl⟩;rw[<-Ga]at hb P N Ya a1 n1 Fa ha Ha ja ia ⊢;have c1:=hb.cell 1;have Da:=hb.cell 3;simp only[s7]at c1 Da;have Ua:=hb.lt;have sa:a<=d/\d<=maxLen:=by
  rcases E.2 with ⟨h,vb⟩|⟨g,cap,ob,h,_,_,Xa,h3,_⟩
  ·cases h;exact⟨Nat.le_refl _,Nat.zero_le _⟩
  ·cases h;exact⟨Xa,h3⟩
 obtain⟨sa,eb⟩:=sa;have ta:=fun W' (h:W'.ownsRow 0 3 1 (.slice aA n cA) n (ints ms)) c (m:zg W' c 3 #[vI (-1-(n:Int)),vI (-1-(n:Int)),vI (-1-(n:Int)),vI (-1-(n:Int))]) =>
  Wv un29 inf3 o_ W' _ n (ints ms) h c 4 4 o_ [vI (-1-(n:Int)),vI (-1-(n:Int)),vI (-1-(n:Int)),vI (-1-(n:Int))] rfl m (by intro u t;simp at t;subst t;rfl) (by unfold maxLen;omega) o_
 have H1:=fun W' (h:W'.ownsRow 0 3 1 (.slice f a d) a (List.replicate (a*1) (vI (-1-(n:Int))))) c (m:zg W' c 3 #[vI (-1-(n:Int))]) =>
  Zx un29 inf3 o_ W' (.slice f a d) a (-1-(n:Int)) h c 1 1 o_ (j_ m) (by unfold maxLen;omega) o_
 have Y:=fun W' (h:W'.ownsRow 0 3 1 (.slice f a d) a (List.replicate (a*1) (vI (-1-(n:Int))))) c (m:zg W' c 3 #[vI (-1-(n:Int)),vI (-1-(n:Int))]) =>
  Zx un29 inf3 o_ W' (.slice f a d) a (-1-(n:Int)) h c 2 2 o_ (j_ m) (by unfold maxLen;omega) o_
 have Z:=fun W' (h:W'.ownsRow 0 3 1 (.slice f a d) a (List.replicate (a*1) (vI (-1-(n:Int))))) c (m:zg W' c 3 #[vI (-1-(n:Int)),vI (-1-(n:Int)),vI (-1-(n:Int))]) =>
  Zx un29 inf3 o_ W' (.slice f a d) a (-1-(n:Int)) h c 3 3 o_ (j_ m) (by unfold maxLen;omega) o_
 have ka:=fun W' (h:W'.ownsRow 0 25 1 (.slice ea n ga) n ns) c (g1 B g2 C g3 D:Nat) (m:zg W' c 25 #[.slice f a d,vS g1 (a+1) B,vS g2 (a+2) C,vS g3 (a+3) D]) =>
  Wv un27 l7 o_ W' _ n ns h c 4 4 o_ [.slice f a d,vS g1 (a+1) B,vS g2 (a+2) C,vS g3 (a+3) D] rfl m (by intro u t;simp at t;rcases t with rfl|rfl|rfl|rfl<;>rfl) (by unfold maxLen;omega) o_
 clear Ga;have Q:Hid (xs.length=a*1):=E.1
 go_enter func126,ntmps126
 go_wp2
 go_loopw [5] (fun i wr=>∃k:Nat,k<=a/\i=vI k/\wr.ownsRow 0 3 1 (.slice f a d) a (List.replicate k (vI (-1-(n:Int)))++xs.drop k)/\zd (fun b=>(Value.slice f a d).ownBlock=some b) W wr) (fun i _=>a-(intOf i).toNat)
 case atStart=>exact⟨0,Nat.zero_le _,rfl,by simpa using E,zd.refl _ _⟩
 case round =>
  obtain⟨k,yb,rfl,q,o⟩:=hrel
  by_cases pb:k<a
  ·obtain⟨rb,mb,Wa,_⟩:=VX E o_
   cases Wa
   have kb:=q.frozenAt k;have Sa:=q.cellAt k o_;have Ca:=q.stored k (vI (-1-(n:Int)));rw[dQ Q.out o_]at Ca;obtain⟨ab,ra⟩:=Ca;have bb:=o.grown ra (fun b hb=>by simp[Value.ownBlock]at hb ⊢;exact hb);obtain⟨u,t⟩:∃u,(List.replicate k (vI (-1-(n:Int)))++xs.drop k)[k]?=some u:=⟨_,Ur (l_ Q.out)⟩;rw[t]at Sa;clear q ra o H1 Y Z ta ka
   go_wp2
   exact⟨⟨k+1,o_,by go_num,ab,bb⟩,by simp[intOf];omega⟩
  ·obtain rfl:k=a:=o_;rw[List.drop_of_length_le (h_ Q.out),List.append_nil,show List.replicate k (vI (-1-(n:Int)))=List.replicate (k*1) (vI (-1-(n:Int))) by simp]at q;have L:=hb.zf o Ia;have Oa:=s8 P o (fun g j e=>ja g e j);have db:=s8 N o (fun g j e=>ia g e j);have la:=L.cell 1;have ma:=L.cell 3;have Ab:=L.lt;simp only[s7]at la ma;clear c1 Da Ua;have La:Hid (zd (fun b=>(Value.slice f k d).ownBlock=some b) W wr):=o;have Za:Hid (wr.ownsRow 0 3 1 (.slice f k d) k (List.replicate (k*1) (vI (-1-(n:Int))))):=q;have nb:=o.size;clear o P N E hb Q
   go_wp2_with (first
    |(at_builtin;refine Vk r_ _ _ 25 25 r_ _ _ r_ r_ (H1 _ ?_ _ ?_) ?_;(focus (exact s8 (T:=fun _=>False) q (zd.new cl) (fun _ _ h=>h)));(focus exact s6);rintro Cb I ⟨g1,B,rfl,aa⟩;have Ta:zd (fun b=>(Value.slice f k d).ownBlock=some b) wr I:=(zd.new cl).trans aa.zf)
    |(at_builtin;refine Vk r_ _ _ 25 25 r_ _ _ r_ r_ (Y _ ?_ _ ?_) ?_;(focus (exact s8 (T:=fun _=>False) aa.row (zd.new cl) (fun _ _ h=>h)));(focus exact s6);rintro Db G ⟨g2,C,rfl,ba⟩;have Va:zd (fun b=>(Value.slice f k d).ownBlock=some b) wr G:=(Ta.alloc _).trans ba.zf)
    |(at_builtin;refine Vk r_ _ _ 25 25 r_ _ _ r_ r_ (Z _ ?_ _ ?_) ?_;(focus (exact s8 (T:=fun _=>False) ba.row (zd.new cl) (fun _ _ h=>h)));(focus exact s6);rintro v3 A ⟨g3,D,rfl,ua⟩;have da:zd (fun b=>(Value.slice f k d).ownBlock=some b) wr A:=(Va.alloc _).trans ua.zf;have b3:=L.zf da Ia;have na:=b3.cell 1;have Bb:=b3.lt;simp only[s7]at na;have Ka:=s8 Oa da (fun g j e=>ja g e j);have cb:=s8 db da (fun g j e=>ia g e j))
    |(at_builtin;refine Vk r_ _ _ 80 80 r_ _ _ r_ r_ (ka _ ?_ _ g1 B g2 C g3 D ?_) ?_;(focus (exact s8 (T:=fun _=>False) Ka (zd.new cl) (fun _ _ h=>h)));(focus exact s6);rintro Eb x ⟨gN,z,rfl,ca⟩;have v:=(b3.alloc _).zf ca.zf Fa;have oa:=v.cell 1;have Ma:=v.frozen 1;have pa:=v.cell 3;have Na:=v.frozen 3;have gb:=v.lt;simp only[s7]at oa pa))
   have H:=v.set 1 (vS gN (n+4) z);simp only[UF,UE,UD]at H;have qa:(x.setCell (vA bw 1) (vS gN (n+4) z)).ownsRow 0 3 1 (.slice aA n cA) n (ints ms):=by
    refine s8 (T:=fun b=>b=bw\/(Value.slice ea n ga).ownBlock=some b) cb ?_ ?_
    ·exact((zd.trans (T:=fun b=>b=bw\/(Value.slice ea n ga).ownBlock=some b) (zd.alloc (zd.refl _ _) _) (ca.zf.mono (fun b hb=>Or.inr hb))).setCell (p:=vA bw 1) (Or.inl rfl) _)
    ·rintro g j (rfl|h)
     ·exact ha j
     ·exact Ha g h j
   obtain⟨w,X⟩:∃w,w=x.setCell (vA bw 1) (vS gN (n+4) z):=⟨_,rfl⟩;have Ea:w.heap.size=x.heap.size:=by rw[X];simp
   rw[<-X]at H qa ⊢;have Ra:Hid (w=x.setCell (vA bw 1) (vS gN (n+4) z)):=X;have Pa:Hid (w.heap.size=x.heap.size):=Ea;clear X Ea oa pa Ma Na H1 Y Z ka la ma na;have Qa:=H.cell 3;have ib:=H.lt;simp only[s7]at Qa
   go_region_law (refine WL rfl (.tmp 59) (.tmp 64) 25 25 rfl _ _ ?_ ?_ (ta _ ?_ ?_ ?_) ?_;(focus (simp[Act.eval,Act.put]));(focus ((try simp[Act.eval,Act.put]);(try rfl)));(focus (exact s8 (T:=fun _=>False) qa (zd.new cl) (fun _ _ h=>h)));(focus exact s6);rintro vA J ⟨gA,M,rfl,Aa⟩;have Ba:=zg.zf (show zg _ bw 84 #[F,vS gN (n+4) z,y,.slice aA n cA,l] by exact s6) Aa.zf ha;have Ja:=Ba.cell 3;have jb:=Ba.frozen 3;simp only[s7]at Ja)
   all_goals go_wp2
   all_goals go_end0
   all_goals refine⟨rfl,wr,I,G,A,x,J,_,_,_,_,_,g1,B,g2,C,g3,D,gN,z,gA,M,⟨La.out,Za.out,?_,aa,?_,ba,?_,ua,?_,ca,?_,Aa,rfl⟩⟩
   all_goals first|(rw[<-Ra.out,<- Pa.out];exact cl;done)|(exact cl;done)
theorem Xn.zf(h:Xn W c v m)(d:zd T W W')(k:∀g,v.ownBlock=some g->¬T g):Xn W' c v m:=by
 rcases h with rfl|⟨b,len,cap,rfl,e,f,h3,a,i⟩
 ·exact .inl rfl
 ·exact .inr ⟨b,len,cap,rfl,e,f,h3,VJ a d.size,fun j l=>(d.cell (p:=vA b j) a (k b rfl)).trans (i j l)⟩
theorem Xn.stay(h:Xn W c v m)(k:W.heap.size<=W'.heap.size)(i:∀b j,b<W.heap.size->W.cell? (vA b j)=some (vI m)->W'.cell? (vA b j)=some (vI m)):Xn W' c v m:=by
 rcases h with rfl|⟨b,len,cap,rfl,d,e,h3,a,f⟩
 ·exact .inl rfl
 ·exact .inr ⟨b,len,cap,rfl,d,e,h3,VJ a k,fun j g=>i b j a (f j g)⟩
theorem Xo.zf{sl:Value}(h:Xo W c tl sl j ns ms)(a:zd T W W')
  (d:∀g,sl.ownBlock=some g->¬T g) (e:∀g,j.ownBlock=some g->¬T g) (h3:∀v∈ns,∀g,v.ownBlock=some g->¬T g):Xo W' c tl sl j ns ms :=
 ⟨s8 h.row a d,s8 h.mrow a e,h.len,fun i v m b f=>(h.ok i v m b f).zf a (h3 v (Uq b))⟩
theorem bM{k:Nat}{l:Value}(h:w'.ownsRow 0 e c l k (List.replicate (k*c) (vI m)))(i:k<=1000):Xn w' c l m:=by
 rcases h.2 with ⟨rfl,_⟩|⟨g,cap,n,rfl,_,d,a,b,_⟩
 ·exact .inl rfl
 ·refine .inr ⟨g,k,cap,rfl,i,a,b,(Vz.1 d).1,fun j f=>?_⟩
  have:=h.cells (g:=g) rfl j (vI m) (by rw[List.getElem?_replicate,if_pos f])
  rwa[Addr.add_lit,Nat.zero_add]at this
structure OwnQ (W:World) (bw k t:Nat) (lt:TypeId) (c:Nat) (vs:Array Value) (s r:Value) (ns:List Value) (ms:List Int) (l:Value) (m:Int) (H3 g1 g2 g3 gN gA:Nat) (sN sA s1 s2 s3:Value) (w':World):Prop where
 zf:zd (fun b=>b=bw\/s.ownBlock=some b\/r.ownBlock=some b\/l.ownBlock=some b) W w'
 marked:Xo w' c lt sN sA (ns++[l,s1,s2,s3]) (ms++[m,m,m,m])
 ze:zg w' bw 84 ((vs.setIfInBounds k sN).setIfInBounds t sA)
 h3:W.heap.size<=H3
 o1:s1.ownBlock=some g1/\g1<H3/\(l.ownBlock=some g1\/W.heap.size<=g1)
 o2:s2.ownBlock=some g2/\g2<H3/\(l.ownBlock=some g2\/W.heap.size<=g2)
 o3:s3.ownBlock=some g3/\g3<H3/\(l.ownBlock=some g3\/W.heap.size<=g3)
 oN:sN.ownBlock=some gN/\(s.ownBlock=some gN\/H3<=gN)
 oA:sA.ownBlock=some gA/\(r.ownBlock=some gA\/(H3<=gA/\gN<gA))
theorem ho{lt:TypeId}{l:Value} 
  
  (hb:zg W bw 84 vs) (H:Xo W c lt s r ns ms) (Ma:a<=990) (La:W.ownsRow 0 E c l a xs)
  (ia:s.ownBlock≠some bw) (ha:r.ownBlock≠some bw) (Ba:∀g,s.ownBlock=some g->r.ownBlock≠some g)
  (la:l.ownBlock≠some bw) (Ia:∀g,l.ownBlock=some g->s.ownBlock≠some g) (Ga:∀g,l.ownBlock=some g->r.ownBlock≠some g)
  (Aa:∀v∈ns,∀g,v.ownBlock=some g->g≠bw/\s.ownBlock≠some g/\r.ownBlock≠some g/\l.ownBlock≠some g)
  (h:OwnP W bw k t E lt c vs s r ns ms l a m ns.length O I G A x J S U V R K g1 B g2 C g3 D gN z gA M w') :
  OwnQ W bw k t lt c vs s r ns ms l m A.heap.size g1 g2 g3 gN gA (vS gN (ns.length+4) z) (vS gA (ns.length+4) M) (vS g1 (a+1) B) (vS g2 (a+2) C) (vS g3 (a+3) D) w':=by
 obtain⟨T,N⟩:∃T:Nat->Prop,T=fun b=>b=bw\/s.ownBlock=some b\/r.ownBlock=some b\/l.ownBlock=some b:=⟨_,rfl⟩
 obtain⟨o,y⟩:∃o:Nat->Prop,o=fun b=>b=bw\/s.ownBlock=some b\/r.ownBlock=some b:=⟨_,rfl⟩
 have Ja:∀b,o b->b<W.heap.size:=fun b w=>by
  rw[y]at w
  rcases w with rfl|Z|Z
  ·exact hb.lt
  ·exact UI H.row Z
  ·exact UI H.mrow Z
 have Ua:=h.kp0.size;have Va:=h.u1.size;have Wa:=h.u2.size;have Xa:=h.u3.size;have Ya:=h.u4.size;have Qa:=h.a1.zf.size;have Ra:=h.a2.zf.size;have Sa:=h.a3.zf.size;have Ta:=h.aN.zf.size;have Za:x.heap.size<=K.heap.size:=by have:=h.u5.size;simpa using this
 have Ka:gN<x.heap.size:=UI h.aN.own rfl;have Na:g1<I.heap.size:=UI h.a1.own rfl;have q2:g2<G.heap.size:=UI h.a2.own rfl;have Oa:g3<A.heap.size:=UI h.a3.own rfl;have pa:∀g,l.ownBlock=some g->¬o g:=fun g d e=>by
  rw[y]at e
  rcases e with e|e|e
  ·exact la (by rw[d,e])
  ·exact Ia g d e
  ·exact Ga g d e
 have ja:∀ {T':Nat->Prop},(∀b,l.ownBlock=some b->T' b)->zd T' W A:=fun {T'} ht =>
  ((((((h.kp0.mono ht).trans (zd.new h.u1)).trans (h.a1.zf.mono ht)).trans (zd.new h.u2)).trans (h.a2.zf.mono ht)).trans (zd.new h.u3)).trans (h.a3.zf.mono ht)
 have ra:zd o J w':=by rw[h.end_];exact(zd.refl _ _).setCell (p:=vA bw t) (by rw[y];exact Or.inl rfl) _
 have Da:zd o K J:=h.aA.zf.mono (fun b w=>by rw[y];exact Or.inr (Or.inr w));have qa:zd o x K:=by
  have F:zd o x (x.setCell (vA bw k) (vS gN (ns.length+4) z)):=(zd.refl _ _).setCell (p:=vA bw k) (by rw[y];exact Or.inl rfl) _;have u:zd o (x.setCell (vA bw k) (vS gN (ns.length+4) z)) K:=zd.new (by have:=h.u5;simpa using this)
  exact F.trans u
 have Ca:zd o R x:=h.aN.zf.mono (fun b w=>by rw[y];exact Or.inr (Or.inl w));have L:zd o A w':=((((zd.new h.u4:zd o A R).trans Ca).trans qa).trans Da).trans ra;have ma:∀b,o b->T b:=fun b e=>by rw[y]at e;rw[N];rcases e with e|e|e;exact .inl e;exact .inr (.inl e);exact .inr (.inr (.inl e))
 have da:zd T W w':=(ja (T':=T) (fun b e=>by rw[N];exact .inr (.inr (.inr e)))).trans (L.mono ma);have P:∀g,(l.ownBlock=some g\/W.heap.size<=g)->¬o g:=fun g d ht=>by
  rcases d with d|d
  ·exact pa g d ht
  ·have:=Ja g ht;omega
 have n1:l.ownBlock=some g1\/W.heap.size<=g1:=h.a1.new.imp id (fun e=>by omega);have n2:l.ownBlock=some g2\/W.heap.size<=g2:=h.a2.new.imp id (fun e=>by omega);have ka:l.ownBlock=some g3\/W.heap.size<=g3:=h.a3.new.imp id (fun e=>by omega);have Pa:∀g,l.ownBlock=some g->g<A.heap.size:=fun g d=>UI h.a3.row d
 have Ea:Xn A c l m:=bM h.a3.row o_;have na:∀b j,b<I.heap.size->I.cell? (vA b j)=some (vI m)->G.cell? (vA b j)=some (vI m):=fun b j hb aa=>h.a2.stay b j ((h.u2.cell (p:=vA b j) hb).trans aa)
 have ga:∀b j,b<G.heap.size->G.cell? (vA b j)=some (vI m)->A.cell? (vA b j)=some (vI m):=fun b j hb aa=>h.a3.stay b j ((h.u3.cell (p:=vA b j) hb).trans aa)
 have l1:Xn A c (vS g1 (a+1) B) m:=((bM h.a1.own o_).stay o_ na).stay o_ ga;have l2:Xn A c (vS g2 (a+2) C) m:=(bM h.a2.own o_).stay o_ ga;have Fa:Xn A c (vS g3 (a+3) D) m:=bM h.a3.own o_;have ea:gN≠bw/\r.ownBlock≠some gN:=by
  rcases h.aN.new with e|e
  ·exact⟨fun u=>ia (by rw[e,u]),Ba gN e⟩
  ·refine⟨fun u=>?_,fun u=>?_⟩
   ·have:=hb.lt;omega
   ·have:=UI H.mrow u;omega
 have oa:gA≠bw:=by
  rcases h.aA.new with e|e
  ·exact fun u=>ha (by rw[e,u])
  ·intro u;have:=hb.lt;omega
 have Q:=H.len
 refine⟨by rw[<-N];exact da,⟨?_,?_,?_,?_⟩,?_,o_,⟨rfl,o_,n1⟩,⟨rfl,o_,n2⟩,⟨rfl,o_,ka⟩,⟨rfl,?_⟩,⟨rfl,?_⟩⟩
 ·-- the row of lists
  rw[show(ns++[l,(vS g1 (a+1) B:Value),vS g2 (a+2) C,vS g3 (a+3) D]).length=ns.length+4 by simp];have ca:zd (fun b=>b=bw\/r.ownBlock=some b) x w':=by
   have F:zd (fun b=>b=bw\/r.ownBlock=some b) x (x.setCell (vA bw k) (vS gN (ns.length+4) z)):=(zd.refl _ _).setCell (p:=vA bw k) (Or.inl rfl) _;have u:zd (fun b=>b=bw\/r.ownBlock=some b) (x.setCell (vA bw k) (vS gN (ns.length+4) z)) K:=zd.new (by have:=h.u5;simpa using this);have X:zd (fun b=>b=bw\/r.ownBlock=some b) K J:=h.aA.zf.mono (fun b w=>Or.inr w);have Y:zd (fun b=>b=bw\/r.ownBlock=some b) J w':=by rw[h.end_];exact(zd.refl _ _).setCell (p:=vA bw t) (Or.inl rfl) _
   exact((F.trans u).trans X).trans Y
  exact s8 h.aN.own ca (fun g d=>by simp[Value.ownBlock]at d;subst d;rintro(e|e);exact ea.1 e;exact ea.2 e)
 ·rw[show(ms++[m,m,m,m]).length=ns.length+4 by simp[Q]];rw[show ints (ms++[m,m,m,m])=ints ms++[vI m,vI m,vI m,vI m] by simp[ints]];have Y:zd (fun b=>b=bw) J w':=by rw[h.end_];exact(zd.refl (fun b=>b=bw) _).setCell (p:=vA bw t) rfl _
  exact s8 h.aA.own Y (fun g d=>by simp[Value.ownBlock]at d;subst d;exact oa)
 ·simp[Q]
 ·intro i v Ha f n
  rcases Nat.lt_or_ge i ns.length with ba|ba
  ·rw[Wu ba]at f;rw[Wu o_]at n
   exact(H.ok i v Ha f n).zf da (fun g d=>by
    obtain⟨a1,a2,sa,ta⟩:=Aa v (Uq f) g d;rw[N];rintro(e|e|e|e)
    ·exact a1 e
    ·exact a2 e
    ·exact sa e
    ·exact ta e)
  ·rw[Wp ba]at f;rw[Wp o_]at n;rw[<-Q]at n;generalize i-ns.length=q at f n
   match q,f,n with
   |0,f,n=>simp at f n;subst f n;exact Ea.zf L (fun g d=>P g (.inl d))
   |1,f,n=>simp at f n;subst f n;exact l1.zf L (fun g d=>by simp[Value.ownBlock]at d;subst d;exact P _ n1)
   |2,f,n=>simp at f n;subst f n;exact l2.zf L (fun g d=>by simp[Value.ownBlock]at d;subst d;exact P _ n2)
   |3,f,n=>simp at f n;subst f n;exact Fa.zf L (fun g d=>by simp[Value.ownBlock]at d;subst d;exact P _ ka)
   |q+4,f,n=>simp at f
 ·-- the block
  have ua:zg x bw 84 vs:=by
   have ca:zd (fun b=>l.ownBlock=some b\/s.ownBlock=some b) W x:=((ja (fun b e=>.inl e)).trans (zd.new h.u4)).trans (h.aN.zf.mono (fun b e=>.inr e))
   exact hb.zf ca (fun e=>by rcases e with e|e;exact la e;exact ia e)
  have F:=ua.set k (vS gN (ns.length+4) z);have u:zg K bw 84 _:=F.zf (T:=fun _=>False) (zd.new (by have:=h.u5;simpa using this)) (fun h=>h);have X:=u.zf h.aA.zf ha;rw[h.end_]
  exact X.set t _
 ·rcases h.aN.new with e|e
  ·exact .inl e
  ·exact .inr o_
 ·rcases h.aA.new with e|e
  ·exact .inl e
  ·exact .inr ⟨o_,o_⟩
theorem mD(hb:zg W bw 84 #[F,s,y,r,l])(Y:W.ownsRow 0 48 1 y ns.length ns)(X:W.ownsRow 0 3 1 l ns.length (ints ms))
  (pb:ns.length<=1000000000) (Ka:y.ownBlock≠some bw) (ka:l.ownBlock≠some bw) (Ma:∀g,y.ownBlock=some g->l.ownBlock≠some g)
  (w:W.ownsRow 0 60 2 (.slice f a d) a xs) (Pb:a<=990) (Na:(Value.slice f a d).ownBlock≠some bw) (ma:∀g,(Value.slice f a d).ownBlock=some g->y.ownBlock≠some g) (la:∀g,(Value.slice f a d).ownBlock=some g->l.ownBlock≠some g) :
  Calls prog 111 #[vP bw,.slice f a d] W fun e w'=>e=vT #[]/\∃O I G A x J S U V R K g1 B g2 C g3 D gN z gA M,
   OwnP W bw 2 4 60 48 2 #[F,s,y,r,l] y l ns ms (.slice f a d) a (-1-(ns.length:Int)) ns.length O I G A x J S U V R K g1 B g2 C g3 D gN z gA M w':=by
 obtain⟨aA,cA,rfl,a1,a2,_⟩:=YI X;obtain⟨ha,ia,rfl,n1,n2,_⟩:=YI Y;obtain⟨n,La⟩:∃n,n=ns.length:=⟨_,rfl⟩;rw[<-La]at hb Y X pb a1 n1 Ka ka Ma ma la ⊢;have c1:=hb.cell 2;have Ha:=hb.cell 4;simp only[s7]at c1 Ha;have mb:=hb.lt;have ua:a<=d/\d<=maxLen:=by
  rcases w.2 with ⟨h,Qb⟩|⟨g,cap,Nb,h,_,_,ob,h3,_⟩
  ·cases h;exact⟨Nat.le_refl _,Nat.zero_le _⟩
  ·cases h;exact⟨ob,h3⟩
 obtain⟨ua,Bb⟩:=ua;have Aa:=fun W' (h:W'.ownsRow 0 3 1 (.slice aA n cA) n (ints ms)) c (q:zg W' c 3 #[vI (-1-(n:Int)),vI (-1-(n:Int)),vI (-1-(n:Int)),vI (-1-(n:Int))]) =>
  Wv un29 inf3 o_ W' _ n (ints ms) h c 4 4 o_ [vI (-1-(n:Int)),vI (-1-(n:Int)),vI (-1-(n:Int)),vI (-1-(n:Int))] rfl q (by intro u E;simp at E;subst E;rfl) (by unfold maxLen;omega) o_
 have H1:=fun W' (h:W'.ownsRow 0 60 2 (.slice f a d) a (List.replicate (a*2) (vI (-1-(n:Int))))) c (q:zg W' c 60 #[vI (-1-(n:Int)),vI (-1-(n:Int))]) =>
  Zx un46 Zi o_ W' (.slice f a d) a (-1-(n:Int)) h c 1 1 o_ (j_ q) (by unfold maxLen;omega) o_
 have aa:=fun W' (h:W'.ownsRow 0 60 2 (.slice f a d) a (List.replicate (a*2) (vI (-1-(n:Int))))) c (q:zg W' c 60 #[vI (-1-(n:Int)),vI (-1-(n:Int)),vI (-1-(n:Int)),vI (-1-(n:Int))]) =>
  Zx un46 Zi o_ W' (.slice f a d) a (-1-(n:Int)) h c 2 2 o_ (j_ q) (by unfold maxLen;omega) o_
 have ba:=fun W' (h:W'.ownsRow 0 60 2 (.slice f a d) a (List.replicate (a*2) (vI (-1-(n:Int))))) c (q:zg W' c 60 #[vI (-1-(n:Int)),vI (-1-(n:Int)),vI (-1-(n:Int)),vI (-1-(n:Int)),vI (-1-(n:Int)),vI (-1-(n:Int))]) =>
  Zx un46 Zi o_ W' (.slice f a d) a (-1-(n:Int)) h c 3 3 o_ (j_ q) (by unfold maxLen;omega) o_
 have na:=fun W' (h:W'.ownsRow 0 48 1 (.slice ha n ia) n ns) c (g1 B g2 C g3 D:Nat) (q:zg W' c 48 #[.slice f a d,vS g1 (a+1) B,vS g2 (a+2) C,vS g3 (a+3) D]) =>
  Wv un28 l9 o_ W' _ n ns h c 4 4 o_ [.slice f a d,vS g1 (a+1) B,vS g2 (a+2) C,vS g3 (a+3) D] rfl q (by intro u E;simp at E;rcases E with rfl|rfl|rfl|rfl<;>rfl) (by unfold maxLen;omega) o_
 clear La;have L:Hid (xs.length=a*2):=w.1;have b0:zg (W.alloc (.cells #[vI (-1-(n:Int)),vI (-1-(n:Int))] 60)) W.heap.size 60 #[vI (-1-(n:Int)),vI (-1-(n:Int))]:=zg.new W 60 _
 go_enter func111,ntmps111
 go_wp2
 go_loopw [6] (fun i wr=>∃k:Nat,k<=a/\i=vI k/\wr.ownsRow 0 60 2 (.slice f a d) a (List.replicate (k*2) (vI (-1-(n:Int)))++xs.drop (k*2))/\zd (fun b=>(Value.slice f a d).ownBlock=some b) W wr/\zg wr W.heap.size 60 #[vI (-1-(n:Int)),vI (-1-(n:Int))]) (fun i _=>a-(intOf i).toNat)
 case atStart=>exact⟨0,Nat.zero_le _,rfl,by simpa using w.alloc _,(zd.refl _ _).alloc _,b0⟩
 case round =>
  obtain⟨k,Rb,rfl,m,t,v⟩:=hrel;have vb:=v.cell 0;have yb:=v.cell 1;have Yb:=v.lt;simp only[s7]at vb yb
  by_cases Ob:k<a
  ·obtain⟨j,Gb,nb,_⟩:=VX w o_
   cases nb
   have Mb:j<W.heap.size:=UI w rfl;have Fb:=m.frozenAt (k*2);have Ib:=m.frozenAt (k*2+1);have kb:=m.cellAt (k*2) o_;have db:=m.cellAt (k*2+1) o_;have Hb:j<wr.heap.size:=UI m rfl;obtain⟨Oa,Pa⟩:=m.stored (k*2) (vI (-1-(n:Int)));obtain⟨s2,Qa⟩:=Oa.stored (k*2+1) (vI (-1-(n:Int)));rw[dQ L.out o_]at s2;rw[dQ L.out o_]at s2;have Ra:=(t.grown Pa (fun b hb=>by simp[Value.ownBlock]at hb ⊢;exact hb)).grown Qa (fun b hb=>by simp[Value.ownBlock]at hb ⊢;exact hb);have Ja:=(v.other (vA j (k*2)) (vI (-1-(n:Int))) t_).other (vA j (k*2+1)) (vI (-1-(n:Int))) t_;obtain⟨u,E⟩:∃u,(List.replicate (k*2) (vI (-1-(n:Int)))++xs.drop (k*2))[k*2]?=some u:=⟨_,Ur (l_ L.out)⟩;obtain⟨Ub,Wa⟩:∃u,(List.replicate (k*2) (vI (-1-(n:Int)))++xs.drop (k*2))[k*2+1]?=some u:=⟨_,Ur (l_ L.out)⟩;rw[E]at kb;rw[Wa]at db;have eb:Hid (∃k':Nat,k'<=a/\(vI ((k:Int)+1))=vI k'/\World.ownsRow ((wr.setCell (vA j (k*2)) (vI (-1-(n:Int)))).setCell (vA j (k*2+1)) (vI (-1-(n:Int)))) 0 60 2 (vS j a d) a (List.replicate (k'*2) (vI (-1-(n:Int)))++xs.drop (k'*2))/\zd (fun b=>(vS j a d).ownBlock=some b) W ((wr.setCell (vA j (k*2)) (vI (-1-(n:Int)))).setCell (vA j (k*2+1)) (vI (-1-(n:Int))))/\zg ((wr.setCell (vA j (k*2)) (vI (-1-(n:Int)))).setCell (vA j (k*2+1)) (vI (-1-(n:Int)))) W.heap.size 60 #[vI (-1-(n:Int)),vI (-1-(n:Int))]):=⟨k+1,o_,s_,by rw[show(k+1)*2=k*2+1+1 by omega];exact s2,Ra,Ja⟩;clear m Oa s2 Pa Qa t Ra v Ja H1 aa ba Aa na
   go_wp2
   exact⟨eb.out,by simp[intOf];omega⟩
  ·obtain rfl:k=a:=o_;rw[List.drop_of_length_le (h_ L.out),List.append_nil]at m;have Q:=hb.zf t Na;have Za:=s8 Y t (fun g o e=>ma g e o);have Ab:=s8 X t (fun g o e=>la g e o);have oa:=Q.cell 2;have pa:=Q.cell 4;have Sb:=Q.lt;simp only[s7]at oa pa;clear c1 Ha mb;have Va:Hid (zd (fun b=>(Value.slice f k d).ownBlock=some b) W wr):=t;have qb:Hid (wr.ownsRow 0 60 2 (.slice f k d) k (List.replicate (k*2) (vI (-1-(n:Int))))):=m;have Jb:=t.size;have Ba:(Value.slice f k d).ownBlock≠some W.heap.size:=fun e=>by have:=UI w e;omega
   clear t Y X w hb L
   go_wp2_with (first
    |(at_builtin;refine Vk r_ _ _ 48 48 r_ _ _ r_ r_ (H1 _ ?_ _ ?_) ?_;(focus (exact s8 (T:=fun _=>False) m (zd.new cl) (fun _ _ h=>h)));(focus exact s6);rintro Vb I ⟨g1,B,rfl,ca⟩;have Ea:zd (fun b=>(Value.slice f k d).ownBlock=some b) wr I:=(zd.new cl).trans ca.zf;have d1:=v.zf Ea Ba;have Ua:=d1.cell 0;have cb:=d1.cell 1;have Kb:=d1.lt;simp only[s7]at Ua cb)
    |(at_builtin;refine Vk r_ _ _ 48 48 r_ _ _ r_ r_ (aa _ ?_ _ ?_) ?_;(focus (exact s8 (T:=fun _=>False) ca.row (zd.new cl) (fun _ _ h=>h)));(focus exact s6);rintro Wb G ⟨g2,C,rfl,da⟩;have Fa:zd (fun b=>(Value.slice f k d).ownBlock=some b) wr G:=(Ea.alloc _).trans da.zf;have ja:=v.zf Fa Ba;have ib:=ja.cell 0;have jb:=ja.cell 1;have Lb:=ja.lt;simp only[s7]at ib jb)
    |(at_builtin;refine Vk r_ _ _ 48 48 r_ _ _ r_ r_ (ba _ ?_ _ ?_) ?_;(focus (exact s8 (T:=fun _=>False) da.row (zd.new cl) (fun _ _ h=>h)));(focus exact s6);rintro v3 A ⟨g3,D,rfl,Ca⟩;have ga:zd (fun b=>(Value.slice f k d).ownBlock=some b) wr A:=(Fa.alloc _).trans Ca.zf;have b3:=Q.zf ga Na;have qa:=b3.cell 2;have Tb:=b3.lt;simp only[s7]at qa;have Ta:=s8 Za ga (fun g o e=>ma g e o);have rb:=s8 Ab ga (fun g o e=>la g e o))
    |(at_builtin;refine Vk r_ _ _ 81 81 r_ _ _ r_ r_ (na _ ?_ _ g1 B g2 C g3 D ?_) ?_;(focus (exact s8 (T:=fun _=>False) Ta (zd.new cl) (fun _ _ h=>h)));(focus exact s6);rintro Xb x ⟨gN,z,rfl,ea⟩;have H:=(b3.alloc _).zf ea.zf Ka;have ra:=H.cell 2;have Xa:=H.frozen 2;have sa:=H.cell 4;have Ya:=H.frozen 4;have Cb:=H.lt;simp only[s7]at ra sa))
   have P:=H.set 2 (vS gN (n+4) z);simp only[UF,UE,UD]at P;have ta:(x.setCell (vA bw 2) (vS gN (n+4) z)).ownsRow 0 3 1 (.slice aA n cA) n (ints ms):=by
    refine s8 (T:=fun b=>b=bw\/(Value.slice ha n ia).ownBlock=some b) rb ?_ ?_
    ·exact((zd.trans (T:=fun b=>b=bw\/(Value.slice ha n ia).ownBlock=some b) (zd.alloc (zd.refl _ _) _) (ea.zf.mono (fun b hb=>Or.inr hb))).setCell (p:=vA bw 2) (Or.inl rfl) _)
    ·rintro g o (rfl|h)
     ·exact ka o
     ·exact Ma g h o
   obtain⟨N,Z⟩:∃N,N=x.setCell (vA bw 2) (vS gN (n+4) z):=⟨_,rfl⟩;have Ia:N.heap.size=x.heap.size:=by rw[Z];simp
   rw[<-Z]at P ta ⊢;have gb:Hid (N=x.setCell (vA bw 2) (vS gN (n+4) z)):=Z;have ab:Hid (N.heap.size=x.heap.size):=Ia;clear Z Ia ra sa Xa Ya H1 aa ba na oa pa qa;have bb:=P.cell 4;have Db:=P.lt;simp only[s7]at bb
   go_region_law (refine WL rfl (.tmp 63) (.tmp 68) 25 25 rfl _ _ ?_ ?_ (Aa _ ?_ ?_ ?_) ?_;(focus (simp[Act.eval,Act.put]));(focus ((try simp[Act.eval,Act.put]);(try rfl)));(focus (exact s8 (T:=fun _=>False) ta (zd.new cl) (fun _ _ h=>h)));(focus exact s6);rintro vA J ⟨gA,M,rfl,Da⟩;have Ga:=zg.zf (show zg _ bw 84 #[F,s,vS gN (n+4) z,r,.slice aA n cA] by exact s6) Da.zf ka;have Sa:=Ga.cell 4;have Eb:=Ga.frozen 4;simp only[s7]at Sa)
   all_goals go_wp2
   all_goals go_end0
   all_goals refine⟨rfl,wr,I,G,A,x,J,_,_,_,_,_,g1,B,g2,C,g3,D,gN,z,gA,M,⟨Va.out,qb.out,?_,ca,?_,da,?_,Ca,?_,ea,?_,Da,rfl⟩⟩
   all_goals first|(rw[<-gb.out,<- ab.out];exact cl;done)|(exact cl;done)
def yd.laws:yd->Prop
 |⟨6,_,_⟩|⟨7,_,_⟩|⟨8,_,_⟩|⟨9,_,_⟩|⟨10,_,_⟩|⟨11,_,_⟩|⟨12,_,_⟩=>True
 |_=>False
def yd.owns:yd->Prop
 |⟨6,_,_⟩|⟨8,_,_⟩|⟨9,_,_⟩|⟨10,_,_⟩|⟨11,_,_⟩|⟨12,_,_⟩=>True
 |_=>False
theorem yd.aZ{x:yd}(h:x.laws):6<=x.k/\x.k<=12:=by
 unfold yd.laws at h
 split at h<;>first|(simp;done)|exact h.elim
theorem yd.hv{x:yd}(h:x.owns):6<=x.k/\x.k<=12/\x.k≠7:=by
 unfold yd.owns at h
 split at h<;>first|(simp;done)|exact h.elim
structure Xp (τ : Nat->yd) (W:World) (bw:Nat) (F s y r l:Value) (ns u:List Value) (ms L:List Int):Prop where
 ze:zg W bw 84 #[F,s,y,r,l]
 tag : τ bw=.law
 N:Xo W 1 25 s r ns ms
 E:Xo W 2 48 y l u L
 tN:∀g,s.ownBlock=some g -> τ g=.lawN
 tE:∀g,y.ownBlock=some g -> τ g=.lawE
 tA:∀g,r.ownBlock=some g -> τ g=.lawA
 tB:∀g,l.ownBlock=some g -> τ g=.lawB
 ln:∀v∈ns,∀g,v.ownBlock=some g -> τ g=.zw
 le:∀v∈u,∀g,v.ownBlock=some g -> τ g=.zw
theorem Xo.lt{sl:Value}(h:Xo W c tl sl j ns ms):(∀g,sl.ownBlock=some g->g<W.heap.size)/\(∀g,j.ownBlock=some g->g<W.heap.size)/\(∀v∈ns,∀g,v.ownBlock=some g->g<W.heap.size):=by
 refine⟨fun g a=>UI h.row a,fun g a=>UI h.mrow a,fun v l g a=>?_⟩
 obtain⟨i,d⟩:=Vh l;have e:=(Uy.1 d).1;obtain⟨m,k⟩:∃m,ms[i]?=some m:=⟨_,Ur (by rw[<-h.len];exact e)⟩
 rcases h.ok i v m d k with rfl|⟨b,len,cap,rfl,_,_,_,f,_⟩
 ·cases a
 ·simp[Value.ownBlock]at a;subst a;exact f
theorem Xp.zf{τ τ':Nat->yd}(h:Xp τ W bw F s y r l ns u ms L)(e:zd T W W')
  (m:∀b,b<W.heap.size->T b->¬(τ b).laws) (d:∀b,b<W.heap.size -> τ' b = τ b):Xp τ' W' bw F s y r l ns u ms L:=by
 obtain⟨n1,n2,k⟩:=h.N.lt;obtain⟨f,i,j⟩:=h.E.lt;have zb:∀g t,g<W.heap.size -> τ g=t->t.laws->¬T g:=fun g t a ht n o=>m g a o (by rw[ht];exact n)
 refine⟨h.ze.zf e (zb _ _ h.ze.lt h.tag trivial),by rw[d _ h.ze.lt];exact h.tag,?_,?_,?_,?_,?_,?_,?_,?_⟩
 ·exact h.N.zf e (fun g a=>zb g _ (n1 g a) (h.tN g a) trivial) (fun g a=>zb g _ (n2 g a) (h.tA g a) trivial) (fun v c g a=>zb g _ (k v c g a) (h.ln v c g a) trivial)
 ·exact h.E.zf e (fun g a=>zb g _ (f g a) (h.tE g a) trivial) (fun g a=>zb g _ (i g a) (h.tB g a) trivial) (fun v c g a=>zb g _ (j v c g a) (h.le v c g a) trivial)
 ·exact fun g a=>by rw[d _ (n1 g a)];exact h.tN g a
 ·exact fun g a=>by rw[d _ (f g a)];exact h.tE g a
 ·exact fun g a=>by rw[d _ (n2 g a)];exact h.tA g a
 ·exact fun g a=>by rw[d _ (i g a)];exact h.tB g a
 ·exact fun v c g a=>by rw[d _ (k v c g a)];exact h.ln v c g a
 ·exact fun v c g a=>by rw[d _ (j v c g a)];exact h.le v c g a
def Xw (τ : Nat->yd)(H:Nat)(o:Option Nat)(g1 g2 g3 gN gA:Nat)(TN TA:yd)(b:Nat):yd :=
 if o=some b then .zw else if b<H then τ b else if b=g1\/b=g2\/b=g3 then .zw else if b=gN then TN else if b=gA then TA else .free
structure OwnT (τ : Nat->yd) (W:World) (o:Option Nat) (τ':Nat->yd) (w':World):Prop where
 old:∀b,b<W.heap.size->o≠some b -> τ' b = τ b
 new:∀b,W.heap.size<=b\/o=some b -> τ' b=.free\/(τ' b).laws
 zf:zd (fun b=>b<W.heap.size/\((τ b).owns\/o=some b)) W w'
theorem jj{τ : Nat->yd}{TN TA:yd}(c:TN.laws)(d:TA.laws)(e:zd (fun b=>b<W.heap.size/\((τ b).owns\/o=some b)) W w'):OwnT τ W o (Xw τ W.heap.size o g1 g2 g3 gN gA TN TA) w':=by
 refine⟨fun b hb a=>by simp[Xw,hb,a],fun b hb=>?_,e⟩
 unfold Xw
 by_cases a:o=some b
 ·rw[if_pos a];exact .inr trivial
 ·rw[if_neg a,if_neg (by rcases hb with hb|hb;omega;exact absurd hb a)]
  split
  ·exact .inr trivial
  ·split
   ·exact .inr c
   ·split
    ·exact .inr d
    ·exact .inl rfl
theorem gx{τ : Nat->yd}(h:Xp τ W bw F s y r l ns u ms L)(ma:ns.length<=1000000000)
  (P:W.ownsRow 0 3 1 (.slice f a d) a xs) (T:a<=990) (m:∀b,(Value.slice f a d).ownBlock=some b -> τ b=.free) :
  Calls prog 126 #[vP bw,.slice f a d] W fun e w'=>e=vT #[]/\∃τ' oa na da qa,OwnT τ W (Value.slice f a d).ownBlock τ' w'/\Xp τ' w' bw F oa y na l da u qa L/\da.length=ns.length+4:=by
 have Y:s.ownBlock≠some bw:=fun e=>by have:=h.tN _ e;rw[h.tag]at this;cases this
 have X:r.ownBlock≠some bw:=fun e=>by have:=h.tA _ e;rw[h.tag]at this;cases this
 have Z:∀g,s.ownBlock=some g->r.ownBlock≠some g:=fun g n j=>by have:=h.tN _ n;rw[h.tA _ j]at this;cases this
 have w:(Value.slice f a d).ownBlock≠some bw:=fun e=>by have:=m _ e;rw[h.tag]at this;cases this
 have ba:∀g,(Value.slice f a d).ownBlock=some g->s.ownBlock≠some g:=fun g n j=>by have:=m _ n;rw[h.tN _ j]at this;cases this
 have aa:∀g,(Value.slice f a d).ownBlock=some g->r.ownBlock≠some g:=fun g n j=>by have:=m _ n;rw[h.tA _ j]at this;cases this
 have ia:∀v∈ns,∀g,v.ownBlock=some g->g≠bw/\s.ownBlock≠some g/\r.ownBlock≠some g/\(Value.slice f a d).ownBlock≠some g:=fun v i g c=>by
  have ht:=h.ln v i g c
  exact⟨fun e=>(by rw[e,h.tag]at ht;cases ht),fun e=>(by rw[h.tN _ e]at ht;cases ht),fun e=>(by rw[h.tA _ e]at ht;cases ht),fun e=>(by rw[m _ e]at ht;cases ht)⟩
 refine(mw h.ze h.N.row (by rw[h.N.len];exact h.N.mrow) ma Y X Z P T w ba aa).mono ?_
 rintro e w' ⟨rfl,O,I,G,A,x,J,S,U,V,R,K,g1,B,g2,C,g3,D,gN,z,gA,M,ja⟩
 have Q:=ho h.ze h.N T P Y X Z w ba aa ia ja;obtain⟨n1,n2,pa⟩:=h.N.lt;obtain⟨n,j,ga⟩:=h.E.lt;have la:zd (fun b=>b<W.heap.size/\((τ b).owns\/(Value.slice f a d).ownBlock=some b)) W w':=Q.zf.X4 (fun b hb k=>by
  refine⟨hb,?_⟩
  rcases k with rfl|e|e|e
  ·left;rw[h.tag];trivial
  ·left;rw[h.tN _ e];trivial
  ·left;rw[h.tA _ e];trivial
  ·exact .inr e)
 have ua:=Q.h3;have o1:=Q.o1.2;have o2:=Q.o2.2;have o3:=Q.o3.2;obtain⟨sa,oN⟩:=Q.oN;obtain⟨ra,oA⟩:=Q.oA;have k:=jj (g1:=g1) (g2:=g2) (g3:=g3) (gN:=gN) (gA:=gA) (TN:=.lawN) (TA:=.lawA) trivial trivial la;have ca:∀g,(Value.slice f a d).ownBlock=some g->g<W.heap.size:=fun g c=>UI P c
 have o:∀b t,τ b=t->t≠.free->(Value.slice f a d).ownBlock≠some b:=fun b t ht ka e=>ka (by rw[<-ht];exact m b e)
 have ea:Xo w' 2 48 y l u L:=h.E.zf Q.zf
  (fun g c=>by have t:=h.tE g c;rintro(e|e|e|e);rw[e,h.tag]at t;cases t;rw[h.tN _ e]at t;cases t;rw[h.tA _ e]at t;cases t;rw[m _ e]at t;cases t)
  (fun g c=>by have t:=h.tB g c;rintro(e|e|e|e);rw[e,h.tag]at t;cases t;rw[h.tN _ e]at t;cases t;rw[h.tA _ e]at t;cases t;rw[m _ e]at t;cases t)
  (fun v i g c=>by have t:=h.le v i g c;rintro(e|e|e|e);rw[e,h.tag]at t;cases t;rw[h.tN _ e]at t;cases t;rw[h.tA _ e]at t;cases t;rw[m _ e]at t;cases t)
 have H:∀g,(g=g1\/g=g2\/g=g3)->((Value.slice f a d).ownBlock=some g\/W.heap.size<=g)->Xw τ W.heap.size (Value.slice f a d).ownBlock g1 g2 g3 gN gA .lawN .lawA g=.zw:=fun g ha p=>by
  unfold Xw
  by_cases q:(Value.slice f a d).ownBlock=some g
  ·rw[if_pos q]
  ·rw[if_neg q,if_neg (by rcases p with p|p;exact absurd p q;omega),if_pos ha]
 refine⟨rfl,_,_,_,_,_,k,⟨Q.ze,by rw[k.old _ h.ze.lt w];exact h.tag,Q.marked,ea,?_,?_,?_,?_,?_,?_⟩,s_⟩
 ·intro g c
  simp[Value.ownBlock]at c;subst c
  rcases oN with e|e
  ·rw[k.old _ (n1 _ e) (o _ _ (h.tN _ e) s_)];exact h.tN _ e
  ·unfold Xw;rw[if_neg (fun j=>by have:=ca _ j;omega),if_neg o_,if_neg o_,if_pos rfl]
 ·intro g c;rw[k.old _ (n g c) (o _ _ (h.tE g c) s_)];exact h.tE g c
 ·intro g c
  simp[Value.ownBlock]at c;subst c
  rcases oA with e|⟨e,ta⟩
  ·rw[k.old _ (n2 _ e) (o _ _ (h.tA _ e) s_)];exact h.tA _ e
  ·unfold Xw;rw[if_neg (fun j=>by have:=ca _ j;omega),if_neg o_,if_neg o_,if_neg o_,if_pos rfl]
 ·intro g c;rw[k.old _ (j g c) (o _ _ (h.tB g c) s_)];exact h.tB g c
 ·intro v i g c
  rcases UU.1 i with i|i
  ·rw[k.old _ (pa v i g c) (o _ _ (h.ln v i g c) s_)];exact h.ln v i g c
  ·simp only[List.mem_cons,List.not_mem_nil,or_false]at i
   rcases i with rfl|rfl|rfl|rfl
   ·unfold Xw;rw[if_pos c]
   ·simp[Value.ownBlock]at c;subst c;exact H _ s_ o1.2
   ·simp[Value.ownBlock]at c;subst c;exact H _ s_ o2.2
   ·simp[Value.ownBlock]at c;subst c;exact H _ s_ o3.2
 ·intro v i g c;rw[k.old _ (ga v i g c) (o _ _ (h.le v i g c) s_)];exact h.le v i g c
theorem p2{τ : Nat->yd}(h:Xp τ W bw F s y r l ns u ms L)(ma:u.length<=1000000000)
  (P:W.ownsRow 0 60 2 (.slice f a d) a xs) (T:a<=990) (m:∀b,(Value.slice f a d).ownBlock=some b -> τ b=.free) :
  Calls prog 111 #[vP bw,.slice f a d] W fun e w'=>e=vT #[]/\∃τ' oa na da qa,OwnT τ W (Value.slice f a d).ownBlock τ' w'/\Xp τ' w' bw F s oa r na ns da ms qa/\da.length=u.length+4:=by
 have Y:y.ownBlock≠some bw:=fun e=>by have:=h.tE _ e;rw[h.tag]at this;cases this
 have X:l.ownBlock≠some bw:=fun e=>by have:=h.tB _ e;rw[h.tag]at this;cases this
 have Z:∀g,y.ownBlock=some g->l.ownBlock≠some g:=fun g n j=>by have:=h.tE _ n;rw[h.tB _ j]at this;cases this
 have w:(Value.slice f a d).ownBlock≠some bw:=fun e=>by have:=m _ e;rw[h.tag]at this;cases this
 have ba:∀g,(Value.slice f a d).ownBlock=some g->y.ownBlock≠some g:=fun g n j=>by have:=m _ n;rw[h.tE _ j]at this;cases this
 have aa:∀g,(Value.slice f a d).ownBlock=some g->l.ownBlock≠some g:=fun g n j=>by have:=m _ n;rw[h.tB _ j]at this;cases this
 have ia:∀v∈u,∀g,v.ownBlock=some g->g≠bw/\y.ownBlock≠some g/\l.ownBlock≠some g/\(Value.slice f a d).ownBlock≠some g:=fun v i g c=>by
  have ht:=h.le v i g c
  exact⟨fun e=>(by rw[e,h.tag]at ht;cases ht),fun e=>(by rw[h.tE _ e]at ht;cases ht),fun e=>(by rw[h.tB _ e]at ht;cases ht),fun e=>(by rw[m _ e]at ht;cases ht)⟩
 refine(mD h.ze h.E.row (by rw[h.E.len];exact h.E.mrow) ma Y X Z P T w ba aa).mono ?_
 rintro e w' ⟨rfl,O,I,G,A,x,J,S,U,V,R,K,g1,B,g2,C,g3,D,gN,z,gA,M,ja⟩
 have Q:=ho h.ze h.E T P Y X Z w ba aa ia ja;obtain⟨n1,n2,pa⟩:=h.E.lt;obtain⟨n,j,ga⟩:=h.N.lt;have la:zd (fun b=>b<W.heap.size/\((τ b).owns\/(Value.slice f a d).ownBlock=some b)) W w':=Q.zf.X4 (fun b hb k=>by
  refine⟨hb,?_⟩
  rcases k with rfl|e|e|e
  ·left;rw[h.tag];trivial
  ·left;rw[h.tE _ e];trivial
  ·left;rw[h.tB _ e];trivial
  ·exact .inr e)
 have ua:=Q.h3;have o1:=Q.o1.2;have o2:=Q.o2.2;have o3:=Q.o3.2;obtain⟨sa,oN⟩:=Q.oN;obtain⟨ra,oA⟩:=Q.oA;have k:=jj (g1:=g1) (g2:=g2) (g3:=g3) (gN:=gN) (gA:=gA) (TN:=.lawE) (TA:=.lawB) trivial trivial la;have ca:∀g,(Value.slice f a d).ownBlock=some g->g<W.heap.size:=fun g c=>UI P c
 have o:∀b t,τ b=t->t≠.free->(Value.slice f a d).ownBlock≠some b:=fun b t ht ka e=>ka (by rw[<-ht];exact m b e)
 have ea:Xo w' 1 25 s r ns ms:=h.N.zf Q.zf
  (fun g c=>by have t:=h.tN g c;rintro(e|e|e|e);rw[e,h.tag]at t;cases t;rw[h.tE _ e]at t;cases t;rw[h.tB _ e]at t;cases t;rw[m _ e]at t;cases t)
  (fun g c=>by have t:=h.tA g c;rintro(e|e|e|e);rw[e,h.tag]at t;cases t;rw[h.tE _ e]at t;cases t;rw[h.tB _ e]at t;cases t;rw[m _ e]at t;cases t)
  (fun v i g c=>by have t:=h.ln v i g c;rintro(e|e|e|e);rw[e,h.tag]at t;cases t;rw[h.tE _ e]at t;cases t;rw[h.tB _ e]at t;cases t;rw[m _ e]at t;cases t)
 have H:∀g,(g=g1\/g=g2\/g=g3)->((Value.slice f a d).ownBlock=some g\/W.heap.size<=g)->Xw τ W.heap.size (Value.slice f a d).ownBlock g1 g2 g3 gN gA .lawE .lawB g=.zw:=fun g ha p=>by
  unfold Xw
  by_cases q:(Value.slice f a d).ownBlock=some g
  ·rw[if_pos q]
  ·rw[if_neg q,if_neg (by rcases p with p|p;exact absurd p q;omega),if_pos ha]
 refine⟨rfl,_,_,_,_,_,k,⟨Q.ze,by rw[k.old _ h.ze.lt w];exact h.tag,ea,Q.marked,?_,?_,?_,?_,?_,?_⟩,s_⟩
 ·intro g c;rw[k.old _ (n g c) (o _ _ (h.tN g c) s_)];exact h.tN g c
 ·intro g c
  simp[Value.ownBlock]at c;subst c
  rcases oN with e|e
  ·rw[k.old _ (n1 _ e) (o _ _ (h.tE _ e) s_)];exact h.tE _ e
  ·unfold Xw;rw[if_neg (fun j=>by have:=ca _ j;omega),if_neg o_,if_neg o_,if_pos rfl]
 ·intro g c;rw[k.old _ (j g c) (o _ _ (h.tA g c) s_)];exact h.tA g c
 ·intro g c
  simp[Value.ownBlock]at c;subst c
  rcases oA with e|⟨e,ta⟩
  ·rw[k.old _ (n2 _ e) (o _ _ (h.tB _ e) s_)];exact h.tB _ e
  ·unfold Xw;rw[if_neg (fun j=>by have:=ca _ j;omega),if_neg o_,if_neg o_,if_neg o_,if_pos rfl]
 ·intro v i g c;rw[k.old _ (ga v i g c) (o _ _ (h.ln v i g c) s_)];exact h.ln v i g c
 ·intro v i g c
  rcases UU.1 i with i|i
  ·rw[k.old _ (pa v i g c) (o _ _ (h.le v i g c) s_)];exact h.le v i g c
  ·simp only[List.mem_cons,List.not_mem_nil,or_false]at i
   rcases i with rfl|rfl|rfl|rfl
   ·unfold Xw;rw[if_pos c]
   ·simp[Value.ownBlock]at c;subst c;exact H _ s_ o1.2
   ·simp[Value.ownBlock]at c;subst c;exact H _ s_ o2.2
   ·simp[Value.ownBlock]at c;subst c;exact H _ s_ o3.2
def Vq (τ : Nat->yd)(H:Nat)(b:Nat):yd:=if b<H then τ b else .free
theorem VK{τ : Nat->yd}(h:b<H):Vq τ H b = τ b:=by simp[Vq,h]
theorem XJ{τ : Nat->yd}(h:H<=b):Vq τ H b=.free:=by simp[Vq,Nat.not_lt.2 h]
theorem Xp.below{τ : Nat->yd}(h:Xp τ W bw F s y r l ns u ms L)(hb:Bw W W'):Xp (Vq τ W.heap.size) W' bw F s y r l ns u ms L :=
 h.zf (T:=fun _=>False) (zd.new hb) (fun _ _ a=>a.elim) (fun b hb=>VK hb)
theorem OwnT.from{τ τ':Nat->yd}(hb:Bw W g)(h:OwnT (Vq τ W.heap.size) g o τ' w'):OwnT τ W o τ' w':=by
 refine⟨fun b a c=>?_,fun b i=>?_,?_⟩
 ·rw[h.old b (VJ a hb.size) c,VK a]
 ·by_cases c:o=some b
  ·exact h.new b (.inr c)
  ·rcases Nat.lt_or_ge b g.heap.size with d|d
   ·rw[h.old b d c,XJ (by rcases i with e|e;exact e;exact absurd e c)];exact .inl rfl
   ·exact h.new b (.inl d)
 ·refine(zd.new hb).step h.zf (fun b a=>?_)
  rintro⟨_,f⟩
  rw[VK a]at f
  exact⟨a,f⟩
def ax (τ : Nat->yd)(W:World)(o:Option Nat)(bw:Nat)(F:Value)(N:Nat)(e:Ending)(w':World):Prop :=
 e=vR (.bool true)/\∃τ' s y r l ns u ms L,OwnT τ W o τ' w'/\Xp τ' w' bw F s y r l ns u ms L/\ns.length<=N/\u.length<=N
theorem ZA{a:Option Addr}(h:W.ownsRow 0 e size (.slice a n c) n xs):n<=c/\c<=maxLen:=by
 rcases h.2 with ⟨h,f⟩|⟨g,cap,d,h,_,_,b,h3,_⟩
 ·cases h;exact⟨Nat.le_refl _,Nat.zero_le _⟩
 ·cases h;exact⟨b,h3⟩
theorem fT:∀(l:List (Int×Int)) (i:Nat) (e:Int×Int),l[i]?=some e->(UZ l)[i*2]?=some (vI e.1)/\(UZ l)[i*2+1]?=some (vI e.2)
 | [],_,_,h=>by simp at h
 |a::l,0,x,h=>by simp at h;subst h;exact⟨rfl,rfl⟩
 |a::l,t+1,x,h=>by
  have b:=fT l t x (j_ h);simp only[UZ,List.flatMap_cons]at b ⊢
  refine⟨?_,?_⟩
  ·rw[Wp (by simp[Ym];omega)];rw[show(t+1)*2-(Ym a).length=t*2 by simp[Ym];omega];exact b.1
  ·rw[Wp (by simp[Ym];omega)];rw[show(t+1)*2+1-(Ym a).length=t*2+1 by simp[Ym];omega];exact b.2
theorem iC{a:Option Addr}{l:List (Int×Int)}(h:W.ownsRow 0 60 2 (.slice a n c) n (UZ l)):au W a l:=fun i e f=>by
 rcases h.2 with ⟨d,q⟩|⟨g,cap,p,d,_,m,_⟩
 ·have o:=h.1;rw[np]at o
  have:=(Uy.1 f).1
  omega
 ·cases d
  obtain⟨j,k⟩:=fT l i e f;have d1:=h.cells (g:=g) rfl _ _ j;have b:=h.cells (g:=g) rfl _ _ k;rw[Addr.add_lit,Nat.zero_add]at d1 b
  exact⟨g,rfl,(Vz.1 m).1,d1,b⟩
theorem bB{a:Option Addr}{l:List Int}(h:W.ownsRow 0 3 1 (.slice a n c) n (l.map fun m=>vI m)):aj W a l:=fun i e d=>by
 rcases h.2 with ⟨b,o⟩|⟨g,cap,k,b,_,f,_⟩
 ·have j:=h.1;rw[List.length_map]at j
  have:=(Uy.1 d).1
  omega
 ·cases b
  have d1:=h.cells (g:=g) rfl i (vI e) (by simp[d]);rw[Addr.add_lit,Nat.zero_add]at d1
  exact⟨g,rfl,(Vz.1 f).1,d1⟩
theorem jz{τ : Nat->yd}(h:Xp τ W bw F s y r l ns u ms L)(N:Nat)(H:N<=900000000)(O:ns.length<=N)(J:u.length<=N)
  {a:Option Addr} (o:n=zt.length) (C:n<=990) (d:W.ownsRow 0 60 2 (.slice a n c) n (UZ zt)) (f:W.ownsRow 0 60 2 (.slice a2 n c2) n (UZ zt)) (m:∀b,(Value.slice a n c).ownBlock=some b -> τ b=.free) (er:Int) :
  Calls prog 68 #[vP bw,.slice a n c,vI er,.slice a2 n c2,vI er] W (ax τ W (Value.slice a n c).ownBlock bw F (N+4)):=by
 have v:=mF (w:=W) o o_ (ZA d) (ZA f) (iC d) (iC f);have t:=fun g (hb:Bw W g)=>bo (h.below hb).ze (h.below hb).N (h.below hb).E o_ o_
 have k:∀g,Bw W g->Calls prog 111 #[vP bw,.slice a n c] g fun e w'=>e=vT #[]/\ax τ W (Value.slice a n c).ownBlock bw F (N+4) (vR (.bool true)) w':=fun g hb=>by
  refine(p2 (h.below hb) o_ (s8 (T:=fun _=>False) d (zd.new hb) (fun _ _ h=>h)) C (fun b i=>by rw[VK (UI d i)];exact m b i)).mono ?_
  rintro e w' ⟨rfl,τ',M,K,P,Q,z,hI,D⟩
  exact⟨rfl,rfl,τ',_,_,_,_,_,_,_,_,z.from hb,hI,o_,o_⟩
 generalize ax τ W (Value.slice a n c).ownBlock bw F (N+4)=X at k ⊢;clear h o d f m
 go_enter func68,ntmps68
 go_wp2_with (first
  |(go_at_call 110;refine v.mono ?_;rintro e I ⟨rfl,j⟩)
  |(go_at_call 37;refine(t _ j).mono ?_;rintro e G ⟨rfl,p⟩;have q:=s5 j p)
  |(go_at_call 111;refine(k _ q).mono ?_;rintro e A ⟨rfl,B⟩)
  |(go_at_call 112;refine(dU _ _).mono ?_;rintro e R ⟨rfl,x⟩;subst x))
 all_goals exact B
end Go.Proofs.YtphclnolomgjoaaGreatDoor
