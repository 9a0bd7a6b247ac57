import Derived.Test.YtphclnolomgjoaaGreatDoorE10
set_option linter.unusedVariables false
set_option linter.unusedSimpArgs false
set_option maxRecDepth 100000
set_option maxHeartbeats 4000000
namespace Go.Proofs.YtphclnolomgjoaaGreatDoor
open Tryz
section
open Go.RowKit Go.Shelf
variable {W W' w:World}{B bt rr:Nat}{vw:Value}{ws:List Pw}{T T':Nat->Prop}
attribute [local go_sem] Oper.semAt_some
structure Rw (W:World) (za:List zc) (bt rr:Nat) (r:zc) (vw:Value) (ws:List Pw):Prop where
 yj:∀n∈za,UA W n
 rt:W.cell? (vA rr 0)=some (zi r.ze)
 bk:W.cell? (vA rr 1)=some (.pointer (some (vA bt 1)))
 wt:W.cell? (vA bt 2)=some vw
 row:wh W vw ws
 len:ws.length<=100
 zj:∀p∈ws,∃n∈za,n.ze=p.q
structure XR (za:List zc) (bt rr:Nat) (vw:Value) (ws:List Pw) (T:Nat->Prop):Prop where
 ns:∀n∈za,¬T n.ze/\∀g,n.sl.ownBlock=some g->¬T g
 rr:¬T rr
 bt:¬T bt
 vw:∀b,vw.ownBlock=some b->¬T b
 ws:∀p∈ws,¬T p.ze
theorem Rw.zf{za:List zc}{r:zc}(h:Rw W za bt rr r vw ws)(a:zd T W W')(b:XR za bt rr vw ws T):Rw W' za bt rr r vw ws :=
 ⟨Y3 b.ns h.yj a,(a.cell (p:=vA rr 0) (VE _ _ h.rt) b.rr).trans h.rt,(a.cell (p:=vA rr 1) (VE _ _ h.bk) b.rr).trans h.bk,(a.cell (p:=vA bt 2) (VE _ _ h.wt) b.bt).trans h.wt,⟨s8 h.row.row a b.vw,fun p hp=>(h.row.zu p hp).zf a (b.ws p hp)⟩,h.len,h.zj⟩
theorem Rw.below{za:List zc}{r:zc}(h:Rw W za bt rr r vw ws)(hb:Bw W W'):Rw W' za bt rr r vw ws :=
 h.zf (T:=fun _=>False) (zd.new hb) ⟨fun _ _=>⟨id,fun _ _=>id⟩,id,id,fun _ _=>id,fun _ _=>id⟩
theorem Rw.head{za:List zc}{r:zc}(h:Rw W za bt rr r vw ws){m:zc}(a:m∈za):
  Calls prog 174 #[.pointer (some (vA bt 1)),zi m.ze] W fun e w'=>e=vR (xd (Vn ws m.ze))/\Bw W w':=q7 h.yj h.wt h.row h.len h.zj a
theorem Rw.lt{za:List zc}{r:zc}(h:Rw W za bt rr r vw ws)(f:W.heap.size<=B)(a:∀b,T b->B<=b):XR za bt rr vw ws T :=
 ⟨fun n c=>⟨fun e=>by have:=(h.yj n c).lt;have:=a _ e;omega,fun g d e=>by have:=((h.yj n c).row.lt g d).2;have:=a _ e;omega⟩,fun e=>by have:=VE _ _ h.bk;have:=a _ e;simp at *;omega,fun e=>by have:=VE _ _ h.wt;have:=a _ e;simp at *;omega,fun b hb e=>by have:=UI h.row.row hb;have:=a _ e;omega,fun p hp e=>by have:=(h.row.zu p hp).lt;have:=a _ e;omega⟩
theorem XR.or{za:List zc}(h:XR za bt rr vw ws T)(a:XR za bt rr vw ws T'):XR za bt rr vw ws (fun b=>T b\/T' b) :=
 ⟨fun n c=>⟨fun e=>e.elim (h.ns n c).1 (a.ns n c).1,fun g d e=>e.elim ((h.ns n c).2 g d) ((a.ns n c).2 g d)⟩,fun e=>e.elim h.rr a.rr,fun e=>e.elim h.bt a.bt,fun b hb e=>e.elim (h.vw b hb) (a.vw b hb),fun p hp e=>e.elim (h.ws p hp) (a.ws p hp)⟩
def U7 (ws:List Pw)(l:List zc):List Pw:=l.filterMap fun n=>Vn ws n.ze
theorem n9(ws:List Pw)(l:List zc)(n:zc):U7 ws (l++[n])=U7 ws l++(Vn ws n.ze).toList:=by
 unfold U7;rw[List.filterMap_append]
 cases h:Vn ws n.ze<;>simp[List.filterMap_cons,h]
theorem gJ{a b:List zc}(h:a <+: b):U7 ws a <+: U7 ws b:=by
 obtain⟨t,rfl⟩:=h;unfold U7;rw[List.filterMap_append]
 exact aE _ _
theorem h8{za:List zc}(Aa:zr za){ch:zc->List zc}(ha:xy za ch){r:zc}(h:Rw w za bt rr r vw ws)(ma:r∈za):
  Calls prog 169 #[vP rr] w fun e w'=>e=vR (.func (.func 206) #[] #[vP w.heap.size])/\w'=w.alloc (.cells #[vP rr] 186) /\
   ∀T:Nat->Prop,(∀b,T b->b<w.heap.size)->XR za bt rr vw ws T ->
    SeqM prog 206 #[vP w.heap.size] (fun p:Pw=>#[zi p.ze]) (fun _=>False) 4 T (U7 ws (dfs ch 4 r)) w':=by
 have Wa:∀(fn:Fn) (first cap:Array Value) (w:World),(Instr.makeFunc fn first cap).run prog w=.ok (.func fn first cap) w:=fun _ _ _ _=>rfl
 have zb:∀T:Nat->Prop,(∀b,T b->b<w.heap.size)->XR za bt rr vw ws T ->
    SeqM prog 206 #[vP w.heap.size] (fun p:Pw=>#[zi p.ze]) (fun _=>False) 4 T (U7 ws (dfs ch 4 r)) (w.alloc (.cells #[vP rr] 186)):=by
  intro T da ta k d J ga W ka Ha Oa E oa N Ea;have M:∀k:Nat,Fence.wide.depth.isSome=true->1<=k:=fun k h=>by simp[Fence.wide]at h
  have Ca:Bw w W:=s5 (show Bw w (w.alloc (.cells #[vP rr] 186)) by exact cl) ka;have Q:zz W w.heap.size 186 (vP rr):=(zz.new w 186 _).below ka s_;have Xa:w.heap.size<W.heap.size:=Q.lt;have Ma:rr<w.heap.size:=by have:=VE w _ h.rt;simpa using this
  have Va:w.heap.size+1<=d:=by simpa using Ha
  have H:=fun W' (Ba:∀n∈za,UA W' n)=>ZG Aa ha ma W' Ba
  have ea:=fun x (Y:x∈dfs ch 4 r)=>ZH ha 4 r ma x Y
  have R:=h.below Ca;have pa:(W.alloc (.cells #[.func (.yield d) #[] #[]] 232)).cell? (vA w.heap.size 0)=some (vP rr):=(World.cell?_alloc_lt _ _ _ t_).trans Q.cell;have ra:(W.alloc (.cells #[.func (.yield d) #[] #[]] 232)).cell? (vA rr 0)=some (vP r.ze):=(World.cell?_alloc_lt _ _ _ t_).trans R.rt;generalize Ga:dfs ch 4 r=X at H ea N ⊢;clear Ga
  refine callsIn_of_wp_marks func206 rfl trivial ?_ rfl
  unfold zi at H;simp only[ntmps206,zC,Nat.reduceAdd,Nat.reduceSub]
  gi_wp2_with ((first|refine⟨trivial,M _,?_⟩|refine⟨trivial,?_⟩);gi_at_call 101;refine(UK.2 (H _ (fun n P=>(R.yj n P).below Vy))).mono ?_;rintro e i ⟨rfl,rfl,L⟩)
  obtain⟨i,z⟩:∃i,i=(W.alloc (.cells #[.func (.yield d) #[] #[]] 232)).alloc (.cells #[vP r.ze] 97):=⟨_,rfl⟩;have Na:i.heap.size=W.heap.size+2:=by rw[z];simp
  have Ka:zz i W.heap.size 232 (.func (.yield d) #[] #[]):=by rw[z];exact(zz.new W 232 _).alloc _
  have Z:Bw W i:=by rw[z];exact cl
  rw[Vv]at L;simp only[<-z]at L ⊢;have aa:∀F B:Nat,w.heap.size<=F->w.heap.size<=B->XR za bt rr vw ws (fun b=>T b\/(b=F\/B<=b)):=fun F B C D=>ta.or (h.lt (Nat.le_refl _) (fun b e=>by omega))
  have hq:SeqM prog 149 #[vP (W.heap.size+1)] (fun x:zc=>#[vP x.ze]) (fun _=>False) 0 (fun b=>T b\/b=d) X i:=eo (fun B F C D=>L _ (fun n P=>by
   have o1:=(aa d w.heap.size o_ (Nat.le_refl _)).ns n P;have o2:=(aa F B o_ o_).ns n P
   refine⟨fun e=>?_,fun g V e=>?_⟩
   ·rcases e with (e|e)|e
    ·exact o1.1 (.inl e)
    ·exact o1.1 (.inr (.inl e))
    ·exact o2.1 (.inr e)
   ·rcases e with (e|e)|e
    ·exact o1.2 g V (.inl e)
    ·exact o1.2 g V (.inr (.inl e))
    ·exact o2.2 g V (.inr e)))
  clear L H z pa ra;have ia:∀b,False\/(i.heap.size<=b/\b<i.heap.size+2+0)->False\/(W.heap.size<=b/\b<W.heap.size+4):=fun b e=>e.imp id (fun e=>by omega)
  have qa:XR za bt rr vw ws (fun b=>False\/(i.heap.size<=b/\b<i.heap.size+2+0)):=h.lt (Nat.le_refl _) (fun b e=>by
   rcases e with e|e
   ·exact e.elim
   ·omega)
  refine Y6 (T:=fun b=>T b\/b=d) (S:=fun _=>False) rfl (enters_of func149 k_ rfl) hq (Below.refl _ _) (fun _=>rfl) (fun b e=>e.elim) (fun b e=>by
    rcases e with e|e
    ·have:=da _ e;omega
    ·omega)
   (fun (pre:List zc) A=>J (U7 ws pre) A/\zz A W.heap.size 232 (.func (.yield d) #[] #[])/\zz A w.heap.size 186 (vP rr)/\Rw A za bt rr r vw ws)
   (fun c (pre:List zc) A=>c=.ret/\ga (U7 ws pre) A)
   (fun pre A B o s=>⟨E _ _ _ o.1 (s.mono ia),o.2.1.zf s (fun e=>by rcases e with e|e;exact e;omega),o.2.2.1.zf s (fun e=>by rcases e with e|e;exact e;omega),o.2.2.2.zf s qa⟩)
   (fun c pre A B o s=>⟨o.1,oa _ _ _ o.2 (s.mono ia)⟩)
   ⟨E _ _ _ Ea (zd.new Z),Ka,Q.below Z Q.lt,R.below Z⟩
   (fun x=>{tmps:=#[.func (.yield d) #[] #[],vP w.heap.size,vP W.heap.size,vP x.ze,undef,vP rr,vP rr,vP rr,vP r.ze,.func (.func 149) #[] #[vP (W.heap.size+1)],vP x.ze,undef,undef,undef,undef,undef,undef,undef,undef,undef,undef,undef,undef,undef,undef],defers:=[]}) ?assign ?body ?done ?stop
  case assign =>
   intro l x W K Fa
   gi_wp2
   exact Fa
  case body =>
   rintro l2 pre x G ⟨O,m,q,v⟩ Sa I
   have Da:=ea x (I.subset s_);have u:=v.head Da;have Ya:=q.cell;have La:=v.bk;have t:=n9 ws pre x;have Ja:=fun W (p:Pw)=>ZD (W:=W) (x:=p)
   have Ua:=fun W=>ZV (W:=W)
   cases la:Vn ws x.ze with
   |none =>
    rw[la]at u t;have y:Hid (U7 ws (pre++[x])=U7 ws pre):=show U7 ws (pre++[x])=U7 ws pre from by rw[t];simp
    clear t N hq;unfold xd zi at u
    gi_wp2_with ((first|refine⟨trivial,M _,?_⟩|refine⟨trivial,?_⟩);gi_at_call 174;refine(CallsIn.inRound l2 (UK.2 u)).mono ?_;rintro e j ⟨rfl,a⟩)
    refine⟨fun f h=>(by cases h),?_⟩
    gi_wp2
    exact⟨zd.new a,by rw[y.out];exact E _ _ _ O (zd.new a),m.below a m.lt,q.below a q.lt,v.below a⟩
   |some p =>
    rw[la]at u t;have y:Hid (U7 ws (pre++[x])=U7 ws pre++[p]):=show U7 ws (pre++[x])=U7 ws pre++[p] from by rw[t];simp
    have Ia:U7 ws pre++[p] <+: U7 ws X:=by rw[<-y.out];exact gJ I
    have ba:∀j,Bw G j->YieldAt Fence.wide (k-1) prog d #[zi p.ze] j fun e W'=>(e=vR (.bool true)/\(J (U7 ws (pre++[x])) W'/\zz W' W.heap.size 232 (.func (.yield d) #[] #[])/\zz W' w.heap.size 186 (vP rr)/\Rw W' za bt rr r vw ws)/\zd (fun b=>(T b\/b=d)\/i.heap.size+2+0<=b) G W')\/(e=vR (.bool false)/\ga (U7 ws (pre++[x])) W'/\zd (fun b=>(T b\/b=d)\/i.heap.size+2+0<=b) G W'):=fun j a=>by
     refine(N (k-1) _ p j (E _ _ _ O (zd.new a)) (h_ a.size) Ia).mono ?_
     have na:∀b,(T b\/b=d\/W.heap.size+4<=b)->((T b\/b=d)\/i.heap.size+2+0<=b):=fun b e=>by
      rcases e with e|e|e
      ·exact .inl (.inl e)
      ·exact .inl (.inr e)
      ·exact .inr o_
     rintro e W' (⟨C,D,h3⟩|⟨C,D,h3⟩)
     ·refine .inl ⟨C,⟨by rw[y.out];exact D,(m.below a m.lt).zf h3 (fun e=>?_),(q.below a q.lt).zf h3 (fun e=>?_),(v.below a).zf h3 (aa _ _ o_ o_)⟩,(zd.new a).trans (h3.mono na)⟩
      ·rcases e with e|e|e
       ·have:=da _ e;omega
       ·omega
       ·omega
      ·rcases e with e|e|e
       ·have:=da _ e;omega
       ·omega
       ·omega
     ·exact .inr ⟨C,by rw[y.out];exact D,(zd.new a).trans (h3.mono na)⟩
    clear t N hq;unfold xd zi at u;unfold zi at ba
    gi_wp2_with ((first|refine⟨trivial,M _,?_⟩|refine⟨trivial,?_⟩);gi_at_call 174;refine(CallsIn.inRound l2 (UK.2 u)).mono ?_;rintro e j ⟨rfl,a⟩;obtain⟨fn,tmps,assign,body,Ta,ja⟩:=ba j a;have Qa:=(m.below a m.lt).cell;have Pa:=Ja j p)
    refine⟨M _,?_⟩
    refine ja.mono ?_
    clear ja ba
    rintro e Ra (⟨rfl,sa,ca⟩|⟨rfl,ua,ca⟩)
    ·gi_wp2_with fail
     exact⟨ca,sa⟩
    ·gi_wp2_with fail
     exact⟨ca,rfl,ua⟩
  case done =>
   rintro A ⟨O,m,q,v⟩ U
   gi_wp2
   refine⟨s_,.inl ⟨_,_,rfl,run_takeDeferred U,?_⟩⟩
   exact⟨.tuple #[],by simp[results,results206,go_sem],⟨_,rfl⟩,.inl (E _ _ _ O ((zd.refl _ _).putObj (.inr o_) _))⟩
  case stop =>
   rintro c pre A I ⟨rfl,Y⟩ U
   gi_wp2
   refine⟨s_,.inl ⟨_,_,rfl,run_takeDeferred U,?_⟩⟩
   exact⟨.tuple #[],by simp[results,results206,go_sem],⟨_,rfl⟩,.inr ⟨U7 ws pre,gJ I,oa _ _ _ Y ((zd.refl _ _).putObj (.inr o_) _)⟩⟩
 unfold zi at zb ⊢
 go_enter func169,ntmps169
 go_wp2
 go_ret
 exact⟨rfl,rfl,zb⟩
end
section
open Go.RowKit
variable {D d st sx:Int}{Ws a b rest:List Wk}{x y:Wk}{i:Nat}{k:List Bs}{s:SS}
def YP (D:Int)(a:Int×Int)(A:Int):Prop:=0<a.2/\a.1*D=A*a.2
theorem dO(i:0<D){a b:Int×Int}{A B:Int}(c:YP D a A)(hb:YP D b B):a.1*b.2<b.1*a.2↔A<B:=by
 obtain⟨f,c⟩:=c;obtain⟨g,hb⟩:=hb;have d:a.1*b.2*D=A*(a.2*b.2):=by
  rw[show a.1*b.2*D=a.1*D*b.2 by ac_rfl,c];ac_rfl
 have e:b.1*a.2*D=B*(a.2*b.2):=by
  rw[show b.1*a.2*D=b.1*D*a.2 by ac_rfl,hb];ac_rfl
 have hq:0<a.2*b.2:=Int.mul_pos f g
 constructor
 ·intro h
  have:=Int.mul_lt_mul_of_pos_right h i
  rw[d,e]at this
  exact Int.lt_of_mul_lt_mul_right this o_
 ·intro h
  have:=Int.mul_lt_mul_of_pos_right h hq
  rw[<-d,<- e]at this
  exact Int.lt_of_mul_lt_mul_right this o_
theorem gh(f:0<D){a b:Int×Int}{A B:Int}(d:YP D a A)(hb:YP D b B):YP D (yk a b) (max A B):=by
 have h:=dO f d hb;unfold yk
 split
 ·rename_i c
  have:=h.1 c
  rw[show max A B=B by omega]
  exact hb
 ·rename_i c
  have:¬A<B:=fun e=>c (h.2 e)
  rw[show max A B=A by omega]
  exact d
def shp (L:List zx)(Ws:List Wk)(x:Wk):Int :=
 max (max 0 (yf (Ut Ws (kN x.zb))+x.d0-xj (Uz L (kN x.zb)))*max 1 (xi (Uz L []))) (max 0 (yg (Ut Ws (kN x.zb))+x.d1-xi (Uz L (kN x.zb)))*max 1 (xj (Uz L [])))
theorem iP{u n a o:Int}(c:0<=a)(b:a=0->u+d-n<=0):YP (max 1 a*max 1 o) (shr u d n a) (max 0 (u+d-n)*max 1 o):=by
 unfold shr
 split
 ·rename_i h
  refine⟨d_,?_⟩
  have:max 0 (u+d-n)=0:=by
   rcases h with h|h
   ·have:=b h;omega
   ·omega
  rw[this];simp
 ·rename_i h
  have f:a≠0:=fun e=>h (.inl e)
  have g:¬(u+d-n<0):=fun e=>h (.inr e)
  refine⟨show 0<a by omega,?_⟩
  rw[show max 0 (u+d-n)=u+d-n by omega,show max 1 a=a by omega]
  simp only
  ac_rfl
def Plain(L:List zx)(Ws:List Wk)(x:Wk):Prop :=
 (xj (Uz L [])=0->yf (Ut Ws (kN x.zb))+x.d0-xj (Uz L (kN x.zb))<=0)/\(xi (Uz L [])=0->yg (Ut Ws (kN x.zb))+x.d1-xi (Uz L (kN x.zb))<=0)
theorem aU{L:List zx}(E:ym L)(h:Plain L Ws x):YP (max 1 (xj (Uz L []))*max 1 (xi (Uz L []))) (Vg L Ws x) (shp L Ws x):=by
 have hb:=Yl E [];have a:0<max 1 (xj (Uz L []))*max 1 (xi (Uz L [])):=Int.mul_pos o_ o_;have d:YP (max 1 (xj (Uz L []))*max 1 (xi (Uz L []))) (0,1) 0:=⟨d_,s_⟩;have e:=iP (o:=xi (Uz L [])) hb.1.1 h.1;have b:=iP (o:=xj (Uz L [])) hb.2.1 h.2;rw[Int.mul_comm (max 1 (xi (Uz L []))) (max 1 (xj (Uz L [])))]at b;have c:=gh a (gh a d e) b;have f:0<=max 0 (yf (Ut Ws (kN x.zb))+x.d0-xj (Uz L (kN x.zb)))*max 1 (xi (Uz L [])):=Int.mul_nonneg o_ o_;unfold Vg shp;rw[show max 0 (max 0 (yf (Ut Ws (kN x.zb))+x.d0-xj (Uz L (kN x.zb)))*max 1 (xi (Uz L [])))=max 0 (yf (Ut Ws (kN x.zb))+x.d0-xj (Uz L (kN x.zb)))*max 1 (xi (Uz L [])) by omega]at c
 exact c
theorem kO{L:List zx}(E:ym L)(b:Plain L Ws x)(c:Plain L Ws y):icb L Ws x y=(decide (shp L Ws x<shp L Ws y)||(decide (shp L Ws x=shp L Ws y)&&decide (x.zm<y.zm))):=by
 have a:0<max 1 (xj (Uz L []))*max 1 (xi (Uz L [])):=Int.mul_pos o_ o_;have f:=dO a (aU E b) (aU E c);have g:=dO a (aU E c) (aU E b);unfold icb V2;have d:decide ((Vg L Ws x).1*(Vg L Ws y).2<(Vg L Ws y).1*(Vg L Ws x).2)=decide (shp L Ws x<shp L Ws y):=decide_eq_decide.2 f;have e:decide ((Vg L Ws y).1*(Vg L Ws x).2<(Vg L Ws x).1*(Vg L Ws y).2)=decide (shp L Ws y<shp L Ws x):=decide_eq_decide.2 g;rw[d,e]
 rcases Int.lt_trichotomy (shp L Ws x) (shp L Ws y) with h|h|h
 ·simp[h]
 ·simp[h]
 ·simp only[show ¬(shp L Ws x<shp L Ws y) by omega,show ¬(shp L Ws x=shp L Ws y) by omega,h,decide_true,decide_false];simp
structure VA (L:List zx) (Ws:List Wk) (a:List Wk):Prop where
 nd:a.Nodup
 all:∀y,y∈a↔(Vr Ws y.zb=some y/\xb L Ws y=true)
theorem VA.perm{L:List zx}(h:VA L Ws a)(hp:a.Perm b):VA L Ws b :=
 ⟨hp.nodup_iff.1 h.nd,fun y=>hp.mem_iff.symm.trans (h.all y)⟩
theorem VA.X9{L:List zx}(h:VA L Ws a)(k:u6 Ws)(n:xm Ws){v:Wk}(f:Ws[i]?=some v)(g:0<v.st)(l:aC L Ws v.zb):VA L (v.yi 0::(Ws.take i++Ws.drop (i+1))) a:=by
 refine⟨h.nd,fun y=>(h.all y).trans ?_⟩
 have j:=Uq f;rw[aI f g]
 constructor
 ·rintro⟨b,c⟩
  obtain⟨m,_,_⟩:=VG b;have hd:=n.zm y m;have d:v.zb≠y.zb:=fun e=>gg ⟨hd.1.1,hd.2.1⟩ c (e ▸ l)
  rw[if_neg d,aF f g (k.not j m d)]
  exact⟨b,c⟩
 ·rintro⟨b,c⟩
  by_cases d:v.zb=y.zb
  ·rw[if_pos d]at b
   cases b
   rw[cM f g l]at c;cases c
  ·rw[if_neg d]at b;rw[aF f g (k.not j (VG b).1 d)]at c
   exact⟨b,c⟩
theorem VA.step{L:List zx}{s c:MS}(h:VA L s.Ws a)(R:wi L x st s.Ws)(d:tu L x s=some c):VA L c.Ws a:=by
 obtain⟨i,v,k,j,b,g,e,rfl⟩:=fK d;have f:=(R.yh.st v (Uq b)).1
 exact h.X9 R.wy R.yh.yh b o_ (iO e)
theorem VA.room{L:List zx}:∀(n:Nat) (s:MS),wi L x st s.Ws->VA L s.Ws a->VA L (room L x n s).Ws a
 |0,s,R,h=>h
 |n+1,s,R,h=>by
  simp only[Proofs.YtphclnolomgjoaaGreatDoor.room]
  cases b:tu L x s with
  |none=>exact h
  |some c=>exact VA.room n c (R.step b).1 (h.step R b)
def z6 (L:List zx)(Ws:List Wk)(k:List Bs):List Wk:=match Vr Ws k with
 |some z=>if xb L Ws z then [z] else []
 |none=>[]
theorem gw{L:List zx}:y∈z6 L Ws k↔(Vr Ws k=some y/\xb L Ws y=true):=by
 unfold z6
 cases h:Vr Ws k with
 |none=>simp
 |some z =>
  simp only
  split
  ·rename_i a;simp;constructor
   ·rintro rfl;exact⟨rfl,a⟩
   ·rintro⟨e,_⟩;exact e.symm
  ·rename_i a;simp;rintro rfl;simpa using a
theorem pV(L:List zx)(Ws:List Wk)(k:List Bs):(z6 L Ws k).Nodup:=by
 unfold z6
 split
 ·split<;>simp
 ·simp
theorem VA.admit{L:List zx}(h:VA L Ws (x::rest))(k:u6 Ws)(g:Ws[i]?=some x){t:Int}(ht:0<t):VA L (Ws.set i (x.yi t)) (z6 L (Ws.set i (x.yi t)) x.zb++rest):=by
 obtain⟨l,r⟩:=(h.all x).1 (List.mem_cons_self ..);obtain⟨o,p,_⟩:=VG l;have j:=List.nodup_cons.1 h.nd;have n:∀y∈rest,x.zb≠y.zb:=fun y m e=>j.1 (by
  have:=iH l ((h.all y).1 (V3 _ m)).1 e
  rw[this];exact m)
 refine⟨?_,fun y=>?_⟩
 ·rw[List.nodup_append]
  refine⟨pV ..,j.2,fun a q b hb e=>?_⟩
  subst e
  exact n a hb (VG (gw.1 q).1).2.2.symm
 ·rw[UU,gw]
  constructor
  ·rintro(⟨c,f⟩|c)
   ·rw[(VG c).2.2];exact⟨c,f⟩
   ·have d:=n y c;obtain⟨g1,g2⟩:=(h.all y).1 (V3 _ c);rw[ZQ g ht d,cH g p ht (k.not o (VG g1).1 d)]
    exact⟨g1,g2⟩
  ·rintro⟨c,f⟩
   by_cases d:x.zb=y.zb
   ·left;rw[d];exact⟨c,f⟩
   ·right
    rw[ZQ g ht d]at c;rw[cH g p ht (k.not o (VG c).1 d)]at f
    rcases List.mem_cons.1 ((h.all y).2 ⟨c,f⟩) with rfl|h3
    ·exact absurd rfl d
    ·exact h3
theorem VA.does{L:List zx}(h:VA L s.Ws (x::rest))(I:ye s)(f:∀y∈rest,Op.bytesLess (kN y.zb) (kN x.zb)=false):
  ej L s=some (VS L x s)/\wi L x s.st s.Ws/\VA L (VS L x s).Ws (z6 L (VS L x s).Ws x.zb++rest):=by
 obtain⟨d,c⟩:=(h.all x).1 (List.mem_cons_self ..);have R:wi L x s.st s.Ws:=⟨I.yh,I.wy,d,c⟩;have m:=I.st0
 refine⟨?_,R,?_⟩
 ·obtain⟨b,hb,e⟩:=sw I.yh.yh (fun y k=>(I.yh.st y k).1) d c (fun y g j=>by
   rcases List.mem_cons.1 ((h.all y).2 ⟨g,j⟩) with rfl|h3
   ·exact Yt _
   ·exact f y h3)
  unfold ej;rw[hb]
  simp only
  rw[e]
 ·have g1:=(wi.room (yo s.Ws) ⟨s.Ws,s.zt⟩ R).1;have g2:=VA.room (yo s.Ws) ⟨s.Ws,s.zt⟩ R h;obtain⟨l,_,_⟩:=VG g1.head;obtain⟨i,a⟩:=Vh l;unfold VS
  simp only
  rw[a7 g1.yh.nums a]
  exact g2.admit g1.wy a o_
theorem VA.ends{L:List zx}(h:VA L s.Ws [])(I:ye s):ej L s=none:=by
 unfold ej;rw[sy (fun y a=>(I.yh.st y a).1) (fun y a=>by
  cases b:xb L s.Ws y with
  |false=>rfl
  |true=>exact absurd ((h.all y).2 ⟨a,b⟩) s_)]
theorem lx{l l':List Wk}(h:l.Sublist l')(b:∀x∈l',0<=x.d0/\0<=x.d1):yf l<=yf l'/\yg l<=yg l':=by
 induction h with
 |slnil=>simp[yf,yg]
 |cons a _ e =>
  have c:=e (fun x d=>b x (V3 _ d));have f:=b a (List.mem_cons_self ..)
  simp[yf,yg]at c ⊢;omega
 |cons_cons a _ e =>
  have c:=e (fun x d=>b x (V3 _ d))
  simp[yf,yg]at c ⊢;omega
theorem jH(s:Bs):xc s []=true:=by simp[xc]
theorem g5{α : Type}{p q : α -> Bool}(h:∀x,p x=true->q x=true):∀l:List α,(l.filter p).Sublist (l.filter q)
 | []=>by simp
 |a::l=>by
  rw[VW,VW];have b:=g5 h l
  cases hp:p a with
  |true=>rw[h a hp];simpa using b
  |false =>
   cases hq:q a with
   |true=>simp;exact b.trans (List.sublist_cons_self ..)
   |false=>simpa using b
theorem kk(b:xm Ws)(k:Bs):yf (Ut Ws k)<=yf (Ut Ws [])/\yg (Ut Ws k)<=yg (Ut Ws []):=by
 refine lx (g5 (fun x a=>?_) Ws) (fun x a=>?_)
 ·simp only[Bool.and_eq_true]at a ⊢;exact⟨a.1,jH _⟩
 ·have:=b.zm x (Vu.1 a).1;omega
def ez (L:List zx):Prop:=∃r∈L,r.zb=[]/\r.b0=0/\r.b1=0
theorem gE{L:List zx}(E:ym L)(c:ez L)(d:xm Ws)(h:Vm L Ws x=true):Plain L Ws x:=by
 obtain⟨r,g,f,b,a⟩:=c;unfold Vm at h;rw[List.all_eq_true]at h
 have:=h r g
 unfold wj sh0 sh1 at this;rw[f,b,a]at this;simp only[show kN []=[] from rfl,jH,Bool.true_and,Bool.not_eq_true',Bool.or_eq_false_iff,decide_eq_false_iff_not]at this;have j:=kk d (kN x.zb);have i:=Yl E (kN x.zb)
 exact⟨fun e=>by omega,fun e=>by omega⟩
theorem my(a:Ws[i]?=some x)(c:x.st=0){t:Int}(ht:0<t){k:Bs}(b:xc (kN x.zb) k=false):yf (Ut (Ws.set i (x.yi t)) k)=yf (Ut Ws k)/\yg (Ut (Ws.set i (x.yi t)) k)=yg (Ut Ws k):=by
 have:=dE a c ht k
 rw[b]at this
 simpa using this
theorem fz{L:List zx}(a:Ws[i]?=some x)(c:x.st=0){t:Int}(ht:0<t)(b:xc (kN x.zb) (kN y.zb)=false):shp L (Ws.set i (x.yi t)) y=shp L Ws y:=by
 have:=my a c ht b
 unfold shp;rw[this.1,this.2]
theorem oP{L:List zx}(f:xm Ws)(c:Ws[i]?=some x)(j:x.st=0){t:Int}(ht:0<t)(h:Vm L (Ws.set i (x.yi t)) y=true):Vm L Ws y=true:=by
 unfold Vm at *;rw[List.all_eq_true]at *;intro e g;have a:=h e g;have b:=dE c j ht (kN e.zb);have h3:=f.zm x (Uq c);unfold wj sh0 sh1 at *
 cases d:xc (kN y.zb) (kN e.zb)
 ·rfl
 ·rw[d]at a;simp only[Bool.true_and,Bool.not_eq_true',Bool.or_eq_false_iff,decide_eq_false_iff_not]at a ⊢;rw[b.1,b.2]at a
  constructor
  ·have:=a.1
   split at this<;>omega
  ·have:=a.2
   split at this<;>omega
structure V8 (L:List zx) (Ws:List Wk) (a:List (Wk×Int)):Prop where
 nd:(a.map fun p=>p.1.zb).Nodup
 hd:∀p∈a,Vr Ws p.1.zb=some p.1/\p.2=shp L Ws p.1
 all:∀y,Vr Ws y.zb=some y->Vm L Ws y=true->(y,shp L Ws y)∈a
theorem V8.perm{L:List zx}{a b:List (Wk×Int)}(h:V8 L Ws a)(hp:a.Perm b):V8 L Ws b :=
 ⟨(hp.map _).nodup_iff.1 h.nd,fun p e=>h.hd p (hp.mem_iff.2 e),fun y c d=>hp.mem_iff.1 (h.all y c d)⟩
theorem V8.drop{L:List zx}{p:Wk×Int}{rest:List (Wk×Int)}(h:V8 L Ws (p::rest))(b:Vm L Ws p.1=false):V8 L Ws rest:=by
 refine⟨(List.nodup_cons.1 h.nd).2,fun q hq=>h.hd q (V3 _ hq),fun y c a=>?_⟩
 rcases List.mem_cons.1 (h.all y c a) with e|h3
 ·rw[<-e]at b;simp only at b;rw[b]at a;cases a
 ·exact h3
def XB (L:List zx)(Ws:List Wk)(k:List Bs):List (Wk×Int):=match Vr Ws k with
 |some z=>[(z,shp L Ws z)]
 |none=>[]
def before(a b:Wk×Int):Bool:=if a.2≠b.2 then decide (a.2<b.2) else decide (a.1.zm<b.1.zm)
theorem du(a b:Wk×Int):before a b=(decide (a.2<b.2)||(decide (a.2=b.2)&&decide (a.1.zm<b.1.zm))):=by
 unfold before
 by_cases h:a.2=b.2
 ·simp[h]
 ·simp[h]
theorem V8.does{L:List zx}(E:ym L)(t:ez L){rest:List (Wk×Int)}(h:V8 L s.Ws ((x,sx)::rest))(I:ye s)(u:Vm L s.Ws x=true)(B:∀q∈rest,before q (x,sx)=false):
  ∃b,s.Ws[b]?=some x/\x.st=0/\VL L s=some (Xj b x s)/\V8 L (Xj b x s).Ws (XB L (Xj b x s).Ws x.zb++rest):=by
 obtain⟨l,w⟩:=h.hd _ (List.mem_cons_self ..)
 simp only at l w
 obtain⟨A,k,_⟩:=VG l;have M:=I.st0;have H:=gE E t I.yh.yh u;obtain⟨b,hb,d⟩:=og E I.yh.nums (fun y G=>(I.yh.st y G).1) l u (fun y f i=>by
  rw[kO E (gE E t I.yh.yh i) H]
  rcases List.mem_cons.1 (h.all y f i) with e|h3
  ·cases e;simp
  ·have:=B _ h3
   rw[du]at this
   simp only at this
   rw[w]at this
   exact this)
 refine⟨b,d,k,?_,?_⟩
 ·unfold VL;rw[hb]
  simp only
  rw[d]
 ·have r:=List.nodup_cons.1 h.nd;have n:∀q∈rest,x.zb≠q.1.zb:=fun q hq e=>r.1 (by
   show x.zb∈rest.map fun p=>p.1.zb
   rw[e];exact UC.2 ⟨q,hq,rfl⟩)
  have ht:0<s.st+1:=o_;unfold Xj
  simp only
  obtain⟨g,o⟩:∃g,g=s.Ws.set b (x.yi (s.st+1)):=⟨_,rfl⟩;rw[<-o];have v:∀q∈XB L g x.zb,Vr g x.zb=some q.1/\q.1.zb=x.zb/\q.2=shp L g q.1:=by
   intro q hq;unfold XB at hq
   cases m:Vr g x.zb with
   |none=>rw[m]at hq;cases hq
   |some z =>
    rw[m]at hq
    simp at hq
    subst hq
    exact⟨rfl,(VG m).2.2,rfl⟩
  refine⟨?_,fun q hq=>?_,fun y f i=>?_⟩
  ·rw[List.map_append,List.nodup_append]
   refine⟨?_,r.2,fun a C c D e=>?_⟩
   ·unfold XB
    split<;>simp
   ·obtain⟨q,hq,rfl⟩:=UC.1 C;obtain⟨J,K,rfl⟩:=UC.1 D;rw[(v q hq).2.1]at e
    exact n J K e
  ·rcases UU.1 hq with hq|hq
   ·obtain⟨g1,g2,g3⟩:=v q hq;rw[g2];exact⟨g1,g3⟩
   ·obtain⟨g1,g2⟩:=h.hd q (V3 _ hq);rw[o,ZQ d ht (n q hq),fz d k ht (I.wy.not A (VG g1).1 (n q hq))]
    exact⟨g1,g2⟩
  ·rw[UU]
   by_cases j:x.zb=y.zb
   ·left
    rw[j];unfold XB;rw[f]
    simp
   ·right
    rw[o]at f i ⊢;rw[ZQ d ht j]at f;have F:=h.all y f (oP I.yh.yh d k ht i);rw[fz d k ht (I.wy.not A (VG f).1 j)]
    rcases List.mem_cons.1 F with e|h3
    ·cases e;exact absurd rfl j
    ·exact h3
theorem V8.ends{L:List zx}(h:V8 L s.Ws [])(I:ye s):VL L s=none:=by
 unfold VL;rw[oh (fun y a=>(I.yh.st y a).1) (fun y a=>by
  cases b:Vm L s.Ws y with
  |false=>rfl
  |true=>exact absurd (h.all y a b) s_)]
theorem nj(a b:Wk×Int)(h:before a b=true):before b a=false:=by
 rw[du]at *
 simp at *
 omega
theorem mI(a b c:Wk×Int)(d:before a b=false)(e:before b c=false):before a c=false:=by
 rw[du]at *
 simp at *
 omega
end
section
open Go.RowKit Go.Shelf
variable {w:World}{bt rr:Nat}{va:Value}{l:List Pw}{p:Pw}
attribute [local go_sem] Oper.semAt_some
def vu (za:List zc)(l:List Pw)(m:zc)(a:Int):Int:=xe (yf (pun l m.zb)+a) (xt za m.zb+m.b0)
def vt (za:List zc)(l:List Pw)(m:zc)(a:Int):Int:=xe (yg (pun l m.zb)+a) (xr za m.zb+m.b1)
def okAt (za:List zc)(l:List Pw)(x:Wk)(m:zc):Bool:=(vu za l m x.d0 == 0)&&(vt za l m x.d1 == 0)
theorem q0{za:List zc}(T:zr za)(La:U_ za)(h:Rd w za bt rr va l)(hp:vz w za p){n:zc}(J:n∈za)(Pa:n.ze=p.q):
  Calls prog 180 #[vP rr,zi p.ze] w fun e w'=>e=vR (.bool ((ups za 4 n).all (okAt za l p.x)))/\Bw w w':=by
 have Ga:∀k:Nat,Fence.wide.depth.isSome=true->1<=k:=fun k h=>by simp[Fence.wide]at h
 have I:∀W,(∀n∈za,UA W n)->_:=fun W a=>eH T J W a
 have oa:=Z9 T 4 n J (T.ok n J).2;have ab:=hp.zl.lt;have da:=fun W (a:Bw w W)=>(hp.below a).cells.2
 have ra:=fun W (a:Bw w W) m (Na:m∈za)=>hE T La (h.below a) Na p.x.d0 p.x.d1 hp.zm.1 hp.zm.2
 obtain⟨Va,_,_⟩:=da w (Below.refl _ _);rw[Pa]at I;generalize cb:ups za 4 n=X at I oa ⊢
 refine(UK (n:=3)).1 ?_
 refine callsIn_of_wp_marks func180 rfl trivial ?_ rfl
 unfold zi at I ⊢;have Xa:¬(p.ze=w.heap.size):=o_;have Ya:¬(p.ze=w.heap.size+1):=o_;have Za:¬(p.ze=w.heap.size+1+1):=o_;simp only[ntmps180,zC,Nat.reduceAdd,Nat.reduceSub];have F:Bw w (((w.alloc (.cells #[vP rr] 186)).alloc (.cells #[vP p.ze] 95)).alloc (.cells #[.bool false] 4)):=Vy;have ga:zz (((w.alloc (.cells #[vP rr] 186)).alloc (.cells #[vP p.ze] 95)).alloc (.cells #[.bool false] 4)) w.heap.size 186 (vP rr):=((zz.new w 186 _).alloc _).alloc _;have V:zz (((w.alloc (.cells #[vP rr] 186)).alloc (.cells #[vP p.ze] 95)).alloc (.cells #[.bool false] 4)) (w.heap.size+1) 95 (vP p.ze):=by
  have:=(zz.new (w.alloc (.cells #[vP rr] 186)) 95 (vP p.ze)).alloc (.cells #[.bool false] 4)
  rwa[Vv]at this
 have ha:zz (((w.alloc (.cells #[vP rr] 186)).alloc (.cells #[vP p.ze] 95)).alloc (.cells #[.bool false] 4)) (w.heap.size+1+1) 4 (.bool false):=by
  have:=zz.new ((w.alloc (.cells #[vP rr] 186)).alloc (.cells #[vP p.ze] 95)) 4 (.bool false)
  rwa[Vv,Vv]at this
 have Z:(((w.alloc (.cells #[vP rr] 186)).alloc (.cells #[vP p.ze] 95)).alloc (.cells #[.bool false] 4)).heap.size=w.heap.size+3:=s_
 gi_upto_region 1 with fail
 generalize (((w.alloc (.cells #[vP rr] 186)).alloc (.cells #[vP p.ze] 95)).alloc (.cells #[.bool false] 4))=Ca at F ga V ha Z ⊢;obtain⟨ia,_,_⟩:=da _ F;have H:=V.cell;clear Va
 gi_wp2_with ((first|refine⟨trivial,Ga _,?_⟩|refine⟨trivial,?_⟩);gi_at_call 191;refine(UK.2 (I _ (fun n J=>(h.yj n J).below F))).mono ?_;rintro e W ⟨rfl,rfl,M⟩)
 obtain⟨W,a⟩:∃W,W=Ca.alloc (.cells #[vP p.q] 97):=⟨_,rfl⟩;have Wa:W.heap.size=w.heap.size+4:=by rw[a];simp[Z]
 have G:zz W w.heap.size 186 (vP rr):=by rw[a];exact ga.alloc _
 have Fa:zz W (w.heap.size+1) 95 (vP p.ze):=by rw[a];exact V.alloc _
 have Ea:zz W (w.heap.size+1+1) 4 (.bool false):=by rw[a];exact ha.alloc _
 have Ia:Bw w W:=by rw[a];exact F.alloc F.size _
 rw[Z]at M;simp only[<-a]at M ⊢;have hq:=M (fun b=>b=w.heap.size+1+1\/W.heap.size<=b) (fun k s=>⟨fun e=>by have:=(h.yj k s).lt;omega,fun g Ma e=>by have:=((h.yj k s).row.lt g Ma).2;omega⟩);clear M I a ga V ha H ia;have z:∀b,b<W.heap.size->¬(False\/W.heap.size<=b):=fun b hb e=>by rcases e with e|e;exact e;omega
 refine XQ (T:=fun b=>b=w.heap.size+1+1) (S:=fun _=>False) rfl (enters_of func223 k_ rfl) hq (Below.refl _ _) rfl (fun b e=>e.elim) (fun b e=>by omega)
  (fun pre A=>pre.all (okAt za l p.x)=true/\zz A w.heap.size 186 (vP rr)/\zz A (w.heap.size+1) 95 (vP p.ze)/\zz A (w.heap.size+1+1) 4 (.bool false)/\Bw w A)
  (fun c pre A=>c=.ret/\pre.all (okAt za l p.x)=false/\zz A (w.heap.size+1+1) 4 (.bool false)/\Bw w A)
  (fun pre A B f s=>⟨f.1,f.2.1.zf s (z _ o_),f.2.2.1.zf s (z _ o_),f.2.2.2.1.zf s (z _ o_),f.2.2.2.2.trans (s.ya f.2.2.2.2.size (fun b Da=>z b o_))⟩)
  (fun c pre A B f s=>⟨f.1,f.2.1,f.2.2.1.zf s (z _ o_),f.2.2.2.trans (s.ya f.2.2.2.size (fun b Da=>z b o_))⟩)
  ⟨rfl,G,Fa,Ea,Ia⟩
  (fun x=>{tmps:=#[vP rr,vP p.ze,vP w.heap.size,vP (w.heap.size+1),vP (w.heap.size+1+1),vP x.ze,vP p.ze,vP p.ze,.pointer (some (vA p.ze 1)),vP p.q,
   .func (.func 223) #[] #[vP (w.heap.size+3)],vP x.ze,undef,undef,undef,undef,undef,undef,undef,undef,undef],defers:=[]}) ?assign ?body ?done ?stop
 case assign =>
  intro l x W K P
  gi_wp2
  exact P
 case body =>
  rintro l2 pre x u ⟨L,Q,N,o,t⟩ bb Y
  have Ja:=((oa x).1 (Y.subset s_)).1;have c2:=Q.cell;have H:=N.cell;have sa:=o.cell;have ta:=o.frozen;obtain⟨ia,ja,ka⟩:=da _ t;have Ba:=fun W a=>ra W a x Ja
  have O:okAt za l p.x x=((vu za l x p.x.d0 == 0)&&(vt za l x p.x.d1 == 0)):=rfl;have ba:=fun W=>cr (vu za l x p.x.d0) (vt za l x p.x.d1) 0 0 W
  have U:∀W,Bw w W->Calls prog 216 #[vP rr,vP x.ze,.agg #[vI p.x.d0,vI p.x.d1]] W fun e w'=>e=vR (.agg #[vI (vu za l x p.x.d0),vI (vt za l x p.x.d1)])/\Bw W w':=Ba
  generalize vu za l x p.x.d0=s0 at O ba U;generalize vt za l x p.x.d1=ea at O ba U;have pa:Hid (pre.all (okAt za l p.x)=true):=L;have ca:Hid (okAt za l p.x x=((s0 == 0)&&(ea == 0))):=O;have gb:prog.follows .mixedOrders=true:=k_;clear L O Ba ra hq
  gi_upto_region 3 with fail
  refine YA (fun W'=>W'.cell? (vA w.heap.size 0)=some (vP rr)/\W'.cell? (vA (w.heap.size+1) 0)=some (vP p.ze)/\W'.cell? (vA p.ze 2)=some (vI p.x.d0)/\W'.cell? (vA p.ze 3)=some (vI p.x.d1)/\Bw u W') k_ k_ ⟨c2,H,ja,ka,cl⟩ (fun r=>?_)
  refine wpAnyH_take (i:=0) (v:=vP rr) rfl k_ k_ k_ (fun _ _ _ h=>absurd h.1 e_) (Or.inl ⟨r_,?_⟩) r ?_
  ·intro w' d;obtain⟨s2,C,D,E,_⟩:=d
   go_simp
  simp only[Ux,Uv,Uw,Act.put,UF,UE,UD]
  refine wpAnyH_take (i:=1) (v:=vP x.ze) rfl k_ k_ k_ (fun _ _ _ h=>absurd h.1 e_) (Or.inl ⟨r_,?_⟩) r ?_
  ·intro w' d;obtain⟨s2,C,D,E,_⟩:=d
   go_simp
  simp only[Ux,Uv,Uw,Act.put,UF,UE,UD]
  refine wpAnyH_take (i:=2) (v:=vP p.ze) rfl k_ k_ k_ (fun _ _ _ h=>absurd h.1 e_) (Or.inl ⟨r_,?_⟩) r ?_
  ·intro w' d;obtain⟨s2,C,D,E,_⟩:=d
   go_simp
  simp only[Ux,Uv,Uw,Act.put,UF,UE,UD]
  refine wpAnyH_take (i:=3) (v:=vP p.ze) rfl k_ k_ k_ (fun _ _ _ h=>absurd h.1 e_) (Or.inl ⟨r_,?_⟩) r ?_
  ·intro w' d;obtain⟨s2,C,D,E,_⟩:=d
   go_simp
  simp only[Ux,Uv,Uw,Act.put,UF,UE,UD]
  refine wpAnyH_take (i:=4) (v:=.pointer (some (vA p.ze 2))) rfl k_ k_ k_ (fun _ _ _ h=>absurd h.1 e_) (Or.inl ⟨r_,?_⟩) r ?_
  ·intro w' d;obtain⟨s2,C,D,E,_⟩:=d
   go_simp
  simp only[Ux,Uv,Uw,Act.put,UF,UE,UD]
  refine wpAnyH_take (i:=5) (v:=.agg #[vI p.x.d0,vI p.x.d1]) rfl k_ k_ k_ (fun _ _ _ h=>absurd h.1 e_) (Or.inl ⟨r_,?_⟩) r ?_
  ·intro w' d;obtain⟨s2,C,D,E,_⟩:=d
   go_simp
  simp only[Ux,Uv,Uw,Act.put,UF,UE,UD]
  refine wpAnyH_take (i:=7) (v:=.agg #[vI 0,vI 0]) rfl k_ k_ k_ (fun _ _ _ h=>absurd h.1 e_) (Or.inl ⟨r_,?_⟩) r ?_
  ·intro w' d;obtain⟨s2,C,D,E,_⟩:=d
   go_simp
  simp only[Ux,Uv,Uw,Act.put,UF,UE,UD]
  refine wpAnyH_ready (rs:=[6]) k_ s_ ?_
  refine AllReadyH.cons rfl (fun K P=>?_) AllReadyH.nil
  rw[if_pos r_]
  try simp only[Ux,Uv,Uw]
  go_simp
  refine(U _ (s5 t cl)).mono ?_
  rintro e ma ⟨rfl,Ka⟩
  have j:Bw u ma:=s5 (show Bw u u.drew by exact cl) Ka;have qa:=Q.lt;have Aa:=N.lt;have la:=(hp.below t).zl.lt
  refine P.out _ _ ⟨(j.cell (p:=vA w.heap.size 0) qa).trans c2,(j.cell (p:=vA (w.heap.size+1) 0) Aa).trans H,(j.cell (p:=vA p.ze 2) la).trans ja,(j.cell (p:=vA p.ze 3) la).trans ka,j⟩ (fun r=>?_)
  clear P
  try simp only[Ux,Uv,Uw,Act.put,UF,UE,UD]
  refine wpAnyH_take (i:=8) (v:=.bool (!(s0 == 0&&ea == 0))) rfl k_ k_ k_ (fun _ _ _ h=>absurd h.1 e_) (Or.inl ⟨r_,?_⟩) r ?_
  ·intro w' d
   go_simp
  try simp only[Ux,Uv,Uw,Act.put,UF,UE,UD]
  refine wpAnyH_done k_ ⟨rfl,?_⟩ _
  have na:Bw w ma:=s5 t j;have Ra:=Q.below j qa;have Sa:=N.below j Aa;have R:=o.below j o.lt;have db:=R.cell;have eb:=R.frozen;clear sa ta c2 H ia ja ka r ba U;generalize Ta:(s0 == 0&&ea == 0)=Ha at ca;clear Ta
  cases Ha
  ·gi_wp2_with fail
   refine⟨((zd.new (T:=fun b=>b=w.heap.size+1+1) j).setCell (p:=vA (w.heap.size+1+1) 0) rfl _),rfl,?_,R.set _,na.setCell t_ _⟩
   rw[List.all_append,pa.out]
   simp[ca.out]
  ·gi_wp2_with fail
   refine⟨zd.new j,?_,Ra,Sa,R,na⟩
   rw[List.all_append,pa.out]
   simp[ca.out]
 case done =>
  rintro A ⟨L,Q,N,o,t⟩ aa
  have sa:=o.cell;have ta:=o.frozen
  gi_wp2
  have Qa:(A.setCell (vA (w.heap.size+1+1) 0) (.bool true)).heap[W.heap.size]?=some (.deferred (some [])):=(Below.heap_setCell _ _ _ _ t_).trans aa;have G:=((o.set (.bool true)).put W.heap.size (.deferred none) o_).cell
  refine⟨s_,.inl ⟨_,_,rfl,run_takeDeferred Qa,?_⟩⟩
  exact⟨.bool true,by simp[results,results180,go_sem,G],VP L.symm,Wn (t.setCell t_ _) _ _ o_⟩
 case stop =>
  rintro c pre A Y ⟨rfl,ua,o,t⟩ aa
  gi_wp2
  have G:=(o.put W.heap.size (.deferred none) o_).cell
  refine⟨s_,.inl ⟨_,_,rfl,run_takeDeferred aa,?_⟩⟩
  refine⟨.bool false,by simp[results,results180,go_sem,G],VP ?_,Wn t _ _ o_⟩
  symm
  rw[List.all_eq_false]at ua ⊢;obtain⟨y,Oa,Ua⟩:=ua
  exact⟨y,Y.subset Oa,Ua⟩
end
section
open Go.RowKit
variable {k:List Bs}{Ws:List Wk}{ws zh:List Pw}{x:Wk}{a:Int}{p:Pw}
theorem ZY{a:List Bs}(c:UL k=true)(b:UL a=true):xc (kN k) (kN a)=a.isPrefixOf k:=by
 rw[Bool.eq_iff_iff,ZI c b,WK]
theorem hJ(k:List Bs)(a:UL k=true):∀l:List zc,(∀n∈l,UL n.zb=true/\(n.zj=false->n.n0=0/\n.n1=0)) ->
  xj (Uz (l.map zc.zq) (kN k))=xw (under l k)/\xi (Uz (l.map zc.zq) (kN k))=xv (under l k)
 | [],_=>⟨rfl,rfl⟩
 |n::l,h=>by
  obtain⟨i0,i1⟩:=hJ k a l (fun m g=>h m (by simp[g]));obtain⟨d,e⟩:=h n s_;have hp:=ZY d a;unfold Uz under xj xi xw xv at *;rw[List.map_cons,VW,VW];have b:(zc.zq n).zj=n.zj:=rfl;have c:(zc.zq n).zb=n.zb:=rfl;rw[b,c,hp]
  cases f:n.zj
  ·obtain⟨i,j⟩:=e f
   cases k.isPrefixOf n.zb
   ·simpa using ⟨i0,i1⟩
   ·simp only[Bool.false_and,Bool.false_eq_true,if_false,if_true,List.map_cons,List.sum_cons,i,j,Int.zero_add];exact⟨i0,i1⟩
  ·cases k.isPrefixOf n.zb
   ·simpa using ⟨i0,i1⟩
   ·simp only[Bool.and_self,if_true,List.map_cons,List.sum_cons]
    exact⟨by rw[i0];rfl,by rw[i1];rfl⟩
theorem zr.ents{za:List zc}(T:zr za):ym (za.map zc.zq):=by
 refine⟨fun e b=>?_,fun e b=>?_,by simpa using T.len,?_⟩
 ·obtain⟨n,a,rfl⟩:=UC.1 b;exact T.ok n a
 ·obtain⟨n,a,rfl⟩:=UC.1 b;exact⟨(T.zm n a).1,(T.zm n a).2.1⟩
 ·obtain⟨r,c,_⟩:=T.root
  have:=(Uy.1 c).1
  simpa using this
theorem zr.uj{za:List zc}(T:zr za):∀a∈za.map zc.zq,∀b∈za.map zc.zq,a.zb=b.zb->a=b:=by
 intro a c b hb e;obtain⟨n,f,rfl⟩:=UC.1 c;obtain⟨m,d,rfl⟩:=UC.1 hb;rw[T.inj n f m d e]
structure yl (za:List zc) (Ws:List Wk) (ws zh:List Pw):Prop where
 w:ws.map (·.x)=Ws.filter (fun x=>x.st == 0)
 a:∃az:List Wk,zh.map (·.x)=az.map (·.yi 0)/\az.Perm (Ws.filter fun x=>decide (0<x.st))/\az.Pairwise (fun x y=>x.st<y.st)
 zj:∀p∈ws++zh,∃n∈za,n.ze=p.q/\n.zb=p.x.zb
theorem lp(l:List Wk):yf (l.map (·.yi 0))=yf l:=by
 unfold yf;rw[List.map_map];rfl
theorem lq(l:List Wk):yg (l.map (·.yi 0))=yg l:=by
 unfold yg;rw[List.map_map];rfl
theorem yl.j0{za:List zc}(R:yl za Ws ws zh)(e:xm Ws)(f:UL k=true):∃l:List Wk,pun zh k=l.map (·.yi 0)/\l.Perm (Ut Ws (kN k)):=by
 obtain⟨b,c,d,_⟩:=R.a
 refine⟨b.filter fun x=>k.isPrefixOf x.zb,?_,?_⟩
 ·unfold pun;rw[c,List.filter_map]
  rfl
 ·refine(d.filter _).trans ?_
  rw[List.filter_filter];unfold Ut
  refine List.Perm.of_eq (List.filter_congr fun x g=>?_)
  rw[ZY (e.ok x g).1 f,Bool.and_comm]
theorem yl.use{za:List zc}(R:yl za Ws ws zh)(c:xm Ws)(d:UL k=true):yf (pun zh k)=yf (Ut Ws (kN k))/\yg (pun zh k)=yg (Ut Ws (kN k)):=by
 obtain⟨l,b,a⟩:=R.j0 c d;rw[b,lp,lq]
 exact⟨bQ a,bR a⟩
theorem Xz{za:List zc}(T:zr za)(d:UL k=true):xt za k=xj (Uz (za.map zc.zq) (kN k))/\xr za k=xi (Uz (za.map zc.zq) (kN k)):=by
 obtain⟨b,c⟩:=hJ k d za (fun m a=>⟨(T.ok m a).1,(T.zm m a).2.2.2.2⟩)
 exact⟨b.symm,c.symm⟩
def ub (za:List zc)(l:List Pw)(x:Wk):Bool:=(xe (yf (pun l x.zb)+x.d0) (xt za x.zb) == 0)&&(xe (yg (pun l x.zb)+x.d1) (xr za x.zb) == 0)
theorem Z5(a c:Int):(xe a c == 0)=decide (a<=c):=by
 unfold xe
 by_cases h:a<=c
 ·rw[decide_eq_true h,beq_iff_eq];omega
 ·rw[decide_eq_false h,beq_eq_false_iff_ne];omega
theorem yl.own{za:List zc}(R:yl za Ws ws zh)(T:zr za)(b:xm Ws)(a:UL x.zb=true):ub za zh x=xb (za.map zc.zq) Ws x:=by
 unfold ub xb;rw[Z5,Z5,(R.use b a).1,(R.use b a).2,(Xz T a).1,(Xz T a).2]
theorem yl.short{za:List zc}(R:yl za Ws ws zh)(T:zr za)(b:xm Ws){m:zc}(f:m∈za)(d0 d1:Int):
  sh0 (za.map zc.zq) Ws m.zq d0=!(vu za zh m d0 == 0)/\sh1 (za.map zc.zq) Ws m.zq d1=!(vt za zh m d1 == 0):=by
 have a:=(T.ok m f).1;have c:m.zq.zb=m.zb:=rfl;have d:m.zq.b0=m.b0:=rfl;have e:m.zq.b1=m.b1:=rfl;unfold sh0 sh1 vu vt;rw[Z5,Z5,(R.use b a).1,(R.use b a).2,(Xz T a).1,(Xz T a).2,c,d,e]
 constructor
 ·rw[<-decide_not];exact decide_eq_decide.2 o_
 ·rw[<-decide_not];exact decide_eq_decide.2 o_
theorem yl.fits{za:List zc}(R:yl za Ws ws zh)(T:zr za)(g:xm Ws){n:zc}(c:n∈za)(b:n.zb=x.zb):
  (ups za 4 n).all (okAt za zh x)=Vm (za.map zc.zq) Ws x:=by
 have d:=Z9 T 4 n c (T.ok n c).2;have i:=(T.ok n c).1;rw[b]at i;rw[Bool.eq_iff_iff];unfold Vm;rw[List.all_eq_true,List.all_eq_true];have zb:∀m∈za,(wj (za.map zc.zq) Ws x m.zq=(m.zb.isPrefixOf x.zb&&!okAt za zh x m)):=fun m a=>by
  unfold wj okAt;rw[(R.short T g a x.d0 x.d1).1,(R.short T g a x.d0 x.d1).2,show m.zq.zb=m.zb from rfl,ZY i (T.ok m a).1,Bool.not_and]
 constructor
 ·intro h e k;obtain⟨m,a,rfl⟩:=UC.1 k;rw[zb m a]
  cases hp:m.zb.isPrefixOf x.zb with
  |false=>rfl
  |true =>
   have:=h m ((d m).2 ⟨a,by rw[b];exact WK.1 hp⟩)
   simp[this]
 ·intro h m a;obtain⟨f,j⟩:=(d m).1 a
  have:=h m.zq (UC.2 ⟨m,f,rfl⟩)
  rw[zb m f,WK.2 (by rw[<-b];exact j)]at this
  simpa using this
def Xx (za:List zc)(l:List Pw)(x v:Wk)(m:zc):Bool :=
 m.zb.isPrefixOf v.zb&&!((min (min (vu za l m x.d0) (xe (yf (pun l v.zb)) (xt za v.zb))) v.d0 == 0)&&(min (min (vt za l m x.d1) (xe (yg (pun l v.zb)) (xr za v.zb))) v.d1 == 0))
theorem hR{b c:Int}(d:0<=a)(hb:0<=b)(e:0<=c):(!(min (min a b) c == 0))=(!(a == 0)&&(!(b == 0)&&decide (c>0))):=by
 rw[Bool.eq_iff_iff];simp only[Bool.not_eq_true',Bool.and_eq_true,beq_eq_false_iff_ne,decide_eq_true_eq]
 omega
theorem b9(a c:Int):0<=xe a c:=by unfold xe;omega
theorem eV(a c:Int):(!(xe a c == 0))=decide (a>c):=by
 rw[Z5,<- decide_not];exact decide_eq_decide.2 o_
theorem yl.way{za:List zc}(R:yl za Ws ws zh)(T:zr za)(c:xm Ws){v:Wk}{n:zc}(f:n∈za)(d:n.zb=x.zb)(b:UL v.zb=true)(hd:0<=v.d0/\0<=v.d1):
  (ups za 4 n).any (Xx za zh x v)=way (za.map zc.zq) Ws x v:=by
 have g:=Z9 T 4 n f (T.ok n f).2;have j:=(T.ok n f).1;rw[d]at j;have zb:∀m∈za,(wu (za.map zc.zq) Ws x v m.zq||wo (za.map zc.zq) Ws x v m.zq)=(m.zb.isPrefixOf x.zb&&Xx za zh x v m):=fun m a=>by
  unfold wu wo Xx;rw[(R.short T c a x.d0 x.d1).1,(R.short T c a x.d0 x.d1).2,show m.zq.zb=m.zb from rfl,ZY j (T.ok m a).1,ZY b (T.ok m a).1];rw[Bool.not_and,hR (show 0<=vu za zh m x.d0 from b9 _ _) (b9 _ _) hd.1,hR (show 0<=vt za zh m x.d1 from b9 _ _) (b9 _ _) hd.2,eV,eV,(R.use c b).1,(R.use c b).2,(Xz T b).1,(Xz T b).2]
  cases m.zb.isPrefixOf x.zb<;>cases m.zb.isPrefixOf v.zb<;>simp
 rw[Bool.eq_iff_iff];unfold Proofs.YtphclnolomgjoaaGreatDoor.way;rw[W7,W7]
 constructor
 ·rintro⟨m,a,h⟩
  obtain⟨i,k⟩:=(g m).1 a
  refine⟨m.zq,UC.2 ⟨m,i,rfl⟩,?_⟩
  rw[zb m i,h,WK.2 (by rw[<-d];exact k)]
  rfl
 ·rintro⟨e,l,h⟩
  obtain⟨m,a,rfl⟩:=UC.1 l;rw[zb m a,Bool.and_eq_true]at h
  exact⟨m,(g m).2 ⟨a,by rw[d];exact WK.1 h.1⟩,h.2⟩
theorem py(l:List Pw)(f:Wk->Bool):(l.find? fun p=>f p.x).map (·.x)=(l.map (·.x)).find? f:=by
 induction l with
 |nil=>rfl
 |cons p l a =>
  simp only[List.map_cons,List.find?_cons]
  cases f p.x<;>simp[a]
theorem yl.aD{za:List zc}(R:yl za Ws ws zh)(T:zr za)(f:U_ za){n:zc}(b:n∈za)(hp:p∈ws++zh):(p.q == n.ze)=decide (p.x.zb=n.zb):=by
 obtain⟨m,a,c,d⟩:=R.zj p hp;rw[<-c,<- d]
 by_cases h:m.ze=n.ze
 ·have:=f m a n b h
  subst this
  simp
 ·rw[beq_eq_false_iff_ne.2 h,eq_comm,decide_eq_false_iff_not]
  exact fun e=>h (by rw[T.inj m a n b e])
theorem find_congr{α : Type}{f g : α -> Bool}:∀ {l:List α},(∀x∈l,f x=g x)->l.find? f=l.find? g
 | [],_=>rfl
 |a::l,h=>by
  simp only[List.find?_cons];rw[h a s_,find_congr (fun x b=>h x (by simp[b]))]
theorem yl.head{za:List zc}(R:yl za Ws ws zh)(T:zr za)(a:U_ za){n:zc}(b:n∈za):(ws.find? fun p=>p.q == n.ze).map (·.x)=Vr Ws n.zb:=by
 rw[find_congr (g:=fun p=>decide (p.x.zb=n.zb)) (fun p hp=>R.aD T a b (UM _ hp)),py ws (fun x=>decide (x.zb=n.zb)),R.w,List.find?_filter];unfold Vr
 refine find_congr fun y _=>?_
 cases c:y.st == 0<;>simp
theorem qL(a b c d e f:Int)(w:World){sb:Nat}(i:zg w sb 35 #[vI c,vI d,vI e,vI f])(q:0<=a)(s:a<=100000)(h3:0<=b)(t:b<=100000)(u:0<=c)(x:c<=100000)(y:0<=d)(z:d<=100000)(g1:0<=e)(g2:e<=100000)(g3:0<=f)(g4:f<=100000):
  Calls prog 240 #[.agg #[vI a,vI b],vS sb 2 2] w fun r w'=>r=vR (.agg #[vI (min (min a c) e),vI (min (min b d) f)])/\Bw w w':=by
 have c0:=i.cell 0;have c1:=i.cell 1;have c2:=i.cell 2;have l:=i.cell 3;simp only[s7]at c0 c1 c2 l;have k:=i.lt;have n1:¬(sb=w.heap.size):=o_;have n2:¬(sb=w.heap.size+1):=o_;have C:¬(sb=w.heap.size+1+1):=o_;have m1:¬(w.heap.size=sb):=o_;have A:¬(w.heap.size+1=sb):=o_;have B:¬(w.heap.size+1+1=sb):=o_;have j:∀(g h:Value),((((w.alloc (.cells #[g,h] 35)).alloc (.cells #[vI 0,vI 0] 35)).alloc (.cells #[vI c,vI d] 35)).drew.drew).cell? (vA sb 2)=some (vI e)/\((((w.alloc (.cells #[g,h] 35)).alloc (.cells #[vI 0,vI 0] 35)).alloc (.cells #[vI c,vI d] 35)).drew.drew).cell? (vA sb 3)=some (vI f):=fun g h=>by
  have m:Bw w ((((w.alloc (.cells #[g,h] 35)).alloc (.cells #[vI 0,vI 0] 35)).alloc (.cells #[vI c,vI d] 35)).drew.drew):=cl
  exact⟨(m.cell (p:=vA sb 2) k).trans c2,(m.cell (p:=vA sb 3) k).trans l⟩
 have n:=fun g h=>(j g h).1
 have o:=fun g h=>(j g h).2
 go_enter func240,ntmps240
 go_wp2
 refine wp_loop_rounds 3 ?_
 rw[rounds_succ];go_wp2
 refine wp_loop_rounds 3 ?_
 rw[rounds_succ];go_wp2
 go_region
 all_goals go_wp2
 all_goals rw[rounds_succ]
 all_goals go_wp2
 all_goals go_region
 all_goals go_wp2
 all_goals rw[rounds_succ]
 all_goals go_wp2
 all_goals rw[rounds_succ]
 all_goals go_wp2
 all_goals refine wp_loop_rounds 3 ?_
 all_goals rw[rounds_succ]
 all_goals go_wp2
 all_goals go_region
 all_goals go_wp2
 all_goals rw[rounds_succ]
 all_goals go_wp2
 all_goals go_region
 all_goals go_wp2
 all_goals rw[rounds_succ]
 all_goals go_wp2
 all_goals rw[rounds_succ]
 all_goals go_wp2
 all_goals refine Us (v:=.agg #[vI (min (min a c) e),vI (min (min b d) f)]) ?_ rfl ⟨rfl,Vy⟩
 all_goals simp[results,results240,go_sem]
 all_goals omega
end
section
open Go.RowKit Go.Shelf
variable {w:World}{bt rr:Nat}{va:Value}{l:List Pw}{p:Pw}
attribute [local go_sem] Oper.semAt_some
theorem kn{za:List zc}(T:zr za)(hB_:U_ za)(h:Rd w za bt rr va l){q:Pw}(hp:vz w za p)(hq:vz w za q){n m:zc}(hn:n∈za)(iG_:n.ze=p.q)(hm:m∈za)(rL_:m.ze=q.q)(fF_:m.zb=q.x.zb):
  Calls prog 231 #[vP rr,zi q.ze,zi p.ze] w fun e w'=>e=.returned (.bool ((ups za 4 n).any (Xx za l p.x q.x)))/\Bw w w':=by
 have bW_:∀k:Nat,Fence.wide.depth.isSome=true->1<=k:=fun k h=>by simp[Fence.wide]at h
 have eX_:∀W,(∀n∈za,UA W n)->_:=fun W hW_=>eH T hn W hW_
 have ai_:=Z9 T 4 n hn (T.ok n hn).2;have gG_:=hp.zl.lt;have og_:=hq.zl.lt;have rQ_:=fun W (hW_:Bw w W)=>(hp.below hW_).cells.2
 have IZ:=fun W (hW_:Bw w W)=>(hq.below hW_).cells.2
 have lI_:=fun W (hW_:Bw w W)=>(h.below hW_).cF T hB_ hm
 have a8_:=fun W (hW_:Bw w W)=>Zo T hm W (h.below hW_).yj
 have eJ_:=fun W (hW_:Bw w W)=>(h.below hW_).bk
 have By:rr<w.heap.size:=VE _ _ h.bk;have ubd:=h.ubd m.zb;have Ep:=YT T m.zb;have HO:Hid (∀x:zc,Xx za l p.x q.x x=(x.zb.isPrefixOf m.zb&&!((min (min (vu za l x p.x.d0) (xe (yf (pun l m.zb)) (xt za m.zb))) q.x.d0 == 0)&&(min (min (vt za l x p.x.d1) (xe (yg (pun l m.zb)) (xr za m.zb))) q.x.d1 == 0)))):=fun x=>by rw[fF_];rfl
 rw[iG_]at eX_;rw[rL_]at lI_ a8_;generalize yf (pun l m.zb)=u0 at *;generalize yg (pun l m.zb)=u1 at *;generalize xt za m.zb=n0 at *;generalize xr za m.zb=n1 at *;have gL_:=fun W=>s9 u0 u1 n0 n1 W (by omega) (by omega) (by omega) (by omega) (by omega) (by omega) (by omega) (by omega)
 have Rt:(0<=xe u0 n0/\xe u0 n0<=100000)/\(0<=xe u1 n1/\xe u1 n1<=100000):=by unfold xe;omega
 generalize xe u0 n0=o0_ at *;generalize xe u1 n1=o1 at *;generalize hX_:ups za 4 n=X at eX_ ai_ ⊢
 refine(UK (n:=3)).1 ?_
 refine callsIn_of_wp_marks func231 rfl trivial ?_ rfl
 unfold zi at eX_ lI_ a8_ ⊢;simp only[ntmps231,List.size_toArray,List.length_cons,List.length_nil,Nat.reduceAdd,Nat.reduceSub,Array.replicate_succ,Array.replicate_zero,List.push_toArray,List.append_toArray,List.nil_append,List.cons_append]
 gi_upto_region 1 with fail
 obtain⟨W0,bL_⟩:∃W0,W0=((((w.alloc (.cells #[vP rr] 186)).alloc (.cells #[vP q.ze] 95)).alloc (.cells #[vP p.ze] 95)).alloc (.cells #[.bool false] 4)):=⟨_,rfl⟩;have aK_:Bw w W0:=by rw[bL_];exact Vy
 have x1:zz W0 w.heap.size 186 (vP rr):=by rw[bL_];exact(((zz.new w 186 _).alloc _).alloc _).alloc _
 have x2:zz W0 (w.heap.size+1) 95 (vP q.ze):=by
  have:=((zz.new (w.alloc (.cells #[vP rr] 186)) 95 (vP q.ze)).alloc (.cells #[vP p.ze] 95)).alloc (.cells #[.bool false] 4)
  rw[Vv]at this;rw[bL_];exact this
 have x3:zz W0 (w.heap.size+1+1) 95 (vP p.ze):=by
  have:=(zz.new ((w.alloc (.cells #[vP rr] 186)).alloc (.cells #[vP q.ze] 95)) 95 (vP p.ze)).alloc (.cells #[.bool false] 4)
  rw[Vv,Vv]at this;rw[bL_];exact this
 have x4:zz W0 (w.heap.size+1+1+1) 4 (.bool false):=by
  have:=zz.new (((w.alloc (.cells #[vP rr] 186)).alloc (.cells #[vP q.ze] 95)).alloc (.cells #[vP p.ze] 95)) 4 (.bool false)
  rw[Vv,Vv,Vv]at this;rw[bL_];exact this
 have dh_:W0.heap.size=w.heap.size+4:=by rw[bL_];simp
 rw[<-bL_];clear bL_;have DD:∀W,Bw W0 W->W.cell? (vA rr 1)=some (.pointer (some (vA bt 1)))/\W.cell? (vA w.heap.size 0)=some (vP rr)/\W.cell? (vA (w.heap.size+1) 0)=some (vP q.ze)/\W.cell? (vA q.ze 1)=some (vP q.q):=fun W hW_=>⟨eJ_ _ (s5 aK_ hW_),(x1.below hW_ x1.lt).cell,(x2.below hW_ x2.lt).cell,(IZ _ (s5 aK_ hW_)).1⟩
 obtain⟨r1,r2,r3,r4⟩:=DD W0 (Below.refl _ _);have Nb:¬(rr=W0.heap.size):=(by omega);have Nc:¬(W0.heap.size=rr):=(by omega);have Nd:¬(w.heap.size=W0.heap.size):=(by omega);have Nf:¬(W0.heap.size=w.heap.size):=(by omega);have Ng:¬(w.heap.size+1=W0.heap.size):=(by omega);have Nh:¬(W0.heap.size=w.heap.size+1):=(by omega);have Ni:¬(q.ze=W0.heap.size):=(by omega);have Nj:¬(W0.heap.size=q.ze):=(by omega);have pW_:w.heap.size+4<=W0.heap.size:=by omega
 have mX_:Hid (W0.heap.size=w.heap.size+4):=dh_;clear dh_
 refine wpIn_wide.2 ?_
 go_cut [7] from 10 to 25 (fun c wx=>∃b7_,c=vP b7_/\Bw W0 wx/\zg wx b7_ 35 #[vI o0_,vI o1]/\W0.heap.size<=b7_)
 case first =>
  go_region_held3 (fun w'=>w'.cell? (vA rr 1)=some (.pointer (some (vA bt 1)))/\w'.cell? (vA w.heap.size 0)=some (vP rr)/\w'.cell? (vA (w.heap.size+1) 0)=some (vP q.ze)/\w'.cell? (vA q.ze 1)=some (vP q.q)) (go_keep)
   (first
   |(go_at_call 106;refine(lI_ _ (s5 aK_ ?_)).mono ?_;(focus exact cl);rintro e w1 ⟨rfl,aa⟩;have aj_:Bw W0 w1:=s5 (by exact cl) aa;obtain⟨s1,s2,s3,s4_⟩:=DD _ aj_;have cI_:=aj_.size;have SI:¬(rr=w1.heap.size):=(by omega);have SJ:¬(w1.heap.size=rr):=(by omega);have SK:¬(w.heap.size=w1.heap.size):=(by omega);have SL:¬(w1.heap.size=w.heap.size):=(by omega);have SM:¬(w.heap.size+1=w1.heap.size):=(by omega);have SN:¬(w1.heap.size=w.heap.size+1):=(by omega);have SO:¬(q.ze=w1.heap.size):=(by omega);have SP:¬(w1.heap.size=q.ze):=(by omega);(try (have il_:zg w1 W0.heap.size 35 #[vI 0,vI 0]:=zg.below (by first|(with_reducible exact zg.new' (by simp))|(with_reducible exact zg.drew (zg.new' (by simp)))) aa (by simp))))
   |(go_at_call 85;refine(a8_ _ (s5 aK_ ?_)).mono ?_;(focus exact cl);rintro e w2 ⟨rfl,af⟩;have ay_:Bw W0 w2:=s5 (by exact cl) af;obtain⟨t1,t2,t3,t4⟩:=DD _ ay_;have dG_:=ay_.size;have TE:¬(rr=w2.heap.size):=(by omega);have TF:¬(w2.heap.size=rr):=(by omega);have TG:¬(w.heap.size=w2.heap.size):=(by omega);have TH:¬(w2.heap.size=w.heap.size):=(by omega);have TI:¬(w.heap.size+1=w2.heap.size):=(by omega);have TJ:¬(w2.heap.size=w.heap.size+1):=(by omega);have TM:¬(q.ze=w2.heap.size):=(by omega);have TO:¬(w2.heap.size=q.ze):=(by omega);(try (have fG_:zg w2 W0.heap.size 35 #[vI 0,vI 0]:=zg.below (by with_reducible exact il_) af (by have:=il_.lt;omega)));(try (have fG_:zg w2 w1.heap.size 35 #[vI 0,vI 0]:=zg.below (by first|(with_reducible exact zg.new' (by simp))|(with_reducible exact zg.drew (zg.new' (by simp)))) af (by simp))))
   |(go_at_call 189;refine(gL_ _).mono ?_;rintro e w3 ⟨rfl,aw_⟩;have aD_:Bw W0 w3:=s5 (by exact cl) aw_;obtain⟨v1,v2,v3,v4⟩:=DD _ aD_;have pj_:=aD_.size;have T7:¬(rr=w3.heap.size):=(by omega);have T8:¬(w3.heap.size=rr):=(by omega);have Qd:¬(w.heap.size=w3.heap.size):=(by omega);have Qe:¬(w3.heap.size=w.heap.size):=(by omega);have Qf:¬(w.heap.size+1=w3.heap.size):=(by omega);have Qg:¬(w3.heap.size=w.heap.size+1):=(by omega);have Qh:¬(q.ze=w3.heap.size):=(by omega);have Qi:¬(w3.heap.size=q.ze):=(by omega);(try (have fH_:zg w3 W0.heap.size 35 #[vI 0,vI 0]:=zg.below (by with_reducible exact fG_) aw_ (by have:=fG_.lt;omega);have c7_:=fH_.cell;have g7_:=fH_.frozen));(try (have fH_:zg w3 w1.heap.size 35 #[vI 0,vI 0]:=zg.below (by with_reducible exact fG_) aw_ (by have:=fG_.lt;omega);have c7_:=fH_.cell;have g7_:=fH_.frozen));(try (have fH_:zg w3 w2.heap.size 35 #[vI 0,vI 0]:=zg.below (by first|(with_reducible exact zg.new' (by simp))|(with_reducible exact zg.drew (zg.new' (by simp)))) aw_ (by simp);have c7_:=fH_.cell;have g7_:=fH_.frozen))))
  all_goals go_wp2_with fail
  ·go_meet
   exact⟨_,rfl,aD_.alloc pj_ _,zg.new' rfl,pj_⟩
  ·go_meet
   exact⟨_,rfl,Xr aD_ (by omega) ..,XC fH_ ..,by omega⟩
  ·go_meet
   exact⟨_,rfl,Xr aD_ (by omega) ..,XC fH_ ..,by omega⟩
  ·go_meet
   exact⟨_,rfl,Xr aD_ (by omega) ..,XC fH_ ..,by omega⟩
 case rest =>
  obtain⟨b7_,rfl,da,qC_,Dw⟩:=hcut;clear r1 r2 r3 r4 lI_ a8_ gL_ DD Nb Nc Nd Nf Ng Nh Ni Nj ubd Ep;have lP_:Bw w wc:=s5 aK_ da;have y1:=x1.below da x1.lt;have y2:=x2.below da x2.lt;have y3:=x3.below da x3.lt;have y4:=x4.below da x4.lt;have c3:=y3.cell;obtain⟨e1_,_,_⟩:=rQ_ _ lP_
  gi_wp2_with ((first|refine⟨trivial,bW_ _,?_⟩|refine⟨trivial,?_⟩);gi_at_call 191;refine(UK.2 (eX_ _ (fun n hn=>(h.yj n hn).below lP_))).mono ?_;rintro e W ⟨rfl,rfl,aF_⟩)
  obtain⟨W,hW_⟩:∃W,W=wc.alloc (.cells #[vP p.q] 97):=⟨_,rfl⟩;have OR:w.heap.size+4<=wc.heap.size:=by have:=da.size;omega
  have dp_:W.heap.size=wc.heap.size+1:=by rw[hW_];simp
  have z1:zz W w.heap.size 186 (vP rr):=by rw[hW_];exact y1.alloc _
  have z2:zz W (w.heap.size+1) 95 (vP q.ze):=by rw[hW_];exact y2.alloc _
  have z3:zz W (w.heap.size+1+1) 95 (vP p.ze):=by rw[hW_];exact y3.alloc _
  have z4:zz W (w.heap.size+1+1+1) 4 (.bool false):=by rw[hW_];exact y4.alloc _
  have z7:zg W b7_ 35 #[vI o0_,vI o1]:=by rw[hW_];exact qC_.alloc _
  have cf:Bw w W:=by rw[hW_];exact lP_.alloc lP_.size _
  have Sg:=qC_.lt;simp only[<-hW_]at aF_ ⊢;have ja:=aF_ (fun b=>b=w.heap.size+1+1+1\/W.heap.size<=b) (fun k hk_=>⟨fun e=>by have:=(h.yj k hk_).lt;omega,fun g hg e=>by have:=((h.yj k hk_).row.lt g hg).2;omega⟩);clear aF_ eX_ hW_ x1 x2 x3 x4 y1 y2 y3 y4 c3 e1_ qC_;have a8_:∀b,b<W.heap.size->¬(False\/W.heap.size<=b):=fun b hb e=>by rcases e with e|e;exact e;omega
  refine XQ (T:=fun b=>b=w.heap.size+1+1+1) (S:=fun _=>False) rfl (enters_of func223 (by kernel_rfl) rfl) ja (Below.refl _ _) rfl (fun b e=>e.elim) (fun b e=>by omega)
   (fun pre A=>pre.any (Xx za l p.x q.x)=false/\(zz A w.heap.size 186 (vP rr)/\zz A (w.heap.size+1) 95 (vP q.ze)/\zz A (w.heap.size+1+1) 95 (vP p.ze)/\zz A (w.heap.size+1+1+1) 4 (.bool false)/\zg A b7_ 35 #[vI o0_,vI o1])/\Bw w A)
   (fun c pre A=>c=.ret/\pre.any (Xx za l p.x q.x)=true/\zz A (w.heap.size+1+1+1) 4 (.bool true)/\Bw w A)
   (fun pre A B hs hk_=>⟨hs.1,⟨hs.2.1.1.zf hk_ (a8_ _ (by omega)),hs.2.1.2.1.zf hk_ (a8_ _ (by omega)),hs.2.1.2.2.1.zf hk_ (a8_ _ (by omega)),hs.2.1.2.2.2.1.zf hk_ (a8_ _ (by omega)),hs.2.1.2.2.2.2.zf hk_ (a8_ _ (by omega))⟩,hs.2.2.trans (hk_.ya hs.2.2.size (fun b aP=>a8_ b (by omega)))⟩)
   (fun c pre A B hs hk_=>⟨hs.1,hs.2.1,hs.2.2.1.zf hk_ (a8_ _ (by omega)),hs.2.2.2.trans (hk_.ya hs.2.2.2.size (fun b aP=>a8_ b (by omega)))⟩)
   ⟨rfl,⟨z1,z2,z3,z4,z7⟩,cf⟩
   (fun x=>{tmps:=#[vP rr,vP q.ze,vP p.ze,vP w.heap.size,vP (w.heap.size+1),vP (w.heap.size+1+1),vP (w.heap.size+1+1+1),vP b7_,vP x.ze,undef,u10,u11,u12,u13,u14,u15,u16,u17,u18,u19,u20,u21,u22,u23,u24,vP p.ze,vP p.ze,.pointer (some (vA p.ze 1)),vP p.q,.func (.func 223) #[] #[vP wc.heap.size],vP x.ze,undef,undef,undef,undef,undef,undef,undef,undef,undef,undef,undef,undef,undef,undef,undef,undef,undef,undef,undef,undef,undef,undef,undef,undef,undef],defers:=[]}) ?assign ?body ?done ?stop
  case assign =>
   intro l x W K hK_
   gi_wp2
   exact hK_
  case body =>
   rintro l2 pre x W2 ⟨a7_,⟨k1,k2,k3,k4_,k7_⟩,ae⟩ gW_ aC_
   have ct_:=((ai_ x).1 (aC_.subset (by simp))).1;have kr_:∀W,Bw w W->Calls prog 216 #[vP rr,vP x.ze,.agg #[vI p.x.d0,vI p.x.d1]] W fun e w'=>e=.returned (.agg #[vI (vu za l x p.x.d0),vI (vt za l x p.x.d1)])/\Bw W w':=fun W hW_=>hE T hB_ (h.below hW_) ct_ p.x.d0 p.x.d1 hp.zm.1 hp.zm.2
   have cM_:∀W,Bw w W->Calls prog 142 #[vP q.q,vP x.ze] W fun e w'=>e=.returned (.bool (x.zb.isPrefixOf m.zb))/\Bw W w':=fun W hW_=>by
    have:=dY T hB_ hm ct_ W (h.below hW_).yj
    rw[rL_]at this;exact this
   have Mf:(0<=vu za l x p.x.d0/\vu za l x p.x.d0<=100000)/\(0<=vt za l x p.x.d1/\vt za l x p.x.d1<=100000):=by
    have u1:=h.ubd x.zb;have u2:=YT T x.zb;have u3:=T.zm x ct_;have u4:=hp.zm;unfold vu vt xe
    omega
   have sY_:Hid (Xx za l p.x q.x x=_):=HO.out x;generalize vu za l x p.x.d0=s0 at kr_ sY_ Mf;generalize vt za l x p.x.d1=s1 at kr_ sY_ Mf;generalize x.zb.isPrefixOf m.zb=Pp at cM_ sY_;have wO:=hq.zm;have dJ_:=fun W sb (hs:zg W sb 35 #[vI o0_,vI o1,vI q.x.d0,vI q.x.d1])=>qL s0 s1 o0_ o1 q.x.d0 q.x.d1 W hs (by omega) (by omega) (by omega) (by omega) (by omega) (by omega) (by omega) (by omega) (by omega) (by omega) (by omega) (by omega)
   generalize min (min s0 o0_) q.x.d0=e0_ at dJ_ sY_;generalize min (min s1 o1) q.x.d1=e1_ at dJ_ sY_;have iX_:=fun W=>cr e0_ e1_ 0 0 W
   have cv_:Hid (pre.any (Xx za l p.x q.x)=false):=a7_;have l1:=k1.lt;have J6:=k2.lt;have l3:=k3.lt;have l4:=k4_.lt;have l7_:=k7_.lt;have lp_:=(hp.below ae).zl.lt;have lq_:=(hq.below ae).zl.lt;obtain⟨p1_,p2_,p3_⟩:=rQ_ _ ae;obtain⟨q1,q2,q3_⟩:=IZ _ ae;have uy:prog.follows .mixedOrders=true:=by kernel_rfl
   clear a7_ ai_ ja aC_ bW_ HO;have fB_:∀W',Bw W2 W'->W'.cell? (vA w.heap.size 0)=some (vP rr)/\W'.cell? (vA (w.heap.size+1+1) 0)=some (vP p.ze)/\W'.cell? (vA p.ze 2)=some (vI p.x.d0)/\W'.cell? (vA p.ze 3)=some (vI p.x.d1)/\Bw W2 W':=fun W' bJ_=>⟨(k1.below bJ_ l1).cell,(k3.below bJ_ l3).cell,(bJ_.cell (p:=vA p.ze 2) lp_).trans p2_,(bJ_.cell (p:=vA p.ze 3) lp_).trans p3_,bJ_⟩
   have rn_:∀W',Bw W2 W'->∃(_:zz W' (w.heap.size+1+1+1) 4 (.bool false)),(zz W' w.heap.size 186 (vP rr)/\zz W' (w.heap.size+1) 95 (vP q.ze)/\zz W' (w.heap.size+1+1) 95 (vP p.ze)/\zz W' (w.heap.size+1+1+1) 4 (.bool false)/\zg W' b7_ 35 #[vI o0_,vI o1]):=fun W' bJ_=>⟨k4_.below bJ_ l4,k1.below bJ_ l1,k2.below bJ_ J6,k3.below bJ_ l3,k4_.below bJ_ l4,k7_.below bJ_ l7_⟩
   have Mu:Hid (∀W',Bw W2 W'->W'.cell? (vA w.heap.size 0)=some (vP rr)/\W'.cell? (vA (w.heap.size+1+1) 0)=some (vP p.ze)/\W'.cell? (vA p.ze 2)=some (vI p.x.d0)/\W'.cell? (vA p.ze 3)=some (vI p.x.d1)/\Bw W2 W'):=fB_
   gi_upto_region 4 with fail
   refine wpIn_mono (Q:=Exit.then (fun a4_ W4=>∃b9_:Nat,a4_={tmps:=#[vP rr,vP q.ze,vP p.ze,vP w.heap.size,vP (w.heap.size+1),vP (w.heap.size+1+1),vP (w.heap.size+1+1+1),vP b7_,vP x.ze,vP b9_,u10,u11,u12,u13,u14,u15,u16,u17,u18,u19,u20,u21,u22,u23,u24,vP p.ze,vP p.ze,.pointer (some (vA p.ze 1)),vP p.q,.func (.func 223) #[] #[vP wc.heap.size],vP x.ze,vP rr,vP x.ze,vP p.ze,vP p.ze,.pointer (some (vA p.ze 2)),.agg #[vI p.x.d0,vI p.x.d1],.agg #[vI s0,vI s1],undef,undef,undef,undef,undef,undef,undef,undef,undef,undef,undef,undef,undef,undef,undef,undef,undef,undef],defers:=[]}/\Bw W2 W4/\zg W4 b9_ 35 #[vI s0,vI s1]/\W2.heap.size<=b9_) (fun _ _ _=>False)) ?r4 ?r5
   case r4 =>
    refine YA (fun W'=>W'.cell? (vA w.heap.size 0)=some (vP rr)/\W'.cell? (vA (w.heap.size+1+1) 0)=some (vP p.ze)/\W'.cell? (vA p.ze 2)=some (vI p.x.d0)/\W'.cell? (vA p.ze 3)=some (vI p.x.d1)/\Bw W2 W') (by kernel_rfl) (by kernel_rfl) (fB_ _ (by exact cl)) (fun hS_=>?_)
    refine wpAnyH_take (i:=0) (v:=vP rr) rfl (by kernel_rfl) (by kernel_rfl) (by kernel_rfl) (fun _ _ _ h=>absurd h.1 (by intro e;cases e)) (Or.inl ⟨by rfl,?_⟩) hS_ ?_
    ·intro w' bD_;obtain⟨s1,s2,s3,s4_,s5_⟩:=bD_
     go_simp
    try simp only[Ux,Uv,Uw,Act.put,UF,UE,UD]
    refine wpAnyH_take (i:=1) (v:=vP x.ze) rfl (by kernel_rfl) (by kernel_rfl) (by kernel_rfl) (fun _ _ _ h=>absurd h.1 (by intro e;cases e)) (Or.inl ⟨by rfl,?_⟩) hS_ ?_
    ·intro w' bD_;obtain⟨s1,s2,s3,s4_,s5_⟩:=bD_
     go_simp
    try simp only[Ux,Uv,Uw,Act.put,UF,UE,UD]
    refine wpAnyH_take (i:=2) (v:=vP p.ze) rfl (by kernel_rfl) (by kernel_rfl) (by kernel_rfl) (fun _ _ _ h=>absurd h.1 (by intro e;cases e)) (Or.inl ⟨by rfl,?_⟩) hS_ ?_
    ·intro w' bD_;obtain⟨s1,s2,s3,s4_,s5_⟩:=bD_
     go_simp
    try simp only[Ux,Uv,Uw,Act.put,UF,UE,UD]
    refine wpAnyH_take (i:=3) (v:=vP p.ze) rfl (by kernel_rfl) (by kernel_rfl) (by kernel_rfl) (fun _ _ _ h=>absurd h.1 (by intro e;cases e)) (Or.inl ⟨by rfl,?_⟩) hS_ ?_
    ·intro w' bD_;obtain⟨s1,s2,s3,s4_,s5_⟩:=bD_
     go_simp
    try simp only[Ux,Uv,Uw,Act.put,UF,UE,UD]
    refine wpAnyH_take (i:=4) (v:=.pointer (some (vA p.ze 2))) rfl (by kernel_rfl) (by kernel_rfl) (by kernel_rfl) (fun _ _ _ h=>absurd h.1 (by intro e;cases e)) (Or.inl ⟨by rfl,?_⟩) hS_ ?_
    ·intro w' bD_;obtain⟨s1,s2,s3,s4_,s5_⟩:=bD_
     go_simp
    try simp only[Ux,Uv,Uw,Act.put,UF,UE,UD]
    refine wpAnyH_take (i:=5) (v:=.agg #[vI p.x.d0,vI p.x.d1]) rfl (by kernel_rfl) (by kernel_rfl) (by kernel_rfl) (fun _ _ _ h=>absurd h.1 (by intro e;cases e)) (Or.inl ⟨by rfl,?_⟩) hS_ ?_
    ·intro w' bD_;obtain⟨s1,s2,s3,s4_,s5_⟩:=bD_
     go_simp
    try simp only[Ux,Uv,Uw,Act.put,UF,UE,UD]
    refine wpAnyH_ready (rs:=[6,7]) (by kernel_rfl) (by simp) ?_
    refine AllReadyH.cons rfl (fun K' hK_=>?_) (AllReadyH.cons rfl (fun K' hK_=>?_) AllReadyH.nil)
    ·rw[if_pos (by rfl)]
     try simp only[Ux,Uv,Uw]
     go_simp
     refine(kr_ _ (s5 ae (by exact cl))).mono ?_
     rintro e W3 ⟨rfl,dE_⟩
     have aw_:Bw W2 W3:=s5 (show Bw W2 W2.drew by exact cl) dE_;have pj_:=aw_.size
     refine hK_.out _ _ (fB_ _ aw_) (fun hS_=>?_)
     clear hK_
     try simp only[Ux,Uv,Uw,Act.put,UF,UE,UD]
     refine wpAnyH_ready (rs:=[7]) (by kernel_rfl) (by simp) ?_
     refine AllReadyH.cons rfl (fun K' hK_=>?_) AllReadyH.nil
     rw[if_pos (by rfl)]
     try simp only[Ux,Uv,Uw]
     go_simp
     refine hK_.out _ _ (fB_ _ (by exact cl)) (fun hS_=>?_)
     clear hK_
     try simp only[Ux,Uv,Uw,Act.put,UF,UE,UD]
     refine wpAnyH_ready (rs:=[8]) (by kernel_rfl) (by simp) ?_
     refine AllReadyH.cons rfl (fun K' hK_=>?_) AllReadyH.nil
     rw[if_pos (by rfl)]
     try simp only[Ux,Uv,Uw]
     go_simp
     refine hK_.out _ _ (fB_ _ (by exact cl)) (fun hS_=>?_)
     clear hK_
     refine wpAnyH_done (by kernel_rfl) ⟨rfl,?_⟩ _
     exact⟨W3.heap.size,rfl,aw_.alloc pj_ _,zg.new' rfl,pj_⟩
    ·rw[if_pos (by rfl)]
     try simp only[Ux,Uv,Uw]
     go_simp
     refine hK_.out _ _ (fB_ _ (by exact cl)) (fun hS_=>?_)
     clear hK_
     try simp only[Ux,Uv,Uw,Act.put,UF,UE,UD]
     refine wpAnyH_ready (rs:=[6]) (by kernel_rfl) (by simp) ?_
     refine AllReadyH.cons rfl (fun K' hK_=>?_) AllReadyH.nil
     rw[if_pos (by rfl)]
     try simp only[Ux,Uv,Uw]
     go_simp
     refine(kr_ _ (s5 ae (by exact cl))).mono ?_
     rintro e W3 ⟨rfl,dE_⟩
     have b9_:zg W3 W2.heap.size 35 #[vI 0,vI 0]:=zg.below (by first|(with_reducible exact zg.new' (by simp))|(with_reducible exact zg.drew (zg.new' (by simp)))|(exact zg.new W2.drew 35 _)) dE_ (by simp);have aw_:Bw W2 W3:=s5 (by exact cl) dE_;have pj_:=aw_.size;have c9_:=b9_.cell;have f9:=b9_.frozen
     refine hK_.out _ _ (fB_ _ aw_) (fun hS_=>?_)
     clear hK_
     try simp only[Ux,Uv,Uw,Act.put,UF,UE,UD]
     refine wpAnyH_ready (rs:=[8]) (by kernel_rfl) (by simp) ?_
     refine AllReadyH.cons rfl (fun K' hK_=>?_) AllReadyH.nil
     rw[if_pos (by rfl)]
     try simp only[Ux,Uv,Uw]
     go_simp
     refine hK_.out _ _ (fB_ _ (Xr aw_ (Nat.le_refl _) ..)) (fun hS_=>?_)
     clear hK_
     refine wpAnyH_done (by kernel_rfl) ⟨rfl,?_⟩ _
     exact⟨W2.heap.size,rfl,Xr aw_ (Nat.le_refl _) ..,XC b9_ ..,Nat.le_refl _⟩
   case r5 =>
    intro e a4_ W4 L0
    cases e with
    |normal =>
     obtain⟨b9_,rfl,aZ_,ED,Sh⟩:=L0;clear fB_ Mu kr_;have dH_:Bw w W4:=s5 ae aZ_;obtain⟨g4,g1,g2,g3,_,g7_⟩:=rn_ _ aZ_;obtain⟨JF,Ma,Mb⟩:=IZ _ dH_;have LR:=ED.lt;have ot_:=aZ_.size;have mZ_:∀W',Bw W4 W'->W'.cell? (vA (w.heap.size+1) 0)=some (vP q.ze)/\W'.cell? (vA q.ze 1)=some (vP q.q)/\W'.cell? (vA q.ze 2)=some (vI q.x.d0)/\W'.cell? (vA q.ze 3)=some (vI q.x.d1)/\W'.cell? (vA b9_ 0)=some (vI s0)/\W'.cell? (vA b9_ 1)=some (vI s1)/\W'.cell? (vA b7_ 0)=some (vI o0_)/\W'.cell? (vA b7_ 1)=some (vI o1)/\Bw W4 W':=fun W' bJ_=>⟨(g2.below bJ_ g2.lt).cell,(bJ_.cell (p:=vA q.ze 1) (VJ lq_ ot_)).trans JF,(bJ_.cell (p:=vA q.ze 2) (VJ lq_ ot_)).trans Ma,(bJ_.cell (p:=vA q.ze 3) (VJ lq_ ot_)).trans Mb,(ED.below bJ_ LR).cell 0,(ED.below bJ_ LR).cell 1,(g7_.below bJ_ g7_.lt).cell 0,(g7_.below bJ_ g7_.lt).cell 1,bJ_⟩
     have cQ_:=fun W' (bJ_:Bw W4 W')=>rn_ W' (s5 aZ_ bJ_)
     clear k1 k2 k3 k4_ k7_ p1_ p2_ p3_ q1 q2 q3_ g1 g2 g3 g4 g7_ JF Ma Mb ED rn_
     gi_upto_region 5 with fail
     refine YA (fun W'=>W'.cell? (vA (w.heap.size+1) 0)=some (vP q.ze)/\W'.cell? (vA q.ze 1)=some (vP q.q)/\W'.cell? (vA q.ze 2)=some (vI q.x.d0)/\W'.cell? (vA q.ze 3)=some (vI q.x.d1)/\W'.cell? (vA b9_ 0)=some (vI s0)/\W'.cell? (vA b9_ 1)=some (vI s1)/\W'.cell? (vA b7_ 0)=some (vI o0_)/\W'.cell? (vA b7_ 1)=some (vI o1)/\Bw W4 W') (by kernel_rfl) (by kernel_rfl) (mZ_ _ (by exact cl)) (fun hS_=>?_)
     refine wpAnyH_take (i:=0) (v:=vP q.ze) rfl (by kernel_rfl) (by kernel_rfl) (by kernel_rfl) (fun _ _ _ h=>absurd h.1 (by intro e;cases e)) (Or.inl ⟨by rfl,?_⟩) hS_ ?_
     ·intro w' bD_;obtain⟨s1,s2,s3,s4_,s5_,s6_,s7_,s8_,s9_⟩:=bD_
      go_simp
     try simp only[Ux,Uv,Uw,Act.put,UF,UE,UD]
     refine wpAnyH_take (i:=1) (v:=vP q.ze) rfl (by kernel_rfl) (by kernel_rfl) (by kernel_rfl) (fun _ _ _ h=>absurd h.1 (by intro e;cases e)) (Or.inl ⟨by rfl,?_⟩) hS_ ?_
     ·intro w' bD_;obtain⟨s1,s2,s3,s4_,s5_,s6_,s7_,s8_,s9_⟩:=bD_
      go_simp
     try simp only[Ux,Uv,Uw,Act.put,UF,UE,UD]
     refine wpAnyH_take (i:=2) (v:=.pointer (some (vA q.ze 1))) rfl (by kernel_rfl) (by kernel_rfl) (by kernel_rfl) (fun _ _ _ h=>absurd h.1 (by intro e;cases e)) (Or.inl ⟨by rfl,?_⟩) hS_ ?_
     ·intro w' bD_;obtain⟨s1,s2,s3,s4_,s5_,s6_,s7_,s8_,s9_⟩:=bD_
      go_simp
     try simp only[Ux,Uv,Uw,Act.put,UF,UE,UD]
     refine wpAnyH_take (i:=3) (v:=vP q.q) rfl (by kernel_rfl) (by kernel_rfl) (by kernel_rfl) (fun _ _ _ h=>absurd h.1 (by intro e;cases e)) (Or.inl ⟨by rfl,?_⟩) hS_ ?_
     ·intro w' bD_;obtain⟨s1,s2,s3,s4_,s5_,s6_,s7_,s8_,s9_⟩:=bD_
      go_simp
     try simp only[Ux,Uv,Uw,Act.put,UF,UE,UD]
     refine wpAnyH_take (i:=4) (v:=vP x.ze) rfl (by kernel_rfl) (by kernel_rfl) (by kernel_rfl) (fun _ _ _ h=>absurd h.1 (by intro e;cases e)) (Or.inl ⟨by rfl,?_⟩) hS_ ?_
     ·intro w' bD_;obtain⟨s1,s2,s3,s4_,s5_,s6_,s7_,s8_,s9_⟩:=bD_
      go_simp
     try simp only[Ux,Uv,Uw,Act.put,UF,UE,UD]
     refine wpAnyH_ready (rs:=[5]) (by kernel_rfl) (by simp) ?_
     refine AllReadyH.cons rfl (fun K' hK_=>?_) AllReadyH.nil
     rw[if_pos (by rfl)]
     try simp only[Ux,Uv,Uw]
     go_simp
     refine(cM_ _ (s5 dH_ (by exact cl))).mono ?_
     rintro e W5 ⟨rfl,dE_⟩
     have aJ_:Bw W4 W5:=s5 (show Bw W4 W4.drew by exact cl) dE_;have Fz:=aJ_.size
     refine hK_.out _ _ (mZ_ _ aJ_) (fun hS_=>?_)
     clear hK_
     try simp only[Ux,Uv,Uw,Act.put,UF,UE,UD]
     cases Pp
     ·refine wpAnyH_take (i:=6) (v:=.bool false) rfl (by kernel_rfl) (by kernel_rfl) (by kernel_rfl) (fun _ _ _ h=>absurd h.1 (by intro e;cases e)) (Or.inl ⟨by rfl,?_⟩) hS_ ?_
      ·intro w' bD_;obtain⟨s1,s2,s3,s4_,s5_,s6_,s7_,s8_,s9_⟩:=bD_
       go_simp
      try simp only[Ux,Uv,Uw,Act.put,UF,UE,UD]
      refine wpAnyH_take (i:=7) (v:=undef) rfl (by kernel_rfl) (by kernel_rfl) (by kernel_rfl) (fun _ _ _ h=>absurd h.1 (by intro e;cases e)) (Or.inr ⟨by rfl,rfl⟩) hS_ ?_
      try simp only[Ux,Uv,Uw,Act.put,UF,UE,UD]
      refine wpAnyH_take (i:=8) (v:=undef) rfl (by kernel_rfl) (by kernel_rfl) (by kernel_rfl) (fun _ _ _ h=>absurd h.1 (by intro e;cases e)) (Or.inr ⟨by rfl,rfl⟩) hS_ ?_
      try simp only[Ux,Uv,Uw,Act.put,UF,UE,UD]
      refine wpAnyH_take (i:=9) (v:=undef) rfl (by kernel_rfl) (by kernel_rfl) (by kernel_rfl) (fun _ _ _ h=>absurd h.1 (by intro e;cases e)) (Or.inr ⟨by rfl,rfl⟩) hS_ ?_
      try simp only[Ux,Uv,Uw,Act.put,UF,UE,UD]
      refine wpAnyH_take (i:=10) (v:=undef) rfl (by kernel_rfl) (by kernel_rfl) (by kernel_rfl) (fun _ _ _ h=>absurd h.1 (by intro e;cases e)) (Or.inr ⟨by rfl,rfl⟩) hS_ ?_
      try simp only[Ux,Uv,Uw,Act.put,UF,UE,UD]
      refine wpAnyH_take (i:=11) (v:=undef) rfl (by kernel_rfl) (by kernel_rfl) (by kernel_rfl) (fun _ _ _ h=>absurd h.1 (by intro e;cases e)) (Or.inr ⟨by rfl,rfl⟩) hS_ ?_
      try simp only[Ux,Uv,Uw,Act.put,UF,UE,UD]
      refine wpAnyH_take (i:=12) (v:=undef) rfl (by kernel_rfl) (by kernel_rfl) (by kernel_rfl) (fun _ _ _ h=>absurd h.1 (by intro e;cases e)) (Or.inr ⟨by rfl,rfl⟩) hS_ ?_
      try simp only[Ux,Uv,Uw,Act.put,UF,UE,UD]
      refine wpAnyH_take (i:=13) (v:=undef) rfl (by kernel_rfl) (by kernel_rfl) (by kernel_rfl) (fun _ _ _ h=>absurd h.1 (by intro e;cases e)) (Or.inr ⟨by rfl,rfl⟩) hS_ ?_
      try simp only[Ux,Uv,Uw,Act.put,UF,UE,UD]
      refine wpAnyH_take (i:=14) (v:=undef) rfl (by kernel_rfl) (by kernel_rfl) (by kernel_rfl) (fun _ _ _ h=>absurd h.1 (by intro e;cases e)) (Or.inr ⟨by rfl,rfl⟩) hS_ ?_
      try simp only[Ux,Uv,Uw,Act.put,UF,UE,UD]
      refine wpAnyH_take (i:=15) (v:=undef) rfl (by kernel_rfl) (by kernel_rfl) (by kernel_rfl) (fun _ _ _ h=>absurd h.1 (by intro e;cases e)) (Or.inr ⟨by rfl,rfl⟩) hS_ ?_
      try simp only[Ux,Uv,Uw,Act.put,UF,UE,UD]
      refine wpAnyH_take (i:=16) (v:=undef) rfl (by kernel_rfl) (by kernel_rfl) (by kernel_rfl) (fun _ _ _ h=>absurd h.1 (by intro e;cases e)) (Or.inr ⟨by rfl,rfl⟩) hS_ ?_
      try simp only[Ux,Uv,Uw,Act.put,UF,UE,UD]
      refine wpAnyH_take (i:=17) (v:=.bool false) rfl (by kernel_rfl) (by kernel_rfl) (by kernel_rfl) (fun _ _ _ h=>absurd h.1 (by intro e;cases e)) (Or.inl ⟨by rfl,?_⟩) hS_ ?_
      ·intro w' bD_;obtain⟨s1,s2,s3,s4_,s5_,s6_,s7_,s8_,s9_⟩:=bD_
       go_simp
      try simp only[Ux,Uv,Uw,Act.put,UF,UE,UD]
      refine wpAnyH_done (by kernel_rfl) ⟨rfl,?_⟩ _
      obtain⟨g4,Bf⟩:=cQ_ _ aJ_;have kc:=g4.cell;have kf:=g4.frozen
      gi_wp2_with fail
      refine⟨zd.new (s5 aZ_ aJ_),?_,Bf,s5 ae (s5 aZ_ aJ_)⟩
      rw[List.any_append,cv_.out]
      simp[sY_.out]
     ·refine wpAnyH_take (i:=6) (v:=.bool true) rfl (by kernel_rfl) (by kernel_rfl) (by kernel_rfl) (fun _ _ _ h=>absurd h.1 (by intro e;cases e)) (Or.inl ⟨by rfl,?_⟩) hS_ ?_
      ·intro w' bD_;obtain⟨s1,s2,s3,s4_,s5_,s6_,s7_,s8_,s9_⟩:=bD_
       go_simp
      try simp only[Ux,Uv,Uw,Act.put,UF,UE,UD]
      refine wpAnyH_take (i:=7) (v:=.agg #[vI s0,vI s1]) rfl (by kernel_rfl) (by kernel_rfl) (by kernel_rfl) (fun _ _ _ h=>absurd h.1 (by intro e;cases e)) (Or.inl ⟨by rfl,?_⟩) hS_ ?_
      ·intro w' bD_;obtain⟨s1,s2,s3,s4_,s5_,s6_,s7_,s8_,s9_⟩:=bD_
       go_simp
      try simp only[Ux,Uv,Uw,Act.put,UF,UE,UD]
      refine wpAnyH_take (i:=8) (v:=.agg #[vI o0_,vI o1]) rfl (by kernel_rfl) (by kernel_rfl) (by kernel_rfl) (fun _ _ _ h=>absurd h.1 (by intro e;cases e)) (Or.inl ⟨by rfl,?_⟩) hS_ ?_
      ·intro w' bD_;obtain⟨s1,s2,s3,s4_,s5_,s6_,s7_,s8_,s9_⟩:=bD_
       go_simp
      try simp only[Ux,Uv,Uw,Act.put,UF,UE,UD]
      refine wpAnyH_take (i:=9) (v:=vP q.ze) rfl (by kernel_rfl) (by kernel_rfl) (by kernel_rfl) (fun _ _ _ h=>absurd h.1 (by intro e;cases e)) (Or.inl ⟨by rfl,?_⟩) hS_ ?_
      ·intro w' bD_;obtain⟨s1,s2,s3,s4_,s5_,s6_,s7_,s8_,s9_⟩:=bD_
       go_simp
      try simp only[Ux,Uv,Uw,Act.put,UF,UE,UD]
      refine wpAnyH_take (i:=10) (v:=vP q.ze) rfl (by kernel_rfl) (by kernel_rfl) (by kernel_rfl) (fun _ _ _ h=>absurd h.1 (by intro e;cases e)) (Or.inl ⟨by rfl,?_⟩) hS_ ?_
      ·intro w' bD_;obtain⟨s1,s2,s3,s4_,s5_,s6_,s7_,s8_,s9_⟩:=bD_
       go_simp
      try simp only[Ux,Uv,Uw,Act.put,UF,UE,UD]
      refine wpAnyH_take (i:=11) (v:=.pointer (some (vA q.ze 2))) rfl (by kernel_rfl) (by kernel_rfl) (by kernel_rfl) (fun _ _ _ h=>absurd h.1 (by intro e;cases e)) (Or.inl ⟨by rfl,?_⟩) hS_ ?_
      ·intro w' bD_;obtain⟨s1,s2,s3,s4_,s5_,s6_,s7_,s8_,s9_⟩:=bD_
       go_simp
      try simp only[Ux,Uv,Uw,Act.put,UF,UE,UD]
      refine wpAnyH_take (i:=12) (v:=.agg #[vI q.x.d0,vI q.x.d1]) rfl (by kernel_rfl) (by kernel_rfl) (by kernel_rfl) (fun _ _ _ h=>absurd h.1 (by intro e;cases e)) (Or.inl ⟨by rfl,?_⟩) hS_ ?_
      ·intro w' bD_;obtain⟨s1,s2,s3,s4_,s5_,s6_,s7_,s8_,s9_⟩:=bD_
       go_simp
      try simp only[Ux,Uv,Uw,Act.put,UF,UE,UD]
      refine wpAnyH_take (i:=15) (v:=.agg #[vI 0,vI 0]) rfl (by kernel_rfl) (by kernel_rfl) (by kernel_rfl) (fun _ _ _ h=>absurd h.1 (by intro e;cases e)) (Or.inl ⟨by rfl,?_⟩) hS_ ?_
      ·intro w' bD_;obtain⟨s1,s2,s3,s4_,s5_,s6_,s7_,s8_,s9_⟩:=bD_
       go_simp
      try simp only[Ux,Uv,Uw,Act.put,UF,UE,UD]
      refine wpAnyH_ready (rs:=[13]) (by kernel_rfl) (by simp) ?_
      refine AllReadyH.cons rfl (fun K' hK_=>?_) AllReadyH.nil
      rw[if_pos (by rfl)]
      try simp only[Ux,Uv,Uw]
      go_simp
      refine hK_.out _ _ (mZ_ _ (by exact cl)) (fun hS_=>?_)
      clear hK_
      try simp only[Ux,Uv,Uw,Act.put,UF,UE,UD]
      refine wpAnyH_ready (rs:=[14]) (by kernel_rfl) (by simp) ?_
      refine AllReadyH.cons rfl (fun K' hK_=>?_) AllReadyH.nil
      rw[if_pos (by rfl)]
      try simp only[Ux,Uv,Uw]
      go_simp
      refine(dJ_ _ _ (zg.new _ 35 _)).mono ?_
      rintro e W6 ⟨rfl,NR⟩
      have iD_:Bw W4 W6:=s5 (by exact cl) NR
      refine hK_.out _ _ (mZ_ _ iD_) (fun hS_=>?_)
      clear hK_
      try simp only[Ux,Uv,Uw,Act.put,UF,UE,UD]
      refine wpAnyH_take (i:=16) (v:=.bool (!(e0_ == 0&&e1_ == 0))) rfl (by kernel_rfl) (by kernel_rfl) (by kernel_rfl) (fun _ _ _ h=>absurd h.1 (by intro e;cases e)) (Or.inl ⟨by rfl,?_⟩) hS_ ?_
      ·intro w' bD_;obtain⟨s1,s2,s3,s4_,s5_,s6_,s7_,s8_,s9_⟩:=bD_
       go_simp
      try simp only[Ux,Uv,Uw,Act.put,UF,UE,UD]
      refine wpAnyH_take (i:=17) (v:=.bool (!(e0_ == 0&&e1_ == 0))) rfl (by kernel_rfl) (by kernel_rfl) (by kernel_rfl) (fun _ _ _ h=>absurd h.1 (by intro e;cases e)) (Or.inl ⟨by rfl,?_⟩) hS_ ?_
      ·intro w' bD_;obtain⟨s1,s2,s3,s4_,s5_,s6_,s7_,s8_,s9_⟩:=bD_
       go_simp
      try simp only[Ux,Uv,Uw,Act.put,UF,UE,UD]
      refine wpAnyH_done (by kernel_rfl) ⟨rfl,?_⟩ _
      generalize mv_:(e0_ == 0&&e1_ == 0)=bv at sY_;clear mv_ iX_;obtain⟨g4,Bf⟩:=cQ_ _ iD_;have kc:=g4.cell;have kf:=g4.frozen
      cases bv
      ·gi_wp2_with fail
       refine⟨((zd.new (T:=fun b=>b=w.heap.size+1+1+1) (s5 aZ_ iD_)).setCell (p:=vA (w.heap.size+1+1+1) 0) rfl _),rfl,?_,g4.set _,(s5 ae (s5 aZ_ iD_)).setCell (by simp;omega) _⟩
       rw[List.any_append,cv_.out]
       simp[sY_.out]
      ·gi_wp2_with fail
       refine⟨zd.new (s5 aZ_ iD_),?_,Bf,s5 ae (s5 aZ_ iD_)⟩
       rw[List.any_append,cv_.out]
       simp[sY_.out]
    |_=>exact L0.elim
  case done =>
   rintro A ⟨a7_,⟨k1,k2,k3,k4_,k7_⟩,ae⟩ hD_
   have hc:=k4_.cell;have hf:=k4_.frozen
   gi_wp2
   have jW_:(A.setCell (vA (w.heap.size+1+1+1) 0) (.bool false)).heap[W.heap.size]?=some (.deferred (some [])):=(Below.heap_setCell _ _ _ _ (by simp;omega)).trans hD_;have af:=((k4_.set (.bool false)).put W.heap.size (.deferred none) (by omega)).cell
   refine⟨by simp,.inl ⟨_,_,rfl,run_takeDeferred jW_,?_⟩⟩
   exact⟨.bool false,by simp[results,results231,go_sem,af],VP a7_.symm,Wn (ae.setCell (by simp;omega) _) _ _ (by omega)⟩
  case stop =>
   rintro c pre A aC_ ⟨rfl,hv_,bE_,ae⟩ hD_
   gi_wp2
   have af:=(bE_.put W.heap.size (.deferred none) (by omega)).cell
   refine⟨by simp,.inl ⟨_,_,rfl,run_takeDeferred hD_,?_⟩⟩
   refine⟨.bool true,by simp[results,results231,go_sem,af],VP ?_,Wn ae _ _ (by omega)⟩
   symm
   rw[W7]at hv_ ⊢;obtain⟨y,hy,nr_⟩:=hv_
   exact⟨y,aC_.subset hy,nr_⟩
end
section
open Go.RowKit
variable {x:Wk}{ws zh:List Pw}{Ws c:List Wk}{i b d:Nat}{p:Pw}{st:Int}
theorem kB(x:Wk)(s t:Int):(x.yi s).yi t=x.yi t:=rfl
theorem sm(h:x.st=0):x.yi 0=x:=by cases x;simp[Wk.yi]at *;exact h.symm
theorem jX(L:List zx)(Ws:List Wk)(x v:Wk):way L Ws x (v.yi 0)=way L Ws x v:=rfl
def ug (za:List zc)(zh:List Pw)(x:Wk)(n:zc):Option Pw:=zh.reverse.find? fun p=>(ups za 4 n).any (Xx za zh x p.x)
theorem yl.e4{za:List zc}{Ws:List Wk}{ws:List Pw}(h:zh.map (·.x)=c.map (·.yi 0))(b:zh[i]?=some p):∃v,c[i]?=some v/\p.x=v.yi 0:=by
 have:=congrArg (fun l=>l[i]?) h
 simp only[VB,b,Option.map_some]at this
 cases a:c[i]? with
 |none=>rw[a]at this;cases this
 |some v=>rw[a]at this;simp at this;exact⟨v,rfl,this⟩
theorem yl.e3(h:zh.map (·.x)=c.map (·.yi 0)){v:Wk}(b:c[i]?=some v):∃p,zh[i]?=some p/\p.x=v.yi 0:=by
 have:=congrArg (fun l=>l[i]?) h
 simp only[VB,b,Option.map_some]at this
 cases a:zh[i]? with
 |none=>rw[a]at this;cases this
 |some p=>rw[a]at this;simp at this;exact⟨p,rfl,this⟩
theorem yl.kl{za:List zc}(R:yl za Ws ws zh)(T:zr za)(b:vr Ws st){n:zc}(o:n∈za)(m:n.zb=x.zb)(h:ug za zh x n=none):Xh (za.map zc.zq) Ws x=none:=by
 refine hL fun u d r=>?_
 obtain⟨c,i,k,_⟩:=R.a;have f:0<u.st:=by have:=(b.st u d).1;omega
 have g:u∈c:=k.mem_iff.2 (Vu.2 ⟨d,by simp[f]⟩);obtain⟨j,l⟩:=Vh g;obtain⟨p,hp,q⟩:=yl.e3 i l;unfold ug at h;rw[List.find?_eq_none]at h
 have:=h p (List.mem_reverse.2 (Uq hp))
 have e:=R.way (x:=x) (v:=u.yi 0) T b.yh o m (b.yh.ok u d).1 ⟨(b.yh.zm u d).1.1,(b.yh.zm u d).2.1⟩;rw[jX]at e;rw[q,e]at this
 simpa using this
theorem yl.km{za:List zc}(R:yl za Ws ws zh)(T:zr za)(f:vr Ws st){n:zc}(M:n∈za)(K:n.zb=x.zb)(h:ug za zh x n=some p):
  ∃(i:Nat) (v:Wk) (b:Nat),zh[i]?=some p/\Xh (za.map zc.zq) Ws x=some b/\Ws[b]?=some v/\0<v.st/\p.x=v.yi 0:=by
 obtain⟨c,r,s,h3⟩:=R.a;have A:∀u∈Ws,∀q:Pw,q.x=u.yi 0->(ups za 4 n).any (Xx za zh x q.x)=Proofs.YtphclnolomgjoaaGreatDoor.way (za.map zc.zq) Ws x u:=fun u d q hq=>by
  have e:=R.way (x:=x) (v:=u.yi 0) T f.yh M K (f.yh.ok u d).1 ⟨(f.yh.zm u d).1.1,(f.yh.zm u d).2.1⟩;rw[jX]at e;rw[hq,e]
 have H:∀u∈c,u∈Ws/\0<u.st:=fun u d=>by have:=Vu.1 (s.mem_iff.1 d);exact⟨this.1,by simpa using this.2⟩
 unfold ug at h;obtain⟨hp,l1,l2,L,G⟩:=List.find?_eq_some_iff_append.1 h;have m:zh=l2.reverse++p::l1.reverse:=by
  rw[<-List.reverse_reverse zh,L];simp
 have t:zh[l2.length]?=some p:=by rw[m];simp
 obtain⟨v,g,y⟩:=yl.e4 (za:=za) (Ws:=Ws) (ws:=ws) r t;obtain⟨l,z⟩:=H v (Uq g);have F:Proofs.YtphclnolomgjoaaGreatDoor.way (za.map zc.zq) Ws x v=true:=by rw[<-A v l p y];exact hp
 obtain⟨b,I,J⟩:=pO f x l z F (fun u d B E=>by
  apply Classical.byContradiction
  intro Q;have C:u∈c:=s.mem_iff.2 (Vu.2 ⟨d,by simp[B]⟩);obtain⟨j,k⟩:=Vh C;obtain⟨q,hq,D⟩:=yl.e3 r k;have w:=(Uy.1 k);have o:=(Uy.1 g);have P:l2.length<j:=by
   rcases Nat.lt_trichotomy j l2.length with h|h|h
   ·have:=List.pairwise_iff_getElem.1 h3 j l2.length w.1 o.1 h
    rw[w.2,o.2]at this;omega
   ·subst h;rw[k]at g;cases g;omega
   ·exact h
  have O:q∈l1:=by
   rw[m,Wp t_]at hq;rw[show j-l2.reverse.length=(j-l2.length-1)+1 by simp;omega,List.getElem?_cons_succ]at hq
   exact List.mem_reverse.1 (Uq hq)
  have:=G q O
  rw[A u d q D,E]at this
  cases this)
 exact⟨l2.length,v,b,t,I,J,z,y⟩
theorem YL(d:(Ws.map (·.zm)).Nodup){a b:Wk}(c:a∈Ws)(hb:b∈Ws)(e:a.zm=b.zm):a=b:=eD d c hb e
theorem yl.X9{za:List zc}(R:yl za Ws ws zh)(r:vr Ws st){v:Wk}(k:zh[i]?=some p)(e:Ws[b]?=some v)(o:0<v.st)(l:p.x=v.yi 0):
  yl za (v.yi 0::(Ws.take b++Ws.drop (b+1))) (p::ws) (zh.take i++zh.drop (i+1)):=by
 obtain⟨c,g,j,h3⟩:=R.a;have t:=Zv e;have s:(v.st == 0)=false:=by simp;omega
 have m:decide (0<v.st)=true:=decide_eq_true o
 refine⟨?_,?_,?_⟩
 ·rw[List.map_cons,R.w,l,VW];simp only[Wk.yi,beq_self_eq_true,if_true]
  congr 1
  conv=>lhs;rw[t]
  rw[List.filter_append,VW,s,List.filter_append]
  simp
 ·obtain⟨f,d,n⟩:=yl.e4 (za:=za) (Ws:=Ws) (ws:=ws) g k;have B:f=v:=by
   have m1:=(Vu.1 (j.mem_iff.1 (Uq d))).1
   refine YL r.nums m1 (Uq e) ?_
   have:=congrArg Wk.zm (n.symm.trans l)
   exact this
  subst B
  refine⟨c.take i++c.drop (i+1),?_,?_,?_⟩
  ·rw[List.map_append,List.map_take,List.map_drop,g,List.map_append,List.map_take,List.map_drop]
  ·have u:c.Perm (f::(c.take i++c.drop (i+1))):=YW d;have y:=u.symm.trans j;have z:(Ws.filter fun x=>decide (0<x.st)).Perm (f::((Ws.take b++Ws.drop (b+1)).filter fun x=>decide (0<x.st))):=by
    have:=(YW e).filter (fun x=>decide (0<x.st))
    rwa[VW,if_pos m]at this
   have A:=(y.trans z).cons_inv;rw[VW,if_neg (by simp[Wk.yi])]
   exact A
  ·have:(c.take i++c.drop (i+1)).Sublist c:=by
    conv=>rhs;rw[Zv d]
    exact(List.Sublist.refl _).append (List.sublist_cons_self ..)
   exact h3.sublist this
 ·intro q hq
  have:q∈ws++zh:=by
   rcases UU.1 hq with h|h
   ·rcases List.mem_cons.1 h with rfl|h
    ·exact U8 _ (Uq k)
    ·exact UM _ h
   ·exact U8 _ (XI h)
  exact R.zj q this
theorem yl.admit{za:List zc}(R:yl za Ws ws zh)(m:vr Ws st)(C:0<=st)(n:ws[i]?=some p)(r:Ws[d]?=some x)(f:x.st=0)(t:p.x=x):
  yl za (Ws.set d (x.yi (st+1))) (ws.take i++ws.drop (i+1)) (zh++[p]):=by
 obtain⟨c,y,g,h3⟩:=R.a;have s:=Zv r;have k:Ws.set d (x.yi (st+1))=Ws.take d++x.yi (st+1)::Ws.drop (d+1):=bF r _;have A:(x.st == 0)=true:=by simp[f]
 have o:=R.w;have j:ws.map (·.x)=(Ws.take d).filter (fun x=>x.st == 0)++x::(Ws.drop (d+1)).filter (fun x=>x.st == 0):=by
  rw[o]
  conv=>lhs;rw[s]
  rw[List.filter_append,VW,if_pos A]
 have u:(ws.map (·.x)).Nodup:=by
  rw[o];exact(Yz m.nums).filter _
 have B:i=((Ws.take d).filter (fun x=>x.st == 0)).length:=by
  have l:(ws.map (·.x))[i]?=some x:=by rw[VB,n,<- t];rfl
  have v:(ws.map (·.x))[((Ws.take d).filter (fun x=>x.st == 0)).length]?=some x:=by rw[j];simp
  exact(List.getElem?_inj (Uy.1 l).1 u).1 (l.trans v.symm)
 refine⟨?_,?_,?_⟩
 ·rw[List.map_append,List.map_take,List.map_drop,j,k,List.filter_append,VW,if_neg (by simp[Wk.yi];omega)];rw[B]
  simp
 ·refine⟨c++[x.yi (st+1)],?_,?_,?_⟩
  ·rw[List.map_append,List.map_append,y];simp only[List.map_cons,List.map_nil,kB,t,sm f]
  ·rw[k,List.filter_append,VW,if_pos (show decide (0<(x.yi (st+1)).st)=true from decide_eq_true (show 0<st+1 by omega))];have e:(Ws.filter fun x=>decide (0<x.st))=(Ws.take d).filter (fun x=>decide (0<x.st))++(Ws.drop (d+1)).filter (fun x=>decide (0<x.st)):=by
    conv=>lhs;rw[s]
    rw[List.filter_append,VW,if_neg (by simp[f])]
   rw[e]at g
   exact(List.perm_append_comm.trans ((g.cons _))).trans List.perm_middle.symm
  ·rw[YV]
   refine⟨h3,s_,fun a z b hb=>?_⟩
   simp at hb
   subst hb
   have:=(m.st a (Vu.1 (g.mem_iff.1 z)).1).2
   show a.st<st+1
   omega
 ·intro q hq
  have:q∈ws++zh:=by
   rcases UU.1 hq with h|h
   ·exact UM _ (XI h)
   ·rcases UU.1 h with h|h
    ·exact U8 _ h
    ·simp at h;subst h;exact UM _ (Uq n)
  exact R.zj q this
theorem yl.share{za:List zc}(R:yl za Ws ws zh)(T:zr za)(b:xm Ws)(a:UL x.zb=true):
  max (xe (yf (pun zh x.zb)+x.d0) (xt za x.zb)*max 1 (xr za [])) (xe (yg (pun zh x.zb)+x.d1) (xr za x.zb)*max 1 (xt za []))=shp (za.map zc.zq) Ws x:=by
 have e:=Xz T (k:=[]) r_;unfold shp xe;rw[(R.use b a).1,(R.use b a).2,(Xz T a).1,(Xz T a).2,e.1,e.2]
 rfl
end
end Go.Proofs.YtphclnolomgjoaaGreatDoor
