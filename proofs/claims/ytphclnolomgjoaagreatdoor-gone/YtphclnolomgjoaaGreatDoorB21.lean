import Derived.Test.YtphclnolomgjoaaGreatDoorB07
import Derived.Test.YtphclnolomgjoaaGreatDoorB05
set_option linter.unusedVariables false
set_option linter.unusedSimpArgs false
set_option maxRecDepth 100000
set_option maxHeartbeats 4000000
namespace Go.Proofs.YtphclnolomgjoaaGreatDoor
open Tryz
open Go.RowKit
variable {τ : Nat->Tag}{H b:Nat}{W:World}
theorem qu3(a b c e:Int)(w:World):(Op.equalIn 10000 35 (.agg #[.int .i64 a,.int .i64 b]) (.agg #[.int .i64 c,.int .i64 e])).run prog w=.ok (a == c&&b == e) w:=by
 rw[show(10000:Nat)=9998+2 from rfl,eq35]
theorem qz5(d:Nat)(a b c e:Int)(w:World):(Op.equalIn (d+2) 60 (.agg #[.int .i64 a,.int .i64 b]) (.agg #[.int .i64 c,.int .i64 e])).run prog w=.ok (a == c&&b == e) w:=by
 have u3:=underlying3;have Dy:=underlying60;have z3:=sizeOf3;have a3:=isAgg3;unfold Op.equalIn;simp only[Sem.run_bind,run_underlying Dy,Result.andThen_ok]
 simp[go_sem,z3,a3,List.range',Std.Legacy.Range.forIn_eq_forIn_range',part]
 by_cases h:a=c<;>by_cases k:b=e<;>simp[h,k]
theorem qu4(a b c e:Int)(w:World):(Op.equalIn 10000 60 (.agg #[.int .i64 a,.int .i64 b]) (.agg #[.int .i64 c,.int .i64 e])).run prog w=.ok (a == c&&b == e) w:=by
 rw[show(10000:Nat)=9998+2 from rfl,qz5]
def qz1 (W:World)(ao:Option Addr)(l:List (Int×Int)):Prop:=∀(i:Nat) e,l[i]?=some e->∃g,ao=some ⟨g,0,none⟩/\g<W.heap.size/\W.cell? ⟨g,i*2,none⟩=some (.int .i64 e.1)/\W.cell? ⟨g,i*2+1,none⟩=some (.int .i64 e.2)
def qcq (τ : Nat->Tag)(H:Nat)(b:Nat):Tag:=if b<H then τ b else .free
theorem qa5(h:b<H):qcq τ H b = τ b:=by simp[qcq,h]
theorem qeo(h:H<=b):qcq τ H b=.free:=by simp[qcq,Nat.not_lt.2 h]
theorem qhu:∀(l:List (Int×Int)) (i:Nat) (e:Int×Int),l[i]?=some e->(qam l)[i*2]?=some (.int .i64 e.1)/\(qam l)[i*2+1]?=some (.int .i64 e.2)
 | [],_,_,h=>by simp at h
 |a::l,0,x,h=>by simp at h;subst h;exact⟨rfl,rfl⟩
 |a::l,t+1,x,h=>by
  have ih:=qhu l t x (by simpa using h);simp only[qam,List.flatMap_cons]at ih ⊢
  refine⟨?_,?_⟩
  ·rw[xro (by simp[qfe];omega)];rw[show(t+1)*2-(qfe a).length=t*2 by simp[qfe];omega];exact ih.1
  ·rw[xro (by simp[qfe];omega)];rw[show(t+1)*2+1-(qfe a).length=t*2+1 by simp[qfe];omega];exact ih.2
theorem qo8{a:Option Addr}{n c:Nat}{l:List (Int×Int)}(h:W.ownsRow 0 60 2 (.slice a n c) n (qam l)):qz1 W a l:=fun i e hi=>by
 rcases h.2 with ⟨h1,h0⟩|⟨g,cap,aH,h1,_,hg,_⟩
 ·have hl:=h.1;rw[qmd]at hl
  have:=(xr0.1 hi).1
  omega
 ·cases h1
  obtain⟨e1,e2⟩:=qhu l i e hi;have d1:=h.cells (g:=g) rfl _ _ e1;have d2:=h.cells (g:=g) rfl _ _ e2;rw[Addr.add_lit,Nat.zero_add]at d1 d2
  exact⟨g,rfl,(xrc.1 hg).1,d1,d2⟩
end Go.Proofs.YtphclnolomgjoaaGreatDoor
