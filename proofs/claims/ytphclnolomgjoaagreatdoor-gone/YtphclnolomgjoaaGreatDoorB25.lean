import Derived.Test.YtphclnolomgjoaaGreatDoorB23
set_option linter.unusedVariables false
set_option linter.unusedSimpArgs false
set_option maxRecDepth 100000
set_option maxHeartbeats 4000000
namespace Go.Proofs.YtphclnolomgjoaaGreatDoor
open Tryz
open Go.RowKit
theorem qxw(w:World):Calls prog 38 #[] w fun e w'=>e=.returned (.pointer (some ⟨w.heap.size+2,0,none⟩)) /\
  w'=((w.alloc (.cells #[.int .i64 0,.int .i64 0] 35)).alloc (.cells #[.string ⟨#[]⟩,.bool false,.int .i64 0,.int .i64 0,.int .i64 0,.int .i64 0,.pointer none,.slice none 0 0] 136)).alloc (.cells #[.pointer (some ⟨w.heap.size+1,0,none⟩),.int .i64 0,.slice none 0 0,.slice none 0 0] 102):=by
 go_enter func38,ntmps38
 go_wp2_with (go_at_call 54;refine(qe3 _ _ _).mono ?_;rintro e w1 ⟨rfl,ck⟩;subst ck)
 go_ret
 exact⟨by simp,rfl⟩
def qjj (b:Nat):Node:={blk:=b,key:=[],leaf:=false,n0:=0,n1:=0,b0:=0,b1:=0,up:=none,sl:=.slice none 0 0,kids:=[]}
theorem qzt(b:Nat):Tree [qjj b]:=by
 refine⟨⟨qjj b,rfl,rfl,rfl,rfl,rfl⟩,?_,by simp,?_,?_,?_,?_,?_,by simp⟩
 ·intro n hn m hm _;simp at hn hm;rw[hn,hm]
 ·intro n hn;simp at hn;subst hn;exact⟨rfl,by simp[qjj]⟩
 ·intro n hn;simp at hn;subst hn;simp[qjj]
 ·intro n hn _;simp at hn;subst hn;rfl
 ·intro n hn k x hk;simp at hn;subst hn;simp[qjj]at hk
 ·intro p hp;simp at hp;subst hp
  refine⟨[],rfl,fun k=>?_,by simp⟩
  simp only[List.not_mem_nil,List.mem_singleton,false_iff,not_and]
  rintro rfl ⟨x,hx⟩;simp[qjj]at hx
theorem qvw(w:World):Calls prog 38 #[] w fun e w'=>∃nd bt,e=.returned (.pointer (some ⟨bt,0,none⟩))/\Below w.heap.size w w'/\Blk w' nd 136 #[.string ⟨#[]⟩,.bool false,.int .i64 0,.int .i64 0,.int .i64 0,.int .i64 0,.pointer none,.slice none 0 0]/\Blk w' bt 102 #[.pointer (some ⟨nd,0,none⟩),.int .i64 0,.slice none 0 0,.slice none 0 0]/\w.heap.size<=nd/\nd<bt/\bt<w'.heap.size:=by
 refine(qxw w).mono ?_
 rintro e w' ⟨rfl,rfl⟩
 refine⟨w.heap.size+1,w.heap.size+2,rfl,?_,?_,Blk.new' (by simp),by omega,by omega,by simp⟩
 ·exact(((Below.refl _ _).alloc (Nat.le_refl _) _).alloc (by simp) _).alloc (by simp;omega) _
 ·exact(Blk.new' (by simp)).alloc _
end Go.Proofs.YtphclnolomgjoaaGreatDoor
