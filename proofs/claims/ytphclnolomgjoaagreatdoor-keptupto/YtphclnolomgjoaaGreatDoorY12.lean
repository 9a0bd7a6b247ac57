import Derived.Test.YtphclnolomgjoaaGreatDoorY08
import Derived.Test.YtphclnolomgjoaaGreatDoorY09
import Derived.Test.YtphclnolomgjoaaGreatDoorY10
import Derived.Test.YtphclnolomgjoaaGreatDoorY11
import Derived.Test.YtphclnolomgjoaaGreatDoorB37
import Derived.Test.YtphclnolomgjoaaGreatDoorY01
set_option linter.unusedVariables false
set_option linter.unusedSimpArgs false
namespace Go.Proofs.YtphclnolomgjoaaGreatDoor
open Go.RowKit
theorem kept_walk {W : World} {aq as_ am : Option Addr} {lq cq ls cs lm cm : Nat} {q : Nat → Int} {S M : Nat → Stp} (hq : QIn W aq lq q) (hlq : lq ≤ cq) (hcq : cq ≤ maxLen) (hS : StIn W as_ ls S) (hls : ls ≤ cs) (hcs : cs ≤ maxLen) (hM : StIn W am lm M) (hlm : lm ≤ cm) (hcm : cm ≤ maxLen) (wrong : ByteArray) (hwr : wrong.size ≤ 1500000) :
    Calls Tryz.prog 11 #[.slice aq lq cq, .slice as_ ls cs, .slice am lm cm, .string wrong] W fun e w' => e = .returned (.bool true) ∧ Below W.heap.size W w' := by
  by_cases hsa : ls ≤ 50
  · by_cases hsb : lm ≤ 10
    · exact kept_walk1 hq hlq hcq hS hls hcs hM hlm hcm wrong hwr hsa hsb
    · exact kept_walk2 hq hlq hcq hS hls hcs hM hlm hcm wrong hwr hsa (by omega)
  · by_cases hsb : lm ≤ 10
    · exact kept_walk3 hq hlq hcq hS hls hcs hM hlm hcm wrong hwr (by omega) hsb
    · exact kept_walk4 hq hlq hcq hS hls hcs hM hlm hcm wrong hwr (by omega) (by omega)
end Go.Proofs.YtphclnolomgjoaaGreatDoor
