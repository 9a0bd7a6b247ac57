/-
  DERIVED. GIVEN WITH THE SEED: THE CARDS: each row of YtphclnolomgjoaaGreatDoorRows.lean that lists a variable, with what it lists TIED to the program's text (the seventh form; the later family's looks); each row that meets fmt, with fmt's text TOLD by the authors' own Lean function (tested against real Go, not proved from fmt's source: count such statements apart). THE CARD IS WHAT COUNTS. Prove the row's statement (the work); the ties are given (YtphclnolomgjoaaGreatDoorTie.lean); close each card by the builder's one call (the guide's Derived/Test/ToyasCard.lean, 'card_holds'). Laid BY PROGRAM, IN A SANDBOX (cutbox-door.mjs). By AI agents, Wed Nov 11 2026. No macro, syntax, notation, axiom, sorry.
-/
import Derived.Test.YtphclnolomgjoaaGreatDoorRows
import GoSem.ClaimSeven
namespace Go.Proofs.YtphclnolomgjoaaGreatDoor
namespace Rows

/-- THE TIED CARD OF 'borrowlaw.Trees'. -/
def treesCard : Claim7 := { stood := { row := treesRow, standIns := [], harness := (true, "47e0b37acd76f44b2836bb18a8307c695b4074df28dabd7ee822772feec2eeca"), looks := false }, kinds := [], alts := [], laidByText := true, laidKinds := [.data, .pinned], laidTests := true, laidLooks := .later }
def TreesCardSaid : Prop := Claim7.holds Tryz.pinned (.plain (OpenSpec.ofChange treesSpec)) treesCard

/-- THE TIED CARD OF 'borrowlaw.Admits'. -/
def admitsCard : Claim7 := { stood := { row := admitsRow, standIns := [], harness := (true, "47e0b37acd76f44b2836bb18a8307c695b4074df28dabd7ee822772feec2eeca"), looks := false }, kinds := [], alts := [], laidByText := true, laidKinds := [.data, .pinned], laidTests := true, laidLooks := .later }
def AdmitsCardSaid : Prop := Claim7.holds Tryz.pinned (.plain (OpenSpec.ofChange admitsSpec)) admitsCard

/-- THE TIED CARD OF 'borrowlaw.Changes'. -/
def changesCard : Claim7 := { stood := { row := changesRow, standIns := [], harness := (true, "47e0b37acd76f44b2836bb18a8307c695b4074df28dabd7ee822772feec2eeca"), looks := false }, kinds := [], alts := [], laidByText := true, laidKinds := [.data, .pinned], laidTests := true, laidLooks := .later }
def ChangesCardSaid : Prop := Claim7.holds Tryz.pinned (.plain (OpenSpec.ofChange changesSpec)) changesCard

/-- THE TIED CARD OF 'borrowkeep.Bounded'. -/
def boundedCard : Claim7 := { stood := { row := boundedRow, standIns := [], harness := (true, "47e0b37acd76f44b2836bb18a8307c695b4074df28dabd7ee822772feec2eeca"), looks := false }, kinds := [], alts := [], laidByText := true, laidKinds := [.data, .pinned], laidTests := true, laidLooks := .later }
def BoundedCardSaid : Prop := Claim7.holds Tryz.pinned (.plain (OpenSpec.ofChange boundedSpec)) boundedCard

/-- THE TIED CARD OF 'borrowkeep.Idle'. -/
def idleCard : Claim7 := { stood := { row := idleRow, standIns := [], harness := (true, "47e0b37acd76f44b2836bb18a8307c695b4074df28dabd7ee822772feec2eeca"), looks := false }, kinds := [], alts := [], laidByText := true, laidKinds := [.data, .pinned], laidTests := true, laidLooks := .later }
def IdleCardSaid : Prop := Claim7.holds Tryz.pinned (.plain (OpenSpec.ofChange idleSpec)) idleCard

/-- THE TIED CARD OF 'borrowkeep.Granted'. -/
def grantedCard : Claim7 := { stood := { row := grantedRow, standIns := [], harness := (true, "47e0b37acd76f44b2836bb18a8307c695b4074df28dabd7ee822772feec2eeca"), looks := false }, kinds := [], alts := [], laidByText := true, laidKinds := [.data, .pinned], laidTests := true, laidLooks := .later }
def GrantedCardSaid : Prop := Claim7.holds Tryz.pinned (.plain (OpenSpec.ofChange grantedSpec)) grantedCard

/-- THE TIED CARD OF 'borrowkeep.Fair'. -/
def fairCard : Claim7 := { stood := { row := fairRow, standIns := [], harness := (true, "47e0b37acd76f44b2836bb18a8307c695b4074df28dabd7ee822772feec2eeca"), looks := false }, kinds := [], alts := [], laidByText := true, laidKinds := [.data, .pinned], laidTests := true, laidLooks := .later }
def FairCardSaid : Prop := Claim7.holds Tryz.pinned (.plain (OpenSpec.ofChange fairSpec)) fairCard

/-- THE TIED CARD OF 'borrowkeep.Lined'. -/
def linedCard : Claim7 := { stood := { row := linedRow, standIns := [], harness := (true, "47e0b37acd76f44b2836bb18a8307c695b4074df28dabd7ee822772feec2eeca"), looks := false }, kinds := [], alts := [], laidByText := true, laidKinds := [.data, .pinned], laidTests := true, laidLooks := .later }
def LinedCardSaid : Prop := Claim7.holds Tryz.pinned (.plain (OpenSpec.ofChange linedSpec)) linedCard

/-- THE TIED CARD OF 'borrowkeep.Kept'. -/
def keptCard : Claim7 := { stood := { row := keptRow, standIns := [], harness := (true, "47e0b37acd76f44b2836bb18a8307c695b4074df28dabd7ee822772feec2eeca"), looks := false }, kinds := [], alts := [], laidByText := true, laidKinds := [.data, .pinned], laidTests := true, laidLooks := .later }
def KeptCardSaid : Prop := Claim7.holds Tryz.pinned (.plain (OpenSpec.ofChange keptSpec)) keptCard

/-- THE TIED CARD OF 'borrowkeep.Gone'. -/
def goneCard : Claim7 := { stood := { row := goneRow, standIns := [], harness := (true, "47e0b37acd76f44b2836bb18a8307c695b4074df28dabd7ee822772feec2eeca"), looks := false }, kinds := [], alts := [], laidByText := true, laidKinds := [.data, .pinned], laidTests := true, laidLooks := .later }
def GoneCardSaid : Prop := Claim7.holds Tryz.pinned (.plain (OpenSpec.ofChange goneSpec)) goneCard

/-- THE TIED CARD OF 'borrowlaw.All'. -/
def allCard : Claim7 := { stood := { row := allRow, standIns := [], harness := (true, "47e0b37acd76f44b2836bb18a8307c695b4074df28dabd7ee822772feec2eeca"), looks := false }, kinds := [], alts := [], laidByText := true, laidKinds := [.data, .pinned], laidTests := true, laidLooks := .later }
def AllCardSaid : Prop := Claim7.holds Tryz.pinned (.plain (OpenSpec.ofChange allSpec)) allCard

/-- THE SECOND FORM's CARD OF 'borrowlaw.Trees'. -/
def treesUptoCard : Claim7 := { stood := { row := treesUptoRow, standIns := [], harness := (true, "47e0b37acd76f44b2836bb18a8307c695b4074df28dabd7ee822772feec2eeca"), looks := false }, kinds := [], alts := [], laidByText := true, laidKinds := [.data, .pinned], laidTests := true, laidLooks := .later }
def TreesUptoCardSaid : Prop := Claim7.holds Tryz.pinned (.plain (OpenSpec.upto treesSpec)) treesUptoCard

/-- THE SECOND FORM's CARD OF 'borrowlaw.Admits'. -/
def admitsUptoCard : Claim7 := { stood := { row := admitsUptoRow, standIns := [], harness := (true, "47e0b37acd76f44b2836bb18a8307c695b4074df28dabd7ee822772feec2eeca"), looks := false }, kinds := [], alts := [], laidByText := true, laidKinds := [.data, .pinned], laidTests := true, laidLooks := .later }
def AdmitsUptoCardSaid : Prop := Claim7.holds Tryz.pinned (.plain (OpenSpec.upto admitsSpec)) admitsUptoCard

/-- THE SECOND FORM's CARD OF 'borrowlaw.Changes'. -/
def changesUptoCard : Claim7 := { stood := { row := changesUptoRow, standIns := [], harness := (true, "47e0b37acd76f44b2836bb18a8307c695b4074df28dabd7ee822772feec2eeca"), looks := false }, kinds := [], alts := [], laidByText := true, laidKinds := [.data, .pinned], laidTests := true, laidLooks := .later }
def ChangesUptoCardSaid : Prop := Claim7.holds Tryz.pinned (.plain (OpenSpec.upto changesSpec)) changesUptoCard

/-- THE SECOND FORM's CARD OF 'borrowkeep.Bounded'. -/
def boundedUptoCard : Claim7 := { stood := { row := boundedUptoRow, standIns := [], harness := (true, "47e0b37acd76f44b2836bb18a8307c695b4074df28dabd7ee822772feec2eeca"), looks := false }, kinds := [], alts := [], laidByText := true, laidKinds := [.data, .pinned], laidTests := true, laidLooks := .later }
def BoundedUptoCardSaid : Prop := Claim7.holds Tryz.pinned (.plain (OpenSpec.upto boundedSpec)) boundedUptoCard

/-- THE SECOND FORM's CARD OF 'borrowkeep.Idle'. -/
def idleUptoCard : Claim7 := { stood := { row := idleUptoRow, standIns := [], harness := (true, "47e0b37acd76f44b2836bb18a8307c695b4074df28dabd7ee822772feec2eeca"), looks := false }, kinds := [], alts := [], laidByText := true, laidKinds := [.data, .pinned], laidTests := true, laidLooks := .later }
def IdleUptoCardSaid : Prop := Claim7.holds Tryz.pinned (.plain (OpenSpec.upto idleSpec)) idleUptoCard

/-- THE SECOND FORM's CARD OF 'borrowkeep.Granted'. -/
def grantedUptoCard : Claim7 := { stood := { row := grantedUptoRow, standIns := [], harness := (true, "47e0b37acd76f44b2836bb18a8307c695b4074df28dabd7ee822772feec2eeca"), looks := false }, kinds := [], alts := [], laidByText := true, laidKinds := [.data, .pinned], laidTests := true, laidLooks := .later }
def GrantedUptoCardSaid : Prop := Claim7.holds Tryz.pinned (.plain (OpenSpec.upto grantedSpec)) grantedUptoCard

/-- THE SECOND FORM's CARD OF 'borrowkeep.Fair'. -/
def fairUptoCard : Claim7 := { stood := { row := fairUptoRow, standIns := [], harness := (true, "47e0b37acd76f44b2836bb18a8307c695b4074df28dabd7ee822772feec2eeca"), looks := false }, kinds := [], alts := [], laidByText := true, laidKinds := [.data, .pinned], laidTests := true, laidLooks := .later }
def FairUptoCardSaid : Prop := Claim7.holds Tryz.pinned (.plain (OpenSpec.upto fairSpec)) fairUptoCard

/-- THE SECOND FORM's CARD OF 'borrowkeep.Lined'. -/
def linedUptoCard : Claim7 := { stood := { row := linedUptoRow, standIns := [], harness := (true, "47e0b37acd76f44b2836bb18a8307c695b4074df28dabd7ee822772feec2eeca"), looks := false }, kinds := [], alts := [], laidByText := true, laidKinds := [.data, .pinned], laidTests := true, laidLooks := .later }
def LinedUptoCardSaid : Prop := Claim7.holds Tryz.pinned (.plain (OpenSpec.upto linedSpec)) linedUptoCard

/-- THE SECOND FORM's CARD OF 'borrowkeep.Kept'. -/
def keptUptoCard : Claim7 := { stood := { row := keptUptoRow, standIns := [], harness := (true, "47e0b37acd76f44b2836bb18a8307c695b4074df28dabd7ee822772feec2eeca"), looks := false }, kinds := [], alts := [], laidByText := true, laidKinds := [.data, .pinned], laidTests := true, laidLooks := .later }
def KeptUptoCardSaid : Prop := Claim7.holds Tryz.pinned (.plain (OpenSpec.upto keptSpec)) keptUptoCard

/-- THE SECOND FORM's CARD OF 'borrowkeep.Gone'. -/
def goneUptoCard : Claim7 := { stood := { row := goneUptoRow, standIns := [], harness := (true, "47e0b37acd76f44b2836bb18a8307c695b4074df28dabd7ee822772feec2eeca"), looks := false }, kinds := [], alts := [], laidByText := true, laidKinds := [.data, .pinned], laidTests := true, laidLooks := .later }
def GoneUptoCardSaid : Prop := Claim7.holds Tryz.pinned (.plain (OpenSpec.upto goneSpec)) goneUptoCard

/-- THE SECOND FORM's CARD OF 'borrowlaw.All'. -/
def allUptoCard : Claim7 := { stood := { row := allUptoRow, standIns := [], harness := (true, "47e0b37acd76f44b2836bb18a8307c695b4074df28dabd7ee822772feec2eeca"), looks := false }, kinds := [], alts := [], laidByText := true, laidKinds := [.data, .pinned], laidTests := true, laidLooks := .later }
def AllUptoCardSaid : Prop := Claim7.holds Tryz.pinned (.plain (OpenSpec.upto allSpec)) allUptoCard
end Rows
end Go.Proofs.YtphclnolomgjoaaGreatDoor
