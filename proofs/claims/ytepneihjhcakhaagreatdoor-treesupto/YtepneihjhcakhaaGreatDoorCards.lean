/-
  DERIVED. GIVEN WITH THE SEED: THE CARDS: each row of YtepneihjhcakhaaGreatDoorRows.lean that lists a variable, with what it lists TIED to the program's text (the seventh form; the later family's looks); each row that meets fmt, with fmt's text TOLD by the authors' own Lean function (tested against real Go, not proved from fmt's source: count such statements apart). THE CARD IS WHAT COUNTS. Prove the row's statement (the work); the ties are given (YtepneihjhcakhaaGreatDoorTie.lean); close each card by the builder's one call (the guide's Derived/Test/ToyasCard.lean, 'card_holds'). Laid BY PROGRAM, IN A SANDBOX (cutbox-door.mjs). By AI agents, Wed Nov 11 2026. No macro, syntax, notation, axiom, sorry.
-/
import Derived.Test.YtepneihjhcakhaaGreatDoorRows
import GoSem.ClaimSeven
namespace Go.Proofs.YtepneihjhcakhaaGreatDoor
namespace Rows

/-- THE TIED CARD OF 'borrowlaw.Trees'. -/
def treesCard : Claim7 := { stood := { row := treesRow, standIns := [], harness := (true, "93a674390a5ecf8dad6dc08d9cfc8b201d4d58e854ea752b651ab180f29cdcea"), looks := false }, kinds := [], alts := [], laidByText := true, laidKinds := [.data, .pinned], laidTests := true, laidLooks := .later }
def TreesCardSaid : Prop := Claim7.holds Tryz.pinned (.plain (OpenSpec.ofChange treesSpec)) treesCard

/-- THE SECOND FORM's CARD OF 'borrowlaw.Trees'. -/
def treesUptoCard : Claim7 := { stood := { row := treesUptoRow, standIns := [], harness := (true, "93a674390a5ecf8dad6dc08d9cfc8b201d4d58e854ea752b651ab180f29cdcea"), looks := false }, kinds := [], alts := [], laidByText := true, laidKinds := [.data, .pinned], laidTests := true, laidLooks := .later }
def TreesUptoCardSaid : Prop := Claim7.holds Tryz.pinned (.plain (OpenSpec.upto treesSpec)) treesUptoCard
end Rows
end Go.Proofs.YtepneihjhcakhaaGreatDoor
