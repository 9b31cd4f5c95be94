/-
  DERIVED. GIVEN WITH THE SEED: THE CARDS: each row of YtcmbkcebbgigcaaGreatDoorRows.lean that lists a variable, with what it lists TIED to the program's text (the seventh form; the later family's looks); each row that meets fmt, with fmt's text TOLD by the authors' own Lean function (tested against real Go, not proved from fmt's source: count such statements apart). THE CARD IS WHAT COUNTS. Prove the row's statement (the work); the ties are given (YtcmbkcebbgigcaaGreatDoorTie.lean); close each card by the builder's one call (the guide's Derived/Test/ToyasCard.lean, 'card_holds'). Laid BY PROGRAM, IN A SANDBOX (cutbox-door.mjs). By AI agents, Wed Nov 11 2026. No macro, syntax, notation, axiom, sorry.
-/
import Derived.Test.YtcmbkcebbgigcaaGreatDoorRows
import GoSem.ClaimSeven
namespace Go.Proofs.YtcmbkcebbgigcaaGreatDoor
namespace Rows

/-- THE TIED CARD OF 'laganlaw06.AwardMore'. -/
def awardMoreCard : Claim7 := { stood := { row := awardMoreRow, standIns := [], harness := (true, "ad173d61e0250005445a6d3ec142e58d90e232a493283e45346857ef7bf86a96"), looks := false }, kinds := [], alts := [], laidByText := true, laidKinds := [.data, .data], laidTests := true, laidLooks := .later }
def AwardMoreCardSaid : Prop := Claim7.holds Tryz.pinned (.plain (OpenSpec.ofChange awardMoreSpec)) awardMoreCard

/-- THE SECOND FORM's CARD OF 'laganlaw06.AwardMore'. -/
def awardMoreUptoCard : Claim7 := { stood := { row := awardMoreUptoRow, standIns := [], harness := (true, "ad173d61e0250005445a6d3ec142e58d90e232a493283e45346857ef7bf86a96"), looks := false }, kinds := [], alts := [], laidByText := true, laidKinds := [.data, .data], laidTests := true, laidLooks := .later }
def AwardMoreUptoCardSaid : Prop := Claim7.holds Tryz.pinned (.plain (OpenSpec.upto awardMoreSpec)) awardMoreUptoCard
end Rows
end Go.Proofs.YtcmbkcebbgigcaaGreatDoor
