/-
  DERIVED. GIVEN WITH THE SEED: THE CARDS: each row of YtpdemfamfmeemacGreatDoorRows.lean that lists a variable, with what it lists TIED to the program's text (the seventh form; the later family's looks); each row that meets fmt, with fmt's text TOLD by the authors' own Lean function (tested against real Go, not proved from fmt's source: count such statements apart). THE CARD IS WHAT COUNTS. Prove the row's statement (the work); the ties are given (YtpdemfamfmeemacGreatDoorTie.lean); close each card by the builder's one call (the guide's Derived/Test/ToyasCard.lean, 'card_holds'). Laid BY PROGRAM, IN A SANDBOX (cutbox-door.mjs). By AI agents, Wed Nov 11 2026. No macro, syntax, notation, axiom, sorry.
-/
import Derived.Test.YtpdemfamfmeemacGreatDoorRows
import GoSem.ClaimSeven
namespace Go.Proofs.YtpdemfamfmeemacGreatDoor
namespace Rows

/-- THE TIED CARD OF 'laganlaw06.AwardMerges'. -/
def awardMergesCard : Claim7 := { stood := { row := awardMergesRow, standIns := [], harness := (true, "22f462f954b0c9cbb7b8803bdf55645b7d9d92a97d2a36781f5a8465e9f538df"), looks := false }, kinds := [], alts := [], laidByText := true, laidKinds := [.data, .data], laidTests := true, laidLooks := .later }
def AwardMergesCardSaid : Prop := Claim7.holds Tryz.pinned (.plain (OpenSpec.ofChange awardMergesSpec)) awardMergesCard

/-- THE SECOND FORM's CARD OF 'laganlaw06.AwardMerges'. -/
def awardMergesUptoCard : Claim7 := { stood := { row := awardMergesUptoRow, standIns := [], harness := (true, "22f462f954b0c9cbb7b8803bdf55645b7d9d92a97d2a36781f5a8465e9f538df"), looks := false }, kinds := [], alts := [], laidByText := true, laidKinds := [.data, .data], laidTests := true, laidLooks := .later }
def AwardMergesUptoCardSaid : Prop := Claim7.holds Tryz.pinned (.plain (OpenSpec.upto awardMergesSpec)) awardMergesUptoCard
end Rows
end Go.Proofs.YtpdemfamfmeemacGreatDoor
