/-
  DERIVED. GIVEN WITH THE SEED: THE CARDS: each row of YtliimmpokhmjeaaGreatDoorRows.lean that lists a variable, with what it lists TIED to the program's text (the seventh form; the later family's looks); each row that meets fmt, with fmt's text TOLD by the authors' own Lean function (tested against real Go, not proved from fmt's source: count such statements apart). THE CARD IS WHAT COUNTS. Prove the row's statement (the work); the ties are given (YtliimmpokhmjeaaGreatDoorTie.lean); close each card by the builder's one call (the guide's Derived/Test/ToyasCard.lean, 'card_holds'). Laid BY PROGRAM, IN A SANDBOX (cutbox-door.mjs). By AI agents, Wed Nov 11 2026. No macro, syntax, notation, axiom, sorry.
-/
import Derived.Test.YtliimmpokhmjeaaGreatDoorRows
import GoSem.ClaimSeven
namespace Go.Proofs.YtliimmpokhmjeaaGreatDoor
namespace Rows

/-- THE TIED CARD OF 'laganlaw01.CargoMarks'. -/
def cargoMarksCard : Claim7 := { stood := { row := cargoMarksRow, standIns := [], harness := (true, "86c97fa550993e72486fe28239615fa6282b2d4a4c4db54e0619c594f83c0000"), looks := true }, kinds := [], alts := [], laidByText := true, laidKinds := [.data, .data, .data, .data, .sentinel, .sentinel, .data, .pinned], laidTests := true, laidLooks := .later }
def CargoMarksCardSaid : Prop := Claim7.holds Tryz.pinned (.plain (OpenSpec.ofChange cargoMarksSpec)) cargoMarksCard

/-- THE SECOND FORM's CARD OF 'laganlaw01.CargoMarks'. -/
def cargoMarksUptoCard : Claim7 := { stood := { row := cargoMarksUptoRow, standIns := [], harness := (true, "86c97fa550993e72486fe28239615fa6282b2d4a4c4db54e0619c594f83c0000"), looks := true }, kinds := [], alts := [], laidByText := true, laidKinds := [.data, .data, .data, .data, .sentinel, .sentinel, .data, .pinned], laidTests := true, laidLooks := .later }
def CargoMarksUptoCardSaid : Prop := Claim7.holds Tryz.pinned (.plain (OpenSpec.upto cargoMarksSpec)) cargoMarksUptoCard
end Rows
end Go.Proofs.YtliimmpokhmjeaaGreatDoor
