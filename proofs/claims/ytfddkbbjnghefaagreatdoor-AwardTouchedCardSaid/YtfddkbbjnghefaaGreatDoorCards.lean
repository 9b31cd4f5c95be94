/-
  DERIVED. GIVEN WITH THE SEED: THE CARDS: each row of YtfddkbbjnghefaaGreatDoorRows.lean that lists a variable, with what it lists TIED to the program's text (the seventh form; the later family's looks); each row that meets fmt, with fmt's text TOLD by the authors' own Lean function (tested against real Go, not proved from fmt's source: count such statements apart). THE CARD IS WHAT COUNTS. Prove the row's statement (the work); the ties are given (YtfddkbbjnghefaaGreatDoorTie.lean); close each card by the builder's one call (the guide's Derived/Test/ToyasCard.lean, 'card_holds'). Laid BY PROGRAM, IN A SANDBOX (cutbox-door.mjs). By AI agents, Wed Nov 11 2026. No macro, syntax, notation, axiom, sorry.
-/
import Derived.Test.YtfddkbbjnghefaaGreatDoorRows
import GoSem.ClaimSeven
namespace Go.Proofs.YtfddkbbjnghefaaGreatDoor
namespace Rows

/-- THE TIED CARD OF 'laganlaw06.AwardForce'. -/
def awardForceCard : Claim7 := { stood := { row := awardForceRow, standIns := [], harness := (true, "711bf75ef7c5410032b4f4b9aab3739efa61979d63b5d6c9a9a95cada8fb003b"), looks := false }, kinds := [], alts := [], laidByText := true, laidKinds := [.data, .data], laidTests := true, laidLooks := .later }
def AwardForceCardSaid : Prop := Claim7.holds Tryz.pinned (.plain (OpenSpec.ofChange awardForceSpec)) awardForceCard

/-- THE TIED CARD OF 'laganlaw06.AwardAwards'. -/
def awardAwardsCard : Claim7 := { stood := { row := awardAwardsRow, standIns := [], harness := (true, "711bf75ef7c5410032b4f4b9aab3739efa61979d63b5d6c9a9a95cada8fb003b"), looks := false }, kinds := [], alts := [], laidByText := true, laidKinds := [.data, .data], laidTests := true, laidLooks := .later }
def AwardAwardsCardSaid : Prop := Claim7.holds Tryz.pinned (.plain (OpenSpec.ofChange awardAwardsSpec)) awardAwardsCard

/-- THE TIED CARD OF 'laganlaw06.AwardTouched'. -/
def awardTouchedCard : Claim7 := { stood := { row := awardTouchedRow, standIns := [], harness := (true, "711bf75ef7c5410032b4f4b9aab3739efa61979d63b5d6c9a9a95cada8fb003b"), looks := false }, kinds := [], alts := [], laidByText := true, laidKinds := [.data, .data], laidTests := true, laidLooks := .later }
def AwardTouchedCardSaid : Prop := Claim7.holds Tryz.pinned (.plain (OpenSpec.ofChange awardTouchedSpec)) awardTouchedCard

/-- THE TIED CARD OF 'laganlaw06.AwardLater'. -/
def awardLaterCard : Claim7 := { stood := { row := awardLaterRow, standIns := [], harness := (true, "711bf75ef7c5410032b4f4b9aab3739efa61979d63b5d6c9a9a95cada8fb003b"), looks := false }, kinds := [], alts := [], laidByText := true, laidKinds := [.data, .data], laidTests := true, laidLooks := .later }
def AwardLaterCardSaid : Prop := Claim7.holds Tryz.pinned (.plain (OpenSpec.ofChange awardLaterSpec)) awardLaterCard

/-- THE SECOND FORM's CARD OF 'laganlaw06.AwardForce'. -/
def awardForceUptoCard : Claim7 := { stood := { row := awardForceUptoRow, standIns := [], harness := (true, "711bf75ef7c5410032b4f4b9aab3739efa61979d63b5d6c9a9a95cada8fb003b"), looks := false }, kinds := [], alts := [], laidByText := true, laidKinds := [.data, .data], laidTests := true, laidLooks := .later }
def AwardForceUptoCardSaid : Prop := Claim7.holds Tryz.pinned (.plain (OpenSpec.upto awardForceSpec)) awardForceUptoCard

/-- THE SECOND FORM's CARD OF 'laganlaw06.AwardAwards'. -/
def awardAwardsUptoCard : Claim7 := { stood := { row := awardAwardsUptoRow, standIns := [], harness := (true, "711bf75ef7c5410032b4f4b9aab3739efa61979d63b5d6c9a9a95cada8fb003b"), looks := false }, kinds := [], alts := [], laidByText := true, laidKinds := [.data, .data], laidTests := true, laidLooks := .later }
def AwardAwardsUptoCardSaid : Prop := Claim7.holds Tryz.pinned (.plain (OpenSpec.upto awardAwardsSpec)) awardAwardsUptoCard

/-- THE SECOND FORM's CARD OF 'laganlaw06.AwardTouched'. -/
def awardTouchedUptoCard : Claim7 := { stood := { row := awardTouchedUptoRow, standIns := [], harness := (true, "711bf75ef7c5410032b4f4b9aab3739efa61979d63b5d6c9a9a95cada8fb003b"), looks := false }, kinds := [], alts := [], laidByText := true, laidKinds := [.data, .data], laidTests := true, laidLooks := .later }
def AwardTouchedUptoCardSaid : Prop := Claim7.holds Tryz.pinned (.plain (OpenSpec.upto awardTouchedSpec)) awardTouchedUptoCard

/-- THE SECOND FORM's CARD OF 'laganlaw06.AwardLater'. -/
def awardLaterUptoCard : Claim7 := { stood := { row := awardLaterUptoRow, standIns := [], harness := (true, "711bf75ef7c5410032b4f4b9aab3739efa61979d63b5d6c9a9a95cada8fb003b"), looks := false }, kinds := [], alts := [], laidByText := true, laidKinds := [.data, .data], laidTests := true, laidLooks := .later }
def AwardLaterUptoCardSaid : Prop := Claim7.holds Tryz.pinned (.plain (OpenSpec.upto awardLaterSpec)) awardLaterUptoCard
end Rows
end Go.Proofs.YtfddkbbjnghefaaGreatDoor
