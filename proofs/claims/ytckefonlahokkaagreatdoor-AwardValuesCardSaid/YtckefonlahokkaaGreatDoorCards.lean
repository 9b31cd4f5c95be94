/-
  DERIVED. GIVEN WITH THE SEED: THE CARDS: each row of YtckefonlahokkaaGreatDoorRows.lean that lists a variable, with what it lists TIED to the program's text (the seventh form; the later family's looks); each row that meets fmt, with fmt's text TOLD by the authors' own Lean function (tested against real Go, not proved from fmt's source: count such statements apart). THE CARD IS WHAT COUNTS. Prove the row's statement (the work); the ties are given (YtckefonlahokkaaGreatDoorTie.lean); close each card by the builder's one call (the guide's Derived/Test/ToyasCard.lean, 'card_holds'). Laid BY PROGRAM, IN A SANDBOX (cutbox-door.mjs). By AI agents, Wed Nov 11 2026. No macro, syntax, notation, axiom, sorry.
-/
import Derived.Test.YtckefonlahokkaaGreatDoorRows
import GoSem.ClaimSeven
namespace Go.Proofs.YtckefonlahokkaaGreatDoor
namespace Rows

/-- THE TIED CARD OF 'laganlaw06.AwardValues'. -/
def awardValuesCard : Claim7 := { stood := { row := awardValuesRow, standIns := [], harness := (true, "bc339a24e2b44499353ab3eb5a39993064bd659936142b7090c4a4faf959317c"), looks := false }, kinds := [], alts := [], laidByText := true, laidKinds := [.data, .data], laidTests := true, laidLooks := .later }
def AwardValuesCardSaid : Prop := Claim7.holds Tryz.pinned (.plain (OpenSpec.ofChange awardValuesSpec)) awardValuesCard

/-- THE TIED CARD OF 'laganlaw06.AwardSold'. -/
def awardSoldCard : Claim7 := { stood := { row := awardSoldRow, standIns := [], harness := (true, "bc339a24e2b44499353ab3eb5a39993064bd659936142b7090c4a4faf959317c"), looks := false }, kinds := [], alts := [], laidByText := true, laidKinds := [.data, .data], laidTests := true, laidLooks := .later }
def AwardSoldCardSaid : Prop := Claim7.holds Tryz.pinned (.plain (OpenSpec.ofChange awardSoldSpec)) awardSoldCard

/-- THE SECOND FORM's CARD OF 'laganlaw06.AwardValues'. -/
def awardValuesUptoCard : Claim7 := { stood := { row := awardValuesUptoRow, standIns := [], harness := (true, "bc339a24e2b44499353ab3eb5a39993064bd659936142b7090c4a4faf959317c"), looks := false }, kinds := [], alts := [], laidByText := true, laidKinds := [.data, .data], laidTests := true, laidLooks := .later }
def AwardValuesUptoCardSaid : Prop := Claim7.holds Tryz.pinned (.plain (OpenSpec.upto awardValuesSpec)) awardValuesUptoCard

/-- THE SECOND FORM's CARD OF 'laganlaw06.AwardSold'. -/
def awardSoldUptoCard : Claim7 := { stood := { row := awardSoldUptoRow, standIns := [], harness := (true, "bc339a24e2b44499353ab3eb5a39993064bd659936142b7090c4a4faf959317c"), looks := false }, kinds := [], alts := [], laidByText := true, laidKinds := [.data, .data], laidTests := true, laidLooks := .later }
def AwardSoldUptoCardSaid : Prop := Claim7.holds Tryz.pinned (.plain (OpenSpec.upto awardSoldSpec)) awardSoldUptoCard
end Rows
end Go.Proofs.YtckefonlahokkaaGreatDoor
