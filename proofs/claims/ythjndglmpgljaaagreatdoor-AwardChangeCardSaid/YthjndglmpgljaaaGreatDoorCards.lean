/-
  DERIVED. GIVEN WITH THE SEED: THE CARDS: each row of YthjndglmpgljaaaGreatDoorRows.lean that lists a variable, with what it lists TIED to the program's text (the seventh form; the later family's looks); each row that meets fmt, with fmt's text TOLD by the authors' own Lean function (tested against real Go, not proved from fmt's source: count such statements apart). THE CARD IS WHAT COUNTS. Prove the row's statement (the work); the ties are given (YthjndglmpgljaaaGreatDoorTie.lean); close each card by the builder's one call (the guide's Derived/Test/ToyasCard.lean, 'card_holds'). Laid BY PROGRAM, IN A SANDBOX (cutbox-door.mjs). By AI agents, Wed Nov 11 2026. No macro, syntax, notation, axiom, sorry.
-/
import Derived.Test.YthjndglmpgljaaaGreatDoorRows
import GoSem.ClaimSeven
namespace Go.Proofs.YthjndglmpgljaaaGreatDoor
namespace Rows

/-- THE TIED CARD OF 'laganlaw06.AwardForce'. -/
def awardForceCard : Claim7 := { stood := { row := awardForceRow, standIns := [], harness := (true, "c5689b4896d0579538352a5ae7cdc0504f1ead4c6e9714fc8ef419681ba45c7f"), looks := false }, kinds := [], alts := [], laidByText := true, laidKinds := [.data, .data], laidTests := true, laidLooks := .later }
def AwardForceCardSaid : Prop := Claim7.holds Tryz.pinned (.plain (OpenSpec.ofChange awardForceSpec)) awardForceCard

/-- THE TIED CARD OF 'laganlaw06.AwardValues'. -/
def awardValuesCard : Claim7 := { stood := { row := awardValuesRow, standIns := [], harness := (true, "c5689b4896d0579538352a5ae7cdc0504f1ead4c6e9714fc8ef419681ba45c7f"), looks := false }, kinds := [], alts := [], laidByText := true, laidKinds := [.data, .data], laidTests := true, laidLooks := .later }
def AwardValuesCardSaid : Prop := Claim7.holds Tryz.pinned (.plain (OpenSpec.ofChange awardValuesSpec)) awardValuesCard

/-- THE TIED CARD OF 'laganlaw06.AwardParts'. -/
def awardPartsCard : Claim7 := { stood := { row := awardPartsRow, standIns := [], harness := (true, "c5689b4896d0579538352a5ae7cdc0504f1ead4c6e9714fc8ef419681ba45c7f"), looks := false }, kinds := [], alts := [], laidByText := true, laidKinds := [.data, .data], laidTests := true, laidLooks := .later }
def AwardPartsCardSaid : Prop := Claim7.holds Tryz.pinned (.plain (OpenSpec.ofChange awardPartsSpec)) awardPartsCard

/-- THE TIED CARD OF 'laganlaw06.AwardAwards'. -/
def awardAwardsCard : Claim7 := { stood := { row := awardAwardsRow, standIns := [], harness := (true, "c5689b4896d0579538352a5ae7cdc0504f1ead4c6e9714fc8ef419681ba45c7f"), looks := false }, kinds := [], alts := [], laidByText := true, laidKinds := [.data, .data], laidTests := true, laidLooks := .later }
def AwardAwardsCardSaid : Prop := Claim7.holds Tryz.pinned (.plain (OpenSpec.ofChange awardAwardsSpec)) awardAwardsCard

/-- THE TIED CARD OF 'laganlaw06.AwardMerges'. -/
def awardMergesCard : Claim7 := { stood := { row := awardMergesRow, standIns := [], harness := (true, "c5689b4896d0579538352a5ae7cdc0504f1ead4c6e9714fc8ef419681ba45c7f"), looks := false }, kinds := [], alts := [], laidByText := true, laidKinds := [.data, .data], laidTests := true, laidLooks := .later }
def AwardMergesCardSaid : Prop := Claim7.holds Tryz.pinned (.plain (OpenSpec.ofChange awardMergesSpec)) awardMergesCard

/-- THE TIED CARD OF 'laganlaw06.AwardAdds'. -/
def awardAddsCard : Claim7 := { stood := { row := awardAddsRow, standIns := [], harness := (true, "c5689b4896d0579538352a5ae7cdc0504f1ead4c6e9714fc8ef419681ba45c7f"), looks := false }, kinds := [], alts := [], laidByText := true, laidKinds := [.data, .data], laidTests := true, laidLooks := .later }
def AwardAddsCardSaid : Prop := Claim7.holds Tryz.pinned (.plain (OpenSpec.ofChange awardAddsSpec)) awardAddsCard

/-- THE TIED CARD OF 'laganlaw06.AwardEqual'. -/
def awardEqualCard : Claim7 := { stood := { row := awardEqualRow, standIns := [], harness := (true, "c5689b4896d0579538352a5ae7cdc0504f1ead4c6e9714fc8ef419681ba45c7f"), looks := false }, kinds := [], alts := [], laidByText := true, laidKinds := [.data, .data], laidTests := true, laidLooks := .later }
def AwardEqualCardSaid : Prop := Claim7.holds Tryz.pinned (.plain (OpenSpec.ofChange awardEqualSpec)) awardEqualCard

/-- THE TIED CARD OF 'laganlaw06.AwardTouched'. -/
def awardTouchedCard : Claim7 := { stood := { row := awardTouchedRow, standIns := [], harness := (true, "c5689b4896d0579538352a5ae7cdc0504f1ead4c6e9714fc8ef419681ba45c7f"), looks := false }, kinds := [], alts := [], laidByText := true, laidKinds := [.data, .data], laidTests := true, laidLooks := .later }
def AwardTouchedCardSaid : Prop := Claim7.holds Tryz.pinned (.plain (OpenSpec.ofChange awardTouchedSpec)) awardTouchedCard

/-- THE TIED CARD OF 'laganlaw06.AwardLater'. -/
def awardLaterCard : Claim7 := { stood := { row := awardLaterRow, standIns := [], harness := (true, "c5689b4896d0579538352a5ae7cdc0504f1ead4c6e9714fc8ef419681ba45c7f"), looks := false }, kinds := [], alts := [], laidByText := true, laidKinds := [.data, .data], laidTests := true, laidLooks := .later }
def AwardLaterCardSaid : Prop := Claim7.holds Tryz.pinned (.plain (OpenSpec.ofChange awardLaterSpec)) awardLaterCard

/-- THE TIED CARD OF 'laganlaw06.AwardSold'. -/
def awardSoldCard : Claim7 := { stood := { row := awardSoldRow, standIns := [], harness := (true, "c5689b4896d0579538352a5ae7cdc0504f1ead4c6e9714fc8ef419681ba45c7f"), looks := false }, kinds := [], alts := [], laidByText := true, laidKinds := [.data, .data], laidTests := true, laidLooks := .later }
def AwardSoldCardSaid : Prop := Claim7.holds Tryz.pinned (.plain (OpenSpec.ofChange awardSoldSpec)) awardSoldCard

/-- THE TIED CARD OF 'laganlaw06.AwardMore'. -/
def awardMoreCard : Claim7 := { stood := { row := awardMoreRow, standIns := [], harness := (true, "c5689b4896d0579538352a5ae7cdc0504f1ead4c6e9714fc8ef419681ba45c7f"), looks := false }, kinds := [], alts := [], laidByText := true, laidKinds := [.data, .data], laidTests := true, laidLooks := .later }
def AwardMoreCardSaid : Prop := Claim7.holds Tryz.pinned (.plain (OpenSpec.ofChange awardMoreSpec)) awardMoreCard

/-- THE TIED CARD OF 'laganlaw06.AwardChange'. -/
def awardChangeCard : Claim7 := { stood := { row := awardChangeRow, standIns := [], harness := (true, "c5689b4896d0579538352a5ae7cdc0504f1ead4c6e9714fc8ef419681ba45c7f"), looks := false }, kinds := [], alts := [], laidByText := true, laidKinds := [.data, .data], laidTests := true, laidLooks := .later }
def AwardChangeCardSaid : Prop := Claim7.holds Tryz.pinned (.plain (OpenSpec.ofChange awardChangeSpec)) awardChangeCard

/-- THE SECOND FORM's CARD OF 'laganlaw06.AwardForce'. -/
def awardForceUptoCard : Claim7 := { stood := { row := awardForceUptoRow, standIns := [], harness := (true, "c5689b4896d0579538352a5ae7cdc0504f1ead4c6e9714fc8ef419681ba45c7f"), looks := false }, kinds := [], alts := [], laidByText := true, laidKinds := [.data, .data], laidTests := true, laidLooks := .later }
def AwardForceUptoCardSaid : Prop := Claim7.holds Tryz.pinned (.plain (OpenSpec.upto awardForceSpec)) awardForceUptoCard

/-- THE SECOND FORM's CARD OF 'laganlaw06.AwardValues'. -/
def awardValuesUptoCard : Claim7 := { stood := { row := awardValuesUptoRow, standIns := [], harness := (true, "c5689b4896d0579538352a5ae7cdc0504f1ead4c6e9714fc8ef419681ba45c7f"), looks := false }, kinds := [], alts := [], laidByText := true, laidKinds := [.data, .data], laidTests := true, laidLooks := .later }
def AwardValuesUptoCardSaid : Prop := Claim7.holds Tryz.pinned (.plain (OpenSpec.upto awardValuesSpec)) awardValuesUptoCard

/-- THE SECOND FORM's CARD OF 'laganlaw06.AwardParts'. -/
def awardPartsUptoCard : Claim7 := { stood := { row := awardPartsUptoRow, standIns := [], harness := (true, "c5689b4896d0579538352a5ae7cdc0504f1ead4c6e9714fc8ef419681ba45c7f"), looks := false }, kinds := [], alts := [], laidByText := true, laidKinds := [.data, .data], laidTests := true, laidLooks := .later }
def AwardPartsUptoCardSaid : Prop := Claim7.holds Tryz.pinned (.plain (OpenSpec.upto awardPartsSpec)) awardPartsUptoCard

/-- THE SECOND FORM's CARD OF 'laganlaw06.AwardAwards'. -/
def awardAwardsUptoCard : Claim7 := { stood := { row := awardAwardsUptoRow, standIns := [], harness := (true, "c5689b4896d0579538352a5ae7cdc0504f1ead4c6e9714fc8ef419681ba45c7f"), looks := false }, kinds := [], alts := [], laidByText := true, laidKinds := [.data, .data], laidTests := true, laidLooks := .later }
def AwardAwardsUptoCardSaid : Prop := Claim7.holds Tryz.pinned (.plain (OpenSpec.upto awardAwardsSpec)) awardAwardsUptoCard

/-- THE SECOND FORM's CARD OF 'laganlaw06.AwardMerges'. -/
def awardMergesUptoCard : Claim7 := { stood := { row := awardMergesUptoRow, standIns := [], harness := (true, "c5689b4896d0579538352a5ae7cdc0504f1ead4c6e9714fc8ef419681ba45c7f"), looks := false }, kinds := [], alts := [], laidByText := true, laidKinds := [.data, .data], laidTests := true, laidLooks := .later }
def AwardMergesUptoCardSaid : Prop := Claim7.holds Tryz.pinned (.plain (OpenSpec.upto awardMergesSpec)) awardMergesUptoCard

/-- THE SECOND FORM's CARD OF 'laganlaw06.AwardAdds'. -/
def awardAddsUptoCard : Claim7 := { stood := { row := awardAddsUptoRow, standIns := [], harness := (true, "c5689b4896d0579538352a5ae7cdc0504f1ead4c6e9714fc8ef419681ba45c7f"), looks := false }, kinds := [], alts := [], laidByText := true, laidKinds := [.data, .data], laidTests := true, laidLooks := .later }
def AwardAddsUptoCardSaid : Prop := Claim7.holds Tryz.pinned (.plain (OpenSpec.upto awardAddsSpec)) awardAddsUptoCard

/-- THE SECOND FORM's CARD OF 'laganlaw06.AwardEqual'. -/
def awardEqualUptoCard : Claim7 := { stood := { row := awardEqualUptoRow, standIns := [], harness := (true, "c5689b4896d0579538352a5ae7cdc0504f1ead4c6e9714fc8ef419681ba45c7f"), looks := false }, kinds := [], alts := [], laidByText := true, laidKinds := [.data, .data], laidTests := true, laidLooks := .later }
def AwardEqualUptoCardSaid : Prop := Claim7.holds Tryz.pinned (.plain (OpenSpec.upto awardEqualSpec)) awardEqualUptoCard

/-- THE SECOND FORM's CARD OF 'laganlaw06.AwardTouched'. -/
def awardTouchedUptoCard : Claim7 := { stood := { row := awardTouchedUptoRow, standIns := [], harness := (true, "c5689b4896d0579538352a5ae7cdc0504f1ead4c6e9714fc8ef419681ba45c7f"), looks := false }, kinds := [], alts := [], laidByText := true, laidKinds := [.data, .data], laidTests := true, laidLooks := .later }
def AwardTouchedUptoCardSaid : Prop := Claim7.holds Tryz.pinned (.plain (OpenSpec.upto awardTouchedSpec)) awardTouchedUptoCard

/-- THE SECOND FORM's CARD OF 'laganlaw06.AwardLater'. -/
def awardLaterUptoCard : Claim7 := { stood := { row := awardLaterUptoRow, standIns := [], harness := (true, "c5689b4896d0579538352a5ae7cdc0504f1ead4c6e9714fc8ef419681ba45c7f"), looks := false }, kinds := [], alts := [], laidByText := true, laidKinds := [.data, .data], laidTests := true, laidLooks := .later }
def AwardLaterUptoCardSaid : Prop := Claim7.holds Tryz.pinned (.plain (OpenSpec.upto awardLaterSpec)) awardLaterUptoCard

/-- THE SECOND FORM's CARD OF 'laganlaw06.AwardSold'. -/
def awardSoldUptoCard : Claim7 := { stood := { row := awardSoldUptoRow, standIns := [], harness := (true, "c5689b4896d0579538352a5ae7cdc0504f1ead4c6e9714fc8ef419681ba45c7f"), looks := false }, kinds := [], alts := [], laidByText := true, laidKinds := [.data, .data], laidTests := true, laidLooks := .later }
def AwardSoldUptoCardSaid : Prop := Claim7.holds Tryz.pinned (.plain (OpenSpec.upto awardSoldSpec)) awardSoldUptoCard

/-- THE SECOND FORM's CARD OF 'laganlaw06.AwardMore'. -/
def awardMoreUptoCard : Claim7 := { stood := { row := awardMoreUptoRow, standIns := [], harness := (true, "c5689b4896d0579538352a5ae7cdc0504f1ead4c6e9714fc8ef419681ba45c7f"), looks := false }, kinds := [], alts := [], laidByText := true, laidKinds := [.data, .data], laidTests := true, laidLooks := .later }
def AwardMoreUptoCardSaid : Prop := Claim7.holds Tryz.pinned (.plain (OpenSpec.upto awardMoreSpec)) awardMoreUptoCard

/-- THE SECOND FORM's CARD OF 'laganlaw06.AwardChange'. -/
def awardChangeUptoCard : Claim7 := { stood := { row := awardChangeUptoRow, standIns := [], harness := (true, "c5689b4896d0579538352a5ae7cdc0504f1ead4c6e9714fc8ef419681ba45c7f"), looks := false }, kinds := [], alts := [], laidByText := true, laidKinds := [.data, .data], laidTests := true, laidLooks := .later }
def AwardChangeUptoCardSaid : Prop := Claim7.holds Tryz.pinned (.plain (OpenSpec.upto awardChangeSpec)) awardChangeUptoCard
end Rows
end Go.Proofs.YthjndglmpgljaaaGreatDoor
