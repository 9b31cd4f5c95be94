/-
  DERIVED. GIVEN WITH THE SEED: THE CARDS: each row of YtpjkfjnjbekcaaaGreatDoorRows.lean that lists a variable, with what it lists TIED to the program's text (the seventh form; the later family's looks); each row that meets fmt, with fmt's text TOLD by the authors' own Lean function (tested against real Go, not proved from fmt's source: count such statements apart). THE CARD IS WHAT COUNTS. Prove the row's statement (the work); the ties are given (YtpjkfjnjbekcaaaGreatDoorTie.lean); close each card by the builder's one call (the guide's Derived/Test/ToyasCard.lean, 'card_holds'). Laid BY PROGRAM, IN A SANDBOX (cutbox-door.mjs). By AI agents, Wed Nov 11 2026. No macro, syntax, notation, axiom, sorry.
-/
import Derived.Test.YtpjkfjnjbekcaaaGreatDoorRows
import GoSem.ClaimSeven
namespace Go.Proofs.YtpjkfjnjbekcaaaGreatDoor
namespace Rows

/-- THE TIED CARD OF 'laganlaw02.DriftWinds'. -/
def driftWindsCard : Claim7 := { stood := { row := driftWindsRow, standIns := [], harness := (true, "9f796462c4dccd39aaa68ab1e89e44272797be51117fdaa5c76a0bdadb868612"), looks := true }, kinds := [], alts := [], laidByText := true, laidKinds := [.data, .data, .data, .data, .sentinel, .sentinel, .pinned], laidTests := true, laidLooks := .later }
def DriftWindsCardSaid : Prop := Claim7.holds Tryz.pinned (.plain (OpenSpec.ofChange driftWindsSpec)) driftWindsCard

/-- THE SECOND FORM's CARD OF 'laganlaw02.DriftWinds'. -/
def driftWindsUptoCard : Claim7 := { stood := { row := driftWindsUptoRow, standIns := [], harness := (true, "9f796462c4dccd39aaa68ab1e89e44272797be51117fdaa5c76a0bdadb868612"), looks := true }, kinds := [], alts := [], laidByText := true, laidKinds := [.data, .data, .data, .data, .sentinel, .sentinel, .pinned], laidTests := true, laidLooks := .later }
def DriftWindsUptoCardSaid : Prop := Claim7.holds Tryz.pinned (.plain (OpenSpec.upto driftWindsSpec)) driftWindsUptoCard
end Rows
end Go.Proofs.YtpjkfjnjbekcaaaGreatDoor
