/-
  For every log of at most 205 records, a record more, and two hours, CheckWind, Check, Append, WindAt and Counting of package drift return what the reference returns: the law DriftWinds returns true for every log, record and hours and leaves its arguments as they were.
  Conditions: the package variables that the row lists hold what the program lays (the card ties them to the program text).
-/
import Derived.Test.YtpjkfjnjbekcaaaGreatDoorRowT
import Derived.Test.YtpjkfjnjbekcaaaGreatDoorTie
import Derived.Test.YtpjkfjnjbekcaaaGreatDoorCards
set_option linter.unusedSimpArgs false
set_option linter.unusedVariables false
namespace Go.Proofs.YtpjkfjnjbekcaaaGreatDoor
open Go

theorem driftWinds_card : Rows.DriftWindsCardSaid :=
  Claim7.holds_tied_plain_at .later [] [.data, .data, .data, .data, .sentinel, .sentinel, .pinned] true (true, "9f796462c4dccd39aaa68ab1e89e44272797be51117fdaa5c76a0bdadb868612") true
    driftWinds_said (fun _ h => by cases h) (by kernel_rfl) (fun _ h => by cases h) driftWinds_row_tie rfl ⟨rfl, rfl⟩ (by kernel_rfl) rfl
    (fun f fn hf hfn => by
      obtain rfl : f = 3 := Option.some.inj ((show Tryz.prog.funcNamed "lagan/laganlaw02.DriftWinds" = some 3 by kernel_rfl).symm.trans hf) |>.symm
      obtain rfl : fn = Tryz.f3 := (Option.some.inj (Tryz.func3.symm.trans hfn)).symm
      exact ⟨by kernel_rfl, fun j t ht => by
        rw [Tryz.params3] at ht
        have hm : t ∈ [22, 26, 3, 3] := by simpa using Array.mem_of_getElem? ht
        have hall : ([22, 26, 3, 3].all fun u => !Tryz.prog.wantsStandIn u) = true := by kernel_rfl
        exact (show Tryz.prog.wantsStandIn t = false by simpa using List.all_eq_true.1 hall t hm)⟩)
    (by kernel_rfl)
end Go.Proofs.YtpjkfjnjbekcaaaGreatDoor
