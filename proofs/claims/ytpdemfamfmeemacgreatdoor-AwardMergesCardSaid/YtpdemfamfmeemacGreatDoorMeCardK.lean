/-
  Merge, Change and Of of package award return what the reference returns, for lists of at most 60 shares, or of more than 1000: the law AwardMerges returns true for every two lists and every party, also where the lists overlap, and leaves its arguments as they were.
  Conditions: the package variables that the row lists hold what the program lays (the card ties them to the program text).
-/
import Derived.Test.YtpdemfamfmeemacGreatDoorMeRowK
import Derived.Test.YtpdemfamfmeemacGreatDoorTie
import Derived.Test.YtpdemfamfmeemacGreatDoorCards
set_option linter.unusedSimpArgs false
set_option linter.unusedVariables false
namespace Go.Proofs.YtpdemfamfmeemacGreatDoor
open Go
theorem awardMerges_card : Rows.AwardMergesCardSaid :=
  Claim7.holds_tied_plain_at .later [] [.data, .data] true (true, "22f462f954b0c9cbb7b8803bdf55645b7d9d92a97d2a36781f5a8465e9f538df") false
    awardMerges_said (fun _ h => by cases h) (by kernel_rfl) (fun _ h => by cases h) awardMerges_row_tie rfl ⟨rfl, rfl⟩ (by kernel_rfl) rfl
    (fun f fn hf hfn => by
      obtain rfl : f = 3 := Option.some.inj ((show Tryz.prog.funcNamed "lagan/laganlaw06.AwardMerges" = some 3 by kernel_rfl).symm.trans hf) |>.symm
      obtain rfl : fn = Tryz.f3 := (Option.some.inj (Tryz.func3.symm.trans hfn)).symm
      exact ⟨by kernel_rfl, fun j t ht => by
        rw [Tryz.params3] at ht
        have hm : t ∈ [22, 22, 3] := by simpa using Array.mem_of_getElem? ht
        have hall : ([22, 22, 3].all fun u => !Tryz.prog.wantsStandIn u) = true := by kernel_rfl
        exact (show Tryz.prog.wantsStandIn t = false by simpa using List.all_eq_true.1 hall t hm)⟩)
    (by kernel_rfl)
end Go.Proofs.YtpdemfamfmeemacGreatDoor
