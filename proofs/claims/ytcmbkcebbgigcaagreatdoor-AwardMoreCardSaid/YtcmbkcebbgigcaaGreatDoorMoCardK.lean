/-
  With a greater price nobody gets less of an award, and the rest does not become less; with a greater part of the finders the rest does not become greater (package award): the law AwardMore returns true for every rate, sale, list of finders, price and part, and leaves its arguments as they were.
  Conditions: the package variables that the row lists hold what the program lays (the card ties them to the program text).
-/
import Derived.Test.YtcmbkcebbgigcaaGreatDoorMoRowK
import Derived.Test.YtcmbkcebbgigcaaGreatDoorTie
import Derived.Test.YtcmbkcebbgigcaaGreatDoorCards
set_option linter.unusedSimpArgs false
set_option linter.unusedVariables false
namespace Go.Proofs.YtcmbkcebbgigcaaGreatDoor
open Go
theorem awardMore_card : Rows.AwardMoreCardSaid :=
  Claim7.holds_tied_plain_at .later [] [.data, .data] true (true, "ad173d61e0250005445a6d3ec142e58d90e232a493283e45346857ef7bf86a96") false
    awardMore_said (fun _ h => by cases h) (by kernel_rfl) (fun _ h => by cases h) awardMore_row_tie rfl ⟨rfl, rfl⟩ (by kernel_rfl) rfl
    (fun f fn hf hfn => by
      obtain rfl : f = 3 := Option.some.inj ((show Tryz.prog.funcNamed "lagan/laganlaw06.AwardMore" = some 3 by kernel_rfl).symm.trans hf) |>.symm
      obtain rfl : fn = Tryz.f3 := (Option.some.inj (Tryz.func3.symm.trans hfn)).symm
      exact ⟨by kernel_rfl, fun j t ht => by
        rw [Tryz.params3] at ht
        have hm : t ∈ [25, 27, 28, 3, 23] := by simpa using Array.mem_of_getElem? ht
        have hall : ([25, 27, 28, 3, 23].all fun u => !Tryz.prog.wantsStandIn u) = true := by kernel_rfl
        exact (show Tryz.prog.wantsStandIn t = false by simpa using List.all_eq_true.1 hall t hm)⟩)
    (by kernel_rfl)
end Go.Proofs.YtcmbkcebbgigcaaGreatDoor
