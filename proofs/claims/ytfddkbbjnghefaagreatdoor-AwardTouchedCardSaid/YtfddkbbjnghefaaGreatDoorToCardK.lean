/-
  A further record changes the rate in force only at hours of Touched, and at its ends; a rate none before its From; between two Turns the rate stays (package award): the law AwardTouched returns true for every list of rates (of at most 30; for others it is its example), further rate, goods and hour, and leaves its arguments as they were.
  Conditions: the package variables that the row lists hold what the program lays (the card ties them to the program text).
-/
import Derived.Test.YtfddkbbjnghefaaGreatDoorToRowK
import Derived.Test.YtfddkbbjnghefaaGreatDoorTie
import Derived.Test.YtfddkbbjnghefaaGreatDoorCards
set_option linter.unusedSimpArgs false
set_option linter.unusedVariables false
namespace Go.Proofs.YtfddkbbjnghefaaGreatDoor
open Go
theorem awardTouched_card : Rows.AwardTouchedCardSaid:=
 Claim7.holds_tied_plain_at .later [] [.data,.data] true (true,"711bf75ef7c5410032b4f4b9aab3739efa61979d63b5d6c9a9a95cada8fb003b") false
  awardTouched_said (fun _ h => by cases h) (by kernel_rfl) (fun _ h => by cases h) awardTouched_row_tie rfl ⟨rfl,rfl⟩ (by kernel_rfl) rfl
  (fun f fn hf hfn => by
    obtain rfl : f = 5:=Option.some.inj ((show Tryz.prog.funcNamed "lagan/laganlaw06.AwardTouched" = some 5 by kernel_rfl).symm.trans hf) |>.symm
    obtain rfl : fn = Tryz.f5:=(Option.some.inj (Tryz.func5.symm.trans hfn)).symm
    exact ⟨by kernel_rfl,fun j t ht => by
     rw [Tryz.params5] at ht
     have hm : t ∈ [22,26,9,3]:=by simpa using Array.mem_of_getElem? ht
     have hall : ([22,26,9,3].all fun u => !Tryz.prog.wantsStandIn u) = true:=by kernel_rfl
     exact (show Tryz.prog.wantsStandIn t = false by simpa using List.all_eq_true.1 hall t hm)⟩)
  (by kernel_rfl)
end Go.Proofs.YtfddkbbjnghefaaGreatDoor
