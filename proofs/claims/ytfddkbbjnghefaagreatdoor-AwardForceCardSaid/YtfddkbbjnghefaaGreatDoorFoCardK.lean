/-
  RateOf, Turns and Touched of package award return what the reference returns: the law AwardForce returns true for every list of rates (of at most 30, or of 101 to 103, whose goods have at most 100 bytes; for others it is its example), goods, hour, hour of knowledge and further rate, and leaves its arguments as they were.
  Conditions: the package variables that the row lists hold what the program lays (the card ties them to the program text).
-/
import Derived.Test.YtfddkbbjnghefaaGreatDoorFoRowK
import Derived.Test.YtfddkbbjnghefaaGreatDoorTie
import Derived.Test.YtfddkbbjnghefaaGreatDoorCards
set_option linter.unusedSimpArgs false
set_option linter.unusedVariables false
namespace Go.Proofs.YtfddkbbjnghefaaGreatDoor
open Go
theorem awardForce_card : Rows.AwardForceCardSaid:=
 Claim7.holds_tied_plain_at .later [] [.data,.data] true (true,"711bf75ef7c5410032b4f4b9aab3739efa61979d63b5d6c9a9a95cada8fb003b") false
  awardForce_said (fun _ h => by cases h) (by kernel_rfl) (fun _ h => by cases h) awardForce_row_tie rfl ⟨rfl,rfl⟩ (by kernel_rfl) rfl
  (fun f fn hf hfn => by
    obtain rfl : f = 3:=Option.some.inj ((show Tryz.prog.funcNamed "lagan/laganlaw06.AwardForce" = some 3 by kernel_rfl).symm.trans hf) |>.symm
    obtain rfl : fn = Tryz.f3:=(Option.some.inj (Tryz.func3.symm.trans hfn)).symm
    exact ⟨by kernel_rfl,fun j t ht => by
     rw [Tryz.params3] at ht
     have hm : t ∈ [22,9,3,3,26]:=by simpa using Array.mem_of_getElem? ht
     have hall : ([22,9,3,3,26].all fun u => !Tryz.prog.wantsStandIn u) = true:=by kernel_rfl
     exact (show Tryz.prog.wantsStandIn t = false by simpa using List.all_eq_true.1 hall t hm)⟩)
  (by kernel_rfl)
end Go.Proofs.YtfddkbbjnghefaaGreatDoor
