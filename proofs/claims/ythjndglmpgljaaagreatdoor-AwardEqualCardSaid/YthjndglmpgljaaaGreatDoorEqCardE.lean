/-
  Equal parts of pence that package award returns add up to the pence, none of them differs from another one by more than 1, and none is greater than one before it: the law AwardEqual returns true for every number and list of parties and leaves its arguments as they were.
  Conditions: the package variables that the row lists hold what the program lays (the card ties them to the program text).
-/
import Derived.Test.YthjndglmpgljaaaGreatDoorEqRowE
import Derived.Test.YthjndglmpgljaaaGreatDoorTie
import Derived.Test.YthjndglmpgljaaaGreatDoorCards
set_option linter.unusedSimpArgs false
set_option linter.unusedVariables false
namespace Go.Proofs.YthjndglmpgljaaaGreatDoor
open Go

theorem awardEqual_card : Rows.AwardEqualCardSaid :=
  Claim7.holds_tied_plain_at .later [] [.data, .data] true (true, "c5689b4896d0579538352a5ae7cdc0504f1ead4c6e9714fc8ef419681ba45c7f") false
    awardEqual_said (fun _ h => by cases h) (by kernel_rfl) (fun _ h => by cases h) awardEqual_row_tie rfl ⟨rfl, rfl⟩ (by kernel_rfl) rfl
    (fun f fn hf hfn => by
      obtain rfl : f = 9 := Option.some.inj ((show Tryz.prog.funcNamed "lagan/laganlaw06.AwardEqual" = some 9 by kernel_rfl).symm.trans hf) |>.symm
      obtain rfl : fn = Tryz.f9 := (Option.some.inj (Tryz.func9.symm.trans hfn)).symm
      exact ⟨by kernel_rfl, fun j t ht => by
        rw [Tryz.params9] at ht
        have hm : t ∈ [3, 35] := by simpa using Array.mem_of_getElem? ht
        have hall : ([3, 35].all fun u => !Tryz.prog.wantsStandIn u) = true := by kernel_rfl
        exact (show Tryz.prog.wantsStandIn t = false by simpa using List.all_eq_true.1 hall t hm)⟩)
    (by kernel_rfl)
end Go.Proofs.YthjndglmpgljaaaGreatDoor
