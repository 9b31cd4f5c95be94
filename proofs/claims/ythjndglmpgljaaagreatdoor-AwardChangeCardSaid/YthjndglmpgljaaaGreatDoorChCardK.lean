/-
  The change from one list of shares to another one that package award returns is the other way round where the lists are, and what a party has in the first list and in the change is what it has in the second one: the law AwardChange returns true for every two lists, also where they overlap, and leaves its arguments as they were.
  Conditions: the package variables that the row lists hold what the program lays (the card ties them to the program text).
-/
import Derived.Test.YthjndglmpgljaaaGreatDoorChRowK
import Derived.Test.YthjndglmpgljaaaGreatDoorTie
import Derived.Test.YthjndglmpgljaaaGreatDoorCards
set_option linter.unusedSimpArgs false
set_option linter.unusedVariables false
namespace Go.Proofs.YthjndglmpgljaaaGreatDoor
open Go

theorem awardChange_card : Rows.AwardChangeCardSaid :=
  Claim7.holds_tied_plain_at .later [] [.data, .data] true (true, "c5689b4896d0579538352a5ae7cdc0504f1ead4c6e9714fc8ef419681ba45c7f") false
    awardChange_said (fun _ h => by cases h) (by kernel_rfl) (fun _ h => by cases h) awardChange_row_tie rfl ⟨rfl, rfl⟩ (by kernel_rfl) rfl
    (fun f fn hf hfn => by
      obtain rfl : f = 14 := Option.some.inj ((show Tryz.prog.funcNamed "lagan/laganlaw06.AwardChange" = some 14 by kernel_rfl).symm.trans hf) |>.symm
      obtain rfl : fn = Tryz.f14 := (Option.some.inj (Tryz.func14.symm.trans hfn)).symm
      exact ⟨by kernel_rfl, fun j t ht => by
        rw [Tryz.params14] at ht
        have hm : t ∈ [53, 53] := by simpa using Array.mem_of_getElem? ht
        have hall : ([53, 53].all fun u => !Tryz.prog.wantsStandIn u) = true := by kernel_rfl
        exact (show Tryz.prog.wantsStandIn t = false by simpa using List.all_eq_true.1 hall t hm)⟩)
    (by kernel_rfl)
end Go.Proofs.YthjndglmpgljaaaGreatDoor
