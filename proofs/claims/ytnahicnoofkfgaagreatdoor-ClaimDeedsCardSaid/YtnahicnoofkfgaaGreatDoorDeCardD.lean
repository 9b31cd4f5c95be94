/-
  For every list of at most 305 deeds and a deed more, CheckDeed, Check and Append of package claim return what the reference returns: the law ClaimDeeds returns true for every list and deed and leaves its arguments as they were.
  Conditions: the package variables that the row lists hold what the program lays (the card ties them to the program text).
-/
import Derived.Test.YtnahicnoofkfgaaGreatDoorDeRowD
import Derived.Test.YtnahicnoofkfgaaGreatDoorTie
import Derived.Test.YtnahicnoofkfgaaGreatDoorCards
set_option linter.unusedSimpArgs false
set_option linter.unusedVariables false
namespace Go.Proofs.YtnahicnoofkfgaaGreatDoor
open Go

theorem claimDeeds_card : Rows.ClaimDeedsCardSaid :=
  Claim7.holds_tied_plain_at .later [] [.data, .data, .data, .data, .sentinel, .sentinel, .data, .data, .data, .pinned] true (true, "92fb7045432968b414ff46b6def22a61cd563f23564daba836cf6b2ec2be3dfe") true
    claimDeeds_said (fun _ h => by cases h) (by kernel_rfl) (fun _ h => by cases h) claimDeeds_row_tie rfl ⟨rfl, rfl⟩ (by kernel_rfl) rfl
    (fun f fn hf hfn => by
      obtain rfl : f = 5 := Option.some.inj ((show Tryz.prog.funcNamed "lagan/laganlaw05.ClaimDeeds" = some 5 by kernel_rfl).symm.trans hf) |>.symm
      obtain rfl : fn = Tryz.f5 := (Option.some.inj (Tryz.func5.symm.trans hfn)).symm
      exact ⟨by kernel_rfl, fun j t ht => by
        rw [Tryz.params5] at ht
        have hm : t ∈ [35, 37] := by simpa using Array.mem_of_getElem? ht
        have hall : ([35, 37].all fun u => !Tryz.prog.wantsStandIn u) = true := by kernel_rfl
        exact (show Tryz.prog.wantsStandIn t = false by simpa using List.all_eq_true.1 hall t hm)⟩)
    (by kernel_rfl)
end Go.Proofs.YtnahicnoofkfgaaGreatDoor
