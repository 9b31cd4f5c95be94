/-
  For every list of fractions, Sum of package claim returns what the reference returns: the law ClaimSums returns true for every list and leaves its argument as it was.
  Conditions: the package variables that the row lists hold what the program lays (the card ties them to the program text).
-/
import Derived.Test.YtnahicnoofkfgaaGreatDoorSuRowX
import Derived.Test.YtnahicnoofkfgaaGreatDoorTie
import Derived.Test.YtnahicnoofkfgaaGreatDoorCards
set_option linter.unusedSimpArgs false
set_option linter.unusedVariables false
namespace Go.Proofs.YtnahicnoofkfgaaGreatDoor
open Go

theorem claimSums_card : Rows.ClaimSumsCardSaid :=
  Claim7.holds_tied_plain_at .later [] [.data, .data, .data, .data, .sentinel, .sentinel, .data, .data, .data, .pinned] true (true, "92fb7045432968b414ff46b6def22a61cd563f23564daba836cf6b2ec2be3dfe") true
    claimSums_said (fun _ h => by cases h) (by kernel_rfl) (fun _ h => by cases h) claimSums_row_tie rfl ⟨rfl, rfl⟩ (by kernel_rfl) rfl
    (fun f fn hf hfn => by
      obtain rfl : f = 4 := Option.some.inj ((show Tryz.prog.funcNamed "lagan/laganlaw05.ClaimSums" = some 4 by kernel_rfl).symm.trans hf) |>.symm
      obtain rfl : fn = Tryz.f4 := (Option.some.inj (Tryz.func4.symm.trans hfn)).symm
      exact ⟨by kernel_rfl, fun j t ht => by
        rw [Tryz.params4] at ht
        have hm : t ∈ [32] := by simpa using Array.mem_of_getElem? ht
        have hall : ([32].all fun u => !Tryz.prog.wantsStandIn u) = true := by kernel_rfl
        exact (show Tryz.prog.wantsStandIn t = false by simpa using List.all_eq_true.1 hall t hm)⟩)
    (by kernel_rfl)
end Go.Proofs.YtnahicnoofkfgaaGreatDoor
