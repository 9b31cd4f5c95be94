/-
  For every two strings of at most 100 bytes Meet and Signs return what the reference returns, and meeting is symmetric: the law CargoMarks returns true and leaves its arguments as they were.
  Conditions: the package variables that the row lists hold what the program lays (the card ties them to the program text).
-/
import Derived.Test.YtliimmpokhmjeaaGreatDoorMarkQ
namespace Go.Proofs.YtliimmpokhmjeaaGreatDoor
open Go

theorem cargoMarks_card : Rows.CargoMarksCardSaid :=
  Claim7.holds_tied_plain_at .later [] [.data, .data, .data, .data, .sentinel, .sentinel, .data, .pinned] true (true, "86c97fa550993e72486fe28239615fa6282b2d4a4c4db54e0619c594f83c0000") true
    cargoMarks_said (fun _ h => by cases h) (by kernel_rfl) (fun _ h => by cases h) cargoMarks_row_tie rfl ⟨rfl, rfl⟩ (by kernel_rfl) rfl
    (fun f fn hf hfn => by
      obtain rfl : f = 3 := Option.some.inj ((show Tryz.prog.funcNamed "lagan/laganlaw01.CargoMarks" = some 3 by kernel_rfl).symm.trans hf) |>.symm
      obtain rfl : fn = Tryz.f3 := (Option.some.inj (Tryz.func3.symm.trans hfn)).symm
      exact ⟨by kernel_rfl, fun j t ht => by
        rw [Tryz.params3] at ht
        have hm : t ∈ [9, 9] := by simpa using Array.mem_of_getElem? ht
        have hall : ([9, 9].all fun u => !Tryz.prog.wantsStandIn u) = true := by kernel_rfl
        exact (show Tryz.prog.wantsStandIn t = false by simpa using List.all_eq_true.1 hall t hm)⟩)
    (by kernel_rfl)
end Go.Proofs.YtliimmpokhmjeaaGreatDoor
