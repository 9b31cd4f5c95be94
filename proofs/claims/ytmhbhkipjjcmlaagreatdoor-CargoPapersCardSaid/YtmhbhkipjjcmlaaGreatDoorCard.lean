/-
  For every list of at most 305 papers with short words, and a paper more, CheckPaper, Check and Append of package cargo return what the reference returns: the law CargoPapers returns true for every list and paper and leaves its arguments as they were.
  Conditions: the package variables that the row lists hold what the program lays (the card ties them to the program text).
-/
import Derived.Test.YtmhbhkipjjcmlaaGreatDoorRowT
import Derived.Test.YtmhbhkipjjcmlaaGreatDoorTie
import Derived.Test.YtmhbhkipjjcmlaaGreatDoorCards
set_option linter.unusedSimpArgs false
set_option linter.unusedVariables false
namespace Go.Proofs.YtmhbhkipjjcmlaaGreatDoor
open Go

theorem cargoPapers_card : Rows.CargoPapersCardSaid :=
  Claim7.holds_tied_plain_at .later [] [.data, .data, .data, .data, .sentinel, .sentinel, .data, .pinned] true (true, "f7966f869461c3ec3a7ab4646c8a61fd615753d15afed258c717e02a1c941a27") true
    cargoPapers_said (fun _ h => by cases h) (by kernel_rfl) (fun _ h => by cases h) cargoPapers_row_tie rfl ⟨rfl, rfl⟩ (by kernel_rfl) rfl
    (fun f fn hf hfn => by
      obtain rfl : f = 3 := Option.some.inj ((show Tryz.prog.funcNamed "lagan/laganlaw01.CargoPapers" = some 3 by kernel_rfl).symm.trans hf) |>.symm
      obtain rfl : fn = Tryz.f3 := (Option.some.inj (Tryz.func3.symm.trans hfn)).symm
      exact ⟨by kernel_rfl, fun j t ht => by
        rw [Tryz.params3] at ht
        have hm : t ∈ [22, 26] := by simpa using Array.mem_of_getElem? ht
        have hall : ([22, 26].all fun u => !Tryz.prog.wantsStandIn u) = true := by kernel_rfl
        exact (show Tryz.prog.wantsStandIn t = false by simpa using List.all_eq_true.1 hall t hm)⟩)
    (by kernel_rfl)
end Go.Proofs.YtmhbhkipjjcmlaaGreatDoor
