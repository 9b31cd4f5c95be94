/-
  SaleOf, Sold and Value of package award return what the reference returns: the law AwardValues returns true for every list of sales (of at most 30, or of 201 to 203; for others it is its example), parcel, list of parcels and hour of knowledge, and leaves its arguments as they were.
  Conditions: the package variables that the row lists hold what the program lays (the card ties them to the program text).
-/
import Derived.Test.YtckefonlahokkaaGreatDoorVaRowK
import Derived.Test.YtckefonlahokkaaGreatDoorTie
import Derived.Test.YtckefonlahokkaaGreatDoorCards
set_option linter.unusedSimpArgs false
set_option linter.unusedVariables false
namespace Go.Proofs.YtckefonlahokkaaGreatDoor
open Go
theorem awardValues_card : Rows.AwardValuesCardSaid:=
 Claim7.holds_tied_plain_at .later [] [.data,.data] true (true,"bc339a24e2b44499353ab3eb5a39993064bd659936142b7090c4a4faf959317c") false
  awardValues_said (fun _ h => by cases h) (by kernel_rfl) (fun _ h => by cases h) awardValues_row_tie rfl ⟨rfl,rfl⟩ (by kernel_rfl) rfl
  (fun f fn hf hfn => by
    obtain rfl : f = 3:=Option.some.inj ((show Tryz.prog.funcNamed "lagan/laganlaw06.AwardValues" = some 3 by kernel_rfl).symm.trans hf) |>.symm
    obtain rfl : fn = Tryz.f3:=(Option.some.inj (Tryz.func3.symm.trans hfn)).symm
    exact ⟨by kernel_rfl,fun j t ht => by
     rw [Tryz.params3] at ht
     have hm : t ∈ [22,3,23,3]:=by simpa using Array.mem_of_getElem? ht
     have hall : ([22,3,23,3].all fun u => !Tryz.prog.wantsStandIn u) = true:=by kernel_rfl
     exact (show Tryz.prog.wantsStandIn t = false by simpa using List.all_eq_true.1 hall t hm)⟩)
  (by kernel_rfl)
end Go.Proofs.YtckefonlahokkaaGreatDoor
