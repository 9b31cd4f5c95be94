/-
  For every list of at most 24 postings that is a book, each clawback is known later than the last payment before it, and takes no more than the party had: the law PurseReasons returns true for every list and leaves it as it was.
  Conditions: none.
-/
import Derived.Test.YtfmgfehjbedcmaaPrRowR
import Derived.Test.YtfmgfehjbedcmaaPrLawC
set_option linter.unusedSimpArgs false
set_option linter.unusedVariables false
namespace Go.Proofs.Ytfmgfehjbedcmaa
open Go.ChangeShapes Go.WideShapes Go.ChangeAt Go.RowKit Go.ChangeMaps

def pmVal (off cap : Nat) (l : List Zs.Ptg) : Nat → Option Value
  | 0 => some (.int .i64 (off : Int))
  | 1 => some (Zs.ptgsR l)
  | 2 => some (.int .i64 (cap : Int))
  | _ => none
set_option maxRecDepth 100000 in
theorem reasons_any {W : World} {v : Value} (hv : v = .slice none 0 0 ∨ ∃ b off len cap l, ListIn W v b off len cap l) :
    Calls Try.prog 5 #[v] W fun e w' => e = .returned (.bool true) ∧ Zs.Kept (fun b => W.heap.size ≤ b) W w' := by
  rcases hv with rfl | ⟨b, off, len, cap, l, h⟩
  · let r : Zs.Rho := ⟨pmVal 0 0 [], Zs.sy⟩
    refine Zs.pmNil_true (r := r) (σ := Zs.lawSig [] (fun _ => 0) r) (us := [.slice none 0 0]) rfl rfl (fun g id hg => Zs.law_globs hg) (no_list (laid_none W) r) ?_
    exact .cons rfl .nil
  · let r : Zs.Rho := ⟨pmVal off cap l, Zs.sy⟩
    refine Zs.pm_true (r := r) (σ := Zs.lawSig [blk 60 0] (fun _ => b) r) (us := [v]) rfl rfl (fun g id hg => Zs.law_globs hg) (one_list h rfl rfl) ?_
    exact .cons (one_arg h rfl rfl rfl) .nil

theorem pm_readable : ([22].all fun t => Try.prog.readableRec t && decide (t < Try.prog.types.size)) = true := by kernel_rfl
set_option maxRecDepth 100000 in
theorem pm_lifted (os : Os) (started : os.Started) (H : Type) (enc : TypeId × Value → H) :
    ReturnsInHanded {} Try.checked os 5 .any (fun w args => Rows.purseReasonsSpec.pre enc Try.prog Try.f5 [] false w args ∧ sizedMet enc Try.prog Try.f5 (OpenSpec.ofChange Rows.purseReasonsSpec) false w args)
      (Rows.purseReasonsSpec.post enc Try.prog Try.f5 false true false false) := by
  refine returns_plain (C := Try.checked) own started (by kernel_rfl) Try.func5
    (ChangeSpec.witness_shaped (enc := enc) (C := Try.checked) (os := os) (X := fun _ _ => True) false (World.laidAll Try.prog os []) #[.slice none 0 0] 8 (World.laidAll_os _ _ _)
      (World.shaped_of_ZipB (by kernel_rfl) (by kernel_rfl)) (by kernel_rfl) (by kernel_rfl) (by kernel_rfl)
      trivial) ?_
  intro W base args ds gs before hval0 hW
  have hval : ∀ (j : Nat) t v, Try.f5.params[j]? = some t → args[j]? = some v → Value.okWide Try.prog W .any base t v := hval0
  have hW' := hW
  obtain ⟨p, q, hA0, hV, rfl, _, _⟩ := hW
  have hA : DataW.TrodAll enc Try.prog W 0 (fun _ => true) true Try.f5.params.toList args.toList ds p := hA0
  rw [Try.params5] at hA hval
  have hAk := hA
  have hlt := DataW.TrodAll.lt hA
  obtain ⟨v0, d0, rfl, rfl, h0⟩ := trodAll_one hA
  obtain ⟨rfl, rfl⟩ := trodVars_none hV

  simp only [List.append_nil] at hW'
  refine (reasons_any (list_in (hval 0 22 v0 rfl rfl) h0)).mono fun e W' ⟨he, hk⟩ => ?_
  subst he
  refine ⟨_, rfl, _, _, _, [], p, [], hW', ?_, ?_, ?_, kept_but hk, fun h => by cases h⟩
  · exact trodAll_mk1 (shut_bool (by kernel_rfl : Try.prog.underlying 4 = some .bool) true)
  · exact trodAll_stays laidOut hk pm_readable hAk hlt
  · rfl

theorem purseReasons_said : Rows.PurseReasonsSaid :=
  OpenClaim.holds_of_wide 5 Try.f5 rfl rfl rfl rfl rfl rfl rfl ⟨rfl, rfl, rfl, rfl, rfl⟩ rfl rfl rfl rfl rfl (by kernel_rfl) Try.func5 (by kernel_rfl)
    (of_decide_eq_true (by kernel_rfl)) (by unfold Func.isWrapper; first | (rw [if_pos (by decide +kernel)]; kernel_rfl) | (rw [if_neg (by decide +kernel)]; exact ⟨rfl, rfl⟩))
    (fun os started H enc _ => pm_lifted os started H enc)
end Go.Proofs.Ytfmgfehjbedcmaa
