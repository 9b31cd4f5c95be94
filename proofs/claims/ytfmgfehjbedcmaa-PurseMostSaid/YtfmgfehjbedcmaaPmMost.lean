/-
  A book has at most 400 postings: the law PurseMost returns true for every number and leaves it as it was.
  Conditions: none.
-/
import Derived.Test.YtfmgfehjbedcmaaPmRowR
import Derived.Test.YtfmgfehjbedcmaaPmLawC
set_option linter.unusedSimpArgs false
set_option linter.unusedVariables false
namespace Go.Proofs.Ytfmgfehjbedcmaa
open Go.ChangeShapes Go.WideShapes Go.ChangeAt Go.RowKit Go.ChangeMaps

def pqVal (m : Int) : Nat → Option Value
  | 3 => some (.int .i64 m)
  | _ => none
theorem intq_ins {σ : Zs.Sig} {v : Nat} {n : Int} (h : σ.rho.val v = some (.int .i64 n)) : (Zs.Arg.one (.int .i64 v)).av.inst σ = some (.int .i64 n) := v_int h
set_option maxRecDepth 100000 in
theorem most_any {W : World} (m : Int) : Calls Try.prog 4 #[.int .i64 m] W fun e w' => e = .returned (.bool true) ∧ Zs.Kept (fun b => W.heap.size ≤ b) W w' := by
  let r : Zs.Rho := ⟨pqVal m, Zs.sy⟩
  refine Zs.pq_true (r := r) (σ := Zs.lawSig [] (fun _ => 0) r) (us := [.int .i64 m]) rfl rfl (fun g id hg => Zs.law_globs hg) (no_list (laid_none W) r) ?_
  exact .cons (intq_ins rfl) .nil

theorem pq_readable : ([3].all fun t => Try.prog.readableRec t && decide (t < Try.prog.types.size)) = true := by kernel_rfl
set_option maxRecDepth 100000 in
theorem pq_lifted (os : Os) (started : os.Started) (H : Type) (enc : TypeId × Value → H) :
    ReturnsInHanded {} Try.checked os 4 .any (fun w args => Rows.purseMostSpec.pre enc Try.prog Try.f4 [] false w args ∧ sizedMet enc Try.prog Try.f4 (OpenSpec.ofChange Rows.purseMostSpec) false w args)
      (Rows.purseMostSpec.post enc Try.prog Try.f4 false true false false) := by
  refine returns_plain (C := Try.checked) own started (by kernel_rfl) Try.func4
    (ChangeSpec.witness_shaped (enc := enc) (C := Try.checked) (os := os) (X := fun _ _ => True) false (World.laidAll Try.prog os []) #[.int .i64 0] 8 (World.laidAll_os _ _ _)
      (World.shaped_of_ZipB (by kernel_rfl) (by kernel_rfl)) (by kernel_rfl) (by kernel_rfl) (by kernel_rfl)
      trivial) ?_
  intro W base args ds gs before hval0 hW
  have hval : ∀ (j : Nat) t v, Try.f4.params[j]? = some t → args[j]? = some v → Value.okWide Try.prog W .any base t v := hval0
  have hW' := hW
  obtain ⟨p, q, hA0, hV, rfl, _, _⟩ := hW
  have hA : DataW.TrodAll enc Try.prog W 0 (fun _ => true) true Try.f4.params.toList args.toList ds p := hA0
  rw [Try.params4] at hA hval
  have hAk := hA
  have hlt := DataW.TrodAll.lt hA
  obtain ⟨v0, d0, rfl, rfl, h0⟩ := trodAll_one hA
  obtain ⟨rfl, rfl⟩ := trodVars_none hV
  obtain ⟨x, rfl, rfl, _, _⟩ := open_int (by kernel_rfl : Try.prog.underlying 3 = some (.int .i64)) (hval 0 3 v0 rfl rfl) h0
  simp only [List.append_nil] at hW'
  refine (most_any x).mono fun e W' ⟨he, hk⟩ => ?_
  subst he
  refine ⟨_, rfl, _, _, _, [], p, [], hW', ?_, ?_, ?_, kept_but hk, fun h => by cases h⟩
  · exact trodAll_mk1 (shut_bool (by kernel_rfl : Try.prog.underlying 4 = some .bool) true)
  · exact trodAll_stays laidOut hk pq_readable hAk hlt
  · rfl

theorem purseMost_said : Rows.PurseMostSaid :=
  OpenClaim.holds_of_wide 4 Try.f4 rfl rfl rfl rfl rfl rfl rfl ⟨rfl, rfl, rfl, rfl, rfl⟩ rfl rfl rfl rfl rfl (by kernel_rfl) Try.func4 (by kernel_rfl)
    (of_decide_eq_true (by kernel_rfl)) (by unfold Func.isWrapper; first | (rw [if_pos (by decide +kernel)]; kernel_rfl) | (rw [if_neg (by decide +kernel)]; exact ⟨rfl, rfl⟩))
    (fun os started H enc _ => pq_lifted os started H enc)
end Go.Proofs.Ytfmgfehjbedcmaa
