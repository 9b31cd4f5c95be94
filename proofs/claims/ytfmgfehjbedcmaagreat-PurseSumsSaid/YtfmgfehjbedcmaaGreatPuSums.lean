/-
  At each hour what was sold is what is paid and what is held together, for each parcel and altogether, and nothing is held or had below 0: the law PurseSums returns true for every list and hour and leaves its arguments as they were.
  Conditions: none.
-/
import Derived.Test.YtfmgfehjbedcmaaGreatPuRowR
import Derived.Test.YtfmgfehjbedcmaaGreatPuLawC
set_option linter.unusedSimpArgs false
set_option linter.unusedVariables false
namespace Go.Proofs.YtfmgfehjbedcmaaGreat
open Go.ChangeShapes Go.WideShapes Go.ChangeAt Go.RowKit Go.ChangeMaps

def pwVal (off cap : Nat) (l : List Zs.Ptg) (h : Int) : Nat → Option Value
  | 0 => some (.int .i64 (off : Int))
  | 1 => some (Zs.ptgsR l)
  | 2 => some (.int .i64 (cap : Int))
  | 3 => some (.int .i64 h)
  | _ => none
theorem int_ins {σ : Zs.Sig} {v : Nat} {n : Int} (h : σ.rho.val v = some (.int .i64 n)) : (Zs.Arg.one (.int .i64 v)).av.inst σ = some (.int .i64 n) := v_int h
set_option maxRecDepth 100000 in
theorem sums_any {W : World} {v : Value} (hv : v = .slice none 0 0 ∨ ∃ b off len cap l, ListIn W v b off len cap l) (h : Int) :
    Calls Tryz.prog 7 #[v, .int .i64 h] W fun e w' => e = .returned (.bool true) ∧ Zs.Kept (fun b => W.heap.size ≤ b) W w' := by
  rcases hv with rfl | ⟨b, off, len, cap, l, hl⟩
  · let r : Zs.Rho := ⟨pwVal 0 0 [] h, Zs.sy⟩
    refine Zs.pwNil_true (r := r) (σ := Zs.lawSig [] (fun _ => 0) r) (us := [.slice none 0 0, .int .i64 h]) rfl rfl (fun g id hg => Zs.law_globs hg) (no_list (laid_none W) r) ?_
    exact .cons rfl (.cons (int_ins rfl) .nil)
  · let r : Zs.Rho := ⟨pwVal off cap l h, Zs.sy⟩
    refine Zs.pw_true (r := r) (σ := Zs.lawSig [blk 60 0] (fun _ => b) r) (us := [v, .int .i64 h]) rfl rfl (fun g id hg => Zs.law_globs hg) (one_list hl rfl rfl) ?_
    exact .cons (one_arg hl rfl rfl rfl) (.cons (int_ins rfl) .nil)

theorem pw_readable : ([22, 3].all fun t => Tryz.prog.readableRec t && decide (t < Tryz.prog.types.size)) = true := by kernel_rfl
set_option maxRecDepth 100000 in
theorem pw_lifted (os : Os) (started : os.Started) (H : Type) (enc : TypeId × Value → H) :
    ReturnsInHanded {} Tryz.checked os 7 .any (fun w args => Rows.purseSumsSpec.pre enc Tryz.prog Tryz.f7 [] false w args ∧ sizedMet enc Tryz.prog Tryz.f7 (OpenSpec.ofChange Rows.purseSumsSpec) false w args)
      (Rows.purseSumsSpec.post enc Tryz.prog Tryz.f7 false true false false) := by
  refine returns_plain (C := Tryz.checked) own started (by kernel_rfl) Tryz.func7
    (ChangeSpec.witness_shaped (enc := enc) (C := Tryz.checked) (os := os) (X := fun _ _ => True) false (World.laidAll Tryz.prog os []) #[.slice none 0 0, .int .i64 0] 8 (World.laidAll_os _ _ _)
      (World.shaped_of_ZipB (by kernel_rfl) (by kernel_rfl)) (by kernel_rfl) (by kernel_rfl) (by kernel_rfl)
      trivial) ?_
  intro W base args ds gs before hval0 hW
  have hval : ∀ (j : Nat) t v, Tryz.f7.params[j]? = some t → args[j]? = some v → Value.okWide Tryz.prog W .any base t v := hval0
  have hW' := hW
  obtain ⟨p, q, hA0, hV, rfl, _, _⟩ := hW
  have hA : DataW.TrodAll enc Tryz.prog W 0 (fun _ => true) true Tryz.f7.params.toList args.toList ds p := hA0
  rw [Tryz.params7] at hA hval
  have hAk := hA
  have hlt := DataW.TrodAll.lt hA
  obtain ⟨v0, v1, d0, d1, p0, p1, rfl, rfl, rfl, h0, h1⟩ := trodAll_two hA
  obtain ⟨rfl, rfl⟩ := trodVars_none hV
  obtain ⟨x, rfl, rfl, _, _⟩ := open_int (by kernel_rfl : Tryz.prog.underlying 3 = some (.int .i64)) (hval 1 3 v1 rfl rfl) h1
  simp only [List.append_nil] at hW'
  refine (sums_any (list_in (hval 0 22 v0 rfl rfl) h0) x).mono fun e W' ⟨he, hk⟩ => ?_
  subst he
  refine ⟨_, rfl, _, _, _, [], p0 ++ p1, [], hW', ?_, ?_, ?_, kept_but hk, fun h => by cases h⟩
  · exact trodAll_mk1 (shut_bool (by kernel_rfl : Tryz.prog.underlying 4 = some .bool) true)
  · exact trodAll_stays laidOut hk pw_readable hAk hlt
  · rfl

theorem purseSums_said : Rows.PurseSumsSaid :=
  OpenClaim.holds_of_wide 7 Tryz.f7 rfl rfl rfl rfl rfl rfl rfl ⟨rfl, rfl, rfl, rfl, rfl⟩ rfl rfl rfl rfl rfl (by kernel_rfl) Tryz.func7 (by kernel_rfl)
    (of_decide_eq_true (by kernel_rfl)) (by unfold Func.isWrapper; first | (rw [if_pos (by decide +kernel)]; kernel_rfl) | (rw [if_neg (by decide +kernel)]; exact ⟨rfl, rfl⟩))
    (fun os started H enc _ => pw_lifted os started H enc)
end Go.Proofs.YtfmgfehjbedcmaaGreat
