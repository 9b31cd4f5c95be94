/-
  The row of ClaimFractions.
-/
import Derived.Test.YtnahicnoofkfgaaGreatDoorRowS
import Derived.Test.YtnahicnoofkfgaaGreatDoorLawL
import Derived.Carry
set_option linter.unusedSimpArgs false
set_option linter.unusedVariables false
namespace Go.Proofs.YtnahicnoofkfgaaGreatDoor
open Go.ChangeShapes Go.WideShapes Go.ChangeAt Go.RowKit Go.ChangeMaps

def flVal (n d : Int) (p q : Zs.Frac) : Nat → Option Value
  | 0 => some (.int .i64 n)
  | 1 => some (.int .i64 d)
  | 2 => p.row[0]?
  | 3 => p.row[1]?
  | 4 => q.row[0]?
  | 5 => q.row[1]?
  | _ => none
set_option maxRecDepth 100000 in
theorem fl_any {W : World} (hL : Zs.LaidL Zs.hRoot W) (n d : Int) (p q : Zs.Frac) (hw : Zs.wordB q.num = true) :
    Calls Tryz.prog 3 #[.int .i64 n, .int .i64 d, .agg p.row.toArray, .agg q.row.toArray] W fun e w' => e = .returned (.bool true) ∧ Zs.Kept (fun b => W.heap.size ≤ b) W w' := by
  let r : Zs.Rho := ⟨flVal n d p q, Zs.sy⟩
  refine Zs.fl_true (r := r) (σ := Zs.lawSig [] (fun _ => 0) r) (us := [.int .i64 n, .int .i64 d, .agg p.row.toArray, .agg q.row.toArray]) rfl rfl (fun g id hg => Zs.law_globs hg) (no_list hL r) ?_ ?_
  · exact .cons (v_int (k' := .i64) rfl) (.cons (v_int (k' := .i64) rfl) (.cons (frac_ins (p := p) fun j hj => by rcases j with _ | _ | j <;> first | rfl | omega) (.cons (frac_ins (p := q) fun j hj => by rcases j with _ | _ | j <;> first | rfl | omega) .nil)))
  · intro k c h
    have h : q.row[0]? = some (.int k c) := h
    rw [Zs.frac0] at h
    cases h
    exact hw

theorem fl_readable : ([3, 3, 23, 23].all fun t => Tryz.prog.readableRec t && decide (t < Tryz.prog.types.size)) = true := by kernel_rfl
set_option maxRecDepth 100000 in
theorem fl_lifted (os : Os) (started : os.Started) (H : Type) (enc : TypeId × Value → H) :
    ReturnsInHanded {} Tryz.checked os 3 .any (fun w args => (Rows.claimFractionsSpec.pre enc Tryz.prog Tryz.f3 [] false w args ∧ laidMetH Tryz.prog Rows.claimFractionsRow.laid w) ∧ sizedMet enc Tryz.prog Tryz.f3 (OpenSpec.ofChange Rows.claimFractionsSpec) false w args)
      (Rows.claimFractionsSpec.post enc Tryz.prog Tryz.f3 false true false false) := by
  refine returns_shaped (C := Tryz.checked) (X := fun w _ => laidMetH Tryz.prog Rows.claimFractionsRow.laid w) (fun _ _ _ hh h => h.of_heap hh) own started (by kernel_rfl) Tryz.func3
    (ChangeSpec.witness_shaped (enc := enc) (C := Tryz.checked) (os := os) (X := fun w _ => laidMetH Tryz.prog Rows.claimFractionsRow.laid w) false (World.laidAll Tryz.prog os Rows.claimFractionsRow.laid) #[.int .i64 0, .int .i64 0, zeroFrac, zeroFrac] 8 (World.laidAll_os _ _ _)
      (World.shaped_of_ZipB (by kernel_rfl) (by kernel_rfl)) (by kernel_rfl) (by kernel_rfl) (by kernel_rfl)
      (by rw [MakeChecks.laidMetH_plain _ _ _ (by kernel_rfl)]; exact laidMet_laidAll _ (by kernel_rfl) (by kernel_rfl))) ?_
  intro W base args ds gs before hval0 hW hshape hL
  have hval : ∀ (j : Nat) t v, Tryz.f3.params[j]? = some t → args[j]? = some v → Value.okWide Tryz.prog W .any base t v := hval0
  have hW' := hW
  obtain ⟨p, q, hA0, hV, rfl, _, _⟩ := hW
  have hA : DataW.TrodAll enc Tryz.prog W 0 (fun _ => true) true Tryz.f3.params.toList args.toList ds p := hA0
  rw [Tryz.params3] at hA hval
  have hAk := hA
  have hlt := DataW.TrodAll.lt hA
  obtain ⟨v0, v1, v2, v3, d0, d1, d2, d3, p0, p1, p2, p3, rfl, rfl, rfl, h0, h1, h2, h3⟩ := trodAll_four hA
  obtain ⟨rfl, rfl⟩ := trodVars_none hV
  obtain ⟨n, rfl, rfl, _, _⟩ := open_int u3 (hval 0 3 v0 rfl rfl) h0
  obtain ⟨d, rfl, rfl, _, _⟩ := open_int u3 (hval 1 3 v1 rfl rfl) h1
  obtain ⟨p, rfl, _, _⟩ := frac_in (hval 2 23 v2 rfl rfl) h2
  obtain ⟨q, rfl, hq, _⟩ := frac_in (hval 3 23 v3 rfl rfl) h3
  have hl := laid_of hshape hL
  simp only [List.append_nil] at hW'
  refine (fl_any hl n d p q hq).mono fun e W' ⟨he, hk⟩ => ?_
  subst he
  refine ⟨_, rfl, _, _, _, [], p0 ++ p1 ++ p2 ++ p3, [], hW', ?_, ?_, ?_, kept_but hk, fun h => by cases h⟩
  · exact trodAll_mk1 (shut_bool (by kernel_rfl : Tryz.prog.underlying 4 = some .bool) true)
  · exact trodAll_stays laidOut hk fl_readable hAk hlt
  · rfl

theorem claimFractions_said : Rows.ClaimFractionsSaid :=
  OpenClaim.holds_of_wide 3 Tryz.f3 rfl rfl rfl rfl rfl rfl rfl ⟨rfl, rfl, rfl, rfl, rfl⟩ rfl rfl rfl rfl rfl (by kernel_rfl) Tryz.func3 (by kernel_rfl)
    (of_decide_eq_true (by kernel_rfl)) (by unfold Func.isWrapper; first | (rw [if_pos (by decide +kernel)]; kernel_rfl) | (rw [if_neg (by decide +kernel)]; exact ⟨rfl, rfl⟩))
    (fun os started H enc _ => fl_lifted os started H enc)
end Go.Proofs.YtnahicnoofkfgaaGreatDoor
