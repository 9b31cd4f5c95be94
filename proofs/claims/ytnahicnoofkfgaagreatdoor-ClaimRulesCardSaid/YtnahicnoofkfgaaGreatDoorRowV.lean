/-
  The row of ClaimRules.
-/
import Derived.Test.YtnahicnoofkfgaaGreatDoorRowS
import Derived.Test.YtnahicnoofkfgaaGreatDoorLawL
import Derived.Carry
set_option linter.unusedSimpArgs false
set_option linter.unusedVariables false
namespace Go.Proofs.YtnahicnoofkfgaaGreatDoor
open Go.ChangeShapes Go.WideShapes Go.ChangeAt Go.RowKit Go.ChangeMaps

def rlVal (p q s : Zs.Frac) : Nat → Option Value
  | 0 => p.row[0]?
  | 1 => p.row[1]?
  | 2 => q.row[0]?
  | 3 => q.row[1]?
  | 4 => s.row[0]?
  | 5 => s.row[1]?
  | _ => none
set_option maxRecDepth 100000 in
theorem rl_any {W : World} (hL : Zs.LaidL Zs.hRoot W) (p q s : Zs.Frac) :
    Calls Tryz.prog 9 #[.agg p.row.toArray, .agg q.row.toArray, .agg s.row.toArray] W fun e w' => e = .returned (.bool true) ∧ Zs.Kept (fun b => W.heap.size ≤ b) W w' := by
  let r : Zs.Rho := ⟨rlVal p q s, Zs.sy⟩
  refine Zs.rl_true (r := r) (σ := Zs.lawSig [] (fun _ => 0) r) (us := [.agg p.row.toArray, .agg q.row.toArray, .agg s.row.toArray]) rfl rfl (fun g id hg => Zs.law_globs hg) (no_list hL r) ?_
  exact .cons (frac_ins (p := p) fun j hj => by rcases j with _ | _ | j <;> first | rfl | omega) (.cons (frac_ins (p := q) fun j hj => by rcases j with _ | _ | j <;> first | rfl | omega) (.cons (frac_ins (p := s) fun j hj => by rcases j with _ | _ | j <;> first | rfl | omega) .nil))

theorem rl_readable : ([23, 23, 23].all fun t => Tryz.prog.readableRec t && decide (t < Tryz.prog.types.size)) = true := by kernel_rfl
set_option maxRecDepth 100000 in
theorem rl_lifted (os : Os) (started : os.Started) (H : Type) (enc : TypeId × Value → H) :
    ReturnsInHanded {} Tryz.checked os 9 .any (fun w args => (Rows.claimRulesSpec.pre enc Tryz.prog Tryz.f9 [] false w args ∧ laidMetH Tryz.prog Rows.claimRulesRow.laid w) ∧ sizedMet enc Tryz.prog Tryz.f9 (OpenSpec.ofChange Rows.claimRulesSpec) false w args)
      (Rows.claimRulesSpec.post enc Tryz.prog Tryz.f9 false true false false) := by
  refine returns_shaped (C := Tryz.checked) (X := fun w _ => laidMetH Tryz.prog Rows.claimRulesRow.laid w) (fun _ _ _ hh h => h.of_heap hh) own started (by kernel_rfl) Tryz.func9
    (ChangeSpec.witness_shaped (enc := enc) (C := Tryz.checked) (os := os) (X := fun w _ => laidMetH Tryz.prog Rows.claimRulesRow.laid w) false (World.laidAll Tryz.prog os Rows.claimRulesRow.laid) #[zeroFrac, zeroFrac, zeroFrac] 8 (World.laidAll_os _ _ _)
      (World.shaped_of_ZipB (by kernel_rfl) (by kernel_rfl)) (by kernel_rfl) (by kernel_rfl) (by kernel_rfl)
      (by rw [MakeChecks.laidMetH_plain _ _ _ (by kernel_rfl)]; exact laidMet_laidAll _ (by kernel_rfl) (by kernel_rfl))) ?_
  intro W base args ds gs before hval0 hW hshape hL
  have hval : ∀ (j : Nat) t v, Tryz.f9.params[j]? = some t → args[j]? = some v → Value.okWide Tryz.prog W .any base t v := hval0
  have hW' := hW
  obtain ⟨p, q, hA0, hV, rfl, _, _⟩ := hW
  have hA : DataW.TrodAll enc Tryz.prog W 0 (fun _ => true) true Tryz.f9.params.toList args.toList ds p := hA0
  rw [Tryz.params9] at hA hval
  have hAk := hA
  have hlt := DataW.TrodAll.lt hA
  obtain ⟨v0, v1, v2, d0, d1, d2, p0, p1, p2, rfl, rfl, rfl, h0, h1, h2⟩ := trodAll_three hA
  obtain ⟨rfl, rfl⟩ := trodVars_none hV
  obtain ⟨p, rfl, _, _⟩ := frac_in (hval 0 23 v0 rfl rfl) h0
  obtain ⟨q, rfl, _, _⟩ := frac_in (hval 1 23 v1 rfl rfl) h1
  obtain ⟨s, rfl, _, _⟩ := frac_in (hval 2 23 v2 rfl rfl) h2
  have hl := laid_of hshape hL
  simp only [List.append_nil] at hW'
  refine (rl_any hl p q s).mono fun e W' ⟨he, hk⟩ => ?_
  subst he
  refine ⟨_, rfl, _, _, _, [], p0 ++ p1 ++ p2, [], hW', ?_, ?_, ?_, kept_but hk, fun h => by cases h⟩
  · exact trodAll_mk1 (shut_bool (by kernel_rfl : Tryz.prog.underlying 4 = some .bool) true)
  · exact trodAll_stays laidOut hk rl_readable hAk hlt
  · rfl

theorem claimRules_said : Rows.ClaimRulesSaid :=
  OpenClaim.holds_of_wide 9 Tryz.f9 rfl rfl rfl rfl rfl rfl rfl ⟨rfl, rfl, rfl, rfl, rfl⟩ rfl rfl rfl rfl rfl (by kernel_rfl) Tryz.func9 (by kernel_rfl)
    (of_decide_eq_true (by kernel_rfl)) (by unfold Func.isWrapper; first | (rw [if_pos (by decide +kernel)]; kernel_rfl) | (rw [if_neg (by decide +kernel)]; exact ⟨rfl, rfl⟩))
    (fun os started H enc _ => rl_lifted os started H enc)
end Go.Proofs.YtnahicnoofkfgaaGreatDoor
