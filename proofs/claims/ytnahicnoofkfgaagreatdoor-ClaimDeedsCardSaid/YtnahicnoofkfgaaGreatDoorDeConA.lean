/-
  Contracts of the reference and of package claim, over names: greatest common divisors, validity, lowest terms.
-/
import Derived.Test.YtnahicnoofkfgaaGreatDoorDeBase
import Derived.Test.YtnahicnoofkfgaaGreatDoorDeFrac
import Derived.KernelRfl
set_option linter.unusedSimpArgs false
set_option linter.unusedVariables false
namespace Go.Proofs.YtnahicnoofkfgaaGreatDoor.Zs
open Go
set_option linter.unusedSimpArgs false
set_option linter.unusedVariables false

noncomputable def noL : Env → CallE := libs []
theorem noL_ok (F : List (X × Bool)) {r : Rho} (h : r.sym = sy) : CallsOk (E0.with F r) (noL (E0.with F r)) := libs_ok fun c hc => by
  cases hc
def div_vs : List X := [.var 0, .var 1]

noncomputable def rwithin_con : Con := { f := 67, args := [.one (.int .i64 0), .one (.int .i64 1), .one (.int .i64 2)], N := 0, M := 0, pre := [], out := .sbool (.app 10 [.var 0, .var 1, .var 2]), news := [] }
noncomputable def rwithin_call : Env → CallL := fun E => acallAll E (evH E (noL E) ((fun _ => noLoops) E) 4)
noncomputable def rwithin_t : GTree := (.fork (.op2 .lt (.var 0) (.var 1)) (.leaf [[]]) (.leaf [[]]))
noncomputable def rwithin_l : List (List (X × Bool) × Option Pairs) := [([(.op2 .lt (.var 0) (.var 1), true)], some [(.app 10 [.var 0, .var 1, .var 2], .boo false)]),
  ([(.op2 .lt (.var 0) (.var 1), false)], some [(.app 10 [.var 0, .var 1, .var 2], .op1 .not (.op2 .lt (.var 2) (.var 0)))])]
theorem rwithin_w (r : Rho) : rwithin_con.fn.ways rwithin_call E0 r rwithin_con.pre rwithin_t = some rwithin_l := by kernel_rfl
theorem rwithin_cok : rwithin_con.Ok Tryz.prog sy := by
  intro r σ w us hsy hρ hpre hrel hins
  obtain ⟨u0, us, rfl, g0, hins⟩ := ins_cons hins
  obtain ⟨u1, us, rfl, g1, hins⟩ := ins_cons hins
  obtain ⟨u2, us, rfl, g2, hins⟩ := ins_cons hins
  obtain ⟨a, k0, rfl, h0⟩ := one_int g0
  obtain ⟨b, k1, rfl, h1⟩ := one_int g1
  obtain ⟨c, k2, rfl, h2⟩ := one_int g2
  rw [hρ] at h0 h1 h2
  have hs : r.sym 10 [.int k0 a, .int k1 b, .int k2 c] = some (.bool (withinB a b c)) := by rw [hsy]; rfl
  refine con_of (E := E0) E0_ok E0_glob (sy := sy) (fun F => noL_ok F hsy) (fun F => noH_ok) (rwithin_w r) hρ hpre hrel hins ?_ ?_
  · simp only [rwithin_con, rwithin_t, AsksL, GTree.asks, FTree.asks, FactsIn, List.append_nil, List.nil_append, List.cons_append, Option.some.injEq, exists_eq', implies_true, and_self, X.bool, X.den, denL, d_wrap, d_kind, d_not, d_neg, d_slen, d_add, d_sub, d_mul, d_div, d_mod, d_lt, d_le, d_eq, d_eqb, d_eqs, d_lts, d_cat, d_sat, d_and, d_or, denSub, denIte, asB, fracs_len, fracs_cell, fracs_lsub, deeds_len, deeds_cell, deeds_lsub, h0, h1, h2, hs]
  · simp only [rwithin_l, EndsOk, WaysOk, forall_cons, forall_nil, TgtOk, gpair, FactsIn, hold_cons, hold_nil, Option.some.injEq, Value.bool.injEq, Value.int.injEq, decide_eq_true_eq, decide_eq_false_iff_not, and_true, true_and, and_imp, X.bool, X.den, denL, d_wrap, d_kind, d_not, d_neg, d_slen, d_add, d_sub, d_mul, d_div, d_mod, d_lt, d_le, d_eq, d_eqb, d_eqs, d_lts, d_cat, d_sat, d_and, d_or, denSub, denIte, asB, fracs_len, fracs_cell, fracs_lsub, deeds_len, deeds_cell, deeds_lsub, h0, h1, h2, hs]
    (repeat' apply And.intro) <;> intros <;> first | trivial | (simp [withinB]; omega) | (rw [Bool.eq_iff_iff]; simp [withinB]; omega)
noncomputable def cwithin_con : Con := { f := 62, args := [.one (.int .i64 0), .one (.int .i64 1), .one (.int .i64 2)], N := 0, M := 0, pre := [], out := .sbool (.app 10 [.var 0, .var 1, .var 2]), news := [] }
noncomputable def cwithin_call : Env → CallL := fun E => acallAll E (evH E (noL E) ((fun _ => noLoops) E) 4)
noncomputable def cwithin_t : GTree := (.fork (.op2 .lt (.var 0) (.var 1)) (.leaf [[]]) (.leaf [[]]))
noncomputable def cwithin_l : List (List (X × Bool) × Option Pairs) := [([(.op2 .lt (.var 0) (.var 1), true)], some [(.app 10 [.var 0, .var 1, .var 2], .boo false)]),
  ([(.op2 .lt (.var 0) (.var 1), false)], some [(.app 10 [.var 0, .var 1, .var 2], .op1 .not (.op2 .lt (.var 2) (.var 0)))])]
theorem cwithin_w (r : Rho) : cwithin_con.fn.ways cwithin_call E0 r cwithin_con.pre cwithin_t = some cwithin_l := by kernel_rfl
theorem cwithin_cok : cwithin_con.Ok Tryz.prog sy := by
  intro r σ w us hsy hρ hpre hrel hins
  obtain ⟨u0, us, rfl, g0, hins⟩ := ins_cons hins
  obtain ⟨u1, us, rfl, g1, hins⟩ := ins_cons hins
  obtain ⟨u2, us, rfl, g2, hins⟩ := ins_cons hins
  obtain ⟨a, k0, rfl, h0⟩ := one_int g0
  obtain ⟨b, k1, rfl, h1⟩ := one_int g1
  obtain ⟨c, k2, rfl, h2⟩ := one_int g2
  rw [hρ] at h0 h1 h2
  have hs : r.sym 10 [.int k0 a, .int k1 b, .int k2 c] = some (.bool (withinB a b c)) := by rw [hsy]; rfl
  refine con_of (E := E0) E0_ok E0_glob (sy := sy) (fun F => noL_ok F hsy) (fun F => noH_ok) (cwithin_w r) hρ hpre hrel hins ?_ ?_
  · simp only [cwithin_con, cwithin_t, AsksL, GTree.asks, FTree.asks, FactsIn, List.append_nil, List.nil_append, List.cons_append, Option.some.injEq, exists_eq', implies_true, and_self, X.bool, X.den, denL, d_wrap, d_kind, d_not, d_neg, d_slen, d_add, d_sub, d_mul, d_div, d_mod, d_lt, d_le, d_eq, d_eqb, d_eqs, d_lts, d_cat, d_sat, d_and, d_or, denSub, denIte, asB, fracs_len, fracs_cell, fracs_lsub, deeds_len, deeds_cell, deeds_lsub, h0, h1, h2, hs]
  · simp only [cwithin_l, EndsOk, WaysOk, forall_cons, forall_nil, TgtOk, gpair, FactsIn, hold_cons, hold_nil, Option.some.injEq, Value.bool.injEq, Value.int.injEq, decide_eq_true_eq, decide_eq_false_iff_not, and_true, true_and, and_imp, X.bool, X.den, denL, d_wrap, d_kind, d_not, d_neg, d_slen, d_add, d_sub, d_mul, d_div, d_mod, d_lt, d_le, d_eq, d_eqb, d_eqs, d_lts, d_cat, d_sat, d_and, d_or, denSub, denIte, asB, fracs_len, fracs_cell, fracs_lsub, deeds_len, deeds_cell, deeds_lsub, h0, h1, h2, hs]
    (repeat' apply And.intro) <;> intros <;> first | trivial | (simp [withinB]; omega) | (rw [Bool.eq_iff_iff]; simp [withinB]; omega)
noncomputable def rdiv_D : LoopD := { N := 100, M := 102, size := sizeOfF 81, reads := [], pats := [{ slots := [(0, .sint .i64 (.var 100)), (1, .sint .i64 (.var 101))], heap := [] }], exits := [(.exit 0, { slots := [(0, .sint .i64 (.app 52 [.var 0, .var 1]))], heap := [] })], own := [], pre := [(.app 55 [.var 0], true), (.app 55 [.var 1], true)] }
noncomputable def rdiv_run : Env → AF → ASt → Option (List Out) := bodyRun noL 4 (fun _ => noLoop) (loopAt Tryz.prog 81 0)
def rdiv0_F : List (X × Bool) := []
noncomputable def rdiv0_t : FTree := (.fork (.op2 .eq (.var 101) (.num 0)) (.leaf [.leave 0 []]) (.leaf [.again 0 []]))
noncomputable def rdiv0_l : List (List (X × Bool) × Option (List (Tgt × Pairs))) := [([(.op2 .eq (.var 101) (.num 0), true)], some [(.leave 0 [], [(.app 52 [.var 0, .var 1], .var 100)])]),
  ([(.op2 .eq (.var 101) (.num 0), false)], some [(.again 0 [], [(.var 100, .var 101), (.var 101, .op1 (.kind .i64) (.op2 .mod (.var 100) (.var 101)))])])]
theorem rdiv0_w (r : Rho) : rdiv_D.ways rdiv_run E0 r 0 rdiv0_F rdiv0_t = some rdiv0_l := by kernel_rfl
theorem rdiv_ok : rdiv_D.ok = true := by kernel_rfl
def rdiv_Inv (k0 k1 : IntKind) (a b : Int) (j : Nat) (vals : List Value) : Prop :=
  j = 0 ∧ ∃ (x y : Int) (j0 j1 : IntKind), vals = [.int j0 x, .int j1 y] ∧ wideB x = true ∧ wideB y = true ∧ lastI x y = lastI a b ∧ lastK j0 j1 x y = lastK k0 k1 a b
def rdiv_mu (_ : Nat) (vals : List Value) : Nat := (vI (vals.getD 1 default)).natAbs
theorem rdiv_step {ρ : Rho} {a b : Int} {k0 k1 : IntKind} (h0 : ρ.val 0 = some (.int k0 a)) (h1 : ρ.val 1 = some (.int k1 b)) (hsy : ρ.sym = sy) (j : Nat) (vals : List Value) (hI : rdiv_Inv k0 k1 a b j vals) :
    StepOk rdiv_D rdiv_run E0 ρ (rdiv_Inv k0 k1 a b) rdiv_mu j vals := by
  obtain ⟨rfl, x, y, j0, j1, rfl, hx, hy, hl, hk⟩ := hI
  have hN : rdiv_D.N = 100 := rfl
  have v0 : (ρ.ext rdiv_D.N [.int j0 x, .int j1 y]).val 0 = some (.int k0 a) := by rw [ext_low _ _ _ _ (by rw [hN]; omega)]; exact h0
  have v1 : (ρ.ext rdiv_D.N [.int j0 x, .int j1 y]).val 1 = some (.int k1 b) := by rw [ext_low _ _ _ _ (by rw [hN]; omega)]; exact h1
  have v100 : (ρ.ext rdiv_D.N [.int j0 x, .int j1 y]).val 100 = some (.int j0 x) := by rw [ext_high _ _ _ _ (by rw [hN]; omega)]; rfl
  have v101 : (ρ.ext rdiv_D.N [.int j0 x, .int j1 y]).val 101 = some (.int j1 y) := by rw [ext_high _ _ _ _ (by rw [hN]; omega)]; rfl
  have vs : (ρ.ext rdiv_D.N [.int j0 x, .int j1 y]).sym = sy := hsy

  refine step_of_ways (rdiv0_w _) (F := rdiv0_F) ?_ (AsksL.ok ?_) ?_
  · simp only [rdiv0_F, FactsIn]
  · simp only [rdiv0_t, rdiv0_F, AsksL, GTree.asks, FTree.asks, FactsIn, List.append_nil, List.nil_append, List.cons_append, Option.some.injEq, exists_eq', implies_true, and_self, X.bool, X.den, denL, d_wrap, d_kind, d_not, d_neg, d_slen, d_add, d_sub, d_mul, d_div, d_mod, d_lt, d_le, d_eq, d_eqb, d_eqs, d_lts, d_cat, d_sat, d_and, d_or, denSub, denIte, asB, fracs_len, fracs_cell, fracs_lsub, deeds_len, deeds_cell, deeds_lsub, v0, v1, v100, v101, vs, sym50, sym51, sym52, sym55]
  · simp only [rdiv0_l, EndsOk, WaysOk, forall_cons, forall_nil, TgtOk, gpair, FactsIn, hold_cons, hold_nil, Option.some.injEq, Value.bool.injEq, Value.int.injEq, decide_eq_true_eq, decide_eq_false_iff_not, and_true, true_and, and_imp, X.bool, X.den, denL, d_wrap, d_kind, d_not, d_neg, d_slen, d_add, d_sub, d_mul, d_div, d_mod, d_lt, d_le, d_eq, d_eqb, d_eqs, d_lts, d_cat, d_sat, d_and, d_or, denSub, denIte, asB, fracs_len, fracs_cell, fracs_lsub, deeds_len, deeds_cell, deeds_lsub, v0, v1, v100, v101, vs, h0, h1, hsy, sym50, sym51, sym52, sym55, beq_iff_eq, beq_eq_false_iff_ne, ne_eq]
    refine ⟨fun e => ?_, fun e => ⟨[.int j1 y, .int .i64 (x.tmod y)], ⟨?_, ?_⟩, ⟨rfl, y, x.tmod y, j1, .i64, rfl, hy, wide_tmod hy e, by rw [← lastI_step _ _ e]; exact hl, by rw [lastK_step j0 j1 x y e]; exact hk⟩, ?_⟩⟩
    · subst e
      rw [lastI_zero] at hl
      simp only [lastK, if_true] at hk
      exact ⟨hk.symm, hl.symm⟩
    · rw [ext_high _ _ _ _ (by rw [hN]; omega)]; rfl
    · rw [ext_high _ _ _ _ (by rw [hN]; omega)]; rfl
    · exact tmod_lt x y e
noncomputable def rdiv_con : Con := { f := 81, args := [.one (.int .i64 0), .one (.int .i64 1)], N := 0, M := 0, pre := [(.app 55 [.var 0], true), (.app 55 [.var 1], true)], out := .sint .i64 (.app 50 [.var 0, .var 1]), news := [] }
noncomputable def rdiv_call : Env → CallL := fun E => acallAll E (evH E (noL E) ((fun E => oneH 81 (hooks [(1, rdiv_D.hook E.facts div_vs)])) E) 4)
noncomputable def rdiv_t : GTree := (.leaf [[]])
noncomputable def rdiv_l : List (List (X × Bool) × Option Pairs) := [([(.app 55 [.var 0], true), (.app 55 [.var 1], true)], some [(.app 50 [.var 0, .var 1], .ite (.op2 .lt (.app 52 [.var 0, .var 1]) (.op1 (.wrap .i64) (.op2 .sub (.num 0) (.app 52 [.var 0, .var 1])))) (.op1 (.kind .i64) (.op1 (.wrap .i64) (.op2 .sub (.num 0) (.app 52 [.var 0, .var 1])))) (.op1 (.kind .i64) (.app 52 [.var 0, .var 1])))])]
theorem rdiv_w (r : Rho) : rdiv_con.fn.ways rdiv_call E0 r rdiv_con.pre rdiv_t = some rdiv_l := by kernel_rfl
theorem rdiv_H {r : Rho} {a b : Int} {k0 k1 : IntKind} (h0 : r.val 0 = some (.int k0 a)) (h1 : r.val 1 = some (.int k1 b)) (ha : wideB a = true) (hb : wideB b = true) (hsy : r.sym = sy) (F : List (X × Bool)) :
    LoopsOk (E0.with F r) (oneH 81 (hooks [(1, rdiv_D.hook (E0.with F r).facts div_vs)])) := by
  refine loops_all (n := 1) (fun f fn h => h) (by kernel_rfl) fun i hi => ?_
  obtain rfl : i = 0 := by omega
  rw [hooks_hit (show keyOf (loopAt (E0.with F r).P 81 0) = 1 by kernel_rfl)]
  refine hook_ok (E₀ := E0) (run := rdiv_run) (ρ := r) (Inv := rdiv_Inv k0 k1 a b) (μ := rdiv_mu) E0_ok rdiv_ok (fun F r' h => ?_) (fun _ => ⟨rdiv_step h0 h1 hsy, [.int k0 a, .int k1 b], ?_, rfl, a, b, k0, k1, rfl, ha, hb, rfl, rfl⟩)
  · exact bodyRun_ok E0_ok (noL_ok F (h.trans hsy)) fun _ _ => noLoop_ok
  · simp only [div_vs, X.bool, X.den, denL, d_wrap, d_kind, d_not, d_neg, d_slen, d_add, d_sub, d_mul, d_div, d_mod, d_lt, d_le, d_eq, d_eqb, d_eqs, d_lts, d_cat, d_sat, d_and, d_or, denSub, denIte, asB, fracs_len, fracs_cell, fracs_lsub, deeds_len, deeds_cell, deeds_lsub, h0, h1]

theorem rdiv_cok : rdiv_con.Ok Tryz.prog sy := by
  intro r σ w us hsy hρ hpre hrel hins
  obtain ⟨u0, us, rfl, g0, hins⟩ := ins_cons hins
  obtain ⟨u1, us, rfl, g1, hins⟩ := ins_cons hins
  obtain ⟨a, k0, rfl, h0⟩ := one_int g0
  obtain ⟨b, k1, rfl, h1⟩ := one_int g1
  rw [hρ] at h0 h1

  have hw := hpre
  simp only [rdiv_con, FactsIn, X.bool, X.den, denL, d_wrap, d_kind, d_not, d_neg, d_slen, d_add, d_sub, d_mul, d_div, d_mod, d_lt, d_le, d_eq, d_eqb, d_eqs, d_lts, d_cat, d_sat, d_and, d_or, denSub, denIte, asB, fracs_len, fracs_cell, fracs_lsub, deeds_len, deeds_cell, deeds_lsub, h0, h1, hsy, sym55, Option.some.injEq, Value.bool.injEq, and_true] at hw
  obtain ⟨ha, hb⟩ := hw
  refine con_of (E := E0) E0_ok E0_glob (sy := sy) (fun F => noL_ok F hsy) (fun F => rdiv_H h0 h1 ha hb hsy F) (rdiv_w r) hρ hpre hrel hins ?_ ?_
  · simp only [rdiv_con, rdiv_t, AsksL, GTree.asks, FTree.asks, FactsIn, List.append_nil, List.nil_append, List.cons_append, Option.some.injEq, exists_eq', implies_true, and_self, X.bool, X.den, denL, d_wrap, d_kind, d_not, d_neg, d_slen, d_add, d_sub, d_mul, d_div, d_mod, d_lt, d_le, d_eq, d_eqb, d_eqs, d_lts, d_cat, d_sat, d_and, d_or, denSub, denIte, asB, fracs_len, fracs_cell, fracs_lsub, deeds_len, deeds_cell, deeds_lsub, h0, h1, hsy, sym50, sym51, sym52, sym55]
  · simp only [rdiv_l, EndsOk, WaysOk, forall_cons, forall_nil, TgtOk, gpair, FactsIn, hold_cons, hold_nil, Option.some.injEq, Value.bool.injEq, Value.int.injEq, decide_eq_true_eq, decide_eq_false_iff_not, and_true, true_and, and_imp, X.bool, X.den, denL, d_wrap, d_kind, d_not, d_neg, d_slen, d_add, d_sub, d_mul, d_div, d_mod, d_lt, d_le, d_eq, d_eqb, d_eqs, d_lts, d_cat, d_sat, d_and, d_or, denSub, denIte, asB, fracs_len, fracs_cell, fracs_lsub, deeds_len, deeds_cell, deeds_lsub, h0, h1, hsy, sym50, sym51, sym52, sym55]
    have hg := last_gcd a b
    have hn := last_wide ha hb
    have hwr : IntKind.i64.wrap (0 - lastI a b) = - lastI a b := by rw [IntWalk.i64_in _ (by rw [wide_iff] at hn; omega)]; omega
    intros
    have e : gcdI a b = if lastI a b < - lastI a b then - lastI a b else lastI a b := by split <;> omega
    rw [hwr]
    by_cases hlt : lastI a b < - lastI a b
    · rw [if_pos hlt] at e
      simp [hlt, e]
    · rw [if_neg hlt] at e
      simp [hlt, e]
noncomputable def cdiv_D : LoopD := { N := 100, M := 102, size := sizeOfF 131, reads := [], pats := [{ slots := [(0, .sint .i64 (.var 100)), (1, .sint .i64 (.var 101))], heap := [] }], exits := [(.exit 0, { slots := [(0, .sint .i64 (.app 52 [.var 0, .var 1]))], heap := [] })], own := [], pre := [(.app 55 [.var 0], true), (.app 55 [.var 1], true)] }
noncomputable def cdiv_run : Env → AF → ASt → Option (List Out) := bodyRun noL 4 (fun _ => noLoop) (loopAt Tryz.prog 131 0)
def cdiv0_F : List (X × Bool) := []
noncomputable def cdiv0_t : FTree := (.fork (.op2 .eq (.var 101) (.num 0)) (.leaf [.leave 0 []]) (.leaf [.again 0 []]))
noncomputable def cdiv0_l : List (List (X × Bool) × Option (List (Tgt × Pairs))) := [([(.op2 .eq (.var 101) (.num 0), true)], some [(.leave 0 [], [(.app 52 [.var 0, .var 1], .var 100)])]),
  ([(.op2 .eq (.var 101) (.num 0), false)], some [(.again 0 [], [(.var 100, .var 101), (.var 101, .op1 (.kind .i64) (.op2 .mod (.var 100) (.var 101)))])])]
theorem cdiv0_w (r : Rho) : cdiv_D.ways cdiv_run E0 r 0 cdiv0_F cdiv0_t = some cdiv0_l := by kernel_rfl
theorem cdiv_ok : cdiv_D.ok = true := by kernel_rfl
def cdiv_Inv (k0 k1 : IntKind) (a b : Int) (j : Nat) (vals : List Value) : Prop :=
  j = 0 ∧ ∃ (x y : Int) (j0 j1 : IntKind), vals = [.int j0 x, .int j1 y] ∧ wideB x = true ∧ wideB y = true ∧ lastI x y = lastI a b ∧ lastK j0 j1 x y = lastK k0 k1 a b
def cdiv_mu (_ : Nat) (vals : List Value) : Nat := (vI (vals.getD 1 default)).natAbs
theorem cdiv_step {ρ : Rho} {a b : Int} {k0 k1 : IntKind} (h0 : ρ.val 0 = some (.int k0 a)) (h1 : ρ.val 1 = some (.int k1 b)) (hsy : ρ.sym = sy) (j : Nat) (vals : List Value) (hI : cdiv_Inv k0 k1 a b j vals) :
    StepOk cdiv_D cdiv_run E0 ρ (cdiv_Inv k0 k1 a b) cdiv_mu j vals := by
  obtain ⟨rfl, x, y, j0, j1, rfl, hx, hy, hl, hk⟩ := hI
  have hN : cdiv_D.N = 100 := rfl
  have v0 : (ρ.ext cdiv_D.N [.int j0 x, .int j1 y]).val 0 = some (.int k0 a) := by rw [ext_low _ _ _ _ (by rw [hN]; omega)]; exact h0
  have v1 : (ρ.ext cdiv_D.N [.int j0 x, .int j1 y]).val 1 = some (.int k1 b) := by rw [ext_low _ _ _ _ (by rw [hN]; omega)]; exact h1
  have v100 : (ρ.ext cdiv_D.N [.int j0 x, .int j1 y]).val 100 = some (.int j0 x) := by rw [ext_high _ _ _ _ (by rw [hN]; omega)]; rfl
  have v101 : (ρ.ext cdiv_D.N [.int j0 x, .int j1 y]).val 101 = some (.int j1 y) := by rw [ext_high _ _ _ _ (by rw [hN]; omega)]; rfl
  have vs : (ρ.ext cdiv_D.N [.int j0 x, .int j1 y]).sym = sy := hsy

  refine step_of_ways (cdiv0_w _) (F := cdiv0_F) ?_ (AsksL.ok ?_) ?_
  · simp only [cdiv0_F, FactsIn]
  · simp only [cdiv0_t, cdiv0_F, AsksL, GTree.asks, FTree.asks, FactsIn, List.append_nil, List.nil_append, List.cons_append, Option.some.injEq, exists_eq', implies_true, and_self, X.bool, X.den, denL, d_wrap, d_kind, d_not, d_neg, d_slen, d_add, d_sub, d_mul, d_div, d_mod, d_lt, d_le, d_eq, d_eqb, d_eqs, d_lts, d_cat, d_sat, d_and, d_or, denSub, denIte, asB, fracs_len, fracs_cell, fracs_lsub, deeds_len, deeds_cell, deeds_lsub, v0, v1, v100, v101, vs, sym50, sym51, sym52, sym55]
  · simp only [cdiv0_l, EndsOk, WaysOk, forall_cons, forall_nil, TgtOk, gpair, FactsIn, hold_cons, hold_nil, Option.some.injEq, Value.bool.injEq, Value.int.injEq, decide_eq_true_eq, decide_eq_false_iff_not, and_true, true_and, and_imp, X.bool, X.den, denL, d_wrap, d_kind, d_not, d_neg, d_slen, d_add, d_sub, d_mul, d_div, d_mod, d_lt, d_le, d_eq, d_eqb, d_eqs, d_lts, d_cat, d_sat, d_and, d_or, denSub, denIte, asB, fracs_len, fracs_cell, fracs_lsub, deeds_len, deeds_cell, deeds_lsub, v0, v1, v100, v101, vs, h0, h1, hsy, sym50, sym51, sym52, sym55, beq_iff_eq, beq_eq_false_iff_ne, ne_eq]
    refine ⟨fun e => ?_, fun e => ⟨[.int j1 y, .int .i64 (x.tmod y)], ⟨?_, ?_⟩, ⟨rfl, y, x.tmod y, j1, .i64, rfl, hy, wide_tmod hy e, by rw [← lastI_step _ _ e]; exact hl, by rw [lastK_step j0 j1 x y e]; exact hk⟩, ?_⟩⟩
    · subst e
      rw [lastI_zero] at hl
      simp only [lastK, if_true] at hk
      exact ⟨hk.symm, hl.symm⟩
    · rw [ext_high _ _ _ _ (by rw [hN]; omega)]; rfl
    · rw [ext_high _ _ _ _ (by rw [hN]; omega)]; rfl
    · exact tmod_lt x y e
noncomputable def cdiv_con : Con := { f := 131, args := [.one (.int .i64 0), .one (.int .i64 1)], N := 0, M := 0, pre := [(.app 55 [.var 0], true), (.app 55 [.var 1], true)], out := .sint .i64 (.app 50 [.var 0, .var 1]), news := [] }
noncomputable def cdiv_call : Env → CallL := fun E => acallAll E (evH E (noL E) ((fun E => oneH 131 (hooks [(1, cdiv_D.hook E.facts div_vs)])) E) 4)
noncomputable def cdiv_t : GTree := (.leaf [[]])
noncomputable def cdiv_l : List (List (X × Bool) × Option Pairs) := [([(.app 55 [.var 0], true), (.app 55 [.var 1], true)], some [(.app 50 [.var 0, .var 1], .ite (.op2 .lt (.app 52 [.var 0, .var 1]) (.op1 (.wrap .i64) (.op2 .sub (.num 0) (.app 52 [.var 0, .var 1])))) (.op1 (.kind .i64) (.op1 (.wrap .i64) (.op2 .sub (.num 0) (.app 52 [.var 0, .var 1])))) (.op1 (.kind .i64) (.app 52 [.var 0, .var 1])))])]
theorem cdiv_w (r : Rho) : cdiv_con.fn.ways cdiv_call E0 r cdiv_con.pre cdiv_t = some cdiv_l := by kernel_rfl
theorem cdiv_H {r : Rho} {a b : Int} {k0 k1 : IntKind} (h0 : r.val 0 = some (.int k0 a)) (h1 : r.val 1 = some (.int k1 b)) (ha : wideB a = true) (hb : wideB b = true) (hsy : r.sym = sy) (F : List (X × Bool)) :
    LoopsOk (E0.with F r) (oneH 131 (hooks [(1, cdiv_D.hook (E0.with F r).facts div_vs)])) := by
  refine loops_all (n := 1) (fun f fn h => h) (by kernel_rfl) fun i hi => ?_
  obtain rfl : i = 0 := by omega
  rw [hooks_hit (show keyOf (loopAt (E0.with F r).P 131 0) = 1 by kernel_rfl)]
  refine hook_ok (E₀ := E0) (run := cdiv_run) (ρ := r) (Inv := cdiv_Inv k0 k1 a b) (μ := cdiv_mu) E0_ok cdiv_ok (fun F r' h => ?_) (fun _ => ⟨cdiv_step h0 h1 hsy, [.int k0 a, .int k1 b], ?_, rfl, a, b, k0, k1, rfl, ha, hb, rfl, rfl⟩)
  · exact bodyRun_ok E0_ok (noL_ok F (h.trans hsy)) fun _ _ => noLoop_ok
  · simp only [div_vs, X.bool, X.den, denL, d_wrap, d_kind, d_not, d_neg, d_slen, d_add, d_sub, d_mul, d_div, d_mod, d_lt, d_le, d_eq, d_eqb, d_eqs, d_lts, d_cat, d_sat, d_and, d_or, denSub, denIte, asB, fracs_len, fracs_cell, fracs_lsub, deeds_len, deeds_cell, deeds_lsub, h0, h1]

theorem cdiv_cok : cdiv_con.Ok Tryz.prog sy := by
  intro r σ w us hsy hρ hpre hrel hins
  obtain ⟨u0, us, rfl, g0, hins⟩ := ins_cons hins
  obtain ⟨u1, us, rfl, g1, hins⟩ := ins_cons hins
  obtain ⟨a, k0, rfl, h0⟩ := one_int g0
  obtain ⟨b, k1, rfl, h1⟩ := one_int g1
  rw [hρ] at h0 h1

  have hw := hpre
  simp only [cdiv_con, FactsIn, X.bool, X.den, denL, d_wrap, d_kind, d_not, d_neg, d_slen, d_add, d_sub, d_mul, d_div, d_mod, d_lt, d_le, d_eq, d_eqb, d_eqs, d_lts, d_cat, d_sat, d_and, d_or, denSub, denIte, asB, fracs_len, fracs_cell, fracs_lsub, deeds_len, deeds_cell, deeds_lsub, h0, h1, hsy, sym55, Option.some.injEq, Value.bool.injEq, and_true] at hw
  obtain ⟨ha, hb⟩ := hw
  refine con_of (E := E0) E0_ok E0_glob (sy := sy) (fun F => noL_ok F hsy) (fun F => cdiv_H h0 h1 ha hb hsy F) (cdiv_w r) hρ hpre hrel hins ?_ ?_
  · simp only [cdiv_con, cdiv_t, AsksL, GTree.asks, FTree.asks, FactsIn, List.append_nil, List.nil_append, List.cons_append, Option.some.injEq, exists_eq', implies_true, and_self, X.bool, X.den, denL, d_wrap, d_kind, d_not, d_neg, d_slen, d_add, d_sub, d_mul, d_div, d_mod, d_lt, d_le, d_eq, d_eqb, d_eqs, d_lts, d_cat, d_sat, d_and, d_or, denSub, denIte, asB, fracs_len, fracs_cell, fracs_lsub, deeds_len, deeds_cell, deeds_lsub, h0, h1, hsy, sym50, sym51, sym52, sym55]
  · simp only [cdiv_l, EndsOk, WaysOk, forall_cons, forall_nil, TgtOk, gpair, FactsIn, hold_cons, hold_nil, Option.some.injEq, Value.bool.injEq, Value.int.injEq, decide_eq_true_eq, decide_eq_false_iff_not, and_true, true_and, and_imp, X.bool, X.den, denL, d_wrap, d_kind, d_not, d_neg, d_slen, d_add, d_sub, d_mul, d_div, d_mod, d_lt, d_le, d_eq, d_eqb, d_eqs, d_lts, d_cat, d_sat, d_and, d_or, denSub, denIte, asB, fracs_len, fracs_cell, fracs_lsub, deeds_len, deeds_cell, deeds_lsub, h0, h1, hsy, sym50, sym51, sym52, sym55]
    have hg := last_gcd a b
    have hn := last_wide ha hb
    have hwr : IntKind.i64.wrap (0 - lastI a b) = - lastI a b := by rw [IntWalk.i64_in _ (by rw [wide_iff] at hn; omega)]; omega
    intros
    have e : gcdI a b = if lastI a b < - lastI a b then - lastI a b else lastI a b := by split <;> omega
    rw [hwr]
    by_cases hlt : lastI a b < - lastI a b
    · rw [if_pos hlt] at e
      simp [hlt, e]
    · rw [if_neg hlt] at e
      simp [hlt, e]
end Go.Proofs.YtnahicnoofkfgaaGreatDoor.Zs

namespace Go.Proofs.YtnahicnoofkfgaaGreatDoor.Zs
open Go
set_option linter.unusedSimpArgs false
set_option linter.unusedVariables false

noncomputable def R1 : Env → CallE := libs [cLib rwithin_con, cLib rdiv_con]
theorem R1_ok (F : List (X × Bool)) {r : Rho} (h : r.sym = sy) : CallsOk (E0.with F r) (R1 (E0.with F r)) := libs_ok fun c hc => by
  simp only [List.mem_cons, List.not_mem_nil, or_false] at hc
  rcases hc with rfl | rfl
  · exact lib_ok (E := E0) rwithin_cok F h
  · exact lib_ok (E := E0) rdiv_cok F h
noncomputable def C1 : Env → CallE := libs [cLib cwithin_con, cLib cdiv_con]
theorem C1_ok (F : List (X × Bool)) {r : Rho} (h : r.sym = sy) : CallsOk (E0.with F r) (C1 (E0.with F r)) := libs_ok fun c hc => by
  simp only [List.mem_cons, List.not_mem_nil, or_false] at hc
  rcases hc with rfl | rfl
  · exact lib_ok (E := E0) cwithin_cok F h
  · exact lib_ok (E := E0) cdiv_cok F h

noncomputable def rValid_con : Con := { f := 74, args := [.agg (fracLeaves 0)], N := 0, M := 0, pre := [], out := .sbool (.app 51 [.var 0, .var 1]), news := [] }
noncomputable def rValid_call : Env → CallL := fun E => acallAll E (evH E (R1 E) ((fun _ => noLoops) E) 4)
def cbz0 : X := .app 10 [(.var 0), (.num (-1000000000000)), (.num 1000000000000)]
def cbz1 : X := .app 50 [(.var 0), (.var 1)]
def cbz2 : X := .app 10 [(.var 1), (.num 1), (.num 1000000)]
def cbz3 : X := .app 51 [(.app 53 [(.var 0), (.var 1)]), (.app 54 [(.var 0), (.var 1)])]
noncomputable def rValid_t : GTree := (.fork cbz2 (.fork cbz0 (.fork (.app 55 [.var 0]) (.fork (.app 55 [.var 1]) (.leaf [[]]) .bad) .bad) (.leaf [[]])) (.leaf [[]]))
noncomputable def rValid_l : List (List (X × Bool) × Option Pairs) := [([(.app 55 [.var 1], true), (.app 55 [.var 0], true), (cbz0, true), (cbz2, true)], some [(.app 51 [.var 0, .var 1], .op2 .eq cbz1 (.num 1))]),
  ([(.app 55 [.var 1], false), (.app 55 [.var 0], true), (cbz0, true), (cbz2, true)], none),
  ([(.app 55 [.var 0], false), (cbz0, true), (cbz2, true)], none),
  ([(cbz0, false), (cbz2, true)], some [(.app 51 [.var 0, .var 1], .boo false)]),
  ([(cbz2, false)], some [(.app 51 [.var 0, .var 1], .boo false)])]
theorem rValid_w (r : Rho) : rValid_con.fn.ways rValid_call E0 r rValid_con.pre rValid_t = some rValid_l := by kernel_rfl
theorem rValid_cok : rValid_con.Ok Tryz.prog sy := by
  intro r σ w us hsy hρ hpre hrel hins
  obtain ⟨u0, us, rfl, g0, hins⟩ := ins_cons hins
  obtain ⟨p, kp, rfl, hpp⟩ := frac_agg g0
  rw [hρ] at hpp
  have a0 := hpp.h0
  have a1 := hpp.h1
  simp only [Nat.zero_add, Nat.reduceAdd] at a0 a1

  refine con_of (E := E0) E0_ok E0_glob (sy := sy) (fun F => R1_ok F hsy) (fun F => noH_ok) (rValid_w r) hρ hpre hrel hins ?_ ?_
  · simp only [rValid_con, rValid_t, cbz3, cbz2, cbz1, cbz0, AsksL, GTree.asks, FTree.asks, FactsIn, List.append_nil, List.nil_append, List.cons_append, Option.some.injEq, exists_eq', implies_true, and_self, X.bool, X.den, denL, d_wrap, d_kind, d_not, d_neg, d_slen, d_add, d_sub, d_mul, d_div, d_mod, d_lt, d_le, d_eq, d_eqb, d_eqs, d_lts, d_cat, d_sat, d_and, d_or, denSub, denIte, asB, fracs_len, fracs_cell, fracs_lsub, deeds_len, deeds_cell, deeds_lsub, a0, a1, hsy, sym10, sym50, sym51, sym53, sym54, sym55, sym58, sym59]
  · simp only [rValid_l, cbz3, cbz2, cbz1, cbz0, EndsOk, WaysOk, forall_cons, forall_nil, TgtOk, gpair, FactsIn, hold_cons, hold_nil, Option.some.injEq, Value.bool.injEq, Value.int.injEq, decide_eq_true_eq, decide_eq_false_iff_not, and_true, true_and, and_imp, X.bool, X.den, denL, d_wrap, d_kind, d_not, d_neg, d_slen, d_add, d_sub, d_mul, d_div, d_mod, d_lt, d_le, d_eq, d_eqb, d_eqs, d_lts, d_cat, d_sat, d_and, d_or, denSub, denIte, asB, fracs_len, fracs_cell, fracs_lsub, deeds_len, deeds_cell, deeds_lsub, beq_iff_eq, beq_eq_false_iff_ne, ne_eq, a0, a1, hsy, sym10, sym50, sym51, sym53, sym54, sym55, sym58, sym59]
    clear hsy hρ hpre hrel hins g0 hpp a0 a1
    (repeat' apply And.intro) <;> intros <;> first
      | trivial
      | (simp_all [validB]; done)
      | (exfalso; simp only [withinB, wideB, Bool.and_eq_true, Bool.and_eq_false_iff, decide_eq_true_eq, decide_eq_false_iff_not] at *; omega)
noncomputable def cValid_con : Con := { f := 69, args := [.agg (fracLeaves 0)], N := 0, M := 0, pre := [], out := .sbool (.app 51 [.var 0, .var 1]), news := [] }
noncomputable def cValid_call : Env → CallL := fun E => acallAll E (evH E (C1 E) ((fun _ => noLoops) E) 6)
noncomputable def cValid_t : GTree := (.fork cbz2 (.fork cbz0 (.fork (.app 55 [.var 0]) (.fork (.app 55 [.var 1]) (.leaf [[]]) .bad) .bad) (.leaf [[]])) (.leaf [[]]))
noncomputable def cValid_l : List (List (X × Bool) × Option Pairs) := [([(.app 55 [.var 1], true), (.app 55 [.var 0], true), (cbz0, true), (cbz2, true)], some [(.app 51 [.var 0, .var 1], .op2 .eq cbz1 (.num 1))]),
  ([(.app 55 [.var 1], false), (.app 55 [.var 0], true), (cbz0, true), (cbz2, true)], none),
  ([(.app 55 [.var 0], false), (cbz0, true), (cbz2, true)], none),
  ([(cbz0, false), (cbz2, true)], some [(.app 51 [.var 0, .var 1], .boo false)]),
  ([(cbz2, false)], some [(.app 51 [.var 0, .var 1], .boo false)])]
theorem cValid_w (r : Rho) : cValid_con.fn.ways cValid_call E0 r cValid_con.pre cValid_t = some cValid_l := by kernel_rfl
theorem cValid_cok : cValid_con.Ok Tryz.prog sy := by
  intro r σ w us hsy hρ hpre hrel hins
  obtain ⟨u0, us, rfl, g0, hins⟩ := ins_cons hins
  obtain ⟨p, kp, rfl, hpp⟩ := frac_agg g0
  rw [hρ] at hpp
  have a0 := hpp.h0
  have a1 := hpp.h1
  simp only [Nat.zero_add, Nat.reduceAdd] at a0 a1

  refine con_of (E := E0) E0_ok E0_glob (sy := sy) (fun F => C1_ok F hsy) (fun F => noH_ok) (cValid_w r) hρ hpre hrel hins ?_ ?_
  · simp only [cValid_con, cValid_t, cbz3, cbz2, cbz1, cbz0, AsksL, GTree.asks, FTree.asks, FactsIn, List.append_nil, List.nil_append, List.cons_append, Option.some.injEq, exists_eq', implies_true, and_self, X.bool, X.den, denL, d_wrap, d_kind, d_not, d_neg, d_slen, d_add, d_sub, d_mul, d_div, d_mod, d_lt, d_le, d_eq, d_eqb, d_eqs, d_lts, d_cat, d_sat, d_and, d_or, denSub, denIte, asB, fracs_len, fracs_cell, fracs_lsub, deeds_len, deeds_cell, deeds_lsub, a0, a1, hsy, sym10, sym50, sym51, sym53, sym54, sym55, sym58, sym59]
  · simp only [cValid_l, cbz3, cbz2, cbz1, cbz0, EndsOk, WaysOk, forall_cons, forall_nil, TgtOk, gpair, FactsIn, hold_cons, hold_nil, Option.some.injEq, Value.bool.injEq, Value.int.injEq, decide_eq_true_eq, decide_eq_false_iff_not, and_true, true_and, and_imp, X.bool, X.den, denL, d_wrap, d_kind, d_not, d_neg, d_slen, d_add, d_sub, d_mul, d_div, d_mod, d_lt, d_le, d_eq, d_eqb, d_eqs, d_lts, d_cat, d_sat, d_and, d_or, denSub, denIte, asB, fracs_len, fracs_cell, fracs_lsub, deeds_len, deeds_cell, deeds_lsub, beq_iff_eq, beq_eq_false_iff_ne, ne_eq, a0, a1, hsy, sym10, sym50, sym51, sym53, sym54, sym55, sym58, sym59]
    clear hsy hρ hpre hrel hins g0 hpp a0 a1
    (repeat' apply And.intro) <;> intros <;> first
      | trivial
      | (simp_all [validB]; done)
      | (exfalso; simp only [withinB, wideB, Bool.and_eq_true, Bool.and_eq_false_iff, decide_eq_true_eq, decide_eq_false_iff_not] at *; omega)
noncomputable def cMag_con : Con := { f := 135, args := [.one (.int .i64 0)], N := 0, M := 0, pre := [(.app 55 [.var 0], true)], out := .sint .i64 (.app 59 [.var 0]), news := [] }
noncomputable def cMag_call : Env → CallL := fun E => acallAll E (evH E (noL E) ((fun _ => noLoops) E) 4)
noncomputable def cMag_t : GTree := (.leaf [[]])
noncomputable def cMag_l : List (List (X × Bool) × Option Pairs) := [([(.app 55 [.var 0], true)], some [(.app 59 [.var 0], .ite (.op2 .lt (.var 0) (.op1 (.wrap .i64) (.op2 .sub (.num 0) (.var 0)))) (.op1 (.kind .i64) (.op1 (.wrap .i64) (.op2 .sub (.num 0) (.var 0)))) (.op1 (.kind .i64) (.var 0)))])]
theorem cMag_w (r : Rho) : cMag_con.fn.ways cMag_call E0 r cMag_con.pre cMag_t = some cMag_l := by kernel_rfl
theorem cMag_cok : cMag_con.Ok Tryz.prog sy := by
  intro r σ w us hsy hρ hpre hrel hins
  obtain ⟨u0, us, rfl, g0, hins⟩ := ins_cons hins
  obtain ⟨n, k0, rfl, h0⟩ := one_int g0
  rw [hρ] at h0
  have hw := hpre
  simp only [cMag_con, FactsIn, X.bool, X.den, denL, d_wrap, d_kind, d_not, d_neg, d_slen, d_add, d_sub, d_mul, d_div, d_mod, d_lt, d_le, d_eq, d_eqb, d_eqs, d_lts, d_cat, d_sat, d_and, d_or, denSub, denIte, asB, fracs_len, fracs_cell, fracs_lsub, deeds_len, deeds_cell, deeds_lsub, h0, hsy, sym55, Option.some.injEq, Value.bool.injEq, and_true] at hw
  have e1 := wrap_neg hw
  refine con_of (E := E0) E0_ok E0_glob (sy := sy) (fun F => noL_ok F hsy) (fun F => noH_ok) (cMag_w r) hρ hpre hrel hins ?_ ?_
  · simp only [cMag_con, cMag_t, cbz3, cbz2, cbz1, cbz0, AsksL, GTree.asks, FTree.asks, FactsIn, List.append_nil, List.nil_append, List.cons_append, Option.some.injEq, exists_eq', implies_true, and_self, X.bool, X.den, denL, d_wrap, d_kind, d_not, d_neg, d_slen, d_add, d_sub, d_mul, d_div, d_mod, d_lt, d_le, d_eq, d_eqb, d_eqs, d_lts, d_cat, d_sat, d_and, d_or, denSub, denIte, asB, fracs_len, fracs_cell, fracs_lsub, deeds_len, deeds_cell, deeds_lsub, h0, hsy, sym10, sym50, sym51, sym53, sym54, sym55, sym58, sym59, e1]
  · simp only [cMag_l, cbz3, cbz2, cbz1, cbz0, EndsOk, WaysOk, forall_cons, forall_nil, TgtOk, gpair, FactsIn, hold_cons, hold_nil, Option.some.injEq, Value.bool.injEq, Value.int.injEq, decide_eq_true_eq, decide_eq_false_iff_not, and_true, true_and, and_imp, X.bool, X.den, denL, d_wrap, d_kind, d_not, d_neg, d_slen, d_add, d_sub, d_mul, d_div, d_mod, d_lt, d_le, d_eq, d_eqb, d_eqs, d_lts, d_cat, d_sat, d_and, d_or, denSub, denIte, asB, fracs_len, fracs_cell, fracs_lsub, deeds_len, deeds_cell, deeds_lsub, beq_iff_eq, beq_eq_false_iff_ne, ne_eq, h0, hsy, sym10, sym50, sym51, sym53, sym54, sym55, sym58, sym59, e1]
    intros
    by_cases hlt : n < -n
    · have e : (n.natAbs : Int) = -n := by omega
      simp [hlt, e]
    · have e : (n.natAbs : Int) = n := by omega
      simp [hlt, e]
noncomputable def R2 : Env → CallE := libs [cLib rwithin_con, cLib rdiv_con, cLib rValid_con]
theorem R2_ok (F : List (X × Bool)) {r : Rho} (h : r.sym = sy) : CallsOk (E0.with F r) (R2 (E0.with F r)) := libs_ok fun c hc => by
  simp only [List.mem_cons, List.not_mem_nil, or_false] at hc
  rcases hc with rfl | rfl | rfl
  · exact lib_ok (E := E0) rwithin_cok F h
  · exact lib_ok (E := E0) rdiv_cok F h
  · exact lib_ok (E := E0) rValid_cok F h
noncomputable def C2 : Env → CallE := libs [cLib cwithin_con, cLib cdiv_con, cLib cValid_con]
theorem C2_ok (F : List (X × Bool)) {r : Rho} (h : r.sym = sy) : CallsOk (E0.with F r) (C2 (E0.with F r)) := libs_ok fun c hc => by
  simp only [List.mem_cons, List.not_mem_nil, or_false] at hc
  rcases hc with rfl | rfl | rfl
  · exact lib_ok (E := E0) cwithin_cok F h
  · exact lib_ok (E := E0) cdiv_cok F h
  · exact lib_ok (E := E0) cValid_cok F h

noncomputable def cLow_con : Con := { f := 66, args := [.one (.int .i64 0), .one (.int .i64 1)], N := 0, M := 0, pre := [(.app 58 [.var 0, .var 1], true)], out := .agg [.sint .i64 (.app 53 [.var 0, .var 1]), .sint .i64 (.app 54 [.var 0, .var 1])], news := [] }
noncomputable def cLow_call : Env → CallL := fun E => acallAll E (evH E (C2 E) ((fun _ => noLoops) E) 4)
noncomputable def cLow_t : GTree := (.fork (.app 55 [.var 0]) (.fork (.app 55 [.var 1]) (.fork (.op2 .eq cbz1 (.num 0)) .bad (.leaf [[]])) .bad) .bad)
noncomputable def cLow_l : List (List (X × Bool) × Option Pairs) := [([(.op2 .eq cbz1 (.num 0), true), (.app 55 [.var 1], true), (.app 55 [.var 0], true), (.app 58 [.var 0, .var 1], true)], none),
  ([(.op2 .eq cbz1 (.num 0), false), (.app 55 [.var 1], true), (.app 55 [.var 0], true), (.app 58 [.var 0, .var 1], true)], some [(.app 53 [.var 0, .var 1], .op1 (.wrap .i64) (.op2 .div (.var 0) cbz1)), (.app 54 [.var 0, .var 1], .op1 (.wrap .i64) (.op2 .div (.var 1) cbz1))]),
  ([(.app 55 [.var 1], false), (.app 55 [.var 0], true), (.app 58 [.var 0, .var 1], true)], none),
  ([(.app 55 [.var 0], false), (.app 58 [.var 0, .var 1], true)], none)]
theorem cLow_w (r : Rho) : cLow_con.fn.ways cLow_call E0 r cLow_con.pre cLow_t = some cLow_l := by kernel_rfl
theorem cLow_cok : cLow_con.Ok Tryz.prog sy := by
  intro r σ w us hsy hρ hpre hrel hins
  obtain ⟨u0, us, rfl, g0, hins⟩ := ins_cons hins
  obtain ⟨u1, us, rfl, g1, hins⟩ := ins_cons hins
  obtain ⟨n, k0, rfl, h0⟩ := one_int g0
  obtain ⟨d, k1, rfl, h1⟩ := one_int g1
  rw [hρ] at h0 h1
  have hw := hpre
  simp only [cLow_con, FactsIn, X.bool, X.den, denL, d_wrap, d_kind, d_not, d_neg, d_slen, d_add, d_sub, d_mul, d_div, d_mod, d_lt, d_le, d_eq, d_eqb, d_eqs, d_lts, d_cat, d_sat, d_and, d_or, denSub, denIte, asB, fracs_len, fracs_cell, fracs_lsub, deeds_len, deeds_cell, deeds_lsub, h0, h1, hsy, sym58, Option.some.injEq, Value.bool.injEq, and_true, can_iff] at hw
  obtain ⟨hn, hd, hp⟩ := hw
  have e1 := wrap_lowN d hn
  have e2 := wrap_lowD n hd
  have e3 := gcd_ne (n := n) hp
  refine con_of (E := E0) E0_ok E0_glob (sy := sy) (fun F => C2_ok F hsy) (fun F => noH_ok) (cLow_w r) hρ hpre hrel hins ?_ ?_
  · simp only [cLow_con, cLow_t, cbz3, cbz2, cbz1, cbz0, AsksL, GTree.asks, FTree.asks, FactsIn, List.append_nil, List.nil_append, List.cons_append, Option.some.injEq, exists_eq', implies_true, and_self, X.bool, X.den, denL, d_wrap, d_kind, d_not, d_neg, d_slen, d_add, d_sub, d_mul, d_div, d_mod, d_lt, d_le, d_eq, d_eqb, d_eqs, d_lts, d_cat, d_sat, d_and, d_or, denSub, denIte, asB, fracs_len, fracs_cell, fracs_lsub, deeds_len, deeds_cell, deeds_lsub, h0, h1, hsy, sym10, sym50, sym51, sym53, sym54, sym55, sym58, sym59, e1, e2, hn, hd, e3]
  · simp only [cLow_l, cbz3, cbz2, cbz1, cbz0, EndsOk, WaysOk, forall_cons, forall_nil, TgtOk, gpair, FactsIn, hold_cons, hold_nil, Option.some.injEq, Value.bool.injEq, Value.int.injEq, decide_eq_true_eq, decide_eq_false_iff_not, and_true, true_and, and_imp, X.bool, X.den, denL, d_wrap, d_kind, d_not, d_neg, d_slen, d_add, d_sub, d_mul, d_div, d_mod, d_lt, d_le, d_eq, d_eqb, d_eqs, d_lts, d_cat, d_sat, d_and, d_or, denSub, denIte, asB, fracs_len, fracs_cell, fracs_lsub, deeds_len, deeds_cell, deeds_lsub, beq_iff_eq, beq_eq_false_iff_ne, ne_eq, h0, h1, hsy, sym10, sym50, sym51, sym53, sym54, sym55, sym58, sym59, e1, e2, hn, hd, e3]
    simp_all
noncomputable def rLow_con : Con := { f := 68, args := [.one (.int .i64 0), .one (.int .i64 1)], N := 0, M := 0, pre := [(.app 58 [.var 0, .var 1], true)], out := .tuple [.agg [.sint .i64 (.ite (.app 51 [.app 53 [.var 0, .var 1], .app 54 [.var 0, .var 1]]) (.app 53 [.var 0, .var 1]) (.num 0)), .sint .i64 (.ite (.app 51 [.app 53 [.var 0, .var 1], .app 54 [.var 0, .var 1]]) (.app 54 [.var 0, .var 1]) (.num 0))], .sint .i64 (.ite (.app 51 [.app 53 [.var 0, .var 1], .app 54 [.var 0, .var 1]]) (.num 0) (.num 2))], news := [] }
noncomputable def rLow_call : Env → CallL := fun E => acallAll E (evH E (R2 E) ((fun _ => noLoops) E) 4)
noncomputable def rLow_t : GTree := (.fork (.app 55 [.var 0]) (.fork (.app 55 [.var 1]) (.fork (.op2 .eq cbz1 (.num 0)) .bad (.fork (.app 51 [.op1 (.wrap .i64) (.op2 .div (.var 0) cbz1), .op1 (.wrap .i64) (.op2 .div (.var 1) cbz1)]) (.leaf [[]]) (.leaf [[]]))) .bad) .bad)
noncomputable def rLow_l : List (List (X × Bool) × Option Pairs) := [([(.op2 .eq cbz1 (.num 0), true), (.app 55 [.var 1], true), (.app 55 [.var 0], true), (.app 58 [.var 0, .var 1], true)], none),
  ([(.app 51 [.op1 (.wrap .i64) (.op2 .div (.var 0) cbz1), .op1 (.wrap .i64) (.op2 .div (.var 1) cbz1)], true), (.op2 .eq cbz1 (.num 0), false), (.app 55 [.var 1], true), (.app 55 [.var 0], true), (.app 58 [.var 0, .var 1], true)], some [(.ite cbz3 (.app 53 [.var 0, .var 1]) (.num 0), .op1 (.wrap .i64) (.op2 .div (.var 0) cbz1)), (.ite cbz3 (.app 54 [.var 0, .var 1]) (.num 0), .op1 (.wrap .i64) (.op2 .div (.var 1) cbz1)), (.ite cbz3 (.num 0) (.num 2), .num 0)]),
  ([(.app 51 [.op1 (.wrap .i64) (.op2 .div (.var 0) cbz1), .op1 (.wrap .i64) (.op2 .div (.var 1) cbz1)], false), (.op2 .eq cbz1 (.num 0), false), (.app 55 [.var 1], true), (.app 55 [.var 0], true), (.app 58 [.var 0, .var 1], true)], some [(.ite cbz3 (.app 53 [.var 0, .var 1]) (.num 0), .num 0), (.ite cbz3 (.app 54 [.var 0, .var 1]) (.num 0), .num 0), (.ite cbz3 (.num 0) (.num 2), .num 2)]),
  ([(.app 55 [.var 1], false), (.app 55 [.var 0], true), (.app 58 [.var 0, .var 1], true)], none),
  ([(.app 55 [.var 0], false), (.app 58 [.var 0, .var 1], true)], none)]
theorem rLow_w (r : Rho) : rLow_con.fn.ways rLow_call E0 r rLow_con.pre rLow_t = some rLow_l := by kernel_rfl
theorem rLow_cok : rLow_con.Ok Tryz.prog sy := by
  intro r σ w us hsy hρ hpre hrel hins
  obtain ⟨u0, us, rfl, g0, hins⟩ := ins_cons hins
  obtain ⟨u1, us, rfl, g1, hins⟩ := ins_cons hins
  obtain ⟨n, k0, rfl, h0⟩ := one_int g0
  obtain ⟨d, k1, rfl, h1⟩ := one_int g1
  rw [hρ] at h0 h1
  have hw := hpre
  simp only [rLow_con, FactsIn, X.bool, X.den, denL, d_wrap, d_kind, d_not, d_neg, d_slen, d_add, d_sub, d_mul, d_div, d_mod, d_lt, d_le, d_eq, d_eqb, d_eqs, d_lts, d_cat, d_sat, d_and, d_or, denSub, denIte, asB, fracs_len, fracs_cell, fracs_lsub, deeds_len, deeds_cell, deeds_lsub, h0, h1, hsy, sym58, Option.some.injEq, Value.bool.injEq, and_true, can_iff] at hw
  obtain ⟨hn, hd, hp⟩ := hw
  have e1 := wrap_lowN d hn
  have e2 := wrap_lowD n hd
  have e3 := gcd_ne (n := n) hp
  refine con_of (E := E0) E0_ok E0_glob (sy := sy) (fun F => R2_ok F hsy) (fun F => noH_ok) (rLow_w r) hρ hpre hrel hins ?_ ?_
  · simp only [rLow_con, rLow_t, cbz3, cbz2, cbz1, cbz0, AsksL, GTree.asks, FTree.asks, FactsIn, List.append_nil, List.nil_append, List.cons_append, Option.some.injEq, exists_eq', implies_true, and_self, X.bool, X.den, denL, d_wrap, d_kind, d_not, d_neg, d_slen, d_add, d_sub, d_mul, d_div, d_mod, d_lt, d_le, d_eq, d_eqb, d_eqs, d_lts, d_cat, d_sat, d_and, d_or, denSub, denIte, asB, fracs_len, fracs_cell, fracs_lsub, deeds_len, deeds_cell, deeds_lsub, h0, h1, hsy, sym10, sym50, sym51, sym53, sym54, sym55, sym58, sym59, e1, e2, hn, hd, e3]
  · simp only [rLow_l, cbz3, cbz2, cbz1, cbz0, EndsOk, WaysOk, forall_cons, forall_nil, TgtOk, gpair, FactsIn, hold_cons, hold_nil, Option.some.injEq, Value.bool.injEq, Value.int.injEq, decide_eq_true_eq, decide_eq_false_iff_not, and_true, true_and, and_imp, X.bool, X.den, denL, d_wrap, d_kind, d_not, d_neg, d_slen, d_add, d_sub, d_mul, d_div, d_mod, d_lt, d_le, d_eq, d_eqb, d_eqs, d_lts, d_cat, d_sat, d_and, d_or, denSub, denIte, asB, fracs_len, fracs_cell, fracs_lsub, deeds_len, deeds_cell, deeds_lsub, beq_iff_eq, beq_eq_false_iff_ne, ne_eq, h0, h1, hsy, sym10, sym50, sym51, sym53, sym54, sym55, sym58, sym59, e1, e2, hn, hd, e3]
    cases hv : validB (lowN n d) (lowD n d) <;> simp_all
end Go.Proofs.YtnahicnoofkfgaaGreatDoor.Zs
