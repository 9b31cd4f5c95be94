/-
  Contracts of Norm, Add, Sub, Compare, Floor and Ceil, of the package and of the reference.
-/
import Derived.Test.YtnahicnoofkfgaaGreatDoorSuConA
import Derived.KernelRfl
set_option linter.unusedSimpArgs false
set_option linter.unusedVariables false
namespace Go.Proofs.YtnahicnoofkfgaaGreatDoor.Zs
open Go
set_option linter.unusedSimpArgs false
set_option linter.unusedVariables false

noncomputable def R3 : Env → CallE := libs [cLib rwithin_con, cLib rdiv_con, cLib rValid_con, cLib rLow_con]
theorem R3_ok (F : List (X × Bool)) {r : Rho} (h : r.sym = sy) : CallsOk (E0.with F r) (R3 (E0.with F r)) := libs_ok fun c hc => by
  simp only [List.mem_cons, List.not_mem_nil, or_false] at hc
  rcases hc with rfl | rfl | rfl | rfl
  · exact lib_ok (E := E0) rwithin_cok F h
  · exact lib_ok (E := E0) rdiv_cok F h
  · exact lib_ok (E := E0) rValid_cok F h
  · exact lib_ok (E := E0) rLow_cok F h
noncomputable def C3 : Env → CallE := libs [cLib cwithin_con, cLib cdiv_con, cLib cValid_con, cLib cLow_con, cLib cMag_con]
theorem C3_ok (F : List (X × Bool)) {r : Rho} (h : r.sym = sy) : CallsOk (E0.with F r) (C3 (E0.with F r)) := libs_ok fun c hc => by
  simp only [List.mem_cons, List.not_mem_nil, or_false] at hc
  rcases hc with rfl | rfl | rfl | rfl | rfl
  · exact lib_ok (E := E0) cwithin_cok F h
  · exact lib_ok (E := E0) cdiv_cok F h
  · exact lib_ok (E := E0) cValid_cok F h
  · exact lib_ok (E := E0) cLow_cok F h
  · exact lib_ok (E := E0) cMag_cok F h

noncomputable def rNorm_con : Con := { f := 15, args := [.one (.int .i64 0), .one (.int .i64 1)], N := 0, M := 0, pre := [], out := .tuple [.agg [.sint .i64 (.app 70 [.var 0, .var 1]), .sint .i64 (.app 71 [.var 0, .var 1])], .sint .i64 (.app 72 [.var 0, .var 1])], news := [] }
noncomputable def rNorm_call : Env → CallL := fun E => acallAll E (evH E (R3 E) ((fun _ => noLoops) E) 8)
noncomputable def rNorm_t : GTree := (.fork (.op2 .eq (.var 1) (.num 0)) (.leaf [[]]) (.fork (.app 10 [(.var 0), (.num (-1000000000000000)), (.num 1000000000000000)]) (.fork (.app 10 [(.var 1), (.num (-1000000000000000)), (.num 1000000000000000)]) (.fork (.op2 .lt (.var 1) (.num 0)) (.fork (.app 58 [(.op1 (.wrap .i64) (.op2 .sub (.num 0) (.var 0))), (.op1 (.wrap .i64) (.op2 .sub (.num 0) (.var 1)))]) (.leaf [[]]) .bad) (.fork (.app 58 [(.var 0), (.var 1)]) (.leaf [[]]) .bad)) (.leaf [[]])) (.leaf [[]])))
noncomputable def rNorm_l : List (List (X × Bool) × Option Pairs) := [([((.op2 .eq (.var 1) (.num 0)), true)], some [((.app 70 [(.var 0), (.var 1)]), (.num 0)), ((.app 71 [(.var 0), (.var 1)]), (.num 0)), ((.app 72 [(.var 0), (.var 1)]), (.num 1))]),
  ([((.app 58 [(.op1 (.wrap .i64) (.op2 .sub (.num 0) (.var 0))), (.op1 (.wrap .i64) (.op2 .sub (.num 0) (.var 1)))]), true), ((.op2 .lt (.var 1) (.num 0)), true), ((.app 10 [(.var 1), (.num (-1000000000000000)), (.num 1000000000000000)]), true), ((.app 10 [(.var 0), (.num (-1000000000000000)), (.num 1000000000000000)]), true), ((.op2 .eq (.var 1) (.num 0)), false)], some [((.app 70 [(.var 0), (.var 1)]), (.ite (.app 51 [(.app 53 [(.op1 (.wrap .i64) (.op2 .sub (.num 0) (.var 0))), (.op1 (.wrap .i64) (.op2 .sub (.num 0) (.var 1)))]), (.app 54 [(.op1 (.wrap .i64) (.op2 .sub (.num 0) (.var 0))), (.op1 (.wrap .i64) (.op2 .sub (.num 0) (.var 1)))])]) (.app 53 [(.op1 (.wrap .i64) (.op2 .sub (.num 0) (.var 0))), (.op1 (.wrap .i64) (.op2 .sub (.num 0) (.var 1)))]) (.num 0))), ((.app 71 [(.var 0), (.var 1)]), (.ite (.app 51 [(.app 53 [(.op1 (.wrap .i64) (.op2 .sub (.num 0) (.var 0))), (.op1 (.wrap .i64) (.op2 .sub (.num 0) (.var 1)))]), (.app 54 [(.op1 (.wrap .i64) (.op2 .sub (.num 0) (.var 0))), (.op1 (.wrap .i64) (.op2 .sub (.num 0) (.var 1)))])]) (.app 54 [(.op1 (.wrap .i64) (.op2 .sub (.num 0) (.var 0))), (.op1 (.wrap .i64) (.op2 .sub (.num 0) (.var 1)))]) (.num 0))), ((.app 72 [(.var 0), (.var 1)]), (.ite (.app 51 [(.app 53 [(.op1 (.wrap .i64) (.op2 .sub (.num 0) (.var 0))), (.op1 (.wrap .i64) (.op2 .sub (.num 0) (.var 1)))]), (.app 54 [(.op1 (.wrap .i64) (.op2 .sub (.num 0) (.var 0))), (.op1 (.wrap .i64) (.op2 .sub (.num 0) (.var 1)))])]) (.num 0) (.num 2)))]),
  ([((.app 58 [(.op1 (.wrap .i64) (.op2 .sub (.num 0) (.var 0))), (.op1 (.wrap .i64) (.op2 .sub (.num 0) (.var 1)))]), false), ((.op2 .lt (.var 1) (.num 0)), true), ((.app 10 [(.var 1), (.num (-1000000000000000)), (.num 1000000000000000)]), true), ((.app 10 [(.var 0), (.num (-1000000000000000)), (.num 1000000000000000)]), true), ((.op2 .eq (.var 1) (.num 0)), false)], none),
  ([((.app 58 [(.var 0), (.var 1)]), true), ((.op2 .lt (.var 1) (.num 0)), false), ((.app 10 [(.var 1), (.num (-1000000000000000)), (.num 1000000000000000)]), true), ((.app 10 [(.var 0), (.num (-1000000000000000)), (.num 1000000000000000)]), true), ((.op2 .eq (.var 1) (.num 0)), false)], some [((.app 70 [(.var 0), (.var 1)]), (.ite (.app 51 [(.app 53 [(.var 0), (.var 1)]), (.app 54 [(.var 0), (.var 1)])]) (.app 53 [(.var 0), (.var 1)]) (.num 0))), ((.app 71 [(.var 0), (.var 1)]), (.ite (.app 51 [(.app 53 [(.var 0), (.var 1)]), (.app 54 [(.var 0), (.var 1)])]) (.app 54 [(.var 0), (.var 1)]) (.num 0))), ((.app 72 [(.var 0), (.var 1)]), (.ite (.app 51 [(.app 53 [(.var 0), (.var 1)]), (.app 54 [(.var 0), (.var 1)])]) (.num 0) (.num 2)))]),
  ([((.app 58 [(.var 0), (.var 1)]), false), ((.op2 .lt (.var 1) (.num 0)), false), ((.app 10 [(.var 1), (.num (-1000000000000000)), (.num 1000000000000000)]), true), ((.app 10 [(.var 0), (.num (-1000000000000000)), (.num 1000000000000000)]), true), ((.op2 .eq (.var 1) (.num 0)), false)], none),
  ([((.app 10 [(.var 1), (.num (-1000000000000000)), (.num 1000000000000000)]), false), ((.app 10 [(.var 0), (.num (-1000000000000000)), (.num 1000000000000000)]), true), ((.op2 .eq (.var 1) (.num 0)), false)], some [((.app 70 [(.var 0), (.var 1)]), (.num 0)), ((.app 71 [(.var 0), (.var 1)]), (.num 0)), ((.app 72 [(.var 0), (.var 1)]), (.num 1))]),
  ([((.app 10 [(.var 0), (.num (-1000000000000000)), (.num 1000000000000000)]), false), ((.op2 .eq (.var 1) (.num 0)), false)], some [((.app 70 [(.var 0), (.var 1)]), (.num 0)), ((.app 71 [(.var 0), (.var 1)]), (.num 0)), ((.app 72 [(.var 0), (.var 1)]), (.num 1))])]
theorem rNorm_w (r : Rho) : rNorm_con.fn.ways rNorm_call E0 r rNorm_con.pre rNorm_t = some rNorm_l := by kernel_rfl
theorem rNorm_cok : rNorm_con.Ok Tryz.prog sy := by
  intro r σ w us hsy hρ hpre hrel hins
  obtain ⟨u0, us, rfl, g0, hins⟩ := ins_cons hins
  obtain ⟨u1, us, rfl, g1, hins⟩ := ins_cons hins
  obtain ⟨n, k0, rfl, h0⟩ := one_int g0
  obtain ⟨d, k1, rfl, h1⟩ := one_int g1
  rw [hρ] at h0 h1

  refine con_of (E := E0) E0_ok E0_glob (sy := sy) (fun F => R3_ok F hsy) (fun F => noH_ok) (rNorm_w r) hρ hpre hrel hins ?_ ?_
  · simp only [rNorm_con, rNorm_t, AsksL, GTree.asks, FTree.asks, FactsIn, List.append_nil, List.nil_append, List.cons_append, Option.some.injEq, exists_eq', implies_true, and_self, X.bool, X.den, denL, d_wrap, d_kind, d_not, d_neg, d_slen, d_add, d_sub, d_mul, d_div, d_mod, d_lt, d_le, d_eq, d_eqb, d_eqs, d_lts, d_cat, d_sat, d_and, d_or, denSub, denIte, asB, fracs_len, fracs_cell, fracs_lsub, deeds_len, deeds_cell, deeds_lsub, h0, h1, hsy, sym10, sym50, sym51, sym53, sym54, sym55, sym56, sym57, sym58, sym59, sym70, sym71, sym72, sym73, sym74, sym75, sym76, sym77, sym78, sym79, sym80, sym81, sym82, sym83, sym84]
  · simp only [rNorm_l, EndsOk, WaysOk, forall_cons, forall_nil, TgtOk, gpair, FactsIn, hold_cons, hold_nil, Option.some.injEq, Value.bool.injEq, Value.int.injEq, decide_eq_true_eq, decide_eq_false_iff_not, and_true, true_and, and_imp, X.bool, X.den, denL, d_wrap, d_kind, d_not, d_neg, d_slen, d_add, d_sub, d_mul, d_div, d_mod, d_lt, d_le, d_eq, d_eqb, d_eqs, d_lts, d_cat, d_sat, d_and, d_or, denSub, denIte, asB, fracs_len, fracs_cell, fracs_lsub, deeds_len, deeds_cell, deeds_lsub, beq_iff_eq, beq_eq_false_iff_ne, ne_eq, h0, h1, hsy, sym10, sym50, sym51, sym53, sym54, sym55, sym56, sym57, sym58, sym59, sym70, sym71, sym72, sym73, sym74, sym75, sym76, sym77, sym78, sym79, sym80, sym81, sym82, sym83, sym84]
    clear hsy hρ hpre hrel hins g0 g1 h0 h1
    cases hb : numB n d with
    | false =>
      have hr : normR n d = (0, 0, 1) := by unfold normR; rw [hb]; rfl
      simp only [hr]
      simp only [numB, Bool.and_eq_false_iff, Bool.not_eq_false', beq_iff_eq] at hb
      (repeat' apply And.intro) <;> intros <;> first
        | trivial
        | (exfalso; simp_all; done)
        | (simp_all; done)
    | true =>
      have hb' := hb
      simp only [numB, withinB, Bool.and_eq_true, Bool.not_eq_true', beq_eq_false_iff_ne, ne_eq, decide_eq_true_eq] at hb'
      obtain ⟨h0, ⟨h1, h2⟩, h3, h4⟩ := hb'
      have wn : wideB n = true := (wide_iff n).2 (by omega)
      have wd : wideB d = true := (wide_iff d).2 (by omega)
      have i1 : withinB n (-1000000000000000) 1000000000000000 = true := by simp [withinB, h1, h2]
      have i2 : withinB d (-1000000000000000) 1000000000000000 = true := by simp [withinB, h3, h4]
      have e1 := wrap_neg wn
      have e2 := wrap_neg wd
      by_cases hd : d < 0
      · have hc : canB (-n) (-d) = true := (can_iff _ _).2 ⟨(wide_iff _).2 (by omega), (wide_iff _).2 (by omega), by omega⟩
        have hv := valid_low (n := -n) (d := -d) (by omega)
        have hr : normR n d = lowR (-n) (-d) := by unfold normR; rw [if_pos hb, if_pos hd]
        unfold lowB at hv
        simp only [e1, e2, hr, lowR, lowB, i1, i2, hd, h0, hc]
        cases q1 : withinB (lowD (-n) (-d)) 1 1000000 <;> cases q2 : withinB (lowN (-n) (-d)) (-1000000000000) 1000000000000 <;> simp_all
      · have hc : canB n d = true := (can_iff _ _).2 ⟨wn, wd, by omega⟩
        have hv := valid_low (n := n) (d := d) (by omega)
        have hr : normR n d = lowR n d := by unfold normR; rw [if_pos hb, if_neg hd]
        unfold lowB at hv
        simp only [e1, e2, hr, lowR, lowB, i1, i2, hd, h0, hc]
        cases q1 : withinB (lowD n d) 1 1000000 <;> cases q2 : withinB (lowN n d) (-1000000000000) 1000000000000 <;> simp_all
noncomputable def cNorm_con : Con := { f := 14, args := [.one (.int .i64 0), .one (.int .i64 1)], N := 0, M := 0, pre := [], out := .tuple [.agg [.sint .i64 (.app 70 [.var 0, .var 1]), .sint .i64 (.app 71 [.var 0, .var 1])], .sint .i64 (.app 72 [.var 0, .var 1])], news := [] }
noncomputable def cNorm_call : Env → CallL := fun E => acallAll E (evH E (C3 E) ((fun _ => noLoops) E) 20)
noncomputable def cNorm_t : GTree := (.fork (.op2 .eq (.var 1) (.num 0)) (.leaf [[]]) (.fork (.app 10 [(.var 0), (.num (-1000000000000000)), (.num 1000000000000000)]) (.fork (.app 10 [(.var 1), (.num (-1000000000000000)), (.num 1000000000000000)]) (.fork (.op2 .lt (.var 1) (.num 0)) (.fork (.app 58 [(.op1 (.wrap .i64) (.op2 .sub (.num 0) (.var 0))), (.op1 (.wrap .i64) (.op2 .sub (.num 0) (.var 1)))]) (.fork (.app 10 [(.app 54 [(.op1 (.wrap .i64) (.op2 .sub (.num 0) (.var 0))), (.op1 (.wrap .i64) (.op2 .sub (.num 0) (.var 1)))]), (.num 1), (.num 1000000)]) (.fork (.app 10 [(.app 53 [(.op1 (.wrap .i64) (.op2 .sub (.num 0) (.var 0))), (.op1 (.wrap .i64) (.op2 .sub (.num 0) (.var 1)))]), (.num (-1000000000000)), (.num 1000000000000)]) (.leaf [[]]) (.leaf [[]])) (.leaf [[]])) .bad) (.fork (.app 58 [(.var 0), (.var 1)]) (.fork (.app 10 [(.app 54 [(.var 0), (.var 1)]), (.num 1), (.num 1000000)]) (.fork (.app 10 [(.app 53 [(.var 0), (.var 1)]), (.num (-1000000000000)), (.num 1000000000000)]) (.leaf [[]]) (.leaf [[]])) (.leaf [[]])) .bad)) (.leaf [[]])) (.leaf [[]])))
noncomputable def cNorm_l : List (List (X × Bool) × Option Pairs) := [([((.op2 .eq (.var 1) (.num 0)), true)], some [((.app 70 [(.var 0), (.var 1)]), (.num 0)), ((.app 71 [(.var 0), (.var 1)]), (.num 0)), ((.app 72 [(.var 0), (.var 1)]), (.num 1))]),
  ([((.app 10 [(.app 53 [(.op1 (.wrap .i64) (.op2 .sub (.num 0) (.var 0))), (.op1 (.wrap .i64) (.op2 .sub (.num 0) (.var 1)))]), (.num (-1000000000000)), (.num 1000000000000)]), true), ((.app 10 [(.app 54 [(.op1 (.wrap .i64) (.op2 .sub (.num 0) (.var 0))), (.op1 (.wrap .i64) (.op2 .sub (.num 0) (.var 1)))]), (.num 1), (.num 1000000)]), true), ((.app 58 [(.op1 (.wrap .i64) (.op2 .sub (.num 0) (.var 0))), (.op1 (.wrap .i64) (.op2 .sub (.num 0) (.var 1)))]), true), ((.op2 .lt (.var 1) (.num 0)), true), ((.app 10 [(.var 1), (.num (-1000000000000000)), (.num 1000000000000000)]), true), ((.app 10 [(.var 0), (.num (-1000000000000000)), (.num 1000000000000000)]), true), ((.op2 .eq (.var 1) (.num 0)), false)], some [((.app 70 [(.var 0), (.var 1)]), (.app 53 [(.op1 (.wrap .i64) (.op2 .sub (.num 0) (.var 0))), (.op1 (.wrap .i64) (.op2 .sub (.num 0) (.var 1)))])), ((.app 71 [(.var 0), (.var 1)]), (.app 54 [(.op1 (.wrap .i64) (.op2 .sub (.num 0) (.var 0))), (.op1 (.wrap .i64) (.op2 .sub (.num 0) (.var 1)))])), ((.app 72 [(.var 0), (.var 1)]), (.num 0))]),
  ([((.app 10 [(.app 53 [(.op1 (.wrap .i64) (.op2 .sub (.num 0) (.var 0))), (.op1 (.wrap .i64) (.op2 .sub (.num 0) (.var 1)))]), (.num (-1000000000000)), (.num 1000000000000)]), false), ((.app 10 [(.app 54 [(.op1 (.wrap .i64) (.op2 .sub (.num 0) (.var 0))), (.op1 (.wrap .i64) (.op2 .sub (.num 0) (.var 1)))]), (.num 1), (.num 1000000)]), true), ((.app 58 [(.op1 (.wrap .i64) (.op2 .sub (.num 0) (.var 0))), (.op1 (.wrap .i64) (.op2 .sub (.num 0) (.var 1)))]), true), ((.op2 .lt (.var 1) (.num 0)), true), ((.app 10 [(.var 1), (.num (-1000000000000000)), (.num 1000000000000000)]), true), ((.app 10 [(.var 0), (.num (-1000000000000000)), (.num 1000000000000000)]), true), ((.op2 .eq (.var 1) (.num 0)), false)], some [((.app 70 [(.var 0), (.var 1)]), (.num 0)), ((.app 71 [(.var 0), (.var 1)]), (.num 0)), ((.app 72 [(.var 0), (.var 1)]), (.num 2))]),
  ([((.app 10 [(.app 54 [(.op1 (.wrap .i64) (.op2 .sub (.num 0) (.var 0))), (.op1 (.wrap .i64) (.op2 .sub (.num 0) (.var 1)))]), (.num 1), (.num 1000000)]), false), ((.app 58 [(.op1 (.wrap .i64) (.op2 .sub (.num 0) (.var 0))), (.op1 (.wrap .i64) (.op2 .sub (.num 0) (.var 1)))]), true), ((.op2 .lt (.var 1) (.num 0)), true), ((.app 10 [(.var 1), (.num (-1000000000000000)), (.num 1000000000000000)]), true), ((.app 10 [(.var 0), (.num (-1000000000000000)), (.num 1000000000000000)]), true), ((.op2 .eq (.var 1) (.num 0)), false)], some [((.app 70 [(.var 0), (.var 1)]), (.num 0)), ((.app 71 [(.var 0), (.var 1)]), (.num 0)), ((.app 72 [(.var 0), (.var 1)]), (.num 2))]),
  ([((.app 58 [(.op1 (.wrap .i64) (.op2 .sub (.num 0) (.var 0))), (.op1 (.wrap .i64) (.op2 .sub (.num 0) (.var 1)))]), false), ((.op2 .lt (.var 1) (.num 0)), true), ((.app 10 [(.var 1), (.num (-1000000000000000)), (.num 1000000000000000)]), true), ((.app 10 [(.var 0), (.num (-1000000000000000)), (.num 1000000000000000)]), true), ((.op2 .eq (.var 1) (.num 0)), false)], none),
  ([((.app 10 [(.app 53 [(.var 0), (.var 1)]), (.num (-1000000000000)), (.num 1000000000000)]), true), ((.app 10 [(.app 54 [(.var 0), (.var 1)]), (.num 1), (.num 1000000)]), true), ((.app 58 [(.var 0), (.var 1)]), true), ((.op2 .lt (.var 1) (.num 0)), false), ((.app 10 [(.var 1), (.num (-1000000000000000)), (.num 1000000000000000)]), true), ((.app 10 [(.var 0), (.num (-1000000000000000)), (.num 1000000000000000)]), true), ((.op2 .eq (.var 1) (.num 0)), false)], some [((.app 70 [(.var 0), (.var 1)]), (.app 53 [(.var 0), (.var 1)])), ((.app 71 [(.var 0), (.var 1)]), (.app 54 [(.var 0), (.var 1)])), ((.app 72 [(.var 0), (.var 1)]), (.num 0))]),
  ([((.app 10 [(.app 53 [(.var 0), (.var 1)]), (.num (-1000000000000)), (.num 1000000000000)]), false), ((.app 10 [(.app 54 [(.var 0), (.var 1)]), (.num 1), (.num 1000000)]), true), ((.app 58 [(.var 0), (.var 1)]), true), ((.op2 .lt (.var 1) (.num 0)), false), ((.app 10 [(.var 1), (.num (-1000000000000000)), (.num 1000000000000000)]), true), ((.app 10 [(.var 0), (.num (-1000000000000000)), (.num 1000000000000000)]), true), ((.op2 .eq (.var 1) (.num 0)), false)], some [((.app 70 [(.var 0), (.var 1)]), (.num 0)), ((.app 71 [(.var 0), (.var 1)]), (.num 0)), ((.app 72 [(.var 0), (.var 1)]), (.num 2))]),
  ([((.app 10 [(.app 54 [(.var 0), (.var 1)]), (.num 1), (.num 1000000)]), false), ((.app 58 [(.var 0), (.var 1)]), true), ((.op2 .lt (.var 1) (.num 0)), false), ((.app 10 [(.var 1), (.num (-1000000000000000)), (.num 1000000000000000)]), true), ((.app 10 [(.var 0), (.num (-1000000000000000)), (.num 1000000000000000)]), true), ((.op2 .eq (.var 1) (.num 0)), false)], some [((.app 70 [(.var 0), (.var 1)]), (.num 0)), ((.app 71 [(.var 0), (.var 1)]), (.num 0)), ((.app 72 [(.var 0), (.var 1)]), (.num 2))]),
  ([((.app 58 [(.var 0), (.var 1)]), false), ((.op2 .lt (.var 1) (.num 0)), false), ((.app 10 [(.var 1), (.num (-1000000000000000)), (.num 1000000000000000)]), true), ((.app 10 [(.var 0), (.num (-1000000000000000)), (.num 1000000000000000)]), true), ((.op2 .eq (.var 1) (.num 0)), false)], none),
  ([((.app 10 [(.var 1), (.num (-1000000000000000)), (.num 1000000000000000)]), false), ((.app 10 [(.var 0), (.num (-1000000000000000)), (.num 1000000000000000)]), true), ((.op2 .eq (.var 1) (.num 0)), false)], some [((.app 70 [(.var 0), (.var 1)]), (.num 0)), ((.app 71 [(.var 0), (.var 1)]), (.num 0)), ((.app 72 [(.var 0), (.var 1)]), (.num 1))]),
  ([((.app 10 [(.var 0), (.num (-1000000000000000)), (.num 1000000000000000)]), false), ((.op2 .eq (.var 1) (.num 0)), false)], some [((.app 70 [(.var 0), (.var 1)]), (.num 0)), ((.app 71 [(.var 0), (.var 1)]), (.num 0)), ((.app 72 [(.var 0), (.var 1)]), (.num 1))])]
theorem cNorm_w (r : Rho) : cNorm_con.fn.ways cNorm_call E0 r cNorm_con.pre cNorm_t = some cNorm_l := by kernel_rfl
theorem cNorm_cok : cNorm_con.Ok Tryz.prog sy := by
  intro r σ w us hsy hρ hpre hrel hins
  obtain ⟨u0, us, rfl, g0, hins⟩ := ins_cons hins
  obtain ⟨u1, us, rfl, g1, hins⟩ := ins_cons hins
  obtain ⟨n, k0, rfl, h0⟩ := one_int g0
  obtain ⟨d, k1, rfl, h1⟩ := one_int g1
  rw [hρ] at h0 h1

  refine con_of (E := E0) E0_ok E0_glob (sy := sy) (fun F => C3_ok F hsy) (fun F => noH_ok) (cNorm_w r) hρ hpre hrel hins ?_ ?_
  · simp only [cNorm_con, cNorm_t, AsksL, GTree.asks, FTree.asks, FactsIn, List.append_nil, List.nil_append, List.cons_append, Option.some.injEq, exists_eq', implies_true, and_self, X.bool, X.den, denL, d_wrap, d_kind, d_not, d_neg, d_slen, d_add, d_sub, d_mul, d_div, d_mod, d_lt, d_le, d_eq, d_eqb, d_eqs, d_lts, d_cat, d_sat, d_and, d_or, denSub, denIte, asB, fracs_len, fracs_cell, fracs_lsub, deeds_len, deeds_cell, deeds_lsub, h0, h1, hsy, sym10, sym50, sym51, sym53, sym54, sym55, sym56, sym57, sym58, sym59, sym70, sym71, sym72, sym73, sym74, sym75, sym76, sym77, sym78, sym79, sym80, sym81, sym82, sym83, sym84]
  · simp only [cNorm_l, EndsOk, WaysOk, forall_cons, forall_nil, TgtOk, gpair, FactsIn, hold_cons, hold_nil, Option.some.injEq, Value.bool.injEq, Value.int.injEq, decide_eq_true_eq, decide_eq_false_iff_not, and_true, true_and, and_imp, X.bool, X.den, denL, d_wrap, d_kind, d_not, d_neg, d_slen, d_add, d_sub, d_mul, d_div, d_mod, d_lt, d_le, d_eq, d_eqb, d_eqs, d_lts, d_cat, d_sat, d_and, d_or, denSub, denIte, asB, fracs_len, fracs_cell, fracs_lsub, deeds_len, deeds_cell, deeds_lsub, beq_iff_eq, beq_eq_false_iff_ne, ne_eq, h0, h1, hsy, sym10, sym50, sym51, sym53, sym54, sym55, sym56, sym57, sym58, sym59, sym70, sym71, sym72, sym73, sym74, sym75, sym76, sym77, sym78, sym79, sym80, sym81, sym82, sym83, sym84]
    clear hsy hρ hpre hrel hins g0 g1 h0 h1
    cases hb : numB n d with
    | false =>
      have hr : normR n d = (0, 0, 1) := by unfold normR; rw [hb]; rfl
      simp only [hr]
      simp only [numB, Bool.and_eq_false_iff, Bool.not_eq_false', beq_iff_eq] at hb
      (repeat' apply And.intro) <;> intros <;> first
        | trivial
        | (exfalso; simp_all; done)
        | (simp_all; done)
    | true =>
      have hb' := hb
      simp only [numB, withinB, Bool.and_eq_true, Bool.not_eq_true', beq_eq_false_iff_ne, ne_eq, decide_eq_true_eq] at hb'
      obtain ⟨h0, ⟨h1, h2⟩, h3, h4⟩ := hb'
      have wn : wideB n = true := (wide_iff n).2 (by omega)
      have wd : wideB d = true := (wide_iff d).2 (by omega)
      have i1 : withinB n (-1000000000000000) 1000000000000000 = true := by simp [withinB, h1, h2]
      have i2 : withinB d (-1000000000000000) 1000000000000000 = true := by simp [withinB, h3, h4]
      have e1 := wrap_neg wn
      have e2 := wrap_neg wd
      by_cases hd : d < 0
      · have hc : canB (-n) (-d) = true := (can_iff _ _).2 ⟨(wide_iff _).2 (by omega), (wide_iff _).2 (by omega), by omega⟩
        have hv := valid_low (n := -n) (d := -d) (by omega)
        have hr : normR n d = lowR (-n) (-d) := by unfold normR; rw [if_pos hb, if_pos hd]
        unfold lowB at hv
        simp only [e1, e2, hr, lowR, lowB, i1, i2, hd, h0, hc]
        cases q1 : withinB (lowD (-n) (-d)) 1 1000000 <;> cases q2 : withinB (lowN (-n) (-d)) (-1000000000000) 1000000000000 <;> simp_all
      · have hc : canB n d = true := (can_iff _ _).2 ⟨wn, wd, by omega⟩
        have hv := valid_low (n := n) (d := d) (by omega)
        have hr : normR n d = lowR n d := by unfold normR; rw [if_pos hb, if_neg hd]
        unfold lowB at hv
        simp only [e1, e2, hr, lowR, lowB, i1, i2, hd, h0, hc]
        cases q1 : withinB (lowD n d) 1 1000000 <;> cases q2 : withinB (lowN n d) (-1000000000000) 1000000000000 <;> simp_all
noncomputable def rAdd_con : Con := { f := 23, args := [.agg (fracLeaves 0), .agg (fracLeaves 2)], N := 0, M := 0, pre := [], out := .tuple [.agg [.sint .i64 (.app 73 [.var 0, .var 1, .var 2, .var 3]), .sint .i64 (.app 74 [.var 0, .var 1, .var 2, .var 3])], .sint .i64 (.app 75 [.var 0, .var 1, .var 2, .var 3])], news := [] }
noncomputable def rAdd_call : Env → CallL := fun E => acallAll E (evH E (R3 E) ((fun _ => noLoops) E) 20)
noncomputable def rAdd_t : GTree := (.fork (.app 51 [(.var 0), (.var 1)]) (.fork (.app 51 [(.var 2), (.var 3)]) (.fork (.app 58 [(.op1 (.wrap .i64) (.op2 .add (.op1 (.wrap .i64) (.op2 .mul (.var 0) (.var 3))) (.op1 (.wrap .i64) (.op2 .mul (.var 2) (.var 1))))), (.op1 (.wrap .i64) (.op2 .mul (.var 1) (.var 3)))]) (.leaf [[]]) .bad) (.leaf [[]])) (.leaf [[]]))
noncomputable def rAdd_l : List (List (X × Bool) × Option Pairs) := [([((.app 58 [(.op1 (.wrap .i64) (.op2 .add (.op1 (.wrap .i64) (.op2 .mul (.var 0) (.var 3))) (.op1 (.wrap .i64) (.op2 .mul (.var 2) (.var 1))))), (.op1 (.wrap .i64) (.op2 .mul (.var 1) (.var 3)))]), true), ((.app 51 [(.var 2), (.var 3)]), true), ((.app 51 [(.var 0), (.var 1)]), true)], some [((.app 73 [(.var 0), (.var 1), (.var 2), (.var 3)]), (.ite (.app 51 [(.app 53 [(.op1 (.wrap .i64) (.op2 .add (.op1 (.wrap .i64) (.op2 .mul (.var 0) (.var 3))) (.op1 (.wrap .i64) (.op2 .mul (.var 2) (.var 1))))), (.op1 (.wrap .i64) (.op2 .mul (.var 1) (.var 3)))]), (.app 54 [(.op1 (.wrap .i64) (.op2 .add (.op1 (.wrap .i64) (.op2 .mul (.var 0) (.var 3))) (.op1 (.wrap .i64) (.op2 .mul (.var 2) (.var 1))))), (.op1 (.wrap .i64) (.op2 .mul (.var 1) (.var 3)))])]) (.app 53 [(.op1 (.wrap .i64) (.op2 .add (.op1 (.wrap .i64) (.op2 .mul (.var 0) (.var 3))) (.op1 (.wrap .i64) (.op2 .mul (.var 2) (.var 1))))), (.op1 (.wrap .i64) (.op2 .mul (.var 1) (.var 3)))]) (.num 0))), ((.app 74 [(.var 0), (.var 1), (.var 2), (.var 3)]), (.ite (.app 51 [(.app 53 [(.op1 (.wrap .i64) (.op2 .add (.op1 (.wrap .i64) (.op2 .mul (.var 0) (.var 3))) (.op1 (.wrap .i64) (.op2 .mul (.var 2) (.var 1))))), (.op1 (.wrap .i64) (.op2 .mul (.var 1) (.var 3)))]), (.app 54 [(.op1 (.wrap .i64) (.op2 .add (.op1 (.wrap .i64) (.op2 .mul (.var 0) (.var 3))) (.op1 (.wrap .i64) (.op2 .mul (.var 2) (.var 1))))), (.op1 (.wrap .i64) (.op2 .mul (.var 1) (.var 3)))])]) (.app 54 [(.op1 (.wrap .i64) (.op2 .add (.op1 (.wrap .i64) (.op2 .mul (.var 0) (.var 3))) (.op1 (.wrap .i64) (.op2 .mul (.var 2) (.var 1))))), (.op1 (.wrap .i64) (.op2 .mul (.var 1) (.var 3)))]) (.num 0))), ((.app 75 [(.var 0), (.var 1), (.var 2), (.var 3)]), (.ite (.app 51 [(.app 53 [(.op1 (.wrap .i64) (.op2 .add (.op1 (.wrap .i64) (.op2 .mul (.var 0) (.var 3))) (.op1 (.wrap .i64) (.op2 .mul (.var 2) (.var 1))))), (.op1 (.wrap .i64) (.op2 .mul (.var 1) (.var 3)))]), (.app 54 [(.op1 (.wrap .i64) (.op2 .add (.op1 (.wrap .i64) (.op2 .mul (.var 0) (.var 3))) (.op1 (.wrap .i64) (.op2 .mul (.var 2) (.var 1))))), (.op1 (.wrap .i64) (.op2 .mul (.var 1) (.var 3)))])]) (.num 0) (.num 2)))]),
  ([((.app 58 [(.op1 (.wrap .i64) (.op2 .add (.op1 (.wrap .i64) (.op2 .mul (.var 0) (.var 3))) (.op1 (.wrap .i64) (.op2 .mul (.var 2) (.var 1))))), (.op1 (.wrap .i64) (.op2 .mul (.var 1) (.var 3)))]), false), ((.app 51 [(.var 2), (.var 3)]), true), ((.app 51 [(.var 0), (.var 1)]), true)], none),
  ([((.app 51 [(.var 2), (.var 3)]), false), ((.app 51 [(.var 0), (.var 1)]), true)], some [((.app 73 [(.var 0), (.var 1), (.var 2), (.var 3)]), (.num 0)), ((.app 74 [(.var 0), (.var 1), (.var 2), (.var 3)]), (.num 0)), ((.app 75 [(.var 0), (.var 1), (.var 2), (.var 3)]), (.num 1))]),
  ([((.app 51 [(.var 0), (.var 1)]), false)], some [((.app 73 [(.var 0), (.var 1), (.var 2), (.var 3)]), (.num 0)), ((.app 74 [(.var 0), (.var 1), (.var 2), (.var 3)]), (.num 0)), ((.app 75 [(.var 0), (.var 1), (.var 2), (.var 3)]), (.num 1))])]
theorem rAdd_w (r : Rho) : rAdd_con.fn.ways rAdd_call E0 r rAdd_con.pre rAdd_t = some rAdd_l := by kernel_rfl
set_option maxHeartbeats 1000000 in
theorem rAdd_cok : rAdd_con.Ok Tryz.prog sy := by
  intro r σ w us hsy hρ hpre hrel hins
  obtain ⟨u0, us, rfl, g0, hins⟩ := ins_cons hins
  obtain ⟨u1, us, rfl, g1, hins⟩ := ins_cons hins
  obtain ⟨p, kp, rfl, hpp⟩ := frac_agg g0
  rw [hρ] at hpp
  obtain ⟨q, kq, rfl, hpq⟩ := frac_agg g1
  rw [hρ] at hpq
  have a0 := hpp.h0
  have a1 := hpp.h1
  simp only [Nat.zero_add, Nat.reduceAdd] at a0 a1
  have a2 := hpq.h0
  have a3 := hpq.h1
  simp only [Nat.zero_add, Nat.reduceAdd] at a2 a3

  refine con_of (E := E0) E0_ok E0_glob (sy := sy) (fun F => R3_ok F hsy) (fun F => noH_ok) (rAdd_w r) hρ hpre hrel hins ?_ ?_
  · simp only [rAdd_con, rAdd_t, AsksL, GTree.asks, FTree.asks, FactsIn, List.append_nil, List.nil_append, List.cons_append, Option.some.injEq, exists_eq', implies_true, and_self, X.bool, X.den, denL, d_wrap, d_kind, d_not, d_neg, d_slen, d_add, d_sub, d_mul, d_div, d_mod, d_lt, d_le, d_eq, d_eqb, d_eqs, d_lts, d_cat, d_sat, d_and, d_or, denSub, denIte, asB, fracs_len, fracs_cell, fracs_lsub, deeds_len, deeds_cell, deeds_lsub, a0, a1, a2, a3, hsy, sym10, sym50, sym51, sym53, sym54, sym55, sym56, sym57, sym58, sym59, sym70, sym71, sym72, sym73, sym74, sym75, sym76, sym77, sym78, sym79, sym80, sym81, sym82, sym83, sym84]
  · simp only [rAdd_l, EndsOk, WaysOk, forall_cons, forall_nil, TgtOk, gpair, FactsIn, hold_cons, hold_nil, Option.some.injEq, Value.bool.injEq, Value.int.injEq, decide_eq_true_eq, decide_eq_false_iff_not, and_true, true_and, and_imp, X.bool, X.den, denL, d_wrap, d_kind, d_not, d_neg, d_slen, d_add, d_sub, d_mul, d_div, d_mod, d_lt, d_le, d_eq, d_eqb, d_eqs, d_lts, d_cat, d_sat, d_and, d_or, denSub, denIte, asB, fracs_len, fracs_cell, fracs_lsub, deeds_len, deeds_cell, deeds_lsub, beq_iff_eq, beq_eq_false_iff_ne, ne_eq, a0, a1, a2, a3, hsy, sym10, sym50, sym51, sym53, sym54, sym55, sym56, sym57, sym58, sym59, sym70, sym71, sym72, sym73, sym74, sym75, sym76, sym77, sym78, sym79, sym80, sym81, sym82, sym83, sym84]
    clear hsy hρ hpre hrel hins g0 g1 hpp hpq a0 a1 a2 a3
    obtain ⟨a, b⟩ := p
    obtain ⟨c, d⟩ := q
    simp only
    cases h1 : validB a b with
    | false => simp_all [addR]
    | true => cases h2 : validB c d with
      | false => simp_all [addR]
      | true =>
        obtain ⟨b1, b2, a1, a2, _⟩ := valid_spec h1
        obtain ⟨d1, d2, c1, c2, _⟩ := valid_spec h2
        have m1 := prod_le ⟨a1, a2⟩ ⟨d1, d2⟩
        have m2 := prod_le ⟨c1, c2⟩ ⟨b1, b2⟩
        have m3 := dens_le ⟨b1, b2⟩ ⟨d1, d2⟩
        have hr : addR a b c d = lowR (a * d + c * b) (b * d) := by unfold addR; rw [if_pos ⟨h1, h2⟩]
        generalize a * d = x at *
        generalize c * b = y at *
        generalize b * d = z at *
        have e1 : IntKind.i64.wrap x = x := wrap_id ((wide_iff _).2 (by omega))
        have e2 : IntKind.i64.wrap y = y := wrap_id ((wide_iff _).2 (by omega))
        have e3 : IntKind.i64.wrap z = z := wrap_id ((wide_iff _).2 (by omega))
        have e4 : IntKind.i64.wrap (x + y) = x + y := wrap_id ((wide_iff _).2 (by omega))
        have hc : canB (x + y) z = true := (can_iff _ _).2 ⟨(wide_iff _).2 (by omega), (wide_iff _).2 (by omega), by omega⟩
        have hv := valid_low (n := x + y) (d := z) (by omega)
        unfold lowB at hv
        simp only [hr, e1, e2, e3, e4, hc, lowR, lowB]
        clear h1 h2 hr
        cases q1 : withinB (lowD (x + y) z) 1 1000000 <;> cases q2 : withinB (lowN (x + y) z) (-1000000000000) 1000000000000 <;> simp_all
noncomputable def cAdd_con : Con := { f := 22, args := [.agg (fracLeaves 0), .agg (fracLeaves 2)], N := 0, M := 0, pre := [], out := .tuple [.agg [.sint .i64 (.app 73 [.var 0, .var 1, .var 2, .var 3]), .sint .i64 (.app 74 [.var 0, .var 1, .var 2, .var 3])], .sint .i64 (.app 75 [.var 0, .var 1, .var 2, .var 3])], news := [] }
noncomputable def cAdd_call : Env → CallL := fun E => acallAll E (evH E (C3 E) ((fun _ => noLoops) E) 20)
noncomputable def cAdd_t : GTree := (.fork (.app 51 [(.var 0), (.var 1)]) (.fork (.app 51 [(.var 2), (.var 3)]) (.fork (.app 58 [(.op1 (.wrap .i64) (.op2 .add (.op1 (.wrap .i64) (.op2 .mul (.var 0) (.var 3))) (.op1 (.wrap .i64) (.op2 .mul (.var 2) (.var 1))))), (.op1 (.wrap .i64) (.op2 .mul (.var 1) (.var 3)))]) (.fork (.app 10 [(.app 54 [(.op1 (.wrap .i64) (.op2 .add (.op1 (.wrap .i64) (.op2 .mul (.var 0) (.var 3))) (.op1 (.wrap .i64) (.op2 .mul (.var 2) (.var 1))))), (.op1 (.wrap .i64) (.op2 .mul (.var 1) (.var 3)))]), (.num 1), (.num 1000000)]) (.fork (.app 10 [(.app 53 [(.op1 (.wrap .i64) (.op2 .add (.op1 (.wrap .i64) (.op2 .mul (.var 0) (.var 3))) (.op1 (.wrap .i64) (.op2 .mul (.var 2) (.var 1))))), (.op1 (.wrap .i64) (.op2 .mul (.var 1) (.var 3)))]), (.num (-1000000000000)), (.num 1000000000000)]) (.leaf [[]]) (.leaf [[]])) (.leaf [[]])) .bad) (.leaf [[]])) (.leaf [[]]))
noncomputable def cAdd_l : List (List (X × Bool) × Option Pairs) := [([((.app 10 [(.app 53 [(.op1 (.wrap .i64) (.op2 .add (.op1 (.wrap .i64) (.op2 .mul (.var 0) (.var 3))) (.op1 (.wrap .i64) (.op2 .mul (.var 2) (.var 1))))), (.op1 (.wrap .i64) (.op2 .mul (.var 1) (.var 3)))]), (.num (-1000000000000)), (.num 1000000000000)]), true), ((.app 10 [(.app 54 [(.op1 (.wrap .i64) (.op2 .add (.op1 (.wrap .i64) (.op2 .mul (.var 0) (.var 3))) (.op1 (.wrap .i64) (.op2 .mul (.var 2) (.var 1))))), (.op1 (.wrap .i64) (.op2 .mul (.var 1) (.var 3)))]), (.num 1), (.num 1000000)]), true), ((.app 58 [(.op1 (.wrap .i64) (.op2 .add (.op1 (.wrap .i64) (.op2 .mul (.var 0) (.var 3))) (.op1 (.wrap .i64) (.op2 .mul (.var 2) (.var 1))))), (.op1 (.wrap .i64) (.op2 .mul (.var 1) (.var 3)))]), true), ((.app 51 [(.var 2), (.var 3)]), true), ((.app 51 [(.var 0), (.var 1)]), true)], some [((.app 73 [(.var 0), (.var 1), (.var 2), (.var 3)]), (.app 53 [(.op1 (.wrap .i64) (.op2 .add (.op1 (.wrap .i64) (.op2 .mul (.var 0) (.var 3))) (.op1 (.wrap .i64) (.op2 .mul (.var 2) (.var 1))))), (.op1 (.wrap .i64) (.op2 .mul (.var 1) (.var 3)))])), ((.app 74 [(.var 0), (.var 1), (.var 2), (.var 3)]), (.app 54 [(.op1 (.wrap .i64) (.op2 .add (.op1 (.wrap .i64) (.op2 .mul (.var 0) (.var 3))) (.op1 (.wrap .i64) (.op2 .mul (.var 2) (.var 1))))), (.op1 (.wrap .i64) (.op2 .mul (.var 1) (.var 3)))])), ((.app 75 [(.var 0), (.var 1), (.var 2), (.var 3)]), (.num 0))]),
  ([((.app 10 [(.app 53 [(.op1 (.wrap .i64) (.op2 .add (.op1 (.wrap .i64) (.op2 .mul (.var 0) (.var 3))) (.op1 (.wrap .i64) (.op2 .mul (.var 2) (.var 1))))), (.op1 (.wrap .i64) (.op2 .mul (.var 1) (.var 3)))]), (.num (-1000000000000)), (.num 1000000000000)]), false), ((.app 10 [(.app 54 [(.op1 (.wrap .i64) (.op2 .add (.op1 (.wrap .i64) (.op2 .mul (.var 0) (.var 3))) (.op1 (.wrap .i64) (.op2 .mul (.var 2) (.var 1))))), (.op1 (.wrap .i64) (.op2 .mul (.var 1) (.var 3)))]), (.num 1), (.num 1000000)]), true), ((.app 58 [(.op1 (.wrap .i64) (.op2 .add (.op1 (.wrap .i64) (.op2 .mul (.var 0) (.var 3))) (.op1 (.wrap .i64) (.op2 .mul (.var 2) (.var 1))))), (.op1 (.wrap .i64) (.op2 .mul (.var 1) (.var 3)))]), true), ((.app 51 [(.var 2), (.var 3)]), true), ((.app 51 [(.var 0), (.var 1)]), true)], some [((.app 73 [(.var 0), (.var 1), (.var 2), (.var 3)]), (.num 0)), ((.app 74 [(.var 0), (.var 1), (.var 2), (.var 3)]), (.num 0)), ((.app 75 [(.var 0), (.var 1), (.var 2), (.var 3)]), (.num 2))]),
  ([((.app 10 [(.app 54 [(.op1 (.wrap .i64) (.op2 .add (.op1 (.wrap .i64) (.op2 .mul (.var 0) (.var 3))) (.op1 (.wrap .i64) (.op2 .mul (.var 2) (.var 1))))), (.op1 (.wrap .i64) (.op2 .mul (.var 1) (.var 3)))]), (.num 1), (.num 1000000)]), false), ((.app 58 [(.op1 (.wrap .i64) (.op2 .add (.op1 (.wrap .i64) (.op2 .mul (.var 0) (.var 3))) (.op1 (.wrap .i64) (.op2 .mul (.var 2) (.var 1))))), (.op1 (.wrap .i64) (.op2 .mul (.var 1) (.var 3)))]), true), ((.app 51 [(.var 2), (.var 3)]), true), ((.app 51 [(.var 0), (.var 1)]), true)], some [((.app 73 [(.var 0), (.var 1), (.var 2), (.var 3)]), (.num 0)), ((.app 74 [(.var 0), (.var 1), (.var 2), (.var 3)]), (.num 0)), ((.app 75 [(.var 0), (.var 1), (.var 2), (.var 3)]), (.num 2))]),
  ([((.app 58 [(.op1 (.wrap .i64) (.op2 .add (.op1 (.wrap .i64) (.op2 .mul (.var 0) (.var 3))) (.op1 (.wrap .i64) (.op2 .mul (.var 2) (.var 1))))), (.op1 (.wrap .i64) (.op2 .mul (.var 1) (.var 3)))]), false), ((.app 51 [(.var 2), (.var 3)]), true), ((.app 51 [(.var 0), (.var 1)]), true)], none),
  ([((.app 51 [(.var 2), (.var 3)]), false), ((.app 51 [(.var 0), (.var 1)]), true)], some [((.app 73 [(.var 0), (.var 1), (.var 2), (.var 3)]), (.num 0)), ((.app 74 [(.var 0), (.var 1), (.var 2), (.var 3)]), (.num 0)), ((.app 75 [(.var 0), (.var 1), (.var 2), (.var 3)]), (.num 1))]),
  ([((.app 51 [(.var 0), (.var 1)]), false)], some [((.app 73 [(.var 0), (.var 1), (.var 2), (.var 3)]), (.num 0)), ((.app 74 [(.var 0), (.var 1), (.var 2), (.var 3)]), (.num 0)), ((.app 75 [(.var 0), (.var 1), (.var 2), (.var 3)]), (.num 1))])]
theorem cAdd_w (r : Rho) : cAdd_con.fn.ways cAdd_call E0 r cAdd_con.pre cAdd_t = some cAdd_l := by kernel_rfl
set_option maxHeartbeats 1000000 in
theorem cAdd_cok : cAdd_con.Ok Tryz.prog sy := by
  intro r σ w us hsy hρ hpre hrel hins
  obtain ⟨u0, us, rfl, g0, hins⟩ := ins_cons hins
  obtain ⟨u1, us, rfl, g1, hins⟩ := ins_cons hins
  obtain ⟨p, kp, rfl, hpp⟩ := frac_agg g0
  rw [hρ] at hpp
  obtain ⟨q, kq, rfl, hpq⟩ := frac_agg g1
  rw [hρ] at hpq
  have a0 := hpp.h0
  have a1 := hpp.h1
  simp only [Nat.zero_add, Nat.reduceAdd] at a0 a1
  have a2 := hpq.h0
  have a3 := hpq.h1
  simp only [Nat.zero_add, Nat.reduceAdd] at a2 a3

  refine con_of (E := E0) E0_ok E0_glob (sy := sy) (fun F => C3_ok F hsy) (fun F => noH_ok) (cAdd_w r) hρ hpre hrel hins ?_ ?_
  · simp only [cAdd_con, cAdd_t, AsksL, GTree.asks, FTree.asks, FactsIn, List.append_nil, List.nil_append, List.cons_append, Option.some.injEq, exists_eq', implies_true, and_self, X.bool, X.den, denL, d_wrap, d_kind, d_not, d_neg, d_slen, d_add, d_sub, d_mul, d_div, d_mod, d_lt, d_le, d_eq, d_eqb, d_eqs, d_lts, d_cat, d_sat, d_and, d_or, denSub, denIte, asB, fracs_len, fracs_cell, fracs_lsub, deeds_len, deeds_cell, deeds_lsub, a0, a1, a2, a3, hsy, sym10, sym50, sym51, sym53, sym54, sym55, sym56, sym57, sym58, sym59, sym70, sym71, sym72, sym73, sym74, sym75, sym76, sym77, sym78, sym79, sym80, sym81, sym82, sym83, sym84]
  · simp only [cAdd_l, EndsOk, WaysOk, forall_cons, forall_nil, TgtOk, gpair, FactsIn, hold_cons, hold_nil, Option.some.injEq, Value.bool.injEq, Value.int.injEq, decide_eq_true_eq, decide_eq_false_iff_not, and_true, true_and, and_imp, X.bool, X.den, denL, d_wrap, d_kind, d_not, d_neg, d_slen, d_add, d_sub, d_mul, d_div, d_mod, d_lt, d_le, d_eq, d_eqb, d_eqs, d_lts, d_cat, d_sat, d_and, d_or, denSub, denIte, asB, fracs_len, fracs_cell, fracs_lsub, deeds_len, deeds_cell, deeds_lsub, beq_iff_eq, beq_eq_false_iff_ne, ne_eq, a0, a1, a2, a3, hsy, sym10, sym50, sym51, sym53, sym54, sym55, sym56, sym57, sym58, sym59, sym70, sym71, sym72, sym73, sym74, sym75, sym76, sym77, sym78, sym79, sym80, sym81, sym82, sym83, sym84]
    clear hsy hρ hpre hrel hins g0 g1 hpp hpq a0 a1 a2 a3
    obtain ⟨a, b⟩ := p
    obtain ⟨c, d⟩ := q
    simp only
    cases h1 : validB a b with
    | false => simp_all [addR]
    | true => cases h2 : validB c d with
      | false => simp_all [addR]
      | true =>
        obtain ⟨b1, b2, a1, a2, _⟩ := valid_spec h1
        obtain ⟨d1, d2, c1, c2, _⟩ := valid_spec h2
        have m1 := prod_le ⟨a1, a2⟩ ⟨d1, d2⟩
        have m2 := prod_le ⟨c1, c2⟩ ⟨b1, b2⟩
        have m3 := dens_le ⟨b1, b2⟩ ⟨d1, d2⟩
        have hr : addR a b c d = lowR (a * d + c * b) (b * d) := by unfold addR; rw [if_pos ⟨h1, h2⟩]
        generalize a * d = x at *
        generalize c * b = y at *
        generalize b * d = z at *
        have e1 : IntKind.i64.wrap x = x := wrap_id ((wide_iff _).2 (by omega))
        have e2 : IntKind.i64.wrap y = y := wrap_id ((wide_iff _).2 (by omega))
        have e3 : IntKind.i64.wrap z = z := wrap_id ((wide_iff _).2 (by omega))
        have e4 : IntKind.i64.wrap (x + y) = x + y := wrap_id ((wide_iff _).2 (by omega))
        have hc : canB (x + y) z = true := (can_iff _ _).2 ⟨(wide_iff _).2 (by omega), (wide_iff _).2 (by omega), by omega⟩
        have hv := valid_low (n := x + y) (d := z) (by omega)
        unfold lowB at hv
        simp only [hr, e1, e2, e3, e4, hc, lowR, lowB]
        clear h1 h2 hr
        cases q1 : withinB (lowD (x + y) z) 1 1000000 <;> cases q2 : withinB (lowN (x + y) z) (-1000000000000) 1000000000000 <;> simp_all
noncomputable def cSub_con : Con := { f := 24, args := [.agg (fracLeaves 0), .agg (fracLeaves 2)], N := 0, M := 0, pre := [], out := .tuple [.agg [.sint .i64 (.app 76 [.var 0, .var 1, .var 2, .var 3]), .sint .i64 (.app 77 [.var 0, .var 1, .var 2, .var 3])], .sint .i64 (.app 78 [.var 0, .var 1, .var 2, .var 3])], news := [] }
noncomputable def cSub_call : Env → CallL := fun E => acallAll E (evH E (C3 E) ((fun _ => noLoops) E) 20)
noncomputable def cSub_t : GTree := (.fork (.app 51 [(.var 0), (.var 1)]) (.fork (.app 51 [(.var 2), (.var 3)]) (.fork (.app 58 [(.op1 (.wrap .i64) (.op2 .add (.op1 (.wrap .i64) (.op2 .mul (.var 0) (.var 3))) (.op1 (.wrap .i64) (.op2 .mul (.op1 (.wrap .i64) (.op2 .sub (.num 0) (.var 2))) (.var 1))))), (.op1 (.wrap .i64) (.op2 .mul (.var 1) (.var 3)))]) (.fork (.app 10 [(.app 54 [(.op1 (.wrap .i64) (.op2 .add (.op1 (.wrap .i64) (.op2 .mul (.var 0) (.var 3))) (.op1 (.wrap .i64) (.op2 .mul (.op1 (.wrap .i64) (.op2 .sub (.num 0) (.var 2))) (.var 1))))), (.op1 (.wrap .i64) (.op2 .mul (.var 1) (.var 3)))]), (.num 1), (.num 1000000)]) (.fork (.app 10 [(.app 53 [(.op1 (.wrap .i64) (.op2 .add (.op1 (.wrap .i64) (.op2 .mul (.var 0) (.var 3))) (.op1 (.wrap .i64) (.op2 .mul (.op1 (.wrap .i64) (.op2 .sub (.num 0) (.var 2))) (.var 1))))), (.op1 (.wrap .i64) (.op2 .mul (.var 1) (.var 3)))]), (.num (-1000000000000)), (.num 1000000000000)]) (.leaf [[]]) (.leaf [[]])) (.leaf [[]])) .bad) (.leaf [[]])) (.leaf [[]]))
noncomputable def cSub_l : List (List (X × Bool) × Option Pairs) := [([((.app 10 [(.app 53 [(.op1 (.wrap .i64) (.op2 .add (.op1 (.wrap .i64) (.op2 .mul (.var 0) (.var 3))) (.op1 (.wrap .i64) (.op2 .mul (.op1 (.wrap .i64) (.op2 .sub (.num 0) (.var 2))) (.var 1))))), (.op1 (.wrap .i64) (.op2 .mul (.var 1) (.var 3)))]), (.num (-1000000000000)), (.num 1000000000000)]), true), ((.app 10 [(.app 54 [(.op1 (.wrap .i64) (.op2 .add (.op1 (.wrap .i64) (.op2 .mul (.var 0) (.var 3))) (.op1 (.wrap .i64) (.op2 .mul (.op1 (.wrap .i64) (.op2 .sub (.num 0) (.var 2))) (.var 1))))), (.op1 (.wrap .i64) (.op2 .mul (.var 1) (.var 3)))]), (.num 1), (.num 1000000)]), true), ((.app 58 [(.op1 (.wrap .i64) (.op2 .add (.op1 (.wrap .i64) (.op2 .mul (.var 0) (.var 3))) (.op1 (.wrap .i64) (.op2 .mul (.op1 (.wrap .i64) (.op2 .sub (.num 0) (.var 2))) (.var 1))))), (.op1 (.wrap .i64) (.op2 .mul (.var 1) (.var 3)))]), true), ((.app 51 [(.var 2), (.var 3)]), true), ((.app 51 [(.var 0), (.var 1)]), true)], some [((.app 76 [(.var 0), (.var 1), (.var 2), (.var 3)]), (.app 53 [(.op1 (.wrap .i64) (.op2 .add (.op1 (.wrap .i64) (.op2 .mul (.var 0) (.var 3))) (.op1 (.wrap .i64) (.op2 .mul (.op1 (.wrap .i64) (.op2 .sub (.num 0) (.var 2))) (.var 1))))), (.op1 (.wrap .i64) (.op2 .mul (.var 1) (.var 3)))])), ((.app 77 [(.var 0), (.var 1), (.var 2), (.var 3)]), (.app 54 [(.op1 (.wrap .i64) (.op2 .add (.op1 (.wrap .i64) (.op2 .mul (.var 0) (.var 3))) (.op1 (.wrap .i64) (.op2 .mul (.op1 (.wrap .i64) (.op2 .sub (.num 0) (.var 2))) (.var 1))))), (.op1 (.wrap .i64) (.op2 .mul (.var 1) (.var 3)))])), ((.app 78 [(.var 0), (.var 1), (.var 2), (.var 3)]), (.num 0))]),
  ([((.app 10 [(.app 53 [(.op1 (.wrap .i64) (.op2 .add (.op1 (.wrap .i64) (.op2 .mul (.var 0) (.var 3))) (.op1 (.wrap .i64) (.op2 .mul (.op1 (.wrap .i64) (.op2 .sub (.num 0) (.var 2))) (.var 1))))), (.op1 (.wrap .i64) (.op2 .mul (.var 1) (.var 3)))]), (.num (-1000000000000)), (.num 1000000000000)]), false), ((.app 10 [(.app 54 [(.op1 (.wrap .i64) (.op2 .add (.op1 (.wrap .i64) (.op2 .mul (.var 0) (.var 3))) (.op1 (.wrap .i64) (.op2 .mul (.op1 (.wrap .i64) (.op2 .sub (.num 0) (.var 2))) (.var 1))))), (.op1 (.wrap .i64) (.op2 .mul (.var 1) (.var 3)))]), (.num 1), (.num 1000000)]), true), ((.app 58 [(.op1 (.wrap .i64) (.op2 .add (.op1 (.wrap .i64) (.op2 .mul (.var 0) (.var 3))) (.op1 (.wrap .i64) (.op2 .mul (.op1 (.wrap .i64) (.op2 .sub (.num 0) (.var 2))) (.var 1))))), (.op1 (.wrap .i64) (.op2 .mul (.var 1) (.var 3)))]), true), ((.app 51 [(.var 2), (.var 3)]), true), ((.app 51 [(.var 0), (.var 1)]), true)], some [((.app 76 [(.var 0), (.var 1), (.var 2), (.var 3)]), (.num 0)), ((.app 77 [(.var 0), (.var 1), (.var 2), (.var 3)]), (.num 0)), ((.app 78 [(.var 0), (.var 1), (.var 2), (.var 3)]), (.num 2))]),
  ([((.app 10 [(.app 54 [(.op1 (.wrap .i64) (.op2 .add (.op1 (.wrap .i64) (.op2 .mul (.var 0) (.var 3))) (.op1 (.wrap .i64) (.op2 .mul (.op1 (.wrap .i64) (.op2 .sub (.num 0) (.var 2))) (.var 1))))), (.op1 (.wrap .i64) (.op2 .mul (.var 1) (.var 3)))]), (.num 1), (.num 1000000)]), false), ((.app 58 [(.op1 (.wrap .i64) (.op2 .add (.op1 (.wrap .i64) (.op2 .mul (.var 0) (.var 3))) (.op1 (.wrap .i64) (.op2 .mul (.op1 (.wrap .i64) (.op2 .sub (.num 0) (.var 2))) (.var 1))))), (.op1 (.wrap .i64) (.op2 .mul (.var 1) (.var 3)))]), true), ((.app 51 [(.var 2), (.var 3)]), true), ((.app 51 [(.var 0), (.var 1)]), true)], some [((.app 76 [(.var 0), (.var 1), (.var 2), (.var 3)]), (.num 0)), ((.app 77 [(.var 0), (.var 1), (.var 2), (.var 3)]), (.num 0)), ((.app 78 [(.var 0), (.var 1), (.var 2), (.var 3)]), (.num 2))]),
  ([((.app 58 [(.op1 (.wrap .i64) (.op2 .add (.op1 (.wrap .i64) (.op2 .mul (.var 0) (.var 3))) (.op1 (.wrap .i64) (.op2 .mul (.op1 (.wrap .i64) (.op2 .sub (.num 0) (.var 2))) (.var 1))))), (.op1 (.wrap .i64) (.op2 .mul (.var 1) (.var 3)))]), false), ((.app 51 [(.var 2), (.var 3)]), true), ((.app 51 [(.var 0), (.var 1)]), true)], none),
  ([((.app 51 [(.var 2), (.var 3)]), false), ((.app 51 [(.var 0), (.var 1)]), true)], some [((.app 76 [(.var 0), (.var 1), (.var 2), (.var 3)]), (.num 0)), ((.app 77 [(.var 0), (.var 1), (.var 2), (.var 3)]), (.num 0)), ((.app 78 [(.var 0), (.var 1), (.var 2), (.var 3)]), (.num 1))]),
  ([((.app 51 [(.var 0), (.var 1)]), false)], some [((.app 76 [(.var 0), (.var 1), (.var 2), (.var 3)]), (.num 0)), ((.app 77 [(.var 0), (.var 1), (.var 2), (.var 3)]), (.num 0)), ((.app 78 [(.var 0), (.var 1), (.var 2), (.var 3)]), (.num 1))])]
theorem cSub_w (r : Rho) : cSub_con.fn.ways cSub_call E0 r cSub_con.pre cSub_t = some cSub_l := by kernel_rfl
set_option maxHeartbeats 1000000 in
theorem cSub_cok : cSub_con.Ok Tryz.prog sy := by
  intro r σ w us hsy hρ hpre hrel hins
  obtain ⟨u0, us, rfl, g0, hins⟩ := ins_cons hins
  obtain ⟨u1, us, rfl, g1, hins⟩ := ins_cons hins
  obtain ⟨p, kp, rfl, hpp⟩ := frac_agg g0
  rw [hρ] at hpp
  obtain ⟨q, kq, rfl, hpq⟩ := frac_agg g1
  rw [hρ] at hpq
  have a0 := hpp.h0
  have a1 := hpp.h1
  simp only [Nat.zero_add, Nat.reduceAdd] at a0 a1
  have a2 := hpq.h0
  have a3 := hpq.h1
  simp only [Nat.zero_add, Nat.reduceAdd] at a2 a3

  refine con_of (E := E0) E0_ok E0_glob (sy := sy) (fun F => C3_ok F hsy) (fun F => noH_ok) (cSub_w r) hρ hpre hrel hins ?_ ?_
  · simp only [cSub_con, cSub_t, AsksL, GTree.asks, FTree.asks, FactsIn, List.append_nil, List.nil_append, List.cons_append, Option.some.injEq, exists_eq', implies_true, and_self, X.bool, X.den, denL, d_wrap, d_kind, d_not, d_neg, d_slen, d_add, d_sub, d_mul, d_div, d_mod, d_lt, d_le, d_eq, d_eqb, d_eqs, d_lts, d_cat, d_sat, d_and, d_or, denSub, denIte, asB, fracs_len, fracs_cell, fracs_lsub, deeds_len, deeds_cell, deeds_lsub, a0, a1, a2, a3, hsy, sym10, sym50, sym51, sym53, sym54, sym55, sym56, sym57, sym58, sym59, sym70, sym71, sym72, sym73, sym74, sym75, sym76, sym77, sym78, sym79, sym80, sym81, sym82, sym83, sym84]
  · simp only [cSub_l, EndsOk, WaysOk, forall_cons, forall_nil, TgtOk, gpair, FactsIn, hold_cons, hold_nil, Option.some.injEq, Value.bool.injEq, Value.int.injEq, decide_eq_true_eq, decide_eq_false_iff_not, and_true, true_and, and_imp, X.bool, X.den, denL, d_wrap, d_kind, d_not, d_neg, d_slen, d_add, d_sub, d_mul, d_div, d_mod, d_lt, d_le, d_eq, d_eqb, d_eqs, d_lts, d_cat, d_sat, d_and, d_or, denSub, denIte, asB, fracs_len, fracs_cell, fracs_lsub, deeds_len, deeds_cell, deeds_lsub, beq_iff_eq, beq_eq_false_iff_ne, ne_eq, a0, a1, a2, a3, hsy, sym10, sym50, sym51, sym53, sym54, sym55, sym56, sym57, sym58, sym59, sym70, sym71, sym72, sym73, sym74, sym75, sym76, sym77, sym78, sym79, sym80, sym81, sym82, sym83, sym84]
    clear hsy hρ hpre hrel hins g0 g1 hpp hpq a0 a1 a2 a3
    obtain ⟨a, b⟩ := p
    obtain ⟨c, d⟩ := q
    simp only
    cases h1 : validB a b with
    | false => simp_all [subR, addR]
    | true => cases h2 : validB c d with
      | false =>
        have h3 := neg_valid_iff c d
        simp_all [subR, addR]
      | true =>
        have h3 := neg_valid h2
        obtain ⟨b1, b2, a1, a2, _⟩ := valid_spec h1
        obtain ⟨d1, d2, c1, c2, _⟩ := valid_spec h2
        have e0 : IntKind.i64.wrap (0 - c) = -c := wrap_neg ((wide_iff _).2 (by omega))
        have m1 := prod_le ⟨a1, a2⟩ ⟨d1, d2⟩
        have m2 := prod_le (a := -c) ⟨by omega, by omega⟩ ⟨b1, b2⟩
        have m3 := dens_le ⟨b1, b2⟩ ⟨d1, d2⟩
        have hr : subR a b c d = lowR (a * d + -c * b) (b * d) := by unfold subR addR; rw [if_pos ⟨h1, h3⟩]
        rw [e0]
        generalize a * d = x at *
        generalize -c * b = y at *
        generalize b * d = z at *
        have e1 : IntKind.i64.wrap x = x := wrap_id ((wide_iff _).2 (by omega))
        have e2 : IntKind.i64.wrap y = y := wrap_id ((wide_iff _).2 (by omega))
        have e3 : IntKind.i64.wrap z = z := wrap_id ((wide_iff _).2 (by omega))
        have e4 : IntKind.i64.wrap (x + y) = x + y := wrap_id ((wide_iff _).2 (by omega))
        have hc : canB (x + y) z = true := (can_iff _ _).2 ⟨(wide_iff _).2 (by omega), (wide_iff _).2 (by omega), by omega⟩
        have hv := valid_low (n := x + y) (d := z) (by omega)
        unfold lowB at hv
        simp only [hr, e1, e2, e3, e4, hc, lowR, lowB]
        clear h1 h2 h3 hr
        cases q1 : withinB (lowD (x + y) z) 1 1000000 <;> cases q2 : withinB (lowN (x + y) z) (-1000000000000) 1000000000000 <;> simp_all
noncomputable def rCmp_con : Con := { f := 17, args := [.agg (fracLeaves 0), .agg (fracLeaves 2)], N := 0, M := 0, pre := [], out := .sint .i64 (.app 82 [.var 0, .var 1, .var 2, .var 3]), news := [] }
noncomputable def rCmp_call : Env → CallL := fun E => acallAll E (evH E (R3 E) ((fun _ => noLoops) E) 20)
noncomputable def rCmp_t : GTree := (.fork (.app 51 [(.var 0), (.var 1)]) (.fork (.app 51 [(.var 2), (.var 3)]) (.fork (.op2 .lt (.op1 (.wrap .i64) (.op2 .mul (.var 0) (.var 3))) (.op1 (.wrap .i64) (.op2 .mul (.var 2) (.var 1)))) (.leaf [[]]) (.fork (.op2 .lt (.op1 (.wrap .i64) (.op2 .mul (.var 2) (.var 1))) (.op1 (.wrap .i64) (.op2 .mul (.var 0) (.var 3)))) (.leaf [[]]) (.leaf [[]]))) (.leaf [[]])) (.leaf [[]]))
noncomputable def rCmp_l : List (List (X × Bool) × Option Pairs) := [([((.op2 .lt (.op1 (.wrap .i64) (.op2 .mul (.var 0) (.var 3))) (.op1 (.wrap .i64) (.op2 .mul (.var 2) (.var 1)))), true), ((.app 51 [(.var 2), (.var 3)]), true), ((.app 51 [(.var 0), (.var 1)]), true)], some [((.app 82 [(.var 0), (.var 1), (.var 2), (.var 3)]), (.num (-1)))]),
  ([((.op2 .lt (.op1 (.wrap .i64) (.op2 .mul (.var 2) (.var 1))) (.op1 (.wrap .i64) (.op2 .mul (.var 0) (.var 3)))), true), ((.op2 .lt (.op1 (.wrap .i64) (.op2 .mul (.var 0) (.var 3))) (.op1 (.wrap .i64) (.op2 .mul (.var 2) (.var 1)))), false), ((.app 51 [(.var 2), (.var 3)]), true), ((.app 51 [(.var 0), (.var 1)]), true)], some [((.app 82 [(.var 0), (.var 1), (.var 2), (.var 3)]), (.num 1))]),
  ([((.op2 .lt (.op1 (.wrap .i64) (.op2 .mul (.var 2) (.var 1))) (.op1 (.wrap .i64) (.op2 .mul (.var 0) (.var 3)))), false), ((.op2 .lt (.op1 (.wrap .i64) (.op2 .mul (.var 0) (.var 3))) (.op1 (.wrap .i64) (.op2 .mul (.var 2) (.var 1)))), false), ((.app 51 [(.var 2), (.var 3)]), true), ((.app 51 [(.var 0), (.var 1)]), true)], some [((.app 82 [(.var 0), (.var 1), (.var 2), (.var 3)]), (.num 0))]),
  ([((.app 51 [(.var 2), (.var 3)]), false), ((.app 51 [(.var 0), (.var 1)]), true)], some [((.app 82 [(.var 0), (.var 1), (.var 2), (.var 3)]), (.num 0))]),
  ([((.app 51 [(.var 0), (.var 1)]), false)], some [((.app 82 [(.var 0), (.var 1), (.var 2), (.var 3)]), (.num 0))])]
theorem rCmp_w (r : Rho) : rCmp_con.fn.ways rCmp_call E0 r rCmp_con.pre rCmp_t = some rCmp_l := by kernel_rfl
set_option maxHeartbeats 1000000 in
theorem rCmp_cok : rCmp_con.Ok Tryz.prog sy := by
  intro r σ w us hsy hρ hpre hrel hins
  obtain ⟨u0, us, rfl, g0, hins⟩ := ins_cons hins
  obtain ⟨u1, us, rfl, g1, hins⟩ := ins_cons hins
  obtain ⟨p, kp, rfl, hpp⟩ := frac_agg g0
  rw [hρ] at hpp
  obtain ⟨q, kq, rfl, hpq⟩ := frac_agg g1
  rw [hρ] at hpq
  have a0 := hpp.h0
  have a1 := hpp.h1
  simp only [Nat.zero_add, Nat.reduceAdd] at a0 a1
  have a2 := hpq.h0
  have a3 := hpq.h1
  simp only [Nat.zero_add, Nat.reduceAdd] at a2 a3

  refine con_of (E := E0) E0_ok E0_glob (sy := sy) (fun F => R3_ok F hsy) (fun F => noH_ok) (rCmp_w r) hρ hpre hrel hins ?_ ?_
  · simp only [rCmp_con, rCmp_t, AsksL, GTree.asks, FTree.asks, FactsIn, List.append_nil, List.nil_append, List.cons_append, Option.some.injEq, exists_eq', implies_true, and_self, X.bool, X.den, denL, d_wrap, d_kind, d_not, d_neg, d_slen, d_add, d_sub, d_mul, d_div, d_mod, d_lt, d_le, d_eq, d_eqb, d_eqs, d_lts, d_cat, d_sat, d_and, d_or, denSub, denIte, asB, fracs_len, fracs_cell, fracs_lsub, deeds_len, deeds_cell, deeds_lsub, a0, a1, a2, a3, hsy, sym10, sym50, sym51, sym53, sym54, sym55, sym56, sym57, sym58, sym59, sym70, sym71, sym72, sym73, sym74, sym75, sym76, sym77, sym78, sym79, sym80, sym81, sym82, sym83, sym84]
  · simp only [rCmp_l, EndsOk, WaysOk, forall_cons, forall_nil, TgtOk, gpair, FactsIn, hold_cons, hold_nil, Option.some.injEq, Value.bool.injEq, Value.int.injEq, decide_eq_true_eq, decide_eq_false_iff_not, and_true, true_and, and_imp, X.bool, X.den, denL, d_wrap, d_kind, d_not, d_neg, d_slen, d_add, d_sub, d_mul, d_div, d_mod, d_lt, d_le, d_eq, d_eqb, d_eqs, d_lts, d_cat, d_sat, d_and, d_or, denSub, denIte, asB, fracs_len, fracs_cell, fracs_lsub, deeds_len, deeds_cell, deeds_lsub, beq_iff_eq, beq_eq_false_iff_ne, ne_eq, a0, a1, a2, a3, hsy, sym10, sym50, sym51, sym53, sym54, sym55, sym56, sym57, sym58, sym59, sym70, sym71, sym72, sym73, sym74, sym75, sym76, sym77, sym78, sym79, sym80, sym81, sym82, sym83, sym84]
    clear hsy hρ hpre hrel hins g0 g1 hpp hpq a0 a1 a2 a3
    obtain ⟨a, b⟩ := p
    obtain ⟨c, d⟩ := q
    simp only
    cases h1 : validB a b with
    | false => simp_all [cmpR]
    | true => cases h2 : validB c d with
      | false => simp_all [cmpR]
      | true =>
        obtain ⟨b1, b2, a1, a2, _⟩ := valid_spec h1
        obtain ⟨d1, d2, c1, c2, _⟩ := valid_spec h2
        have m1 := prod_le ⟨a1, a2⟩ ⟨d1, d2⟩
        have m2 := prod_le ⟨c1, c2⟩ ⟨b1, b2⟩
        have hr : cmpR a b c d = if a * d < c * b then -1 else if c * b < a * d then 1 else 0 := by unfold cmpR; rw [if_pos ⟨h1, h2⟩]
        generalize a * d = x at *
        generalize c * b = y at *
        have e1 : IntKind.i64.wrap x = x := wrap_id ((wide_iff _).2 (by omega))
        have e2 : IntKind.i64.wrap y = y := wrap_id ((wide_iff _).2 (by omega))
        simp only [hr, e1, e2]
        clear h1 h2 hr
        (repeat' apply And.intro) <;> intros <;> first
          | trivial
          | (simp_all; done)
          | (exfalso; omega)
          | (simp_all; omega)
noncomputable def cCmp_con : Con := { f := 16, args := [.agg (fracLeaves 0), .agg (fracLeaves 2)], N := 0, M := 0, pre := [], out := .sint .i64 (.app 82 [.var 0, .var 1, .var 2, .var 3]), news := [] }
noncomputable def cCmp_call : Env → CallL := fun E => acallAll E (evH E (C3 E) ((fun _ => noLoops) E) 20)
noncomputable def cCmp_t : GTree := (.fork (.app 51 [(.var 0), (.var 1)]) (.fork (.app 51 [(.var 2), (.var 3)]) (.fork (.op2 .eq (.op1 (.wrap .i64) (.op2 .mul (.var 0) (.var 3))) (.op1 (.wrap .i64) (.op2 .mul (.var 0) (.var 3)))) (.fork (.op2 .eq (.op1 (.wrap .i64) (.op2 .mul (.var 2) (.var 1))) (.op1 (.wrap .i64) (.op2 .mul (.var 2) (.var 1)))) (.fork (.op2 .lt (.op1 (.wrap .i64) (.op2 .mul (.var 0) (.var 3))) (.op1 (.wrap .i64) (.op2 .mul (.var 2) (.var 1)))) (.leaf [[]]) (.fork (.op2 .lt (.op1 (.wrap .i64) (.op2 .mul (.var 2) (.var 1))) (.op1 (.wrap .i64) (.op2 .mul (.var 0) (.var 3)))) (.leaf [[]]) (.leaf [[]]))) (.leaf [[]])) (.fork (.op2 .eq (.op1 (.wrap .i64) (.op2 .mul (.var 2) (.var 1))) (.op1 (.wrap .i64) (.op2 .mul (.var 2) (.var 1)))) (.leaf [[]]) (.leaf [[]]))) (.leaf [[]])) (.leaf [[]]))
noncomputable def cCmp_l : List (List (X × Bool) × Option Pairs) := [([((.op2 .lt (.op1 (.wrap .i64) (.op2 .mul (.var 0) (.var 3))) (.op1 (.wrap .i64) (.op2 .mul (.var 2) (.var 1)))), true), ((.op2 .eq (.op1 (.wrap .i64) (.op2 .mul (.var 2) (.var 1))) (.op1 (.wrap .i64) (.op2 .mul (.var 2) (.var 1)))), true), ((.op2 .eq (.op1 (.wrap .i64) (.op2 .mul (.var 0) (.var 3))) (.op1 (.wrap .i64) (.op2 .mul (.var 0) (.var 3)))), true), ((.app 51 [(.var 2), (.var 3)]), true), ((.app 51 [(.var 0), (.var 1)]), true)], some [((.app 82 [(.var 0), (.var 1), (.var 2), (.var 3)]), (.num (-1)))]),
  ([((.op2 .lt (.op1 (.wrap .i64) (.op2 .mul (.var 2) (.var 1))) (.op1 (.wrap .i64) (.op2 .mul (.var 0) (.var 3)))), true), ((.op2 .lt (.op1 (.wrap .i64) (.op2 .mul (.var 0) (.var 3))) (.op1 (.wrap .i64) (.op2 .mul (.var 2) (.var 1)))), false), ((.op2 .eq (.op1 (.wrap .i64) (.op2 .mul (.var 2) (.var 1))) (.op1 (.wrap .i64) (.op2 .mul (.var 2) (.var 1)))), true), ((.op2 .eq (.op1 (.wrap .i64) (.op2 .mul (.var 0) (.var 3))) (.op1 (.wrap .i64) (.op2 .mul (.var 0) (.var 3)))), true), ((.app 51 [(.var 2), (.var 3)]), true), ((.app 51 [(.var 0), (.var 1)]), true)], some [((.app 82 [(.var 0), (.var 1), (.var 2), (.var 3)]), (.num 1))]),
  ([((.op2 .lt (.op1 (.wrap .i64) (.op2 .mul (.var 2) (.var 1))) (.op1 (.wrap .i64) (.op2 .mul (.var 0) (.var 3)))), false), ((.op2 .lt (.op1 (.wrap .i64) (.op2 .mul (.var 0) (.var 3))) (.op1 (.wrap .i64) (.op2 .mul (.var 2) (.var 1)))), false), ((.op2 .eq (.op1 (.wrap .i64) (.op2 .mul (.var 2) (.var 1))) (.op1 (.wrap .i64) (.op2 .mul (.var 2) (.var 1)))), true), ((.op2 .eq (.op1 (.wrap .i64) (.op2 .mul (.var 0) (.var 3))) (.op1 (.wrap .i64) (.op2 .mul (.var 0) (.var 3)))), true), ((.app 51 [(.var 2), (.var 3)]), true), ((.app 51 [(.var 0), (.var 1)]), true)], some [((.app 82 [(.var 0), (.var 1), (.var 2), (.var 3)]), (.num 0))]),
  ([((.op2 .eq (.op1 (.wrap .i64) (.op2 .mul (.var 2) (.var 1))) (.op1 (.wrap .i64) (.op2 .mul (.var 2) (.var 1)))), false), ((.op2 .eq (.op1 (.wrap .i64) (.op2 .mul (.var 0) (.var 3))) (.op1 (.wrap .i64) (.op2 .mul (.var 0) (.var 3)))), true), ((.app 51 [(.var 2), (.var 3)]), true), ((.app 51 [(.var 0), (.var 1)]), true)], some [((.app 82 [(.var 0), (.var 1), (.var 2), (.var 3)]), (.num 1))]),
  ([((.op2 .eq (.op1 (.wrap .i64) (.op2 .mul (.var 2) (.var 1))) (.op1 (.wrap .i64) (.op2 .mul (.var 2) (.var 1)))), true), ((.op2 .eq (.op1 (.wrap .i64) (.op2 .mul (.var 0) (.var 3))) (.op1 (.wrap .i64) (.op2 .mul (.var 0) (.var 3)))), false), ((.app 51 [(.var 2), (.var 3)]), true), ((.app 51 [(.var 0), (.var 1)]), true)], some [((.app 82 [(.var 0), (.var 1), (.var 2), (.var 3)]), (.num (-1)))]),
  ([((.op2 .eq (.op1 (.wrap .i64) (.op2 .mul (.var 2) (.var 1))) (.op1 (.wrap .i64) (.op2 .mul (.var 2) (.var 1)))), false), ((.op2 .eq (.op1 (.wrap .i64) (.op2 .mul (.var 0) (.var 3))) (.op1 (.wrap .i64) (.op2 .mul (.var 0) (.var 3)))), false), ((.app 51 [(.var 2), (.var 3)]), true), ((.app 51 [(.var 0), (.var 1)]), true)], some [((.app 82 [(.var 0), (.var 1), (.var 2), (.var 3)]), (.num 0))]),
  ([((.app 51 [(.var 2), (.var 3)]), false), ((.app 51 [(.var 0), (.var 1)]), true)], some [((.app 82 [(.var 0), (.var 1), (.var 2), (.var 3)]), (.num 0))]),
  ([((.app 51 [(.var 0), (.var 1)]), false)], some [((.app 82 [(.var 0), (.var 1), (.var 2), (.var 3)]), (.num 0))])]
theorem cCmp_w (r : Rho) : cCmp_con.fn.ways cCmp_call E0 r cCmp_con.pre cCmp_t = some cCmp_l := by kernel_rfl
set_option maxHeartbeats 1000000 in
theorem cCmp_cok : cCmp_con.Ok Tryz.prog sy := by
  intro r σ w us hsy hρ hpre hrel hins
  obtain ⟨u0, us, rfl, g0, hins⟩ := ins_cons hins
  obtain ⟨u1, us, rfl, g1, hins⟩ := ins_cons hins
  obtain ⟨p, kp, rfl, hpp⟩ := frac_agg g0
  rw [hρ] at hpp
  obtain ⟨q, kq, rfl, hpq⟩ := frac_agg g1
  rw [hρ] at hpq
  have a0 := hpp.h0
  have a1 := hpp.h1
  simp only [Nat.zero_add, Nat.reduceAdd] at a0 a1
  have a2 := hpq.h0
  have a3 := hpq.h1
  simp only [Nat.zero_add, Nat.reduceAdd] at a2 a3

  refine con_of (E := E0) E0_ok E0_glob (sy := sy) (fun F => C3_ok F hsy) (fun F => noH_ok) (cCmp_w r) hρ hpre hrel hins ?_ ?_
  · simp only [cCmp_con, cCmp_t, AsksL, GTree.asks, FTree.asks, FactsIn, List.append_nil, List.nil_append, List.cons_append, Option.some.injEq, exists_eq', implies_true, and_self, X.bool, X.den, denL, d_wrap, d_kind, d_not, d_neg, d_slen, d_add, d_sub, d_mul, d_div, d_mod, d_lt, d_le, d_eq, d_eqb, d_eqs, d_lts, d_cat, d_sat, d_and, d_or, denSub, denIte, asB, fracs_len, fracs_cell, fracs_lsub, deeds_len, deeds_cell, deeds_lsub, a0, a1, a2, a3, hsy, sym10, sym50, sym51, sym53, sym54, sym55, sym56, sym57, sym58, sym59, sym70, sym71, sym72, sym73, sym74, sym75, sym76, sym77, sym78, sym79, sym80, sym81, sym82, sym83, sym84]
  · simp only [cCmp_l, EndsOk, WaysOk, forall_cons, forall_nil, TgtOk, gpair, FactsIn, hold_cons, hold_nil, Option.some.injEq, Value.bool.injEq, Value.int.injEq, decide_eq_true_eq, decide_eq_false_iff_not, and_true, true_and, and_imp, X.bool, X.den, denL, d_wrap, d_kind, d_not, d_neg, d_slen, d_add, d_sub, d_mul, d_div, d_mod, d_lt, d_le, d_eq, d_eqb, d_eqs, d_lts, d_cat, d_sat, d_and, d_or, denSub, denIte, asB, fracs_len, fracs_cell, fracs_lsub, deeds_len, deeds_cell, deeds_lsub, beq_iff_eq, beq_eq_false_iff_ne, ne_eq, a0, a1, a2, a3, hsy, sym10, sym50, sym51, sym53, sym54, sym55, sym56, sym57, sym58, sym59, sym70, sym71, sym72, sym73, sym74, sym75, sym76, sym77, sym78, sym79, sym80, sym81, sym82, sym83, sym84]
    clear hsy hρ hpre hrel hins g0 g1 hpp hpq a0 a1 a2 a3
    obtain ⟨a, b⟩ := p
    obtain ⟨c, d⟩ := q
    simp only
    cases h1 : validB a b with
    | false => simp_all [cmpR]
    | true => cases h2 : validB c d with
      | false => simp_all [cmpR]
      | true =>
        obtain ⟨b1, b2, a1, a2, _⟩ := valid_spec h1
        obtain ⟨d1, d2, c1, c2, _⟩ := valid_spec h2
        have m1 := prod_le ⟨a1, a2⟩ ⟨d1, d2⟩
        have m2 := prod_le ⟨c1, c2⟩ ⟨b1, b2⟩
        have hr : cmpR a b c d = if a * d < c * b then -1 else if c * b < a * d then 1 else 0 := by unfold cmpR; rw [if_pos ⟨h1, h2⟩]
        generalize a * d = x at *
        generalize c * b = y at *
        have e1 : IntKind.i64.wrap x = x := wrap_id ((wide_iff _).2 (by omega))
        have e2 : IntKind.i64.wrap y = y := wrap_id ((wide_iff _).2 (by omega))
        simp only [hr, e1, e2]
        clear h1 h2 hr
        (repeat' apply And.intro) <;> intros <;> first
          | trivial
          | (simp_all; done)
          | (exfalso; omega)
          | (simp_all; omega)
noncomputable def rFloor_con : Con := { f := 19, args := [.agg (fracLeaves 0)], N := 0, M := 0, pre := [], out := .sint .i64 (.app 83 [.var 0, .var 1]), news := [] }
noncomputable def rFloor_call : Env → CallL := fun E => acallAll E (evH E (R3 E) ((fun _ => noLoops) E) 20)
noncomputable def rFloor_t : GTree := (.fork (.app 51 [(.var 0), (.var 1)]) (.fork (.op2 .eq (.var 1) (.num 0)) .bad (.fork (.op2 .lt (.var 0) (.op1 (.wrap .i64) (.op2 .mul (.op1 (.wrap .i64) (.op2 .div (.var 0) (.var 1))) (.var 1)))) (.leaf [[]]) (.leaf [[]]))) (.leaf [[]]))
noncomputable def rFloor_l : List (List (X × Bool) × Option Pairs) := [([((.op2 .eq (.var 1) (.num 0)), true), ((.app 51 [(.var 0), (.var 1)]), true)], none),
  ([((.op2 .lt (.var 0) (.op1 (.wrap .i64) (.op2 .mul (.op1 (.wrap .i64) (.op2 .div (.var 0) (.var 1))) (.var 1)))), true), ((.op2 .eq (.var 1) (.num 0)), false), ((.app 51 [(.var 0), (.var 1)]), true)], some [((.app 83 [(.var 0), (.var 1)]), (.op1 (.wrap .i64) (.op2 .sub (.op1 (.wrap .i64) (.op2 .div (.var 0) (.var 1))) (.num 1))))]),
  ([((.op2 .lt (.var 0) (.op1 (.wrap .i64) (.op2 .mul (.op1 (.wrap .i64) (.op2 .div (.var 0) (.var 1))) (.var 1)))), false), ((.op2 .eq (.var 1) (.num 0)), false), ((.app 51 [(.var 0), (.var 1)]), true)], some [((.app 83 [(.var 0), (.var 1)]), (.op1 (.wrap .i64) (.op2 .div (.var 0) (.var 1))))]),
  ([((.app 51 [(.var 0), (.var 1)]), false)], some [((.app 83 [(.var 0), (.var 1)]), (.num 0))])]
theorem rFloor_w (r : Rho) : rFloor_con.fn.ways rFloor_call E0 r rFloor_con.pre rFloor_t = some rFloor_l := by kernel_rfl
theorem rFloor_cok : rFloor_con.Ok Tryz.prog sy := by
  intro r σ w us hsy hρ hpre hrel hins
  obtain ⟨u0, us, rfl, g0, hins⟩ := ins_cons hins
  obtain ⟨p, kp, rfl, hpp⟩ := frac_agg g0
  rw [hρ] at hpp
  have a0 := hpp.h0
  have a1 := hpp.h1
  simp only [Nat.zero_add, Nat.reduceAdd] at a0 a1

  refine con_of (E := E0) E0_ok E0_glob (sy := sy) (fun F => R3_ok F hsy) (fun F => noH_ok) (rFloor_w r) hρ hpre hrel hins ?_ ?_
  · simp only [rFloor_con, rFloor_t, AsksL, GTree.asks, FTree.asks, FactsIn, List.append_nil, List.nil_append, List.cons_append, Option.some.injEq, exists_eq', implies_true, and_self, X.bool, X.den, denL, d_wrap, d_kind, d_not, d_neg, d_slen, d_add, d_sub, d_mul, d_div, d_mod, d_lt, d_le, d_eq, d_eqb, d_eqs, d_lts, d_cat, d_sat, d_and, d_or, denSub, denIte, asB, fracs_len, fracs_cell, fracs_lsub, deeds_len, deeds_cell, deeds_lsub, a0, a1, hsy, sym10, sym50, sym51, sym53, sym54, sym55, sym56, sym57, sym58, sym59, sym70, sym71, sym72, sym73, sym74, sym75, sym76, sym77, sym78, sym79, sym80, sym81, sym82, sym83, sym84]
  · simp only [rFloor_l, EndsOk, WaysOk, forall_cons, forall_nil, TgtOk, gpair, FactsIn, hold_cons, hold_nil, Option.some.injEq, Value.bool.injEq, Value.int.injEq, decide_eq_true_eq, decide_eq_false_iff_not, and_true, true_and, and_imp, X.bool, X.den, denL, d_wrap, d_kind, d_not, d_neg, d_slen, d_add, d_sub, d_mul, d_div, d_mod, d_lt, d_le, d_eq, d_eqb, d_eqs, d_lts, d_cat, d_sat, d_and, d_or, denSub, denIte, asB, fracs_len, fracs_cell, fracs_lsub, deeds_len, deeds_cell, deeds_lsub, beq_iff_eq, beq_eq_false_iff_ne, ne_eq, a0, a1, hsy, sym10, sym50, sym51, sym53, sym54, sym55, sym56, sym57, sym58, sym59, sym70, sym71, sym72, sym73, sym74, sym75, sym76, sym77, sym78, sym79, sym80, sym81, sym82, sym83, sym84]
    clear hsy hρ hpre hrel hins g0 hpp a0 a1
    obtain ⟨a, b⟩ := p
    simp only
    cases h1 : validB a b with
    | false => simp_all [floorR]
    | true =>
      obtain ⟨b1, b2, a1, a2, _⟩ := valid_spec h1
      have hr : floorR a b = floorI a b := by unfold floorR; rw [if_pos h1]
      have wa : wideB a = true := (wide_iff a).2 (by omega)
      have e1 : IntKind.i64.wrap (a.tdiv b) = a.tdiv b := wrap_id (tdiv_wide b wa)
      obtain ⟨t1, t2⟩ := tdiv_mul_le a b (by omega)
      have e2 : IntKind.i64.wrap (a.tdiv b * b) = a.tdiv b * b := wrap_id ((wide_iff _).2 (by omega))
      have e3 : IntKind.i64.wrap (a.tdiv b - 1) = a.tdiv b - 1 := wrap_id ((wide_iff _).2 (by have := (wide_iff _).1 (tdiv_wide b wa); have := tdiv_le a b; omega))
      simp only [hr, e1, e2, e3, floorI]
      have hb0 : ¬ b = 0 := by omega
      clear h1 hr
      (repeat' apply And.intro) <;> intros <;> first
        | trivial
        | (simp_all; done)
        | (exfalso; omega)
        | (rw [if_pos (by omega)]; done)
        | (rw [if_neg (by omega)]; done)
        | (simp_all; omega)
noncomputable def cFloor_con : Con := { f := 18, args := [.agg (fracLeaves 0)], N := 0, M := 0, pre := [], out := .sint .i64 (.app 83 [.var 0, .var 1]), news := [] }
noncomputable def cFloor_call : Env → CallL := fun E => acallAll E (evH E (C3 E) ((fun _ => noLoops) E) 20)
noncomputable def cFloor_t : GTree := (.fork (.app 51 [(.var 0), (.var 1)]) (.fork (.op2 .eq (.var 1) (.num 0)) .bad (.fork (.op2 .lt (.var 0) (.op1 (.wrap .i64) (.op2 .mul (.op1 (.wrap .i64) (.op2 .div (.var 0) (.var 1))) (.var 1)))) (.leaf [[]]) (.leaf [[]]))) (.leaf [[]]))
noncomputable def cFloor_l : List (List (X × Bool) × Option Pairs) := [([((.op2 .eq (.var 1) (.num 0)), true), ((.app 51 [(.var 0), (.var 1)]), true)], none),
  ([((.op2 .lt (.var 0) (.op1 (.wrap .i64) (.op2 .mul (.op1 (.wrap .i64) (.op2 .div (.var 0) (.var 1))) (.var 1)))), true), ((.op2 .eq (.var 1) (.num 0)), false), ((.app 51 [(.var 0), (.var 1)]), true)], some [((.app 83 [(.var 0), (.var 1)]), (.op1 (.wrap .i64) (.op2 .sub (.op1 (.wrap .i64) (.op2 .div (.var 0) (.var 1))) (.num 1))))]),
  ([((.op2 .lt (.var 0) (.op1 (.wrap .i64) (.op2 .mul (.op1 (.wrap .i64) (.op2 .div (.var 0) (.var 1))) (.var 1)))), false), ((.op2 .eq (.var 1) (.num 0)), false), ((.app 51 [(.var 0), (.var 1)]), true)], some [((.app 83 [(.var 0), (.var 1)]), (.op1 (.wrap .i64) (.op2 .div (.var 0) (.var 1))))]),
  ([((.app 51 [(.var 0), (.var 1)]), false)], some [((.app 83 [(.var 0), (.var 1)]), (.num 0))])]
theorem cFloor_w (r : Rho) : cFloor_con.fn.ways cFloor_call E0 r cFloor_con.pre cFloor_t = some cFloor_l := by kernel_rfl
theorem cFloor_cok : cFloor_con.Ok Tryz.prog sy := by
  intro r σ w us hsy hρ hpre hrel hins
  obtain ⟨u0, us, rfl, g0, hins⟩ := ins_cons hins
  obtain ⟨p, kp, rfl, hpp⟩ := frac_agg g0
  rw [hρ] at hpp
  have a0 := hpp.h0
  have a1 := hpp.h1
  simp only [Nat.zero_add, Nat.reduceAdd] at a0 a1

  refine con_of (E := E0) E0_ok E0_glob (sy := sy) (fun F => C3_ok F hsy) (fun F => noH_ok) (cFloor_w r) hρ hpre hrel hins ?_ ?_
  · simp only [cFloor_con, cFloor_t, AsksL, GTree.asks, FTree.asks, FactsIn, List.append_nil, List.nil_append, List.cons_append, Option.some.injEq, exists_eq', implies_true, and_self, X.bool, X.den, denL, d_wrap, d_kind, d_not, d_neg, d_slen, d_add, d_sub, d_mul, d_div, d_mod, d_lt, d_le, d_eq, d_eqb, d_eqs, d_lts, d_cat, d_sat, d_and, d_or, denSub, denIte, asB, fracs_len, fracs_cell, fracs_lsub, deeds_len, deeds_cell, deeds_lsub, a0, a1, hsy, sym10, sym50, sym51, sym53, sym54, sym55, sym56, sym57, sym58, sym59, sym70, sym71, sym72, sym73, sym74, sym75, sym76, sym77, sym78, sym79, sym80, sym81, sym82, sym83, sym84]
  · simp only [cFloor_l, EndsOk, WaysOk, forall_cons, forall_nil, TgtOk, gpair, FactsIn, hold_cons, hold_nil, Option.some.injEq, Value.bool.injEq, Value.int.injEq, decide_eq_true_eq, decide_eq_false_iff_not, and_true, true_and, and_imp, X.bool, X.den, denL, d_wrap, d_kind, d_not, d_neg, d_slen, d_add, d_sub, d_mul, d_div, d_mod, d_lt, d_le, d_eq, d_eqb, d_eqs, d_lts, d_cat, d_sat, d_and, d_or, denSub, denIte, asB, fracs_len, fracs_cell, fracs_lsub, deeds_len, deeds_cell, deeds_lsub, beq_iff_eq, beq_eq_false_iff_ne, ne_eq, a0, a1, hsy, sym10, sym50, sym51, sym53, sym54, sym55, sym56, sym57, sym58, sym59, sym70, sym71, sym72, sym73, sym74, sym75, sym76, sym77, sym78, sym79, sym80, sym81, sym82, sym83, sym84]
    clear hsy hρ hpre hrel hins g0 hpp a0 a1
    obtain ⟨a, b⟩ := p
    simp only
    cases h1 : validB a b with
    | false => simp_all [floorR]
    | true =>
      obtain ⟨b1, b2, a1, a2, _⟩ := valid_spec h1
      have hr : floorR a b = floorI a b := by unfold floorR; rw [if_pos h1]
      have wa : wideB a = true := (wide_iff a).2 (by omega)
      have e1 : IntKind.i64.wrap (a.tdiv b) = a.tdiv b := wrap_id (tdiv_wide b wa)
      obtain ⟨t1, t2⟩ := tdiv_mul_le a b (by omega)
      have e2 : IntKind.i64.wrap (a.tdiv b * b) = a.tdiv b * b := wrap_id ((wide_iff _).2 (by omega))
      have e3 : IntKind.i64.wrap (a.tdiv b - 1) = a.tdiv b - 1 := wrap_id ((wide_iff _).2 (by have := (wide_iff _).1 (tdiv_wide b wa); have := tdiv_le a b; omega))
      simp only [hr, e1, e2, e3, floorI]
      have hb0 : ¬ b = 0 := by omega
      clear h1 hr
      (repeat' apply And.intro) <;> intros <;> first
        | trivial
        | (simp_all; done)
        | (exfalso; omega)
        | (rw [if_pos (by omega)]; done)
        | (rw [if_neg (by omega)]; done)
        | (simp_all; omega)
noncomputable def rCeil_con : Con := { f := 21, args := [.agg (fracLeaves 0)], N := 0, M := 0, pre := [], out := .sint .i64 (.app 84 [.var 0, .var 1]), news := [] }
noncomputable def rCeil_call : Env → CallL := fun E => acallAll E (evH E (R3 E) ((fun _ => noLoops) E) 20)
noncomputable def rCeil_t : GTree := (.fork (.app 51 [(.var 0), (.var 1)]) (.fork (.op2 .eq (.var 1) (.num 0)) .bad (.fork (.op2 .lt (.op1 (.wrap .i64) (.op2 .sub (.num 0) (.var 0))) (.op1 (.wrap .i64) (.op2 .mul (.op1 (.wrap .i64) (.op2 .div (.op1 (.wrap .i64) (.op2 .sub (.num 0) (.var 0))) (.var 1))) (.var 1)))) (.leaf [[]]) (.leaf [[]]))) (.leaf [[]]))
noncomputable def rCeil_l : List (List (X × Bool) × Option Pairs) := [([((.op2 .eq (.var 1) (.num 0)), true), ((.app 51 [(.var 0), (.var 1)]), true)], none),
  ([((.op2 .lt (.op1 (.wrap .i64) (.op2 .sub (.num 0) (.var 0))) (.op1 (.wrap .i64) (.op2 .mul (.op1 (.wrap .i64) (.op2 .div (.op1 (.wrap .i64) (.op2 .sub (.num 0) (.var 0))) (.var 1))) (.var 1)))), true), ((.op2 .eq (.var 1) (.num 0)), false), ((.app 51 [(.var 0), (.var 1)]), true)], some [((.app 84 [(.var 0), (.var 1)]), (.op1 (.wrap .i64) (.op2 .sub (.num 0) (.op1 (.wrap .i64) (.op2 .sub (.op1 (.wrap .i64) (.op2 .div (.op1 (.wrap .i64) (.op2 .sub (.num 0) (.var 0))) (.var 1))) (.num 1))))))]),
  ([((.op2 .lt (.op1 (.wrap .i64) (.op2 .sub (.num 0) (.var 0))) (.op1 (.wrap .i64) (.op2 .mul (.op1 (.wrap .i64) (.op2 .div (.op1 (.wrap .i64) (.op2 .sub (.num 0) (.var 0))) (.var 1))) (.var 1)))), false), ((.op2 .eq (.var 1) (.num 0)), false), ((.app 51 [(.var 0), (.var 1)]), true)], some [((.app 84 [(.var 0), (.var 1)]), (.op1 (.wrap .i64) (.op2 .sub (.num 0) (.op1 (.wrap .i64) (.op2 .div (.op1 (.wrap .i64) (.op2 .sub (.num 0) (.var 0))) (.var 1))))))]),
  ([((.app 51 [(.var 0), (.var 1)]), false)], some [((.app 84 [(.var 0), (.var 1)]), (.num 0))])]
theorem rCeil_w (r : Rho) : rCeil_con.fn.ways rCeil_call E0 r rCeil_con.pre rCeil_t = some rCeil_l := by kernel_rfl
theorem rCeil_cok : rCeil_con.Ok Tryz.prog sy := by
  intro r σ w us hsy hρ hpre hrel hins
  obtain ⟨u0, us, rfl, g0, hins⟩ := ins_cons hins
  obtain ⟨p, kp, rfl, hpp⟩ := frac_agg g0
  rw [hρ] at hpp
  have a0 := hpp.h0
  have a1 := hpp.h1
  simp only [Nat.zero_add, Nat.reduceAdd] at a0 a1

  refine con_of (E := E0) E0_ok E0_glob (sy := sy) (fun F => R3_ok F hsy) (fun F => noH_ok) (rCeil_w r) hρ hpre hrel hins ?_ ?_
  · simp only [rCeil_con, rCeil_t, AsksL, GTree.asks, FTree.asks, FactsIn, List.append_nil, List.nil_append, List.cons_append, Option.some.injEq, exists_eq', implies_true, and_self, X.bool, X.den, denL, d_wrap, d_kind, d_not, d_neg, d_slen, d_add, d_sub, d_mul, d_div, d_mod, d_lt, d_le, d_eq, d_eqb, d_eqs, d_lts, d_cat, d_sat, d_and, d_or, denSub, denIte, asB, fracs_len, fracs_cell, fracs_lsub, deeds_len, deeds_cell, deeds_lsub, a0, a1, hsy, sym10, sym50, sym51, sym53, sym54, sym55, sym56, sym57, sym58, sym59, sym70, sym71, sym72, sym73, sym74, sym75, sym76, sym77, sym78, sym79, sym80, sym81, sym82, sym83, sym84]
  · simp only [rCeil_l, EndsOk, WaysOk, forall_cons, forall_nil, TgtOk, gpair, FactsIn, hold_cons, hold_nil, Option.some.injEq, Value.bool.injEq, Value.int.injEq, decide_eq_true_eq, decide_eq_false_iff_not, and_true, true_and, and_imp, X.bool, X.den, denL, d_wrap, d_kind, d_not, d_neg, d_slen, d_add, d_sub, d_mul, d_div, d_mod, d_lt, d_le, d_eq, d_eqb, d_eqs, d_lts, d_cat, d_sat, d_and, d_or, denSub, denIte, asB, fracs_len, fracs_cell, fracs_lsub, deeds_len, deeds_cell, deeds_lsub, beq_iff_eq, beq_eq_false_iff_ne, ne_eq, a0, a1, hsy, sym10, sym50, sym51, sym53, sym54, sym55, sym56, sym57, sym58, sym59, sym70, sym71, sym72, sym73, sym74, sym75, sym76, sym77, sym78, sym79, sym80, sym81, sym82, sym83, sym84]
    clear hsy hρ hpre hrel hins g0 hpp a0 a1
    obtain ⟨a, b⟩ := p
    simp only
    cases h1 : validB a b with
    | false => simp_all [ceilR]
    | true =>
      obtain ⟨b1, b2, a1, a2, _⟩ := valid_spec h1
      have hr : ceilR a b = -floorI (-a) b := by unfold ceilR; rw [if_pos h1]
      have e0 : IntKind.i64.wrap (0 - a) = -a := wrap_neg ((wide_iff a).2 (by omega))
      have wa : wideB (-a) = true := (wide_iff (-a)).2 (by omega)
      have e1 : IntKind.i64.wrap ((-a).tdiv b) = (-a).tdiv b := wrap_id (tdiv_wide b wa)
      obtain ⟨t1, t2⟩ := tdiv_mul_le (-a) b (by omega)
      have e2 : IntKind.i64.wrap ((-a).tdiv b * b) = (-a).tdiv b * b := wrap_id ((wide_iff _).2 (by omega))
      have e3 : IntKind.i64.wrap ((-a).tdiv b - 1) = (-a).tdiv b - 1 := wrap_id ((wide_iff _).2 (by have := (wide_iff _).1 (tdiv_wide b wa); have := tdiv_le (-a) b; omega))
      have e4 : IntKind.i64.wrap (0 - (-a).tdiv b) = -(-a).tdiv b := wrap_neg (tdiv_wide b wa)
      have e5 : IntKind.i64.wrap (0 - ((-a).tdiv b - 1)) = -((-a).tdiv b - 1) := wrap_neg ((wide_iff _).2 (by have := (wide_iff _).1 (tdiv_wide b wa); have := tdiv_le (-a) b; omega))
      simp only [hr, e0, e1, e2, e3, e4, e5, floorI]
      have hb0 : ¬ b = 0 := by omega
      clear h1 hr
      (repeat' apply And.intro) <;> intros <;> first
        | trivial
        | (simp_all; done)
        | (exfalso; omega)
        | (rw [if_pos (by omega)]; done)
        | (rw [if_neg (by omega)]; done)
        | (simp_all; omega)
noncomputable def cCeil_con : Con := { f := 20, args := [.agg (fracLeaves 0)], N := 0, M := 0, pre := [], out := .sint .i64 (.app 84 [.var 0, .var 1]), news := [] }
noncomputable def cCeil_call : Env → CallL := fun E => acallAll E (evH E (C3 E) ((fun _ => noLoops) E) 20)
noncomputable def cCeil_t : GTree := (.fork (.app 51 [(.var 0), (.var 1)]) (.fork (.op2 .eq (.var 1) (.num 0)) .bad (.fork (.op2 .lt (.op1 (.wrap .i64) (.op2 .sub (.num 0) (.var 0))) (.op1 (.wrap .i64) (.op2 .mul (.op1 (.wrap .i64) (.op2 .div (.op1 (.wrap .i64) (.op2 .sub (.num 0) (.var 0))) (.var 1))) (.var 1)))) (.leaf [[]]) (.leaf [[]]))) (.leaf [[]]))
noncomputable def cCeil_l : List (List (X × Bool) × Option Pairs) := [([((.op2 .eq (.var 1) (.num 0)), true), ((.app 51 [(.var 0), (.var 1)]), true)], none),
  ([((.op2 .lt (.op1 (.wrap .i64) (.op2 .sub (.num 0) (.var 0))) (.op1 (.wrap .i64) (.op2 .mul (.op1 (.wrap .i64) (.op2 .div (.op1 (.wrap .i64) (.op2 .sub (.num 0) (.var 0))) (.var 1))) (.var 1)))), true), ((.op2 .eq (.var 1) (.num 0)), false), ((.app 51 [(.var 0), (.var 1)]), true)], some [((.app 84 [(.var 0), (.var 1)]), (.op1 (.wrap .i64) (.op2 .sub (.num 0) (.op1 (.wrap .i64) (.op2 .sub (.op1 (.wrap .i64) (.op2 .div (.op1 (.wrap .i64) (.op2 .sub (.num 0) (.var 0))) (.var 1))) (.num 1))))))]),
  ([((.op2 .lt (.op1 (.wrap .i64) (.op2 .sub (.num 0) (.var 0))) (.op1 (.wrap .i64) (.op2 .mul (.op1 (.wrap .i64) (.op2 .div (.op1 (.wrap .i64) (.op2 .sub (.num 0) (.var 0))) (.var 1))) (.var 1)))), false), ((.op2 .eq (.var 1) (.num 0)), false), ((.app 51 [(.var 0), (.var 1)]), true)], some [((.app 84 [(.var 0), (.var 1)]), (.op1 (.wrap .i64) (.op2 .sub (.num 0) (.op1 (.wrap .i64) (.op2 .div (.op1 (.wrap .i64) (.op2 .sub (.num 0) (.var 0))) (.var 1))))))]),
  ([((.app 51 [(.var 0), (.var 1)]), false)], some [((.app 84 [(.var 0), (.var 1)]), (.num 0))])]
theorem cCeil_w (r : Rho) : cCeil_con.fn.ways cCeil_call E0 r cCeil_con.pre cCeil_t = some cCeil_l := by kernel_rfl
theorem cCeil_cok : cCeil_con.Ok Tryz.prog sy := by
  intro r σ w us hsy hρ hpre hrel hins
  obtain ⟨u0, us, rfl, g0, hins⟩ := ins_cons hins
  obtain ⟨p, kp, rfl, hpp⟩ := frac_agg g0
  rw [hρ] at hpp
  have a0 := hpp.h0
  have a1 := hpp.h1
  simp only [Nat.zero_add, Nat.reduceAdd] at a0 a1

  refine con_of (E := E0) E0_ok E0_glob (sy := sy) (fun F => C3_ok F hsy) (fun F => noH_ok) (cCeil_w r) hρ hpre hrel hins ?_ ?_
  · simp only [cCeil_con, cCeil_t, AsksL, GTree.asks, FTree.asks, FactsIn, List.append_nil, List.nil_append, List.cons_append, Option.some.injEq, exists_eq', implies_true, and_self, X.bool, X.den, denL, d_wrap, d_kind, d_not, d_neg, d_slen, d_add, d_sub, d_mul, d_div, d_mod, d_lt, d_le, d_eq, d_eqb, d_eqs, d_lts, d_cat, d_sat, d_and, d_or, denSub, denIte, asB, fracs_len, fracs_cell, fracs_lsub, deeds_len, deeds_cell, deeds_lsub, a0, a1, hsy, sym10, sym50, sym51, sym53, sym54, sym55, sym56, sym57, sym58, sym59, sym70, sym71, sym72, sym73, sym74, sym75, sym76, sym77, sym78, sym79, sym80, sym81, sym82, sym83, sym84]
  · simp only [cCeil_l, EndsOk, WaysOk, forall_cons, forall_nil, TgtOk, gpair, FactsIn, hold_cons, hold_nil, Option.some.injEq, Value.bool.injEq, Value.int.injEq, decide_eq_true_eq, decide_eq_false_iff_not, and_true, true_and, and_imp, X.bool, X.den, denL, d_wrap, d_kind, d_not, d_neg, d_slen, d_add, d_sub, d_mul, d_div, d_mod, d_lt, d_le, d_eq, d_eqb, d_eqs, d_lts, d_cat, d_sat, d_and, d_or, denSub, denIte, asB, fracs_len, fracs_cell, fracs_lsub, deeds_len, deeds_cell, deeds_lsub, beq_iff_eq, beq_eq_false_iff_ne, ne_eq, a0, a1, hsy, sym10, sym50, sym51, sym53, sym54, sym55, sym56, sym57, sym58, sym59, sym70, sym71, sym72, sym73, sym74, sym75, sym76, sym77, sym78, sym79, sym80, sym81, sym82, sym83, sym84]
    clear hsy hρ hpre hrel hins g0 hpp a0 a1
    obtain ⟨a, b⟩ := p
    simp only
    cases h1 : validB a b with
    | false => simp_all [ceilR]
    | true =>
      obtain ⟨b1, b2, a1, a2, _⟩ := valid_spec h1
      have hr : ceilR a b = -floorI (-a) b := by unfold ceilR; rw [if_pos h1]
      have e0 : IntKind.i64.wrap (0 - a) = -a := wrap_neg ((wide_iff a).2 (by omega))
      have wa : wideB (-a) = true := (wide_iff (-a)).2 (by omega)
      have e1 : IntKind.i64.wrap ((-a).tdiv b) = (-a).tdiv b := wrap_id (tdiv_wide b wa)
      obtain ⟨t1, t2⟩ := tdiv_mul_le (-a) b (by omega)
      have e2 : IntKind.i64.wrap ((-a).tdiv b * b) = (-a).tdiv b * b := wrap_id ((wide_iff _).2 (by omega))
      have e3 : IntKind.i64.wrap ((-a).tdiv b - 1) = (-a).tdiv b - 1 := wrap_id ((wide_iff _).2 (by have := (wide_iff _).1 (tdiv_wide b wa); have := tdiv_le (-a) b; omega))
      have e4 : IntKind.i64.wrap (0 - (-a).tdiv b) = -(-a).tdiv b := wrap_neg (tdiv_wide b wa)
      have e5 : IntKind.i64.wrap (0 - ((-a).tdiv b - 1)) = -((-a).tdiv b - 1) := wrap_neg ((wide_iff _).2 (by have := (wide_iff _).1 (tdiv_wide b wa); have := tdiv_le (-a) b; omega))
      simp only [hr, e0, e1, e2, e3, e4, e5, floorI]
      have hb0 : ¬ b = 0 := by omega
      clear h1 hr
      (repeat' apply And.intro) <;> intros <;> first
        | trivial
        | (simp_all; done)
        | (exfalso; omega)
        | (rw [if_pos (by omega)]; done)
        | (rw [if_neg (by omega)]; done)
        | (simp_all; omega)
end Go.Proofs.YtnahicnoofkfgaaGreatDoor.Zs
