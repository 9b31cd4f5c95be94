/-
  Contracts of the reference and of package drift, over names: CheckWind, refused, Check, Append, SameWinds.
-/
import Derived.Test.YtpjkfjnjbekcaaaGreatDoorBase
import Derived.Test.YtpjkfjnjbekcaaaGreatDoorWin
import Derived.KernelRfl
set_option linter.unusedSimpArgs false
set_option linter.unusedVariables false
namespace Go.Proofs.YtpjkfjnjbekcaaaGreatDoor.Zs
open Go
set_option linter.unusedSimpArgs false
set_option linter.unusedVariables false

noncomputable def noL : Env → CallE := libs []
theorem noL_ok (F : List (X × Bool)) {r : Rho} (h : r.sym = sy) : CallsOk (E0.with F r) (noL (E0.with F r)) := libs_ok fun c hc => by
  cases hc

noncomputable def rwithin_con : Con := { f := 35, args := [.one (.int .i64 0), .one (.int .i64 1), .one (.int .i64 2)], N := 0, M := 0, pre := [], out := .sbool (.app 10 [.var 0, .var 1, .var 2]), news := [] }
noncomputable def rwithin_call : Env → CallL := fun E => acallAll E (evH E (noL E) ((fun _ => noLoops) E) 4)
noncomputable def rwithin_t : GTree := (.fork (.op2 .lt (.var 0) (.var 1)) (.leaf [[]]) (.leaf [[]]))
noncomputable def rwithin_l : List (List (X × Bool) × Option Pairs) := [([((.op2 .lt (.var 0) (.var 1)), true)], some [((.app 10 [(.var 0), (.var 1), (.var 2)]), (.boo false))]),
  ([((.op2 .lt (.var 0) (.var 1)), false)], some [((.app 10 [(.var 0), (.var 1), (.var 2)]), (.op1 .not (.op2 .lt (.var 2) (.var 0))))])]
theorem rwithin_w (r : Rho) : rwithin_con.fn.ways rwithin_call E0 r rwithin_con.pre rwithin_t = some rwithin_l := by kernel_rfl
theorem rwithin_cok : rwithin_con.Ok Tryz.prog sy := by
  intro r σ w us hsy hρ hpre hrel hins
  obtain ⟨u0, us, rfl, g0, hins⟩ := ins_cons hins
  obtain ⟨u1, us, rfl, g1, hins⟩ := ins_cons hins
  obtain ⟨u2, us, rfl, g2, hins⟩ := ins_cons hins
  obtain ⟨a, k0, rfl, h0⟩ := one_int g0
  obtain ⟨b, k1, rfl, h1⟩ := one_int g1
  obtain ⟨c, k2, rfl, h2⟩ := one_int g2
  rw [hρ] at h0 h1 h2
  have hs : r.sym 10 [.int k0 a, .int k1 b, .int k2 c] = some (.bool (withinB a b c)) := by rw [hsy]; rfl
  refine con_of (E := E0) E0_ok E0_glob (sy := sy) (fun F => noL_ok F hsy) (fun F => noH_ok) (rwithin_w r) hρ hpre hrel hins ?_ ?_
  · simp only [rwithin_con, rwithin_t, AsksL, GTree.asks, FTree.asks, FactsIn, List.append_nil, List.nil_append, List.cons_append, Option.some.injEq, exists_eq', implies_true, and_self, X.bool, X.den, denL, d_wrap, d_kind, d_not, d_neg, d_slen, d_add, d_sub, d_mul, d_div, d_mod, d_lt, d_le, d_eq, d_eqb, d_eqs, d_lts, d_cat, d_sat, d_and, d_or, denSub, denIte, asB, winds_len, winds_cell, winds_lsub, h0, h1, h2, hs]
  · simp only [rwithin_l, EndsOk, WaysOk, forall_cons, forall_nil, TgtOk, gpair, FactsIn, hold_cons, hold_nil, Option.some.injEq, Value.bool.injEq, Value.int.injEq, decide_eq_true_eq, decide_eq_false_iff_not, and_true, true_and, and_imp, X.bool, X.den, denL, d_wrap, d_kind, d_not, d_neg, d_slen, d_add, d_sub, d_mul, d_div, d_mod, d_lt, d_le, d_eq, d_eqb, d_eqs, d_lts, d_cat, d_sat, d_and, d_or, denSub, denIte, asB, winds_len, winds_cell, winds_lsub, h0, h1, h2, hs]
    (repeat' apply And.intro) <;> intros <;> first | trivial | (simp [withinB]; omega) | (rw [Bool.eq_iff_iff]; simp [withinB]; omega)
noncomputable def cwithin_con : Con := { f := 33, args := [.one (.int .i64 0), .one (.int .i64 1), .one (.int .i64 2)], N := 0, M := 0, pre := [], out := .sbool (.app 10 [.var 0, .var 1, .var 2]), news := [] }
noncomputable def cwithin_call : Env → CallL := fun E => acallAll E (evH E (noL E) ((fun _ => noLoops) E) 4)
noncomputable def cwithin_t : GTree := (.fork (.op2 .lt (.var 0) (.var 1)) (.leaf [[]]) (.leaf [[]]))
noncomputable def cwithin_l : List (List (X × Bool) × Option Pairs) := [([((.op2 .lt (.var 0) (.var 1)), true)], some [((.app 10 [(.var 0), (.var 1), (.var 2)]), (.boo false))]),
  ([((.op2 .lt (.var 0) (.var 1)), false)], some [((.app 10 [(.var 0), (.var 1), (.var 2)]), (.op1 .not (.op2 .lt (.var 2) (.var 0))))])]
theorem cwithin_w (r : Rho) : cwithin_con.fn.ways cwithin_call E0 r cwithin_con.pre cwithin_t = some cwithin_l := by kernel_rfl
theorem cwithin_cok : cwithin_con.Ok Tryz.prog sy := by
  intro r σ w us hsy hρ hpre hrel hins
  obtain ⟨u0, us, rfl, g0, hins⟩ := ins_cons hins
  obtain ⟨u1, us, rfl, g1, hins⟩ := ins_cons hins
  obtain ⟨u2, us, rfl, g2, hins⟩ := ins_cons hins
  obtain ⟨a, k0, rfl, h0⟩ := one_int g0
  obtain ⟨b, k1, rfl, h1⟩ := one_int g1
  obtain ⟨c, k2, rfl, h2⟩ := one_int g2
  rw [hρ] at h0 h1 h2
  have hs : r.sym 10 [.int k0 a, .int k1 b, .int k2 c] = some (.bool (withinB a b c)) := by rw [hsy]; rfl
  refine con_of (E := E0) E0_ok E0_glob (sy := sy) (fun F => noL_ok F hsy) (fun F => noH_ok) (cwithin_w r) hρ hpre hrel hins ?_ ?_
  · simp only [cwithin_con, cwithin_t, AsksL, GTree.asks, FTree.asks, FactsIn, List.append_nil, List.nil_append, List.cons_append, Option.some.injEq, exists_eq', implies_true, and_self, X.bool, X.den, denL, d_wrap, d_kind, d_not, d_neg, d_slen, d_add, d_sub, d_mul, d_div, d_mod, d_lt, d_le, d_eq, d_eqb, d_eqs, d_lts, d_cat, d_sat, d_and, d_or, denSub, denIte, asB, winds_len, winds_cell, winds_lsub, h0, h1, h2, hs]
  · simp only [cwithin_l, EndsOk, WaysOk, forall_cons, forall_nil, TgtOk, gpair, FactsIn, hold_cons, hold_nil, Option.some.injEq, Value.bool.injEq, Value.int.injEq, decide_eq_true_eq, decide_eq_false_iff_not, and_true, true_and, and_imp, X.bool, X.den, denL, d_wrap, d_kind, d_not, d_neg, d_slen, d_add, d_sub, d_mul, d_div, d_mod, d_lt, d_le, d_eq, d_eqb, d_eqs, d_lts, d_cat, d_sat, d_and, d_or, denSub, denIte, asB, winds_len, winds_cell, winds_lsub, h0, h1, h2, hs]
    (repeat' apply And.intro) <;> intros <;> first | trivial | (simp [withinB]; omega) | (rw [Bool.eq_iff_iff]; simp [withinB]; omega)
noncomputable def rranged_con : Con := { f := 37, args := [.agg [.int .i64 0, .int .i64 1], .one (.int .i64 2), .one (.int .i64 3)], N := 0, M := 0, pre := [], out := .sbool (.app 9 [.var 0, .var 1, .var 2, .var 3]), news := [] }
noncomputable def rranged_call : Env → CallL := fun E => acallAll E (evH E (noL E) ((fun _ => noLoops) E) 4)
noncomputable def rranged_t : GTree := (.fork (.op2 .lt (.var 0) (.var 2)) (.leaf [[]]) (.fork (.op2 .lt (.var 1) (.var 0)) (.leaf [[]]) (.leaf [[]])))
noncomputable def rranged_l : List (List (X × Bool) × Option Pairs) := [([((.op2 .lt (.var 0) (.var 2)), true)], some [((.app 9 [(.var 0), (.var 1), (.var 2), (.var 3)]), (.boo false))]),
  ([((.op2 .lt (.var 1) (.var 0)), true), ((.op2 .lt (.var 0) (.var 2)), false)], some [((.app 9 [(.var 0), (.var 1), (.var 2), (.var 3)]), (.boo false))]),
  ([((.op2 .lt (.var 1) (.var 0)), false), ((.op2 .lt (.var 0) (.var 2)), false)], some [((.app 9 [(.var 0), (.var 1), (.var 2), (.var 3)]), (.op1 .not (.op2 .lt (.var 3) (.var 1))))])]
theorem rranged_w (r : Rho) : rranged_con.fn.ways rranged_call E0 r rranged_con.pre rranged_t = some rranged_l := by kernel_rfl
theorem rranged_cok : rranged_con.Ok Tryz.prog sy := by
  intro r σ w us hsy hρ hpre hrel hins
  obtain ⟨u0, us, rfl, g0, hins⟩ := ins_cons hins
  obtain ⟨u1, us, rfl, g1, hins⟩ := ins_cons hins
  obtain ⟨u2, us, rfl, g2, hins⟩ := ins_cons hins
  obtain ⟨vs, rfl, gs⟩ := AV.inst_agg g0
  obtain ⟨x0, vs, rfl, g00, gs⟩ := ins_cons gs
  obtain ⟨x1, vs, rfl, g01, gs⟩ := ins_cons gs
  obtain ⟨a, k0, rfl, h0⟩ := one_int g00
  obtain ⟨b, k1, rfl, h1⟩ := one_int g01
  obtain ⟨c, k2, rfl, h2⟩ := one_int g1
  obtain ⟨d, k3, rfl, h3⟩ := one_int g2
  rw [hρ] at h0 h1 h2 h3
  have hs : r.sym 9 [.int k0 a, .int k1 b, .int k2 c, .int k3 d] = some (.bool (spanB a b c d)) := by rw [hsy]; rfl
  refine con_of (E := E0) E0_ok E0_glob (sy := sy) (fun F => noL_ok F hsy) (fun F => noH_ok) (rranged_w r) hρ hpre hrel hins ?_ ?_
  · simp only [rranged_con, rranged_t, AsksL, GTree.asks, FTree.asks, FactsIn, List.append_nil, List.nil_append, List.cons_append, Option.some.injEq, exists_eq', implies_true, and_self, X.bool, X.den, denL, d_wrap, d_kind, d_not, d_neg, d_slen, d_add, d_sub, d_mul, d_div, d_mod, d_lt, d_le, d_eq, d_eqb, d_eqs, d_lts, d_cat, d_sat, d_and, d_or, denSub, denIte, asB, winds_len, winds_cell, winds_lsub, h0, h1, h2, h3, hs]
  · simp only [rranged_l, EndsOk, WaysOk, forall_cons, forall_nil, TgtOk, gpair, FactsIn, hold_cons, hold_nil, Option.some.injEq, Value.bool.injEq, Value.int.injEq, decide_eq_true_eq, decide_eq_false_iff_not, and_true, true_and, and_imp, X.bool, X.den, denL, d_wrap, d_kind, d_not, d_neg, d_slen, d_add, d_sub, d_mul, d_div, d_mod, d_lt, d_le, d_eq, d_eqb, d_eqs, d_lts, d_cat, d_sat, d_and, d_or, denSub, denIte, asB, winds_len, winds_cell, winds_lsub, h0, h1, h2, h3, hs]
    (repeat' apply And.intro) <;> intros <;> first | trivial | (simp [spanB]; omega) | (rw [Bool.eq_iff_iff]; simp [spanB]; omega)
noncomputable def crange_con : Con := { f := 32, args := [.agg [.int .i64 0, .int .i64 1], .one (.int .i64 2), .one (.int .i64 3)], N := 0, M := 0, pre := [], out := .sbool (.app 9 [.var 0, .var 1, .var 2, .var 3]), news := [] }
noncomputable def crange_call : Env → CallL := fun E => acallAll E (evH E (noL E) ((fun _ => noLoops) E) 4)
noncomputable def crange_t : GTree := (.fork (.op2 .lt (.var 0) (.var 2)) (.leaf [[]]) (.fork (.op2 .lt (.var 1) (.var 0)) (.leaf [[]]) (.leaf [[]])))
noncomputable def crange_l : List (List (X × Bool) × Option Pairs) := [([((.op2 .lt (.var 0) (.var 2)), true)], some [((.app 9 [(.var 0), (.var 1), (.var 2), (.var 3)]), (.boo false))]),
  ([((.op2 .lt (.var 1) (.var 0)), true), ((.op2 .lt (.var 0) (.var 2)), false)], some [((.app 9 [(.var 0), (.var 1), (.var 2), (.var 3)]), (.boo false))]),
  ([((.op2 .lt (.var 1) (.var 0)), false), ((.op2 .lt (.var 0) (.var 2)), false)], some [((.app 9 [(.var 0), (.var 1), (.var 2), (.var 3)]), (.op1 .not (.op2 .lt (.var 3) (.var 1))))])]
theorem crange_w (r : Rho) : crange_con.fn.ways crange_call E0 r crange_con.pre crange_t = some crange_l := by kernel_rfl
theorem crange_cok : crange_con.Ok Tryz.prog sy := by
  intro r σ w us hsy hρ hpre hrel hins
  obtain ⟨u0, us, rfl, g0, hins⟩ := ins_cons hins
  obtain ⟨u1, us, rfl, g1, hins⟩ := ins_cons hins
  obtain ⟨u2, us, rfl, g2, hins⟩ := ins_cons hins
  obtain ⟨vs, rfl, gs⟩ := AV.inst_agg g0
  obtain ⟨x0, vs, rfl, g00, gs⟩ := ins_cons gs
  obtain ⟨x1, vs, rfl, g01, gs⟩ := ins_cons gs
  obtain ⟨a, k0, rfl, h0⟩ := one_int g00
  obtain ⟨b, k1, rfl, h1⟩ := one_int g01
  obtain ⟨c, k2, rfl, h2⟩ := one_int g1
  obtain ⟨d, k3, rfl, h3⟩ := one_int g2
  rw [hρ] at h0 h1 h2 h3
  have hs : r.sym 9 [.int k0 a, .int k1 b, .int k2 c, .int k3 d] = some (.bool (spanB a b c d)) := by rw [hsy]; rfl
  refine con_of (E := E0) E0_ok E0_glob (sy := sy) (fun F => noL_ok F hsy) (fun F => noH_ok) (crange_w r) hρ hpre hrel hins ?_ ?_
  · simp only [crange_con, crange_t, AsksL, GTree.asks, FTree.asks, FactsIn, List.append_nil, List.nil_append, List.cons_append, Option.some.injEq, exists_eq', implies_true, and_self, X.bool, X.den, denL, d_wrap, d_kind, d_not, d_neg, d_slen, d_add, d_sub, d_mul, d_div, d_mod, d_lt, d_le, d_eq, d_eqb, d_eqs, d_lts, d_cat, d_sat, d_and, d_or, denSub, denIte, asB, winds_len, winds_cell, winds_lsub, h0, h1, h2, h3, hs]
  · simp only [crange_l, EndsOk, WaysOk, forall_cons, forall_nil, TgtOk, gpair, FactsIn, hold_cons, hold_nil, Option.some.injEq, Value.bool.injEq, Value.int.injEq, decide_eq_true_eq, decide_eq_false_iff_not, and_true, true_and, and_imp, X.bool, X.den, denL, d_wrap, d_kind, d_not, d_neg, d_slen, d_add, d_sub, d_mul, d_div, d_mod, d_lt, d_le, d_eq, d_eqb, d_eqs, d_lts, d_cat, d_sat, d_and, d_or, denSub, denIte, asB, winds_len, winds_cell, winds_lsub, h0, h1, h2, h3, hs]
    (repeat' apply And.intro) <;> intros <;> first | trivial | (simp [spanB]; omega) | (rw [Bool.eq_iff_iff]; simp [spanB]; omega)
noncomputable def errIf_con : Con := { f := 29, args := [.one (.bool 0), .one (.int .i64 1)], N := 0, M := 0, pre := [], out := .sint .i64 (.ite (.var 0) (.var 1) (.num 0)), news := [] }
noncomputable def errIf_call : Env → CallL := fun E => acallAll E (evH E (noL E) ((fun _ => noLoops) E) 4)
noncomputable def errIf_t : GTree := (.fork (.var 0) (.leaf [[]]) (.leaf [[]]))
noncomputable def errIf_l : List (List (X × Bool) × Option Pairs) := [([((.var 0), true)], some [((.ite (.var 0) (.var 1) (.num 0)), (.var 1))]),
  ([((.var 0), false)], some [((.ite (.var 0) (.var 1) (.num 0)), (.num 0))])]
theorem errIf_w (r : Rho) : errIf_con.fn.ways errIf_call E0 r errIf_con.pre errIf_t = some errIf_l := by kernel_rfl
theorem errIf_cok : errIf_con.Ok Tryz.prog sy := by
  intro r σ w us hsy hρ hpre hrel hins
  obtain ⟨u0, us, rfl, g0, hins⟩ := ins_cons hins
  obtain ⟨u1, us, rfl, g1, hins⟩ := ins_cons hins
  obtain ⟨b, rfl, h0⟩ := one_bool g0
  obtain ⟨a, k1, rfl, h1⟩ := one_int g1
  rw [hρ] at h0 h1
  refine con_of (E := E0) E0_ok E0_glob (sy := sy) (fun F => noL_ok F hsy) (fun F => noH_ok) (errIf_w r) hρ hpre hrel hins ?_ ?_
  · simp only [errIf_con, errIf_t, AsksL, GTree.asks, FTree.asks, FactsIn, List.append_nil, List.nil_append, List.cons_append, Option.some.injEq, exists_eq', implies_true, and_self, X.bool, X.den, denL, d_wrap, d_kind, d_not, d_neg, d_slen, d_add, d_sub, d_mul, d_div, d_mod, d_lt, d_le, d_eq, d_eqb, d_eqs, d_lts, d_cat, d_sat, d_and, d_or, denSub, denIte, asB, winds_len, winds_cell, winds_lsub, h0, h1]
  · simp only [errIf_l, EndsOk, WaysOk, forall_cons, forall_nil, TgtOk, gpair, FactsIn, hold_cons, hold_nil, Option.some.injEq, Value.bool.injEq, Value.int.injEq, decide_eq_true_eq, decide_eq_false_iff_not, and_true, true_and, and_imp, X.bool, X.den, denL, d_wrap, d_kind, d_not, d_neg, d_slen, d_add, d_sub, d_mul, d_div, d_mod, d_lt, d_le, d_eq, d_eqb, d_eqs, d_lts, d_cat, d_sat, d_and, d_or, denSub, denIte, asB, winds_len, winds_cell, winds_lsub, h0, h1]
    cases b <;> (repeat' apply And.intro) <;> intros <;> simp_all
end Go.Proofs.YtpjkfjnjbekcaaaGreatDoor.Zs

namespace Go.Proofs.YtpjkfjnjbekcaaaGreatDoor.Zs
open Go
set_option linter.unusedSimpArgs false
set_option linter.unusedVariables false

noncomputable def LR1 : Env → CallE := libs [cLib rwithin_con, cLib rranged_con]
theorem LR1_ok (F : List (X × Bool)) {r : Rho} (h : r.sym = sy) : CallsOk (E0.with F r) (LR1 (E0.with F r)) := libs_ok fun c hc => by
  simp only [List.mem_cons, List.not_mem_nil, or_false] at hc
  rcases hc with rfl | rfl
  · exact lib_ok (E := E0) rwithin_cok F h
  · exact lib_ok (E := E0) rranged_cok F h
noncomputable def LC1 : Env → CallE := libs [cLib cwithin_con, cLib crange_con, cLib errIf_con]
theorem LC1_ok (F : List (X × Bool)) {r : Rho} (h : r.sym = sy) : CallsOk (E0.with F r) (LC1 (E0.with F r)) := libs_ok fun c hc => by
  simp only [List.mem_cons, List.not_mem_nil, or_false] at hc
  rcases hc with rfl | rfl | rfl
  · exact lib_ok (E := E0) cwithin_cok F h
  · exact lib_ok (E := E0) crange_cok F h
  · exact lib_ok (E := E0) errIf_cok F h

noncomputable def rCheckWind_con : Con := { f := 11, args := [.agg (windLeaves 0)], N := 0, M := 0, pre := [], out := .sint .i64 (.app 14 [.var 0, .var 1, .var 2, .var 3, .var 4, .var 5, .var 6, .var 7, .var 8]), news := [] }
noncomputable def rCheckWind_call : Env → CallL := fun E => acallAll E (evH E (LR1 E) ((fun _ => noLoops) E) 6)
noncomputable def rCheckWind_t : GTree := (.fork (.app 10 [(.var 0), (.num 1), (.num 1000000)]) (.fork (.app 10 [(.var 1), (.num 0), (.num 1000000)]) (.fork (.app 10 [(.var 8), (.num 0), (.num 1000000)]) (.fork (.op2 .lt (.num 0) (.var 8)) (.fork (.op2 .eq (.var 2) (.num 0)) (.fork (.op2 .eq (.var 3) (.num 0)) (.fork (.op2 .eq (.var 4) (.num 0)) (.fork (.op2 .eq (.var 5) (.num 0)) (.fork (.op2 .eq (.var 6) (.num 0)) (.fork (.op2 .eq (.var 7) (.num 0)) (.leaf [[]]) (.leaf [[]])) (.leaf [[]])) (.leaf [[]])) (.leaf [[]])) (.leaf [[]])) (.leaf [[]])) (.fork (.app 10 [(.var 2), (.num 0), (.num 1000000)]) (.fork (.app 10 [(.var 3), (.num 0), (.num 1000000)]) (.fork (.op2 .lt (.var 3) (.var 2)) (.leaf [[]]) (.fork (.app 9 [(.var 4), (.var 5), (.num (-2)), (.num 2)]) (.fork (.app 9 [(.var 6), (.var 7), (.num (-2)), (.num 2)]) (.leaf [[]]) (.leaf [[]])) (.leaf [[]]))) (.leaf [[]])) (.leaf [[]]))) (.leaf [[]])) (.leaf [[]])) (.leaf [[]]))
noncomputable def rCheckWind_l : List (List (X × Bool) × Option Pairs) := [([((.op2 .eq (.var 7) (.num 0)), true), ((.op2 .eq (.var 6) (.num 0)), true), ((.op2 .eq (.var 5) (.num 0)), true), ((.op2 .eq (.var 4) (.num 0)), true), ((.op2 .eq (.var 3) (.num 0)), true), ((.op2 .eq (.var 2) (.num 0)), true), ((.op2 .lt (.num 0) (.var 8)), true), ((.app 10 [(.var 8), (.num 0), (.num 1000000)]), true), ((.app 10 [(.var 1), (.num 0), (.num 1000000)]), true), ((.app 10 [(.var 0), (.num 1), (.num 1000000)]), true)], some [((.app 14 [(.var 0), (.var 1), (.var 2), (.var 3), (.var 4), (.var 5), (.var 6), (.var 7), (.var 8)]), (.num 0))]),
  ([((.op2 .eq (.var 7) (.num 0)), false), ((.op2 .eq (.var 6) (.num 0)), true), ((.op2 .eq (.var 5) (.num 0)), true), ((.op2 .eq (.var 4) (.num 0)), true), ((.op2 .eq (.var 3) (.num 0)), true), ((.op2 .eq (.var 2) (.num 0)), true), ((.op2 .lt (.num 0) (.var 8)), true), ((.app 10 [(.var 8), (.num 0), (.num 1000000)]), true), ((.app 10 [(.var 1), (.num 0), (.num 1000000)]), true), ((.app 10 [(.var 0), (.num 1), (.num 1000000)]), true)], some [((.app 14 [(.var 0), (.var 1), (.var 2), (.var 3), (.var 4), (.var 5), (.var 6), (.var 7), (.var 8)]), (.num 1))]),
  ([((.op2 .eq (.var 6) (.num 0)), false), ((.op2 .eq (.var 5) (.num 0)), true), ((.op2 .eq (.var 4) (.num 0)), true), ((.op2 .eq (.var 3) (.num 0)), true), ((.op2 .eq (.var 2) (.num 0)), true), ((.op2 .lt (.num 0) (.var 8)), true), ((.app 10 [(.var 8), (.num 0), (.num 1000000)]), true), ((.app 10 [(.var 1), (.num 0), (.num 1000000)]), true), ((.app 10 [(.var 0), (.num 1), (.num 1000000)]), true)], some [((.app 14 [(.var 0), (.var 1), (.var 2), (.var 3), (.var 4), (.var 5), (.var 6), (.var 7), (.var 8)]), (.num 1))]),
  ([((.op2 .eq (.var 5) (.num 0)), false), ((.op2 .eq (.var 4) (.num 0)), true), ((.op2 .eq (.var 3) (.num 0)), true), ((.op2 .eq (.var 2) (.num 0)), true), ((.op2 .lt (.num 0) (.var 8)), true), ((.app 10 [(.var 8), (.num 0), (.num 1000000)]), true), ((.app 10 [(.var 1), (.num 0), (.num 1000000)]), true), ((.app 10 [(.var 0), (.num 1), (.num 1000000)]), true)], some [((.app 14 [(.var 0), (.var 1), (.var 2), (.var 3), (.var 4), (.var 5), (.var 6), (.var 7), (.var 8)]), (.num 1))]),
  ([((.op2 .eq (.var 4) (.num 0)), false), ((.op2 .eq (.var 3) (.num 0)), true), ((.op2 .eq (.var 2) (.num 0)), true), ((.op2 .lt (.num 0) (.var 8)), true), ((.app 10 [(.var 8), (.num 0), (.num 1000000)]), true), ((.app 10 [(.var 1), (.num 0), (.num 1000000)]), true), ((.app 10 [(.var 0), (.num 1), (.num 1000000)]), true)], some [((.app 14 [(.var 0), (.var 1), (.var 2), (.var 3), (.var 4), (.var 5), (.var 6), (.var 7), (.var 8)]), (.num 1))]),
  ([((.op2 .eq (.var 3) (.num 0)), false), ((.op2 .eq (.var 2) (.num 0)), true), ((.op2 .lt (.num 0) (.var 8)), true), ((.app 10 [(.var 8), (.num 0), (.num 1000000)]), true), ((.app 10 [(.var 1), (.num 0), (.num 1000000)]), true), ((.app 10 [(.var 0), (.num 1), (.num 1000000)]), true)], some [((.app 14 [(.var 0), (.var 1), (.var 2), (.var 3), (.var 4), (.var 5), (.var 6), (.var 7), (.var 8)]), (.num 1))]),
  ([((.op2 .eq (.var 2) (.num 0)), false), ((.op2 .lt (.num 0) (.var 8)), true), ((.app 10 [(.var 8), (.num 0), (.num 1000000)]), true), ((.app 10 [(.var 1), (.num 0), (.num 1000000)]), true), ((.app 10 [(.var 0), (.num 1), (.num 1000000)]), true)], some [((.app 14 [(.var 0), (.var 1), (.var 2), (.var 3), (.var 4), (.var 5), (.var 6), (.var 7), (.var 8)]), (.num 1))]),
  ([((.op2 .lt (.var 3) (.var 2)), true), ((.app 10 [(.var 3), (.num 0), (.num 1000000)]), true), ((.app 10 [(.var 2), (.num 0), (.num 1000000)]), true), ((.op2 .lt (.num 0) (.var 8)), false), ((.app 10 [(.var 8), (.num 0), (.num 1000000)]), true), ((.app 10 [(.var 1), (.num 0), (.num 1000000)]), true), ((.app 10 [(.var 0), (.num 1), (.num 1000000)]), true)], some [((.app 14 [(.var 0), (.var 1), (.var 2), (.var 3), (.var 4), (.var 5), (.var 6), (.var 7), (.var 8)]), (.num 1))]),
  ([((.app 9 [(.var 6), (.var 7), (.num (-2)), (.num 2)]), true), ((.app 9 [(.var 4), (.var 5), (.num (-2)), (.num 2)]), true), ((.op2 .lt (.var 3) (.var 2)), false), ((.app 10 [(.var 3), (.num 0), (.num 1000000)]), true), ((.app 10 [(.var 2), (.num 0), (.num 1000000)]), true), ((.op2 .lt (.num 0) (.var 8)), false), ((.app 10 [(.var 8), (.num 0), (.num 1000000)]), true), ((.app 10 [(.var 1), (.num 0), (.num 1000000)]), true), ((.app 10 [(.var 0), (.num 1), (.num 1000000)]), true)], some [((.app 14 [(.var 0), (.var 1), (.var 2), (.var 3), (.var 4), (.var 5), (.var 6), (.var 7), (.var 8)]), (.num 0))]),
  ([((.app 9 [(.var 6), (.var 7), (.num (-2)), (.num 2)]), false), ((.app 9 [(.var 4), (.var 5), (.num (-2)), (.num 2)]), true), ((.op2 .lt (.var 3) (.var 2)), false), ((.app 10 [(.var 3), (.num 0), (.num 1000000)]), true), ((.app 10 [(.var 2), (.num 0), (.num 1000000)]), true), ((.op2 .lt (.num 0) (.var 8)), false), ((.app 10 [(.var 8), (.num 0), (.num 1000000)]), true), ((.app 10 [(.var 1), (.num 0), (.num 1000000)]), true), ((.app 10 [(.var 0), (.num 1), (.num 1000000)]), true)], some [((.app 14 [(.var 0), (.var 1), (.var 2), (.var 3), (.var 4), (.var 5), (.var 6), (.var 7), (.var 8)]), (.num 1))]),
  ([((.app 9 [(.var 4), (.var 5), (.num (-2)), (.num 2)]), false), ((.op2 .lt (.var 3) (.var 2)), false), ((.app 10 [(.var 3), (.num 0), (.num 1000000)]), true), ((.app 10 [(.var 2), (.num 0), (.num 1000000)]), true), ((.op2 .lt (.num 0) (.var 8)), false), ((.app 10 [(.var 8), (.num 0), (.num 1000000)]), true), ((.app 10 [(.var 1), (.num 0), (.num 1000000)]), true), ((.app 10 [(.var 0), (.num 1), (.num 1000000)]), true)], some [((.app 14 [(.var 0), (.var 1), (.var 2), (.var 3), (.var 4), (.var 5), (.var 6), (.var 7), (.var 8)]), (.num 1))]),
  ([((.app 10 [(.var 3), (.num 0), (.num 1000000)]), false), ((.app 10 [(.var 2), (.num 0), (.num 1000000)]), true), ((.op2 .lt (.num 0) (.var 8)), false), ((.app 10 [(.var 8), (.num 0), (.num 1000000)]), true), ((.app 10 [(.var 1), (.num 0), (.num 1000000)]), true), ((.app 10 [(.var 0), (.num 1), (.num 1000000)]), true)], some [((.app 14 [(.var 0), (.var 1), (.var 2), (.var 3), (.var 4), (.var 5), (.var 6), (.var 7), (.var 8)]), (.num 1))]),
  ([((.app 10 [(.var 2), (.num 0), (.num 1000000)]), false), ((.op2 .lt (.num 0) (.var 8)), false), ((.app 10 [(.var 8), (.num 0), (.num 1000000)]), true), ((.app 10 [(.var 1), (.num 0), (.num 1000000)]), true), ((.app 10 [(.var 0), (.num 1), (.num 1000000)]), true)], some [((.app 14 [(.var 0), (.var 1), (.var 2), (.var 3), (.var 4), (.var 5), (.var 6), (.var 7), (.var 8)]), (.num 1))]),
  ([((.app 10 [(.var 8), (.num 0), (.num 1000000)]), false), ((.app 10 [(.var 1), (.num 0), (.num 1000000)]), true), ((.app 10 [(.var 0), (.num 1), (.num 1000000)]), true)], some [((.app 14 [(.var 0), (.var 1), (.var 2), (.var 3), (.var 4), (.var 5), (.var 6), (.var 7), (.var 8)]), (.num 1))]),
  ([((.app 10 [(.var 1), (.num 0), (.num 1000000)]), false), ((.app 10 [(.var 0), (.num 1), (.num 1000000)]), true)], some [((.app 14 [(.var 0), (.var 1), (.var 2), (.var 3), (.var 4), (.var 5), (.var 6), (.var 7), (.var 8)]), (.num 1))]),
  ([((.app 10 [(.var 0), (.num 1), (.num 1000000)]), false)], some [((.app 14 [(.var 0), (.var 1), (.var 2), (.var 3), (.var 4), (.var 5), (.var 6), (.var 7), (.var 8)]), (.num 1))])]
theorem rCheckWind_w (r : Rho) : rCheckWind_con.fn.ways rCheckWind_call E0 r rCheckWind_con.pre rCheckWind_t = some rCheckWind_l := by kernel_rfl
theorem rCheckWind_cok : rCheckWind_con.Ok Tryz.prog sy := by
  intro r σ w us hsy hρ hpre hrel hins
  obtain ⟨u0, us, rfl, g0, hi⟩ := ins_cons hins
  obtain ⟨p, k, rfl, hp⟩ := wind_agg g0
  rw [hρ] at hp
  have a0 := hp.h0
  have a1 := hp.h1
  have a2 := hp.h2
  have a3 := hp.h3
  have a4 := hp.h4
  have a5 := hp.h5
  have a6 := hp.h6
  have a7 := hp.h7
  have a8 := hp.h8
  simp only [Nat.zero_add, Nat.reduceAdd] at a0 a1 a2 a3 a4 a5 a6 a7 a8

  refine con_of (E := E0) E0_ok E0_glob (sy := sy) (fun F => LR1_ok F hsy) (fun F => noH_ok) (rCheckWind_w r) hρ hpre hrel hins ?_ ?_
  · simp only [rCheckWind_con, rCheckWind_t, AsksL, GTree.asks, FTree.asks, FactsIn, List.append_nil, List.nil_append, List.cons_append, Option.some.injEq, exists_eq', implies_true, and_self, X.bool, X.den, denL, d_wrap, d_kind, d_not, d_neg, d_slen, d_add, d_sub, d_mul, d_div, d_mod, d_lt, d_le, d_eq, d_eqb, d_eqs, d_lts, d_cat, d_sat, d_and, d_or, denSub, denIte, asB, winds_len, winds_cell, winds_lsub, a0, a1, a2, a3, a4, a5, a6, a7, a8, hsy, sym9, sym10, sym14]
  · simp only [rCheckWind_l, EndsOk, WaysOk, forall_cons, forall_nil, TgtOk, gpair, FactsIn, hold_cons, hold_nil, Option.some.injEq, Value.bool.injEq, Value.int.injEq, decide_eq_true_eq, decide_eq_false_iff_not, and_true, true_and, and_imp, X.bool, X.den, denL, d_wrap, d_kind, d_not, d_neg, d_slen, d_add, d_sub, d_mul, d_div, d_mod, d_lt, d_le, d_eq, d_eqb, d_eqs, d_lts, d_cat, d_sat, d_and, d_or, denSub, denIte, asB, winds_len, winds_cell, winds_lsub, beq_iff_eq, beq_eq_false_iff_ne, ne_eq, a0, a1, a2, a3, a4, a5, a6, a7, a8, hsy, sym9, sym10, sym14]
    clear hsy hρ hpre hrel hi hins g0 hp a0 a1 a2 a3 a4 a5 a6 a7 a8
    have hb := windB_iff p
    cases h : windB p <;> rw [h] at hb <;> simp only [true_iff, Bool.false_eq_true, false_iff] at hb <;> simp only [Bool.false_eq_true, if_false, if_true]
    all_goals ((repeat' apply And.intro) <;> intros <;> first
      | trivial
      | (exfalso; (try simp only [withinB, spanB, Bool.and_eq_true, Bool.and_eq_false_iff, Bool.or_eq_true, decide_eq_true_eq, decide_eq_false_iff_not, Bool.not_eq_true', Bool.not_eq_false'] at *); omega)
      | (cases hk : withinB p.known 0 1000000 <;> simp only [hk, Bool.not_true, Bool.not_false] <;> first | rfl | (exfalso; (try simp only [withinB, spanB, Bool.and_eq_true, Bool.and_eq_false_iff, Bool.or_eq_true, decide_eq_true_eq, decide_eq_false_iff_not, Bool.not_eq_true', Bool.not_eq_false'] at *); omega)))
noncomputable def cCheckWind_con : Con := { f := 10, args := [.agg (windLeaves 0)], N := 0, M := 0, pre := [], out := .sint .i64 (.app 14 [.var 0, .var 1, .var 2, .var 3, .var 4, .var 5, .var 6, .var 7, .var 8]), news := [] }
noncomputable def cCheckWind_call : Env → CallL := fun E => acallAll E (evH E (LC1 E) ((fun _ => noLoops) E) 6)
noncomputable def cCheckWind_t : GTree := (.fork (.op2 .eq (.var 8) (.num 0)) (.fork (.op2 .lt (.var 2) (.num 0)) (.leaf [[]]) (.fork (.op2 .lt (.var 3) (.var 2)) (.leaf [[]]) (.fork (.op2 .lt (.num 1000000) (.var 3)) (.leaf [[]]) (.fork (.app 9 [(.var 4), (.var 5), (.num (-2)), (.num 2)]) (.fork (.app 9 [(.var 6), (.var 7), (.num (-2)), (.num 2)]) (.fork (.app 10 [(.var 0), (.num 1), (.num 1000000)]) (.leaf [[]]) (.leaf [[]])) (.leaf [[]])) (.leaf [[]]))))) (.fork (.app 10 [(.var 8), (.num 1), (.num 1000000)]) (.fork (.op2 .eq (.var 2) (.num 0)) (.fork (.op2 .eq (.var 3) (.num 0)) (.fork (.op2 .eq (.var 4) (.num 0)) (.fork (.op2 .eq (.var 5) (.num 0)) (.fork (.op2 .eq (.var 6) (.num 0)) (.fork (.op2 .eq (.var 7) (.num 0)) (.fork (.app 10 [(.var 0), (.num 1), (.num 1000000)]) (.leaf [[]]) (.leaf [[]])) (.leaf [[]])) (.leaf [[]])) (.leaf [[]])) (.leaf [[]])) (.leaf [[]])) (.leaf [[]])) (.leaf [[]])))
noncomputable def cCheckWind_l : List (List (X × Bool) × Option Pairs) := [([((.op2 .lt (.var 2) (.num 0)), true), ((.op2 .eq (.var 8) (.num 0)), true)], some [((.app 14 [(.var 0), (.var 1), (.var 2), (.var 3), (.var 4), (.var 5), (.var 6), (.var 7), (.var 8)]), (.ite (.boo true) (.num 1) (.num 0)))]),
  ([((.op2 .lt (.var 3) (.var 2)), true), ((.op2 .lt (.var 2) (.num 0)), false), ((.op2 .eq (.var 8) (.num 0)), true)], some [((.app 14 [(.var 0), (.var 1), (.var 2), (.var 3), (.var 4), (.var 5), (.var 6), (.var 7), (.var 8)]), (.ite (.boo true) (.num 1) (.num 0)))]),
  ([((.op2 .lt (.num 1000000) (.var 3)), true), ((.op2 .lt (.var 3) (.var 2)), false), ((.op2 .lt (.var 2) (.num 0)), false), ((.op2 .eq (.var 8) (.num 0)), true)], some [((.app 14 [(.var 0), (.var 1), (.var 2), (.var 3), (.var 4), (.var 5), (.var 6), (.var 7), (.var 8)]), (.ite (.boo true) (.num 1) (.num 0)))]),
  ([((.app 10 [(.var 0), (.num 1), (.num 1000000)]), true), ((.app 9 [(.var 6), (.var 7), (.num (-2)), (.num 2)]), true), ((.app 9 [(.var 4), (.var 5), (.num (-2)), (.num 2)]), true), ((.op2 .lt (.num 1000000) (.var 3)), false), ((.op2 .lt (.var 3) (.var 2)), false), ((.op2 .lt (.var 2) (.num 0)), false), ((.op2 .eq (.var 8) (.num 0)), true)], some [((.app 14 [(.var 0), (.var 1), (.var 2), (.var 3), (.var 4), (.var 5), (.var 6), (.var 7), (.var 8)]), (.ite (.op1 .not (.app 10 [(.var 1), (.num 0), (.num 1000000)])) (.num 1) (.num 0)))]),
  ([((.app 10 [(.var 0), (.num 1), (.num 1000000)]), false), ((.app 9 [(.var 6), (.var 7), (.num (-2)), (.num 2)]), true), ((.app 9 [(.var 4), (.var 5), (.num (-2)), (.num 2)]), true), ((.op2 .lt (.num 1000000) (.var 3)), false), ((.op2 .lt (.var 3) (.var 2)), false), ((.op2 .lt (.var 2) (.num 0)), false), ((.op2 .eq (.var 8) (.num 0)), true)], some [((.app 14 [(.var 0), (.var 1), (.var 2), (.var 3), (.var 4), (.var 5), (.var 6), (.var 7), (.var 8)]), (.ite (.boo true) (.num 1) (.num 0)))]),
  ([((.app 9 [(.var 6), (.var 7), (.num (-2)), (.num 2)]), false), ((.app 9 [(.var 4), (.var 5), (.num (-2)), (.num 2)]), true), ((.op2 .lt (.num 1000000) (.var 3)), false), ((.op2 .lt (.var 3) (.var 2)), false), ((.op2 .lt (.var 2) (.num 0)), false), ((.op2 .eq (.var 8) (.num 0)), true)], some [((.app 14 [(.var 0), (.var 1), (.var 2), (.var 3), (.var 4), (.var 5), (.var 6), (.var 7), (.var 8)]), (.ite (.boo true) (.num 1) (.num 0)))]),
  ([((.app 9 [(.var 4), (.var 5), (.num (-2)), (.num 2)]), false), ((.op2 .lt (.num 1000000) (.var 3)), false), ((.op2 .lt (.var 3) (.var 2)), false), ((.op2 .lt (.var 2) (.num 0)), false), ((.op2 .eq (.var 8) (.num 0)), true)], some [((.app 14 [(.var 0), (.var 1), (.var 2), (.var 3), (.var 4), (.var 5), (.var 6), (.var 7), (.var 8)]), (.ite (.boo true) (.num 1) (.num 0)))]),
  ([((.app 10 [(.var 0), (.num 1), (.num 1000000)]), true), ((.op2 .eq (.var 7) (.num 0)), true), ((.op2 .eq (.var 6) (.num 0)), true), ((.op2 .eq (.var 5) (.num 0)), true), ((.op2 .eq (.var 4) (.num 0)), true), ((.op2 .eq (.var 3) (.num 0)), true), ((.op2 .eq (.var 2) (.num 0)), true), ((.app 10 [(.var 8), (.num 1), (.num 1000000)]), true), ((.op2 .eq (.var 8) (.num 0)), false)], some [((.app 14 [(.var 0), (.var 1), (.var 2), (.var 3), (.var 4), (.var 5), (.var 6), (.var 7), (.var 8)]), (.ite (.op1 .not (.app 10 [(.var 1), (.num 0), (.num 1000000)])) (.num 1) (.num 0)))]),
  ([((.app 10 [(.var 0), (.num 1), (.num 1000000)]), false), ((.op2 .eq (.var 7) (.num 0)), true), ((.op2 .eq (.var 6) (.num 0)), true), ((.op2 .eq (.var 5) (.num 0)), true), ((.op2 .eq (.var 4) (.num 0)), true), ((.op2 .eq (.var 3) (.num 0)), true), ((.op2 .eq (.var 2) (.num 0)), true), ((.app 10 [(.var 8), (.num 1), (.num 1000000)]), true), ((.op2 .eq (.var 8) (.num 0)), false)], some [((.app 14 [(.var 0), (.var 1), (.var 2), (.var 3), (.var 4), (.var 5), (.var 6), (.var 7), (.var 8)]), (.ite (.boo true) (.num 1) (.num 0)))]),
  ([((.op2 .eq (.var 7) (.num 0)), false), ((.op2 .eq (.var 6) (.num 0)), true), ((.op2 .eq (.var 5) (.num 0)), true), ((.op2 .eq (.var 4) (.num 0)), true), ((.op2 .eq (.var 3) (.num 0)), true), ((.op2 .eq (.var 2) (.num 0)), true), ((.app 10 [(.var 8), (.num 1), (.num 1000000)]), true), ((.op2 .eq (.var 8) (.num 0)), false)], some [((.app 14 [(.var 0), (.var 1), (.var 2), (.var 3), (.var 4), (.var 5), (.var 6), (.var 7), (.var 8)]), (.ite (.boo true) (.num 1) (.num 0)))]),
  ([((.op2 .eq (.var 6) (.num 0)), false), ((.op2 .eq (.var 5) (.num 0)), true), ((.op2 .eq (.var 4) (.num 0)), true), ((.op2 .eq (.var 3) (.num 0)), true), ((.op2 .eq (.var 2) (.num 0)), true), ((.app 10 [(.var 8), (.num 1), (.num 1000000)]), true), ((.op2 .eq (.var 8) (.num 0)), false)], some [((.app 14 [(.var 0), (.var 1), (.var 2), (.var 3), (.var 4), (.var 5), (.var 6), (.var 7), (.var 8)]), (.ite (.boo true) (.num 1) (.num 0)))]),
  ([((.op2 .eq (.var 5) (.num 0)), false), ((.op2 .eq (.var 4) (.num 0)), true), ((.op2 .eq (.var 3) (.num 0)), true), ((.op2 .eq (.var 2) (.num 0)), true), ((.app 10 [(.var 8), (.num 1), (.num 1000000)]), true), ((.op2 .eq (.var 8) (.num 0)), false)], some [((.app 14 [(.var 0), (.var 1), (.var 2), (.var 3), (.var 4), (.var 5), (.var 6), (.var 7), (.var 8)]), (.ite (.boo true) (.num 1) (.num 0)))]),
  ([((.op2 .eq (.var 4) (.num 0)), false), ((.op2 .eq (.var 3) (.num 0)), true), ((.op2 .eq (.var 2) (.num 0)), true), ((.app 10 [(.var 8), (.num 1), (.num 1000000)]), true), ((.op2 .eq (.var 8) (.num 0)), false)], some [((.app 14 [(.var 0), (.var 1), (.var 2), (.var 3), (.var 4), (.var 5), (.var 6), (.var 7), (.var 8)]), (.ite (.boo true) (.num 1) (.num 0)))]),
  ([((.op2 .eq (.var 3) (.num 0)), false), ((.op2 .eq (.var 2) (.num 0)), true), ((.app 10 [(.var 8), (.num 1), (.num 1000000)]), true), ((.op2 .eq (.var 8) (.num 0)), false)], some [((.app 14 [(.var 0), (.var 1), (.var 2), (.var 3), (.var 4), (.var 5), (.var 6), (.var 7), (.var 8)]), (.ite (.boo true) (.num 1) (.num 0)))]),
  ([((.op2 .eq (.var 2) (.num 0)), false), ((.app 10 [(.var 8), (.num 1), (.num 1000000)]), true), ((.op2 .eq (.var 8) (.num 0)), false)], some [((.app 14 [(.var 0), (.var 1), (.var 2), (.var 3), (.var 4), (.var 5), (.var 6), (.var 7), (.var 8)]), (.ite (.boo true) (.num 1) (.num 0)))]),
  ([((.app 10 [(.var 8), (.num 1), (.num 1000000)]), false), ((.op2 .eq (.var 8) (.num 0)), false)], some [((.app 14 [(.var 0), (.var 1), (.var 2), (.var 3), (.var 4), (.var 5), (.var 6), (.var 7), (.var 8)]), (.ite (.boo true) (.num 1) (.num 0)))])]
theorem cCheckWind_w (r : Rho) : cCheckWind_con.fn.ways cCheckWind_call E0 r cCheckWind_con.pre cCheckWind_t = some cCheckWind_l := by kernel_rfl
theorem cCheckWind_cok : cCheckWind_con.Ok Tryz.prog sy := by
  intro r σ w us hsy hρ hpre hrel hins
  obtain ⟨u0, us, rfl, g0, hi⟩ := ins_cons hins
  obtain ⟨p, k, rfl, hp⟩ := wind_agg g0
  rw [hρ] at hp
  have a0 := hp.h0
  have a1 := hp.h1
  have a2 := hp.h2
  have a3 := hp.h3
  have a4 := hp.h4
  have a5 := hp.h5
  have a6 := hp.h6
  have a7 := hp.h7
  have a8 := hp.h8
  simp only [Nat.zero_add, Nat.reduceAdd] at a0 a1 a2 a3 a4 a5 a6 a7 a8

  refine con_of (E := E0) E0_ok E0_glob (sy := sy) (fun F => LC1_ok F hsy) (fun F => noH_ok) (cCheckWind_w r) hρ hpre hrel hins ?_ ?_
  · simp only [cCheckWind_con, cCheckWind_t, AsksL, GTree.asks, FTree.asks, FactsIn, List.append_nil, List.nil_append, List.cons_append, Option.some.injEq, exists_eq', implies_true, and_self, X.bool, X.den, denL, d_wrap, d_kind, d_not, d_neg, d_slen, d_add, d_sub, d_mul, d_div, d_mod, d_lt, d_le, d_eq, d_eqb, d_eqs, d_lts, d_cat, d_sat, d_and, d_or, denSub, denIte, asB, winds_len, winds_cell, winds_lsub, a0, a1, a2, a3, a4, a5, a6, a7, a8, hsy, sym9, sym10, sym14]
  · simp only [cCheckWind_l, EndsOk, WaysOk, forall_cons, forall_nil, TgtOk, gpair, FactsIn, hold_cons, hold_nil, Option.some.injEq, Value.bool.injEq, Value.int.injEq, decide_eq_true_eq, decide_eq_false_iff_not, and_true, true_and, and_imp, X.bool, X.den, denL, d_wrap, d_kind, d_not, d_neg, d_slen, d_add, d_sub, d_mul, d_div, d_mod, d_lt, d_le, d_eq, d_eqb, d_eqs, d_lts, d_cat, d_sat, d_and, d_or, denSub, denIte, asB, winds_len, winds_cell, winds_lsub, beq_iff_eq, beq_eq_false_iff_ne, ne_eq, a0, a1, a2, a3, a4, a5, a6, a7, a8, hsy, sym9, sym10, sym14]
    clear hsy hρ hpre hrel hi hins g0 hp a0 a1 a2 a3 a4 a5 a6 a7 a8
    have hb := windB_iff p
    cases h : windB p <;> rw [h] at hb <;> simp only [true_iff, Bool.false_eq_true, false_iff] at hb <;> simp only [Bool.false_eq_true, if_false, if_true]
    all_goals ((repeat' apply And.intro) <;> intros <;> first
      | trivial
      | (exfalso; (try simp only [withinB, spanB, Bool.and_eq_true, Bool.and_eq_false_iff, Bool.or_eq_true, decide_eq_true_eq, decide_eq_false_iff_not, Bool.not_eq_true', Bool.not_eq_false'] at *); omega)
      | (cases hk : withinB p.known 0 1000000 <;> simp only [hk, Bool.not_true, Bool.not_false] <;> first | rfl | (exfalso; (try simp only [withinB, spanB, Bool.and_eq_true, Bool.and_eq_false_iff, Bool.or_eq_true, decide_eq_true_eq, decide_eq_false_iff_not, Bool.not_eq_true', Bool.not_eq_false'] at *); omega)))
end Go.Proofs.YtpjkfjnjbekcaaaGreatDoor.Zs

namespace Go.Proofs.YtpjkfjnjbekcaaaGreatDoor.Zs
open Go
set_option linter.unusedSimpArgs false
set_option linter.unusedVariables false

def Same_vs : List X := [.num 0]
noncomputable def Same_D : LoopD := { N := 100, M := 101, size := sizeOfF 9, reads := [(0, .rows 9 windSch (.var 0) (.var 1) false 26), (1, .rows 9 windSch (.var 3) (.var 4) false 26)], pats := [{ slots := [(0, .slx 0 9 (.var 0) (.num 0) (.op1 .len (.var 1)) (.var 2)), (1, .slx 1 9 (.var 3) (.num 0) (.op1 .len (.var 4)) (.var 5)), (5, .sint .i64 (.var 100))], heap := [] }], exits := [(.exit 0, { slots := [], heap := [], guard := .app 7 [.var 1, .var 4] }), (.ret, { slots := [(4, .sbool (.boo false))], heap := [], guard := .op1 .not (.app 7 [.var 1, .var 4]) })], own := [], pre := [(.op2 .eq (.op1 .len (.var 1)) (.op1 .len (.var 4)), true)] }
noncomputable def Same_run : Env → AF → ASt → Option (List Out) := bodyRun noL 4 (fun _ => noLoop) (loopAt Tryz.prog 9 0)
def Same0_F : List (X × Bool) := [(.op2 .lt (.var 100) (.num 0), false)]
noncomputable def Same0_t : FTree := (.fork (.op2 .lt (.var 100) (.op1 .len (.var 1))) (.fork (.op2 .lt (.var 100) (.op1 .len (.var 4))) (.fork (.op2 .eq (.cell 0 (.var 1) (.var 100)) (.cell 0 (.var 4) (.var 100))) (.fork (.op2 .eq (.cell 1 (.var 1) (.var 100)) (.cell 1 (.var 4) (.var 100))) (.fork (.op2 .eq (.cell 2 (.var 1) (.var 100)) (.cell 2 (.var 4) (.var 100))) (.fork (.op2 .eq (.cell 3 (.var 1) (.var 100)) (.cell 3 (.var 4) (.var 100))) (.fork (.op2 .eq (.cell 4 (.var 1) (.var 100)) (.cell 4 (.var 4) (.var 100))) (.fork (.op2 .eq (.cell 5 (.var 1) (.var 100)) (.cell 5 (.var 4) (.var 100))) (.fork (.op2 .eq (.cell 6 (.var 1) (.var 100)) (.cell 6 (.var 4) (.var 100))) (.fork (.op2 .eq (.cell 7 (.var 1) (.var 100)) (.cell 7 (.var 4) (.var 100))) (.fork (.op2 .eq (.cell 8 (.var 1) (.var 100)) (.cell 8 (.var 4) (.var 100))) (.leaf [(.again 0 [])]) (.leaf [(.leave 1 [])])) (.leaf [(.leave 1 [])])) (.leaf [(.leave 1 [])])) (.leaf [(.leave 1 [])])) (.leaf [(.leave 1 [])])) (.leaf [(.leave 1 [])])) (.leaf [(.leave 1 [])])) (.leaf [(.leave 1 [])])) (.leaf [(.leave 1 [])])) .bad) (.leaf [(.leave 0 [])]))
noncomputable def Same0_l : List (List (X × Bool) × Option (List (Tgt × Pairs))) := [([((.op2 .eq (.cell 8 (.var 1) (.var 100)) (.cell 8 (.var 4) (.var 100))), true), ((.op2 .eq (.cell 7 (.var 1) (.var 100)) (.cell 7 (.var 4) (.var 100))), true), ((.op2 .eq (.cell 6 (.var 1) (.var 100)) (.cell 6 (.var 4) (.var 100))), true), ((.op2 .eq (.cell 5 (.var 1) (.var 100)) (.cell 5 (.var 4) (.var 100))), true), ((.op2 .eq (.cell 4 (.var 1) (.var 100)) (.cell 4 (.var 4) (.var 100))), true), ((.op2 .eq (.cell 3 (.var 1) (.var 100)) (.cell 3 (.var 4) (.var 100))), true), ((.op2 .eq (.cell 2 (.var 1) (.var 100)) (.cell 2 (.var 4) (.var 100))), true), ((.op2 .eq (.cell 1 (.var 1) (.var 100)) (.cell 1 (.var 4) (.var 100))), true), ((.op2 .eq (.cell 0 (.var 1) (.var 100)) (.cell 0 (.var 4) (.var 100))), true), ((.op2 .lt (.var 100) (.op1 .len (.var 4))), true), ((.op2 .lt (.var 100) (.op1 .len (.var 1))), true), ((.op2 .lt (.var 100) (.num 0)), false)], some [((.again 0 []), [((.var 100), (.op1 (.wrap .i64) (.op2 .add (.var 100) (.num 1))))])]),
  ([((.op2 .eq (.cell 8 (.var 1) (.var 100)) (.cell 8 (.var 4) (.var 100))), false), ((.op2 .eq (.cell 7 (.var 1) (.var 100)) (.cell 7 (.var 4) (.var 100))), true), ((.op2 .eq (.cell 6 (.var 1) (.var 100)) (.cell 6 (.var 4) (.var 100))), true), ((.op2 .eq (.cell 5 (.var 1) (.var 100)) (.cell 5 (.var 4) (.var 100))), true), ((.op2 .eq (.cell 4 (.var 1) (.var 100)) (.cell 4 (.var 4) (.var 100))), true), ((.op2 .eq (.cell 3 (.var 1) (.var 100)) (.cell 3 (.var 4) (.var 100))), true), ((.op2 .eq (.cell 2 (.var 1) (.var 100)) (.cell 2 (.var 4) (.var 100))), true), ((.op2 .eq (.cell 1 (.var 1) (.var 100)) (.cell 1 (.var 4) (.var 100))), true), ((.op2 .eq (.cell 0 (.var 1) (.var 100)) (.cell 0 (.var 4) (.var 100))), true), ((.op2 .lt (.var 100) (.op1 .len (.var 4))), true), ((.op2 .lt (.var 100) (.op1 .len (.var 1))), true), ((.op2 .lt (.var 100) (.num 0)), false)], some [((.leave 1 []), [((.op1 .not (.app 7 [(.var 1), (.var 4)])), (.boo true))])]),
  ([((.op2 .eq (.cell 7 (.var 1) (.var 100)) (.cell 7 (.var 4) (.var 100))), false), ((.op2 .eq (.cell 6 (.var 1) (.var 100)) (.cell 6 (.var 4) (.var 100))), true), ((.op2 .eq (.cell 5 (.var 1) (.var 100)) (.cell 5 (.var 4) (.var 100))), true), ((.op2 .eq (.cell 4 (.var 1) (.var 100)) (.cell 4 (.var 4) (.var 100))), true), ((.op2 .eq (.cell 3 (.var 1) (.var 100)) (.cell 3 (.var 4) (.var 100))), true), ((.op2 .eq (.cell 2 (.var 1) (.var 100)) (.cell 2 (.var 4) (.var 100))), true), ((.op2 .eq (.cell 1 (.var 1) (.var 100)) (.cell 1 (.var 4) (.var 100))), true), ((.op2 .eq (.cell 0 (.var 1) (.var 100)) (.cell 0 (.var 4) (.var 100))), true), ((.op2 .lt (.var 100) (.op1 .len (.var 4))), true), ((.op2 .lt (.var 100) (.op1 .len (.var 1))), true), ((.op2 .lt (.var 100) (.num 0)), false)], some [((.leave 1 []), [((.op1 .not (.app 7 [(.var 1), (.var 4)])), (.boo true))])]),
  ([((.op2 .eq (.cell 6 (.var 1) (.var 100)) (.cell 6 (.var 4) (.var 100))), false), ((.op2 .eq (.cell 5 (.var 1) (.var 100)) (.cell 5 (.var 4) (.var 100))), true), ((.op2 .eq (.cell 4 (.var 1) (.var 100)) (.cell 4 (.var 4) (.var 100))), true), ((.op2 .eq (.cell 3 (.var 1) (.var 100)) (.cell 3 (.var 4) (.var 100))), true), ((.op2 .eq (.cell 2 (.var 1) (.var 100)) (.cell 2 (.var 4) (.var 100))), true), ((.op2 .eq (.cell 1 (.var 1) (.var 100)) (.cell 1 (.var 4) (.var 100))), true), ((.op2 .eq (.cell 0 (.var 1) (.var 100)) (.cell 0 (.var 4) (.var 100))), true), ((.op2 .lt (.var 100) (.op1 .len (.var 4))), true), ((.op2 .lt (.var 100) (.op1 .len (.var 1))), true), ((.op2 .lt (.var 100) (.num 0)), false)], some [((.leave 1 []), [((.op1 .not (.app 7 [(.var 1), (.var 4)])), (.boo true))])]),
  ([((.op2 .eq (.cell 5 (.var 1) (.var 100)) (.cell 5 (.var 4) (.var 100))), false), ((.op2 .eq (.cell 4 (.var 1) (.var 100)) (.cell 4 (.var 4) (.var 100))), true), ((.op2 .eq (.cell 3 (.var 1) (.var 100)) (.cell 3 (.var 4) (.var 100))), true), ((.op2 .eq (.cell 2 (.var 1) (.var 100)) (.cell 2 (.var 4) (.var 100))), true), ((.op2 .eq (.cell 1 (.var 1) (.var 100)) (.cell 1 (.var 4) (.var 100))), true), ((.op2 .eq (.cell 0 (.var 1) (.var 100)) (.cell 0 (.var 4) (.var 100))), true), ((.op2 .lt (.var 100) (.op1 .len (.var 4))), true), ((.op2 .lt (.var 100) (.op1 .len (.var 1))), true), ((.op2 .lt (.var 100) (.num 0)), false)], some [((.leave 1 []), [((.op1 .not (.app 7 [(.var 1), (.var 4)])), (.boo true))])]),
  ([((.op2 .eq (.cell 4 (.var 1) (.var 100)) (.cell 4 (.var 4) (.var 100))), false), ((.op2 .eq (.cell 3 (.var 1) (.var 100)) (.cell 3 (.var 4) (.var 100))), true), ((.op2 .eq (.cell 2 (.var 1) (.var 100)) (.cell 2 (.var 4) (.var 100))), true), ((.op2 .eq (.cell 1 (.var 1) (.var 100)) (.cell 1 (.var 4) (.var 100))), true), ((.op2 .eq (.cell 0 (.var 1) (.var 100)) (.cell 0 (.var 4) (.var 100))), true), ((.op2 .lt (.var 100) (.op1 .len (.var 4))), true), ((.op2 .lt (.var 100) (.op1 .len (.var 1))), true), ((.op2 .lt (.var 100) (.num 0)), false)], some [((.leave 1 []), [((.op1 .not (.app 7 [(.var 1), (.var 4)])), (.boo true))])]),
  ([((.op2 .eq (.cell 3 (.var 1) (.var 100)) (.cell 3 (.var 4) (.var 100))), false), ((.op2 .eq (.cell 2 (.var 1) (.var 100)) (.cell 2 (.var 4) (.var 100))), true), ((.op2 .eq (.cell 1 (.var 1) (.var 100)) (.cell 1 (.var 4) (.var 100))), true), ((.op2 .eq (.cell 0 (.var 1) (.var 100)) (.cell 0 (.var 4) (.var 100))), true), ((.op2 .lt (.var 100) (.op1 .len (.var 4))), true), ((.op2 .lt (.var 100) (.op1 .len (.var 1))), true), ((.op2 .lt (.var 100) (.num 0)), false)], some [((.leave 1 []), [((.op1 .not (.app 7 [(.var 1), (.var 4)])), (.boo true))])]),
  ([((.op2 .eq (.cell 2 (.var 1) (.var 100)) (.cell 2 (.var 4) (.var 100))), false), ((.op2 .eq (.cell 1 (.var 1) (.var 100)) (.cell 1 (.var 4) (.var 100))), true), ((.op2 .eq (.cell 0 (.var 1) (.var 100)) (.cell 0 (.var 4) (.var 100))), true), ((.op2 .lt (.var 100) (.op1 .len (.var 4))), true), ((.op2 .lt (.var 100) (.op1 .len (.var 1))), true), ((.op2 .lt (.var 100) (.num 0)), false)], some [((.leave 1 []), [((.op1 .not (.app 7 [(.var 1), (.var 4)])), (.boo true))])]),
  ([((.op2 .eq (.cell 1 (.var 1) (.var 100)) (.cell 1 (.var 4) (.var 100))), false), ((.op2 .eq (.cell 0 (.var 1) (.var 100)) (.cell 0 (.var 4) (.var 100))), true), ((.op2 .lt (.var 100) (.op1 .len (.var 4))), true), ((.op2 .lt (.var 100) (.op1 .len (.var 1))), true), ((.op2 .lt (.var 100) (.num 0)), false)], some [((.leave 1 []), [((.op1 .not (.app 7 [(.var 1), (.var 4)])), (.boo true))])]),
  ([((.op2 .eq (.cell 0 (.var 1) (.var 100)) (.cell 0 (.var 4) (.var 100))), false), ((.op2 .lt (.var 100) (.op1 .len (.var 4))), true), ((.op2 .lt (.var 100) (.op1 .len (.var 1))), true), ((.op2 .lt (.var 100) (.num 0)), false)], some [((.leave 1 []), [((.op1 .not (.app 7 [(.var 1), (.var 4)])), (.boo true))])]),
  ([((.op2 .lt (.var 100) (.op1 .len (.var 4))), false), ((.op2 .lt (.var 100) (.op1 .len (.var 1))), true), ((.op2 .lt (.var 100) (.num 0)), false)], none),
  ([((.op2 .lt (.var 100) (.op1 .len (.var 1))), false), ((.op2 .lt (.var 100) (.num 0)), false)], some [((.leave 0 []), [((.app 7 [(.var 1), (.var 4)]), (.boo true))])])]
theorem Same0_w (r : Rho) : Same_D.ways Same_run E0 r 0 Same0_F Same0_t = some Same0_l := by kernel_rfl
theorem Same_ok : Same_D.ok = true := by kernel_rfl
def Same_Inv (a b : List Wind) (j : Nat) (vals : List Value) : Prop :=
  j = 0 ∧ ∃ i : Nat, i ≤ a.length ∧ vals = [.int .i64 i] ∧ a.take i = b.take i
def Same_mu (a : List Wind) (_ : Nat) (vals : List Value) : Nat := a.length - (vI (vals.getD 0 default)).toNat
theorem Same_step {ρ : Rho} {a b : List Wind} (h1 : ρ.val 1 = some (windsR a)) (h4 : ρ.val 4 = some (windsR b)) (hsy : ρ.sym = sy) (hlen : a.length = b.length) (hmax : (a.length : Int) ≤ 1000) (j : Nat) (vals : List Value) (hI : Same_Inv a b j vals) :
    StepOk Same_D Same_run E0 ρ (Same_Inv a b) (Same_mu a) j vals := by
  obtain ⟨rfl, i, hi, rfl, hall⟩ := hI
  have hN : Same_D.N = 100 := rfl
  have v1 : (ρ.ext Same_D.N [.int .i64 i]).val 1 = some (windsR a) := by rw [ext_low _ _ _ _ (by rw [hN]; omega)]; exact h1
  have v4 : (ρ.ext Same_D.N [.int .i64 i]).val 4 = some (windsR b) := by rw [ext_low _ _ _ _ (by rw [hN]; omega)]; exact h4
  have v100 : (ρ.ext Same_D.N [.int .i64 i]).val 100 = some (.int .i64 i) := by rw [ext_high _ _ _ _ (by rw [hN]; omega)]; rfl
  have vs : (ρ.ext Same_D.N [.int .i64 i]).sym = sy := hsy

  refine step_of_ways (Same0_w _) (F := Same0_F) ?_ (AsksL.ok ?_) ?_
  · simp only [Same0_F, FactsIn, X.bool, X.den, denL, d_wrap, d_kind, d_not, d_neg, d_slen, d_add, d_sub, d_mul, d_div, d_mod, d_lt, d_le, d_eq, d_eqb, d_eqs, d_lts, d_cat, d_sat, d_and, d_or, denSub, denIte, asB, winds_len, winds_cell, winds_lsub, v100, Option.some.injEq, Value.bool.injEq, decide_eq_false_iff_not, and_true]
    omega
  · cases hp : a[i]? with
    | none =>
      have hge : ¬ (i : Int) < a.length := by have := List.getElem?_eq_none_iff.1 hp; omega
      simp only [Same0_t, Same0_F, AsksL, GTree.asks, FTree.asks, FactsIn, List.append_nil, List.nil_append, List.cons_append, Option.some.injEq, exists_eq', implies_true, and_self, X.bool, X.den, denL, d_wrap, d_kind, d_not, d_neg, d_slen, d_add, d_sub, d_mul, d_div, d_mod, d_lt, d_le, d_eq, d_eqb, d_eqs, d_lts, d_cat, d_sat, d_and, d_or, denSub, denIte, asB, winds_len, winds_cell, winds_lsub, v1, v4, v100, vs, sym7, Int.toNat_natCast, hp, hge]
      simp
    | some p =>
      have hlt : i < a.length := (List.getElem?_eq_some_iff.1 hp).1
      obtain ⟨q, hq⟩ : ∃ q, b[i]? = some q := ⟨b[i], List.getElem?_eq_getElem (by omega)⟩
      simp only [Same0_t, Same0_F, AsksL, GTree.asks, FTree.asks, FactsIn, List.append_nil, List.nil_append, List.cons_append, Option.some.injEq, exists_eq', implies_true, and_self, X.bool, X.den, denL, d_wrap, d_kind, d_not, d_neg, d_slen, d_add, d_sub, d_mul, d_div, d_mod, d_lt, d_le, d_eq, d_eqb, d_eqs, d_lts, d_cat, d_sat, d_and, d_or, denSub, denIte, asB, winds_len, winds_cell, winds_lsub, v1, v4, v100, vs, sym7, Int.toNat_natCast, hp, hq, Option.bind_some, wind0, wind1, wind2, wind3, wind4, wind5, wind6, wind7, wind8]
  · cases hp : a[i]? with
    | none =>
      have hge := List.getElem?_eq_none_iff.1 hp
      have hge' : ¬ (i : Int) < a.length := by omega
      simp only [Same0_l, EndsOk, WaysOk, forall_cons, forall_nil, TgtOk, gpair, FactsIn, hold_cons, hold_nil, Option.some.injEq, Value.bool.injEq, Value.int.injEq, decide_eq_true_eq, decide_eq_false_iff_not, and_true, true_and, and_imp, X.bool, X.den, denL, d_wrap, d_kind, d_not, d_neg, d_slen, d_add, d_sub, d_mul, d_div, d_mod, d_lt, d_le, d_eq, d_eqb, d_eqs, d_lts, d_cat, d_sat, d_and, d_or, denSub, denIte, asB, winds_len, winds_cell, winds_lsub, beq_iff_eq, beq_eq_false_iff_ne, ne_eq, v1, v4, v100, vs, h1, h4, hsy, sym7, Int.toNat_natCast, hp, hge']
      have hi' : i = a.length := by omega
      subst hi'
      have : a = b := by
        rw [List.take_length, hlen, List.take_length] at hall
        exact hall
      simp [this]
    | some p =>
      have hlt : i < a.length := (List.getElem?_eq_some_iff.1 hp).1
      obtain ⟨q, hq⟩ : ∃ q, b[i]? = some q := ⟨b[i], List.getElem?_eq_getElem (by omega)⟩
      have hlt1 : (i : Int) < a.length := by omega
      have hlt2 : (i : Int) < b.length := by omega
      simp only [Same0_l, EndsOk, WaysOk, forall_cons, forall_nil, TgtOk, gpair, FactsIn, hold_cons, hold_nil, Option.some.injEq, Value.bool.injEq, Value.int.injEq, decide_eq_true_eq, decide_eq_false_iff_not, and_true, true_and, and_imp, X.bool, X.den, denL, d_wrap, d_kind, d_not, d_neg, d_slen, d_add, d_sub, d_mul, d_div, d_mod, d_lt, d_le, d_eq, d_eqb, d_eqs, d_lts, d_cat, d_sat, d_and, d_or, denSub, denIte, asB, winds_len, winds_cell, winds_lsub, beq_iff_eq, beq_eq_false_iff_ne, ne_eq, v1, v4, v100, vs, h1, h4, hsy, sym7, Int.toNat_natCast, hp, hq, Option.bind_some, wind0, wind1, wind2, wind3, wind4, wind5, wind6, wind7, wind8, hlt1, hlt2, not_true_eq_false, Bool.not_eq_true']
      have far : ∀ f : Wind → Int, ¬ f p = f q → ¬ a = b := fun f h e => by
        subst e
        rw [hp] at hq
        exact h (by rw [Option.some.inj hq])
      have go : p = q → ∃ vals', ((ρ.ext Same_D.N vals').val 100 = some (.int .i64 (IntKind.i64.wrap ((i : Int) + 1)))) ∧ Same_Inv a b 0 vals' ∧ Same_mu a 0 vals' < Same_mu a 0 [.int .i64 i] := by
        intro e
        refine ⟨[.int .i64 ((i + 1 : Nat) : Int)], ?_, ⟨rfl, i + 1, by omega, rfl, ?_⟩, ?_⟩
        · rw [ext_high _ _ _ _ (by rw [hN]; omega), IntWalk.i64_in _ (by omega)]; rfl
        · rw [List.take_add_one, List.take_add_one, hp, hq, hall, e]
        · simp [Same_mu, vI]; omega
      (repeat' apply And.intro) <;> intros <;> first
        | (exfalso; omega)
        | (exact go (wind_eq (by assumption) (by assumption) (by assumption) (by assumption) (by assumption) (by assumption) (by assumption) (by assumption) (by assumption)))
        | (first | exact far (·.id) (by assumption) | exact far (·.known) (by assumption) | exact far (·.from_) (by assumption) | exact far (·.until_) (by assumption) | exact far (·.al) (by assumption) | exact far (·.ah) (by assumption) | exact far (·.sl) (by assumption) | exact far (·.sh) (by assumption) | exact far (·.of_) (by assumption))
        | (simp; done)

noncomputable def Same_con : Con := { f := 9, args := [windsArg 0 0, windsArg 1 3], N := 2, M := 2, pre := [(.app 20 [.var 1], true)], out := .sbool (.app 7 [.var 1, .var 4]), news := [] }
noncomputable def Same_call : Env → CallL := fun E => acallAll E (evH E (noL E) ((fun E => oneH 9 (hooks [(4, Same_D.hook E.facts Same_vs)])) E) 4)
noncomputable def Same_t : GTree := (.fork (.op2 .eq (.op1 .len (.var 1)) (.op1 .len (.var 4))) (.fork (.app 7 [(.var 1), (.var 4)]) (.leaf [[]]) (.leaf [[]])) (.leaf [[]]))
noncomputable def Same_l : List (List (X × Bool) × Option Pairs) := [([((.app 7 [(.var 1), (.var 4)]), true), ((.op2 .eq (.op1 .len (.var 1)) (.op1 .len (.var 4))), true), ((.app 20 [(.var 1)]), true)], some [((.app 7 [(.var 1), (.var 4)]), (.boo true))]),
  ([((.app 7 [(.var 1), (.var 4)]), false), ((.op2 .eq (.op1 .len (.var 1)) (.op1 .len (.var 4))), true), ((.app 20 [(.var 1)]), true)], some [((.app 7 [(.var 1), (.var 4)]), (.boo false))]),
  ([((.op2 .eq (.op1 .len (.var 1)) (.op1 .len (.var 4))), false), ((.app 20 [(.var 1)]), true)], some [((.app 7 [(.var 1), (.var 4)]), (.boo false))])]
theorem Same_w (r : Rho) : Same_con.fn.ways Same_call E0 r Same_con.pre Same_t = some Same_l := by kernel_rfl
theorem Same_H {r : Rho} {a b : List Wind} (h1 : r.val 1 = some (windsR a)) (h4 : r.val 4 = some (windsR b)) (hmax : (a.length : Int) ≤ 1000) (hsy : r.sym = sy) (F : List (X × Bool)) :
    LoopsOk (E0.with F r) (oneH 9 (hooks [(4, Same_D.hook (E0.with F r).facts Same_vs)])) := by
  refine loops_all (n := 1) (fun f fn h => h) (by kernel_rfl) fun i hi => ?_
  obtain rfl : i = 0 := by omega
  rw [hooks_hit (show keyOf (loopAt (E0.with F r).P 9 0) = 4 by kernel_rfl)]
  refine hook_ok (E₀ := E0) (run := Same_run) (ρ := r) (Inv := Same_Inv a b) (μ := Same_mu a) E0_ok Same_ok (fun F r' h => ?_) (fun hpre => ⟨Same_step h1 h4 hsy (by have := hpre; simp [Same_D, FactsIn, X.bool, X.den, denL, d_wrap, d_kind, d_not, d_neg, d_slen, d_add, d_sub, d_mul, d_div, d_mod, d_lt, d_le, d_eq, d_eqb, d_eqs, d_lts, d_cat, d_sat, d_and, d_or, denSub, denIte, asB, winds_len, winds_cell, winds_lsub, h1, h4] at this; omega) hmax, [.int .i64 0], ?_, rfl, 0, Nat.zero_le _, rfl, rfl⟩)
  · exact bodyRun_ok E0_ok (noL_ok F (h.trans hsy)) fun _ _ => noLoop_ok
  · simp only [Same_vs, X.bool, X.den, denL, d_wrap, d_kind, d_not, d_neg, d_slen, d_add, d_sub, d_mul, d_div, d_mod, d_lt, d_le, d_eq, d_eqb, d_eqs, d_lts, d_cat, d_sat, d_and, d_or, denSub, denIte, asB, winds_len, winds_cell, winds_lsub]

theorem Same_cok : Same_con.Ok Tryz.prog sy := by
  intro r σ w us hsy hρ hpre hrel hins
  obtain ⟨a, h1⟩ := winds_at hrel (i := 0) rfl
  obtain ⟨b, h4⟩ := winds_at hrel (i := 1) rfl
  rw [hρ] at h1 h4
  have h1 : r.val 1 = some (windsR a) := h1
  have h4 : r.val 4 = some (windsR b) := h4
  have hmax : (a.length : Int) ≤ 1000 := by
    have := hpre.1
    simp only [X.bool, X.den, denL, d_wrap, d_kind, d_not, d_neg, d_slen, d_add, d_sub, d_mul, d_div, d_mod, d_lt, d_le, d_eq, d_eqb, d_eqs, d_lts, d_cat, d_sat, d_and, d_or, denSub, denIte, asB, winds_len, winds_cell, winds_lsub, h1, hsy, sym20, Option.some.injEq, Value.bool.injEq] at this
    exact short_len this
  refine con_of (E := E0) E0_ok E0_glob (sy := sy) (fun F => noL_ok F hsy) (fun F => Same_H h1 h4 hmax hsy F) (Same_w r) hρ hpre hrel hins ?_ ?_
  · simp only [Same_con, Same_t, AsksL, GTree.asks, FTree.asks, FactsIn, List.append_nil, List.nil_append, List.cons_append, Option.some.injEq, exists_eq', implies_true, and_self, X.bool, X.den, denL, d_wrap, d_kind, d_not, d_neg, d_slen, d_add, d_sub, d_mul, d_div, d_mod, d_lt, d_le, d_eq, d_eqb, d_eqs, d_lts, d_cat, d_sat, d_and, d_or, denSub, denIte, asB, winds_len, winds_cell, winds_lsub, h1, h4, hsy, sym7, sym20]
  · simp only [Same_l, EndsOk, WaysOk, forall_cons, forall_nil, TgtOk, gpair, FactsIn, hold_cons, hold_nil, Option.some.injEq, Value.bool.injEq, Value.int.injEq, decide_eq_true_eq, decide_eq_false_iff_not, and_true, true_and, and_imp, X.bool, X.den, denL, d_wrap, d_kind, d_not, d_neg, d_slen, d_add, d_sub, d_mul, d_div, d_mod, d_lt, d_le, d_eq, d_eqb, d_eqs, d_lts, d_cat, d_sat, d_and, d_or, denSub, denIte, asB, winds_len, winds_cell, winds_lsub, beq_iff_eq, beq_eq_false_iff_ne, ne_eq, h1, h4, hsy, sym7, sym20]
    have key : ¬ a.length = b.length → (a == b) = false := fun h => by
      cases hf : (a == b) with
      | false => rfl
      | true => exact absurd (by rw [show a = b by simpa using hf]) h
    (repeat' apply And.intro) <;> intros <;> first | assumption | (apply key; simp_all; omega) | (have h2 := key (by omega); simpa using h2) | (simp_all; done)
end Go.Proofs.YtpjkfjnjbekcaaaGreatDoor.Zs

namespace Go.Proofs.YtpjkfjnjbekcaaaGreatDoor.Zs
open Go
set_option linter.unusedSimpArgs false
set_option linter.unusedVariables false

theorem accepted_w (x : Wind) : (if windB x = true then (0 : Int) else 1) = 0 ↔ windB x = true := by cases windB x <;> simp
noncomputable def LR2 : Env → CallE := libs [cLib rCheckWind_con]
theorem LR2_ok (F : List (X × Bool)) {r : Rho} (h : r.sym = sy) : CallsOk (E0.with F r) (LR2 (E0.with F r)) := libs_ok fun c hc => by
  simp only [List.mem_cons, List.not_mem_nil, or_false] at hc
  subst hc; exact lib_ok (E := E0) rCheckWind_cok F h
def refused_vs : List X := [.num 0, .boo false, .boo false]

noncomputable def refused_D : LoopD := { N := 100, M := 103, size := sizeOfF 30, reads := [(0, .rows 9 windSch (.var 0) (.var 1) false 26), (1, .cells [.sint .i64 (.var 3), .sint .i64 (.var 4), .sint .i64 (.var 5), .sint .i64 (.var 6), .sint .i64 (.var 7), .sint .i64 (.var 8), .sint .i64 (.var 9), .sint .i64 (.var 10), .sint .i64 (.var 11)] 26)], pats := [{ slots := [(0, .slx 0 9 (.var 0) (.num 0) (.op1 .len (.var 1)) (.var 2)), (3, .ptr 1 0), (5, .sbool (.var 101)), (6, .sbool (.var 102)), (7, .sint .i64 (.var 100))], heap := [] }], exits := [(.exit 0, { slots := [(0, .slx 0 9 (.var 0) (.num 0) (.op1 .len (.var 1)) (.var 2)), (3, .ptr 1 0), (5, .sbool (.app 16 [.var 1, .var 11])), (6, .sbool (.app 17 [.var 1, .var 11]))], heap := [], guard := .op1 .not (.app 15 [.var 1, .var 3]) }), (.ret, { slots := [(4, .int .i64 6)], heap := [], guard := .app 15 [.var 1, .var 3] })], own := [], pre := [] }
noncomputable def refused_run : Env → AF → ASt → Option (List Out) := bodyRun noL 4 (fun _ => noLoop) (loopAt Tryz.prog 30 0)
def refused0_F : List (X × Bool) := [(.op2 .lt (.var 100) (.num 0), false)]
noncomputable def refused0_t : FTree := (.fork (.op2 .lt (.var 100) (.op1 .len (.var 1))) (.fork (.op2 .eq (.cell 0 (.var 1) (.var 100)) (.var 3)) (.leaf [(.leave 1 [])]) (.fork (.var 101) (.fork (.var 102) (.leaf [(.again 0 [])]) (.fork (.op2 .lt (.num 0) (.var 11)) (.leaf [(.again 0 [])]) (.leaf [(.again 0 [])]))) (.fork (.op2 .eq (.cell 0 (.var 1) (.var 100)) (.var 11)) (.fork (.var 102) (.leaf [(.again 0 [])]) (.fork (.op2 .lt (.num 0) (.var 11)) (.leaf [(.again 0 [])]) (.leaf [(.again 0 [])]))) (.fork (.var 102) (.leaf [(.again 0 [])]) (.fork (.op2 .lt (.num 0) (.var 11)) (.leaf [(.again 0 [])]) (.leaf [(.again 0 [])])))))) (.leaf [(.leave 0 [])]))
noncomputable def refused0_l : List (List (X × Bool) × Option (List (Tgt × Pairs))) := [([((.op2 .eq (.cell 0 (.var 1) (.var 100)) (.var 3)), true), ((.op2 .lt (.var 100) (.op1 .len (.var 1))), true), ((.op2 .lt (.var 100) (.num 0)), false)], some [((.leave 1 []), [((.app 15 [(.var 1), (.var 3)]), (.boo true))])]),
  ([((.var 102), true), ((.var 101), true), ((.op2 .eq (.cell 0 (.var 1) (.var 100)) (.var 3)), false), ((.op2 .lt (.var 100) (.op1 .len (.var 1))), true), ((.op2 .lt (.var 100) (.num 0)), false)], some [((.again 0 []), [((.var 101), (.boo true)), ((.var 102), (.boo true)), ((.var 100), (.op1 (.wrap .i64) (.op2 .add (.var 100) (.num 1))))])]),
  ([((.op2 .lt (.num 0) (.var 11)), true), ((.var 102), false), ((.var 101), true), ((.op2 .eq (.cell 0 (.var 1) (.var 100)) (.var 3)), false), ((.op2 .lt (.var 100) (.op1 .len (.var 1))), true), ((.op2 .lt (.var 100) (.num 0)), false)], some [((.again 0 []), [((.var 101), (.boo true)), ((.var 102), (.op2 .eq (.cell 8 (.var 1) (.var 100)) (.var 11))), ((.var 100), (.op1 (.wrap .i64) (.op2 .add (.var 100) (.num 1))))])]),
  ([((.op2 .lt (.num 0) (.var 11)), false), ((.var 102), false), ((.var 101), true), ((.op2 .eq (.cell 0 (.var 1) (.var 100)) (.var 3)), false), ((.op2 .lt (.var 100) (.op1 .len (.var 1))), true), ((.op2 .lt (.var 100) (.num 0)), false)], some [((.again 0 []), [((.var 101), (.boo true)), ((.var 102), (.boo false)), ((.var 100), (.op1 (.wrap .i64) (.op2 .add (.var 100) (.num 1))))])]),
  ([((.var 102), true), ((.op2 .eq (.cell 0 (.var 1) (.var 100)) (.var 11)), true), ((.var 101), false), ((.op2 .eq (.cell 0 (.var 1) (.var 100)) (.var 3)), false), ((.op2 .lt (.var 100) (.op1 .len (.var 1))), true), ((.op2 .lt (.var 100) (.num 0)), false)], some [((.again 0 []), [((.var 101), (.op2 .eq (.cell 8 (.var 1) (.var 100)) (.num 0))), ((.var 102), (.boo true)), ((.var 100), (.op1 (.wrap .i64) (.op2 .add (.var 100) (.num 1))))])]),
  ([((.op2 .lt (.num 0) (.var 11)), true), ((.var 102), false), ((.op2 .eq (.cell 0 (.var 1) (.var 100)) (.var 11)), true), ((.var 101), false), ((.op2 .eq (.cell 0 (.var 1) (.var 100)) (.var 3)), false), ((.op2 .lt (.var 100) (.op1 .len (.var 1))), true), ((.op2 .lt (.var 100) (.num 0)), false)], some [((.again 0 []), [((.var 101), (.op2 .eq (.cell 8 (.var 1) (.var 100)) (.num 0))), ((.var 102), (.op2 .eq (.cell 8 (.var 1) (.var 100)) (.var 11))), ((.var 100), (.op1 (.wrap .i64) (.op2 .add (.var 100) (.num 1))))])]),
  ([((.op2 .lt (.num 0) (.var 11)), false), ((.var 102), false), ((.op2 .eq (.cell 0 (.var 1) (.var 100)) (.var 11)), true), ((.var 101), false), ((.op2 .eq (.cell 0 (.var 1) (.var 100)) (.var 3)), false), ((.op2 .lt (.var 100) (.op1 .len (.var 1))), true), ((.op2 .lt (.var 100) (.num 0)), false)], some [((.again 0 []), [((.var 101), (.op2 .eq (.cell 8 (.var 1) (.var 100)) (.num 0))), ((.var 102), (.boo false)), ((.var 100), (.op1 (.wrap .i64) (.op2 .add (.var 100) (.num 1))))])]),
  ([((.var 102), true), ((.op2 .eq (.cell 0 (.var 1) (.var 100)) (.var 11)), false), ((.var 101), false), ((.op2 .eq (.cell 0 (.var 1) (.var 100)) (.var 3)), false), ((.op2 .lt (.var 100) (.op1 .len (.var 1))), true), ((.op2 .lt (.var 100) (.num 0)), false)], some [((.again 0 []), [((.var 101), (.boo false)), ((.var 102), (.boo true)), ((.var 100), (.op1 (.wrap .i64) (.op2 .add (.var 100) (.num 1))))])]),
  ([((.op2 .lt (.num 0) (.var 11)), true), ((.var 102), false), ((.op2 .eq (.cell 0 (.var 1) (.var 100)) (.var 11)), false), ((.var 101), false), ((.op2 .eq (.cell 0 (.var 1) (.var 100)) (.var 3)), false), ((.op2 .lt (.var 100) (.op1 .len (.var 1))), true), ((.op2 .lt (.var 100) (.num 0)), false)], some [((.again 0 []), [((.var 101), (.boo false)), ((.var 102), (.op2 .eq (.cell 8 (.var 1) (.var 100)) (.var 11))), ((.var 100), (.op1 (.wrap .i64) (.op2 .add (.var 100) (.num 1))))])]),
  ([((.op2 .lt (.num 0) (.var 11)), false), ((.var 102), false), ((.op2 .eq (.cell 0 (.var 1) (.var 100)) (.var 11)), false), ((.var 101), false), ((.op2 .eq (.cell 0 (.var 1) (.var 100)) (.var 3)), false), ((.op2 .lt (.var 100) (.op1 .len (.var 1))), true), ((.op2 .lt (.var 100) (.num 0)), false)], some [((.again 0 []), [((.var 101), (.boo false)), ((.var 102), (.boo false)), ((.var 100), (.op1 (.wrap .i64) (.op2 .add (.var 100) (.num 1))))])]),
  ([((.op2 .lt (.var 100) (.op1 .len (.var 1))), false), ((.op2 .lt (.var 100) (.num 0)), false)], some [((.leave 0 []), [((.app 16 [(.var 1), (.var 11)]), (.var 101)), ((.app 17 [(.var 1), (.var 11)]), (.var 102)), ((.op1 .not (.app 15 [(.var 1), (.var 3)])), (.boo true))])])]
theorem refused0_w (r : Rho) : refused_D.ways refused_run E0 r 0 refused0_F refused0_t = some refused0_l := by kernel_rfl
theorem refused_ok : refused_D.ok = true := by kernel_rfl
def refused_Inv (l : List Wind) (xid off : Int) (j : Nat) (vals : List Value) : Prop :=
  j = 0 ∧ ∃ i : Nat, i ≤ l.length ∧ vals = [.int .i64 i, .bool (thereB (l.take i) off), .bool (againB (l.take i) off)] ∧ (l.take i).any (fun q => q.id == xid) = false
def refused_mu (l : List Wind) (_ : Nat) (vals : List Value) : Nat := l.length - (vI (vals.getD 0 default)).toNat
theorem refused_step {ρ : Rho} {l : List Wind} {xid off : Int} {k0 k8 : IntKind} (h1 : ρ.val 1 = some (windsR l)) (h3 : ρ.val 3 = some (.int k0 xid)) (h11 : ρ.val 11 = some (.int k8 off)) (hsy : ρ.sym = sy) (hmax : (l.length : Int) ≤ 1000) (j : Nat) (vals : List Value) (hI : refused_Inv l xid off j vals) :
    StepOk refused_D refused_run E0 ρ (refused_Inv l xid off) (refused_mu l) j vals := by
  obtain ⟨rfl, i, hi, rfl, hall⟩ := hI
  have hN : refused_D.N = 100 := rfl
  generalize hf : thereB (l.take i) off = f
  generalize hg : againB (l.take i) off = g
  have v1 : (ρ.ext refused_D.N [.int .i64 i, .bool f, .bool g]).val 1 = some (windsR l) := by rw [ext_low _ _ _ _ (by rw [hN]; omega)]; exact h1
  have v3 : (ρ.ext refused_D.N [.int .i64 i, .bool f, .bool g]).val 3 = some (.int k0 xid) := by rw [ext_low _ _ _ _ (by rw [hN]; omega)]; exact h3
  have v11 : (ρ.ext refused_D.N [.int .i64 i, .bool f, .bool g]).val 11 = some (.int k8 off) := by rw [ext_low _ _ _ _ (by rw [hN]; omega)]; exact h11
  have v100 : (ρ.ext refused_D.N [.int .i64 i, .bool f, .bool g]).val 100 = some (.int .i64 i) := by rw [ext_high _ _ _ _ (by rw [hN]; omega)]; rfl
  have v101 : (ρ.ext refused_D.N [.int .i64 i, .bool f, .bool g]).val 101 = some (.bool f) := by rw [ext_high _ _ _ _ (by rw [hN]; omega)]; rfl
  have v102 : (ρ.ext refused_D.N [.int .i64 i, .bool f, .bool g]).val 102 = some (.bool g) := by rw [ext_high _ _ _ _ (by rw [hN]; omega)]; rfl
  have vs : (ρ.ext refused_D.N [.int .i64 i, .bool f, .bool g]).sym = sy := hsy

  refine step_of_ways (refused0_w _) (F := refused0_F) ?_ (AsksL.ok ?_) ?_
  · simp only [refused0_F, FactsIn, X.bool, X.den, denL, d_wrap, d_kind, d_not, d_neg, d_slen, d_add, d_sub, d_mul, d_div, d_mod, d_lt, d_le, d_eq, d_eqb, d_eqs, d_lts, d_cat, d_sat, d_and, d_or, denSub, denIte, asB, winds_len, winds_cell, winds_lsub, v100, Option.some.injEq, Value.bool.injEq, decide_eq_false_iff_not, and_true]
    omega
  · cases hp : l[i]? with
    | none =>
      have hge : ¬ (i : Int) < l.length := by have := List.getElem?_eq_none_iff.1 hp; omega
      simp only [refused0_t, refused0_F, AsksL, GTree.asks, FTree.asks, FactsIn, List.append_nil, List.nil_append, List.cons_append, Option.some.injEq, exists_eq', implies_true, and_self, X.bool, X.den, denL, d_wrap, d_kind, d_not, d_neg, d_slen, d_add, d_sub, d_mul, d_div, d_mod, d_lt, d_le, d_eq, d_eqb, d_eqs, d_lts, d_cat, d_sat, d_and, d_or, denSub, denIte, asB, winds_len, winds_cell, winds_lsub, v1, v3, v11, v100, v101, v102, vs, sym15, sym16, sym17, Int.toNat_natCast, hp, hge]
      simp
    | some p => simp only [refused0_t, refused0_F, AsksL, GTree.asks, FTree.asks, FactsIn, List.append_nil, List.nil_append, List.cons_append, Option.some.injEq, exists_eq', implies_true, and_self, X.bool, X.den, denL, d_wrap, d_kind, d_not, d_neg, d_slen, d_add, d_sub, d_mul, d_div, d_mod, d_lt, d_le, d_eq, d_eqb, d_eqs, d_lts, d_cat, d_sat, d_and, d_or, denSub, denIte, asB, winds_len, winds_cell, winds_lsub, v1, v3, v11, v100, v101, v102, vs, sym15, sym16, sym17, Int.toNat_natCast, hp, Option.bind_some, wind0, wind1, wind2, wind3, wind4, wind5, wind6, wind7, wind8]
  · cases hp : l[i]? with
    | none =>
      have hge := List.getElem?_eq_none_iff.1 hp
      have hge' : ¬ (i : Int) < l.length := by omega
      simp only [refused0_l, EndsOk, WaysOk, forall_cons, forall_nil, TgtOk, gpair, FactsIn, hold_cons, hold_nil, Option.some.injEq, Value.bool.injEq, Value.int.injEq, decide_eq_true_eq, decide_eq_false_iff_not, and_true, true_and, and_imp, X.bool, X.den, denL, d_wrap, d_kind, d_not, d_neg, d_slen, d_add, d_sub, d_mul, d_div, d_mod, d_lt, d_le, d_eq, d_eqb, d_eqs, d_lts, d_cat, d_sat, d_and, d_or, denSub, denIte, asB, winds_len, winds_cell, winds_lsub, beq_iff_eq, beq_eq_false_iff_ne, ne_eq, v1, v3, v11, v100, v101, v102, vs, h1, h3, h11, hsy, sym15, sym16, sym17, Int.toNat_natCast, hp, hge']
      have hi' : i = l.length := by omega
      subst hi'
      rw [List.take_length] at hall hf hg
      simp [hall, hf, hg]
    | some p =>
      have hlt : i < l.length := (List.getElem?_eq_some_iff.1 hp).1
      have hlt1 : (i : Int) < l.length := by omega
      simp only [refused0_l, EndsOk, WaysOk, forall_cons, forall_nil, TgtOk, gpair, FactsIn, hold_cons, hold_nil, Option.some.injEq, Value.bool.injEq, Value.int.injEq, decide_eq_true_eq, decide_eq_false_iff_not, and_true, true_and, and_imp, X.bool, X.den, denL, d_wrap, d_kind, d_not, d_neg, d_slen, d_add, d_sub, d_mul, d_div, d_mod, d_lt, d_le, d_eq, d_eqb, d_eqs, d_lts, d_cat, d_sat, d_and, d_or, denSub, denIte, asB, winds_len, winds_cell, winds_lsub, beq_iff_eq, beq_eq_false_iff_ne, ne_eq, v1, v3, v11, v100, v101, v102, vs, h1, h3, h11, hsy, sym15, sym16, sym17, Int.toNat_natCast, hp, Option.bind_some, wind0, wind1, wind2, wind3, wind4, wind5, wind6, wind7, wind8, hlt1]
      have go : ∀ f' g', (f || (p.id == off && p.of_ == 0)) = f' → (g || (decide (0 < off) && p.of_ == off)) = g' → ¬ p.id = xid →
          ∃ vals', ((ρ.ext refused_D.N vals').val 101 = some (.bool f') ∧ (ρ.ext refused_D.N vals').val 102 = some (.bool g') ∧ (ρ.ext refused_D.N vals').val 100 = some (.int .i64 (IntKind.i64.wrap ((i : Int) + 1)))) ∧
            refused_Inv l xid off 0 vals' ∧ refused_mu l 0 vals' < refused_mu l 0 [.int .i64 i, .bool f, .bool g] := by
        intro f' g' e1 e2 hx
        refine ⟨[.int .i64 ((i + 1 : Nat) : Int), .bool f', .bool g'], ⟨?_, ?_, ?_⟩, ⟨rfl, i + 1, by omega, ?_, ?_⟩, ?_⟩
        · rw [ext_high _ _ _ _ (by rw [hN]; omega)]; rfl
        · rw [ext_high _ _ _ _ (by rw [hN]; omega)]; rfl
        · rw [ext_high _ _ _ _ (by rw [hN]; omega), IntWalk.i64_in _ (by omega)]; rfl
        · rw [thereB_take hp, againB_take hp, hf, hg, e1, e2]
        · rw [List.take_add_one, hp]
          simp [hall, hx]
        · simp [refused_mu, vI]; omega
      have hpm : p ∈ l := List.mem_of_getElem? hp
      clear hf hg hall hsy h1 h3 h11 v1 v3 v11 v100 v101 v102 vs
      (repeat' apply And.intro) <;> intros <;> first
        | (exact List.any_eq_true.2 ⟨p, hpm, by simpa using (by assumption : p.id = xid)⟩)
        | (refine go _ _ ?_ ?_ ?_ <;> first | assumption | (simp_all; done) | (simp_all; omega))
        | (simp_all; done)
noncomputable def refused_con : Con := { f := 30, args := [windsArg 0 0, .agg (windLeaves 3)], N := 1, M := 1, pre := [(.app 20 [.var 1], true)], out := .sint .i64 (.app 4 [.var 1, .var 3, .var 4, .var 5, .var 6, .var 7, .var 8, .var 9, .var 10, .var 11]), news := [] }
noncomputable def refused_call : Env → CallL := fun E => acallAll E (evH E (LR2 E) ((fun E => oneH 30 (hooks [(8, refused_D.hook E.facts refused_vs)])) E) 4)
noncomputable def refused_t : GTree := (.fork (.op2 .lt (.op1 .len (.var 1)) (.num 200)) (.fork (.op2 .eq (.app 14 [(.var 3), (.var 4), (.var 5), (.var 6), (.var 7), (.var 8), (.var 9), (.var 10), (.var 11)]) (.num 0)) (.fork (.app 15 [(.var 1), (.var 3)]) (.leaf [[]]) (.fork (.op2 .lt (.num 0) (.op1 .len (.var 1))) (.fork (.op2 .lt (.op1 (.wrap .i64) (.op2 .sub (.op1 .len (.var 1)) (.num 1))) (.num 0)) .bad (.fork (.op2 .lt (.op1 (.wrap .i64) (.op2 .sub (.op1 .len (.var 1)) (.num 1))) (.op1 .len (.var 1))) (.fork (.op2 .lt (.var 4) (.cell 1 (.var 1) (.op1 (.wrap .i64) (.op2 .sub (.op1 .len (.var 1)) (.num 1))))) (.leaf [[]]) (.fork (.op2 .lt (.num 0) (.var 11)) (.fork (.app 16 [(.var 1), (.var 11)]) (.fork (.app 17 [(.var 1), (.var 11)]) (.leaf [[]]) (.leaf [[]])) (.leaf [[]])) (.fork (.app 17 [(.var 1), (.var 11)]) (.leaf [[]]) (.leaf [[]])))) .bad)) (.fork (.op2 .lt (.num 0) (.var 11)) (.fork (.app 16 [(.var 1), (.var 11)]) (.fork (.app 17 [(.var 1), (.var 11)]) (.leaf [[]]) (.leaf [[]])) (.leaf [[]])) (.fork (.app 17 [(.var 1), (.var 11)]) (.leaf [[]]) (.leaf [[]]))))) (.leaf [[]])) (.leaf [[]]))
noncomputable def refused_l : List (List (X × Bool) × Option Pairs) := [([((.app 15 [(.var 1), (.var 3)]), true), ((.op2 .eq (.app 14 [(.var 3), (.var 4), (.var 5), (.var 6), (.var 7), (.var 8), (.var 9), (.var 10), (.var 11)]) (.num 0)), true), ((.op2 .lt (.op1 .len (.var 1)) (.num 200)), true), ((.app 20 [(.var 1)]), true)], some [((.app 4 [(.var 1), (.var 3), (.var 4), (.var 5), (.var 6), (.var 7), (.var 8), (.var 9), (.var 10), (.var 11)]), (.num 6))]),
  ([((.op2 .lt (.op1 (.wrap .i64) (.op2 .sub (.op1 .len (.var 1)) (.num 1))) (.num 0)), true), ((.op2 .lt (.num 0) (.op1 .len (.var 1))), true), ((.app 15 [(.var 1), (.var 3)]), false), ((.op2 .eq (.app 14 [(.var 3), (.var 4), (.var 5), (.var 6), (.var 7), (.var 8), (.var 9), (.var 10), (.var 11)]) (.num 0)), true), ((.op2 .lt (.op1 .len (.var 1)) (.num 200)), true), ((.app 20 [(.var 1)]), true)], none),
  ([((.op2 .lt (.var 4) (.cell 1 (.var 1) (.op1 (.wrap .i64) (.op2 .sub (.op1 .len (.var 1)) (.num 1))))), true), ((.op2 .lt (.op1 (.wrap .i64) (.op2 .sub (.op1 .len (.var 1)) (.num 1))) (.op1 .len (.var 1))), true), ((.op2 .lt (.op1 (.wrap .i64) (.op2 .sub (.op1 .len (.var 1)) (.num 1))) (.num 0)), false), ((.op2 .lt (.num 0) (.op1 .len (.var 1))), true), ((.app 15 [(.var 1), (.var 3)]), false), ((.op2 .eq (.app 14 [(.var 3), (.var 4), (.var 5), (.var 6), (.var 7), (.var 8), (.var 9), (.var 10), (.var 11)]) (.num 0)), true), ((.op2 .lt (.op1 .len (.var 1)) (.num 200)), true), ((.app 20 [(.var 1)]), true)], some [((.app 4 [(.var 1), (.var 3), (.var 4), (.var 5), (.var 6), (.var 7), (.var 8), (.var 9), (.var 10), (.var 11)]), (.num 7))]),
  ([((.app 17 [(.var 1), (.var 11)]), true), ((.app 16 [(.var 1), (.var 11)]), true), ((.op2 .lt (.num 0) (.var 11)), true), ((.op2 .lt (.var 4) (.cell 1 (.var 1) (.op1 (.wrap .i64) (.op2 .sub (.op1 .len (.var 1)) (.num 1))))), false), ((.op2 .lt (.op1 (.wrap .i64) (.op2 .sub (.op1 .len (.var 1)) (.num 1))) (.op1 .len (.var 1))), true), ((.op2 .lt (.op1 (.wrap .i64) (.op2 .sub (.op1 .len (.var 1)) (.num 1))) (.num 0)), false), ((.op2 .lt (.num 0) (.op1 .len (.var 1))), true), ((.app 15 [(.var 1), (.var 3)]), false), ((.op2 .eq (.app 14 [(.var 3), (.var 4), (.var 5), (.var 6), (.var 7), (.var 8), (.var 9), (.var 10), (.var 11)]) (.num 0)), true), ((.op2 .lt (.op1 .len (.var 1)) (.num 200)), true), ((.app 20 [(.var 1)]), true)], some [((.app 4 [(.var 1), (.var 3), (.var 4), (.var 5), (.var 6), (.var 7), (.var 8), (.var 9), (.var 10), (.var 11)]), (.num 6))]),
  ([((.app 17 [(.var 1), (.var 11)]), false), ((.app 16 [(.var 1), (.var 11)]), true), ((.op2 .lt (.num 0) (.var 11)), true), ((.op2 .lt (.var 4) (.cell 1 (.var 1) (.op1 (.wrap .i64) (.op2 .sub (.op1 .len (.var 1)) (.num 1))))), false), ((.op2 .lt (.op1 (.wrap .i64) (.op2 .sub (.op1 .len (.var 1)) (.num 1))) (.op1 .len (.var 1))), true), ((.op2 .lt (.op1 (.wrap .i64) (.op2 .sub (.op1 .len (.var 1)) (.num 1))) (.num 0)), false), ((.op2 .lt (.num 0) (.op1 .len (.var 1))), true), ((.app 15 [(.var 1), (.var 3)]), false), ((.op2 .eq (.app 14 [(.var 3), (.var 4), (.var 5), (.var 6), (.var 7), (.var 8), (.var 9), (.var 10), (.var 11)]) (.num 0)), true), ((.op2 .lt (.op1 .len (.var 1)) (.num 200)), true), ((.app 20 [(.var 1)]), true)], some [((.app 4 [(.var 1), (.var 3), (.var 4), (.var 5), (.var 6), (.var 7), (.var 8), (.var 9), (.var 10), (.var 11)]), (.num 0))]),
  ([((.app 16 [(.var 1), (.var 11)]), false), ((.op2 .lt (.num 0) (.var 11)), true), ((.op2 .lt (.var 4) (.cell 1 (.var 1) (.op1 (.wrap .i64) (.op2 .sub (.op1 .len (.var 1)) (.num 1))))), false), ((.op2 .lt (.op1 (.wrap .i64) (.op2 .sub (.op1 .len (.var 1)) (.num 1))) (.op1 .len (.var 1))), true), ((.op2 .lt (.op1 (.wrap .i64) (.op2 .sub (.op1 .len (.var 1)) (.num 1))) (.num 0)), false), ((.op2 .lt (.num 0) (.op1 .len (.var 1))), true), ((.app 15 [(.var 1), (.var 3)]), false), ((.op2 .eq (.app 14 [(.var 3), (.var 4), (.var 5), (.var 6), (.var 7), (.var 8), (.var 9), (.var 10), (.var 11)]) (.num 0)), true), ((.op2 .lt (.op1 .len (.var 1)) (.num 200)), true), ((.app 20 [(.var 1)]), true)], some [((.app 4 [(.var 1), (.var 3), (.var 4), (.var 5), (.var 6), (.var 7), (.var 8), (.var 9), (.var 10), (.var 11)]), (.num 5))]),
  ([((.app 17 [(.var 1), (.var 11)]), true), ((.op2 .lt (.num 0) (.var 11)), false), ((.op2 .lt (.var 4) (.cell 1 (.var 1) (.op1 (.wrap .i64) (.op2 .sub (.op1 .len (.var 1)) (.num 1))))), false), ((.op2 .lt (.op1 (.wrap .i64) (.op2 .sub (.op1 .len (.var 1)) (.num 1))) (.op1 .len (.var 1))), true), ((.op2 .lt (.op1 (.wrap .i64) (.op2 .sub (.op1 .len (.var 1)) (.num 1))) (.num 0)), false), ((.op2 .lt (.num 0) (.op1 .len (.var 1))), true), ((.app 15 [(.var 1), (.var 3)]), false), ((.op2 .eq (.app 14 [(.var 3), (.var 4), (.var 5), (.var 6), (.var 7), (.var 8), (.var 9), (.var 10), (.var 11)]) (.num 0)), true), ((.op2 .lt (.op1 .len (.var 1)) (.num 200)), true), ((.app 20 [(.var 1)]), true)], some [((.app 4 [(.var 1), (.var 3), (.var 4), (.var 5), (.var 6), (.var 7), (.var 8), (.var 9), (.var 10), (.var 11)]), (.num 6))]),
  ([((.app 17 [(.var 1), (.var 11)]), false), ((.op2 .lt (.num 0) (.var 11)), false), ((.op2 .lt (.var 4) (.cell 1 (.var 1) (.op1 (.wrap .i64) (.op2 .sub (.op1 .len (.var 1)) (.num 1))))), false), ((.op2 .lt (.op1 (.wrap .i64) (.op2 .sub (.op1 .len (.var 1)) (.num 1))) (.op1 .len (.var 1))), true), ((.op2 .lt (.op1 (.wrap .i64) (.op2 .sub (.op1 .len (.var 1)) (.num 1))) (.num 0)), false), ((.op2 .lt (.num 0) (.op1 .len (.var 1))), true), ((.app 15 [(.var 1), (.var 3)]), false), ((.op2 .eq (.app 14 [(.var 3), (.var 4), (.var 5), (.var 6), (.var 7), (.var 8), (.var 9), (.var 10), (.var 11)]) (.num 0)), true), ((.op2 .lt (.op1 .len (.var 1)) (.num 200)), true), ((.app 20 [(.var 1)]), true)], some [((.app 4 [(.var 1), (.var 3), (.var 4), (.var 5), (.var 6), (.var 7), (.var 8), (.var 9), (.var 10), (.var 11)]), (.num 0))]),
  ([((.op2 .lt (.op1 (.wrap .i64) (.op2 .sub (.op1 .len (.var 1)) (.num 1))) (.op1 .len (.var 1))), false), ((.op2 .lt (.op1 (.wrap .i64) (.op2 .sub (.op1 .len (.var 1)) (.num 1))) (.num 0)), false), ((.op2 .lt (.num 0) (.op1 .len (.var 1))), true), ((.app 15 [(.var 1), (.var 3)]), false), ((.op2 .eq (.app 14 [(.var 3), (.var 4), (.var 5), (.var 6), (.var 7), (.var 8), (.var 9), (.var 10), (.var 11)]) (.num 0)), true), ((.op2 .lt (.op1 .len (.var 1)) (.num 200)), true), ((.app 20 [(.var 1)]), true)], none),
  ([((.app 17 [(.var 1), (.var 11)]), true), ((.app 16 [(.var 1), (.var 11)]), true), ((.op2 .lt (.num 0) (.var 11)), true), ((.op2 .lt (.num 0) (.op1 .len (.var 1))), false), ((.app 15 [(.var 1), (.var 3)]), false), ((.op2 .eq (.app 14 [(.var 3), (.var 4), (.var 5), (.var 6), (.var 7), (.var 8), (.var 9), (.var 10), (.var 11)]) (.num 0)), true), ((.op2 .lt (.op1 .len (.var 1)) (.num 200)), true), ((.app 20 [(.var 1)]), true)], some [((.app 4 [(.var 1), (.var 3), (.var 4), (.var 5), (.var 6), (.var 7), (.var 8), (.var 9), (.var 10), (.var 11)]), (.num 6))]),
  ([((.app 17 [(.var 1), (.var 11)]), false), ((.app 16 [(.var 1), (.var 11)]), true), ((.op2 .lt (.num 0) (.var 11)), true), ((.op2 .lt (.num 0) (.op1 .len (.var 1))), false), ((.app 15 [(.var 1), (.var 3)]), false), ((.op2 .eq (.app 14 [(.var 3), (.var 4), (.var 5), (.var 6), (.var 7), (.var 8), (.var 9), (.var 10), (.var 11)]) (.num 0)), true), ((.op2 .lt (.op1 .len (.var 1)) (.num 200)), true), ((.app 20 [(.var 1)]), true)], some [((.app 4 [(.var 1), (.var 3), (.var 4), (.var 5), (.var 6), (.var 7), (.var 8), (.var 9), (.var 10), (.var 11)]), (.num 0))]),
  ([((.app 16 [(.var 1), (.var 11)]), false), ((.op2 .lt (.num 0) (.var 11)), true), ((.op2 .lt (.num 0) (.op1 .len (.var 1))), false), ((.app 15 [(.var 1), (.var 3)]), false), ((.op2 .eq (.app 14 [(.var 3), (.var 4), (.var 5), (.var 6), (.var 7), (.var 8), (.var 9), (.var 10), (.var 11)]) (.num 0)), true), ((.op2 .lt (.op1 .len (.var 1)) (.num 200)), true), ((.app 20 [(.var 1)]), true)], some [((.app 4 [(.var 1), (.var 3), (.var 4), (.var 5), (.var 6), (.var 7), (.var 8), (.var 9), (.var 10), (.var 11)]), (.num 5))]),
  ([((.app 17 [(.var 1), (.var 11)]), true), ((.op2 .lt (.num 0) (.var 11)), false), ((.op2 .lt (.num 0) (.op1 .len (.var 1))), false), ((.app 15 [(.var 1), (.var 3)]), false), ((.op2 .eq (.app 14 [(.var 3), (.var 4), (.var 5), (.var 6), (.var 7), (.var 8), (.var 9), (.var 10), (.var 11)]) (.num 0)), true), ((.op2 .lt (.op1 .len (.var 1)) (.num 200)), true), ((.app 20 [(.var 1)]), true)], some [((.app 4 [(.var 1), (.var 3), (.var 4), (.var 5), (.var 6), (.var 7), (.var 8), (.var 9), (.var 10), (.var 11)]), (.num 6))]),
  ([((.app 17 [(.var 1), (.var 11)]), false), ((.op2 .lt (.num 0) (.var 11)), false), ((.op2 .lt (.num 0) (.op1 .len (.var 1))), false), ((.app 15 [(.var 1), (.var 3)]), false), ((.op2 .eq (.app 14 [(.var 3), (.var 4), (.var 5), (.var 6), (.var 7), (.var 8), (.var 9), (.var 10), (.var 11)]) (.num 0)), true), ((.op2 .lt (.op1 .len (.var 1)) (.num 200)), true), ((.app 20 [(.var 1)]), true)], some [((.app 4 [(.var 1), (.var 3), (.var 4), (.var 5), (.var 6), (.var 7), (.var 8), (.var 9), (.var 10), (.var 11)]), (.num 0))]),
  ([((.op2 .eq (.app 14 [(.var 3), (.var 4), (.var 5), (.var 6), (.var 7), (.var 8), (.var 9), (.var 10), (.var 11)]) (.num 0)), false), ((.op2 .lt (.op1 .len (.var 1)) (.num 200)), true), ((.app 20 [(.var 1)]), true)], some [((.app 4 [(.var 1), (.var 3), (.var 4), (.var 5), (.var 6), (.var 7), (.var 8), (.var 9), (.var 10), (.var 11)]), (.num 1))]),
  ([((.op2 .lt (.op1 .len (.var 1)) (.num 200)), false), ((.app 20 [(.var 1)]), true)], some [((.app 4 [(.var 1), (.var 3), (.var 4), (.var 5), (.var 6), (.var 7), (.var 8), (.var 9), (.var 10), (.var 11)]), (.num 2))])]
theorem refused_w (r : Rho) : refused_con.fn.ways refused_call E0 r refused_con.pre refused_t = some refused_l := by kernel_rfl
theorem refused_H {r : Rho} {l : List Wind} {xid off : Int} {k0 k8 : IntKind} (h1 : r.val 1 = some (windsR l)) (h3 : r.val 3 = some (.int k0 xid)) (h11 : r.val 11 = some (.int k8 off)) (hmax : (l.length : Int) ≤ 1000) (hsy : r.sym = sy) (F : List (X × Bool)) :
    LoopsOk (E0.with F r) (oneH 30 (hooks [(8, refused_D.hook (E0.with F r).facts refused_vs)])) := by
  refine loops_all (n := 1) (fun f fn h => h) (by kernel_rfl) fun i hi => ?_
  obtain rfl : i = 0 := by omega
  rw [hooks_hit (show keyOf (loopAt (E0.with F r).P 30 0) = 8 by kernel_rfl)]
  refine hook_ok (E₀ := E0) (run := refused_run) (ρ := r) (Inv := refused_Inv l xid off) (μ := refused_mu l) E0_ok refused_ok (fun F r' h => ?_) (fun _ => ⟨refused_step h1 h3 h11 hsy hmax, [.int .i64 0, .bool false, .bool false], ?_, rfl, 0, Nat.zero_le _, (by simp [thereB, againB]), rfl⟩)
  · exact bodyRun_ok E0_ok (noL_ok F (h.trans hsy)) fun _ _ => noLoop_ok
  · simp only [refused_vs, X.bool, X.den, denL, d_wrap, d_kind, d_not, d_neg, d_slen, d_add, d_sub, d_mul, d_div, d_mod, d_lt, d_le, d_eq, d_eqb, d_eqs, d_lts, d_cat, d_sat, d_and, d_or, denSub, denIte, asB, winds_len, winds_cell, winds_lsub]

set_option maxHeartbeats 4000000 in
theorem refused_cok : refused_con.Ok Tryz.prog sy := by
  intro r σ w us hsy hρ hpre hrel hins
  obtain ⟨u0, us, rfl, g0, hi⟩ := ins_cons hins
  obtain ⟨u1, us, rfl, g1, hi⟩ := ins_cons hi
  obtain ⟨x, k, rfl, hp⟩ := wind_agg g1
  obtain ⟨l, h1⟩ := winds_at hrel (i := 0) rfl
  rw [hρ] at hp h1
  have h1 : r.val 1 = some (windsR l) := h1
  have a0 := hp.h0
  have a1 := hp.h1
  have a2 := hp.h2
  have a3 := hp.h3
  have a4 := hp.h4
  have a5 := hp.h5
  have a6 := hp.h6
  have a7 := hp.h7
  have a8 := hp.h8
  simp only [Nat.zero_add, Nat.reduceAdd] at a0 a1 a2 a3 a4 a5 a6 a7 a8

  have hmax : (l.length : Int) ≤ 1000 := by
    have := hpre.1
    simp only [X.bool, X.den, denL, d_wrap, d_kind, d_not, d_neg, d_slen, d_add, d_sub, d_mul, d_div, d_mod, d_lt, d_le, d_eq, d_eqb, d_eqs, d_lts, d_cat, d_sat, d_and, d_or, denSub, denIte, asB, winds_len, winds_cell, winds_lsub, h1, hsy, sym20, Option.some.injEq, Value.bool.injEq] at this
    exact short_len this
  refine con_of (E := E0) E0_ok E0_glob (sy := sy) (fun F => LR2_ok F hsy) (fun F => refused_H h1 a0 a8 hmax hsy F) (refused_w r) hρ hpre hrel hins ?_ ?_
  · by_cases h0 : 0 < l.length
    · have hw : IntKind.i64.wrap ((l.length : Int) - 1) = l.length - 1 := IntWalk.i64_in _ (by omega)
      obtain ⟨q, hq⟩ : ∃ q, l[((l.length : Int) - 1).toNat]? = some q := ⟨l[((l.length : Int) - 1).toNat]'(by omega), List.getElem?_eq_getElem (by omega)⟩
      simp only [refused_con, refused_t, AsksL, GTree.asks, FTree.asks, FactsIn, List.append_nil, List.nil_append, List.cons_append, Option.some.injEq, exists_eq', implies_true, and_self, X.bool, X.den, denL, d_wrap, d_kind, d_not, d_neg, d_slen, d_add, d_sub, d_mul, d_div, d_mod, d_lt, d_le, d_eq, d_eqb, d_eqs, d_lts, d_cat, d_sat, d_and, d_or, denSub, denIte, asB, winds_len, winds_cell, winds_lsub, a0, a1, a2, a3, a4, a5, a6, a7, a8, h1, hsy, sym4, sym14, sym15, sym16, sym17, sym20, hw, hq, Option.bind_some, wind0, wind1, wind2, wind3, wind4, wind5, wind6, wind7, wind8]
    · have h0' : ¬ (0 : Int) < l.length := by omega
      simp only [refused_con, refused_t, AsksL, GTree.asks, FTree.asks, FactsIn, List.append_nil, List.nil_append, List.cons_append, Option.some.injEq, exists_eq', implies_true, and_self, X.bool, X.den, denL, d_wrap, d_kind, d_not, d_neg, d_slen, d_add, d_sub, d_mul, d_div, d_mod, d_lt, d_le, d_eq, d_eqb, d_eqs, d_lts, d_cat, d_sat, d_and, d_or, denSub, denIte, asB, winds_len, winds_cell, winds_lsub, a0, a1, a2, a3, a4, a5, a6, a7, a8, h1, hsy, sym4, sym14, sym15, sym16, sym17, sym20, h0']
      simp
  · have hb := accepted_w x
    by_cases h0 : 0 < l.length
    · have hw : IntKind.i64.wrap ((l.length : Int) - 1) = l.length - 1 := IntWalk.i64_in _ (by omega)
      obtain ⟨q, hq⟩ : ∃ q, l[((l.length : Int) - 1).toNat]? = some q := ⟨l[((l.length : Int) - 1).toNat]'(by omega), List.getElem?_eq_getElem (by omega)⟩
      have hlast : lastKnown l = q.known := lastKnown_at h0 hq
      have h0' : (0 : Int) < l.length := by omega
      simp only [refused_l, EndsOk, WaysOk, forall_cons, forall_nil, TgtOk, gpair, FactsIn, hold_cons, hold_nil, Option.some.injEq, Value.bool.injEq, Value.int.injEq, decide_eq_true_eq, decide_eq_false_iff_not, and_true, true_and, and_imp, X.bool, X.den, denL, d_wrap, d_kind, d_not, d_neg, d_slen, d_add, d_sub, d_mul, d_div, d_mod, d_lt, d_le, d_eq, d_eqb, d_eqs, d_lts, d_cat, d_sat, d_and, d_or, denSub, denIte, asB, winds_len, winds_cell, winds_lsub, beq_iff_eq, beq_eq_false_iff_ne, ne_eq, a0, a1, a2, a3, a4, a5, a6, a7, a8, h1, hsy, sym4, sym14, sym15, sym16, sym17, sym20, hw, hq, Option.bind_some, wind0, wind1, wind2, wind3, wind4, wind5, wind6, wind7, wind8]
      clear hsy hρ hpre hrel hi hp hins g0 g1 h1 a0 a1 a2 a3 a4 a5 a6 a7 a8
      (repeat' apply And.intro) <;> intros <;> first
        | (exfalso; omega)
        | (simp only [refusedE]; (repeat' split) <;> first | rfl | (exfalso; simp_all; done) | (exfalso; simp_all; omega) | (exfalso; omega))
    · have h0' : ¬ (0 : Int) < l.length := by omega
      simp only [refused_l, EndsOk, WaysOk, forall_cons, forall_nil, TgtOk, gpair, FactsIn, hold_cons, hold_nil, Option.some.injEq, Value.bool.injEq, Value.int.injEq, decide_eq_true_eq, decide_eq_false_iff_not, and_true, true_and, and_imp, X.bool, X.den, denL, d_wrap, d_kind, d_not, d_neg, d_slen, d_add, d_sub, d_mul, d_div, d_mod, d_lt, d_le, d_eq, d_eqb, d_eqs, d_lts, d_cat, d_sat, d_and, d_or, denSub, denIte, asB, winds_len, winds_cell, winds_lsub, beq_iff_eq, beq_eq_false_iff_ne, ne_eq, a0, a1, a2, a3, a4, a5, a6, a7, a8, h1, hsy, sym4, sym14, sym15, sym16, sym17, sym20, h0']
      clear hsy hρ hpre hrel hi hp hins g0 g1 h1 a0 a1 a2 a3 a4 a5 a6 a7 a8
      (repeat' apply And.intro) <;> intros <;> first
        | (exfalso; simp_all; done)
        | (simp only [refusedE]; (repeat' split) <;> first | rfl | (exfalso; simp_all; done) | (exfalso; simp_all; omega) | (exfalso; omega))

end Go.Proofs.YtpjkfjnjbekcaaaGreatDoor.Zs

namespace Go.Proofs.YtpjkfjnjbekcaaaGreatDoor.Zs
open Go
set_option linter.unusedSimpArgs false
set_option linter.unusedVariables false

noncomputable def LR3 : Env → CallE := libs [cLib refused_con]
theorem LR3_ok (F : List (X × Bool)) {r : Rho} (h : r.sym = sy) : CallsOk (E0.with F r) (LR3 (E0.with F r)) := libs_ok fun c hc => by
  simp only [List.mem_cons, List.not_mem_nil, or_false] at hc
  subst hc; exact lib_ok (E := E0) refused_cok F h
def rCheck_vs : List X := [.num 0]

noncomputable def rCheck_D : LoopD := { N := 100, M := 101, size := sizeOfF 6, reads := [(0, .rows 9 windSch (.var 0) (.var 1) false 26)], pats := [{ slots := [(0, .slx 0 9 (.var 0) (.num 0) (.op1 .len (.var 1)) (.var 2)), (4, .sint .i64 (.var 100))], heap := [] }], exits := [(.exit 0, { slots := [], heap := [], guard := .op2 .eq (.app 6 [.var 1]) (.num 0) }), (.ret, { slots := [(2, .sint .i64 (.app 5 [.var 1])), (3, .sint .i64 (.app 6 [.var 1]))], heap := [], guard := .op1 .not (.op2 .eq (.app 6 [.var 1]) (.num 0)) })], own := [], pre := [(.app 20 [.var 1], true)] }
noncomputable def rCheck_run : Env → AF → ASt → Option (List Out) := bodyRun LR3 4 (fun _ => noLoop) (loopAt Tryz.prog 6 0)
def rCheck0_F : List (X × Bool) := [(.op2 .lt (.var 100) (.num 0), false)]
noncomputable def rCheck0_t : FTree := (.fork (.op2 .lt (.var 100) (.op1 .len (.var 1))) (.fork (.op2 .lt (.var 100) (.var 100)) .bad (.fork (.op2 .lt (.var 2) (.var 100)) .bad (.fork (.op2 .lt (.op1 .len (.var 1)) (.var 100)) .bad (.fork (.app 20 [(.lsub (.var 1) (.num 0) (.var 100))]) (.fork (.op2 .eq (.app 4 [(.lsub (.var 1) (.num 0) (.var 100)), (.cell 0 (.var 1) (.var 100)), (.cell 1 (.var 1) (.var 100)), (.cell 2 (.var 1) (.var 100)), (.cell 3 (.var 1) (.var 100)), (.cell 4 (.var 1) (.var 100)), (.cell 5 (.var 1) (.var 100)), (.cell 6 (.var 1) (.var 100)), (.cell 7 (.var 1) (.var 100)), (.cell 8 (.var 1) (.var 100))]) (.num 0)) (.leaf [(.again 0 [])]) (.leaf [(.leave 1 [])])) .bad)))) (.leaf [(.leave 0 [])]))
noncomputable def rCheck0_l : List (List (X × Bool) × Option (List (Tgt × Pairs))) := [([((.op2 .lt (.var 100) (.var 100)), true), ((.op2 .lt (.var 100) (.op1 .len (.var 1))), true), ((.op2 .lt (.var 100) (.num 0)), false)], none),
  ([((.op2 .lt (.var 2) (.var 100)), true), ((.op2 .lt (.var 100) (.var 100)), false), ((.op2 .lt (.var 100) (.op1 .len (.var 1))), true), ((.op2 .lt (.var 100) (.num 0)), false)], none),
  ([((.op2 .lt (.op1 .len (.var 1)) (.var 100)), true), ((.op2 .lt (.var 2) (.var 100)), false), ((.op2 .lt (.var 100) (.var 100)), false), ((.op2 .lt (.var 100) (.op1 .len (.var 1))), true), ((.op2 .lt (.var 100) (.num 0)), false)], none),
  ([((.op2 .eq (.app 4 [(.lsub (.var 1) (.num 0) (.var 100)), (.cell 0 (.var 1) (.var 100)), (.cell 1 (.var 1) (.var 100)), (.cell 2 (.var 1) (.var 100)), (.cell 3 (.var 1) (.var 100)), (.cell 4 (.var 1) (.var 100)), (.cell 5 (.var 1) (.var 100)), (.cell 6 (.var 1) (.var 100)), (.cell 7 (.var 1) (.var 100)), (.cell 8 (.var 1) (.var 100))]) (.num 0)), true), ((.app 20 [(.lsub (.var 1) (.num 0) (.var 100))]), true), ((.op2 .lt (.op1 .len (.var 1)) (.var 100)), false), ((.op2 .lt (.var 2) (.var 100)), false), ((.op2 .lt (.var 100) (.var 100)), false), ((.op2 .lt (.var 100) (.op1 .len (.var 1))), true), ((.op2 .lt (.var 100) (.num 0)), false)], some [((.again 0 []), [((.var 100), (.op1 (.wrap .i64) (.op2 .add (.var 100) (.num 1))))])]),
  ([((.op2 .eq (.app 4 [(.lsub (.var 1) (.num 0) (.var 100)), (.cell 0 (.var 1) (.var 100)), (.cell 1 (.var 1) (.var 100)), (.cell 2 (.var 1) (.var 100)), (.cell 3 (.var 1) (.var 100)), (.cell 4 (.var 1) (.var 100)), (.cell 5 (.var 1) (.var 100)), (.cell 6 (.var 1) (.var 100)), (.cell 7 (.var 1) (.var 100)), (.cell 8 (.var 1) (.var 100))]) (.num 0)), false), ((.app 20 [(.lsub (.var 1) (.num 0) (.var 100))]), true), ((.op2 .lt (.op1 .len (.var 1)) (.var 100)), false), ((.op2 .lt (.var 2) (.var 100)), false), ((.op2 .lt (.var 100) (.var 100)), false), ((.op2 .lt (.var 100) (.op1 .len (.var 1))), true), ((.op2 .lt (.var 100) (.num 0)), false)], some [((.leave 1 []), [((.app 5 [(.var 1)]), (.var 100)), ((.app 6 [(.var 1)]), (.app 4 [(.lsub (.var 1) (.num 0) (.var 100)), (.cell 0 (.var 1) (.var 100)), (.cell 1 (.var 1) (.var 100)), (.cell 2 (.var 1) (.var 100)), (.cell 3 (.var 1) (.var 100)), (.cell 4 (.var 1) (.var 100)), (.cell 5 (.var 1) (.var 100)), (.cell 6 (.var 1) (.var 100)), (.cell 7 (.var 1) (.var 100)), (.cell 8 (.var 1) (.var 100))])), ((.op1 .not (.op2 .eq (.app 6 [(.var 1)]) (.num 0))), (.boo true))])]),
  ([((.app 20 [(.lsub (.var 1) (.num 0) (.var 100))]), false), ((.op2 .lt (.op1 .len (.var 1)) (.var 100)), false), ((.op2 .lt (.var 2) (.var 100)), false), ((.op2 .lt (.var 100) (.var 100)), false), ((.op2 .lt (.var 100) (.op1 .len (.var 1))), true), ((.op2 .lt (.var 100) (.num 0)), false)], none),
  ([((.op2 .lt (.var 100) (.op1 .len (.var 1))), false), ((.op2 .lt (.var 100) (.num 0)), false)], some [((.leave 0 []), [((.op2 .eq (.app 6 [(.var 1)]) (.num 0)), (.boo true))])])]
theorem rCheck0_w (r : Rho) : rCheck_D.ways rCheck_run E0 r 0 rCheck0_F rCheck0_t = some rCheck0_l := by kernel_rfl
theorem rCheck_ok : rCheck_D.ok = true := by kernel_rfl
def rCheck_Inv (l : List Wind) (j : Nat) (vals : List Value) : Prop :=
  j = 0 ∧ ∃ i : Nat, i ≤ l.length ∧ vals = [.int .i64 i] ∧ checkR l = chkGo (l.take i) (l.drop i)
def rCheck_mu (l : List Wind) (_ : Nat) (vals : List Value) : Nat := l.length - (vI (vals.getD 0 default)).toNat
theorem rCheck_step {ρ : Rho} {l : List Wind} {kc : IntKind} {cap : Int} (h1 : ρ.val 1 = some (windsR l)) (h2 : ρ.val 2 = some (.int kc cap)) (hcap : (l.length : Int) ≤ cap) (hsy : ρ.sym = sy) (hsh : shortB l = true) (j : Nat) (vals : List Value) (hI : rCheck_Inv l j vals) :
    StepOk rCheck_D rCheck_run E0 ρ (rCheck_Inv l) (rCheck_mu l) j vals := by
  obtain ⟨rfl, i, hi, rfl, hall⟩ := hI
  have hN : rCheck_D.N = 100 := rfl
  have hmax := short_len hsh
  have v1 : (ρ.ext rCheck_D.N [.int .i64 i]).val 1 = some (windsR l) := by rw [ext_low _ _ _ _ (by rw [hN]; omega)]; exact h1
  have v2 : (ρ.ext rCheck_D.N [.int .i64 i]).val 2 = some (.int kc cap) := by rw [ext_low _ _ _ _ (by rw [hN]; omega)]; exact h2
  have v100 : (ρ.ext rCheck_D.N [.int .i64 i]).val 100 = some (.int .i64 i) := by rw [ext_high _ _ _ _ (by rw [hN]; omega)]; rfl
  have vs : (ρ.ext rCheck_D.N [.int .i64 i]).sym = sy := hsy

  have hl20 : shortB (l.take i) = true := short_take hsh i
  refine step_of_ways (rCheck0_w _) (F := rCheck0_F) ?_ (AsksL.ok ?_) ?_
  · simp only [rCheck0_F, FactsIn, X.bool, X.den, denL, d_wrap, d_kind, d_not, d_neg, d_slen, d_add, d_sub, d_mul, d_div, d_mod, d_lt, d_le, d_eq, d_eqb, d_eqs, d_lts, d_cat, d_sat, d_and, d_or, denSub, denIte, asB, winds_len, winds_cell, winds_lsub, v100, Option.some.injEq, Value.bool.injEq, decide_eq_false_iff_not, and_true]
    omega
  · cases hp : l[i]? with
    | none =>
      have hge : ¬ (i : Int) < l.length := by have := List.getElem?_eq_none_iff.1 hp; omega
      simp only [rCheck0_t, rCheck0_F, AsksL, GTree.asks, FTree.asks, FactsIn, List.append_nil, List.nil_append, List.cons_append, Option.some.injEq, exists_eq', implies_true, and_self, X.bool, X.den, denL, d_wrap, d_kind, d_not, d_neg, d_slen, d_add, d_sub, d_mul, d_div, d_mod, d_lt, d_le, d_eq, d_eqb, d_eqs, d_lts, d_cat, d_sat, d_and, d_or, denSub, denIte, asB, winds_len, winds_cell, winds_lsub, v1, v2, v100, vs, sym4, sym5, sym6, sym20, Int.toNat_natCast, Int.toNat_zero, List.drop_zero, hp, hge]
      simp
    | some p => simp only [rCheck0_t, rCheck0_F, AsksL, GTree.asks, FTree.asks, FactsIn, List.append_nil, List.nil_append, List.cons_append, Option.some.injEq, exists_eq', implies_true, and_self, X.bool, X.den, denL, d_wrap, d_kind, d_not, d_neg, d_slen, d_add, d_sub, d_mul, d_div, d_mod, d_lt, d_le, d_eq, d_eqb, d_eqs, d_lts, d_cat, d_sat, d_and, d_or, denSub, denIte, asB, winds_len, winds_cell, winds_lsub, v1, v2, v100, vs, sym4, sym5, sym6, sym20, Int.toNat_natCast, Int.toNat_zero, List.drop_zero, hp, Option.bind_some, wind0, wind1, wind2, wind3, wind4, wind5, wind6, wind7, wind8]
  · cases hp : l[i]? with
    | none =>
      have hge := List.getElem?_eq_none_iff.1 hp
      have hge' : ¬ (i : Int) < l.length := by omega
      simp only [rCheck0_l, EndsOk, WaysOk, forall_cons, forall_nil, TgtOk, gpair, FactsIn, hold_cons, hold_nil, Option.some.injEq, Value.bool.injEq, Value.int.injEq, decide_eq_true_eq, decide_eq_false_iff_not, and_true, true_and, and_imp, X.bool, X.den, denL, d_wrap, d_kind, d_not, d_neg, d_slen, d_add, d_sub, d_mul, d_div, d_mod, d_lt, d_le, d_eq, d_eqb, d_eqs, d_lts, d_cat, d_sat, d_and, d_or, denSub, denIte, asB, winds_len, winds_cell, winds_lsub, beq_iff_eq, beq_eq_false_iff_ne, ne_eq, v1, v2, v100, vs, h1, h2, hsy, sym4, sym5, sym6, sym20, Int.toNat_natCast, Int.toNat_zero, List.drop_zero, hp, hge']
      have hi' : i = l.length := by omega
      subst hi'
      rw [List.drop_length] at hall
      simp [hall, chkGo]
    | some p =>
      have hlt : i < l.length := (List.getElem?_eq_some_iff.1 hp).1
      have hlt1 : (i : Int) < l.length := by omega
      rw [chkGo_step hp] at hall
      simp only [rCheck0_l, EndsOk, WaysOk, forall_cons, forall_nil, TgtOk, gpair, FactsIn, hold_cons, hold_nil, Option.some.injEq, Value.bool.injEq, Value.int.injEq, decide_eq_true_eq, decide_eq_false_iff_not, and_true, true_and, and_imp, X.bool, X.den, denL, d_wrap, d_kind, d_not, d_neg, d_slen, d_add, d_sub, d_mul, d_div, d_mod, d_lt, d_le, d_eq, d_eqb, d_eqs, d_lts, d_cat, d_sat, d_and, d_or, denSub, denIte, asB, winds_len, winds_cell, winds_lsub, beq_iff_eq, beq_eq_false_iff_ne, ne_eq, v1, v2, v100, vs, h1, h2, hsy, sym4, sym5, sym6, sym20, Int.toNat_natCast, Int.toNat_zero, List.drop_zero, hp, Option.bind_some, wind0, wind1, wind2, wind3, wind4, wind5, wind6, wind7, wind8, hlt1, hl20]
      have go : refusedE (l.take i) p = 0 →
          ∃ vals', ((ρ.ext rCheck_D.N vals').val 100 = some (.int .i64 (IntKind.i64.wrap ((i : Int) + 1)))) ∧
            rCheck_Inv l 0 vals' ∧ rCheck_mu l 0 vals' < rCheck_mu l 0 [.int .i64 i] := by
        intro e
        refine ⟨[.int .i64 ((i + 1 : Nat) : Int)], ?_, ⟨rfl, i + 1, by omega, rfl, ?_⟩, ?_⟩
        · rw [ext_high _ _ _ _ (by rw [hN]; omega), IntWalk.i64_in _ (by omega)]; rfl
        · rw [hall, if_pos e]
        · simp [rCheck_mu, vI]; omega
      (repeat' apply And.intro) <;> intros <;> first
        | (exfalso; omega)
        | (exact go (by assumption))
        | (rename_i e _ _ _ _ _ _; rw [if_neg e] at hall; simp [hall, e]; done)
        | (rename_i e _ _ _ _ _; rw [if_neg e] at hall; simp [hall, e]; done)
        | (rename_i e _ _ _ _; rw [if_neg e] at hall; simp [hall, e]; done)
        | (simp_all; done)
noncomputable def rCheck_con : Con := { f := 6, args := [windsArg 0 0], N := 1, M := 1, pre := [(.app 20 [.var 1], true)], out := .tuple [.sint .i64 (.app 5 [.var 1]), .sint .i64 (.app 6 [.var 1])], news := [] }
noncomputable def rCheck_call : Env → CallL := fun E => acallAll E (evH E (LR3 E) ((fun E => oneH 6 (hooks [(2, rCheck_D.hook E.facts rCheck_vs)])) E) 4)
noncomputable def rCheck_t : GTree := (.fork (.op2 .eq (.app 6 [(.var 1)]) (.num 0)) (.leaf [[]]) (.leaf [[]]))
noncomputable def rCheck_l : List (List (X × Bool) × Option Pairs) := [([((.op2 .eq (.app 6 [(.var 1)]) (.num 0)), true), ((.app 20 [(.var 1)]), true)], some [((.app 5 [(.var 1)]), (.num 0)), ((.app 6 [(.var 1)]), (.num 0))]),
  ([((.op2 .eq (.app 6 [(.var 1)]) (.num 0)), false), ((.app 20 [(.var 1)]), true)], some [((.app 5 [(.var 1)]), (.app 5 [(.var 1)])), ((.app 6 [(.var 1)]), (.app 6 [(.var 1)]))])]
theorem rCheck_w (r : Rho) : rCheck_con.fn.ways rCheck_call E0 r rCheck_con.pre rCheck_t = some rCheck_l := by kernel_rfl
theorem rCheck_H {r : Rho} {l : List Wind} {kc : IntKind} {cap : Int} (h1 : r.val 1 = some (windsR l)) (h2 : r.val 2 = some (.int kc cap)) (hcap : (l.length : Int) ≤ cap) (hsy : r.sym = sy) (F : List (X × Bool)) :
    LoopsOk (E0.with F r) (oneH 6 (hooks [(2, rCheck_D.hook (E0.with F r).facts rCheck_vs)])) := by
  refine loops_all (n := 1) (fun f fn h => h) (by kernel_rfl) fun i hi => ?_
  obtain rfl : i = 0 := by omega
  rw [hooks_hit (show keyOf (loopAt (E0.with F r).P 6 0) = 2 by kernel_rfl)]
  refine hook_ok (E₀ := E0) (run := rCheck_run) (ρ := r) (Inv := rCheck_Inv l) (μ := rCheck_mu l) E0_ok rCheck_ok (fun F r' h => ?_) (fun hpre => ⟨rCheck_step h1 h2 hcap hsy (by have := hpre; simp only [rCheck_D, FactsIn, X.bool, X.den, denL, d_wrap, d_kind, d_not, d_neg, d_slen, d_add, d_sub, d_mul, d_div, d_mod, d_lt, d_le, d_eq, d_eqb, d_eqs, d_lts, d_cat, d_sat, d_and, d_or, denSub, denIte, asB, winds_len, winds_cell, winds_lsub, h1, hsy, sym20, Option.some.injEq, Value.bool.injEq, and_true] at this; exact this), [.int .i64 0], ?_, rfl, 0, Nat.zero_le _, rfl, rfl⟩)
  · exact bodyRun_ok E0_ok (LR3_ok F (h.trans hsy)) fun _ _ => noLoop_ok
  · simp only [rCheck_vs, X.bool, X.den, denL, d_wrap, d_kind, d_not, d_neg, d_slen, d_add, d_sub, d_mul, d_div, d_mod, d_lt, d_le, d_eq, d_eqb, d_eqs, d_lts, d_cat, d_sat, d_and, d_or, denSub, denIte, asB, winds_len, winds_cell, winds_lsub]

theorem rCheck_cok : rCheck_con.Ok Tryz.prog sy := by
  intro r σ w us hsy hρ hpre hrel hins
  obtain ⟨u0, us, rfl, g0, hi⟩ := ins_cons hins
  obtain ⟨l, h1⟩ := winds_at hrel (i := 0) rfl
  have h1 : σ.rho.val 1 = some (windsR l) := h1
  obtain ⟨kc, cap, h2, hcap⟩ := winds_cap g0 h1
  rw [hρ] at h1 h2
  have h2 : r.val 2 = some (.int kc cap) := h2
  refine con_of (E := E0) E0_ok E0_glob (sy := sy) (fun F => LR3_ok F hsy) (fun F => rCheck_H h1 h2 hcap hsy F) (rCheck_w r) hρ hpre hrel hins ?_ ?_
  · simp only [rCheck_con, rCheck_t, AsksL, GTree.asks, FTree.asks, FactsIn, List.append_nil, List.nil_append, List.cons_append, Option.some.injEq, exists_eq', implies_true, and_self, X.bool, X.den, denL, d_wrap, d_kind, d_not, d_neg, d_slen, d_add, d_sub, d_mul, d_div, d_mod, d_lt, d_le, d_eq, d_eqb, d_eqs, d_lts, d_cat, d_sat, d_and, d_or, denSub, denIte, asB, winds_len, winds_cell, winds_lsub, h1, hsy, sym5, sym6, sym20]
  · simp only [rCheck_l, EndsOk, WaysOk, forall_cons, forall_nil, TgtOk, gpair, FactsIn, hold_cons, hold_nil, Option.some.injEq, Value.bool.injEq, Value.int.injEq, decide_eq_true_eq, decide_eq_false_iff_not, and_true, true_and, and_imp, X.bool, X.den, denL, d_wrap, d_kind, d_not, d_neg, d_slen, d_add, d_sub, d_mul, d_div, d_mod, d_lt, d_le, d_eq, d_eqb, d_eqs, d_lts, d_cat, d_sat, d_and, d_or, denSub, denIte, asB, winds_len, winds_cell, winds_lsub, beq_iff_eq, beq_eq_false_iff_ne, ne_eq, h1, hsy, sym5, sym6, sym20]
    have h00 : (checkR l).2 = 0 → (checkR l).1 = 0 := check00 l
    (repeat' apply And.intro) <;> intros <;> simp_all
noncomputable def LR4 : Env → CallE := libs [cLib refused_con, cLib rCheck_con]
theorem LR4_ok (F : List (X × Bool)) {r : Rho} (h : r.sym = sy) : CallsOk (E0.with F r) (LR4 (E0.with F r)) := libs_ok fun c hc => by
  simp only [List.mem_cons, List.not_mem_nil, or_false] at hc
  rcases hc with rfl | rfl
  · exact lib_ok (E := E0) refused_cok F h
  · exact lib_ok (E := E0) rCheck_cok F h

noncomputable def rAppendNo_con : Con := { f := 8, args := [windsArg 0 0, .agg (windLeaves 3)], N := 1, M := 1, pre := [(.app 20 [.var 1], true), (.op2 .eq (.app 11 [.var 1, .var 3, .var 4, .var 5, .var 6, .var 7, .var 8, .var 9, .var 10, .var 11]) (.num 0), false)], out := .tuple [.nilslice, .sint .i64 (.app 11 [.var 1, .var 3, .var 4, .var 5, .var 6, .var 7, .var 8, .var 9, .var 10, .var 11])], news := [] }
noncomputable def rAppendNo_call : Env → CallL := fun E => acallAll E (evH E (LR4 E) ((fun _ => noLoops) E) 4)
noncomputable def rAppendNo_t : GTree := (.fork (.op2 .eq (.app 6 [(.var 1)]) (.num 0)) (.fork (.op2 .eq (.app 4 [(.var 1), (.var 3), (.var 4), (.var 5), (.var 6), (.var 7), (.var 8), (.var 9), (.var 10), (.var 11)]) (.num 0)) (.fork (.op2 .lt (.num 1000000000) (.op1 .len (.var 1))) .bad (.fork (.op2 .lt (.num 1000000000) (.op2 .add (.op1 .len (.var 1)) (.num 1))) .bad .bad)) (.leaf [[]])) (.leaf [[]]))
noncomputable def rAppendNo_l : List (List (X × Bool) × Option Pairs) := [([((.op2 .lt (.num 1000000000) (.op1 .len (.var 1))), true), ((.op2 .eq (.app 4 [(.var 1), (.var 3), (.var 4), (.var 5), (.var 6), (.var 7), (.var 8), (.var 9), (.var 10), (.var 11)]) (.num 0)), true), ((.op2 .eq (.app 6 [(.var 1)]) (.num 0)), true), ((.app 20 [(.var 1)]), true), ((.op2 .eq (.app 11 [(.var 1), (.var 3), (.var 4), (.var 5), (.var 6), (.var 7), (.var 8), (.var 9), (.var 10), (.var 11)]) (.num 0)), false)], none),
  ([((.op2 .lt (.num 1000000000) (.op2 .add (.op1 .len (.var 1)) (.num 1))), true), ((.op2 .lt (.num 1000000000) (.op1 .len (.var 1))), false), ((.op2 .eq (.app 4 [(.var 1), (.var 3), (.var 4), (.var 5), (.var 6), (.var 7), (.var 8), (.var 9), (.var 10), (.var 11)]) (.num 0)), true), ((.op2 .eq (.app 6 [(.var 1)]) (.num 0)), true), ((.app 20 [(.var 1)]), true), ((.op2 .eq (.app 11 [(.var 1), (.var 3), (.var 4), (.var 5), (.var 6), (.var 7), (.var 8), (.var 9), (.var 10), (.var 11)]) (.num 0)), false)], none),
  ([((.op2 .lt (.num 1000000000) (.op2 .add (.op1 .len (.var 1)) (.num 1))), false), ((.op2 .lt (.num 1000000000) (.op1 .len (.var 1))), false), ((.op2 .eq (.app 4 [(.var 1), (.var 3), (.var 4), (.var 5), (.var 6), (.var 7), (.var 8), (.var 9), (.var 10), (.var 11)]) (.num 0)), true), ((.op2 .eq (.app 6 [(.var 1)]) (.num 0)), true), ((.app 20 [(.var 1)]), true), ((.op2 .eq (.app 11 [(.var 1), (.var 3), (.var 4), (.var 5), (.var 6), (.var 7), (.var 8), (.var 9), (.var 10), (.var 11)]) (.num 0)), false)], none),
  ([((.op2 .eq (.app 4 [(.var 1), (.var 3), (.var 4), (.var 5), (.var 6), (.var 7), (.var 8), (.var 9), (.var 10), (.var 11)]) (.num 0)), false), ((.op2 .eq (.app 6 [(.var 1)]) (.num 0)), true), ((.app 20 [(.var 1)]), true), ((.op2 .eq (.app 11 [(.var 1), (.var 3), (.var 4), (.var 5), (.var 6), (.var 7), (.var 8), (.var 9), (.var 10), (.var 11)]) (.num 0)), false)], some [((.app 11 [(.var 1), (.var 3), (.var 4), (.var 5), (.var 6), (.var 7), (.var 8), (.var 9), (.var 10), (.var 11)]), (.app 4 [(.var 1), (.var 3), (.var 4), (.var 5), (.var 6), (.var 7), (.var 8), (.var 9), (.var 10), (.var 11)]))]),
  ([((.op2 .eq (.app 6 [(.var 1)]) (.num 0)), false), ((.app 20 [(.var 1)]), true), ((.op2 .eq (.app 11 [(.var 1), (.var 3), (.var 4), (.var 5), (.var 6), (.var 7), (.var 8), (.var 9), (.var 10), (.var 11)]) (.num 0)), false)], some [((.app 11 [(.var 1), (.var 3), (.var 4), (.var 5), (.var 6), (.var 7), (.var 8), (.var 9), (.var 10), (.var 11)]), (.app 6 [(.var 1)]))])]
theorem rAppendNo_w (r : Rho) : rAppendNo_con.fn.ways rAppendNo_call E0 r rAppendNo_con.pre rAppendNo_t = some rAppendNo_l := by kernel_rfl
theorem rAppendNo_cok : rAppendNo_con.Ok Tryz.prog sy := by
  intro r σ w us hsy hρ hpre hrel hins
  obtain ⟨u0, us, rfl, g0, hi⟩ := ins_cons hins
  obtain ⟨u1, us, rfl, g1, hi⟩ := ins_cons hi
  obtain ⟨x, k, rfl, hp⟩ := wind_agg g1
  obtain ⟨l, h1⟩ := winds_at hrel (i := 0) rfl
  rw [hρ] at hp h1
  have h1 : r.val 1 = some (windsR l) := h1
  have a0 := hp.h0
  have a1 := hp.h1
  have a2 := hp.h2
  have a3 := hp.h3
  have a4 := hp.h4
  have a5 := hp.h5
  have a6 := hp.h6
  have a7 := hp.h7
  have a8 := hp.h8
  simp only [Nat.zero_add, Nat.reduceAdd] at a0 a1 a2 a3 a4 a5 a6 a7 a8

  refine con_of (E := E0) E0_ok E0_glob (sy := sy) (fun F => LR4_ok F hsy) (fun F => noH_ok) (rAppendNo_w r) hρ hpre hrel hins ?_ ?_
  · simp only [rAppendNo_con, rAppendNo_t, AsksL, GTree.asks, FTree.asks, FactsIn, List.append_nil, List.nil_append, List.cons_append, Option.some.injEq, exists_eq', implies_true, and_self, X.bool, X.den, denL, d_wrap, d_kind, d_not, d_neg, d_slen, d_add, d_sub, d_mul, d_div, d_mod, d_lt, d_le, d_eq, d_eqb, d_eqs, d_lts, d_cat, d_sat, d_and, d_or, denSub, denIte, asB, winds_len, winds_cell, winds_lsub, a0, a1, a2, a3, a4, a5, a6, a7, a8, h1, hsy, sym4, sym5, sym6, sym20, sym11, winds_snoc, winds_snoc0, snoc_nil]
  · simp only [rAppendNo_l, EndsOk, WaysOk, forall_cons, forall_nil, TgtOk, gpair, FactsIn, hold_cons, hold_nil, Option.some.injEq, Value.bool.injEq, Value.int.injEq, decide_eq_true_eq, decide_eq_false_iff_not, and_true, true_and, and_imp, X.bool, X.den, denL, d_wrap, d_kind, d_not, d_neg, d_slen, d_add, d_sub, d_mul, d_div, d_mod, d_lt, d_le, d_eq, d_eqb, d_eqs, d_lts, d_cat, d_sat, d_and, d_or, denSub, denIte, asB, winds_len, winds_cell, winds_lsub, beq_iff_eq, beq_eq_false_iff_ne, ne_eq, a0, a1, a2, a3, a4, a5, a6, a7, a8, h1, hsy, sym4, sym5, sym6, sym20, sym11, appendE, winds_snoc, winds_snoc0, snoc_nil]
    have hlen : refusedE l x = 0 → l.length < 200 := refused_len l x
    clear hρ hpre hrel hi hp hins g0 g1 h1 a0 a1 a2 a3 a4 a5 a6 a7 a8
    (repeat' apply And.intro) <;> intros <;> first
      | trivial
      | (simp_all; done)
      | (exfalso; simp_all; omega)
noncomputable def rAppendYes_con : Con := { f := 8, args := [windsArg 0 0, .agg (windLeaves 3)], N := 1, M := 2, pre := [(.app 20 [.var 1], true), (.op2 .eq (.app 11 [.var 1, .var 3, .var 4, .var 5, .var 6, .var 7, .var 8, .var 9, .var 10, .var 11]) (.num 0), true)], out := .tuple [.slo 1 9 (.op2 .add (.op1 .len (.var 1)) (.num 1)), .int .i64 0], news := [(1, .rows 9 windSch (.num 0) (.snoc (.var 1) [.op1 (.kind .i64) (.var 3), .op1 (.kind .i64) (.var 4), .op1 (.kind .i64) (.var 5), .op1 (.kind .i64) (.var 6), .op1 (.kind .i64) (.var 7), .op1 (.kind .i64) (.var 8), .op1 (.kind .i64) (.var 9), .op1 (.kind .i64) (.var 10), .op1 (.kind .i64) (.var 11)]) true 26)] }
noncomputable def rAppendYes_call : Env → CallL := fun E => acallAll E (evH E (LR4 E) ((fun _ => noLoops) E) 4)
noncomputable def rAppendYes_t : GTree := (.fork (.op2 .eq (.app 6 [(.var 1)]) (.num 0)) (.fork (.op2 .eq (.app 4 [(.var 1), (.var 3), (.var 4), (.var 5), (.var 6), (.var 7), (.var 8), (.var 9), (.var 10), (.var 11)]) (.num 0)) (.fork (.op2 .lt (.num 1000000000) (.op1 .len (.var 1))) .bad (.fork (.op2 .lt (.num 1000000000) (.op2 .add (.op1 .len (.var 1)) (.num 1))) .bad (.leaf [[(1, 5)], [(1, 5)], [(1, 5)]]))) .bad) .bad)
noncomputable def rAppendYes_l : List (List (X × Bool) × Option Pairs) := [([((.op2 .lt (.num 1000000000) (.op1 .len (.var 1))), true), ((.op2 .eq (.app 4 [(.var 1), (.var 3), (.var 4), (.var 5), (.var 6), (.var 7), (.var 8), (.var 9), (.var 10), (.var 11)]) (.num 0)), true), ((.op2 .eq (.app 6 [(.var 1)]) (.num 0)), true), ((.app 20 [(.var 1)]), true), ((.op2 .eq (.app 11 [(.var 1), (.var 3), (.var 4), (.var 5), (.var 6), (.var 7), (.var 8), (.var 9), (.var 10), (.var 11)]) (.num 0)), true)], none),
  ([((.op2 .lt (.num 1000000000) (.op2 .add (.op1 .len (.var 1)) (.num 1))), true), ((.op2 .lt (.num 1000000000) (.op1 .len (.var 1))), false), ((.op2 .eq (.app 4 [(.var 1), (.var 3), (.var 4), (.var 5), (.var 6), (.var 7), (.var 8), (.var 9), (.var 10), (.var 11)]) (.num 0)), true), ((.op2 .eq (.app 6 [(.var 1)]) (.num 0)), true), ((.app 20 [(.var 1)]), true), ((.op2 .eq (.app 11 [(.var 1), (.var 3), (.var 4), (.var 5), (.var 6), (.var 7), (.var 8), (.var 9), (.var 10), (.var 11)]) (.num 0)), true)], none),
  ([((.op2 .lt (.num 1000000000) (.op2 .add (.op1 .len (.var 1)) (.num 1))), false), ((.op2 .lt (.num 1000000000) (.op1 .len (.var 1))), false), ((.op2 .eq (.app 4 [(.var 1), (.var 3), (.var 4), (.var 5), (.var 6), (.var 7), (.var 8), (.var 9), (.var 10), (.var 11)]) (.num 0)), true), ((.op2 .eq (.app 6 [(.var 1)]) (.num 0)), true), ((.app 20 [(.var 1)]), true), ((.op2 .eq (.app 11 [(.var 1), (.var 3), (.var 4), (.var 5), (.var 6), (.var 7), (.var 8), (.var 9), (.var 10), (.var 11)]) (.num 0)), true)], some [((.op2 .add (.op1 .len (.var 1)) (.num 1)), (.op2 .add (.op1 .len (.var 1)) (.num 1))), ((.snoc (.var 1) [(.op1 (.kind .i64) (.var 3)), (.op1 (.kind .i64) (.var 4)), (.op1 (.kind .i64) (.var 5)), (.op1 (.kind .i64) (.var 6)), (.op1 (.kind .i64) (.var 7)), (.op1 (.kind .i64) (.var 8)), (.op1 (.kind .i64) (.var 9)), (.op1 (.kind .i64) (.var 10)), (.op1 (.kind .i64) (.var 11))]), (.snoc (.var 1) [(.op1 (.kind .i64) (.var 3)), (.op1 (.kind .i64) (.var 4)), (.op1 (.kind .i64) (.var 5)), (.op1 (.kind .i64) (.var 6)), (.op1 (.kind .i64) (.var 7)), (.op1 (.kind .i64) (.var 8)), (.op1 (.kind .i64) (.var 9)), (.op1 (.kind .i64) (.var 10)), (.op1 (.kind .i64) (.var 11))])), ((.op2 .add (.op1 .len (.var 1)) (.num 1)), (.op2 .add (.op1 .len (.var 1)) (.num 1))), ((.snoc (.var 1) [(.op1 (.kind .i64) (.var 3)), (.op1 (.kind .i64) (.var 4)), (.op1 (.kind .i64) (.var 5)), (.op1 (.kind .i64) (.var 6)), (.op1 (.kind .i64) (.var 7)), (.op1 (.kind .i64) (.var 8)), (.op1 (.kind .i64) (.var 9)), (.op1 (.kind .i64) (.var 10)), (.op1 (.kind .i64) (.var 11))]), (.snoc (.var 1) [(.op1 (.kind .i64) (.var 3)), (.op1 (.kind .i64) (.var 4)), (.op1 (.kind .i64) (.var 5)), (.op1 (.kind .i64) (.var 6)), (.op1 (.kind .i64) (.var 7)), (.op1 (.kind .i64) (.var 8)), (.op1 (.kind .i64) (.var 9)), (.op1 (.kind .i64) (.var 10)), (.op1 (.kind .i64) (.var 11))])), ((.op2 .add (.op1 .len (.var 1)) (.num 1)), (.op2 .add (.op1 .len (.var 1)) (.num 1))), ((.snoc (.var 1) [(.op1 (.kind .i64) (.var 3)), (.op1 (.kind .i64) (.var 4)), (.op1 (.kind .i64) (.var 5)), (.op1 (.kind .i64) (.var 6)), (.op1 (.kind .i64) (.var 7)), (.op1 (.kind .i64) (.var 8)), (.op1 (.kind .i64) (.var 9)), (.op1 (.kind .i64) (.var 10)), (.op1 (.kind .i64) (.var 11))]), (.snoc (.var 1) [(.op1 (.kind .i64) (.var 3)), (.op1 (.kind .i64) (.var 4)), (.op1 (.kind .i64) (.var 5)), (.op1 (.kind .i64) (.var 6)), (.op1 (.kind .i64) (.var 7)), (.op1 (.kind .i64) (.var 8)), (.op1 (.kind .i64) (.var 9)), (.op1 (.kind .i64) (.var 10)), (.op1 (.kind .i64) (.var 11))]))]),
  ([((.op2 .eq (.app 4 [(.var 1), (.var 3), (.var 4), (.var 5), (.var 6), (.var 7), (.var 8), (.var 9), (.var 10), (.var 11)]) (.num 0)), false), ((.op2 .eq (.app 6 [(.var 1)]) (.num 0)), true), ((.app 20 [(.var 1)]), true), ((.op2 .eq (.app 11 [(.var 1), (.var 3), (.var 4), (.var 5), (.var 6), (.var 7), (.var 8), (.var 9), (.var 10), (.var 11)]) (.num 0)), true)], none),
  ([((.op2 .eq (.app 6 [(.var 1)]) (.num 0)), false), ((.app 20 [(.var 1)]), true), ((.op2 .eq (.app 11 [(.var 1), (.var 3), (.var 4), (.var 5), (.var 6), (.var 7), (.var 8), (.var 9), (.var 10), (.var 11)]) (.num 0)), true)], none)]
theorem rAppendYes_w (r : Rho) : rAppendYes_con.fn.ways rAppendYes_call E0 r rAppendYes_con.pre rAppendYes_t = some rAppendYes_l := by kernel_rfl
theorem rAppendYes_cok : rAppendYes_con.Ok Tryz.prog sy := by
  intro r σ w us hsy hρ hpre hrel hins
  obtain ⟨u0, us, rfl, g0, hi⟩ := ins_cons hins
  obtain ⟨u1, us, rfl, g1, hi⟩ := ins_cons hi
  obtain ⟨x, k, rfl, hp⟩ := wind_agg g1
  obtain ⟨l, h1⟩ := winds_at hrel (i := 0) rfl
  rw [hρ] at hp h1
  have h1 : r.val 1 = some (windsR l) := h1
  have a0 := hp.h0
  have a1 := hp.h1
  have a2 := hp.h2
  have a3 := hp.h3
  have a4 := hp.h4
  have a5 := hp.h5
  have a6 := hp.h6
  have a7 := hp.h7
  have a8 := hp.h8
  simp only [Nat.zero_add, Nat.reduceAdd] at a0 a1 a2 a3 a4 a5 a6 a7 a8

  refine con_of (E := E0) E0_ok E0_glob (sy := sy) (fun F => LR4_ok F hsy) (fun F => noH_ok) (rAppendYes_w r) hρ hpre hrel hins ?_ ?_
  · simp only [rAppendYes_con, rAppendYes_t, AsksL, GTree.asks, FTree.asks, FactsIn, List.append_nil, List.nil_append, List.cons_append, Option.some.injEq, exists_eq', implies_true, and_self, X.bool, X.den, denL, d_wrap, d_kind, d_not, d_neg, d_slen, d_add, d_sub, d_mul, d_div, d_mod, d_lt, d_le, d_eq, d_eqb, d_eqs, d_lts, d_cat, d_sat, d_and, d_or, denSub, denIte, asB, winds_len, winds_cell, winds_lsub, a0, a1, a2, a3, a4, a5, a6, a7, a8, h1, hsy, sym4, sym5, sym6, sym20, sym11, winds_snoc, winds_snoc0, snoc_nil]
  · simp only [rAppendYes_l, EndsOk, WaysOk, forall_cons, forall_nil, TgtOk, gpair, FactsIn, hold_cons, hold_nil, Option.some.injEq, Value.bool.injEq, Value.int.injEq, decide_eq_true_eq, decide_eq_false_iff_not, and_true, true_and, and_imp, X.bool, X.den, denL, d_wrap, d_kind, d_not, d_neg, d_slen, d_add, d_sub, d_mul, d_div, d_mod, d_lt, d_le, d_eq, d_eqb, d_eqs, d_lts, d_cat, d_sat, d_and, d_or, denSub, denIte, asB, winds_len, winds_cell, winds_lsub, beq_iff_eq, beq_eq_false_iff_ne, ne_eq, a0, a1, a2, a3, a4, a5, a6, a7, a8, h1, hsy, sym4, sym5, sym6, sym20, sym11, appendE, winds_snoc, winds_snoc0, snoc_nil]
    have hlen : refusedE l x = 0 → l.length < 200 := refused_len l x
    clear hρ hpre hrel hi hp hins g0 g1 h1 a0 a1 a2 a3 a4 a5 a6 a7 a8
    (repeat' apply And.intro) <;> intros <;> first
      | trivial
      | (simp_all; done)
      | (exfalso; simp_all; omega)
end Go.Proofs.YtpjkfjnjbekcaaaGreatDoor.Zs
