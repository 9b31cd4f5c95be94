/-
  Contract of Formed of the reference, kind by kind.
-/
import Derived.Test.YtnahicnoofkfgaaGreatDoorDeDeedE
import Derived.KernelRfl
set_option linter.unusedSimpArgs false
set_option linter.unusedVariables false
namespace Go.Proofs.YtnahicnoofkfgaaGreatDoor.Zs
open Go
set_option linter.unusedSimpArgs false
set_option linter.unusedVariables false

noncomputable def rForm5_con : Con := { f := 94, args := [.agg (deedLeaves 0)], N := 0, M := 0, pre := [(.op2 .eq (.var 3) (.num 6), false), (.op2 .eq (.var 3) (.num 1), false), (.op2 .eq (.var 3) (.num 2), false), (.op2 .eq (.var 3) (.num 3), false), (.op2 .eq (.var 3) (.num 4), false), (.op2 .eq (.var 3) (.num 5), true)], out := .sbool (.app 63 [.var 0, .var 1, .var 2, .var 3, .var 4, .var 5, .var 6, .var 7, .var 8, .var 9, .var 10]), news := [] }
noncomputable def rForm5_call : Env → CallL := fun E => acallAll E (evH E (R5 E) ((fun _ => noLoops) E) 12)
def nfz0 : X := .app 63 [(.var 0), (.var 1), (.var 2), (.var 3), (.var 4), (.var 5), (.var 6), (.var 7), (.var 8), (.var 9), (.var 10)]
def nfz1 : X := .app 10 [(.var 0), (.num 1), (.num 1000000)]
def nfz2 : X := .app 10 [(.var 1), (.num 0), (.num 1000000)]
def nfz3 : X := .app 10 [(.var 2), (.num 0), (.num 1000000)]
def nfz4 : X := .op2 .eq (.var 3) (.num 6)
def nfz5 : X := .op2 .eq (.var 3) (.num 1)
def nfz6 : X := .op2 .eq (.var 3) (.num 2)
def nfz7 : X := .op2 .eq (.var 3) (.num 3)
def nfz8 : X := .op2 .eq (.var 3) (.num 4)
def nfz9 : X := .op2 .eq (.var 3) (.num 5)
def nfz10 : X := .op2 .lt (.var 3) (.num 1)
def nfz11 : X := .op2 .eq (.var 10) (.num 0)
def nfz12 : X := .op2 .lt (.num 3) (.var 3)
def nfz13 : X := .op2 .eq (.var 7) (.num 0)
def nfz14 : X := .app 10 [(.var 7), (.num 1), (.num 40)]
def nfz15 : X := .op2 .eq (.var 8) (.num 0)
def nfz16 : X := .app 51 [(.var 8), (.var 9)]
def nfz17 : X := .op2 .eq (.var 9) (.num 0)
def nfz18 : X := .op2 .lt (.num 0) (.var 8)
def nfz19 : X := .app 10 [(.var 4), (.num 1), (.num 20)]
def nfz20 : X := .app 10 [(.var 5), (.num 1), (.num 200)]
def nfz21 : X := .op2 .eq (.var 7) (.var 6)
def nfz22 : X := .app 10 [(.var 7), (.num 0), (.num 40)]
def nfz23 : X := .op2 .eq (.var 4) (.num 0)
def nfz24 : X := .op2 .lt (.var 9) (.var 8)
def nfz25 : X := .op2 .eq (.var 5) (.num 0)
noncomputable def rForm5_t : GTree := (.fork nfz1 (.fork nfz2 (.fork nfz3 (.fork nfz23 (.fork nfz25 (.fork (.op2 .eq (.var 6) (.num 0)) (.fork nfz13 (.fork nfz15 (.fork nfz17 (.fork (.app 10 [.var 10, .num 1, .num 1000000]) (.leaf [[]]) (.leaf [[]])) (.leaf [[]])) (.leaf [[]])) (.leaf [[]])) (.leaf [[]])) (.leaf [[]])) (.leaf [[]])) (.leaf [[]])) (.leaf [[]])) (.leaf [[]]))
noncomputable def rForm5_l : List (List (X × Bool) × Option Pairs) := [([(.app 10 [.var 10, .num 1, .num 1000000], true), (nfz17, true), (nfz15, true), (nfz13, true), (.op2 .eq (.var 6) (.num 0), true), (nfz25, true), (nfz23, true), (nfz3, true), (nfz2, true), (nfz1, true), (nfz4, false), (nfz5, false), (nfz6, false), (nfz7, false), (nfz8, false), (nfz9, true)], some [(nfz0, .boo true)]),
  ([(.app 10 [.var 10, .num 1, .num 1000000], false), (nfz17, true), (nfz15, true), (nfz13, true), (.op2 .eq (.var 6) (.num 0), true), (nfz25, true), (nfz23, true), (nfz3, true), (nfz2, true), (nfz1, true), (nfz4, false), (nfz5, false), (nfz6, false), (nfz7, false), (nfz8, false), (nfz9, true)], some [(nfz0, .boo false)]),
  ([(nfz17, false), (nfz15, true), (nfz13, true), (.op2 .eq (.var 6) (.num 0), true), (nfz25, true), (nfz23, true), (nfz3, true), (nfz2, true), (nfz1, true), (nfz4, false), (nfz5, false), (nfz6, false), (nfz7, false), (nfz8, false), (nfz9, true)], some [(nfz0, .boo false)]),
  ([(nfz15, false), (nfz13, true), (.op2 .eq (.var 6) (.num 0), true), (nfz25, true), (nfz23, true), (nfz3, true), (nfz2, true), (nfz1, true), (nfz4, false), (nfz5, false), (nfz6, false), (nfz7, false), (nfz8, false), (nfz9, true)], some [(nfz0, .boo false)]),
  ([(nfz13, false), (.op2 .eq (.var 6) (.num 0), true), (nfz25, true), (nfz23, true), (nfz3, true), (nfz2, true), (nfz1, true), (nfz4, false), (nfz5, false), (nfz6, false), (nfz7, false), (nfz8, false), (nfz9, true)], some [(nfz0, .boo false)]),
  ([(.op2 .eq (.var 6) (.num 0), false), (nfz25, true), (nfz23, true), (nfz3, true), (nfz2, true), (nfz1, true), (nfz4, false), (nfz5, false), (nfz6, false), (nfz7, false), (nfz8, false), (nfz9, true)], some [(nfz0, .boo false)]),
  ([(nfz25, false), (nfz23, true), (nfz3, true), (nfz2, true), (nfz1, true), (nfz4, false), (nfz5, false), (nfz6, false), (nfz7, false), (nfz8, false), (nfz9, true)], some [(nfz0, .boo false)]),
  ([(nfz23, false), (nfz3, true), (nfz2, true), (nfz1, true), (nfz4, false), (nfz5, false), (nfz6, false), (nfz7, false), (nfz8, false), (nfz9, true)], some [(nfz0, .boo false)]),
  ([(nfz3, false), (nfz2, true), (nfz1, true), (nfz4, false), (nfz5, false), (nfz6, false), (nfz7, false), (nfz8, false), (nfz9, true)], some [(nfz0, .boo false)]),
  ([(nfz2, false), (nfz1, true), (nfz4, false), (nfz5, false), (nfz6, false), (nfz7, false), (nfz8, false), (nfz9, true)], some [(nfz0, .boo false)]),
  ([(nfz1, false), (nfz4, false), (nfz5, false), (nfz6, false), (nfz7, false), (nfz8, false), (nfz9, true)], some [(nfz0, .boo false)])]
theorem rForm5_w (r : Rho) : rForm5_con.fn.ways rForm5_call E0 r rForm5_con.pre rForm5_t = some rForm5_l := by kernel_rfl
set_option maxRecDepth 100000 in
set_option maxHeartbeats 8000000 in
theorem rForm5_cok : rForm5_con.Ok Tryz.prog sy := by
  intro r σ w us hsy hρ hpre hrel hins
  obtain ⟨u0, us, rfl, g0, hi⟩ := ins_cons hins
  obtain ⟨x, k, rfl, hp⟩ := deed_agg g0
  rw [hρ] at hp
  have a0 := hp.h0
  have a1 := hp.h1
  have a2 := hp.h2
  have a3 := hp.h3
  have a4 := hp.h4
  have a5 := hp.h5
  have a6 := hp.h6
  have a7 := hp.h7
  have a8 := hp.h8
  have a9 := hp.h9
  have a10 := hp.h10
  simp only [Nat.zero_add, Nat.reduceAdd] at a0 a1 a2 a3 a4 a5 a6 a7 a8 a9 a10

  refine con_of (E := E0) E0_ok E0_glob (sy := sy) (fun F => R5_ok F hsy) (fun F => noH_ok) (rForm5_w r) hρ hpre hrel hins ?_ ?_
  · simp only [rForm5_con, rForm5_t, nfz25, nfz24, nfz23, nfz22, nfz21, nfz20, nfz19, nfz18, nfz17, nfz16, nfz15, nfz14, nfz13, nfz12, nfz11, nfz10, nfz9, nfz8, nfz7, nfz6, nfz5, nfz4, nfz3, nfz2, nfz1, nfz0, AsksL, GTree.asks, FTree.asks, FactsIn, List.append_nil, List.nil_append, List.cons_append, Option.some.injEq, exists_eq', implies_true, and_self, X.bool, X.den, denL, d_wrap, d_kind, d_not, d_neg, d_slen, d_add, d_sub, d_mul, d_div, d_mod, d_lt, d_le, d_eq, d_eqb, d_eqs, d_lts, d_cat, d_sat, d_and, d_or, denSub, denIte, asB, fracs_len, fracs_cell, fracs_lsub, deeds_len, deeds_cell, deeds_lsub, a0, a1, a2, a3, a4, a5, a6, a7, a8, a9, a10, hsy, sym10, sym51, sym63, sym64]
  · simp only [rForm5_l, nfz25, nfz24, nfz23, nfz22, nfz21, nfz20, nfz19, nfz18, nfz17, nfz16, nfz15, nfz14, nfz13, nfz12, nfz11, nfz10, nfz9, nfz8, nfz7, nfz6, nfz5, nfz4, nfz3, nfz2, nfz1, nfz0, EndsOk, WaysOk, forall_cons, forall_nil, TgtOk, gpair, FactsIn, hold_cons, hold_nil, Option.some.injEq, Value.bool.injEq, Value.int.injEq, decide_eq_true_eq, decide_eq_false_iff_not, and_true, true_and, and_imp, X.bool, X.den, denL, d_wrap, d_kind, d_not, d_neg, d_slen, d_add, d_sub, d_mul, d_div, d_mod, d_lt, d_le, d_eq, d_eqb, d_eqs, d_lts, d_cat, d_sat, d_and, d_or, denSub, denIte, asB, fracs_len, fracs_cell, fracs_lsub, deeds_len, deeds_cell, deeds_lsub, beq_iff_eq, beq_eq_false_iff_ne, ne_eq, a0, a1, a2, a3, a4, a5, a6, a7, a8, a9, a10, hsy, sym10, sym51, sym63, sym64]
    clear hsy hρ hpre hrel hi hins g0 hp a0 a1 a2 a3 a4 a5 a6 a7 a8 a9 a10
    obtain ⟨id, known, hour, kind, loss, pack, from_, to_, snum, sden, of_⟩ := x
    simp only [formB, ownB, placeB, partB]
    (repeat' apply And.intro) <;> intros <;> first
      | trivial
      | (exfalso; omega)
      | (subst_vars; simp [*]; done)
      | (rw [Bool.eq_iff_iff]; subst_vars; simp [*]; done)
      | (rw [within40]; subst_vars; simp [*]; done)
      | (simp_all [within40]; done)
      | (subst_vars; simp_all; done)
      | (exfalso; simp_all; omega)
      | (simp_all; omega)
noncomputable def rForm6_con : Con := { f := 94, args := [.agg (deedLeaves 0)], N := 0, M := 0, pre := [(.op2 .eq (.var 3) (.num 1), false), (.op2 .eq (.var 3) (.num 2), false), (.op2 .eq (.var 3) (.num 3), false), (.op2 .eq (.var 3) (.num 4), false), (.op2 .eq (.var 3) (.num 6), true), (.op2 .eq (.var 3) (.num 5), false)], out := .sbool (.app 63 [.var 0, .var 1, .var 2, .var 3, .var 4, .var 5, .var 6, .var 7, .var 8, .var 9, .var 10]), news := [] }
noncomputable def rForm6_call : Env → CallL := fun E => acallAll E (evH E (R5 E) ((fun _ => noLoops) E) 12)
noncomputable def rForm6_t : GTree := (.fork nfz1 (.fork nfz2 (.fork nfz3 (.fork nfz23 (.fork nfz25 (.fork (.op2 .eq (.var 6) (.num 0)) (.fork nfz13 (.fork nfz15 (.fork nfz17 (.fork (.app 10 [.var 10, .num 1, .num 1000000]) (.leaf [[]]) (.leaf [[]])) (.leaf [[]])) (.leaf [[]])) (.leaf [[]])) (.leaf [[]])) (.leaf [[]])) (.leaf [[]])) (.leaf [[]])) (.leaf [[]])) (.leaf [[]]))
noncomputable def rForm6_l : List (List (X × Bool) × Option Pairs) := [([(.app 10 [.var 10, .num 1, .num 1000000], true), (nfz17, true), (nfz15, true), (nfz13, true), (.op2 .eq (.var 6) (.num 0), true), (nfz25, true), (nfz23, true), (nfz3, true), (nfz2, true), (nfz1, true), (nfz5, false), (nfz6, false), (nfz7, false), (nfz8, false), (nfz4, true), (nfz9, false)], some [(nfz0, .op2 .eq (.var 2) (.num 0))]),
  ([(.app 10 [.var 10, .num 1, .num 1000000], false), (nfz17, true), (nfz15, true), (nfz13, true), (.op2 .eq (.var 6) (.num 0), true), (nfz25, true), (nfz23, true), (nfz3, true), (nfz2, true), (nfz1, true), (nfz5, false), (nfz6, false), (nfz7, false), (nfz8, false), (nfz4, true), (nfz9, false)], some [(nfz0, .boo false)]),
  ([(nfz17, false), (nfz15, true), (nfz13, true), (.op2 .eq (.var 6) (.num 0), true), (nfz25, true), (nfz23, true), (nfz3, true), (nfz2, true), (nfz1, true), (nfz5, false), (nfz6, false), (nfz7, false), (nfz8, false), (nfz4, true), (nfz9, false)], some [(nfz0, .boo false)]),
  ([(nfz15, false), (nfz13, true), (.op2 .eq (.var 6) (.num 0), true), (nfz25, true), (nfz23, true), (nfz3, true), (nfz2, true), (nfz1, true), (nfz5, false), (nfz6, false), (nfz7, false), (nfz8, false), (nfz4, true), (nfz9, false)], some [(nfz0, .boo false)]),
  ([(nfz13, false), (.op2 .eq (.var 6) (.num 0), true), (nfz25, true), (nfz23, true), (nfz3, true), (nfz2, true), (nfz1, true), (nfz5, false), (nfz6, false), (nfz7, false), (nfz8, false), (nfz4, true), (nfz9, false)], some [(nfz0, .boo false)]),
  ([(.op2 .eq (.var 6) (.num 0), false), (nfz25, true), (nfz23, true), (nfz3, true), (nfz2, true), (nfz1, true), (nfz5, false), (nfz6, false), (nfz7, false), (nfz8, false), (nfz4, true), (nfz9, false)], some [(nfz0, .boo false)]),
  ([(nfz25, false), (nfz23, true), (nfz3, true), (nfz2, true), (nfz1, true), (nfz5, false), (nfz6, false), (nfz7, false), (nfz8, false), (nfz4, true), (nfz9, false)], some [(nfz0, .boo false)]),
  ([(nfz23, false), (nfz3, true), (nfz2, true), (nfz1, true), (nfz5, false), (nfz6, false), (nfz7, false), (nfz8, false), (nfz4, true), (nfz9, false)], some [(nfz0, .boo false)]),
  ([(nfz3, false), (nfz2, true), (nfz1, true), (nfz5, false), (nfz6, false), (nfz7, false), (nfz8, false), (nfz4, true), (nfz9, false)], some [(nfz0, .boo false)]),
  ([(nfz2, false), (nfz1, true), (nfz5, false), (nfz6, false), (nfz7, false), (nfz8, false), (nfz4, true), (nfz9, false)], some [(nfz0, .boo false)]),
  ([(nfz1, false), (nfz5, false), (nfz6, false), (nfz7, false), (nfz8, false), (nfz4, true), (nfz9, false)], some [(nfz0, .boo false)])]
theorem rForm6_w (r : Rho) : rForm6_con.fn.ways rForm6_call E0 r rForm6_con.pre rForm6_t = some rForm6_l := by kernel_rfl
set_option maxRecDepth 100000 in
set_option maxHeartbeats 8000000 in
theorem rForm6_cok : rForm6_con.Ok Tryz.prog sy := by
  intro r σ w us hsy hρ hpre hrel hins
  obtain ⟨u0, us, rfl, g0, hi⟩ := ins_cons hins
  obtain ⟨x, k, rfl, hp⟩ := deed_agg g0
  rw [hρ] at hp
  have a0 := hp.h0
  have a1 := hp.h1
  have a2 := hp.h2
  have a3 := hp.h3
  have a4 := hp.h4
  have a5 := hp.h5
  have a6 := hp.h6
  have a7 := hp.h7
  have a8 := hp.h8
  have a9 := hp.h9
  have a10 := hp.h10
  simp only [Nat.zero_add, Nat.reduceAdd] at a0 a1 a2 a3 a4 a5 a6 a7 a8 a9 a10

  refine con_of (E := E0) E0_ok E0_glob (sy := sy) (fun F => R5_ok F hsy) (fun F => noH_ok) (rForm6_w r) hρ hpre hrel hins ?_ ?_
  · simp only [rForm6_con, rForm6_t, nfz25, nfz24, nfz23, nfz22, nfz21, nfz20, nfz19, nfz18, nfz17, nfz16, nfz15, nfz14, nfz13, nfz12, nfz11, nfz10, nfz9, nfz8, nfz7, nfz6, nfz5, nfz4, nfz3, nfz2, nfz1, nfz0, AsksL, GTree.asks, FTree.asks, FactsIn, List.append_nil, List.nil_append, List.cons_append, Option.some.injEq, exists_eq', implies_true, and_self, X.bool, X.den, denL, d_wrap, d_kind, d_not, d_neg, d_slen, d_add, d_sub, d_mul, d_div, d_mod, d_lt, d_le, d_eq, d_eqb, d_eqs, d_lts, d_cat, d_sat, d_and, d_or, denSub, denIte, asB, fracs_len, fracs_cell, fracs_lsub, deeds_len, deeds_cell, deeds_lsub, a0, a1, a2, a3, a4, a5, a6, a7, a8, a9, a10, hsy, sym10, sym51, sym63, sym64]
  · simp only [rForm6_l, nfz25, nfz24, nfz23, nfz22, nfz21, nfz20, nfz19, nfz18, nfz17, nfz16, nfz15, nfz14, nfz13, nfz12, nfz11, nfz10, nfz9, nfz8, nfz7, nfz6, nfz5, nfz4, nfz3, nfz2, nfz1, nfz0, EndsOk, WaysOk, forall_cons, forall_nil, TgtOk, gpair, FactsIn, hold_cons, hold_nil, Option.some.injEq, Value.bool.injEq, Value.int.injEq, decide_eq_true_eq, decide_eq_false_iff_not, and_true, true_and, and_imp, X.bool, X.den, denL, d_wrap, d_kind, d_not, d_neg, d_slen, d_add, d_sub, d_mul, d_div, d_mod, d_lt, d_le, d_eq, d_eqb, d_eqs, d_lts, d_cat, d_sat, d_and, d_or, denSub, denIte, asB, fracs_len, fracs_cell, fracs_lsub, deeds_len, deeds_cell, deeds_lsub, beq_iff_eq, beq_eq_false_iff_ne, ne_eq, a0, a1, a2, a3, a4, a5, a6, a7, a8, a9, a10, hsy, sym10, sym51, sym63, sym64]
    clear hsy hρ hpre hrel hi hins g0 hp a0 a1 a2 a3 a4 a5 a6 a7 a8 a9 a10
    obtain ⟨id, known, hour, kind, loss, pack, from_, to_, snum, sden, of_⟩ := x
    simp only [formB, ownB, placeB, partB]
    (repeat' apply And.intro) <;> intros <;> first
      | trivial
      | (exfalso; omega)
      | (subst_vars; simp [*]; done)
      | (rw [Bool.eq_iff_iff]; subst_vars; simp [*]; done)
      | (rw [within40]; subst_vars; simp [*]; done)
      | (simp_all [within40]; done)
      | (subst_vars; simp_all; done)
      | (exfalso; simp_all; omega)
      | (simp_all; omega)
noncomputable def rForm1_con : Con := { f := 94, args := [.agg (deedLeaves 0)], N := 0, M := 0, pre := [(.op2 .eq (.var 3) (.num 2), false), (.op2 .eq (.var 3) (.num 3), false), (.op2 .eq (.var 3) (.num 4), false), (.op2 .eq (.var 3) (.num 1), true), (.op2 .eq (.var 3) (.num 6), false), (.op2 .eq (.var 3) (.num 5), false)], out := .sbool (.app 63 [.var 0, .var 1, .var 2, .var 3, .var 4, .var 5, .var 6, .var 7, .var 8, .var 9, .var 10]), news := [] }
noncomputable def rForm1_call : Env → CallL := fun E => acallAll E (evH E (R5 E) ((fun _ => noLoops) E) 12)
noncomputable def rForm1_t : GTree := (.fork nfz1 (.fork nfz2 (.fork nfz3 (.fork nfz10 (.fork nfz16 (.fork nfz18 (.fork nfz13 (.fork nfz11 (.leaf [[]]) (.leaf [[]])) (.leaf [[]])) (.fork nfz13 (.fork nfz11 (.leaf [[]]) (.leaf [[]])) (.leaf [[]]))) (.fork nfz13 (.fork nfz11 (.leaf [[]]) (.leaf [[]])) (.leaf [[]]))) (.fork nfz12 (.fork nfz16 (.fork nfz18 (.fork nfz13 (.fork nfz11 (.leaf [[]]) (.leaf [[]])) (.leaf [[]])) (.fork nfz13 (.fork nfz11 (.leaf [[]]) (.leaf [[]])) (.leaf [[]]))) (.fork nfz13 (.fork nfz11 (.leaf [[]]) (.leaf [[]])) (.leaf [[]]))) (.fork nfz16 (.fork nfz18 (.fork nfz14 (.fork nfz11 (.fork nfz24 (.leaf [[]]) (.fork nfz21 (.leaf [[]]) (.fork nfz19 (.fork nfz20 (.leaf [[]]) (.leaf [[]])) (.leaf [[]])))) (.leaf [[]])) (.fork nfz11 (.fork nfz24 (.leaf [[]]) (.leaf [[]])) (.leaf [[]]))) (.fork nfz14 (.fork nfz11 (.leaf [[]]) (.leaf [[]])) (.fork nfz11 (.leaf [[]]) (.leaf [[]])))) (.fork nfz14 (.fork nfz11 (.leaf [[]]) (.leaf [[]])) (.fork nfz11 (.leaf [[]]) (.leaf [[]])))))) (.leaf [[]])) (.leaf [[]])) (.leaf [[]]))
noncomputable def rForm1_l : List (List (X × Bool) × Option Pairs) := [([(nfz11, true), (nfz13, true), (nfz18, true), (nfz16, true), (nfz10, true), (nfz3, true), (nfz2, true), (nfz1, true), (nfz6, false), (nfz7, false), (nfz8, false), (nfz5, true), (nfz4, false), (nfz9, false)], some [(nfz0, .boo false)]),
  ([(nfz11, false), (nfz13, true), (nfz18, true), (nfz16, true), (nfz10, true), (nfz3, true), (nfz2, true), (nfz1, true), (nfz6, false), (nfz7, false), (nfz8, false), (nfz5, true), (nfz4, false), (nfz9, false)], some [(nfz0, .boo false)]),
  ([(nfz13, false), (nfz18, true), (nfz16, true), (nfz10, true), (nfz3, true), (nfz2, true), (nfz1, true), (nfz6, false), (nfz7, false), (nfz8, false), (nfz5, true), (nfz4, false), (nfz9, false)], some [(nfz0, .boo false)]),
  ([(nfz11, true), (nfz13, true), (nfz18, false), (nfz16, true), (nfz10, true), (nfz3, true), (nfz2, true), (nfz1, true), (nfz6, false), (nfz7, false), (nfz8, false), (nfz5, true), (nfz4, false), (nfz9, false)], some [(nfz0, .boo false)]),
  ([(nfz11, false), (nfz13, true), (nfz18, false), (nfz16, true), (nfz10, true), (nfz3, true), (nfz2, true), (nfz1, true), (nfz6, false), (nfz7, false), (nfz8, false), (nfz5, true), (nfz4, false), (nfz9, false)], some [(nfz0, .boo false)]),
  ([(nfz13, false), (nfz18, false), (nfz16, true), (nfz10, true), (nfz3, true), (nfz2, true), (nfz1, true), (nfz6, false), (nfz7, false), (nfz8, false), (nfz5, true), (nfz4, false), (nfz9, false)], some [(nfz0, .boo false)]),
  ([(nfz11, true), (nfz13, true), (nfz16, false), (nfz10, true), (nfz3, true), (nfz2, true), (nfz1, true), (nfz6, false), (nfz7, false), (nfz8, false), (nfz5, true), (nfz4, false), (nfz9, false)], some [(nfz0, .boo false)]),
  ([(nfz11, false), (nfz13, true), (nfz16, false), (nfz10, true), (nfz3, true), (nfz2, true), (nfz1, true), (nfz6, false), (nfz7, false), (nfz8, false), (nfz5, true), (nfz4, false), (nfz9, false)], some [(nfz0, .boo false)]),
  ([(nfz13, false), (nfz16, false), (nfz10, true), (nfz3, true), (nfz2, true), (nfz1, true), (nfz6, false), (nfz7, false), (nfz8, false), (nfz5, true), (nfz4, false), (nfz9, false)], some [(nfz0, .boo false)]),
  ([(nfz11, true), (nfz13, true), (nfz18, true), (nfz16, true), (nfz12, true), (nfz10, false), (nfz3, true), (nfz2, true), (nfz1, true), (nfz6, false), (nfz7, false), (nfz8, false), (nfz5, true), (nfz4, false), (nfz9, false)], some [(nfz0, .boo false)]),
  ([(nfz11, false), (nfz13, true), (nfz18, true), (nfz16, true), (nfz12, true), (nfz10, false), (nfz3, true), (nfz2, true), (nfz1, true), (nfz6, false), (nfz7, false), (nfz8, false), (nfz5, true), (nfz4, false), (nfz9, false)], some [(nfz0, .boo false)]),
  ([(nfz13, false), (nfz18, true), (nfz16, true), (nfz12, true), (nfz10, false), (nfz3, true), (nfz2, true), (nfz1, true), (nfz6, false), (nfz7, false), (nfz8, false), (nfz5, true), (nfz4, false), (nfz9, false)], some [(nfz0, .boo false)]),
  ([(nfz11, true), (nfz13, true), (nfz18, false), (nfz16, true), (nfz12, true), (nfz10, false), (nfz3, true), (nfz2, true), (nfz1, true), (nfz6, false), (nfz7, false), (nfz8, false), (nfz5, true), (nfz4, false), (nfz9, false)], some [(nfz0, .boo false)]),
  ([(nfz11, false), (nfz13, true), (nfz18, false), (nfz16, true), (nfz12, true), (nfz10, false), (nfz3, true), (nfz2, true), (nfz1, true), (nfz6, false), (nfz7, false), (nfz8, false), (nfz5, true), (nfz4, false), (nfz9, false)], some [(nfz0, .boo false)]),
  ([(nfz13, false), (nfz18, false), (nfz16, true), (nfz12, true), (nfz10, false), (nfz3, true), (nfz2, true), (nfz1, true), (nfz6, false), (nfz7, false), (nfz8, false), (nfz5, true), (nfz4, false), (nfz9, false)], some [(nfz0, .boo false)]),
  ([(nfz11, true), (nfz13, true), (nfz16, false), (nfz12, true), (nfz10, false), (nfz3, true), (nfz2, true), (nfz1, true), (nfz6, false), (nfz7, false), (nfz8, false), (nfz5, true), (nfz4, false), (nfz9, false)], some [(nfz0, .boo false)]),
  ([(nfz11, false), (nfz13, true), (nfz16, false), (nfz12, true), (nfz10, false), (nfz3, true), (nfz2, true), (nfz1, true), (nfz6, false), (nfz7, false), (nfz8, false), (nfz5, true), (nfz4, false), (nfz9, false)], some [(nfz0, .boo false)]),
  ([(nfz13, false), (nfz16, false), (nfz12, true), (nfz10, false), (nfz3, true), (nfz2, true), (nfz1, true), (nfz6, false), (nfz7, false), (nfz8, false), (nfz5, true), (nfz4, false), (nfz9, false)], some [(nfz0, .boo false)]),
  ([(nfz24, true), (nfz11, true), (nfz14, true), (nfz18, true), (nfz16, true), (nfz12, false), (nfz10, false), (nfz3, true), (nfz2, true), (nfz1, true), (nfz6, false), (nfz7, false), (nfz8, false), (nfz5, true), (nfz4, false), (nfz9, false)], some [(nfz0, .boo false)]),
  ([(nfz21, true), (nfz24, false), (nfz11, true), (nfz14, true), (nfz18, true), (nfz16, true), (nfz12, false), (nfz10, false), (nfz3, true), (nfz2, true), (nfz1, true), (nfz6, false), (nfz7, false), (nfz8, false), (nfz5, true), (nfz4, false), (nfz9, false)], some [(nfz0, .boo false)]),
  ([(nfz20, true), (nfz19, true), (nfz21, false), (nfz24, false), (nfz11, true), (nfz14, true), (nfz18, true), (nfz16, true), (nfz12, false), (nfz10, false), (nfz3, true), (nfz2, true), (nfz1, true), (nfz6, false), (nfz7, false), (nfz8, false), (nfz5, true), (nfz4, false), (nfz9, false)], some [(nfz0, .app 10 [.var 6, .num 1, .num 40])]),
  ([(nfz20, false), (nfz19, true), (nfz21, false), (nfz24, false), (nfz11, true), (nfz14, true), (nfz18, true), (nfz16, true), (nfz12, false), (nfz10, false), (nfz3, true), (nfz2, true), (nfz1, true), (nfz6, false), (nfz7, false), (nfz8, false), (nfz5, true), (nfz4, false), (nfz9, false)], some [(nfz0, .boo false)]),
  ([(nfz19, false), (nfz21, false), (nfz24, false), (nfz11, true), (nfz14, true), (nfz18, true), (nfz16, true), (nfz12, false), (nfz10, false), (nfz3, true), (nfz2, true), (nfz1, true), (nfz6, false), (nfz7, false), (nfz8, false), (nfz5, true), (nfz4, false), (nfz9, false)], some [(nfz0, .boo false)]),
  ([(nfz11, false), (nfz14, true), (nfz18, true), (nfz16, true), (nfz12, false), (nfz10, false), (nfz3, true), (nfz2, true), (nfz1, true), (nfz6, false), (nfz7, false), (nfz8, false), (nfz5, true), (nfz4, false), (nfz9, false)], some [(nfz0, .boo false)]),
  ([(nfz24, true), (nfz11, true), (nfz14, false), (nfz18, true), (nfz16, true), (nfz12, false), (nfz10, false), (nfz3, true), (nfz2, true), (nfz1, true), (nfz6, false), (nfz7, false), (nfz8, false), (nfz5, true), (nfz4, false), (nfz9, false)], some [(nfz0, .boo false)]),
  ([(nfz24, false), (nfz11, true), (nfz14, false), (nfz18, true), (nfz16, true), (nfz12, false), (nfz10, false), (nfz3, true), (nfz2, true), (nfz1, true), (nfz6, false), (nfz7, false), (nfz8, false), (nfz5, true), (nfz4, false), (nfz9, false)], some [(nfz0, .boo false)]),
  ([(nfz11, false), (nfz14, false), (nfz18, true), (nfz16, true), (nfz12, false), (nfz10, false), (nfz3, true), (nfz2, true), (nfz1, true), (nfz6, false), (nfz7, false), (nfz8, false), (nfz5, true), (nfz4, false), (nfz9, false)], some [(nfz0, .boo false)]),
  ([(nfz11, true), (nfz14, true), (nfz18, false), (nfz16, true), (nfz12, false), (nfz10, false), (nfz3, true), (nfz2, true), (nfz1, true), (nfz6, false), (nfz7, false), (nfz8, false), (nfz5, true), (nfz4, false), (nfz9, false)], some [(nfz0, .boo false)]),
  ([(nfz11, false), (nfz14, true), (nfz18, false), (nfz16, true), (nfz12, false), (nfz10, false), (nfz3, true), (nfz2, true), (nfz1, true), (nfz6, false), (nfz7, false), (nfz8, false), (nfz5, true), (nfz4, false), (nfz9, false)], some [(nfz0, .boo false)]),
  ([(nfz11, true), (nfz14, false), (nfz18, false), (nfz16, true), (nfz12, false), (nfz10, false), (nfz3, true), (nfz2, true), (nfz1, true), (nfz6, false), (nfz7, false), (nfz8, false), (nfz5, true), (nfz4, false), (nfz9, false)], some [(nfz0, .boo false)]),
  ([(nfz11, false), (nfz14, false), (nfz18, false), (nfz16, true), (nfz12, false), (nfz10, false), (nfz3, true), (nfz2, true), (nfz1, true), (nfz6, false), (nfz7, false), (nfz8, false), (nfz5, true), (nfz4, false), (nfz9, false)], some [(nfz0, .boo false)]),
  ([(nfz11, true), (nfz14, true), (nfz16, false), (nfz12, false), (nfz10, false), (nfz3, true), (nfz2, true), (nfz1, true), (nfz6, false), (nfz7, false), (nfz8, false), (nfz5, true), (nfz4, false), (nfz9, false)], some [(nfz0, .boo false)]),
  ([(nfz11, false), (nfz14, true), (nfz16, false), (nfz12, false), (nfz10, false), (nfz3, true), (nfz2, true), (nfz1, true), (nfz6, false), (nfz7, false), (nfz8, false), (nfz5, true), (nfz4, false), (nfz9, false)], some [(nfz0, .boo false)]),
  ([(nfz11, true), (nfz14, false), (nfz16, false), (nfz12, false), (nfz10, false), (nfz3, true), (nfz2, true), (nfz1, true), (nfz6, false), (nfz7, false), (nfz8, false), (nfz5, true), (nfz4, false), (nfz9, false)], some [(nfz0, .boo false)]),
  ([(nfz11, false), (nfz14, false), (nfz16, false), (nfz12, false), (nfz10, false), (nfz3, true), (nfz2, true), (nfz1, true), (nfz6, false), (nfz7, false), (nfz8, false), (nfz5, true), (nfz4, false), (nfz9, false)], some [(nfz0, .boo false)]),
  ([(nfz3, false), (nfz2, true), (nfz1, true), (nfz6, false), (nfz7, false), (nfz8, false), (nfz5, true), (nfz4, false), (nfz9, false)], some [(nfz0, .boo false)]),
  ([(nfz2, false), (nfz1, true), (nfz6, false), (nfz7, false), (nfz8, false), (nfz5, true), (nfz4, false), (nfz9, false)], some [(nfz0, .boo false)]),
  ([(nfz1, false), (nfz6, false), (nfz7, false), (nfz8, false), (nfz5, true), (nfz4, false), (nfz9, false)], some [(nfz0, .boo false)])]
theorem rForm1_w (r : Rho) : rForm1_con.fn.ways rForm1_call E0 r rForm1_con.pre rForm1_t = some rForm1_l := by kernel_rfl
set_option maxRecDepth 100000 in
set_option maxHeartbeats 8000000 in
theorem rForm1_cok : rForm1_con.Ok Tryz.prog sy := by
  intro r σ w us hsy hρ hpre hrel hins
  obtain ⟨u0, us, rfl, g0, hi⟩ := ins_cons hins
  obtain ⟨x, k, rfl, hp⟩ := deed_agg g0
  rw [hρ] at hp
  have a0 := hp.h0
  have a1 := hp.h1
  have a2 := hp.h2
  have a3 := hp.h3
  have a4 := hp.h4
  have a5 := hp.h5
  have a6 := hp.h6
  have a7 := hp.h7
  have a8 := hp.h8
  have a9 := hp.h9
  have a10 := hp.h10
  simp only [Nat.zero_add, Nat.reduceAdd] at a0 a1 a2 a3 a4 a5 a6 a7 a8 a9 a10

  refine con_of (E := E0) E0_ok E0_glob (sy := sy) (fun F => R5_ok F hsy) (fun F => noH_ok) (rForm1_w r) hρ hpre hrel hins ?_ ?_
  · simp only [rForm1_con, rForm1_t, nfz25, nfz24, nfz23, nfz22, nfz21, nfz20, nfz19, nfz18, nfz17, nfz16, nfz15, nfz14, nfz13, nfz12, nfz11, nfz10, nfz9, nfz8, nfz7, nfz6, nfz5, nfz4, nfz3, nfz2, nfz1, nfz0, AsksL, GTree.asks, FTree.asks, FactsIn, List.append_nil, List.nil_append, List.cons_append, Option.some.injEq, exists_eq', implies_true, and_self, X.bool, X.den, denL, d_wrap, d_kind, d_not, d_neg, d_slen, d_add, d_sub, d_mul, d_div, d_mod, d_lt, d_le, d_eq, d_eqb, d_eqs, d_lts, d_cat, d_sat, d_and, d_or, denSub, denIte, asB, fracs_len, fracs_cell, fracs_lsub, deeds_len, deeds_cell, deeds_lsub, a0, a1, a2, a3, a4, a5, a6, a7, a8, a9, a10, hsy, sym10, sym51, sym63, sym64]
  · simp only [rForm1_l, nfz25, nfz24, nfz23, nfz22, nfz21, nfz20, nfz19, nfz18, nfz17, nfz16, nfz15, nfz14, nfz13, nfz12, nfz11, nfz10, nfz9, nfz8, nfz7, nfz6, nfz5, nfz4, nfz3, nfz2, nfz1, nfz0, EndsOk, WaysOk, forall_cons, forall_nil, TgtOk, gpair, FactsIn, hold_cons, hold_nil, Option.some.injEq, Value.bool.injEq, Value.int.injEq, decide_eq_true_eq, decide_eq_false_iff_not, and_true, true_and, and_imp, X.bool, X.den, denL, d_wrap, d_kind, d_not, d_neg, d_slen, d_add, d_sub, d_mul, d_div, d_mod, d_lt, d_le, d_eq, d_eqb, d_eqs, d_lts, d_cat, d_sat, d_and, d_or, denSub, denIte, asB, fracs_len, fracs_cell, fracs_lsub, deeds_len, deeds_cell, deeds_lsub, beq_iff_eq, beq_eq_false_iff_ne, ne_eq, a0, a1, a2, a3, a4, a5, a6, a7, a8, a9, a10, hsy, sym10, sym51, sym63, sym64]
    clear hsy hρ hpre hrel hi hins g0 hp a0 a1 a2 a3 a4 a5 a6 a7 a8 a9 a10
    obtain ⟨id, known, hour, kind, loss, pack, from_, to_, snum, sden, of_⟩ := x
    simp only [formB, ownB, placeB, partB]
    (repeat' apply And.intro) <;> intros <;> first
      | trivial
      | (exfalso; omega)
      | (subst_vars; simp [*]; done)
      | (rw [Bool.eq_iff_iff]; subst_vars; simp [*]; done)
      | (rw [within40]; subst_vars; simp [*]; done)
      | (simp_all [within40]; done)
      | (subst_vars; simp_all; done)
      | (exfalso; simp_all; omega)
      | (simp_all; omega)
noncomputable def rForm2_con : Con := { f := 94, args := [.agg (deedLeaves 0)], N := 0, M := 0, pre := [(.op2 .eq (.var 3) (.num 3), false), (.op2 .eq (.var 3) (.num 4), false), (.op2 .eq (.var 3) (.num 2), true), (.op2 .eq (.var 3) (.num 1), false), (.op2 .eq (.var 3) (.num 6), false), (.op2 .eq (.var 3) (.num 5), false)], out := .sbool (.app 63 [.var 0, .var 1, .var 2, .var 3, .var 4, .var 5, .var 6, .var 7, .var 8, .var 9, .var 10]), news := [] }
noncomputable def rForm2_call : Env → CallL := fun E => acallAll E (evH E (R5 E) ((fun _ => noLoops) E) 12)
noncomputable def rForm2_t : GTree := (.fork nfz1 (.fork nfz2 (.fork nfz3 (.fork nfz10 (.fork nfz16 (.fork nfz18 (.fork nfz13 (.fork nfz11 (.leaf [[]]) (.leaf [[]])) (.leaf [[]])) (.fork nfz13 (.fork nfz11 (.leaf [[]]) (.leaf [[]])) (.leaf [[]]))) (.fork nfz13 (.fork nfz11 (.leaf [[]]) (.leaf [[]])) (.leaf [[]]))) (.fork nfz12 (.fork nfz16 (.fork nfz18 (.fork nfz13 (.fork nfz11 (.leaf [[]]) (.leaf [[]])) (.leaf [[]])) (.fork nfz13 (.fork nfz11 (.leaf [[]]) (.leaf [[]])) (.leaf [[]]))) (.fork nfz13 (.fork nfz11 (.leaf [[]]) (.leaf [[]])) (.leaf [[]]))) (.fork nfz16 (.fork nfz18 (.fork nfz14 (.fork nfz11 (.fork nfz24 (.leaf [[]]) (.fork nfz21 (.leaf [[]]) (.fork nfz19 (.fork nfz20 (.leaf [[]]) (.leaf [[]])) (.leaf [[]])))) (.leaf [[]])) (.fork nfz11 (.fork nfz24 (.leaf [[]]) (.leaf [[]])) (.leaf [[]]))) (.fork nfz14 (.fork nfz11 (.leaf [[]]) (.leaf [[]])) (.fork nfz11 (.leaf [[]]) (.leaf [[]])))) (.fork nfz14 (.fork nfz11 (.leaf [[]]) (.leaf [[]])) (.fork nfz11 (.leaf [[]]) (.leaf [[]])))))) (.leaf [[]])) (.leaf [[]])) (.leaf [[]]))
noncomputable def rForm2_l : List (List (X × Bool) × Option Pairs) := [([(nfz11, true), (nfz13, true), (nfz18, true), (nfz16, true), (nfz10, true), (nfz3, true), (nfz2, true), (nfz1, true), (nfz7, false), (nfz8, false), (nfz6, true), (nfz5, false), (nfz4, false), (nfz9, false)], some [(nfz0, .boo false)]),
  ([(nfz11, false), (nfz13, true), (nfz18, true), (nfz16, true), (nfz10, true), (nfz3, true), (nfz2, true), (nfz1, true), (nfz7, false), (nfz8, false), (nfz6, true), (nfz5, false), (nfz4, false), (nfz9, false)], some [(nfz0, .boo false)]),
  ([(nfz13, false), (nfz18, true), (nfz16, true), (nfz10, true), (nfz3, true), (nfz2, true), (nfz1, true), (nfz7, false), (nfz8, false), (nfz6, true), (nfz5, false), (nfz4, false), (nfz9, false)], some [(nfz0, .boo false)]),
  ([(nfz11, true), (nfz13, true), (nfz18, false), (nfz16, true), (nfz10, true), (nfz3, true), (nfz2, true), (nfz1, true), (nfz7, false), (nfz8, false), (nfz6, true), (nfz5, false), (nfz4, false), (nfz9, false)], some [(nfz0, .boo false)]),
  ([(nfz11, false), (nfz13, true), (nfz18, false), (nfz16, true), (nfz10, true), (nfz3, true), (nfz2, true), (nfz1, true), (nfz7, false), (nfz8, false), (nfz6, true), (nfz5, false), (nfz4, false), (nfz9, false)], some [(nfz0, .boo false)]),
  ([(nfz13, false), (nfz18, false), (nfz16, true), (nfz10, true), (nfz3, true), (nfz2, true), (nfz1, true), (nfz7, false), (nfz8, false), (nfz6, true), (nfz5, false), (nfz4, false), (nfz9, false)], some [(nfz0, .boo false)]),
  ([(nfz11, true), (nfz13, true), (nfz16, false), (nfz10, true), (nfz3, true), (nfz2, true), (nfz1, true), (nfz7, false), (nfz8, false), (nfz6, true), (nfz5, false), (nfz4, false), (nfz9, false)], some [(nfz0, .boo false)]),
  ([(nfz11, false), (nfz13, true), (nfz16, false), (nfz10, true), (nfz3, true), (nfz2, true), (nfz1, true), (nfz7, false), (nfz8, false), (nfz6, true), (nfz5, false), (nfz4, false), (nfz9, false)], some [(nfz0, .boo false)]),
  ([(nfz13, false), (nfz16, false), (nfz10, true), (nfz3, true), (nfz2, true), (nfz1, true), (nfz7, false), (nfz8, false), (nfz6, true), (nfz5, false), (nfz4, false), (nfz9, false)], some [(nfz0, .boo false)]),
  ([(nfz11, true), (nfz13, true), (nfz18, true), (nfz16, true), (nfz12, true), (nfz10, false), (nfz3, true), (nfz2, true), (nfz1, true), (nfz7, false), (nfz8, false), (nfz6, true), (nfz5, false), (nfz4, false), (nfz9, false)], some [(nfz0, .boo false)]),
  ([(nfz11, false), (nfz13, true), (nfz18, true), (nfz16, true), (nfz12, true), (nfz10, false), (nfz3, true), (nfz2, true), (nfz1, true), (nfz7, false), (nfz8, false), (nfz6, true), (nfz5, false), (nfz4, false), (nfz9, false)], some [(nfz0, .boo false)]),
  ([(nfz13, false), (nfz18, true), (nfz16, true), (nfz12, true), (nfz10, false), (nfz3, true), (nfz2, true), (nfz1, true), (nfz7, false), (nfz8, false), (nfz6, true), (nfz5, false), (nfz4, false), (nfz9, false)], some [(nfz0, .boo false)]),
  ([(nfz11, true), (nfz13, true), (nfz18, false), (nfz16, true), (nfz12, true), (nfz10, false), (nfz3, true), (nfz2, true), (nfz1, true), (nfz7, false), (nfz8, false), (nfz6, true), (nfz5, false), (nfz4, false), (nfz9, false)], some [(nfz0, .boo false)]),
  ([(nfz11, false), (nfz13, true), (nfz18, false), (nfz16, true), (nfz12, true), (nfz10, false), (nfz3, true), (nfz2, true), (nfz1, true), (nfz7, false), (nfz8, false), (nfz6, true), (nfz5, false), (nfz4, false), (nfz9, false)], some [(nfz0, .boo false)]),
  ([(nfz13, false), (nfz18, false), (nfz16, true), (nfz12, true), (nfz10, false), (nfz3, true), (nfz2, true), (nfz1, true), (nfz7, false), (nfz8, false), (nfz6, true), (nfz5, false), (nfz4, false), (nfz9, false)], some [(nfz0, .boo false)]),
  ([(nfz11, true), (nfz13, true), (nfz16, false), (nfz12, true), (nfz10, false), (nfz3, true), (nfz2, true), (nfz1, true), (nfz7, false), (nfz8, false), (nfz6, true), (nfz5, false), (nfz4, false), (nfz9, false)], some [(nfz0, .boo false)]),
  ([(nfz11, false), (nfz13, true), (nfz16, false), (nfz12, true), (nfz10, false), (nfz3, true), (nfz2, true), (nfz1, true), (nfz7, false), (nfz8, false), (nfz6, true), (nfz5, false), (nfz4, false), (nfz9, false)], some [(nfz0, .boo false)]),
  ([(nfz13, false), (nfz16, false), (nfz12, true), (nfz10, false), (nfz3, true), (nfz2, true), (nfz1, true), (nfz7, false), (nfz8, false), (nfz6, true), (nfz5, false), (nfz4, false), (nfz9, false)], some [(nfz0, .boo false)]),
  ([(nfz24, true), (nfz11, true), (nfz14, true), (nfz18, true), (nfz16, true), (nfz12, false), (nfz10, false), (nfz3, true), (nfz2, true), (nfz1, true), (nfz7, false), (nfz8, false), (nfz6, true), (nfz5, false), (nfz4, false), (nfz9, false)], some [(nfz0, .boo false)]),
  ([(nfz21, true), (nfz24, false), (nfz11, true), (nfz14, true), (nfz18, true), (nfz16, true), (nfz12, false), (nfz10, false), (nfz3, true), (nfz2, true), (nfz1, true), (nfz7, false), (nfz8, false), (nfz6, true), (nfz5, false), (nfz4, false), (nfz9, false)], some [(nfz0, .boo false)]),
  ([(nfz20, true), (nfz19, true), (nfz21, false), (nfz24, false), (nfz11, true), (nfz14, true), (nfz18, true), (nfz16, true), (nfz12, false), (nfz10, false), (nfz3, true), (nfz2, true), (nfz1, true), (nfz7, false), (nfz8, false), (nfz6, true), (nfz5, false), (nfz4, false), (nfz9, false)], some [(nfz0, .app 10 [.var 6, .num 1, .num 40])]),
  ([(nfz20, false), (nfz19, true), (nfz21, false), (nfz24, false), (nfz11, true), (nfz14, true), (nfz18, true), (nfz16, true), (nfz12, false), (nfz10, false), (nfz3, true), (nfz2, true), (nfz1, true), (nfz7, false), (nfz8, false), (nfz6, true), (nfz5, false), (nfz4, false), (nfz9, false)], some [(nfz0, .boo false)]),
  ([(nfz19, false), (nfz21, false), (nfz24, false), (nfz11, true), (nfz14, true), (nfz18, true), (nfz16, true), (nfz12, false), (nfz10, false), (nfz3, true), (nfz2, true), (nfz1, true), (nfz7, false), (nfz8, false), (nfz6, true), (nfz5, false), (nfz4, false), (nfz9, false)], some [(nfz0, .boo false)]),
  ([(nfz11, false), (nfz14, true), (nfz18, true), (nfz16, true), (nfz12, false), (nfz10, false), (nfz3, true), (nfz2, true), (nfz1, true), (nfz7, false), (nfz8, false), (nfz6, true), (nfz5, false), (nfz4, false), (nfz9, false)], some [(nfz0, .boo false)]),
  ([(nfz24, true), (nfz11, true), (nfz14, false), (nfz18, true), (nfz16, true), (nfz12, false), (nfz10, false), (nfz3, true), (nfz2, true), (nfz1, true), (nfz7, false), (nfz8, false), (nfz6, true), (nfz5, false), (nfz4, false), (nfz9, false)], some [(nfz0, .boo false)]),
  ([(nfz24, false), (nfz11, true), (nfz14, false), (nfz18, true), (nfz16, true), (nfz12, false), (nfz10, false), (nfz3, true), (nfz2, true), (nfz1, true), (nfz7, false), (nfz8, false), (nfz6, true), (nfz5, false), (nfz4, false), (nfz9, false)], some [(nfz0, .boo false)]),
  ([(nfz11, false), (nfz14, false), (nfz18, true), (nfz16, true), (nfz12, false), (nfz10, false), (nfz3, true), (nfz2, true), (nfz1, true), (nfz7, false), (nfz8, false), (nfz6, true), (nfz5, false), (nfz4, false), (nfz9, false)], some [(nfz0, .boo false)]),
  ([(nfz11, true), (nfz14, true), (nfz18, false), (nfz16, true), (nfz12, false), (nfz10, false), (nfz3, true), (nfz2, true), (nfz1, true), (nfz7, false), (nfz8, false), (nfz6, true), (nfz5, false), (nfz4, false), (nfz9, false)], some [(nfz0, .boo false)]),
  ([(nfz11, false), (nfz14, true), (nfz18, false), (nfz16, true), (nfz12, false), (nfz10, false), (nfz3, true), (nfz2, true), (nfz1, true), (nfz7, false), (nfz8, false), (nfz6, true), (nfz5, false), (nfz4, false), (nfz9, false)], some [(nfz0, .boo false)]),
  ([(nfz11, true), (nfz14, false), (nfz18, false), (nfz16, true), (nfz12, false), (nfz10, false), (nfz3, true), (nfz2, true), (nfz1, true), (nfz7, false), (nfz8, false), (nfz6, true), (nfz5, false), (nfz4, false), (nfz9, false)], some [(nfz0, .boo false)]),
  ([(nfz11, false), (nfz14, false), (nfz18, false), (nfz16, true), (nfz12, false), (nfz10, false), (nfz3, true), (nfz2, true), (nfz1, true), (nfz7, false), (nfz8, false), (nfz6, true), (nfz5, false), (nfz4, false), (nfz9, false)], some [(nfz0, .boo false)]),
  ([(nfz11, true), (nfz14, true), (nfz16, false), (nfz12, false), (nfz10, false), (nfz3, true), (nfz2, true), (nfz1, true), (nfz7, false), (nfz8, false), (nfz6, true), (nfz5, false), (nfz4, false), (nfz9, false)], some [(nfz0, .boo false)]),
  ([(nfz11, false), (nfz14, true), (nfz16, false), (nfz12, false), (nfz10, false), (nfz3, true), (nfz2, true), (nfz1, true), (nfz7, false), (nfz8, false), (nfz6, true), (nfz5, false), (nfz4, false), (nfz9, false)], some [(nfz0, .boo false)]),
  ([(nfz11, true), (nfz14, false), (nfz16, false), (nfz12, false), (nfz10, false), (nfz3, true), (nfz2, true), (nfz1, true), (nfz7, false), (nfz8, false), (nfz6, true), (nfz5, false), (nfz4, false), (nfz9, false)], some [(nfz0, .boo false)]),
  ([(nfz11, false), (nfz14, false), (nfz16, false), (nfz12, false), (nfz10, false), (nfz3, true), (nfz2, true), (nfz1, true), (nfz7, false), (nfz8, false), (nfz6, true), (nfz5, false), (nfz4, false), (nfz9, false)], some [(nfz0, .boo false)]),
  ([(nfz3, false), (nfz2, true), (nfz1, true), (nfz7, false), (nfz8, false), (nfz6, true), (nfz5, false), (nfz4, false), (nfz9, false)], some [(nfz0, .boo false)]),
  ([(nfz2, false), (nfz1, true), (nfz7, false), (nfz8, false), (nfz6, true), (nfz5, false), (nfz4, false), (nfz9, false)], some [(nfz0, .boo false)]),
  ([(nfz1, false), (nfz7, false), (nfz8, false), (nfz6, true), (nfz5, false), (nfz4, false), (nfz9, false)], some [(nfz0, .boo false)])]
theorem rForm2_w (r : Rho) : rForm2_con.fn.ways rForm2_call E0 r rForm2_con.pre rForm2_t = some rForm2_l := by kernel_rfl
set_option maxRecDepth 100000 in
set_option maxHeartbeats 8000000 in
theorem rForm2_cok : rForm2_con.Ok Tryz.prog sy := by
  intro r σ w us hsy hρ hpre hrel hins
  obtain ⟨u0, us, rfl, g0, hi⟩ := ins_cons hins
  obtain ⟨x, k, rfl, hp⟩ := deed_agg g0
  rw [hρ] at hp
  have a0 := hp.h0
  have a1 := hp.h1
  have a2 := hp.h2
  have a3 := hp.h3
  have a4 := hp.h4
  have a5 := hp.h5
  have a6 := hp.h6
  have a7 := hp.h7
  have a8 := hp.h8
  have a9 := hp.h9
  have a10 := hp.h10
  simp only [Nat.zero_add, Nat.reduceAdd] at a0 a1 a2 a3 a4 a5 a6 a7 a8 a9 a10

  refine con_of (E := E0) E0_ok E0_glob (sy := sy) (fun F => R5_ok F hsy) (fun F => noH_ok) (rForm2_w r) hρ hpre hrel hins ?_ ?_
  · simp only [rForm2_con, rForm2_t, nfz25, nfz24, nfz23, nfz22, nfz21, nfz20, nfz19, nfz18, nfz17, nfz16, nfz15, nfz14, nfz13, nfz12, nfz11, nfz10, nfz9, nfz8, nfz7, nfz6, nfz5, nfz4, nfz3, nfz2, nfz1, nfz0, AsksL, GTree.asks, FTree.asks, FactsIn, List.append_nil, List.nil_append, List.cons_append, Option.some.injEq, exists_eq', implies_true, and_self, X.bool, X.den, denL, d_wrap, d_kind, d_not, d_neg, d_slen, d_add, d_sub, d_mul, d_div, d_mod, d_lt, d_le, d_eq, d_eqb, d_eqs, d_lts, d_cat, d_sat, d_and, d_or, denSub, denIte, asB, fracs_len, fracs_cell, fracs_lsub, deeds_len, deeds_cell, deeds_lsub, a0, a1, a2, a3, a4, a5, a6, a7, a8, a9, a10, hsy, sym10, sym51, sym63, sym64]
  · simp only [rForm2_l, nfz25, nfz24, nfz23, nfz22, nfz21, nfz20, nfz19, nfz18, nfz17, nfz16, nfz15, nfz14, nfz13, nfz12, nfz11, nfz10, nfz9, nfz8, nfz7, nfz6, nfz5, nfz4, nfz3, nfz2, nfz1, nfz0, EndsOk, WaysOk, forall_cons, forall_nil, TgtOk, gpair, FactsIn, hold_cons, hold_nil, Option.some.injEq, Value.bool.injEq, Value.int.injEq, decide_eq_true_eq, decide_eq_false_iff_not, and_true, true_and, and_imp, X.bool, X.den, denL, d_wrap, d_kind, d_not, d_neg, d_slen, d_add, d_sub, d_mul, d_div, d_mod, d_lt, d_le, d_eq, d_eqb, d_eqs, d_lts, d_cat, d_sat, d_and, d_or, denSub, denIte, asB, fracs_len, fracs_cell, fracs_lsub, deeds_len, deeds_cell, deeds_lsub, beq_iff_eq, beq_eq_false_iff_ne, ne_eq, a0, a1, a2, a3, a4, a5, a6, a7, a8, a9, a10, hsy, sym10, sym51, sym63, sym64]
    clear hsy hρ hpre hrel hi hins g0 hp a0 a1 a2 a3 a4 a5 a6 a7 a8 a9 a10
    obtain ⟨id, known, hour, kind, loss, pack, from_, to_, snum, sden, of_⟩ := x
    simp only [formB, ownB, placeB, partB]
    (repeat' apply And.intro) <;> intros <;> first
      | trivial
      | (exfalso; omega)
      | (subst_vars; simp [*]; done)
      | (rw [Bool.eq_iff_iff]; subst_vars; simp [*]; done)
      | (rw [within40]; subst_vars; simp [*]; done)
      | (simp_all [within40]; done)
      | (subst_vars; simp_all; done)
      | (exfalso; simp_all; omega)
      | (simp_all; omega)
noncomputable def rForm3_con : Con := { f := 94, args := [.agg (deedLeaves 0)], N := 0, M := 0, pre := [(.op2 .eq (.var 3) (.num 4), false), (.op2 .eq (.var 3) (.num 3), true), (.op2 .eq (.var 3) (.num 2), false), (.op2 .eq (.var 3) (.num 1), false), (.op2 .eq (.var 3) (.num 6), false), (.op2 .eq (.var 3) (.num 5), false)], out := .sbool (.app 63 [.var 0, .var 1, .var 2, .var 3, .var 4, .var 5, .var 6, .var 7, .var 8, .var 9, .var 10]), news := [] }
noncomputable def rForm3_call : Env → CallL := fun E => acallAll E (evH E (R5 E) ((fun _ => noLoops) E) 12)
noncomputable def rForm3_t : GTree := (.fork nfz1 (.fork nfz2 (.fork nfz3 (.fork nfz10 (.fork nfz13 (.fork nfz15 (.fork nfz17 (.fork nfz11 (.leaf [[]]) (.leaf [[]])) (.leaf [[]])) (.leaf [[]])) (.leaf [[]])) (.fork nfz12 (.fork nfz13 (.fork nfz15 (.fork nfz17 (.fork nfz11 (.leaf [[]]) (.leaf [[]])) (.leaf [[]])) (.leaf [[]])) (.leaf [[]])) (.fork nfz22 (.fork nfz15 (.fork nfz17 (.fork nfz11 (.fork nfz21 (.leaf [[]]) (.fork nfz19 (.fork nfz20 (.leaf [[]]) (.leaf [[]])) (.leaf [[]]))) (.leaf [[]])) (.leaf [[]])) (.leaf [[]])) (.fork nfz15 (.fork nfz17 (.fork nfz11 (.leaf [[]]) (.leaf [[]])) (.leaf [[]])) (.leaf [[]]))))) (.leaf [[]])) (.leaf [[]])) (.leaf [[]]))
noncomputable def rForm3_l : List (List (X × Bool) × Option Pairs) := [([(nfz11, true), (nfz17, true), (nfz15, true), (nfz13, true), (nfz10, true), (nfz3, true), (nfz2, true), (nfz1, true), (nfz8, false), (nfz7, true), (nfz6, false), (nfz5, false), (nfz4, false), (nfz9, false)], some [(nfz0, .boo false)]),
  ([(nfz11, false), (nfz17, true), (nfz15, true), (nfz13, true), (nfz10, true), (nfz3, true), (nfz2, true), (nfz1, true), (nfz8, false), (nfz7, true), (nfz6, false), (nfz5, false), (nfz4, false), (nfz9, false)], some [(nfz0, .boo false)]),
  ([(nfz17, false), (nfz15, true), (nfz13, true), (nfz10, true), (nfz3, true), (nfz2, true), (nfz1, true), (nfz8, false), (nfz7, true), (nfz6, false), (nfz5, false), (nfz4, false), (nfz9, false)], some [(nfz0, .boo false)]),
  ([(nfz15, false), (nfz13, true), (nfz10, true), (nfz3, true), (nfz2, true), (nfz1, true), (nfz8, false), (nfz7, true), (nfz6, false), (nfz5, false), (nfz4, false), (nfz9, false)], some [(nfz0, .boo false)]),
  ([(nfz13, false), (nfz10, true), (nfz3, true), (nfz2, true), (nfz1, true), (nfz8, false), (nfz7, true), (nfz6, false), (nfz5, false), (nfz4, false), (nfz9, false)], some [(nfz0, .boo false)]),
  ([(nfz11, true), (nfz17, true), (nfz15, true), (nfz13, true), (nfz12, true), (nfz10, false), (nfz3, true), (nfz2, true), (nfz1, true), (nfz8, false), (nfz7, true), (nfz6, false), (nfz5, false), (nfz4, false), (nfz9, false)], some [(nfz0, .boo false)]),
  ([(nfz11, false), (nfz17, true), (nfz15, true), (nfz13, true), (nfz12, true), (nfz10, false), (nfz3, true), (nfz2, true), (nfz1, true), (nfz8, false), (nfz7, true), (nfz6, false), (nfz5, false), (nfz4, false), (nfz9, false)], some [(nfz0, .boo false)]),
  ([(nfz17, false), (nfz15, true), (nfz13, true), (nfz12, true), (nfz10, false), (nfz3, true), (nfz2, true), (nfz1, true), (nfz8, false), (nfz7, true), (nfz6, false), (nfz5, false), (nfz4, false), (nfz9, false)], some [(nfz0, .boo false)]),
  ([(nfz15, false), (nfz13, true), (nfz12, true), (nfz10, false), (nfz3, true), (nfz2, true), (nfz1, true), (nfz8, false), (nfz7, true), (nfz6, false), (nfz5, false), (nfz4, false), (nfz9, false)], some [(nfz0, .boo false)]),
  ([(nfz13, false), (nfz12, true), (nfz10, false), (nfz3, true), (nfz2, true), (nfz1, true), (nfz8, false), (nfz7, true), (nfz6, false), (nfz5, false), (nfz4, false), (nfz9, false)], some [(nfz0, .boo false)]),
  ([(nfz21, true), (nfz11, true), (nfz17, true), (nfz15, true), (nfz22, true), (nfz12, false), (nfz10, false), (nfz3, true), (nfz2, true), (nfz1, true), (nfz8, false), (nfz7, true), (nfz6, false), (nfz5, false), (nfz4, false), (nfz9, false)], some [(nfz0, .boo false)]),
  ([(nfz20, true), (nfz19, true), (nfz21, false), (nfz11, true), (nfz17, true), (nfz15, true), (nfz22, true), (nfz12, false), (nfz10, false), (nfz3, true), (nfz2, true), (nfz1, true), (nfz8, false), (nfz7, true), (nfz6, false), (nfz5, false), (nfz4, false), (nfz9, false)], some [(nfz0, .app 10 [.var 6, .num 1, .num 40])]),
  ([(nfz20, false), (nfz19, true), (nfz21, false), (nfz11, true), (nfz17, true), (nfz15, true), (nfz22, true), (nfz12, false), (nfz10, false), (nfz3, true), (nfz2, true), (nfz1, true), (nfz8, false), (nfz7, true), (nfz6, false), (nfz5, false), (nfz4, false), (nfz9, false)], some [(nfz0, .boo false)]),
  ([(nfz19, false), (nfz21, false), (nfz11, true), (nfz17, true), (nfz15, true), (nfz22, true), (nfz12, false), (nfz10, false), (nfz3, true), (nfz2, true), (nfz1, true), (nfz8, false), (nfz7, true), (nfz6, false), (nfz5, false), (nfz4, false), (nfz9, false)], some [(nfz0, .boo false)]),
  ([(nfz11, false), (nfz17, true), (nfz15, true), (nfz22, true), (nfz12, false), (nfz10, false), (nfz3, true), (nfz2, true), (nfz1, true), (nfz8, false), (nfz7, true), (nfz6, false), (nfz5, false), (nfz4, false), (nfz9, false)], some [(nfz0, .boo false)]),
  ([(nfz17, false), (nfz15, true), (nfz22, true), (nfz12, false), (nfz10, false), (nfz3, true), (nfz2, true), (nfz1, true), (nfz8, false), (nfz7, true), (nfz6, false), (nfz5, false), (nfz4, false), (nfz9, false)], some [(nfz0, .boo false)]),
  ([(nfz15, false), (nfz22, true), (nfz12, false), (nfz10, false), (nfz3, true), (nfz2, true), (nfz1, true), (nfz8, false), (nfz7, true), (nfz6, false), (nfz5, false), (nfz4, false), (nfz9, false)], some [(nfz0, .boo false)]),
  ([(nfz11, true), (nfz17, true), (nfz15, true), (nfz22, false), (nfz12, false), (nfz10, false), (nfz3, true), (nfz2, true), (nfz1, true), (nfz8, false), (nfz7, true), (nfz6, false), (nfz5, false), (nfz4, false), (nfz9, false)], some [(nfz0, .boo false)]),
  ([(nfz11, false), (nfz17, true), (nfz15, true), (nfz22, false), (nfz12, false), (nfz10, false), (nfz3, true), (nfz2, true), (nfz1, true), (nfz8, false), (nfz7, true), (nfz6, false), (nfz5, false), (nfz4, false), (nfz9, false)], some [(nfz0, .boo false)]),
  ([(nfz17, false), (nfz15, true), (nfz22, false), (nfz12, false), (nfz10, false), (nfz3, true), (nfz2, true), (nfz1, true), (nfz8, false), (nfz7, true), (nfz6, false), (nfz5, false), (nfz4, false), (nfz9, false)], some [(nfz0, .boo false)]),
  ([(nfz15, false), (nfz22, false), (nfz12, false), (nfz10, false), (nfz3, true), (nfz2, true), (nfz1, true), (nfz8, false), (nfz7, true), (nfz6, false), (nfz5, false), (nfz4, false), (nfz9, false)], some [(nfz0, .boo false)]),
  ([(nfz3, false), (nfz2, true), (nfz1, true), (nfz8, false), (nfz7, true), (nfz6, false), (nfz5, false), (nfz4, false), (nfz9, false)], some [(nfz0, .boo false)]),
  ([(nfz2, false), (nfz1, true), (nfz8, false), (nfz7, true), (nfz6, false), (nfz5, false), (nfz4, false), (nfz9, false)], some [(nfz0, .boo false)]),
  ([(nfz1, false), (nfz8, false), (nfz7, true), (nfz6, false), (nfz5, false), (nfz4, false), (nfz9, false)], some [(nfz0, .boo false)])]
theorem rForm3_w (r : Rho) : rForm3_con.fn.ways rForm3_call E0 r rForm3_con.pre rForm3_t = some rForm3_l := by kernel_rfl
set_option maxRecDepth 100000 in
set_option maxHeartbeats 8000000 in
theorem rForm3_cok : rForm3_con.Ok Tryz.prog sy := by
  intro r σ w us hsy hρ hpre hrel hins
  obtain ⟨u0, us, rfl, g0, hi⟩ := ins_cons hins
  obtain ⟨x, k, rfl, hp⟩ := deed_agg g0
  rw [hρ] at hp
  have a0 := hp.h0
  have a1 := hp.h1
  have a2 := hp.h2
  have a3 := hp.h3
  have a4 := hp.h4
  have a5 := hp.h5
  have a6 := hp.h6
  have a7 := hp.h7
  have a8 := hp.h8
  have a9 := hp.h9
  have a10 := hp.h10
  simp only [Nat.zero_add, Nat.reduceAdd] at a0 a1 a2 a3 a4 a5 a6 a7 a8 a9 a10

  refine con_of (E := E0) E0_ok E0_glob (sy := sy) (fun F => R5_ok F hsy) (fun F => noH_ok) (rForm3_w r) hρ hpre hrel hins ?_ ?_
  · simp only [rForm3_con, rForm3_t, nfz25, nfz24, nfz23, nfz22, nfz21, nfz20, nfz19, nfz18, nfz17, nfz16, nfz15, nfz14, nfz13, nfz12, nfz11, nfz10, nfz9, nfz8, nfz7, nfz6, nfz5, nfz4, nfz3, nfz2, nfz1, nfz0, AsksL, GTree.asks, FTree.asks, FactsIn, List.append_nil, List.nil_append, List.cons_append, Option.some.injEq, exists_eq', implies_true, and_self, X.bool, X.den, denL, d_wrap, d_kind, d_not, d_neg, d_slen, d_add, d_sub, d_mul, d_div, d_mod, d_lt, d_le, d_eq, d_eqb, d_eqs, d_lts, d_cat, d_sat, d_and, d_or, denSub, denIte, asB, fracs_len, fracs_cell, fracs_lsub, deeds_len, deeds_cell, deeds_lsub, a0, a1, a2, a3, a4, a5, a6, a7, a8, a9, a10, hsy, sym10, sym51, sym63, sym64]
  · simp only [rForm3_l, nfz25, nfz24, nfz23, nfz22, nfz21, nfz20, nfz19, nfz18, nfz17, nfz16, nfz15, nfz14, nfz13, nfz12, nfz11, nfz10, nfz9, nfz8, nfz7, nfz6, nfz5, nfz4, nfz3, nfz2, nfz1, nfz0, EndsOk, WaysOk, forall_cons, forall_nil, TgtOk, gpair, FactsIn, hold_cons, hold_nil, Option.some.injEq, Value.bool.injEq, Value.int.injEq, decide_eq_true_eq, decide_eq_false_iff_not, and_true, true_and, and_imp, X.bool, X.den, denL, d_wrap, d_kind, d_not, d_neg, d_slen, d_add, d_sub, d_mul, d_div, d_mod, d_lt, d_le, d_eq, d_eqb, d_eqs, d_lts, d_cat, d_sat, d_and, d_or, denSub, denIte, asB, fracs_len, fracs_cell, fracs_lsub, deeds_len, deeds_cell, deeds_lsub, beq_iff_eq, beq_eq_false_iff_ne, ne_eq, a0, a1, a2, a3, a4, a5, a6, a7, a8, a9, a10, hsy, sym10, sym51, sym63, sym64]
    clear hsy hρ hpre hrel hi hins g0 hp a0 a1 a2 a3 a4 a5 a6 a7 a8 a9 a10
    obtain ⟨id, known, hour, kind, loss, pack, from_, to_, snum, sden, of_⟩ := x
    simp only [formB, ownB, placeB, partB]
    (repeat' apply And.intro) <;> intros <;> first
      | trivial
      | (exfalso; omega)
      | (subst_vars; simp [*]; done)
      | (rw [Bool.eq_iff_iff]; subst_vars; simp [*]; done)
      | (rw [within40]; subst_vars; simp [*]; done)
      | (simp_all [within40]; done)
      | (subst_vars; simp_all; done)
      | (exfalso; simp_all; omega)
      | (simp_all; omega)
noncomputable def rForm4_con : Con := { f := 94, args := [.agg (deedLeaves 0)], N := 0, M := 0, pre := [(.op2 .eq (.var 3) (.num 4), true), (.op2 .eq (.var 3) (.num 3), false), (.op2 .eq (.var 3) (.num 2), false), (.op2 .eq (.var 3) (.num 1), false), (.op2 .eq (.var 3) (.num 6), false), (.op2 .eq (.var 3) (.num 5), false)], out := .sbool (.app 63 [.var 0, .var 1, .var 2, .var 3, .var 4, .var 5, .var 6, .var 7, .var 8, .var 9, .var 10]), news := [] }
noncomputable def rForm4_call : Env → CallL := fun E => acallAll E (evH E (R5 E) ((fun _ => noLoops) E) 12)
noncomputable def rForm4_t : GTree := (.fork nfz1 (.fork nfz2 (.fork nfz3 (.fork nfz10 (.fork nfz13 (.fork nfz15 (.fork nfz17 (.fork nfz11 (.fork nfz19 (.fork nfz20 (.leaf [[]]) (.leaf [[]])) (.leaf [[]])) (.leaf [[]])) (.leaf [[]])) (.leaf [[]])) (.leaf [[]])) (.fork nfz12 (.fork nfz13 (.fork nfz15 (.fork nfz17 (.fork nfz11 (.fork nfz19 (.fork nfz20 (.leaf [[]]) (.leaf [[]])) (.leaf [[]])) (.leaf [[]])) (.leaf [[]])) (.leaf [[]])) (.leaf [[]])) (.fork nfz14 (.fork nfz15 (.fork nfz17 (.fork nfz11 (.fork nfz21 (.leaf [[]]) (.fork nfz19 (.fork nfz20 (.leaf [[]]) (.leaf [[]])) (.leaf [[]]))) (.leaf [[]])) (.leaf [[]])) (.leaf [[]])) (.fork nfz15 (.fork nfz17 (.fork nfz11 (.leaf [[]]) (.leaf [[]])) (.leaf [[]])) (.leaf [[]]))))) (.leaf [[]])) (.leaf [[]])) (.leaf [[]]))
noncomputable def rForm4_l : List (List (X × Bool) × Option Pairs) := [([(nfz20, true), (nfz19, true), (nfz11, true), (nfz17, true), (nfz15, true), (nfz13, true), (nfz10, true), (nfz3, true), (nfz2, true), (nfz1, true), (nfz8, true), (nfz7, false), (nfz6, false), (nfz5, false), (nfz4, false), (nfz9, false)], some [(nfz0, .app 10 [.var 6, .num 1, .num 40])]),
  ([(nfz20, false), (nfz19, true), (nfz11, true), (nfz17, true), (nfz15, true), (nfz13, true), (nfz10, true), (nfz3, true), (nfz2, true), (nfz1, true), (nfz8, true), (nfz7, false), (nfz6, false), (nfz5, false), (nfz4, false), (nfz9, false)], some [(nfz0, .boo false)]),
  ([(nfz19, false), (nfz11, true), (nfz17, true), (nfz15, true), (nfz13, true), (nfz10, true), (nfz3, true), (nfz2, true), (nfz1, true), (nfz8, true), (nfz7, false), (nfz6, false), (nfz5, false), (nfz4, false), (nfz9, false)], some [(nfz0, .boo false)]),
  ([(nfz11, false), (nfz17, true), (nfz15, true), (nfz13, true), (nfz10, true), (nfz3, true), (nfz2, true), (nfz1, true), (nfz8, true), (nfz7, false), (nfz6, false), (nfz5, false), (nfz4, false), (nfz9, false)], some [(nfz0, .boo false)]),
  ([(nfz17, false), (nfz15, true), (nfz13, true), (nfz10, true), (nfz3, true), (nfz2, true), (nfz1, true), (nfz8, true), (nfz7, false), (nfz6, false), (nfz5, false), (nfz4, false), (nfz9, false)], some [(nfz0, .boo false)]),
  ([(nfz15, false), (nfz13, true), (nfz10, true), (nfz3, true), (nfz2, true), (nfz1, true), (nfz8, true), (nfz7, false), (nfz6, false), (nfz5, false), (nfz4, false), (nfz9, false)], some [(nfz0, .boo false)]),
  ([(nfz13, false), (nfz10, true), (nfz3, true), (nfz2, true), (nfz1, true), (nfz8, true), (nfz7, false), (nfz6, false), (nfz5, false), (nfz4, false), (nfz9, false)], some [(nfz0, .boo false)]),
  ([(nfz20, true), (nfz19, true), (nfz11, true), (nfz17, true), (nfz15, true), (nfz13, true), (nfz12, true), (nfz10, false), (nfz3, true), (nfz2, true), (nfz1, true), (nfz8, true), (nfz7, false), (nfz6, false), (nfz5, false), (nfz4, false), (nfz9, false)], some [(nfz0, .app 10 [.var 6, .num 1, .num 40])]),
  ([(nfz20, false), (nfz19, true), (nfz11, true), (nfz17, true), (nfz15, true), (nfz13, true), (nfz12, true), (nfz10, false), (nfz3, true), (nfz2, true), (nfz1, true), (nfz8, true), (nfz7, false), (nfz6, false), (nfz5, false), (nfz4, false), (nfz9, false)], some [(nfz0, .boo false)]),
  ([(nfz19, false), (nfz11, true), (nfz17, true), (nfz15, true), (nfz13, true), (nfz12, true), (nfz10, false), (nfz3, true), (nfz2, true), (nfz1, true), (nfz8, true), (nfz7, false), (nfz6, false), (nfz5, false), (nfz4, false), (nfz9, false)], some [(nfz0, .boo false)]),
  ([(nfz11, false), (nfz17, true), (nfz15, true), (nfz13, true), (nfz12, true), (nfz10, false), (nfz3, true), (nfz2, true), (nfz1, true), (nfz8, true), (nfz7, false), (nfz6, false), (nfz5, false), (nfz4, false), (nfz9, false)], some [(nfz0, .boo false)]),
  ([(nfz17, false), (nfz15, true), (nfz13, true), (nfz12, true), (nfz10, false), (nfz3, true), (nfz2, true), (nfz1, true), (nfz8, true), (nfz7, false), (nfz6, false), (nfz5, false), (nfz4, false), (nfz9, false)], some [(nfz0, .boo false)]),
  ([(nfz15, false), (nfz13, true), (nfz12, true), (nfz10, false), (nfz3, true), (nfz2, true), (nfz1, true), (nfz8, true), (nfz7, false), (nfz6, false), (nfz5, false), (nfz4, false), (nfz9, false)], some [(nfz0, .boo false)]),
  ([(nfz13, false), (nfz12, true), (nfz10, false), (nfz3, true), (nfz2, true), (nfz1, true), (nfz8, true), (nfz7, false), (nfz6, false), (nfz5, false), (nfz4, false), (nfz9, false)], some [(nfz0, .boo false)]),
  ([(nfz21, true), (nfz11, true), (nfz17, true), (nfz15, true), (nfz14, true), (nfz12, false), (nfz10, false), (nfz3, true), (nfz2, true), (nfz1, true), (nfz8, true), (nfz7, false), (nfz6, false), (nfz5, false), (nfz4, false), (nfz9, false)], some [(nfz0, .boo false)]),
  ([(nfz20, true), (nfz19, true), (nfz21, false), (nfz11, true), (nfz17, true), (nfz15, true), (nfz14, true), (nfz12, false), (nfz10, false), (nfz3, true), (nfz2, true), (nfz1, true), (nfz8, true), (nfz7, false), (nfz6, false), (nfz5, false), (nfz4, false), (nfz9, false)], some [(nfz0, .app 10 [.var 6, .num 1, .num 40])]),
  ([(nfz20, false), (nfz19, true), (nfz21, false), (nfz11, true), (nfz17, true), (nfz15, true), (nfz14, true), (nfz12, false), (nfz10, false), (nfz3, true), (nfz2, true), (nfz1, true), (nfz8, true), (nfz7, false), (nfz6, false), (nfz5, false), (nfz4, false), (nfz9, false)], some [(nfz0, .boo false)]),
  ([(nfz19, false), (nfz21, false), (nfz11, true), (nfz17, true), (nfz15, true), (nfz14, true), (nfz12, false), (nfz10, false), (nfz3, true), (nfz2, true), (nfz1, true), (nfz8, true), (nfz7, false), (nfz6, false), (nfz5, false), (nfz4, false), (nfz9, false)], some [(nfz0, .boo false)]),
  ([(nfz11, false), (nfz17, true), (nfz15, true), (nfz14, true), (nfz12, false), (nfz10, false), (nfz3, true), (nfz2, true), (nfz1, true), (nfz8, true), (nfz7, false), (nfz6, false), (nfz5, false), (nfz4, false), (nfz9, false)], some [(nfz0, .boo false)]),
  ([(nfz17, false), (nfz15, true), (nfz14, true), (nfz12, false), (nfz10, false), (nfz3, true), (nfz2, true), (nfz1, true), (nfz8, true), (nfz7, false), (nfz6, false), (nfz5, false), (nfz4, false), (nfz9, false)], some [(nfz0, .boo false)]),
  ([(nfz15, false), (nfz14, true), (nfz12, false), (nfz10, false), (nfz3, true), (nfz2, true), (nfz1, true), (nfz8, true), (nfz7, false), (nfz6, false), (nfz5, false), (nfz4, false), (nfz9, false)], some [(nfz0, .boo false)]),
  ([(nfz11, true), (nfz17, true), (nfz15, true), (nfz14, false), (nfz12, false), (nfz10, false), (nfz3, true), (nfz2, true), (nfz1, true), (nfz8, true), (nfz7, false), (nfz6, false), (nfz5, false), (nfz4, false), (nfz9, false)], some [(nfz0, .boo false)]),
  ([(nfz11, false), (nfz17, true), (nfz15, true), (nfz14, false), (nfz12, false), (nfz10, false), (nfz3, true), (nfz2, true), (nfz1, true), (nfz8, true), (nfz7, false), (nfz6, false), (nfz5, false), (nfz4, false), (nfz9, false)], some [(nfz0, .boo false)]),
  ([(nfz17, false), (nfz15, true), (nfz14, false), (nfz12, false), (nfz10, false), (nfz3, true), (nfz2, true), (nfz1, true), (nfz8, true), (nfz7, false), (nfz6, false), (nfz5, false), (nfz4, false), (nfz9, false)], some [(nfz0, .boo false)]),
  ([(nfz15, false), (nfz14, false), (nfz12, false), (nfz10, false), (nfz3, true), (nfz2, true), (nfz1, true), (nfz8, true), (nfz7, false), (nfz6, false), (nfz5, false), (nfz4, false), (nfz9, false)], some [(nfz0, .boo false)]),
  ([(nfz3, false), (nfz2, true), (nfz1, true), (nfz8, true), (nfz7, false), (nfz6, false), (nfz5, false), (nfz4, false), (nfz9, false)], some [(nfz0, .boo false)]),
  ([(nfz2, false), (nfz1, true), (nfz8, true), (nfz7, false), (nfz6, false), (nfz5, false), (nfz4, false), (nfz9, false)], some [(nfz0, .boo false)]),
  ([(nfz1, false), (nfz8, true), (nfz7, false), (nfz6, false), (nfz5, false), (nfz4, false), (nfz9, false)], some [(nfz0, .boo false)])]
theorem rForm4_w (r : Rho) : rForm4_con.fn.ways rForm4_call E0 r rForm4_con.pre rForm4_t = some rForm4_l := by kernel_rfl
set_option maxRecDepth 100000 in
set_option maxHeartbeats 8000000 in
theorem rForm4_cok : rForm4_con.Ok Tryz.prog sy := by
  intro r σ w us hsy hρ hpre hrel hins
  obtain ⟨u0, us, rfl, g0, hi⟩ := ins_cons hins
  obtain ⟨x, k, rfl, hp⟩ := deed_agg g0
  rw [hρ] at hp
  have a0 := hp.h0
  have a1 := hp.h1
  have a2 := hp.h2
  have a3 := hp.h3
  have a4 := hp.h4
  have a5 := hp.h5
  have a6 := hp.h6
  have a7 := hp.h7
  have a8 := hp.h8
  have a9 := hp.h9
  have a10 := hp.h10
  simp only [Nat.zero_add, Nat.reduceAdd] at a0 a1 a2 a3 a4 a5 a6 a7 a8 a9 a10

  refine con_of (E := E0) E0_ok E0_glob (sy := sy) (fun F => R5_ok F hsy) (fun F => noH_ok) (rForm4_w r) hρ hpre hrel hins ?_ ?_
  · simp only [rForm4_con, rForm4_t, nfz25, nfz24, nfz23, nfz22, nfz21, nfz20, nfz19, nfz18, nfz17, nfz16, nfz15, nfz14, nfz13, nfz12, nfz11, nfz10, nfz9, nfz8, nfz7, nfz6, nfz5, nfz4, nfz3, nfz2, nfz1, nfz0, AsksL, GTree.asks, FTree.asks, FactsIn, List.append_nil, List.nil_append, List.cons_append, Option.some.injEq, exists_eq', implies_true, and_self, X.bool, X.den, denL, d_wrap, d_kind, d_not, d_neg, d_slen, d_add, d_sub, d_mul, d_div, d_mod, d_lt, d_le, d_eq, d_eqb, d_eqs, d_lts, d_cat, d_sat, d_and, d_or, denSub, denIte, asB, fracs_len, fracs_cell, fracs_lsub, deeds_len, deeds_cell, deeds_lsub, a0, a1, a2, a3, a4, a5, a6, a7, a8, a9, a10, hsy, sym10, sym51, sym63, sym64]
  · simp only [rForm4_l, nfz25, nfz24, nfz23, nfz22, nfz21, nfz20, nfz19, nfz18, nfz17, nfz16, nfz15, nfz14, nfz13, nfz12, nfz11, nfz10, nfz9, nfz8, nfz7, nfz6, nfz5, nfz4, nfz3, nfz2, nfz1, nfz0, EndsOk, WaysOk, forall_cons, forall_nil, TgtOk, gpair, FactsIn, hold_cons, hold_nil, Option.some.injEq, Value.bool.injEq, Value.int.injEq, decide_eq_true_eq, decide_eq_false_iff_not, and_true, true_and, and_imp, X.bool, X.den, denL, d_wrap, d_kind, d_not, d_neg, d_slen, d_add, d_sub, d_mul, d_div, d_mod, d_lt, d_le, d_eq, d_eqb, d_eqs, d_lts, d_cat, d_sat, d_and, d_or, denSub, denIte, asB, fracs_len, fracs_cell, fracs_lsub, deeds_len, deeds_cell, deeds_lsub, beq_iff_eq, beq_eq_false_iff_ne, ne_eq, a0, a1, a2, a3, a4, a5, a6, a7, a8, a9, a10, hsy, sym10, sym51, sym63, sym64]
    clear hsy hρ hpre hrel hi hins g0 hp a0 a1 a2 a3 a4 a5 a6 a7 a8 a9 a10
    obtain ⟨id, known, hour, kind, loss, pack, from_, to_, snum, sden, of_⟩ := x
    simp only [formB, ownB, placeB, partB]
    (repeat' apply And.intro) <;> intros <;> first
      | trivial
      | (exfalso; omega)
      | (subst_vars; simp [*]; done)
      | (rw [Bool.eq_iff_iff]; subst_vars; simp [*]; done)
      | (rw [within40]; subst_vars; simp [*]; done)
      | (simp_all [within40]; done)
      | (subst_vars; simp_all; done)
      | (exfalso; simp_all; omega)
      | (simp_all; omega)
noncomputable def rForm0_con : Con := { f := 94, args := [.agg (deedLeaves 0)], N := 0, M := 0, pre := [(.op2 .eq (.var 3) (.num 4), false), (.op2 .eq (.var 3) (.num 3), false), (.op2 .eq (.var 3) (.num 2), false), (.op2 .eq (.var 3) (.num 1), false), (.op2 .eq (.var 3) (.num 6), false), (.op2 .eq (.var 3) (.num 5), false)], out := .sbool (.app 63 [.var 0, .var 1, .var 2, .var 3, .var 4, .var 5, .var 6, .var 7, .var 8, .var 9, .var 10]), news := [] }
noncomputable def rForm0_call : Env → CallL := fun E => acallAll E (evH E (R5 E) ((fun _ => noLoops) E) 12)
noncomputable def rForm0_t : GTree := (.fork nfz1 (.fork nfz2 (.fork nfz3 (.fork nfz10 (.fork nfz13 (.fork nfz15 (.fork nfz17 (.fork nfz11 (.leaf [[]]) (.leaf [[]])) (.leaf [[]])) (.leaf [[]])) (.leaf [[]])) (.fork nfz12 (.fork nfz13 (.fork nfz15 (.fork nfz17 (.fork nfz11 (.leaf [[]]) (.leaf [[]])) (.leaf [[]])) (.leaf [[]])) (.leaf [[]])) (.fork nfz14 (.fork nfz15 (.fork nfz17 (.fork nfz11 (.fork nfz21 (.leaf [[]]) (.fork nfz19 (.fork nfz20 (.leaf [[]]) (.leaf [[]])) (.leaf [[]]))) (.leaf [[]])) (.leaf [[]])) (.leaf [[]])) (.fork nfz15 (.fork nfz17 (.fork nfz11 (.leaf [[]]) (.leaf [[]])) (.leaf [[]])) (.leaf [[]]))))) (.leaf [[]])) (.leaf [[]])) (.leaf [[]]))
noncomputable def rForm0_l : List (List (X × Bool) × Option Pairs) := [([(nfz11, true), (nfz17, true), (nfz15, true), (nfz13, true), (nfz10, true), (nfz3, true), (nfz2, true), (nfz1, true), (nfz8, false), (nfz7, false), (nfz6, false), (nfz5, false), (nfz4, false), (nfz9, false)], some [(nfz0, .boo false)]),
  ([(nfz11, false), (nfz17, true), (nfz15, true), (nfz13, true), (nfz10, true), (nfz3, true), (nfz2, true), (nfz1, true), (nfz8, false), (nfz7, false), (nfz6, false), (nfz5, false), (nfz4, false), (nfz9, false)], some [(nfz0, .boo false)]),
  ([(nfz17, false), (nfz15, true), (nfz13, true), (nfz10, true), (nfz3, true), (nfz2, true), (nfz1, true), (nfz8, false), (nfz7, false), (nfz6, false), (nfz5, false), (nfz4, false), (nfz9, false)], some [(nfz0, .boo false)]),
  ([(nfz15, false), (nfz13, true), (nfz10, true), (nfz3, true), (nfz2, true), (nfz1, true), (nfz8, false), (nfz7, false), (nfz6, false), (nfz5, false), (nfz4, false), (nfz9, false)], some [(nfz0, .boo false)]),
  ([(nfz13, false), (nfz10, true), (nfz3, true), (nfz2, true), (nfz1, true), (nfz8, false), (nfz7, false), (nfz6, false), (nfz5, false), (nfz4, false), (nfz9, false)], some [(nfz0, .boo false)]),
  ([(nfz11, true), (nfz17, true), (nfz15, true), (nfz13, true), (nfz12, true), (nfz10, false), (nfz3, true), (nfz2, true), (nfz1, true), (nfz8, false), (nfz7, false), (nfz6, false), (nfz5, false), (nfz4, false), (nfz9, false)], some [(nfz0, .boo false)]),
  ([(nfz11, false), (nfz17, true), (nfz15, true), (nfz13, true), (nfz12, true), (nfz10, false), (nfz3, true), (nfz2, true), (nfz1, true), (nfz8, false), (nfz7, false), (nfz6, false), (nfz5, false), (nfz4, false), (nfz9, false)], some [(nfz0, .boo false)]),
  ([(nfz17, false), (nfz15, true), (nfz13, true), (nfz12, true), (nfz10, false), (nfz3, true), (nfz2, true), (nfz1, true), (nfz8, false), (nfz7, false), (nfz6, false), (nfz5, false), (nfz4, false), (nfz9, false)], some [(nfz0, .boo false)]),
  ([(nfz15, false), (nfz13, true), (nfz12, true), (nfz10, false), (nfz3, true), (nfz2, true), (nfz1, true), (nfz8, false), (nfz7, false), (nfz6, false), (nfz5, false), (nfz4, false), (nfz9, false)], some [(nfz0, .boo false)]),
  ([(nfz13, false), (nfz12, true), (nfz10, false), (nfz3, true), (nfz2, true), (nfz1, true), (nfz8, false), (nfz7, false), (nfz6, false), (nfz5, false), (nfz4, false), (nfz9, false)], some [(nfz0, .boo false)]),
  ([(nfz21, true), (nfz11, true), (nfz17, true), (nfz15, true), (nfz14, true), (nfz12, false), (nfz10, false), (nfz3, true), (nfz2, true), (nfz1, true), (nfz8, false), (nfz7, false), (nfz6, false), (nfz5, false), (nfz4, false), (nfz9, false)], some [(nfz0, .boo false)]),
  ([(nfz20, true), (nfz19, true), (nfz21, false), (nfz11, true), (nfz17, true), (nfz15, true), (nfz14, true), (nfz12, false), (nfz10, false), (nfz3, true), (nfz2, true), (nfz1, true), (nfz8, false), (nfz7, false), (nfz6, false), (nfz5, false), (nfz4, false), (nfz9, false)], some [(nfz0, .app 10 [.var 6, .num 1, .num 40])]),
  ([(nfz20, false), (nfz19, true), (nfz21, false), (nfz11, true), (nfz17, true), (nfz15, true), (nfz14, true), (nfz12, false), (nfz10, false), (nfz3, true), (nfz2, true), (nfz1, true), (nfz8, false), (nfz7, false), (nfz6, false), (nfz5, false), (nfz4, false), (nfz9, false)], some [(nfz0, .boo false)]),
  ([(nfz19, false), (nfz21, false), (nfz11, true), (nfz17, true), (nfz15, true), (nfz14, true), (nfz12, false), (nfz10, false), (nfz3, true), (nfz2, true), (nfz1, true), (nfz8, false), (nfz7, false), (nfz6, false), (nfz5, false), (nfz4, false), (nfz9, false)], some [(nfz0, .boo false)]),
  ([(nfz11, false), (nfz17, true), (nfz15, true), (nfz14, true), (nfz12, false), (nfz10, false), (nfz3, true), (nfz2, true), (nfz1, true), (nfz8, false), (nfz7, false), (nfz6, false), (nfz5, false), (nfz4, false), (nfz9, false)], some [(nfz0, .boo false)]),
  ([(nfz17, false), (nfz15, true), (nfz14, true), (nfz12, false), (nfz10, false), (nfz3, true), (nfz2, true), (nfz1, true), (nfz8, false), (nfz7, false), (nfz6, false), (nfz5, false), (nfz4, false), (nfz9, false)], some [(nfz0, .boo false)]),
  ([(nfz15, false), (nfz14, true), (nfz12, false), (nfz10, false), (nfz3, true), (nfz2, true), (nfz1, true), (nfz8, false), (nfz7, false), (nfz6, false), (nfz5, false), (nfz4, false), (nfz9, false)], some [(nfz0, .boo false)]),
  ([(nfz11, true), (nfz17, true), (nfz15, true), (nfz14, false), (nfz12, false), (nfz10, false), (nfz3, true), (nfz2, true), (nfz1, true), (nfz8, false), (nfz7, false), (nfz6, false), (nfz5, false), (nfz4, false), (nfz9, false)], some [(nfz0, .boo false)]),
  ([(nfz11, false), (nfz17, true), (nfz15, true), (nfz14, false), (nfz12, false), (nfz10, false), (nfz3, true), (nfz2, true), (nfz1, true), (nfz8, false), (nfz7, false), (nfz6, false), (nfz5, false), (nfz4, false), (nfz9, false)], some [(nfz0, .boo false)]),
  ([(nfz17, false), (nfz15, true), (nfz14, false), (nfz12, false), (nfz10, false), (nfz3, true), (nfz2, true), (nfz1, true), (nfz8, false), (nfz7, false), (nfz6, false), (nfz5, false), (nfz4, false), (nfz9, false)], some [(nfz0, .boo false)]),
  ([(nfz15, false), (nfz14, false), (nfz12, false), (nfz10, false), (nfz3, true), (nfz2, true), (nfz1, true), (nfz8, false), (nfz7, false), (nfz6, false), (nfz5, false), (nfz4, false), (nfz9, false)], some [(nfz0, .boo false)]),
  ([(nfz3, false), (nfz2, true), (nfz1, true), (nfz8, false), (nfz7, false), (nfz6, false), (nfz5, false), (nfz4, false), (nfz9, false)], some [(nfz0, .boo false)]),
  ([(nfz2, false), (nfz1, true), (nfz8, false), (nfz7, false), (nfz6, false), (nfz5, false), (nfz4, false), (nfz9, false)], some [(nfz0, .boo false)]),
  ([(nfz1, false), (nfz8, false), (nfz7, false), (nfz6, false), (nfz5, false), (nfz4, false), (nfz9, false)], some [(nfz0, .boo false)])]
theorem rForm0_w (r : Rho) : rForm0_con.fn.ways rForm0_call E0 r rForm0_con.pre rForm0_t = some rForm0_l := by kernel_rfl
set_option maxRecDepth 100000 in
set_option maxHeartbeats 8000000 in
theorem rForm0_cok : rForm0_con.Ok Tryz.prog sy := by
  intro r σ w us hsy hρ hpre hrel hins
  obtain ⟨u0, us, rfl, g0, hi⟩ := ins_cons hins
  obtain ⟨x, k, rfl, hp⟩ := deed_agg g0
  rw [hρ] at hp
  have a0 := hp.h0
  have a1 := hp.h1
  have a2 := hp.h2
  have a3 := hp.h3
  have a4 := hp.h4
  have a5 := hp.h5
  have a6 := hp.h6
  have a7 := hp.h7
  have a8 := hp.h8
  have a9 := hp.h9
  have a10 := hp.h10
  simp only [Nat.zero_add, Nat.reduceAdd] at a0 a1 a2 a3 a4 a5 a6 a7 a8 a9 a10

  refine con_of (E := E0) E0_ok E0_glob (sy := sy) (fun F => R5_ok F hsy) (fun F => noH_ok) (rForm0_w r) hρ hpre hrel hins ?_ ?_
  · simp only [rForm0_con, rForm0_t, nfz25, nfz24, nfz23, nfz22, nfz21, nfz20, nfz19, nfz18, nfz17, nfz16, nfz15, nfz14, nfz13, nfz12, nfz11, nfz10, nfz9, nfz8, nfz7, nfz6, nfz5, nfz4, nfz3, nfz2, nfz1, nfz0, AsksL, GTree.asks, FTree.asks, FactsIn, List.append_nil, List.nil_append, List.cons_append, Option.some.injEq, exists_eq', implies_true, and_self, X.bool, X.den, denL, d_wrap, d_kind, d_not, d_neg, d_slen, d_add, d_sub, d_mul, d_div, d_mod, d_lt, d_le, d_eq, d_eqb, d_eqs, d_lts, d_cat, d_sat, d_and, d_or, denSub, denIte, asB, fracs_len, fracs_cell, fracs_lsub, deeds_len, deeds_cell, deeds_lsub, a0, a1, a2, a3, a4, a5, a6, a7, a8, a9, a10, hsy, sym10, sym51, sym63, sym64]
  · simp only [rForm0_l, nfz25, nfz24, nfz23, nfz22, nfz21, nfz20, nfz19, nfz18, nfz17, nfz16, nfz15, nfz14, nfz13, nfz12, nfz11, nfz10, nfz9, nfz8, nfz7, nfz6, nfz5, nfz4, nfz3, nfz2, nfz1, nfz0, EndsOk, WaysOk, forall_cons, forall_nil, TgtOk, gpair, FactsIn, hold_cons, hold_nil, Option.some.injEq, Value.bool.injEq, Value.int.injEq, decide_eq_true_eq, decide_eq_false_iff_not, and_true, true_and, and_imp, X.bool, X.den, denL, d_wrap, d_kind, d_not, d_neg, d_slen, d_add, d_sub, d_mul, d_div, d_mod, d_lt, d_le, d_eq, d_eqb, d_eqs, d_lts, d_cat, d_sat, d_and, d_or, denSub, denIte, asB, fracs_len, fracs_cell, fracs_lsub, deeds_len, deeds_cell, deeds_lsub, beq_iff_eq, beq_eq_false_iff_ne, ne_eq, a0, a1, a2, a3, a4, a5, a6, a7, a8, a9, a10, hsy, sym10, sym51, sym63, sym64]
    clear hsy hρ hpre hrel hi hins g0 hp a0 a1 a2 a3 a4 a5 a6 a7 a8 a9 a10
    obtain ⟨id, known, hour, kind, loss, pack, from_, to_, snum, sden, of_⟩ := x
    simp only [formB, ownB, placeB, partB]
    (repeat' apply And.intro) <;> intros <;> first
      | trivial
      | (exfalso; omega)
      | (subst_vars; simp [*]; done)
      | (rw [Bool.eq_iff_iff]; subst_vars; simp [*]; done)
      | (rw [within40]; subst_vars; simp [*]; done)
      | (simp_all [within40]; done)
      | (subst_vars; simp_all; done)
      | (exfalso; simp_all; omega)
      | (simp_all; omega)
noncomputable def rForm_con : Con := { f := 94, args := [.agg (deedLeaves 0)], N := 0, M := 0, pre := [], out := .sbool (.app 63 [.var 0, .var 1, .var 2, .var 3, .var 4, .var 5, .var 6, .var 7, .var 8, .var 9, .var 10]), news := [] }
theorem rForm_has {c : Con} (hc : c.fn.args = argsAV [.agg (deedLeaves 0)]) (k : Int) : ∀ r σ us, r.sym = sy → σ.rho = r → FactsIn r c.pre → Ins σ c.fn.args us → ∃ b, (X.op2 .eq (.var 3) (.num k)).bool r = some b := by
  intro r σ us _ hρ _ hins
  rw [hc] at hins
  obtain ⟨u0, us, rfl, g0, hi⟩ := ins_cons hins
  obtain ⟨x, q, rfl, hp⟩ := deed_agg g0
  rw [hρ] at hp
  have a3 := hp.h3
  simp only [Nat.reduceAdd] at a3
  exact ⟨x.kind == k, by simp only [X.bool, X.den, denL, d_wrap, d_kind, d_not, d_neg, d_slen, d_add, d_sub, d_mul, d_div, d_mod, d_lt, d_le, d_eq, d_eqb, d_eqs, d_lts, d_cat, d_sat, d_and, d_or, denSub, denIte, asB, fracs_len, fracs_cell, fracs_lsub, deeds_len, deeds_cell, deeds_lsub, a3]⟩
/-- One kind is no other one. -/
theorem rForm_more {c : Con} (hc : c.fn.args = argsAV [.agg (deedLeaves 0)]) (k : Int) {l : List Int} {F : List (X × Bool)} (hF : c.pre = (.op2 .eq (.var 3) (.num k), true) :: F) (hl : l.all (fun j => !(j == k)) = true) : ∀ r σ us, r.sym = sy → σ.rho = r → FactsIn r c.pre → Ins σ c.fn.args us → FactsIn r ((l.map fun j => (X.op2 .eq (.var 3) (.num j), false)) ++ c.pre) := by
  intro r σ us _ hρ hpre hins
  rw [hc] at hins
  obtain ⟨u0, us, rfl, g0, hi⟩ := ins_cons hins
  obtain ⟨x, q, rfl, hp⟩ := deed_agg g0
  rw [hρ] at hp
  have a3 := hp.h3
  simp only [Nat.reduceAdd] at a3
  have hk : x.kind = k := by
    have h := hpre
    rw [hF] at h
    have h := h.1
    simp only [X.bool, X.den, denL, d_wrap, d_kind, d_not, d_neg, d_slen, d_add, d_sub, d_mul, d_div, d_mod, d_lt, d_le, d_eq, d_eqb, d_eqs, d_lts, d_cat, d_sat, d_and, d_or, denSub, denIte, asB, fracs_len, fracs_cell, fracs_lsub, deeds_len, deeds_cell, deeds_lsub, a3, Option.some.injEq, Value.bool.injEq, beq_iff_eq] at h
    exact h
  clear hF
  induction l with
  | nil => exact hpre
  | cons j l ih =>
    simp only [List.all_cons, Bool.and_eq_true] at hl
    refine ⟨?_, ih hl.2⟩
    have hj : (x.kind == j) = false := by
      have := hl.1
      simp at this ⊢
      omega
    simp only [X.bool, X.den, denL, d_wrap, d_kind, d_not, d_neg, d_slen, d_add, d_sub, d_mul, d_div, d_mod, d_lt, d_le, d_eq, d_eqb, d_eqs, d_lts, d_cat, d_sat, d_and, d_or, denSub, denIte, asB, fracs_len, fracs_cell, fracs_lsub, deeds_len, deeds_cell, deeds_lsub, a3, hj]
theorem rForm_cok : rForm_con.Ok Tryz.prog sy :=
  con_cases (rForm_has rfl 5) (con_more (rForm_more rfl 5 (l := [6, 1, 2, 3, 4]) rfl rfl) rForm5_cok) (  con_cases (rForm_has rfl 6) (con_more (rForm_more rfl 6 (l := [1, 2, 3, 4]) rfl rfl) rForm6_cok) (  con_cases (rForm_has rfl 1) (con_more (rForm_more rfl 1 (l := [2, 3, 4]) rfl rfl) rForm1_cok) (  con_cases (rForm_has rfl 2) (con_more (rForm_more rfl 2 (l := [3, 4]) rfl rfl) rForm2_cok) (  con_cases (rForm_has rfl 3) (con_more (rForm_more rfl 3 (l := [4]) rfl rfl) rForm3_cok) (  con_cases (rForm_has rfl 4) rForm4_cok (rForm0_cok))))))

end Go.Proofs.YtnahicnoofkfgaaGreatDoor.Zs
