/-
  Contract of CheckDeed of the package, kind by kind.
-/
import Derived.Test.YtnahicnoofkfgaaGreatDoorDeDeedE
import Derived.KernelRfl
set_option linter.unusedSimpArgs false
set_option linter.unusedVariables false
namespace Go.Proofs.YtnahicnoofkfgaaGreatDoor.Zs
open Go
set_option linter.unusedSimpArgs false
set_option linter.unusedVariables false

noncomputable def cDeed5_con : Con := { f := 36, args := [.agg (deedLeaves 0)], N := 0, M := 0, pre := [(.op2 .eq (.var 3) (.num 6), false), (.op2 .eq (.var 3) (.num 1), false), (.op2 .eq (.var 3) (.num 2), false), (.op2 .eq (.var 3) (.num 3), false), (.op2 .eq (.var 3) (.num 4), false), (.op2 .eq (.var 3) (.num 5), true)], out := .sint .i64 (.app 64 [.var 0, .var 1, .var 2, .var 3, .var 4, .var 5, .var 6, .var 7, .var 8, .var 9, .var 10]), news := [] }
noncomputable def cDeed5_call : Env → CallL := fun E => acallAll E (evH E (C5 E) ((fun _ => noLoops) E) 20)
def nhz0 : X := .app 64 [(.var 0), (.var 1), (.var 2), (.var 3), (.var 4), (.var 5), (.var 6), (.var 7), (.var 8), (.var 9), (.var 10)]
def nhz1 : X := .app 10 [(.var 0), (.num 1), (.num 1000000)]
def nhz2 : X := .app 10 [(.var 1), (.num 0), (.num 1000000)]
def nhz3 : X := .app 10 [(.var 2), (.num 0), (.num 1000000)]
def nhz4 : X := .op2 .eq (.var 3) (.num 6)
def nhz5 : X := .op2 .eq (.var 3) (.num 1)
def nhz6 : X := .op2 .eq (.var 3) (.num 2)
def nhz7 : X := .op2 .eq (.var 3) (.num 3)
def nhz8 : X := .op2 .eq (.var 3) (.num 4)
def nhz9 : X := .op2 .eq (.var 3) (.num 5)
def nhz10 : X := .app 10 [(.var 4), (.num 1), (.num 20)]
def nhz11 : X := .app 10 [(.var 5), (.num 1), (.num 200)]
def nhz12 : X := .op2 .eq (.var 10) (.num 0)
def nhz13 : X := .app 10 [(.var 6), (.num 1), (.num 40)]
def nhz14 : X := .op2 .eq (.var 8) (.num 0)
def nhz15 : X := .op2 .eq (.var 7) (.num 0)
def nhz16 : X := .op2 .eq (.var 9) (.num 0)
def nhz17 : X := .app 10 [(.var 7), (.num 1), (.num 40)]
def nhz18 : X := .op2 .eq (.var 4) (.num 0)
def nhz19 : X := .op2 .eq (.var 5) (.num 0)
def nhz20 : X := .op2 .eq (.var 6) (.num 0)
def nhz21 : X := .op2 .eq (.var 7) (.var 6)
noncomputable def cDeed5_t : GTree := (.fork nhz1 (.fork nhz2 (.fork nhz3 (.fork nhz18 (.fork nhz19 (.fork nhz20 (.fork nhz15 (.fork nhz14 (.fork nhz16 (.fork (.app 10 [.var 10, .num 1, .num 1000000]) (.leaf [[]]) (.leaf [[]])) (.leaf [[]])) (.leaf [[]])) (.leaf [[]])) (.leaf [[]])) (.leaf [[]])) (.leaf [[]])) (.leaf [[]])) (.leaf [[]])) (.leaf [[]]))
noncomputable def cDeed5_l : List (List (X × Bool) × Option Pairs) := [([(.app 10 [.var 10, .num 1, .num 1000000], true), (nhz16, true), (nhz14, true), (nhz15, true), (nhz20, true), (nhz19, true), (nhz18, true), (nhz3, true), (nhz2, true), (nhz1, true), (nhz4, false), (nhz5, false), (nhz6, false), (nhz7, false), (nhz8, false), (nhz9, true)], some [(nhz0, .num 0)]),
  ([(.app 10 [.var 10, .num 1, .num 1000000], false), (nhz16, true), (nhz14, true), (nhz15, true), (nhz20, true), (nhz19, true), (nhz18, true), (nhz3, true), (nhz2, true), (nhz1, true), (nhz4, false), (nhz5, false), (nhz6, false), (nhz7, false), (nhz8, false), (nhz9, true)], some [(nhz0, .num 1)]),
  ([(nhz16, false), (nhz14, true), (nhz15, true), (nhz20, true), (nhz19, true), (nhz18, true), (nhz3, true), (nhz2, true), (nhz1, true), (nhz4, false), (nhz5, false), (nhz6, false), (nhz7, false), (nhz8, false), (nhz9, true)], some [(nhz0, .num 1)]),
  ([(nhz14, false), (nhz15, true), (nhz20, true), (nhz19, true), (nhz18, true), (nhz3, true), (nhz2, true), (nhz1, true), (nhz4, false), (nhz5, false), (nhz6, false), (nhz7, false), (nhz8, false), (nhz9, true)], some [(nhz0, .num 1)]),
  ([(nhz15, false), (nhz20, true), (nhz19, true), (nhz18, true), (nhz3, true), (nhz2, true), (nhz1, true), (nhz4, false), (nhz5, false), (nhz6, false), (nhz7, false), (nhz8, false), (nhz9, true)], some [(nhz0, .num 1)]),
  ([(nhz20, false), (nhz19, true), (nhz18, true), (nhz3, true), (nhz2, true), (nhz1, true), (nhz4, false), (nhz5, false), (nhz6, false), (nhz7, false), (nhz8, false), (nhz9, true)], some [(nhz0, .num 1)]),
  ([(nhz19, false), (nhz18, true), (nhz3, true), (nhz2, true), (nhz1, true), (nhz4, false), (nhz5, false), (nhz6, false), (nhz7, false), (nhz8, false), (nhz9, true)], some [(nhz0, .num 1)]),
  ([(nhz18, false), (nhz3, true), (nhz2, true), (nhz1, true), (nhz4, false), (nhz5, false), (nhz6, false), (nhz7, false), (nhz8, false), (nhz9, true)], some [(nhz0, .num 1)]),
  ([(nhz3, false), (nhz2, true), (nhz1, true), (nhz4, false), (nhz5, false), (nhz6, false), (nhz7, false), (nhz8, false), (nhz9, true)], some [(nhz0, .num 1)]),
  ([(nhz2, false), (nhz1, true), (nhz4, false), (nhz5, false), (nhz6, false), (nhz7, false), (nhz8, false), (nhz9, true)], some [(nhz0, .num 1)]),
  ([(nhz1, false), (nhz4, false), (nhz5, false), (nhz6, false), (nhz7, false), (nhz8, false), (nhz9, true)], some [(nhz0, .num 1)])]
theorem cDeed5_w (r : Rho) : cDeed5_con.fn.ways cDeed5_call E0 r cDeed5_con.pre cDeed5_t = some cDeed5_l := by kernel_rfl
set_option maxRecDepth 100000 in
set_option maxHeartbeats 8000000 in
theorem cDeed5_cok : cDeed5_con.Ok Tryz.prog sy := by
  intro r σ w us hsy hρ hpre hrel hins
  obtain ⟨u0, us, rfl, g0, hi⟩ := ins_cons hins
  obtain ⟨x, k, rfl, hp⟩ := deed_agg g0
  rw [hρ] at hp
  have a0 := hp.h0
  have a1 := hp.h1
  have a2 := hp.h2
  have a3 := hp.h3
  have a4 := hp.h4
  have a5 := hp.h5
  have a6 := hp.h6
  have a7 := hp.h7
  have a8 := hp.h8
  have a9 := hp.h9
  have a10 := hp.h10
  simp only [Nat.zero_add, Nat.reduceAdd] at a0 a1 a2 a3 a4 a5 a6 a7 a8 a9 a10

  refine con_of (E := E0) E0_ok E0_glob (sy := sy) (fun F => C5_ok F hsy) (fun F => noH_ok) (cDeed5_w r) hρ hpre hrel hins ?_ ?_
  · simp only [cDeed5_con, cDeed5_t, nhz21, nhz20, nhz19, nhz18, nhz17, nhz16, nhz15, nhz14, nhz13, nhz12, nhz11, nhz10, nhz9, nhz8, nhz7, nhz6, nhz5, nhz4, nhz3, nhz2, nhz1, nhz0, AsksL, GTree.asks, FTree.asks, FactsIn, List.append_nil, List.nil_append, List.cons_append, Option.some.injEq, exists_eq', implies_true, and_self, X.bool, X.den, denL, d_wrap, d_kind, d_not, d_neg, d_slen, d_add, d_sub, d_mul, d_div, d_mod, d_lt, d_le, d_eq, d_eqb, d_eqs, d_lts, d_cat, d_sat, d_and, d_or, denSub, denIte, asB, fracs_len, fracs_cell, fracs_lsub, deeds_len, deeds_cell, deeds_lsub, a0, a1, a2, a3, a4, a5, a6, a7, a8, a9, a10, hsy, sym10, sym51, sym63, sym64]
  · simp only [cDeed5_l, nhz21, nhz20, nhz19, nhz18, nhz17, nhz16, nhz15, nhz14, nhz13, nhz12, nhz11, nhz10, nhz9, nhz8, nhz7, nhz6, nhz5, nhz4, nhz3, nhz2, nhz1, nhz0, EndsOk, WaysOk, forall_cons, forall_nil, TgtOk, gpair, FactsIn, hold_cons, hold_nil, Option.some.injEq, Value.bool.injEq, Value.int.injEq, decide_eq_true_eq, decide_eq_false_iff_not, and_true, true_and, and_imp, X.bool, X.den, denL, d_wrap, d_kind, d_not, d_neg, d_slen, d_add, d_sub, d_mul, d_div, d_mod, d_lt, d_le, d_eq, d_eqb, d_eqs, d_lts, d_cat, d_sat, d_and, d_or, denSub, denIte, asB, fracs_len, fracs_cell, fracs_lsub, deeds_len, deeds_cell, deeds_lsub, beq_iff_eq, beq_eq_false_iff_ne, ne_eq, a0, a1, a2, a3, a4, a5, a6, a7, a8, a9, a10, hsy, sym10, sym51, sym63, sym64]
    clear hsy hρ hpre hrel hi hins g0 hp a0 a1 a2 a3 a4 a5 a6 a7 a8 a9 a10
    obtain ⟨id, known, hour, kind, loss, pack, from_, to_, snum, sden, of_⟩ := x
    simp only [formB, ownB, placeB, partB]
    (repeat' apply And.intro) <;> intros <;> first
      | trivial
      | (exfalso; omega)
      | (subst_vars; simp [*]; done)
      | (rw [Bool.eq_iff_iff]; subst_vars; simp [*]; done)
      | (rw [within40]; subst_vars; simp [*]; done)
      | (simp_all [within40]; done)
      | (subst_vars; simp_all; done)
      | (exfalso; simp_all; omega)
      | (simp_all; omega)
noncomputable def cDeed6_con : Con := { f := 36, args := [.agg (deedLeaves 0)], N := 0, M := 0, pre := [(.op2 .eq (.var 3) (.num 1), false), (.op2 .eq (.var 3) (.num 2), false), (.op2 .eq (.var 3) (.num 3), false), (.op2 .eq (.var 3) (.num 4), false), (.op2 .eq (.var 3) (.num 6), true), (.op2 .eq (.var 3) (.num 5), false)], out := .sint .i64 (.app 64 [.var 0, .var 1, .var 2, .var 3, .var 4, .var 5, .var 6, .var 7, .var 8, .var 9, .var 10]), news := [] }
noncomputable def cDeed6_call : Env → CallL := fun E => acallAll E (evH E (C5 E) ((fun _ => noLoops) E) 20)
noncomputable def cDeed6_t : GTree := (.fork nhz1 (.fork nhz2 (.fork nhz3 (.fork (.op2 .eq (.var 2) (.num 0)) (.fork nhz18 (.fork nhz19 (.fork nhz20 (.fork nhz15 (.fork nhz14 (.fork nhz16 (.fork (.app 10 [.var 10, .num 1, .num 1000000]) (.leaf [[]]) (.leaf [[]])) (.leaf [[]])) (.leaf [[]])) (.leaf [[]])) (.leaf [[]])) (.leaf [[]])) (.leaf [[]])) (.leaf [[]])) (.leaf [[]])) (.leaf [[]])) (.leaf [[]]))
noncomputable def cDeed6_l : List (List (X × Bool) × Option Pairs) := [([(.app 10 [.var 10, .num 1, .num 1000000], true), (nhz16, true), (nhz14, true), (nhz15, true), (nhz20, true), (nhz19, true), (nhz18, true), (.op2 .eq (.var 2) (.num 0), true), (nhz3, true), (nhz2, true), (nhz1, true), (nhz5, false), (nhz6, false), (nhz7, false), (nhz8, false), (nhz4, true), (nhz9, false)], some [(nhz0, .num 0)]),
  ([(.app 10 [.var 10, .num 1, .num 1000000], false), (nhz16, true), (nhz14, true), (nhz15, true), (nhz20, true), (nhz19, true), (nhz18, true), (.op2 .eq (.var 2) (.num 0), true), (nhz3, true), (nhz2, true), (nhz1, true), (nhz5, false), (nhz6, false), (nhz7, false), (nhz8, false), (nhz4, true), (nhz9, false)], some [(nhz0, .num 1)]),
  ([(nhz16, false), (nhz14, true), (nhz15, true), (nhz20, true), (nhz19, true), (nhz18, true), (.op2 .eq (.var 2) (.num 0), true), (nhz3, true), (nhz2, true), (nhz1, true), (nhz5, false), (nhz6, false), (nhz7, false), (nhz8, false), (nhz4, true), (nhz9, false)], some [(nhz0, .num 1)]),
  ([(nhz14, false), (nhz15, true), (nhz20, true), (nhz19, true), (nhz18, true), (.op2 .eq (.var 2) (.num 0), true), (nhz3, true), (nhz2, true), (nhz1, true), (nhz5, false), (nhz6, false), (nhz7, false), (nhz8, false), (nhz4, true), (nhz9, false)], some [(nhz0, .num 1)]),
  ([(nhz15, false), (nhz20, true), (nhz19, true), (nhz18, true), (.op2 .eq (.var 2) (.num 0), true), (nhz3, true), (nhz2, true), (nhz1, true), (nhz5, false), (nhz6, false), (nhz7, false), (nhz8, false), (nhz4, true), (nhz9, false)], some [(nhz0, .num 1)]),
  ([(nhz20, false), (nhz19, true), (nhz18, true), (.op2 .eq (.var 2) (.num 0), true), (nhz3, true), (nhz2, true), (nhz1, true), (nhz5, false), (nhz6, false), (nhz7, false), (nhz8, false), (nhz4, true), (nhz9, false)], some [(nhz0, .num 1)]),
  ([(nhz19, false), (nhz18, true), (.op2 .eq (.var 2) (.num 0), true), (nhz3, true), (nhz2, true), (nhz1, true), (nhz5, false), (nhz6, false), (nhz7, false), (nhz8, false), (nhz4, true), (nhz9, false)], some [(nhz0, .num 1)]),
  ([(nhz18, false), (.op2 .eq (.var 2) (.num 0), true), (nhz3, true), (nhz2, true), (nhz1, true), (nhz5, false), (nhz6, false), (nhz7, false), (nhz8, false), (nhz4, true), (nhz9, false)], some [(nhz0, .num 1)]),
  ([(.op2 .eq (.var 2) (.num 0), false), (nhz3, true), (nhz2, true), (nhz1, true), (nhz5, false), (nhz6, false), (nhz7, false), (nhz8, false), (nhz4, true), (nhz9, false)], some [(nhz0, .num 1)]),
  ([(nhz3, false), (nhz2, true), (nhz1, true), (nhz5, false), (nhz6, false), (nhz7, false), (nhz8, false), (nhz4, true), (nhz9, false)], some [(nhz0, .num 1)]),
  ([(nhz2, false), (nhz1, true), (nhz5, false), (nhz6, false), (nhz7, false), (nhz8, false), (nhz4, true), (nhz9, false)], some [(nhz0, .num 1)]),
  ([(nhz1, false), (nhz5, false), (nhz6, false), (nhz7, false), (nhz8, false), (nhz4, true), (nhz9, false)], some [(nhz0, .num 1)])]
theorem cDeed6_w (r : Rho) : cDeed6_con.fn.ways cDeed6_call E0 r cDeed6_con.pre cDeed6_t = some cDeed6_l := by kernel_rfl
set_option maxRecDepth 100000 in
set_option maxHeartbeats 8000000 in
theorem cDeed6_cok : cDeed6_con.Ok Tryz.prog sy := by
  intro r σ w us hsy hρ hpre hrel hins
  obtain ⟨u0, us, rfl, g0, hi⟩ := ins_cons hins
  obtain ⟨x, k, rfl, hp⟩ := deed_agg g0
  rw [hρ] at hp
  have a0 := hp.h0
  have a1 := hp.h1
  have a2 := hp.h2
  have a3 := hp.h3
  have a4 := hp.h4
  have a5 := hp.h5
  have a6 := hp.h6
  have a7 := hp.h7
  have a8 := hp.h8
  have a9 := hp.h9
  have a10 := hp.h10
  simp only [Nat.zero_add, Nat.reduceAdd] at a0 a1 a2 a3 a4 a5 a6 a7 a8 a9 a10

  refine con_of (E := E0) E0_ok E0_glob (sy := sy) (fun F => C5_ok F hsy) (fun F => noH_ok) (cDeed6_w r) hρ hpre hrel hins ?_ ?_
  · simp only [cDeed6_con, cDeed6_t, nhz21, nhz20, nhz19, nhz18, nhz17, nhz16, nhz15, nhz14, nhz13, nhz12, nhz11, nhz10, nhz9, nhz8, nhz7, nhz6, nhz5, nhz4, nhz3, nhz2, nhz1, nhz0, AsksL, GTree.asks, FTree.asks, FactsIn, List.append_nil, List.nil_append, List.cons_append, Option.some.injEq, exists_eq', implies_true, and_self, X.bool, X.den, denL, d_wrap, d_kind, d_not, d_neg, d_slen, d_add, d_sub, d_mul, d_div, d_mod, d_lt, d_le, d_eq, d_eqb, d_eqs, d_lts, d_cat, d_sat, d_and, d_or, denSub, denIte, asB, fracs_len, fracs_cell, fracs_lsub, deeds_len, deeds_cell, deeds_lsub, a0, a1, a2, a3, a4, a5, a6, a7, a8, a9, a10, hsy, sym10, sym51, sym63, sym64]
  · simp only [cDeed6_l, nhz21, nhz20, nhz19, nhz18, nhz17, nhz16, nhz15, nhz14, nhz13, nhz12, nhz11, nhz10, nhz9, nhz8, nhz7, nhz6, nhz5, nhz4, nhz3, nhz2, nhz1, nhz0, EndsOk, WaysOk, forall_cons, forall_nil, TgtOk, gpair, FactsIn, hold_cons, hold_nil, Option.some.injEq, Value.bool.injEq, Value.int.injEq, decide_eq_true_eq, decide_eq_false_iff_not, and_true, true_and, and_imp, X.bool, X.den, denL, d_wrap, d_kind, d_not, d_neg, d_slen, d_add, d_sub, d_mul, d_div, d_mod, d_lt, d_le, d_eq, d_eqb, d_eqs, d_lts, d_cat, d_sat, d_and, d_or, denSub, denIte, asB, fracs_len, fracs_cell, fracs_lsub, deeds_len, deeds_cell, deeds_lsub, beq_iff_eq, beq_eq_false_iff_ne, ne_eq, a0, a1, a2, a3, a4, a5, a6, a7, a8, a9, a10, hsy, sym10, sym51, sym63, sym64]
    clear hsy hρ hpre hrel hi hins g0 hp a0 a1 a2 a3 a4 a5 a6 a7 a8 a9 a10
    obtain ⟨id, known, hour, kind, loss, pack, from_, to_, snum, sden, of_⟩ := x
    simp only [formB, ownB, placeB, partB]
    (repeat' apply And.intro) <;> intros <;> first
      | trivial
      | (exfalso; omega)
      | (subst_vars; simp [*]; done)
      | (rw [Bool.eq_iff_iff]; subst_vars; simp [*]; done)
      | (rw [within40]; subst_vars; simp [*]; done)
      | (simp_all [within40]; done)
      | (subst_vars; simp_all; done)
      | (exfalso; simp_all; omega)
      | (simp_all; omega)
noncomputable def cDeed1_con : Con := { f := 36, args := [.agg (deedLeaves 0)], N := 0, M := 0, pre := [(.op2 .eq (.var 3) (.num 2), false), (.op2 .eq (.var 3) (.num 3), false), (.op2 .eq (.var 3) (.num 4), false), (.op2 .eq (.var 3) (.num 1), true), (.op2 .eq (.var 3) (.num 6), false), (.op2 .eq (.var 3) (.num 5), false)], out := .sint .i64 (.app 64 [.var 0, .var 1, .var 2, .var 3, .var 4, .var 5, .var 6, .var 7, .var 8, .var 9, .var 10]), news := [] }
noncomputable def cDeed1_call : Env → CallL := fun E => acallAll E (evH E (C5 E) ((fun _ => noLoops) E) 20)
noncomputable def cDeed1_t : GTree := (.fork nhz1 (.fork nhz2 (.fork nhz3 (.fork nhz12 (.fork nhz10 (.fork nhz11 (.fork nhz13 (.fork nhz17 (.fork nhz21 (.leaf [[]]) (.fork (.app 51 [.var 8, .var 9]) (.fork (.op2 .lt (.num 0) (.var 8)) (.fork (.op2 .lt (.var 9) (.var 8)) (.leaf [[]]) (.leaf [[]])) (.leaf [[]])) (.leaf [[]]))) (.leaf [[]])) (.leaf [[]])) (.leaf [[]])) (.leaf [[]])) (.leaf [[]])) (.leaf [[]])) (.leaf [[]])) (.leaf [[]]))
noncomputable def cDeed1_l : List (List (X × Bool) × Option Pairs) := [([(nhz21, true), (nhz17, true), (nhz13, true), (nhz11, true), (nhz10, true), (nhz12, true), (nhz3, true), (nhz2, true), (nhz1, true), (nhz6, false), (nhz7, false), (nhz8, false), (nhz5, true), (nhz4, false), (nhz9, false)], some [(nhz0, .num 1)]),
  ([(.op2 .lt (.var 9) (.var 8), true), (.op2 .lt (.num 0) (.var 8), true), (.app 51 [.var 8, .var 9], true), (nhz21, false), (nhz17, true), (nhz13, true), (nhz11, true), (nhz10, true), (nhz12, true), (nhz3, true), (nhz2, true), (nhz1, true), (nhz6, false), (nhz7, false), (nhz8, false), (nhz5, true), (nhz4, false), (nhz9, false)], some [(nhz0, .num 1)]),
  ([(.op2 .lt (.var 9) (.var 8), false), (.op2 .lt (.num 0) (.var 8), true), (.app 51 [.var 8, .var 9], true), (nhz21, false), (nhz17, true), (nhz13, true), (nhz11, true), (nhz10, true), (nhz12, true), (nhz3, true), (nhz2, true), (nhz1, true), (nhz6, false), (nhz7, false), (nhz8, false), (nhz5, true), (nhz4, false), (nhz9, false)], some [(nhz0, .num 0)]),
  ([(.op2 .lt (.num 0) (.var 8), false), (.app 51 [.var 8, .var 9], true), (nhz21, false), (nhz17, true), (nhz13, true), (nhz11, true), (nhz10, true), (nhz12, true), (nhz3, true), (nhz2, true), (nhz1, true), (nhz6, false), (nhz7, false), (nhz8, false), (nhz5, true), (nhz4, false), (nhz9, false)], some [(nhz0, .num 1)]),
  ([(.app 51 [.var 8, .var 9], false), (nhz21, false), (nhz17, true), (nhz13, true), (nhz11, true), (nhz10, true), (nhz12, true), (nhz3, true), (nhz2, true), (nhz1, true), (nhz6, false), (nhz7, false), (nhz8, false), (nhz5, true), (nhz4, false), (nhz9, false)], some [(nhz0, .num 1)]),
  ([(nhz17, false), (nhz13, true), (nhz11, true), (nhz10, true), (nhz12, true), (nhz3, true), (nhz2, true), (nhz1, true), (nhz6, false), (nhz7, false), (nhz8, false), (nhz5, true), (nhz4, false), (nhz9, false)], some [(nhz0, .num 1)]),
  ([(nhz13, false), (nhz11, true), (nhz10, true), (nhz12, true), (nhz3, true), (nhz2, true), (nhz1, true), (nhz6, false), (nhz7, false), (nhz8, false), (nhz5, true), (nhz4, false), (nhz9, false)], some [(nhz0, .num 1)]),
  ([(nhz11, false), (nhz10, true), (nhz12, true), (nhz3, true), (nhz2, true), (nhz1, true), (nhz6, false), (nhz7, false), (nhz8, false), (nhz5, true), (nhz4, false), (nhz9, false)], some [(nhz0, .num 1)]),
  ([(nhz10, false), (nhz12, true), (nhz3, true), (nhz2, true), (nhz1, true), (nhz6, false), (nhz7, false), (nhz8, false), (nhz5, true), (nhz4, false), (nhz9, false)], some [(nhz0, .num 1)]),
  ([(nhz12, false), (nhz3, true), (nhz2, true), (nhz1, true), (nhz6, false), (nhz7, false), (nhz8, false), (nhz5, true), (nhz4, false), (nhz9, false)], some [(nhz0, .num 1)]),
  ([(nhz3, false), (nhz2, true), (nhz1, true), (nhz6, false), (nhz7, false), (nhz8, false), (nhz5, true), (nhz4, false), (nhz9, false)], some [(nhz0, .num 1)]),
  ([(nhz2, false), (nhz1, true), (nhz6, false), (nhz7, false), (nhz8, false), (nhz5, true), (nhz4, false), (nhz9, false)], some [(nhz0, .num 1)]),
  ([(nhz1, false), (nhz6, false), (nhz7, false), (nhz8, false), (nhz5, true), (nhz4, false), (nhz9, false)], some [(nhz0, .num 1)])]
theorem cDeed1_w (r : Rho) : cDeed1_con.fn.ways cDeed1_call E0 r cDeed1_con.pre cDeed1_t = some cDeed1_l := by kernel_rfl
set_option maxRecDepth 100000 in
set_option maxHeartbeats 8000000 in
theorem cDeed1_cok : cDeed1_con.Ok Tryz.prog sy := by
  intro r σ w us hsy hρ hpre hrel hins
  obtain ⟨u0, us, rfl, g0, hi⟩ := ins_cons hins
  obtain ⟨x, k, rfl, hp⟩ := deed_agg g0
  rw [hρ] at hp
  have a0 := hp.h0
  have a1 := hp.h1
  have a2 := hp.h2
  have a3 := hp.h3
  have a4 := hp.h4
  have a5 := hp.h5
  have a6 := hp.h6
  have a7 := hp.h7
  have a8 := hp.h8
  have a9 := hp.h9
  have a10 := hp.h10
  simp only [Nat.zero_add, Nat.reduceAdd] at a0 a1 a2 a3 a4 a5 a6 a7 a8 a9 a10

  refine con_of (E := E0) E0_ok E0_glob (sy := sy) (fun F => C5_ok F hsy) (fun F => noH_ok) (cDeed1_w r) hρ hpre hrel hins ?_ ?_
  · simp only [cDeed1_con, cDeed1_t, nhz21, nhz20, nhz19, nhz18, nhz17, nhz16, nhz15, nhz14, nhz13, nhz12, nhz11, nhz10, nhz9, nhz8, nhz7, nhz6, nhz5, nhz4, nhz3, nhz2, nhz1, nhz0, AsksL, GTree.asks, FTree.asks, FactsIn, List.append_nil, List.nil_append, List.cons_append, Option.some.injEq, exists_eq', implies_true, and_self, X.bool, X.den, denL, d_wrap, d_kind, d_not, d_neg, d_slen, d_add, d_sub, d_mul, d_div, d_mod, d_lt, d_le, d_eq, d_eqb, d_eqs, d_lts, d_cat, d_sat, d_and, d_or, denSub, denIte, asB, fracs_len, fracs_cell, fracs_lsub, deeds_len, deeds_cell, deeds_lsub, a0, a1, a2, a3, a4, a5, a6, a7, a8, a9, a10, hsy, sym10, sym51, sym63, sym64]
  · simp only [cDeed1_l, nhz21, nhz20, nhz19, nhz18, nhz17, nhz16, nhz15, nhz14, nhz13, nhz12, nhz11, nhz10, nhz9, nhz8, nhz7, nhz6, nhz5, nhz4, nhz3, nhz2, nhz1, nhz0, EndsOk, WaysOk, forall_cons, forall_nil, TgtOk, gpair, FactsIn, hold_cons, hold_nil, Option.some.injEq, Value.bool.injEq, Value.int.injEq, decide_eq_true_eq, decide_eq_false_iff_not, and_true, true_and, and_imp, X.bool, X.den, denL, d_wrap, d_kind, d_not, d_neg, d_slen, d_add, d_sub, d_mul, d_div, d_mod, d_lt, d_le, d_eq, d_eqb, d_eqs, d_lts, d_cat, d_sat, d_and, d_or, denSub, denIte, asB, fracs_len, fracs_cell, fracs_lsub, deeds_len, deeds_cell, deeds_lsub, beq_iff_eq, beq_eq_false_iff_ne, ne_eq, a0, a1, a2, a3, a4, a5, a6, a7, a8, a9, a10, hsy, sym10, sym51, sym63, sym64]
    clear hsy hρ hpre hrel hi hins g0 hp a0 a1 a2 a3 a4 a5 a6 a7 a8 a9 a10
    obtain ⟨id, known, hour, kind, loss, pack, from_, to_, snum, sden, of_⟩ := x
    simp only [formB, ownB, placeB, partB]
    (repeat' apply And.intro) <;> intros <;> first
      | trivial
      | (exfalso; omega)
      | (subst_vars; simp [*]; done)
      | (rw [Bool.eq_iff_iff]; subst_vars; simp [*]; done)
      | (rw [within40]; subst_vars; simp [*]; done)
      | (simp_all [within40]; done)
      | (subst_vars; simp_all; done)
      | (exfalso; simp_all; omega)
      | (simp_all; omega)
noncomputable def cDeed2_con : Con := { f := 36, args := [.agg (deedLeaves 0)], N := 0, M := 0, pre := [(.op2 .eq (.var 3) (.num 3), false), (.op2 .eq (.var 3) (.num 4), false), (.op2 .eq (.var 3) (.num 2), true), (.op2 .eq (.var 3) (.num 1), false), (.op2 .eq (.var 3) (.num 6), false), (.op2 .eq (.var 3) (.num 5), false)], out := .sint .i64 (.app 64 [.var 0, .var 1, .var 2, .var 3, .var 4, .var 5, .var 6, .var 7, .var 8, .var 9, .var 10]), news := [] }
noncomputable def cDeed2_call : Env → CallL := fun E => acallAll E (evH E (C5 E) ((fun _ => noLoops) E) 20)
noncomputable def cDeed2_t : GTree := (.fork nhz1 (.fork nhz2 (.fork nhz3 (.fork nhz12 (.fork nhz10 (.fork nhz11 (.fork nhz13 (.fork nhz17 (.fork nhz21 (.leaf [[]]) (.fork (.app 51 [.var 8, .var 9]) (.fork (.op2 .lt (.num 0) (.var 8)) (.fork (.op2 .lt (.var 9) (.var 8)) (.leaf [[]]) (.leaf [[]])) (.leaf [[]])) (.leaf [[]]))) (.leaf [[]])) (.leaf [[]])) (.leaf [[]])) (.leaf [[]])) (.leaf [[]])) (.leaf [[]])) (.leaf [[]])) (.leaf [[]]))
noncomputable def cDeed2_l : List (List (X × Bool) × Option Pairs) := [([(nhz21, true), (nhz17, true), (nhz13, true), (nhz11, true), (nhz10, true), (nhz12, true), (nhz3, true), (nhz2, true), (nhz1, true), (nhz7, false), (nhz8, false), (nhz6, true), (nhz5, false), (nhz4, false), (nhz9, false)], some [(nhz0, .num 1)]),
  ([(.op2 .lt (.var 9) (.var 8), true), (.op2 .lt (.num 0) (.var 8), true), (.app 51 [.var 8, .var 9], true), (nhz21, false), (nhz17, true), (nhz13, true), (nhz11, true), (nhz10, true), (nhz12, true), (nhz3, true), (nhz2, true), (nhz1, true), (nhz7, false), (nhz8, false), (nhz6, true), (nhz5, false), (nhz4, false), (nhz9, false)], some [(nhz0, .num 1)]),
  ([(.op2 .lt (.var 9) (.var 8), false), (.op2 .lt (.num 0) (.var 8), true), (.app 51 [.var 8, .var 9], true), (nhz21, false), (nhz17, true), (nhz13, true), (nhz11, true), (nhz10, true), (nhz12, true), (nhz3, true), (nhz2, true), (nhz1, true), (nhz7, false), (nhz8, false), (nhz6, true), (nhz5, false), (nhz4, false), (nhz9, false)], some [(nhz0, .num 0)]),
  ([(.op2 .lt (.num 0) (.var 8), false), (.app 51 [.var 8, .var 9], true), (nhz21, false), (nhz17, true), (nhz13, true), (nhz11, true), (nhz10, true), (nhz12, true), (nhz3, true), (nhz2, true), (nhz1, true), (nhz7, false), (nhz8, false), (nhz6, true), (nhz5, false), (nhz4, false), (nhz9, false)], some [(nhz0, .num 1)]),
  ([(.app 51 [.var 8, .var 9], false), (nhz21, false), (nhz17, true), (nhz13, true), (nhz11, true), (nhz10, true), (nhz12, true), (nhz3, true), (nhz2, true), (nhz1, true), (nhz7, false), (nhz8, false), (nhz6, true), (nhz5, false), (nhz4, false), (nhz9, false)], some [(nhz0, .num 1)]),
  ([(nhz17, false), (nhz13, true), (nhz11, true), (nhz10, true), (nhz12, true), (nhz3, true), (nhz2, true), (nhz1, true), (nhz7, false), (nhz8, false), (nhz6, true), (nhz5, false), (nhz4, false), (nhz9, false)], some [(nhz0, .num 1)]),
  ([(nhz13, false), (nhz11, true), (nhz10, true), (nhz12, true), (nhz3, true), (nhz2, true), (nhz1, true), (nhz7, false), (nhz8, false), (nhz6, true), (nhz5, false), (nhz4, false), (nhz9, false)], some [(nhz0, .num 1)]),
  ([(nhz11, false), (nhz10, true), (nhz12, true), (nhz3, true), (nhz2, true), (nhz1, true), (nhz7, false), (nhz8, false), (nhz6, true), (nhz5, false), (nhz4, false), (nhz9, false)], some [(nhz0, .num 1)]),
  ([(nhz10, false), (nhz12, true), (nhz3, true), (nhz2, true), (nhz1, true), (nhz7, false), (nhz8, false), (nhz6, true), (nhz5, false), (nhz4, false), (nhz9, false)], some [(nhz0, .num 1)]),
  ([(nhz12, false), (nhz3, true), (nhz2, true), (nhz1, true), (nhz7, false), (nhz8, false), (nhz6, true), (nhz5, false), (nhz4, false), (nhz9, false)], some [(nhz0, .num 1)]),
  ([(nhz3, false), (nhz2, true), (nhz1, true), (nhz7, false), (nhz8, false), (nhz6, true), (nhz5, false), (nhz4, false), (nhz9, false)], some [(nhz0, .num 1)]),
  ([(nhz2, false), (nhz1, true), (nhz7, false), (nhz8, false), (nhz6, true), (nhz5, false), (nhz4, false), (nhz9, false)], some [(nhz0, .num 1)]),
  ([(nhz1, false), (nhz7, false), (nhz8, false), (nhz6, true), (nhz5, false), (nhz4, false), (nhz9, false)], some [(nhz0, .num 1)])]
theorem cDeed2_w (r : Rho) : cDeed2_con.fn.ways cDeed2_call E0 r cDeed2_con.pre cDeed2_t = some cDeed2_l := by kernel_rfl
set_option maxRecDepth 100000 in
set_option maxHeartbeats 8000000 in
theorem cDeed2_cok : cDeed2_con.Ok Tryz.prog sy := by
  intro r σ w us hsy hρ hpre hrel hins
  obtain ⟨u0, us, rfl, g0, hi⟩ := ins_cons hins
  obtain ⟨x, k, rfl, hp⟩ := deed_agg g0
  rw [hρ] at hp
  have a0 := hp.h0
  have a1 := hp.h1
  have a2 := hp.h2
  have a3 := hp.h3
  have a4 := hp.h4
  have a5 := hp.h5
  have a6 := hp.h6
  have a7 := hp.h7
  have a8 := hp.h8
  have a9 := hp.h9
  have a10 := hp.h10
  simp only [Nat.zero_add, Nat.reduceAdd] at a0 a1 a2 a3 a4 a5 a6 a7 a8 a9 a10

  refine con_of (E := E0) E0_ok E0_glob (sy := sy) (fun F => C5_ok F hsy) (fun F => noH_ok) (cDeed2_w r) hρ hpre hrel hins ?_ ?_
  · simp only [cDeed2_con, cDeed2_t, nhz21, nhz20, nhz19, nhz18, nhz17, nhz16, nhz15, nhz14, nhz13, nhz12, nhz11, nhz10, nhz9, nhz8, nhz7, nhz6, nhz5, nhz4, nhz3, nhz2, nhz1, nhz0, AsksL, GTree.asks, FTree.asks, FactsIn, List.append_nil, List.nil_append, List.cons_append, Option.some.injEq, exists_eq', implies_true, and_self, X.bool, X.den, denL, d_wrap, d_kind, d_not, d_neg, d_slen, d_add, d_sub, d_mul, d_div, d_mod, d_lt, d_le, d_eq, d_eqb, d_eqs, d_lts, d_cat, d_sat, d_and, d_or, denSub, denIte, asB, fracs_len, fracs_cell, fracs_lsub, deeds_len, deeds_cell, deeds_lsub, a0, a1, a2, a3, a4, a5, a6, a7, a8, a9, a10, hsy, sym10, sym51, sym63, sym64]
  · simp only [cDeed2_l, nhz21, nhz20, nhz19, nhz18, nhz17, nhz16, nhz15, nhz14, nhz13, nhz12, nhz11, nhz10, nhz9, nhz8, nhz7, nhz6, nhz5, nhz4, nhz3, nhz2, nhz1, nhz0, EndsOk, WaysOk, forall_cons, forall_nil, TgtOk, gpair, FactsIn, hold_cons, hold_nil, Option.some.injEq, Value.bool.injEq, Value.int.injEq, decide_eq_true_eq, decide_eq_false_iff_not, and_true, true_and, and_imp, X.bool, X.den, denL, d_wrap, d_kind, d_not, d_neg, d_slen, d_add, d_sub, d_mul, d_div, d_mod, d_lt, d_le, d_eq, d_eqb, d_eqs, d_lts, d_cat, d_sat, d_and, d_or, denSub, denIte, asB, fracs_len, fracs_cell, fracs_lsub, deeds_len, deeds_cell, deeds_lsub, beq_iff_eq, beq_eq_false_iff_ne, ne_eq, a0, a1, a2, a3, a4, a5, a6, a7, a8, a9, a10, hsy, sym10, sym51, sym63, sym64]
    clear hsy hρ hpre hrel hi hins g0 hp a0 a1 a2 a3 a4 a5 a6 a7 a8 a9 a10
    obtain ⟨id, known, hour, kind, loss, pack, from_, to_, snum, sden, of_⟩ := x
    simp only [formB, ownB, placeB, partB]
    (repeat' apply And.intro) <;> intros <;> first
      | trivial
      | (exfalso; omega)
      | (subst_vars; simp [*]; done)
      | (rw [Bool.eq_iff_iff]; subst_vars; simp [*]; done)
      | (rw [within40]; subst_vars; simp [*]; done)
      | (simp_all [within40]; done)
      | (subst_vars; simp_all; done)
      | (exfalso; simp_all; omega)
      | (simp_all; omega)
noncomputable def cDeed3_con : Con := { f := 36, args := [.agg (deedLeaves 0)], N := 0, M := 0, pre := [(.op2 .eq (.var 3) (.num 4), false), (.op2 .eq (.var 3) (.num 3), true), (.op2 .eq (.var 3) (.num 2), false), (.op2 .eq (.var 3) (.num 1), false), (.op2 .eq (.var 3) (.num 6), false), (.op2 .eq (.var 3) (.num 5), false)], out := .sint .i64 (.app 64 [.var 0, .var 1, .var 2, .var 3, .var 4, .var 5, .var 6, .var 7, .var 8, .var 9, .var 10]), news := [] }
noncomputable def cDeed3_call : Env → CallL := fun E => acallAll E (evH E (C5 E) ((fun _ => noLoops) E) 20)
noncomputable def cDeed3_t : GTree := (.fork nhz1 (.fork nhz2 (.fork nhz3 (.fork nhz14 (.fork nhz16 (.fork nhz12 (.fork nhz10 (.fork nhz11 (.fork nhz13 (.fork nhz15 (.fork nhz21 (.leaf [[]]) (.leaf [[]])) (.fork nhz17 (.fork nhz21 (.leaf [[]]) (.leaf [[]])) (.leaf [[]]))) (.leaf [[]])) (.leaf [[]])) (.leaf [[]])) (.leaf [[]])) (.leaf [[]])) (.leaf [[]])) (.leaf [[]])) (.leaf [[]])) (.leaf [[]]))
noncomputable def cDeed3_l : List (List (X × Bool) × Option Pairs) := [([(nhz21, true), (nhz15, true), (nhz13, true), (nhz11, true), (nhz10, true), (nhz12, true), (nhz16, true), (nhz14, true), (nhz3, true), (nhz2, true), (nhz1, true), (nhz8, false), (nhz7, true), (nhz6, false), (nhz5, false), (nhz4, false), (nhz9, false)], some [(nhz0, .num 1)]),
  ([(nhz21, false), (nhz15, true), (nhz13, true), (nhz11, true), (nhz10, true), (nhz12, true), (nhz16, true), (nhz14, true), (nhz3, true), (nhz2, true), (nhz1, true), (nhz8, false), (nhz7, true), (nhz6, false), (nhz5, false), (nhz4, false), (nhz9, false)], some [(nhz0, .num 0)]),
  ([(nhz21, true), (nhz17, true), (nhz15, false), (nhz13, true), (nhz11, true), (nhz10, true), (nhz12, true), (nhz16, true), (nhz14, true), (nhz3, true), (nhz2, true), (nhz1, true), (nhz8, false), (nhz7, true), (nhz6, false), (nhz5, false), (nhz4, false), (nhz9, false)], some [(nhz0, .num 1)]),
  ([(nhz21, false), (nhz17, true), (nhz15, false), (nhz13, true), (nhz11, true), (nhz10, true), (nhz12, true), (nhz16, true), (nhz14, true), (nhz3, true), (nhz2, true), (nhz1, true), (nhz8, false), (nhz7, true), (nhz6, false), (nhz5, false), (nhz4, false), (nhz9, false)], some [(nhz0, .num 0)]),
  ([(nhz17, false), (nhz15, false), (nhz13, true), (nhz11, true), (nhz10, true), (nhz12, true), (nhz16, true), (nhz14, true), (nhz3, true), (nhz2, true), (nhz1, true), (nhz8, false), (nhz7, true), (nhz6, false), (nhz5, false), (nhz4, false), (nhz9, false)], some [(nhz0, .num 1)]),
  ([(nhz13, false), (nhz11, true), (nhz10, true), (nhz12, true), (nhz16, true), (nhz14, true), (nhz3, true), (nhz2, true), (nhz1, true), (nhz8, false), (nhz7, true), (nhz6, false), (nhz5, false), (nhz4, false), (nhz9, false)], some [(nhz0, .num 1)]),
  ([(nhz11, false), (nhz10, true), (nhz12, true), (nhz16, true), (nhz14, true), (nhz3, true), (nhz2, true), (nhz1, true), (nhz8, false), (nhz7, true), (nhz6, false), (nhz5, false), (nhz4, false), (nhz9, false)], some [(nhz0, .num 1)]),
  ([(nhz10, false), (nhz12, true), (nhz16, true), (nhz14, true), (nhz3, true), (nhz2, true), (nhz1, true), (nhz8, false), (nhz7, true), (nhz6, false), (nhz5, false), (nhz4, false), (nhz9, false)], some [(nhz0, .num 1)]),
  ([(nhz12, false), (nhz16, true), (nhz14, true), (nhz3, true), (nhz2, true), (nhz1, true), (nhz8, false), (nhz7, true), (nhz6, false), (nhz5, false), (nhz4, false), (nhz9, false)], some [(nhz0, .num 1)]),
  ([(nhz16, false), (nhz14, true), (nhz3, true), (nhz2, true), (nhz1, true), (nhz8, false), (nhz7, true), (nhz6, false), (nhz5, false), (nhz4, false), (nhz9, false)], some [(nhz0, .num 1)]),
  ([(nhz14, false), (nhz3, true), (nhz2, true), (nhz1, true), (nhz8, false), (nhz7, true), (nhz6, false), (nhz5, false), (nhz4, false), (nhz9, false)], some [(nhz0, .num 1)]),
  ([(nhz3, false), (nhz2, true), (nhz1, true), (nhz8, false), (nhz7, true), (nhz6, false), (nhz5, false), (nhz4, false), (nhz9, false)], some [(nhz0, .num 1)]),
  ([(nhz2, false), (nhz1, true), (nhz8, false), (nhz7, true), (nhz6, false), (nhz5, false), (nhz4, false), (nhz9, false)], some [(nhz0, .num 1)]),
  ([(nhz1, false), (nhz8, false), (nhz7, true), (nhz6, false), (nhz5, false), (nhz4, false), (nhz9, false)], some [(nhz0, .num 1)])]
theorem cDeed3_w (r : Rho) : cDeed3_con.fn.ways cDeed3_call E0 r cDeed3_con.pre cDeed3_t = some cDeed3_l := by kernel_rfl
set_option maxRecDepth 100000 in
set_option maxHeartbeats 8000000 in
theorem cDeed3_cok : cDeed3_con.Ok Tryz.prog sy := by
  intro r σ w us hsy hρ hpre hrel hins
  obtain ⟨u0, us, rfl, g0, hi⟩ := ins_cons hins
  obtain ⟨x, k, rfl, hp⟩ := deed_agg g0
  rw [hρ] at hp
  have a0 := hp.h0
  have a1 := hp.h1
  have a2 := hp.h2
  have a3 := hp.h3
  have a4 := hp.h4
  have a5 := hp.h5
  have a6 := hp.h6
  have a7 := hp.h7
  have a8 := hp.h8
  have a9 := hp.h9
  have a10 := hp.h10
  simp only [Nat.zero_add, Nat.reduceAdd] at a0 a1 a2 a3 a4 a5 a6 a7 a8 a9 a10

  refine con_of (E := E0) E0_ok E0_glob (sy := sy) (fun F => C5_ok F hsy) (fun F => noH_ok) (cDeed3_w r) hρ hpre hrel hins ?_ ?_
  · simp only [cDeed3_con, cDeed3_t, nhz21, nhz20, nhz19, nhz18, nhz17, nhz16, nhz15, nhz14, nhz13, nhz12, nhz11, nhz10, nhz9, nhz8, nhz7, nhz6, nhz5, nhz4, nhz3, nhz2, nhz1, nhz0, AsksL, GTree.asks, FTree.asks, FactsIn, List.append_nil, List.nil_append, List.cons_append, Option.some.injEq, exists_eq', implies_true, and_self, X.bool, X.den, denL, d_wrap, d_kind, d_not, d_neg, d_slen, d_add, d_sub, d_mul, d_div, d_mod, d_lt, d_le, d_eq, d_eqb, d_eqs, d_lts, d_cat, d_sat, d_and, d_or, denSub, denIte, asB, fracs_len, fracs_cell, fracs_lsub, deeds_len, deeds_cell, deeds_lsub, a0, a1, a2, a3, a4, a5, a6, a7, a8, a9, a10, hsy, sym10, sym51, sym63, sym64]
  · simp only [cDeed3_l, nhz21, nhz20, nhz19, nhz18, nhz17, nhz16, nhz15, nhz14, nhz13, nhz12, nhz11, nhz10, nhz9, nhz8, nhz7, nhz6, nhz5, nhz4, nhz3, nhz2, nhz1, nhz0, EndsOk, WaysOk, forall_cons, forall_nil, TgtOk, gpair, FactsIn, hold_cons, hold_nil, Option.some.injEq, Value.bool.injEq, Value.int.injEq, decide_eq_true_eq, decide_eq_false_iff_not, and_true, true_and, and_imp, X.bool, X.den, denL, d_wrap, d_kind, d_not, d_neg, d_slen, d_add, d_sub, d_mul, d_div, d_mod, d_lt, d_le, d_eq, d_eqb, d_eqs, d_lts, d_cat, d_sat, d_and, d_or, denSub, denIte, asB, fracs_len, fracs_cell, fracs_lsub, deeds_len, deeds_cell, deeds_lsub, beq_iff_eq, beq_eq_false_iff_ne, ne_eq, a0, a1, a2, a3, a4, a5, a6, a7, a8, a9, a10, hsy, sym10, sym51, sym63, sym64]
    clear hsy hρ hpre hrel hi hins g0 hp a0 a1 a2 a3 a4 a5 a6 a7 a8 a9 a10
    obtain ⟨id, known, hour, kind, loss, pack, from_, to_, snum, sden, of_⟩ := x
    simp only [formB, ownB, placeB, partB]
    (repeat' apply And.intro) <;> intros <;> first
      | trivial
      | (exfalso; omega)
      | (subst_vars; simp [*]; done)
      | (rw [Bool.eq_iff_iff]; subst_vars; simp [*]; done)
      | (rw [within40]; subst_vars; simp [*]; done)
      | (simp_all [within40]; done)
      | (subst_vars; simp_all; done)
      | (exfalso; simp_all; omega)
      | (simp_all; omega)
noncomputable def cDeed4_con : Con := { f := 36, args := [.agg (deedLeaves 0)], N := 0, M := 0, pre := [(.op2 .eq (.var 3) (.num 4), true), (.op2 .eq (.var 3) (.num 3), false), (.op2 .eq (.var 3) (.num 2), false), (.op2 .eq (.var 3) (.num 1), false), (.op2 .eq (.var 3) (.num 6), false), (.op2 .eq (.var 3) (.num 5), false)], out := .sint .i64 (.app 64 [.var 0, .var 1, .var 2, .var 3, .var 4, .var 5, .var 6, .var 7, .var 8, .var 9, .var 10]), news := [] }
noncomputable def cDeed4_call : Env → CallL := fun E => acallAll E (evH E (C5 E) ((fun _ => noLoops) E) 20)
noncomputable def cDeed4_t : GTree := (.fork nhz1 (.fork nhz2 (.fork nhz3 (.fork nhz15 (.fork nhz14 (.fork nhz16 (.fork nhz12 (.fork nhz10 (.fork nhz11 (.fork nhz13 (.leaf [[]]) (.leaf [[]])) (.leaf [[]])) (.leaf [[]])) (.leaf [[]])) (.leaf [[]])) (.leaf [[]])) (.leaf [[]])) (.leaf [[]])) (.leaf [[]])) (.leaf [[]]))
noncomputable def cDeed4_l : List (List (X × Bool) × Option Pairs) := [([(nhz13, true), (nhz11, true), (nhz10, true), (nhz12, true), (nhz16, true), (nhz14, true), (nhz15, true), (nhz3, true), (nhz2, true), (nhz1, true), (nhz8, true), (nhz7, false), (nhz6, false), (nhz5, false), (nhz4, false), (nhz9, false)], some [(nhz0, .num 0)]),
  ([(nhz13, false), (nhz11, true), (nhz10, true), (nhz12, true), (nhz16, true), (nhz14, true), (nhz15, true), (nhz3, true), (nhz2, true), (nhz1, true), (nhz8, true), (nhz7, false), (nhz6, false), (nhz5, false), (nhz4, false), (nhz9, false)], some [(nhz0, .num 1)]),
  ([(nhz11, false), (nhz10, true), (nhz12, true), (nhz16, true), (nhz14, true), (nhz15, true), (nhz3, true), (nhz2, true), (nhz1, true), (nhz8, true), (nhz7, false), (nhz6, false), (nhz5, false), (nhz4, false), (nhz9, false)], some [(nhz0, .num 1)]),
  ([(nhz10, false), (nhz12, true), (nhz16, true), (nhz14, true), (nhz15, true), (nhz3, true), (nhz2, true), (nhz1, true), (nhz8, true), (nhz7, false), (nhz6, false), (nhz5, false), (nhz4, false), (nhz9, false)], some [(nhz0, .num 1)]),
  ([(nhz12, false), (nhz16, true), (nhz14, true), (nhz15, true), (nhz3, true), (nhz2, true), (nhz1, true), (nhz8, true), (nhz7, false), (nhz6, false), (nhz5, false), (nhz4, false), (nhz9, false)], some [(nhz0, .num 1)]),
  ([(nhz16, false), (nhz14, true), (nhz15, true), (nhz3, true), (nhz2, true), (nhz1, true), (nhz8, true), (nhz7, false), (nhz6, false), (nhz5, false), (nhz4, false), (nhz9, false)], some [(nhz0, .num 1)]),
  ([(nhz14, false), (nhz15, true), (nhz3, true), (nhz2, true), (nhz1, true), (nhz8, true), (nhz7, false), (nhz6, false), (nhz5, false), (nhz4, false), (nhz9, false)], some [(nhz0, .num 1)]),
  ([(nhz15, false), (nhz3, true), (nhz2, true), (nhz1, true), (nhz8, true), (nhz7, false), (nhz6, false), (nhz5, false), (nhz4, false), (nhz9, false)], some [(nhz0, .num 1)]),
  ([(nhz3, false), (nhz2, true), (nhz1, true), (nhz8, true), (nhz7, false), (nhz6, false), (nhz5, false), (nhz4, false), (nhz9, false)], some [(nhz0, .num 1)]),
  ([(nhz2, false), (nhz1, true), (nhz8, true), (nhz7, false), (nhz6, false), (nhz5, false), (nhz4, false), (nhz9, false)], some [(nhz0, .num 1)]),
  ([(nhz1, false), (nhz8, true), (nhz7, false), (nhz6, false), (nhz5, false), (nhz4, false), (nhz9, false)], some [(nhz0, .num 1)])]
theorem cDeed4_w (r : Rho) : cDeed4_con.fn.ways cDeed4_call E0 r cDeed4_con.pre cDeed4_t = some cDeed4_l := by kernel_rfl
set_option maxRecDepth 100000 in
set_option maxHeartbeats 8000000 in
theorem cDeed4_cok : cDeed4_con.Ok Tryz.prog sy := by
  intro r σ w us hsy hρ hpre hrel hins
  obtain ⟨u0, us, rfl, g0, hi⟩ := ins_cons hins
  obtain ⟨x, k, rfl, hp⟩ := deed_agg g0
  rw [hρ] at hp
  have a0 := hp.h0
  have a1 := hp.h1
  have a2 := hp.h2
  have a3 := hp.h3
  have a4 := hp.h4
  have a5 := hp.h5
  have a6 := hp.h6
  have a7 := hp.h7
  have a8 := hp.h8
  have a9 := hp.h9
  have a10 := hp.h10
  simp only [Nat.zero_add, Nat.reduceAdd] at a0 a1 a2 a3 a4 a5 a6 a7 a8 a9 a10

  refine con_of (E := E0) E0_ok E0_glob (sy := sy) (fun F => C5_ok F hsy) (fun F => noH_ok) (cDeed4_w r) hρ hpre hrel hins ?_ ?_
  · simp only [cDeed4_con, cDeed4_t, nhz21, nhz20, nhz19, nhz18, nhz17, nhz16, nhz15, nhz14, nhz13, nhz12, nhz11, nhz10, nhz9, nhz8, nhz7, nhz6, nhz5, nhz4, nhz3, nhz2, nhz1, nhz0, AsksL, GTree.asks, FTree.asks, FactsIn, List.append_nil, List.nil_append, List.cons_append, Option.some.injEq, exists_eq', implies_true, and_self, X.bool, X.den, denL, d_wrap, d_kind, d_not, d_neg, d_slen, d_add, d_sub, d_mul, d_div, d_mod, d_lt, d_le, d_eq, d_eqb, d_eqs, d_lts, d_cat, d_sat, d_and, d_or, denSub, denIte, asB, fracs_len, fracs_cell, fracs_lsub, deeds_len, deeds_cell, deeds_lsub, a0, a1, a2, a3, a4, a5, a6, a7, a8, a9, a10, hsy, sym10, sym51, sym63, sym64]
  · simp only [cDeed4_l, nhz21, nhz20, nhz19, nhz18, nhz17, nhz16, nhz15, nhz14, nhz13, nhz12, nhz11, nhz10, nhz9, nhz8, nhz7, nhz6, nhz5, nhz4, nhz3, nhz2, nhz1, nhz0, EndsOk, WaysOk, forall_cons, forall_nil, TgtOk, gpair, FactsIn, hold_cons, hold_nil, Option.some.injEq, Value.bool.injEq, Value.int.injEq, decide_eq_true_eq, decide_eq_false_iff_not, and_true, true_and, and_imp, X.bool, X.den, denL, d_wrap, d_kind, d_not, d_neg, d_slen, d_add, d_sub, d_mul, d_div, d_mod, d_lt, d_le, d_eq, d_eqb, d_eqs, d_lts, d_cat, d_sat, d_and, d_or, denSub, denIte, asB, fracs_len, fracs_cell, fracs_lsub, deeds_len, deeds_cell, deeds_lsub, beq_iff_eq, beq_eq_false_iff_ne, ne_eq, a0, a1, a2, a3, a4, a5, a6, a7, a8, a9, a10, hsy, sym10, sym51, sym63, sym64]
    clear hsy hρ hpre hrel hi hins g0 hp a0 a1 a2 a3 a4 a5 a6 a7 a8 a9 a10
    obtain ⟨id, known, hour, kind, loss, pack, from_, to_, snum, sden, of_⟩ := x
    simp only [formB, ownB, placeB, partB]
    (repeat' apply And.intro) <;> intros <;> first
      | trivial
      | (exfalso; omega)
      | (subst_vars; simp [*]; done)
      | (rw [Bool.eq_iff_iff]; subst_vars; simp [*]; done)
      | (rw [within40]; subst_vars; simp [*]; done)
      | (simp_all [within40]; done)
      | (subst_vars; simp_all; done)
      | (exfalso; simp_all; omega)
      | (simp_all; omega)
noncomputable def cDeed0_con : Con := { f := 36, args := [.agg (deedLeaves 0)], N := 0, M := 0, pre := [(.op2 .eq (.var 3) (.num 4), false), (.op2 .eq (.var 3) (.num 3), false), (.op2 .eq (.var 3) (.num 2), false), (.op2 .eq (.var 3) (.num 1), false), (.op2 .eq (.var 3) (.num 6), false), (.op2 .eq (.var 3) (.num 5), false)], out := .sint .i64 (.app 64 [.var 0, .var 1, .var 2, .var 3, .var 4, .var 5, .var 6, .var 7, .var 8, .var 9, .var 10]), news := [] }
noncomputable def cDeed0_call : Env → CallL := fun E => acallAll E (evH E (C5 E) ((fun _ => noLoops) E) 20)
noncomputable def cDeed0_t : GTree := (.fork nhz1 (.fork nhz2 (.fork nhz3 (.fork nhz18 (.fork nhz19 (.fork nhz20 (.fork nhz15 (.fork nhz14 (.fork nhz16 (.fork nhz12 (.leaf [[]]) (.leaf [[]])) (.leaf [[]])) (.leaf [[]])) (.leaf [[]])) (.leaf [[]])) (.leaf [[]])) (.leaf [[]])) (.leaf [[]])) (.leaf [[]])) (.leaf [[]]))
noncomputable def cDeed0_l : List (List (X × Bool) × Option Pairs) := [([(nhz12, true), (nhz16, true), (nhz14, true), (nhz15, true), (nhz20, true), (nhz19, true), (nhz18, true), (nhz3, true), (nhz2, true), (nhz1, true), (nhz8, false), (nhz7, false), (nhz6, false), (nhz5, false), (nhz4, false), (nhz9, false)], some [(nhz0, .num 1)]),
  ([(nhz12, false), (nhz16, true), (nhz14, true), (nhz15, true), (nhz20, true), (nhz19, true), (nhz18, true), (nhz3, true), (nhz2, true), (nhz1, true), (nhz8, false), (nhz7, false), (nhz6, false), (nhz5, false), (nhz4, false), (nhz9, false)], some [(nhz0, .num 1)]),
  ([(nhz16, false), (nhz14, true), (nhz15, true), (nhz20, true), (nhz19, true), (nhz18, true), (nhz3, true), (nhz2, true), (nhz1, true), (nhz8, false), (nhz7, false), (nhz6, false), (nhz5, false), (nhz4, false), (nhz9, false)], some [(nhz0, .num 1)]),
  ([(nhz14, false), (nhz15, true), (nhz20, true), (nhz19, true), (nhz18, true), (nhz3, true), (nhz2, true), (nhz1, true), (nhz8, false), (nhz7, false), (nhz6, false), (nhz5, false), (nhz4, false), (nhz9, false)], some [(nhz0, .num 1)]),
  ([(nhz15, false), (nhz20, true), (nhz19, true), (nhz18, true), (nhz3, true), (nhz2, true), (nhz1, true), (nhz8, false), (nhz7, false), (nhz6, false), (nhz5, false), (nhz4, false), (nhz9, false)], some [(nhz0, .num 1)]),
  ([(nhz20, false), (nhz19, true), (nhz18, true), (nhz3, true), (nhz2, true), (nhz1, true), (nhz8, false), (nhz7, false), (nhz6, false), (nhz5, false), (nhz4, false), (nhz9, false)], some [(nhz0, .num 1)]),
  ([(nhz19, false), (nhz18, true), (nhz3, true), (nhz2, true), (nhz1, true), (nhz8, false), (nhz7, false), (nhz6, false), (nhz5, false), (nhz4, false), (nhz9, false)], some [(nhz0, .num 1)]),
  ([(nhz18, false), (nhz3, true), (nhz2, true), (nhz1, true), (nhz8, false), (nhz7, false), (nhz6, false), (nhz5, false), (nhz4, false), (nhz9, false)], some [(nhz0, .num 1)]),
  ([(nhz3, false), (nhz2, true), (nhz1, true), (nhz8, false), (nhz7, false), (nhz6, false), (nhz5, false), (nhz4, false), (nhz9, false)], some [(nhz0, .num 1)]),
  ([(nhz2, false), (nhz1, true), (nhz8, false), (nhz7, false), (nhz6, false), (nhz5, false), (nhz4, false), (nhz9, false)], some [(nhz0, .num 1)]),
  ([(nhz1, false), (nhz8, false), (nhz7, false), (nhz6, false), (nhz5, false), (nhz4, false), (nhz9, false)], some [(nhz0, .num 1)])]
theorem cDeed0_w (r : Rho) : cDeed0_con.fn.ways cDeed0_call E0 r cDeed0_con.pre cDeed0_t = some cDeed0_l := by kernel_rfl
set_option maxRecDepth 100000 in
set_option maxHeartbeats 8000000 in
theorem cDeed0_cok : cDeed0_con.Ok Tryz.prog sy := by
  intro r σ w us hsy hρ hpre hrel hins
  obtain ⟨u0, us, rfl, g0, hi⟩ := ins_cons hins
  obtain ⟨x, k, rfl, hp⟩ := deed_agg g0
  rw [hρ] at hp
  have a0 := hp.h0
  have a1 := hp.h1
  have a2 := hp.h2
  have a3 := hp.h3
  have a4 := hp.h4
  have a5 := hp.h5
  have a6 := hp.h6
  have a7 := hp.h7
  have a8 := hp.h8
  have a9 := hp.h9
  have a10 := hp.h10
  simp only [Nat.zero_add, Nat.reduceAdd] at a0 a1 a2 a3 a4 a5 a6 a7 a8 a9 a10

  refine con_of (E := E0) E0_ok E0_glob (sy := sy) (fun F => C5_ok F hsy) (fun F => noH_ok) (cDeed0_w r) hρ hpre hrel hins ?_ ?_
  · simp only [cDeed0_con, cDeed0_t, nhz21, nhz20, nhz19, nhz18, nhz17, nhz16, nhz15, nhz14, nhz13, nhz12, nhz11, nhz10, nhz9, nhz8, nhz7, nhz6, nhz5, nhz4, nhz3, nhz2, nhz1, nhz0, AsksL, GTree.asks, FTree.asks, FactsIn, List.append_nil, List.nil_append, List.cons_append, Option.some.injEq, exists_eq', implies_true, and_self, X.bool, X.den, denL, d_wrap, d_kind, d_not, d_neg, d_slen, d_add, d_sub, d_mul, d_div, d_mod, d_lt, d_le, d_eq, d_eqb, d_eqs, d_lts, d_cat, d_sat, d_and, d_or, denSub, denIte, asB, fracs_len, fracs_cell, fracs_lsub, deeds_len, deeds_cell, deeds_lsub, a0, a1, a2, a3, a4, a5, a6, a7, a8, a9, a10, hsy, sym10, sym51, sym63, sym64]
  · simp only [cDeed0_l, nhz21, nhz20, nhz19, nhz18, nhz17, nhz16, nhz15, nhz14, nhz13, nhz12, nhz11, nhz10, nhz9, nhz8, nhz7, nhz6, nhz5, nhz4, nhz3, nhz2, nhz1, nhz0, EndsOk, WaysOk, forall_cons, forall_nil, TgtOk, gpair, FactsIn, hold_cons, hold_nil, Option.some.injEq, Value.bool.injEq, Value.int.injEq, decide_eq_true_eq, decide_eq_false_iff_not, and_true, true_and, and_imp, X.bool, X.den, denL, d_wrap, d_kind, d_not, d_neg, d_slen, d_add, d_sub, d_mul, d_div, d_mod, d_lt, d_le, d_eq, d_eqb, d_eqs, d_lts, d_cat, d_sat, d_and, d_or, denSub, denIte, asB, fracs_len, fracs_cell, fracs_lsub, deeds_len, deeds_cell, deeds_lsub, beq_iff_eq, beq_eq_false_iff_ne, ne_eq, a0, a1, a2, a3, a4, a5, a6, a7, a8, a9, a10, hsy, sym10, sym51, sym63, sym64]
    clear hsy hρ hpre hrel hi hins g0 hp a0 a1 a2 a3 a4 a5 a6 a7 a8 a9 a10
    obtain ⟨id, known, hour, kind, loss, pack, from_, to_, snum, sden, of_⟩ := x
    simp only [formB, ownB, placeB, partB]
    (repeat' apply And.intro) <;> intros <;> first
      | trivial
      | (exfalso; omega)
      | (subst_vars; simp [*]; done)
      | (rw [Bool.eq_iff_iff]; subst_vars; simp [*]; done)
      | (rw [within40]; subst_vars; simp [*]; done)
      | (simp_all [within40]; done)
      | (subst_vars; simp_all; done)
      | (exfalso; simp_all; omega)
      | (simp_all; omega)
noncomputable def cDeed_con : Con := { f := 36, args := [.agg (deedLeaves 0)], N := 0, M := 0, pre := [], out := .sint .i64 (.app 64 [.var 0, .var 1, .var 2, .var 3, .var 4, .var 5, .var 6, .var 7, .var 8, .var 9, .var 10]), news := [] }
theorem cDeed_has {c : Con} (hc : c.fn.args = argsAV [.agg (deedLeaves 0)]) (k : Int) : ∀ r σ us, r.sym = sy → σ.rho = r → FactsIn r c.pre → Ins σ c.fn.args us → ∃ b, (X.op2 .eq (.var 3) (.num k)).bool r = some b := by
  intro r σ us _ hρ _ hins
  rw [hc] at hins
  obtain ⟨u0, us, rfl, g0, hi⟩ := ins_cons hins
  obtain ⟨x, q, rfl, hp⟩ := deed_agg g0
  rw [hρ] at hp
  have a3 := hp.h3
  simp only [Nat.reduceAdd] at a3
  exact ⟨x.kind == k, by simp only [X.bool, X.den, denL, d_wrap, d_kind, d_not, d_neg, d_slen, d_add, d_sub, d_mul, d_div, d_mod, d_lt, d_le, d_eq, d_eqb, d_eqs, d_lts, d_cat, d_sat, d_and, d_or, denSub, denIte, asB, fracs_len, fracs_cell, fracs_lsub, deeds_len, deeds_cell, deeds_lsub, a3]⟩
/-- One kind is no other one. -/
theorem cDeed_more {c : Con} (hc : c.fn.args = argsAV [.agg (deedLeaves 0)]) (k : Int) {l : List Int} {F : List (X × Bool)} (hF : c.pre = (.op2 .eq (.var 3) (.num k), true) :: F) (hl : l.all (fun j => !(j == k)) = true) : ∀ r σ us, r.sym = sy → σ.rho = r → FactsIn r c.pre → Ins σ c.fn.args us → FactsIn r ((l.map fun j => (X.op2 .eq (.var 3) (.num j), false)) ++ c.pre) := by
  intro r σ us _ hρ hpre hins
  rw [hc] at hins
  obtain ⟨u0, us, rfl, g0, hi⟩ := ins_cons hins
  obtain ⟨x, q, rfl, hp⟩ := deed_agg g0
  rw [hρ] at hp
  have a3 := hp.h3
  simp only [Nat.reduceAdd] at a3
  have hk : x.kind = k := by
    have h := hpre
    rw [hF] at h
    have h := h.1
    simp only [X.bool, X.den, denL, d_wrap, d_kind, d_not, d_neg, d_slen, d_add, d_sub, d_mul, d_div, d_mod, d_lt, d_le, d_eq, d_eqb, d_eqs, d_lts, d_cat, d_sat, d_and, d_or, denSub, denIte, asB, fracs_len, fracs_cell, fracs_lsub, deeds_len, deeds_cell, deeds_lsub, a3, Option.some.injEq, Value.bool.injEq, beq_iff_eq] at h
    exact h
  clear hF
  induction l with
  | nil => exact hpre
  | cons j l ih =>
    simp only [List.all_cons, Bool.and_eq_true] at hl
    refine ⟨?_, ih hl.2⟩
    have hj : (x.kind == j) = false := by
      have := hl.1
      simp at this ⊢
      omega
    simp only [X.bool, X.den, denL, d_wrap, d_kind, d_not, d_neg, d_slen, d_add, d_sub, d_mul, d_div, d_mod, d_lt, d_le, d_eq, d_eqb, d_eqs, d_lts, d_cat, d_sat, d_and, d_or, denSub, denIte, asB, fracs_len, fracs_cell, fracs_lsub, deeds_len, deeds_cell, deeds_lsub, a3, hj]
theorem cDeed_cok : cDeed_con.Ok Tryz.prog sy :=
  con_cases (cDeed_has rfl 5) (con_more (cDeed_more rfl 5 (l := [6, 1, 2, 3, 4]) rfl rfl) cDeed5_cok) (  con_cases (cDeed_has rfl 6) (con_more (cDeed_more rfl 6 (l := [1, 2, 3, 4]) rfl rfl) cDeed6_cok) (  con_cases (cDeed_has rfl 1) (con_more (cDeed_more rfl 1 (l := [2, 3, 4]) rfl rfl) cDeed1_cok) (  con_cases (cDeed_has rfl 2) (con_more (cDeed_more rfl 2 (l := [3, 4]) rfl rfl) cDeed2_cok) (  con_cases (cDeed_has rfl 3) (con_more (cDeed_more rfl 3 (l := [4]) rfl rfl) cDeed3_cok) (  con_cases (cDeed_has rfl 4) cDeed4_cok (cDeed0_cok))))))

end Go.Proofs.YtnahicnoofkfgaaGreatDoor.Zs
