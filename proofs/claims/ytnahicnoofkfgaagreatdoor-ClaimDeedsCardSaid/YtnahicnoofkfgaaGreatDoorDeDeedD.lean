/-
  Contract of refused of the reference.
-/
import Derived.Test.YtnahicnoofkfgaaGreatDoorDeDeedB
import Derived.Test.YtnahicnoofkfgaaGreatDoorDeDeedF
import Derived.KernelRfl
set_option linter.unusedSimpArgs false
set_option linter.unusedVariables false
namespace Go.Proofs.YtnahicnoofkfgaaGreatDoor.Zs
open Go
set_option linter.unusedSimpArgs false
set_option linter.unusedVariables false

noncomputable def D1 : Env → CallE := libs [cLib rForm_con, cLib find_con, cLib voided_con]
theorem D1_ok (F : List (X × Bool)) {r : Rho} (h : r.sym = sy) : CallsOk (E0.with F r) (D1 (E0.with F r)) := libs_ok fun c hc => by
  simp only [List.mem_cons, List.not_mem_nil, or_false] at hc
  rcases hc with rfl | rfl | rfl
  · exact lib_ok (E := E0) rForm_cok F h
  · exact lib_ok (E := E0) find_cok F h
  · exact lib_ok (E := E0) voided_cok F h
def refused_vs : List X := [.num 0]

theorem d_eq_ite2 (b : Bool) (k k' k2 : IntKind) (m n q : Int) : den2 .eq (bif b then Value.int k m else Value.int k' n) (.int k2 q) = some (.bool (bif b then m == q else n == q)) := by cases b <;> rfl
theorem lastD_at {l : List Deed} {q : Deed} (h0 : 0 < l.length) (hq : l[((l.length : Int) - 1).toNat]? = some q) : lastD l = q.known := by
  have e : ((l.length : Int) - 1).toNat = l.length - 1 := by omega
  rw [e] at hq
  obtain ⟨l', x, rfl⟩ : ∃ l' x, l = l' ++ [x] := ⟨l.dropLast, l.getLast (by intro h; subst h; simp at h0), (List.dropLast_concat_getLast _).symm⟩
  simp at hq
  subst hq
  simp [lastD]

noncomputable def refused_con : Con := { f := 90, args := [deedsArg 0 0, .agg (deedLeaves 3)], N := 1, M := 1, pre := [(.app 20 [.var 1], true)], out := .sint .i64 (.app 4 [.var 1, .var 3, .var 4, .var 5, .var 6, .var 7, .var 8, .var 9, .var 10, .var 11, .var 12, .var 13]), news := [] }
noncomputable def refused_call : Env → CallL := fun E => acallAll E (evH E (D1 E) ((fun _ => noLoops) E) 6)
def ddz0 : X := .app 63 [(.var 3), (.var 4), (.var 5), (.var 6), (.var 7), (.var 8), (.var 9), (.var 10), (.var 11), (.var 12), (.var 13)]
def ddz1 : X := .app 4 [(.var 1), (.var 3), (.var 4), (.var 5), (.var 6), (.var 7), (.var 8), (.var 9), (.var 10), (.var 11), (.var 12), (.var 13)]
def ddz2 : X := .op1 (.wrap .i64) (.op2 .sub (.op1 .len (.var 1)) (.num 1))
def ddz3 : X := .ite (.app 61 [(.var 1), (.var 13)]) (.app 60 [(.var 1), (.var 13), (.num 3)]) (.num 0)
def ddz4 : X := .op1 .len (.var 1)
def ddz5 : X := .app 61 [(.var 1), (.var 3)]
def ddz6 : X := .app 61 [(.var 1), (.var 13)]
def ddz7 : X := .op2 .lt ddz4 (.num 300)
def ddz8 : X := .op2 .eq (.var 6) (.num 5)
def ddz9 : X := .op2 .eq (.var 6) (.num 6)
def ddz10 : X := .op2 .lt (.num 0) ddz4
def ddz11 : X := .app 62 [(.var 1), (.var 13), (.num 1000000)]
def ddz12 : X := .op2 .lt (.var 4) (.cell 1 (.var 1) ddz2)
def ddz13 : X := .app 20 [(.var 1)]
noncomputable def refused_t : GTree := (.fork ddz7 (.fork ddz0 (.fork ddz5 (.leaf [[]]) (.fork ddz10 (.fork (.op2 .lt ddz2 (.num 0)) .bad (.fork (.op2 .lt ddz2 ddz4) (.fork ddz12 (.leaf [[]]) (.fork ddz8 (.fork ddz6 (.fork (.op2 .eq ddz3 (.num 4)) (.fork ddz9 (.fork (.op2 .eq ddz3 (.num 6)) (.leaf [[]]) (.fork ddz11 (.leaf [[]]) (.leaf [[]]))) (.leaf [[]])) (.leaf [[]])) (.leaf [[]])) (.fork ddz9 (.fork ddz6 (.fork (.op2 .eq ddz3 (.num 6)) (.leaf [[]]) (.fork ddz11 (.leaf [[]]) (.leaf [[]]))) (.leaf [[]])) (.leaf [[]])))) .bad)) (.fork ddz8 (.fork ddz6 (.fork (.op2 .eq ddz3 (.num 4)) (.fork ddz9 (.fork (.op2 .eq ddz3 (.num 6)) (.leaf [[]]) (.fork ddz11 (.leaf [[]]) (.leaf [[]]))) (.leaf [[]])) (.leaf [[]])) (.leaf [[]])) (.fork ddz9 (.fork ddz6 (.fork (.op2 .eq ddz3 (.num 6)) (.leaf [[]]) (.fork ddz11 (.leaf [[]]) (.leaf [[]]))) (.leaf [[]])) (.leaf [[]]))))) (.leaf [[]])) (.leaf [[]]))
noncomputable def refused_l : List (List (X × Bool) × Option Pairs) := [([(ddz5, true), (ddz0, true), (ddz7, true), (ddz13, true)], some [(ddz1, .num 6)]),
  ([(.op2 .lt ddz2 (.num 0), true), (ddz10, true), (ddz5, false), (ddz0, true), (ddz7, true), (ddz13, true)], none),
  ([(ddz12, true), (.op2 .lt ddz2 ddz4, true), (.op2 .lt ddz2 (.num 0), false), (ddz10, true), (ddz5, false), (ddz0, true), (ddz7, true), (ddz13, true)], some [(ddz1, .num 7)]),
  ([(.op2 .eq ddz3 (.num 6), true), (ddz9, true), (.op2 .eq ddz3 (.num 4), true), (ddz6, true), (ddz8, true), (ddz12, false), (.op2 .lt ddz2 ddz4, true), (.op2 .lt ddz2 (.num 0), false), (ddz10, true), (ddz5, false), (ddz0, true), (ddz7, true), (ddz13, true)], some [(ddz1, .num 5)]),
  ([(ddz11, true), (.op2 .eq ddz3 (.num 6), false), (ddz9, true), (.op2 .eq ddz3 (.num 4), true), (ddz6, true), (ddz8, true), (ddz12, false), (.op2 .lt ddz2 ddz4, true), (.op2 .lt ddz2 (.num 0), false), (ddz10, true), (ddz5, false), (ddz0, true), (ddz7, true), (ddz13, true)], some [(ddz1, .num 6)]),
  ([(ddz11, false), (.op2 .eq ddz3 (.num 6), false), (ddz9, true), (.op2 .eq ddz3 (.num 4), true), (ddz6, true), (ddz8, true), (ddz12, false), (.op2 .lt ddz2 ddz4, true), (.op2 .lt ddz2 (.num 0), false), (ddz10, true), (ddz5, false), (ddz0, true), (ddz7, true), (ddz13, true)], some [(ddz1, .num 0)]),
  ([(ddz9, false), (.op2 .eq ddz3 (.num 4), true), (ddz6, true), (ddz8, true), (ddz12, false), (.op2 .lt ddz2 ddz4, true), (.op2 .lt ddz2 (.num 0), false), (ddz10, true), (ddz5, false), (ddz0, true), (ddz7, true), (ddz13, true)], some [(ddz1, .num 0)]),
  ([(.op2 .eq ddz3 (.num 4), false), (ddz6, true), (ddz8, true), (ddz12, false), (.op2 .lt ddz2 ddz4, true), (.op2 .lt ddz2 (.num 0), false), (ddz10, true), (ddz5, false), (ddz0, true), (ddz7, true), (ddz13, true)], some [(ddz1, .num 5)]),
  ([(ddz6, false), (ddz8, true), (ddz12, false), (.op2 .lt ddz2 ddz4, true), (.op2 .lt ddz2 (.num 0), false), (ddz10, true), (ddz5, false), (ddz0, true), (ddz7, true), (ddz13, true)], some [(ddz1, .num 5)]),
  ([(.op2 .eq ddz3 (.num 6), true), (ddz6, true), (ddz9, true), (ddz8, false), (ddz12, false), (.op2 .lt ddz2 ddz4, true), (.op2 .lt ddz2 (.num 0), false), (ddz10, true), (ddz5, false), (ddz0, true), (ddz7, true), (ddz13, true)], some [(ddz1, .num 5)]),
  ([(ddz11, true), (.op2 .eq ddz3 (.num 6), false), (ddz6, true), (ddz9, true), (ddz8, false), (ddz12, false), (.op2 .lt ddz2 ddz4, true), (.op2 .lt ddz2 (.num 0), false), (ddz10, true), (ddz5, false), (ddz0, true), (ddz7, true), (ddz13, true)], some [(ddz1, .num 6)]),
  ([(ddz11, false), (.op2 .eq ddz3 (.num 6), false), (ddz6, true), (ddz9, true), (ddz8, false), (ddz12, false), (.op2 .lt ddz2 ddz4, true), (.op2 .lt ddz2 (.num 0), false), (ddz10, true), (ddz5, false), (ddz0, true), (ddz7, true), (ddz13, true)], some [(ddz1, .num 0)]),
  ([(ddz6, false), (ddz9, true), (ddz8, false), (ddz12, false), (.op2 .lt ddz2 ddz4, true), (.op2 .lt ddz2 (.num 0), false), (ddz10, true), (ddz5, false), (ddz0, true), (ddz7, true), (ddz13, true)], some [(ddz1, .num 5)]),
  ([(ddz9, false), (ddz8, false), (ddz12, false), (.op2 .lt ddz2 ddz4, true), (.op2 .lt ddz2 (.num 0), false), (ddz10, true), (ddz5, false), (ddz0, true), (ddz7, true), (ddz13, true)], some [(ddz1, .num 0)]),
  ([(.op2 .lt ddz2 ddz4, false), (.op2 .lt ddz2 (.num 0), false), (ddz10, true), (ddz5, false), (ddz0, true), (ddz7, true), (ddz13, true)], none),
  ([(.op2 .eq ddz3 (.num 6), true), (ddz9, true), (.op2 .eq ddz3 (.num 4), true), (ddz6, true), (ddz8, true), (ddz10, false), (ddz5, false), (ddz0, true), (ddz7, true), (ddz13, true)], some [(ddz1, .num 5)]),
  ([(ddz11, true), (.op2 .eq ddz3 (.num 6), false), (ddz9, true), (.op2 .eq ddz3 (.num 4), true), (ddz6, true), (ddz8, true), (ddz10, false), (ddz5, false), (ddz0, true), (ddz7, true), (ddz13, true)], some [(ddz1, .num 6)]),
  ([(ddz11, false), (.op2 .eq ddz3 (.num 6), false), (ddz9, true), (.op2 .eq ddz3 (.num 4), true), (ddz6, true), (ddz8, true), (ddz10, false), (ddz5, false), (ddz0, true), (ddz7, true), (ddz13, true)], some [(ddz1, .num 0)]),
  ([(ddz9, false), (.op2 .eq ddz3 (.num 4), true), (ddz6, true), (ddz8, true), (ddz10, false), (ddz5, false), (ddz0, true), (ddz7, true), (ddz13, true)], some [(ddz1, .num 0)]),
  ([(.op2 .eq ddz3 (.num 4), false), (ddz6, true), (ddz8, true), (ddz10, false), (ddz5, false), (ddz0, true), (ddz7, true), (ddz13, true)], some [(ddz1, .num 5)]),
  ([(ddz6, false), (ddz8, true), (ddz10, false), (ddz5, false), (ddz0, true), (ddz7, true), (ddz13, true)], some [(ddz1, .num 5)]),
  ([(.op2 .eq ddz3 (.num 6), true), (ddz6, true), (ddz9, true), (ddz8, false), (ddz10, false), (ddz5, false), (ddz0, true), (ddz7, true), (ddz13, true)], some [(ddz1, .num 5)]),
  ([(ddz11, true), (.op2 .eq ddz3 (.num 6), false), (ddz6, true), (ddz9, true), (ddz8, false), (ddz10, false), (ddz5, false), (ddz0, true), (ddz7, true), (ddz13, true)], some [(ddz1, .num 6)]),
  ([(ddz11, false), (.op2 .eq ddz3 (.num 6), false), (ddz6, true), (ddz9, true), (ddz8, false), (ddz10, false), (ddz5, false), (ddz0, true), (ddz7, true), (ddz13, true)], some [(ddz1, .num 0)]),
  ([(ddz6, false), (ddz9, true), (ddz8, false), (ddz10, false), (ddz5, false), (ddz0, true), (ddz7, true), (ddz13, true)], some [(ddz1, .num 5)]),
  ([(ddz9, false), (ddz8, false), (ddz10, false), (ddz5, false), (ddz0, true), (ddz7, true), (ddz13, true)], some [(ddz1, .num 0)]),
  ([(ddz0, false), (ddz7, true), (ddz13, true)], some [(ddz1, .num 1)]),
  ([(ddz7, false), (ddz13, true)], some [(ddz1, .num 2)])]
theorem refused_w (r : Rho) : refused_con.fn.ways refused_call E0 r refused_con.pre refused_t = some refused_l := by kernel_rfl
set_option maxRecDepth 100000 in
set_option maxHeartbeats 4000000 in
theorem refused_cok : refused_con.Ok Tryz.prog sy := by
  intro r σ w us hsy hρ hpre hrel hins
  obtain ⟨u0, us, rfl, g0, hi⟩ := ins_cons hins
  obtain ⟨u1, us, rfl, g1, hi⟩ := ins_cons hi
  obtain ⟨x, k, rfl, hp⟩ := deed_agg g1
  obtain ⟨l, h1⟩ := deeds_at hrel (i := 0) rfl
  rw [hρ] at hp h1
  have h1 : r.val 1 = some (deedsR l) := h1
  have a0 := hp.h0
  have a1 := hp.h1
  have a2 := hp.h2
  have a3 := hp.h3
  have a4 := hp.h4
  have a5 := hp.h5
  have a6 := hp.h6
  have a7 := hp.h7
  have a8 := hp.h8
  have a9 := hp.h9
  have a10 := hp.h10
  simp only [Nat.zero_add, Nat.reduceAdd] at a0 a1 a2 a3 a4 a5 a6 a7 a8 a9 a10

  have hmax : (l.length : Int) ≤ 1010 := by
    have := hpre.1
    simp only [X.bool, X.den, denL, d_wrap, d_kind, d_not, d_neg, d_slen, d_add, d_sub, d_mul, d_div, d_mod, d_lt, d_le, d_eq, d_eqb, d_eqs, d_lts, d_cat, d_sat, d_and, d_or, denSub, denIte, asB, fracs_len, fracs_cell, fracs_lsub, deeds_len, deeds_cell, deeds_lsub, h1, hsy, sym20, Option.some.injEq, Value.bool.injEq] at this
    exact short_len this
  have hs : shortB l = true := len_short hmax
  have e2 : decide (300 ≤ l.length) = !decide ((l.length : Int) < 300) := by rw [Bool.eq_iff_iff]; simp; omega
  refine con_of (E := E0) E0_ok E0_glob (sy := sy) (fun F => D1_ok F hsy) (fun F => noH_ok) (refused_w r) hρ hpre hrel hins ?_ ?_
  · by_cases h0 : 0 < l.length
    · have hw : IntKind.i64.wrap ((l.length : Int) - 1) = l.length - 1 := IntWalk.i64_in _ (by omega)
      obtain ⟨q, hq⟩ : ∃ q, l[((l.length : Int) - 1).toNat]? = some q := ⟨l[((l.length : Int) - 1).toNat]'(by omega), List.getElem?_eq_getElem (by omega)⟩
      simp only [refused_con, refused_t, ddz13, ddz12, ddz11, ddz10, ddz9, ddz8, ddz7, ddz6, ddz5, ddz4, ddz3, ddz2, ddz1, ddz0, AsksL, GTree.asks, FTree.asks, FactsIn, List.append_nil, List.nil_append, List.cons_append, Option.some.injEq, exists_eq', implies_true, and_self, X.bool, X.den, denL, d_wrap, d_kind, d_not, d_neg, d_slen, d_add, d_sub, d_mul, d_div, d_mod, d_lt, d_le, d_eq, d_eqb, d_eqs, d_lts, d_cat, d_sat, d_and, d_or, denSub, d_ite2, d_eq_ite2, asB, fracs_len, fracs_cell, fracs_lsub, deeds_len, deeds_cell, deeds_lsub, a0, a1, a2, a3, a4, a5, a6, a7, a8, a9, a10, h1, hsy, sym4, sym20, sym60, sym61, sym62, sym63, Int.reduceToNat, hw, hq, Option.bind_some, deed0, deed1, deed2, deed3, deed4, deed5, deed6, deed7, deed8, deed9, deed10]
    · have h0' : ¬ (0 : Int) < l.length := by omega
      simp only [refused_con, refused_t, ddz13, ddz12, ddz11, ddz10, ddz9, ddz8, ddz7, ddz6, ddz5, ddz4, ddz3, ddz2, ddz1, ddz0, AsksL, GTree.asks, FTree.asks, FactsIn, List.append_nil, List.nil_append, List.cons_append, Option.some.injEq, exists_eq', implies_true, and_self, X.bool, X.den, denL, d_wrap, d_kind, d_not, d_neg, d_slen, d_add, d_sub, d_mul, d_div, d_mod, d_lt, d_le, d_eq, d_eqb, d_eqs, d_lts, d_cat, d_sat, d_and, d_or, denSub, d_ite2, d_eq_ite2, asB, fracs_len, fracs_cell, fracs_lsub, deeds_len, deeds_cell, deeds_lsub, a0, a1, a2, a3, a4, a5, a6, a7, a8, a9, a10, h1, hsy, sym4, sym20, sym60, sym61, sym62, sym63, Int.reduceToNat, h0', deed0, deed1, deed2, deed3, deed4, deed5, deed6, deed7, deed8, deed9, deed10]
      simp
  · by_cases h0 : 0 < l.length
    · have hw : IntKind.i64.wrap ((l.length : Int) - 1) = l.length - 1 := IntWalk.i64_in _ (by omega)
      obtain ⟨q, hq⟩ : ∃ q, l[((l.length : Int) - 1).toNat]? = some q := ⟨l[((l.length : Int) - 1).toNat]'(by omega), List.getElem?_eq_getElem (by omega)⟩
      have hlast : lastD l = q.known := lastD_at h0 hq
      simp only [refused_l, ddz13, ddz12, ddz11, ddz10, ddz9, ddz8, ddz7, ddz6, ddz5, ddz4, ddz3, ddz2, ddz1, ddz0, EndsOk, WaysOk, forall_cons, forall_nil, TgtOk, gpair, FactsIn, hold_cons, hold_nil, Option.some.injEq, Value.bool.injEq, Value.int.injEq, decide_eq_true_eq, decide_eq_false_iff_not, and_true, true_and, and_imp, X.bool, X.den, denL, d_wrap, d_kind, d_not, d_neg, d_slen, d_add, d_sub, d_mul, d_div, d_mod, d_lt, d_le, d_eq, d_eqb, d_eqs, d_lts, d_cat, d_sat, d_and, d_or, denSub, d_ite2, d_eq_ite2, asB, fracs_len, fracs_cell, fracs_lsub, deeds_len, deeds_cell, deeds_lsub, beq_iff_eq, beq_eq_false_iff_ne, ne_eq, a0, a1, a2, a3, a4, a5, a6, a7, a8, a9, a10, h1, hsy, sym4, sym20, sym60, sym61, sym62, sym63, Int.reduceToNat, hw, hq, Option.bind_some, deed0, deed1, deed2, deed3, deed4, deed5, deed6, deed7, deed8, deed9, deed10]
      clear hsy hρ hpre hrel hi hp hins g0 g1 h1 a0 a1 a2 a3 a4 a5 a6 a7 a8 a9 a10
      simp only [refusedD, badB, e2, hlast, h0, decide_true, Bool.true_and]
      generalize findR l x.of_ = y
      by_cases c7 : x.known < q.known <;> simp only [c7, decide_true, decide_false, cond_true, cond_false, not_true_eq_false, not_false_eq_true]
      all_goals ((repeat' apply And.intro) <;> intros <;> first
        | trivial
        | (exfalso; omega)
        | contradiction
        | (simp [*]; done)
        | (simp_all; done)
        | (exfalso; simp_all; omega)
        | (simp_all; omega))
    · have h0' : ¬ (0 : Int) < l.length := by omega
      simp only [refused_l, ddz13, ddz12, ddz11, ddz10, ddz9, ddz8, ddz7, ddz6, ddz5, ddz4, ddz3, ddz2, ddz1, ddz0, EndsOk, WaysOk, forall_cons, forall_nil, TgtOk, gpair, FactsIn, hold_cons, hold_nil, Option.some.injEq, Value.bool.injEq, Value.int.injEq, decide_eq_true_eq, decide_eq_false_iff_not, and_true, true_and, and_imp, X.bool, X.den, denL, d_wrap, d_kind, d_not, d_neg, d_slen, d_add, d_sub, d_mul, d_div, d_mod, d_lt, d_le, d_eq, d_eqb, d_eqs, d_lts, d_cat, d_sat, d_and, d_or, denSub, d_ite2, d_eq_ite2, asB, fracs_len, fracs_cell, fracs_lsub, deeds_len, deeds_cell, deeds_lsub, beq_iff_eq, beq_eq_false_iff_ne, ne_eq, a0, a1, a2, a3, a4, a5, a6, a7, a8, a9, a10, h1, hsy, sym4, sym20, sym60, sym61, sym62, sym63, Int.reduceToNat, h0', deed0, deed1, deed2, deed3, deed4, deed5, deed6, deed7, deed8, deed9, deed10]
      clear hsy hρ hpre hrel hi hp hins g0 g1 h1 a0 a1 a2 a3 a4 a5 a6 a7 a8 a9 a10
      simp only [refusedD, badB, e2, h0, decide_false, Bool.false_and, cond_false]
      generalize findR l x.of_ = y
      (repeat' apply And.intro) <;> intros <;> first
        | trivial
        | (exfalso; omega)
        | (simp [*]; done)
        | (simp_all; done)
        | (exfalso; simp_all; omega)
        | (simp_all; omega)

end Go.Proofs.YtnahicnoofkfgaaGreatDoor.Zs
