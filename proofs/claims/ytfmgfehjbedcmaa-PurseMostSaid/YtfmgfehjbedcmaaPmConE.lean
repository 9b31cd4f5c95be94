/-
  Contracts of package purse: Check and Append.
-/
import Derived.Test.YtfmgfehjbedcmaaPmConD
import Derived.KernelRfl
set_option linter.unusedSimpArgs false
set_option linter.unusedVariables false
namespace Go.Proofs.Ytfmgfehjbedcmaa.Zs
open Go
set_option linter.unusedSimpArgs false
set_option linter.unusedVariables false

noncomputable def L5 : Env → CallE := libs [cLib cLedN_con, cLib cLedY_con]
theorem L5_ok (F : List (X × Bool)) {r : Rho} (h : r.sym = sy) : CallsOk (E0.with F r) (L5 (E0.with F r)) := libs_ok fun c hc => by
  simp only [List.mem_cons, List.not_mem_nil, or_false] at hc
  rcases hc with rfl | rfl
  · exact lib_ok (E := E0) cLedN_cok F h
  · exact lib_ok (E := E0) cLedY_cok F h

noncomputable def cChk_con : Con := { f := 9, args := [ptgsArg 0 0], N := 1, M := 1, pre := [(.app 20 [.var 1], true)], out := .tuple [.sint .i64 (.app 5 [.var 1]), .sint .i64 (.app 6 [.var 1])], news := [] }
noncomputable def cChk_call : Env → CallL := fun E => acallAll E (evH E (L5 E) ((fun _ => noLoops) E) 6)
noncomputable def cChk_t : GTree := (.fork (.op2 .eq (.app 6 [(.var 1)]) (.num 0)) (.leaf [[]]) (.leaf [[]]))
noncomputable def cChk_l : List (List (X × Bool) × Option Pairs) := [([((.op2 .eq (.app 6 [(.var 1)]) (.num 0)), true), ((.app 20 [(.var 1)]), true)], some [((.app 5 [(.var 1)]), (.num 0)), ((.app 6 [(.var 1)]), (.num 0))]),
  ([((.op2 .eq (.app 6 [(.var 1)]) (.num 0)), false), ((.app 20 [(.var 1)]), true)], some [((.app 5 [(.var 1)]), (.app 5 [(.var 1)])), ((.app 6 [(.var 1)]), (.app 6 [(.var 1)]))])]
theorem cChk_w (r : Rho) : cChk_con.fn.ways cChk_call E0 r cChk_con.pre cChk_t = some cChk_l := by kernel_rfl
theorem cChk_cok : cChk_con.Ok Try.prog sy := by
  intro r σ w us hsy hρ hpre hrel hins
  obtain ⟨l, h1⟩ := ptgs_at hrel (i := 0) rfl
  rw [hρ] at h1
  have h1 : r.val 1 = some (ptgsR l) := h1
  refine con_of (E := E0) E0_ok E0_glob (sy := sy) (fun F => L5_ok F hsy) (fun F => noH_ok) (cChk_w r) hρ hpre hrel hins ?_ ?_
  · simp only [cChk_con, cChk_t, AsksL, GTree.asks, FTree.asks, FactsIn, List.append_nil, List.nil_append, List.cons_append, Option.some.injEq, exists_eq', implies_true, and_self, X.bool, X.den, denL, d_wrap, d_kind, d_not, d_neg, d_slen, d_add, d_sub, d_mul, d_div, d_mod, d_lt, d_le, d_eq, d_eqb, d_eqs, d_lts, d_cat, d_sat, d_and, d_or, denSub, denIte, asB, ptgs_len, ptgs_cell, ptgs_lsub, h1, hsy, sym5, sym6, sym20]
    try simp
  · simp only [cChk_l, EndsOk, WaysOk, forall_cons, forall_nil, TgtOk, gpair, FactsIn, hold_cons, hold_nil, Option.some.injEq, Value.bool.injEq, Value.int.injEq, decide_eq_true_eq, decide_eq_false_iff_not, and_true, true_and, and_imp, X.bool, X.den, denL, d_wrap, d_kind, d_not, d_neg, d_slen, d_add, d_sub, d_mul, d_div, d_mod, d_lt, d_le, d_eq, d_eqb, d_eqs, d_lts, d_cat, d_sat, d_and, d_or, denSub, denIte, asB, ptgs_len, ptgs_cell, ptgs_lsub, h1, hsy, sym5, sym6, sym20]
    have h00 : (checkP l).2 = 0 → (checkP l).1 = 0 := check00 l
    (repeat' apply And.intro) <;> intros <;> simp_all
noncomputable def L6 : Env → CallE := libs [cLib cChk_con]
theorem L6_ok (F : List (X × Bool)) {r : Rho} (h : r.sym = sy) : CallsOk (E0.with F r) (L6 (E0.with F r)) := libs_ok fun c hc => by
  simp only [List.mem_cons, List.not_mem_nil, or_false] at hc
  subst hc; exact lib_ok (E := E0) cChk_cok F h

theorem chkP_snoc (x : Ptg) : ∀ (l pre : List Ptg), (chkP pre (l ++ [x])).2 = if (chkP pre l).2 ≠ 0 then (chkP pre l).2 else refusedP (pre ++ l) x
  | [], pre => by
    simp only [List.nil_append, chkP, List.append_nil, ne_eq, not_true_eq_false, if_false]
    split
    · rename_i h; exact h.symm
    · rfl
  | p :: r, pre => by
    simp only [List.cons_append, chkP]
    split
    · rw [chkP_snoc x r (pre ++ [p])]; simp
    · rename_i h; simp [h]
theorem check_snoc (l : List Ptg) (x : Ptg) : (checkP (l ++ [x])).2 = appendP l x := by
  have := chkP_snoc x l []
  rw [List.nil_append] at this
  exact this

noncomputable def cAppendNo_con : Con := { f := 11, args := [ptgsArg 0 0, .agg (ptgLeaves 3)], N := 1, M := 1, pre := [(.op2 .lt (.num 900) (.op1 .len (.var 1)), false), (.op2 .eq (.app 11 [.var 1, .var 3, .var 4, .var 5, .var 6, .var 7, .var 8, .var 9, .var 10]) (.num 0), false)], out := .tuple [.nilslice, .sint .i64 (.app 11 [.var 1, .var 3, .var 4, .var 5, .var 6, .var 7, .var 8, .var 9, .var 10])], news := [] }
noncomputable def cAppendNo_call : Env → CallL := fun E => acallAll E (evH E (L6 E) ((fun _ => noLoops) E) 6)
noncomputable def cAppendNo_t : GTree := (.fork (.op2 .lt (.num 1000000000) (.op1 (.wrap .i64) (.op2 .add (.op1 .len (.var 1)) (.num 1)))) (.fork (.op2 .lt (.op1 (.wrap .i64) (.op2 .add (.op1 .len (.var 1)) (.num 1))) (.num 0)) .bad .bad) (.fork (.op2 .lt (.op1 (.wrap .i64) (.op2 .add (.op1 .len (.var 1)) (.num 1))) (.num 0)) .bad (.fork (.op2 .lt (.num 1000000000) (.op1 .len (.var 1))) .bad (.fork (.op2 .lt (.num 1000000000) (.op2 .add (.op1 .len (.var 1)) (.num 1))) .bad (.fork (.app 20 [(.snoc (.var 1) [(.op1 (.kind .i64) (.var 3)), (.op1 (.kind .i64) (.var 4)), (.op1 (.kind .u8) (.var 5)), (.op1 (.kind .i64) (.var 6)), (.op1 (.kind .i64) (.var 7)), (.op1 (.kind .i64) (.var 8)), (.op1 (.kind .i64) (.var 9)), (.op1 (.kind .i64) (.var 10))])]) (.fork (.op2 .eq (.app 6 [(.snoc (.var 1) [(.op1 (.kind .i64) (.var 3)), (.op1 (.kind .i64) (.var 4)), (.op1 (.kind .u8) (.var 5)), (.op1 (.kind .i64) (.var 6)), (.op1 (.kind .i64) (.var 7)), (.op1 (.kind .i64) (.var 8)), (.op1 (.kind .i64) (.var 9)), (.op1 (.kind .i64) (.var 10))])]) (.num 0)) .bad (.leaf [[]])) .bad)))))
noncomputable def cAppendNo_l : List (List (X × Bool) × Option Pairs) := [([((.op2 .lt (.op1 (.wrap .i64) (.op2 .add (.op1 .len (.var 1)) (.num 1))) (.num 0)), true), ((.op2 .lt (.num 1000000000) (.op1 (.wrap .i64) (.op2 .add (.op1 .len (.var 1)) (.num 1)))), true), ((.op2 .lt (.num 900) (.op1 .len (.var 1))), false), ((.op2 .eq (.app 11 [(.var 1), (.var 3), (.var 4), (.var 5), (.var 6), (.var 7), (.var 8), (.var 9), (.var 10)]) (.num 0)), false)], none),
  ([((.op2 .lt (.op1 (.wrap .i64) (.op2 .add (.op1 .len (.var 1)) (.num 1))) (.num 0)), false), ((.op2 .lt (.num 1000000000) (.op1 (.wrap .i64) (.op2 .add (.op1 .len (.var 1)) (.num 1)))), true), ((.op2 .lt (.num 900) (.op1 .len (.var 1))), false), ((.op2 .eq (.app 11 [(.var 1), (.var 3), (.var 4), (.var 5), (.var 6), (.var 7), (.var 8), (.var 9), (.var 10)]) (.num 0)), false)], none),
  ([((.op2 .lt (.op1 (.wrap .i64) (.op2 .add (.op1 .len (.var 1)) (.num 1))) (.num 0)), true), ((.op2 .lt (.num 1000000000) (.op1 (.wrap .i64) (.op2 .add (.op1 .len (.var 1)) (.num 1)))), false), ((.op2 .lt (.num 900) (.op1 .len (.var 1))), false), ((.op2 .eq (.app 11 [(.var 1), (.var 3), (.var 4), (.var 5), (.var 6), (.var 7), (.var 8), (.var 9), (.var 10)]) (.num 0)), false)], none),
  ([((.op2 .lt (.num 1000000000) (.op1 .len (.var 1))), true), ((.op2 .lt (.op1 (.wrap .i64) (.op2 .add (.op1 .len (.var 1)) (.num 1))) (.num 0)), false), ((.op2 .lt (.num 1000000000) (.op1 (.wrap .i64) (.op2 .add (.op1 .len (.var 1)) (.num 1)))), false), ((.op2 .lt (.num 900) (.op1 .len (.var 1))), false), ((.op2 .eq (.app 11 [(.var 1), (.var 3), (.var 4), (.var 5), (.var 6), (.var 7), (.var 8), (.var 9), (.var 10)]) (.num 0)), false)], none),
  ([((.op2 .lt (.num 1000000000) (.op2 .add (.op1 .len (.var 1)) (.num 1))), true), ((.op2 .lt (.num 1000000000) (.op1 .len (.var 1))), false), ((.op2 .lt (.op1 (.wrap .i64) (.op2 .add (.op1 .len (.var 1)) (.num 1))) (.num 0)), false), ((.op2 .lt (.num 1000000000) (.op1 (.wrap .i64) (.op2 .add (.op1 .len (.var 1)) (.num 1)))), false), ((.op2 .lt (.num 900) (.op1 .len (.var 1))), false), ((.op2 .eq (.app 11 [(.var 1), (.var 3), (.var 4), (.var 5), (.var 6), (.var 7), (.var 8), (.var 9), (.var 10)]) (.num 0)), false)], none),
  ([((.op2 .eq (.app 6 [(.snoc (.var 1) [(.op1 (.kind .i64) (.var 3)), (.op1 (.kind .i64) (.var 4)), (.op1 (.kind .u8) (.var 5)), (.op1 (.kind .i64) (.var 6)), (.op1 (.kind .i64) (.var 7)), (.op1 (.kind .i64) (.var 8)), (.op1 (.kind .i64) (.var 9)), (.op1 (.kind .i64) (.var 10))])]) (.num 0)), true), ((.app 20 [(.snoc (.var 1) [(.op1 (.kind .i64) (.var 3)), (.op1 (.kind .i64) (.var 4)), (.op1 (.kind .u8) (.var 5)), (.op1 (.kind .i64) (.var 6)), (.op1 (.kind .i64) (.var 7)), (.op1 (.kind .i64) (.var 8)), (.op1 (.kind .i64) (.var 9)), (.op1 (.kind .i64) (.var 10))])]), true), ((.op2 .lt (.num 1000000000) (.op2 .add (.op1 .len (.var 1)) (.num 1))), false), ((.op2 .lt (.num 1000000000) (.op1 .len (.var 1))), false), ((.op2 .lt (.op1 (.wrap .i64) (.op2 .add (.op1 .len (.var 1)) (.num 1))) (.num 0)), false), ((.op2 .lt (.num 1000000000) (.op1 (.wrap .i64) (.op2 .add (.op1 .len (.var 1)) (.num 1)))), false), ((.op2 .lt (.num 900) (.op1 .len (.var 1))), false), ((.op2 .eq (.app 11 [(.var 1), (.var 3), (.var 4), (.var 5), (.var 6), (.var 7), (.var 8), (.var 9), (.var 10)]) (.num 0)), false)], none),
  ([((.op2 .eq (.app 6 [(.snoc (.var 1) [(.op1 (.kind .i64) (.var 3)), (.op1 (.kind .i64) (.var 4)), (.op1 (.kind .u8) (.var 5)), (.op1 (.kind .i64) (.var 6)), (.op1 (.kind .i64) (.var 7)), (.op1 (.kind .i64) (.var 8)), (.op1 (.kind .i64) (.var 9)), (.op1 (.kind .i64) (.var 10))])]) (.num 0)), false), ((.app 20 [(.snoc (.var 1) [(.op1 (.kind .i64) (.var 3)), (.op1 (.kind .i64) (.var 4)), (.op1 (.kind .u8) (.var 5)), (.op1 (.kind .i64) (.var 6)), (.op1 (.kind .i64) (.var 7)), (.op1 (.kind .i64) (.var 8)), (.op1 (.kind .i64) (.var 9)), (.op1 (.kind .i64) (.var 10))])]), true), ((.op2 .lt (.num 1000000000) (.op2 .add (.op1 .len (.var 1)) (.num 1))), false), ((.op2 .lt (.num 1000000000) (.op1 .len (.var 1))), false), ((.op2 .lt (.op1 (.wrap .i64) (.op2 .add (.op1 .len (.var 1)) (.num 1))) (.num 0)), false), ((.op2 .lt (.num 1000000000) (.op1 (.wrap .i64) (.op2 .add (.op1 .len (.var 1)) (.num 1)))), false), ((.op2 .lt (.num 900) (.op1 .len (.var 1))), false), ((.op2 .eq (.app 11 [(.var 1), (.var 3), (.var 4), (.var 5), (.var 6), (.var 7), (.var 8), (.var 9), (.var 10)]) (.num 0)), false)], some [((.app 11 [(.var 1), (.var 3), (.var 4), (.var 5), (.var 6), (.var 7), (.var 8), (.var 9), (.var 10)]), (.app 6 [(.snoc (.var 1) [(.op1 (.kind .i64) (.var 3)), (.op1 (.kind .i64) (.var 4)), (.op1 (.kind .u8) (.var 5)), (.op1 (.kind .i64) (.var 6)), (.op1 (.kind .i64) (.var 7)), (.op1 (.kind .i64) (.var 8)), (.op1 (.kind .i64) (.var 9)), (.op1 (.kind .i64) (.var 10))])]))]),
  ([((.app 20 [(.snoc (.var 1) [(.op1 (.kind .i64) (.var 3)), (.op1 (.kind .i64) (.var 4)), (.op1 (.kind .u8) (.var 5)), (.op1 (.kind .i64) (.var 6)), (.op1 (.kind .i64) (.var 7)), (.op1 (.kind .i64) (.var 8)), (.op1 (.kind .i64) (.var 9)), (.op1 (.kind .i64) (.var 10))])]), false), ((.op2 .lt (.num 1000000000) (.op2 .add (.op1 .len (.var 1)) (.num 1))), false), ((.op2 .lt (.num 1000000000) (.op1 .len (.var 1))), false), ((.op2 .lt (.op1 (.wrap .i64) (.op2 .add (.op1 .len (.var 1)) (.num 1))) (.num 0)), false), ((.op2 .lt (.num 1000000000) (.op1 (.wrap .i64) (.op2 .add (.op1 .len (.var 1)) (.num 1)))), false), ((.op2 .lt (.num 900) (.op1 .len (.var 1))), false), ((.op2 .eq (.app 11 [(.var 1), (.var 3), (.var 4), (.var 5), (.var 6), (.var 7), (.var 8), (.var 9), (.var 10)]) (.num 0)), false)], none)]
theorem cAppendNo_w (r : Rho) : cAppendNo_con.fn.ways cAppendNo_call E0 r cAppendNo_con.pre cAppendNo_t = some cAppendNo_l := by kernel_rfl
set_option maxRecDepth 100000 in
set_option maxHeartbeats 1000000 in
theorem cAppendNo_cok : cAppendNo_con.Ok Try.prog sy := by
  intro r σ w us hsy hρ hpre hrel hins
  obtain ⟨u0, us, rfl, g0, hi⟩ := ins_cons hins
  obtain ⟨u1, us, rfl, g1, hi⟩ := ins_cons hi
  obtain ⟨x, k, rfl, hp⟩ := ptg_agg g1
  obtain ⟨l, h1⟩ := ptgs_at hrel (i := 0) rfl
  rw [hρ] at hp h1
  have h1 : r.val 1 = some (ptgsR l) := h1
  have a0 := hp.h0
  have a1 := hp.h1
  have a2 := hp.h2
  have a3 := hp.h3
  have a4 := hp.h4
  have a5 := hp.h5
  have a6 := hp.h6
  have a7 := hp.h7
  simp only [Nat.zero_add, Nat.reduceAdd] at a0 a1 a2 a3 a4 a5 a6 a7

  have hlen : (l.length : Int) ≤ 900 := by
    have := hpre.1
    simp only [X.bool, X.den, denL, d_wrap, d_kind, d_not, d_neg, d_slen, d_add, d_sub, d_mul, d_div, d_mod, d_lt, d_le, d_eq, d_eqb, d_eqs, d_lts, d_cat, d_sat, d_and, d_or, denSub, denIte, asB, ptgs_len, ptgs_cell, ptgs_lsub, h1, Option.some.injEq, Value.bool.injEq, decide_eq_false_iff_not] at this
    omega
  have hw : IntKind.i64.wrap ((l.length : Int) + 1) = l.length + 1 := IntWalk.i64_in _ (by omega)
  have hle : shortB (l ++ [x]) = true := len_short (by simp; omega)
  refine con_of (E := E0) E0_ok E0_glob (sy := sy) (fun F => L6_ok F hsy) (fun F => noH_ok) (cAppendNo_w r) hρ hpre hrel hins ?_ ?_
  · simp only [cAppendNo_con, cAppendNo_t, AsksL, GTree.asks, FTree.asks, FactsIn, List.append_nil, List.nil_append, List.cons_append, Option.some.injEq, exists_eq', implies_true, and_self, X.bool, X.den, denL, d_wrap, d_kind, d_not, d_neg, d_slen, d_add, d_sub, d_mul, d_div, d_mod, d_lt, d_le, d_eq, d_eqb, d_eqs, d_lts, d_cat, d_sat, d_and, d_or, denSub, denIte, asB, ptgs_len, ptgs_cell, ptgs_lsub, ptgs_snoc, ptgs_snoc0, snoc_nil, a0, a1, a2, a3, a4, a5, a6, a7, h1, hsy, sym5, sym6, sym11, sym20, hw, check_snoc, hle]
    try simp
  · simp only [cAppendNo_l, EndsOk, WaysOk, forall_cons, forall_nil, TgtOk, gpair, FactsIn, hold_cons, hold_nil, Option.some.injEq, Value.bool.injEq, Value.int.injEq, decide_eq_true_eq, decide_eq_false_iff_not, and_true, true_and, and_imp, X.bool, X.den, denL, d_wrap, d_kind, d_not, d_neg, d_slen, d_add, d_sub, d_mul, d_div, d_mod, d_lt, d_le, d_eq, d_eqb, d_eqs, d_lts, d_cat, d_sat, d_and, d_or, denSub, denIte, asB, ptgs_len, ptgs_cell, ptgs_lsub, ptgs_snoc, ptgs_snoc0, snoc_nil, a0, a1, a2, a3, a4, a5, a6, a7, h1, hsy, sym5, sym6, sym11, sym20, hw, check_snoc, hle]
    clear hρ hpre hrel hi hp hins g0 g1 h1 a0 a1 a2 a3 a4 a5 a6 a7 hw
    (repeat' apply And.intro) <;> intros <;> first
      | (exact True.intro)
      | (exfalso; omega)
      | (simp_all; done)
      | (exfalso; simp_all; omega)
noncomputable def cAppendYes_con : Con := { f := 11, args := [ptgsArg 0 0, .agg (ptgLeaves 3)], N := 1, M := 2, pre := [(.op2 .lt (.num 900) (.op1 .len (.var 1)), false), (.op2 .eq (.app 11 [.var 1, .var 3, .var 4, .var 5, .var 6, .var 7, .var 8, .var 9, .var 10]) (.num 0), true)], out := .tuple [.slo 1 8 (.op2 .add (.op1 .len (.var 1)) (.num 1)), .int .i64 0], news := [(1, .rows 8 ptgSch (.num 0) (.snoc (.var 1) [.op1 (.kind .i64) (.var 3), .op1 (.kind .i64) (.var 4), .op1 (.kind .u8) (.var 5), .op1 (.kind .i64) (.var 6), .op1 (.kind .i64) (.var 7), .op1 (.kind .i64) (.var 8), .op1 (.kind .i64) (.var 9), .op1 (.kind .i64) (.var 10)]) true 24)] }
noncomputable def cAppendYes_call : Env → CallL := fun E => acallAll E (evH E (L6 E) ((fun _ => noLoops) E) 6)
noncomputable def cAppendYes_t : GTree := (.fork (.op2 .lt (.num 1000000000) (.op1 (.wrap .i64) (.op2 .add (.op1 .len (.var 1)) (.num 1)))) (.fork (.op2 .lt (.op1 (.wrap .i64) (.op2 .add (.op1 .len (.var 1)) (.num 1))) (.num 0)) .bad .bad) (.fork (.op2 .lt (.op1 (.wrap .i64) (.op2 .add (.op1 .len (.var 1)) (.num 1))) (.num 0)) .bad (.fork (.op2 .lt (.num 1000000000) (.op1 .len (.var 1))) .bad (.fork (.op2 .lt (.num 1000000000) (.op2 .add (.op1 .len (.var 1)) (.num 1))) .bad (.fork (.app 20 [(.snoc (.var 1) [(.op1 (.kind .i64) (.var 3)), (.op1 (.kind .i64) (.var 4)), (.op1 (.kind .u8) (.var 5)), (.op1 (.kind .i64) (.var 6)), (.op1 (.kind .i64) (.var 7)), (.op1 (.kind .i64) (.var 8)), (.op1 (.kind .i64) (.var 9)), (.op1 (.kind .i64) (.var 10))])]) (.fork (.op2 .eq (.app 6 [(.snoc (.var 1) [(.op1 (.kind .i64) (.var 3)), (.op1 (.kind .i64) (.var 4)), (.op1 (.kind .u8) (.var 5)), (.op1 (.kind .i64) (.var 6)), (.op1 (.kind .i64) (.var 7)), (.op1 (.kind .i64) (.var 8)), (.op1 (.kind .i64) (.var 9)), (.op1 (.kind .i64) (.var 10))])]) (.num 0)) (.leaf [[(1, 5)]]) .bad) .bad)))))
noncomputable def cAppendYes_l : List (List (X × Bool) × Option Pairs) := [([((.op2 .lt (.op1 (.wrap .i64) (.op2 .add (.op1 .len (.var 1)) (.num 1))) (.num 0)), true), ((.op2 .lt (.num 1000000000) (.op1 (.wrap .i64) (.op2 .add (.op1 .len (.var 1)) (.num 1)))), true), ((.op2 .lt (.num 900) (.op1 .len (.var 1))), false), ((.op2 .eq (.app 11 [(.var 1), (.var 3), (.var 4), (.var 5), (.var 6), (.var 7), (.var 8), (.var 9), (.var 10)]) (.num 0)), true)], none),
  ([((.op2 .lt (.op1 (.wrap .i64) (.op2 .add (.op1 .len (.var 1)) (.num 1))) (.num 0)), false), ((.op2 .lt (.num 1000000000) (.op1 (.wrap .i64) (.op2 .add (.op1 .len (.var 1)) (.num 1)))), true), ((.op2 .lt (.num 900) (.op1 .len (.var 1))), false), ((.op2 .eq (.app 11 [(.var 1), (.var 3), (.var 4), (.var 5), (.var 6), (.var 7), (.var 8), (.var 9), (.var 10)]) (.num 0)), true)], none),
  ([((.op2 .lt (.op1 (.wrap .i64) (.op2 .add (.op1 .len (.var 1)) (.num 1))) (.num 0)), true), ((.op2 .lt (.num 1000000000) (.op1 (.wrap .i64) (.op2 .add (.op1 .len (.var 1)) (.num 1)))), false), ((.op2 .lt (.num 900) (.op1 .len (.var 1))), false), ((.op2 .eq (.app 11 [(.var 1), (.var 3), (.var 4), (.var 5), (.var 6), (.var 7), (.var 8), (.var 9), (.var 10)]) (.num 0)), true)], none),
  ([((.op2 .lt (.num 1000000000) (.op1 .len (.var 1))), true), ((.op2 .lt (.op1 (.wrap .i64) (.op2 .add (.op1 .len (.var 1)) (.num 1))) (.num 0)), false), ((.op2 .lt (.num 1000000000) (.op1 (.wrap .i64) (.op2 .add (.op1 .len (.var 1)) (.num 1)))), false), ((.op2 .lt (.num 900) (.op1 .len (.var 1))), false), ((.op2 .eq (.app 11 [(.var 1), (.var 3), (.var 4), (.var 5), (.var 6), (.var 7), (.var 8), (.var 9), (.var 10)]) (.num 0)), true)], none),
  ([((.op2 .lt (.num 1000000000) (.op2 .add (.op1 .len (.var 1)) (.num 1))), true), ((.op2 .lt (.num 1000000000) (.op1 .len (.var 1))), false), ((.op2 .lt (.op1 (.wrap .i64) (.op2 .add (.op1 .len (.var 1)) (.num 1))) (.num 0)), false), ((.op2 .lt (.num 1000000000) (.op1 (.wrap .i64) (.op2 .add (.op1 .len (.var 1)) (.num 1)))), false), ((.op2 .lt (.num 900) (.op1 .len (.var 1))), false), ((.op2 .eq (.app 11 [(.var 1), (.var 3), (.var 4), (.var 5), (.var 6), (.var 7), (.var 8), (.var 9), (.var 10)]) (.num 0)), true)], none),
  ([((.op2 .eq (.app 6 [(.snoc (.var 1) [(.op1 (.kind .i64) (.var 3)), (.op1 (.kind .i64) (.var 4)), (.op1 (.kind .u8) (.var 5)), (.op1 (.kind .i64) (.var 6)), (.op1 (.kind .i64) (.var 7)), (.op1 (.kind .i64) (.var 8)), (.op1 (.kind .i64) (.var 9)), (.op1 (.kind .i64) (.var 10))])]) (.num 0)), true), ((.app 20 [(.snoc (.var 1) [(.op1 (.kind .i64) (.var 3)), (.op1 (.kind .i64) (.var 4)), (.op1 (.kind .u8) (.var 5)), (.op1 (.kind .i64) (.var 6)), (.op1 (.kind .i64) (.var 7)), (.op1 (.kind .i64) (.var 8)), (.op1 (.kind .i64) (.var 9)), (.op1 (.kind .i64) (.var 10))])]), true), ((.op2 .lt (.num 1000000000) (.op2 .add (.op1 .len (.var 1)) (.num 1))), false), ((.op2 .lt (.num 1000000000) (.op1 .len (.var 1))), false), ((.op2 .lt (.op1 (.wrap .i64) (.op2 .add (.op1 .len (.var 1)) (.num 1))) (.num 0)), false), ((.op2 .lt (.num 1000000000) (.op1 (.wrap .i64) (.op2 .add (.op1 .len (.var 1)) (.num 1)))), false), ((.op2 .lt (.num 900) (.op1 .len (.var 1))), false), ((.op2 .eq (.app 11 [(.var 1), (.var 3), (.var 4), (.var 5), (.var 6), (.var 7), (.var 8), (.var 9), (.var 10)]) (.num 0)), true)], some [((.op2 .add (.op1 .len (.var 1)) (.num 1)), (.op2 .add (.op1 .len (.var 1)) (.num 1))), ((.snoc (.var 1) [(.op1 (.kind .i64) (.var 3)), (.op1 (.kind .i64) (.var 4)), (.op1 (.kind .u8) (.var 5)), (.op1 (.kind .i64) (.var 6)), (.op1 (.kind .i64) (.var 7)), (.op1 (.kind .i64) (.var 8)), (.op1 (.kind .i64) (.var 9)), (.op1 (.kind .i64) (.var 10))]), (.snoc (.var 1) [(.op1 (.kind .i64) (.var 3)), (.op1 (.kind .i64) (.var 4)), (.op1 (.kind .u8) (.var 5)), (.op1 (.kind .i64) (.var 6)), (.op1 (.kind .i64) (.var 7)), (.op1 (.kind .i64) (.var 8)), (.op1 (.kind .i64) (.var 9)), (.op1 (.kind .i64) (.var 10))]))]),
  ([((.op2 .eq (.app 6 [(.snoc (.var 1) [(.op1 (.kind .i64) (.var 3)), (.op1 (.kind .i64) (.var 4)), (.op1 (.kind .u8) (.var 5)), (.op1 (.kind .i64) (.var 6)), (.op1 (.kind .i64) (.var 7)), (.op1 (.kind .i64) (.var 8)), (.op1 (.kind .i64) (.var 9)), (.op1 (.kind .i64) (.var 10))])]) (.num 0)), false), ((.app 20 [(.snoc (.var 1) [(.op1 (.kind .i64) (.var 3)), (.op1 (.kind .i64) (.var 4)), (.op1 (.kind .u8) (.var 5)), (.op1 (.kind .i64) (.var 6)), (.op1 (.kind .i64) (.var 7)), (.op1 (.kind .i64) (.var 8)), (.op1 (.kind .i64) (.var 9)), (.op1 (.kind .i64) (.var 10))])]), true), ((.op2 .lt (.num 1000000000) (.op2 .add (.op1 .len (.var 1)) (.num 1))), false), ((.op2 .lt (.num 1000000000) (.op1 .len (.var 1))), false), ((.op2 .lt (.op1 (.wrap .i64) (.op2 .add (.op1 .len (.var 1)) (.num 1))) (.num 0)), false), ((.op2 .lt (.num 1000000000) (.op1 (.wrap .i64) (.op2 .add (.op1 .len (.var 1)) (.num 1)))), false), ((.op2 .lt (.num 900) (.op1 .len (.var 1))), false), ((.op2 .eq (.app 11 [(.var 1), (.var 3), (.var 4), (.var 5), (.var 6), (.var 7), (.var 8), (.var 9), (.var 10)]) (.num 0)), true)], none),
  ([((.app 20 [(.snoc (.var 1) [(.op1 (.kind .i64) (.var 3)), (.op1 (.kind .i64) (.var 4)), (.op1 (.kind .u8) (.var 5)), (.op1 (.kind .i64) (.var 6)), (.op1 (.kind .i64) (.var 7)), (.op1 (.kind .i64) (.var 8)), (.op1 (.kind .i64) (.var 9)), (.op1 (.kind .i64) (.var 10))])]), false), ((.op2 .lt (.num 1000000000) (.op2 .add (.op1 .len (.var 1)) (.num 1))), false), ((.op2 .lt (.num 1000000000) (.op1 .len (.var 1))), false), ((.op2 .lt (.op1 (.wrap .i64) (.op2 .add (.op1 .len (.var 1)) (.num 1))) (.num 0)), false), ((.op2 .lt (.num 1000000000) (.op1 (.wrap .i64) (.op2 .add (.op1 .len (.var 1)) (.num 1)))), false), ((.op2 .lt (.num 900) (.op1 .len (.var 1))), false), ((.op2 .eq (.app 11 [(.var 1), (.var 3), (.var 4), (.var 5), (.var 6), (.var 7), (.var 8), (.var 9), (.var 10)]) (.num 0)), true)], none)]
theorem cAppendYes_w (r : Rho) : cAppendYes_con.fn.ways cAppendYes_call E0 r cAppendYes_con.pre cAppendYes_t = some cAppendYes_l := by kernel_rfl
set_option maxRecDepth 100000 in
set_option maxHeartbeats 1000000 in
theorem cAppendYes_cok : cAppendYes_con.Ok Try.prog sy := by
  intro r σ w us hsy hρ hpre hrel hins
  obtain ⟨u0, us, rfl, g0, hi⟩ := ins_cons hins
  obtain ⟨u1, us, rfl, g1, hi⟩ := ins_cons hi
  obtain ⟨x, k, rfl, hp⟩ := ptg_agg g1
  obtain ⟨l, h1⟩ := ptgs_at hrel (i := 0) rfl
  rw [hρ] at hp h1
  have h1 : r.val 1 = some (ptgsR l) := h1
  have a0 := hp.h0
  have a1 := hp.h1
  have a2 := hp.h2
  have a3 := hp.h3
  have a4 := hp.h4
  have a5 := hp.h5
  have a6 := hp.h6
  have a7 := hp.h7
  simp only [Nat.zero_add, Nat.reduceAdd] at a0 a1 a2 a3 a4 a5 a6 a7

  have hlen : (l.length : Int) ≤ 900 := by
    have := hpre.1
    simp only [X.bool, X.den, denL, d_wrap, d_kind, d_not, d_neg, d_slen, d_add, d_sub, d_mul, d_div, d_mod, d_lt, d_le, d_eq, d_eqb, d_eqs, d_lts, d_cat, d_sat, d_and, d_or, denSub, denIte, asB, ptgs_len, ptgs_cell, ptgs_lsub, h1, Option.some.injEq, Value.bool.injEq, decide_eq_false_iff_not] at this
    omega
  have hw : IntKind.i64.wrap ((l.length : Int) + 1) = l.length + 1 := IntWalk.i64_in _ (by omega)
  have hle : shortB (l ++ [x]) = true := len_short (by simp; omega)
  refine con_of (E := E0) E0_ok E0_glob (sy := sy) (fun F => L6_ok F hsy) (fun F => noH_ok) (cAppendYes_w r) hρ hpre hrel hins ?_ ?_
  · simp only [cAppendYes_con, cAppendYes_t, AsksL, GTree.asks, FTree.asks, FactsIn, List.append_nil, List.nil_append, List.cons_append, Option.some.injEq, exists_eq', implies_true, and_self, X.bool, X.den, denL, d_wrap, d_kind, d_not, d_neg, d_slen, d_add, d_sub, d_mul, d_div, d_mod, d_lt, d_le, d_eq, d_eqb, d_eqs, d_lts, d_cat, d_sat, d_and, d_or, denSub, denIte, asB, ptgs_len, ptgs_cell, ptgs_lsub, ptgs_snoc, ptgs_snoc0, snoc_nil, a0, a1, a2, a3, a4, a5, a6, a7, h1, hsy, sym5, sym6, sym11, sym20, hw, check_snoc, hle]
    try simp
  · simp only [cAppendYes_l, EndsOk, WaysOk, forall_cons, forall_nil, TgtOk, gpair, FactsIn, hold_cons, hold_nil, Option.some.injEq, Value.bool.injEq, Value.int.injEq, decide_eq_true_eq, decide_eq_false_iff_not, and_true, true_and, and_imp, X.bool, X.den, denL, d_wrap, d_kind, d_not, d_neg, d_slen, d_add, d_sub, d_mul, d_div, d_mod, d_lt, d_le, d_eq, d_eqb, d_eqs, d_lts, d_cat, d_sat, d_and, d_or, denSub, denIte, asB, ptgs_len, ptgs_cell, ptgs_lsub, ptgs_snoc, ptgs_snoc0, snoc_nil, a0, a1, a2, a3, a4, a5, a6, a7, h1, hsy, sym5, sym6, sym11, sym20, hw, check_snoc, hle]
    clear hρ hpre hrel hi hp hins g0 g1 h1 a0 a1 a2 a3 a4 a5 a6 a7 hw
    (repeat' apply And.intro) <;> intros <;> first
      | (exact True.intro)
      | (exfalso; omega)
      | (simp_all; done)
      | (exfalso; simp_all; omega)
end Go.Proofs.Ytfmgfehjbedcmaa.Zs
