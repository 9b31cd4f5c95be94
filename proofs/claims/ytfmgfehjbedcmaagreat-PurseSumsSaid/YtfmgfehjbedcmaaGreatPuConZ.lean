/-
  Contracts of package purse: parcels, what they were sold for, what is held for them.
-/
import Derived.Test.YtfmgfehjbedcmaaGreatPuConR
import Derived.Test.YtfmgfehjbedcmaaGreatPuConV
import Derived.Test.YtfmgfehjbedcmaaGreatPuKeys
import Derived.KernelRfl
set_option linter.unusedSimpArgs false
set_option linter.unusedVariables false
namespace Go.Proofs.YtfmgfehjbedcmaaGreat.Zs
open Go
set_option linter.unusedSimpArgs false
set_option linter.unusedVariables false

theorem sy37 (rows : List (List Value)) : sy 37 [rowsV rows] = some (rowsV (oneRows (sortK rows))) := by
  rw [sym37]
  unfold sortZ sortK intRows oneRows
  rw [keyI_z]
theorem sy38 (rows : List (List Value)) : sy 38 [rowsV rows] = some (.bool (wordK rows)) := by
  rw [sym38]
  unfold wordsK wordK
  simp only [keyI_z, wordI_z]

noncomputable def cSold_con : Con := { f := 11, args := [ptgsArg 0 0, .one (.int .i64 3)], N := 1, M := 1, pre := [(.app 20 [.var 1], true), (.op2 .eq (.app 6 [.var 1]) (.num 0), true), (.app 10 [.var 3, .num 10, .num 10000007], true), (.op2 .lt (.num 0) (.app 41 [.var 1, .var 3]), true)], out := .tuple [.sint .i64 (.app 41 [.var 1, .var 3]), .int .i64 0], news := [] }
noncomputable def cSold_call : Env → CallL := fun E => acallAll E (evH E (L7 E) ((fun _ => noLoops) E) 6)
noncomputable def cSold_t : GTree := (.fork (.op2 .mhas (.app 51 [(.var 1)]) (.snoc .nil [(.op1 (.kind .i64) (.var 3))])) (.fork (.op2 .lt (.num 0) (.op2 (.mat 1) (.app 51 [(.var 1)]) (.snoc .nil [(.op1 (.kind .i64) (.var 3))]))) (.leaf [[]]) .bad) .bad)
noncomputable def cSold_l : List (List (X × Bool) × Option Pairs) := [([((.op2 .lt (.num 0) (.op2 (.mat 1) (.app 51 [(.var 1)]) (.snoc .nil [(.op1 (.kind .i64) (.var 3))]))), true), ((.op2 .mhas (.app 51 [(.var 1)]) (.snoc .nil [(.op1 (.kind .i64) (.var 3))])), true), ((.app 20 [(.var 1)]), true), ((.op2 .eq (.app 6 [(.var 1)]) (.num 0)), true), ((.app 10 [(.var 3), (.num 10), (.num 10000007)]), true), ((.op2 .lt (.num 0) (.app 41 [(.var 1), (.var 3)])), true)], some [((.app 41 [(.var 1), (.var 3)]), (.op2 (.mat 1) (.app 51 [(.var 1)]) (.snoc .nil [(.op1 (.kind .i64) (.var 3))])))]),
  ([((.op2 .lt (.num 0) (.op2 (.mat 1) (.app 51 [(.var 1)]) (.snoc .nil [(.op1 (.kind .i64) (.var 3))]))), false), ((.op2 .mhas (.app 51 [(.var 1)]) (.snoc .nil [(.op1 (.kind .i64) (.var 3))])), true), ((.app 20 [(.var 1)]), true), ((.op2 .eq (.app 6 [(.var 1)]) (.num 0)), true), ((.app 10 [(.var 3), (.num 10), (.num 10000007)]), true), ((.op2 .lt (.num 0) (.app 41 [(.var 1), (.var 3)])), true)], none),
  ([((.op2 .mhas (.app 51 [(.var 1)]) (.snoc .nil [(.op1 (.kind .i64) (.var 3))])), false), ((.app 20 [(.var 1)]), true), ((.op2 .eq (.app 6 [(.var 1)]) (.num 0)), true), ((.app 10 [(.var 3), (.num 10), (.num 10000007)]), true), ((.op2 .lt (.num 0) (.app 41 [(.var 1), (.var 3)])), true)], none)]
theorem cSold_w (r : Rho) : cSold_con.fn.ways cSold_call E0 r cSold_con.pre cSold_t = some cSold_l := by kernel_rfl
theorem cSold_cok : cSold_con.Ok Tryz.prog sy := by
  intro r σ w us hsy hρ hpre hrel hins
  obtain ⟨u0, us, rfl, g0, hi⟩ := ins_cons hins
  obtain ⟨u1, us, rfl, g1, hi⟩ := ins_cons hi
  obtain ⟨c, k3, rfl, h3⟩ := one_int g1
  obtain ⟨l, h1⟩ := ptgs_at hrel (i := 0) rfl
  rw [hρ] at h1 h3
  have h1 : r.val 1 = some (ptgsR l) := h1
  have hmax : (l.length : Int) ≤ 1010 := by
    have := hpre.1
    simp only [X.bool, X.den, denL, d_wrap, d_kind, d_not, d_neg, d_slen, d_add, d_sub, d_mul, d_div, d_mod, d_lt, d_le, d_eq, d_eqb, d_eqs, d_lts, d_cat, d_sat, d_and, d_or, denSub, denIte, asB, ptgs_len, ptgs_cell, ptgs_lsub, h1, hsy, sym20, Option.some.injEq, Value.bool.injEq] at this
    exact short_len this
  have h0 : (checkP l).2 = 0 := by
    have := hpre.2.1
    simpa only [X.bool, X.den, denL, d_wrap, d_kind, d_not, d_neg, d_slen, d_add, d_sub, d_mul, d_div, d_mod, d_lt, d_le, d_eq, d_eqb, d_eqs, d_lts, d_cat, d_sat, d_and, d_or, denSub, denIte, asB, ptgs_len, ptgs_cell, ptgs_lsub, h1, hsy, sym6, Option.some.injEq, Value.bool.injEq, decide_eq_true_eq, beq_iff_eq] using this
  have hg := check_good h0
  have hu : uptoP l = l := upto_full h0
  have hp : 0 < soldW l c := by
    have := hpre.2.2.2.1
    simpa only [X.bool, X.den, denL, d_wrap, d_kind, d_not, d_neg, d_slen, d_add, d_sub, d_mul, d_div, d_mod, d_lt, d_le, d_eq, d_eqb, d_eqs, d_lts, d_cat, d_sat, d_and, d_or, denSub, denIte, asB, ptgs_len, ptgs_cell, ptgs_lsub, h1, h3, hsy, sym41, Option.some.injEq, Value.bool.injEq, decide_eq_true_eq] using this
  obtain ⟨e1, e2⟩ : mapHas (soldV l) (kI c) = true ∧ mapAt (soldV l) (kI c) 1 = some (.int .i64 (soldW l c)) := by
    rcases hg.sold c with ⟨_, a⟩ | ⟨a1, a2, _⟩
    · omega
    · exact ⟨a1, a2⟩
  simp only [kI] at e1 e2
  refine con_of (E := E0) E0_ok E0_glob (sy := sy) (fun F => L7_ok F hsy) (fun F => noH_ok) (cSold_w r) hρ hpre hrel hins ?_ ?_
  · simp only [cSold_con, cSold_t, AsksL, GTree.asks, FTree.asks, FactsIn, List.append_nil, List.nil_append, List.cons_append, Option.some.injEq, exists_eq', implies_true, and_self, X.bool, X.den, denL, d_wrap, d_kind, d_not, d_neg, d_slen, d_add, d_sub, d_mul, d_div, d_mod, d_lt, d_le, d_eq, d_eqb, d_eqs, d_lts, d_cat, d_sat, d_and, d_or, denSub, d_ite2, d_eq_ite2, asB, ptgs_len, ptgs_cell, ptgs_lsub, snoc_nil, d_mhas, d_mat, d_mput, rows_len, List.take_succ_cons, List.take_zero, cond_acc, h1, h3, hsy, sym41, sym51, hu, e1, e2]
    try simp
  · simp only [cSold_l, EndsOk, WaysOk, forall_cons, forall_nil, TgtOk, gpair, FactsIn, hold_cons, hold_nil, Option.some.injEq, Value.bool.injEq, Value.int.injEq, decide_eq_true_eq, decide_eq_false_iff_not, and_true, true_and, and_imp, X.bool, X.den, denL, d_wrap, d_kind, d_not, d_neg, d_slen, d_add, d_sub, d_mul, d_div, d_mod, d_lt, d_le, d_eq, d_eqb, d_eqs, d_lts, d_cat, d_sat, d_and, d_or, denSub, d_ite2, d_eq_ite2, asB, ptgs_len, ptgs_cell, ptgs_lsub, snoc_nil, d_mhas, d_mat, d_mput, rows_len, List.take_succ_cons, List.take_zero, cond_acc, beq_iff_eq, beq_eq_false_iff_ne, ne_eq, h1, h3, hsy, sym41, sym51, hu, e1, e2]
    try simp [hp]
noncomputable def cHeldOf_con : Con := { f := 17, args := [ptgsArg 0 0, .one (.int .i64 3)], N := 1, M := 1, pre := [(.app 20 [.var 1], true), (.op2 .eq (.app 6 [.var 1]) (.num 0), true), (.app 10 [.var 3, .num 10, .num 10000007], true)], out := .tuple [.sint .i64 (.app 42 [.var 1, .var 3]), .int .i64 0], news := [] }
noncomputable def cHeldOf_call : Env → CallL := fun E => acallAll E (evH E (L7 E) ((fun _ => noLoops) E) 6)
noncomputable def cHeldOf_t : GTree := (.fork (.op2 .mhas (.app 52 [(.var 1)]) (.snoc .nil [(.op1 (.kind .i64) (.var 3))])) (.leaf [[]]) (.leaf [[]]))
noncomputable def cHeldOf_l : List (List (X × Bool) × Option Pairs) := [([((.op2 .mhas (.app 52 [(.var 1)]) (.snoc .nil [(.op1 (.kind .i64) (.var 3))])), true), ((.app 20 [(.var 1)]), true), ((.op2 .eq (.app 6 [(.var 1)]) (.num 0)), true), ((.app 10 [(.var 3), (.num 10), (.num 10000007)]), true)], some [((.app 42 [(.var 1), (.var 3)]), (.op2 (.mat 1) (.app 52 [(.var 1)]) (.snoc .nil [(.op1 (.kind .i64) (.var 3))])))]),
  ([((.op2 .mhas (.app 52 [(.var 1)]) (.snoc .nil [(.op1 (.kind .i64) (.var 3))])), false), ((.app 20 [(.var 1)]), true), ((.op2 .eq (.app 6 [(.var 1)]) (.num 0)), true), ((.app 10 [(.var 3), (.num 10), (.num 10000007)]), true)], some [((.app 42 [(.var 1), (.var 3)]), (.num 0))])]
theorem cHeldOf_w (r : Rho) : cHeldOf_con.fn.ways cHeldOf_call E0 r cHeldOf_con.pre cHeldOf_t = some cHeldOf_l := by kernel_rfl
theorem cHeldOf_cok : cHeldOf_con.Ok Tryz.prog sy := by
  intro r σ w us hsy hρ hpre hrel hins
  obtain ⟨u0, us, rfl, g0, hi⟩ := ins_cons hins
  obtain ⟨u1, us, rfl, g1, hi⟩ := ins_cons hi
  obtain ⟨c, k3, rfl, h3⟩ := one_int g1
  obtain ⟨l, h1⟩ := ptgs_at hrel (i := 0) rfl
  rw [hρ] at h1 h3
  have h1 : r.val 1 = some (ptgsR l) := h1
  have hmax : (l.length : Int) ≤ 1010 := by
    have := hpre.1
    simp only [X.bool, X.den, denL, d_wrap, d_kind, d_not, d_neg, d_slen, d_add, d_sub, d_mul, d_div, d_mod, d_lt, d_le, d_eq, d_eqb, d_eqs, d_lts, d_cat, d_sat, d_and, d_or, denSub, denIte, asB, ptgs_len, ptgs_cell, ptgs_lsub, h1, hsy, sym20, Option.some.injEq, Value.bool.injEq] at this
    exact short_len this
  have h0 : (checkP l).2 = 0 := by
    have := hpre.2.1
    simpa only [X.bool, X.den, denL, d_wrap, d_kind, d_not, d_neg, d_slen, d_add, d_sub, d_mul, d_div, d_mod, d_lt, d_le, d_eq, d_eqb, d_eqs, d_lts, d_cat, d_sat, d_and, d_or, denSub, denIte, asB, ptgs_len, ptgs_cell, ptgs_lsub, h1, hsy, sym6, Option.some.injEq, Value.bool.injEq, decide_eq_true_eq, beq_iff_eq] using this
  have hg := check_good h0
  have hu : uptoP l = l := upto_full h0
  have hw := hg.heldW c
  have kC : (mapHas (heldV l) (kI c) = false ∧ heldW l c = 0) ∨ (mapHas (heldV l) (kI c) = true ∧ mapAt (heldV l) (kI c) 1 = some (.int .i64 (heldW l c))) := by
    rcases hg.held c with ⟨a1, a2⟩ | ⟨a1, a2, _⟩
    · refine .inl ⟨a1, ?_⟩
      have h5 := hg.heldN c
      have h6 := sumH_nonneg (fun w => hg.hasN w c) 41
      rw [hw]
      unfold heldZ at *
      omega
    · exact .inr ⟨a1, by rw [hw]; exact a2⟩
  simp only [kI] at kC
  refine con_of (E := E0) E0_ok E0_glob (sy := sy) (fun F => L7_ok F hsy) (fun F => noH_ok) (cHeldOf_w r) hρ hpre hrel hins ?_ ?_
  · rcases kC with ⟨e1, e2⟩ | ⟨e1, e2⟩ <;> simp only [cHeldOf_con, cHeldOf_t, AsksL, GTree.asks, FTree.asks, FactsIn, List.append_nil, List.nil_append, List.cons_append, Option.some.injEq, exists_eq', implies_true, and_self, X.bool, X.den, denL, d_wrap, d_kind, d_not, d_neg, d_slen, d_add, d_sub, d_mul, d_div, d_mod, d_lt, d_le, d_eq, d_eqb, d_eqs, d_lts, d_cat, d_sat, d_and, d_or, denSub, d_ite2, d_eq_ite2, asB, ptgs_len, ptgs_cell, ptgs_lsub, snoc_nil, d_mhas, d_mat, d_mput, rows_len, List.take_succ_cons, List.take_zero, cond_acc, h1, h3, hsy, sym42, sym52, hu, e1, e2]
    all_goals (try simp)
  · rcases kC with ⟨e1, e2⟩ | ⟨e1, e2⟩ <;> simp only [cHeldOf_l, EndsOk, WaysOk, forall_cons, forall_nil, TgtOk, gpair, FactsIn, hold_cons, hold_nil, Option.some.injEq, Value.bool.injEq, Value.int.injEq, decide_eq_true_eq, decide_eq_false_iff_not, and_true, true_and, and_imp, X.bool, X.den, denL, d_wrap, d_kind, d_not, d_neg, d_slen, d_add, d_sub, d_mul, d_div, d_mod, d_lt, d_le, d_eq, d_eqb, d_eqs, d_lts, d_cat, d_sat, d_and, d_or, denSub, d_ite2, d_eq_ite2, asB, ptgs_len, ptgs_cell, ptgs_lsub, snoc_nil, d_mhas, d_mat, d_mput, rows_len, List.take_succ_cons, List.take_zero, cond_acc, beq_iff_eq, beq_eq_false_iff_ne, ne_eq, h1, h3, hsy, sym42, sym52, hu, e1, e2]
    all_goals (try simp)
noncomputable def LK : Env → CallE := libs [cLib cLedN_con, cLib cLedY_con, skeysLib 81 125 3 37 38]
theorem LK_ok (F : List (X × Bool)) {r : Rho} (h : r.sym = sy) : CallsOk (E0.with F r) (LK (E0.with F r)) := libs_ok fun c hc => by
  simp only [List.mem_cons, List.not_mem_nil, or_false] at hc
  rcases hc with rfl | rfl | rfl
  · exact lib_ok (E := E0) cLedN_cok F h
  · exact lib_ok (E := E0) cLedY_cok F h
  · exact skeysLib_ok (Env.with_ok E0_ok F r) rfl (fun rows => by rw [h]; exact sy37 rows) (fun rows => by rw [h]; exact sy38 rows) keysSays Tryz.underlying3 (by kernel_rfl)

noncomputable def cParN_con : Con := { f := 32, args := [ptgsArg 0 0], N := 1, M := 1, pre := [(.app 20 [.var 1], true), (.op2 .eq (.app 6 [.var 1]) (.num 0), true), (.app 38 [.app 51 [.var 1]], true), (.op2 .lt (.num 1000000000) (.op1 .len (.app 51 [.var 1])), false), (.op2 .eq (.op1 .len (.app 51 [.var 1])) (.num 0), true)], out := .nilslice, news := [] }
noncomputable def cParN_call : Env → CallL := fun E => acallAll E (evH E (LK E) ((fun _ => noLoops) E) 8)
noncomputable def cParN_t : GTree := (.leaf [[]])
noncomputable def cParN_l : List (List (X × Bool) × Option Pairs) := [([((.app 20 [(.var 1)]), true), ((.op2 .eq (.app 6 [(.var 1)]) (.num 0)), true), ((.app 38 [(.app 51 [(.var 1)])]), true), ((.op2 .lt (.num 1000000000) (.op1 .len (.app 51 [(.var 1)]))), false), ((.op2 .eq (.op1 .len (.app 51 [(.var 1)])) (.num 0)), true)], some [])]
theorem cParN_w (r : Rho) : cParN_con.fn.ways cParN_call E0 r cParN_con.pre cParN_t = some cParN_l := by kernel_rfl
theorem cParN_cok : cParN_con.Ok Tryz.prog sy := by
  intro r σ w us hsy hρ hpre hrel hins
  obtain ⟨l, h1⟩ := ptgs_at hrel (i := 0) rfl
  rw [hρ] at h1
  have h1 : r.val 1 = some (ptgsR l) := h1
  refine con_of (E := E0) E0_ok E0_glob (sy := sy) (fun F => LK_ok F hsy) (fun F => noH_ok) (cParN_w r) hρ hpre hrel hins ?_ ?_
  · simp only [cParN_con, cParN_t, AsksL, GTree.asks, FTree.asks, FactsIn, List.append_nil, List.nil_append, List.cons_append, Option.some.injEq, exists_eq', implies_true, and_self, X.bool, X.den, denL, d_wrap, d_kind, d_not, d_neg, d_slen, d_add, d_sub, d_mul, d_div, d_mod, d_lt, d_le, d_eq, d_eqb, d_eqs, d_lts, d_cat, d_sat, d_and, d_or, denSub, d_ite2, d_eq_ite2, asB, ptgs_len, ptgs_cell, ptgs_lsub, snoc_nil, d_mhas, d_mat, d_mput, rows_len, List.take_succ_cons, List.take_zero, cond_acc, h1, hsy, sym51, sym37, rows_len]
    try simp
  · simp only [cParN_l, EndsOk, WaysOk, forall_cons, forall_nil, TgtOk, gpair, FactsIn, hold_cons, hold_nil, Option.some.injEq, Value.bool.injEq, Value.int.injEq, decide_eq_true_eq, decide_eq_false_iff_not, and_true, true_and, and_imp, X.bool, X.den, denL, d_wrap, d_kind, d_not, d_neg, d_slen, d_add, d_sub, d_mul, d_div, d_mod, d_lt, d_le, d_eq, d_eqb, d_eqs, d_lts, d_cat, d_sat, d_and, d_or, denSub, d_ite2, d_eq_ite2, asB, ptgs_len, ptgs_cell, ptgs_lsub, snoc_nil, d_mhas, d_mat, d_mput, rows_len, List.take_succ_cons, List.take_zero, cond_acc, beq_iff_eq, beq_eq_false_iff_ne, ne_eq, h1, hsy, sym51, sym37, rows_len]
    try simp
noncomputable def cParY_con : Con := { f := 32, args := [ptgsArg 0 0], N := 1, M := 2, pre := [(.app 20 [.var 1], true), (.op2 .eq (.app 6 [.var 1]) (.num 0), true), (.app 38 [.app 51 [.var 1]], true), (.op2 .lt (.num 1000000000) (.op1 .len (.app 51 [.var 1])), false), (.op2 .eq (.op1 .len (.app 51 [.var 1])) (.num 0), false)], out := .slo 1 1 (.op1 .len (.app 51 [.var 1])), news := [(1, .rows 1 [.int .i64] (.num 0) (.app 37 [.app 51 [.var 1]]) true 3)] }
noncomputable def cParY_call : Env → CallL := fun E => acallAll E (evH E (LK E) ((fun _ => noLoops) E) 8)
noncomputable def cParY_t : GTree := (.leaf [[(1, 8)]])
noncomputable def cParY_l : List (List (X × Bool) × Option Pairs) := [([((.app 20 [(.var 1)]), true), ((.op2 .eq (.app 6 [(.var 1)]) (.num 0)), true), ((.app 38 [(.app 51 [(.var 1)])]), true), ((.op2 .lt (.num 1000000000) (.op1 .len (.app 51 [(.var 1)]))), false), ((.op2 .eq (.op1 .len (.app 51 [(.var 1)])) (.num 0)), false)], some [((.op1 .len (.app 51 [(.var 1)])), (.op1 .len (.app 51 [(.var 1)]))), ((.app 37 [(.app 51 [(.var 1)])]), (.app 37 [(.app 51 [(.var 1)])]))])]
theorem cParY_w (r : Rho) : cParY_con.fn.ways cParY_call E0 r cParY_con.pre cParY_t = some cParY_l := by kernel_rfl
theorem cParY_cok : cParY_con.Ok Tryz.prog sy := by
  intro r σ w us hsy hρ hpre hrel hins
  obtain ⟨l, h1⟩ := ptgs_at hrel (i := 0) rfl
  rw [hρ] at h1
  have h1 : r.val 1 = some (ptgsR l) := h1
  refine con_of (E := E0) E0_ok E0_glob (sy := sy) (fun F => LK_ok F hsy) (fun F => noH_ok) (cParY_w r) hρ hpre hrel hins ?_ ?_
  · simp only [cParY_con, cParY_t, AsksL, GTree.asks, FTree.asks, FactsIn, List.append_nil, List.nil_append, List.cons_append, Option.some.injEq, exists_eq', implies_true, and_self, X.bool, X.den, denL, d_wrap, d_kind, d_not, d_neg, d_slen, d_add, d_sub, d_mul, d_div, d_mod, d_lt, d_le, d_eq, d_eqb, d_eqs, d_lts, d_cat, d_sat, d_and, d_or, denSub, d_ite2, d_eq_ite2, asB, ptgs_len, ptgs_cell, ptgs_lsub, snoc_nil, d_mhas, d_mat, d_mput, rows_len, List.take_succ_cons, List.take_zero, cond_acc, h1, hsy, sym51, sym37, rows_len]
    try simp
  · simp only [cParY_l, EndsOk, WaysOk, forall_cons, forall_nil, TgtOk, gpair, FactsIn, hold_cons, hold_nil, Option.some.injEq, Value.bool.injEq, Value.int.injEq, decide_eq_true_eq, decide_eq_false_iff_not, and_true, true_and, and_imp, X.bool, X.den, denL, d_wrap, d_kind, d_not, d_neg, d_slen, d_add, d_sub, d_mul, d_div, d_mod, d_lt, d_le, d_eq, d_eqb, d_eqs, d_lts, d_cat, d_sat, d_and, d_or, denSub, d_ite2, d_eq_ite2, asB, ptgs_len, ptgs_cell, ptgs_lsub, snoc_nil, d_mhas, d_mat, d_mput, rows_len, List.take_succ_cons, List.take_zero, cond_acc, beq_iff_eq, beq_eq_false_iff_ne, ne_eq, h1, hsy, sym51, sym37, rows_len]
    try simp
end Go.Proofs.YtfmgfehjbedcmaaGreat.Zs
