/-
  Contracts of package purse: Check and Append.
-/
import Derived.Test.YtfmgfehjbedcmaaGreatPuConD
import Derived.KernelRfl
set_option linter.unusedSimpArgs false
set_option linter.unusedVariables false
namespace Go.Proofs.YtfmgfehjbedcmaaGreat.Zs
open Go
set_option linter.unusedSimpArgs false
set_option linter.unusedVariables false

noncomputable def L5 : Env → CallE := libs [cLib cLedN_con, cLib cLedY_con]
theorem L5_ok (F : List (X × Bool)) {r : Rho} (h : r.sym = sy) : CallsOk (E0.with F r) (L5 (E0.with F r)) := libs_ok fun c hc => by
  simp only [List.mem_cons, List.not_mem_nil, or_false] at hc
  rcases hc with rfl | rfl
  · exact lib_ok (E := E0) cLedN_cok F h
  · exact lib_ok (E := E0) cLedY_cok F h

noncomputable def cChk_con : Con := { f := 115, args := [ptgsArg 0 0], N := 1, M := 1, pre := [(.app 20 [.var 1], true)], out := .tuple [.sint .i64 (.app 5 [.var 1]), .sint .i64 (.app 6 [.var 1])], news := [] }
noncomputable def cChk_call : Env → CallL := fun E => acallAll E (evH E (L5 E) ((fun _ => noLoops) E) 6)
noncomputable def cChk_t : GTree := (.fork (.op2 .eq (.app 6 [(.var 1)]) (.num 0)) (.leaf [[]]) (.leaf [[]]))
noncomputable def cChk_l : List (List (X × Bool) × Option Pairs) := [([((.op2 .eq (.app 6 [(.var 1)]) (.num 0)), true), ((.app 20 [(.var 1)]), true)], some [((.app 5 [(.var 1)]), (.num 0)), ((.app 6 [(.var 1)]), (.num 0))]),
  ([((.op2 .eq (.app 6 [(.var 1)]) (.num 0)), false), ((.app 20 [(.var 1)]), true)], some [((.app 5 [(.var 1)]), (.app 5 [(.var 1)])), ((.app 6 [(.var 1)]), (.app 6 [(.var 1)]))])]
theorem cChk_w (r : Rho) : cChk_con.fn.ways cChk_call E0 r cChk_con.pre cChk_t = some cChk_l := by kernel_rfl
theorem cChk_cok : cChk_con.Ok Tryz.prog sy := by
  intro r σ w us hsy hρ hpre hrel hins
  obtain ⟨l, h1⟩ := ptgs_at hrel (i := 0) rfl
  rw [hρ] at h1
  have h1 : r.val 1 = some (ptgsR l) := h1
  refine con_of (E := E0) E0_ok E0_glob (sy := sy) (fun F => L5_ok F hsy) (fun F => noH_ok) (cChk_w r) hρ hpre hrel hins ?_ ?_
  · simp only [cChk_con, cChk_t, AsksL, GTree.asks, FTree.asks, FactsIn, List.append_nil, List.nil_append, List.cons_append, Option.some.injEq, exists_eq', implies_true, and_self, X.bool, X.den, denL, d_wrap, d_kind, d_not, d_neg, d_slen, d_add, d_sub, d_mul, d_div, d_mod, d_lt, d_le, d_eq, d_eqb, d_eqs, d_lts, d_cat, d_sat, d_and, d_or, denSub, denIte, asB, ptgs_len, ptgs_cell, ptgs_lsub, h1, hsy, sym5, sym6, sym20]
    try simp
  · simp only [cChk_l, EndsOk, WaysOk, forall_cons, forall_nil, TgtOk, gpair, FactsIn, hold_cons, hold_nil, Option.some.injEq, Value.bool.injEq, Value.int.injEq, decide_eq_true_eq, decide_eq_false_iff_not, and_true, true_and, and_imp, X.bool, X.den, denL, d_wrap, d_kind, d_not, d_neg, d_slen, d_add, d_sub, d_mul, d_div, d_mod, d_lt, d_le, d_eq, d_eqb, d_eqs, d_lts, d_cat, d_sat, d_and, d_or, denSub, denIte, asB, ptgs_len, ptgs_cell, ptgs_lsub, h1, hsy, sym5, sym6, sym20]
    have h00 : (checkP l).2 = 0 → (checkP l).1 = 0 := check00 l
    (repeat' apply And.intro) <;> intros <;> simp_all
noncomputable def L6 : Env → CallE := libs [cLib cChk_con]
theorem L6_ok (F : List (X × Bool)) {r : Rho} (h : r.sym = sy) : CallsOk (E0.with F r) (L6 (E0.with F r)) := libs_ok fun c hc => by
  simp only [List.mem_cons, List.not_mem_nil, or_false] at hc
  subst hc; exact lib_ok (E := E0) cChk_cok F h

theorem chkP_snoc (x : Ptg) : ∀ (l pre : List Ptg), (chkP pre (l ++ [x])).2 = if (chkP pre l).2 ≠ 0 then (chkP pre l).2 else refusedP (pre ++ l) x
  | [], pre => by
    simp only [List.nil_append, chkP, List.append_nil, ne_eq, not_true_eq_false, if_false]
    split
    · rename_i h; exact h.symm
    · rfl
  | p :: r, pre => by
    simp only [List.cons_append, chkP]
    split
    · rw [chkP_snoc x r (pre ++ [p])]; simp
    · rename_i h; simp [h]
theorem check_snoc (l : List Ptg) (x : Ptg) : (checkP (l ++ [x])).2 = appendP l x := by
  have := chkP_snoc x l []
  rw [List.nil_append] at this
  exact this

end Go.Proofs.YtfmgfehjbedcmaaGreat.Zs
