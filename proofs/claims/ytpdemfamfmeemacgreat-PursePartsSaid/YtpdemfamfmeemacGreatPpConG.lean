/-
  Contract of package purse: Held of any list.
-/
import Derived.Test.YtpdemfamfmeemacGreatPpConV
import Derived.Test.YtpdemfamfmeemacGreatPpConR
import Derived.Test.YtpdemfamfmeemacGreatPpDataK
import Derived.KernelRfl
set_option linter.unusedSimpArgs false
set_option linter.unusedVariables false
namespace Go.Proofs.YtpdemfamfmeemacGreat.Zs
open Go
noncomputable def cHeldG_con : Con := { f := 9, args := [ptgsArg 0 0], N := 1, M := 1, pre := [(.app 20 [.var 1], true)], out := .tuple [.sint .i64 (.app 70 [.var 1]), .sint .i64 (.app 6 [.var 1])], news := [] }
noncomputable def cHeldG_call : Env → CallL := fun E => acallAll E (evH E (LQ E) ((fun _ => noLoops) E) 8)
noncomputable def cHeldG_t : GTree := (.fork (.op2 .eq (.app 6 [(.var 1)]) (.num 0)) (.fork (.app 35 [(.app 52 [(.var 1)])]) (.fork (.op2 .lt (.num 1000000000) (.op1 .len (.app 52 [(.var 1)]))) .bad (.fork (.op2 .eq (.op1 .len (.app 52 [(.var 1)])) (.num 0)) (.leaf [[]]) (.fork (.op2 .lt (.num 1000000000) (.op1 .len (.app 32 [(.app 52 [(.var 1)])]))) (.fork (.op2 .lt (.num 0) (.op1 .len (.app 32 [(.app 52 [(.var 1)])]))) .bad (.leaf [[]])) (.leaf [[]])))) .bad) (.leaf [[]]))
noncomputable def cHeldG_l : List (List (X × Bool) × Option Pairs) := [([((.op2 .lt (.num 1000000000) (.op1 .len (.app 52 [(.var 1)]))), true), ((.app 35 [(.app 52 [(.var 1)])]), true), ((.op2 .eq (.app 6 [(.var 1)]) (.num 0)), true), ((.app 20 [(.var 1)]), true)], none),
  ([((.op2 .eq (.op1 .len (.app 52 [(.var 1)])) (.num 0)), true), ((.op2 .lt (.num 1000000000) (.op1 .len (.app 52 [(.var 1)]))), false), ((.app 35 [(.app 52 [(.var 1)])]), true), ((.op2 .eq (.app 6 [(.var 1)]) (.num 0)), true), ((.app 20 [(.var 1)]), true)], some [((.app 70 [(.var 1)]), (.num 0)), ((.app 6 [(.var 1)]), (.num 0))]),
  ([((.op2 .lt (.num 0) (.op1 .len (.app 32 [(.app 52 [(.var 1)])]))), true), ((.op2 .lt (.num 1000000000) (.op1 .len (.app 32 [(.app 52 [(.var 1)])]))), true), ((.op2 .eq (.op1 .len (.app 52 [(.var 1)])) (.num 0)), false), ((.op2 .lt (.num 1000000000) (.op1 .len (.app 52 [(.var 1)]))), false), ((.app 35 [(.app 52 [(.var 1)])]), true), ((.op2 .eq (.app 6 [(.var 1)]) (.num 0)), true), ((.app 20 [(.var 1)]), true)], none),
  ([((.op2 .lt (.num 0) (.op1 .len (.app 32 [(.app 52 [(.var 1)])]))), false), ((.op2 .lt (.num 1000000000) (.op1 .len (.app 32 [(.app 52 [(.var 1)])]))), true), ((.op2 .eq (.op1 .len (.app 52 [(.var 1)])) (.num 0)), false), ((.op2 .lt (.num 1000000000) (.op1 .len (.app 52 [(.var 1)]))), false), ((.app 35 [(.app 52 [(.var 1)])]), true), ((.op2 .eq (.app 6 [(.var 1)]) (.num 0)), true), ((.app 20 [(.var 1)]), true)], some [((.app 70 [(.var 1)]), (.num 0)), ((.app 6 [(.var 1)]), (.num 0))]),
  ([((.op2 .lt (.num 1000000000) (.op1 .len (.app 32 [(.app 52 [(.var 1)])]))), false), ((.op2 .eq (.op1 .len (.app 52 [(.var 1)])) (.num 0)), false), ((.op2 .lt (.num 1000000000) (.op1 .len (.app 52 [(.var 1)]))), false), ((.app 35 [(.app 52 [(.var 1)])]), true), ((.op2 .eq (.app 6 [(.var 1)]) (.num 0)), true), ((.app 20 [(.var 1)]), true)], some [((.app 70 [(.var 1)]), (.app 33 [(.app 32 [(.app 52 [(.var 1)])])])), ((.app 6 [(.var 1)]), (.num 0))]),
  ([((.app 35 [(.app 52 [(.var 1)])]), false), ((.op2 .eq (.app 6 [(.var 1)]) (.num 0)), true), ((.app 20 [(.var 1)]), true)], none),
  ([((.op2 .eq (.app 6 [(.var 1)]) (.num 0)), false), ((.app 20 [(.var 1)]), true)], some [((.app 70 [(.var 1)]), (.num 0)), ((.app 6 [(.var 1)]), (.app 6 [(.var 1)]))])]
theorem cHeldG_w (r : Rho) : cHeldG_con.fn.ways cHeldG_call E0 r cHeldG_con.pre cHeldG_t = some cHeldG_l := by kernel_rfl
set_option maxHeartbeats 2000000 in
theorem cHeldG_cok : cHeldG_con.Ok Tryz.prog sy := by
  intro r σ w us hsy hρ hpre hrel hins
  obtain ⟨l, h1⟩ := ptgs_at hrel (i := 0) rfl
  rw [hρ] at h1
  have h1 : r.val 1 = some (ptgsR l) := h1
  by_cases h0 : (checkP l).2 = 0
  · have hu : uptoP l = l := upto_full h0
    have hz : heldA l = IntKind.i64.wrap ((heldV l).map valZ).sum := by
      unfold heldA
      rw [parts_held h0, decide_eq_true h0, cond_true]
    obtain ⟨hwz, h9⟩ : wordsZ (heldV l) = true ∧ ¬ (1000000000 : Int) < ((heldV l).length : Int) := by
      by_cases he : l = []
      · subst he
        exact ⟨rfl, by decide⟩
      · have b := book_of h0 he
        have := b.l2
        exact ⟨b.wz, by omega⟩
    refine con_of (E := E0) E0_ok E0_glob (sy := sy) (fun F => LQ_ok F hsy) (fun F => noH_ok) (cHeldG_w r) hρ hpre hrel hins ?_ ?_
    · simp only [cHeldG_con, cHeldG_t, AsksL, GTree.asks, FTree.asks, FactsIn, List.append_nil, List.nil_append, List.cons_append, Option.some.injEq, exists_eq', implies_true, and_self, X.bool, X.den, denL, dX, denSub, d_ite2, d_eq_ite2, asB, dY, snoc_nil, d_mhas, d_mat, d_mput, rows_len, List.take_succ_cons, List.take_zero, cond_acc, h1, hsy, sym6, sym20, sym35, sym52, sym32, sym33v, sym70, rows_len, valRows_len, hu, h0, hwz, h9]
      try simp
    · simp only [cHeldG_l, EndsOk, WaysOk, forall_cons, forall_nil, TgtOk, gpair, FactsIn, hold_cons, hold_nil, Option.some.injEq, dZ, X.bool, X.den, denL, dX, denSub, d_ite2, d_eq_ite2, asB, dY, snoc_nil, d_mhas, d_mat, d_mput, rows_len, List.take_succ_cons, List.take_zero, cond_acc, beq_iff_eq, beq_eq_false_iff_ne, ne_eq, h1, hsy, sym6, sym20, sym35, sym52, sym32, sym33v, sym70, rows_len, valRows_len, hu, h0, hwz, h9, hz]
      generalize heldV l = m at h9
      clear hρ hpre hrel hins h1 hsy
      (repeat' apply And.intro) <;> intros <;> first
        | trivial
        | contradiction
        | (exfalso; omega)
        | (exact absurd (by assumption) h9)
        | (simp_all; done)
        | (have : m = [] := List.eq_nil_of_length_eq_zero (by omega)
           subst this; rfl)
  · refine con_of (E := E0) E0_ok E0_glob (sy := sy) (fun F => LQ_ok F hsy) (fun F => noH_ok) (cHeldG_w r) hρ hpre hrel hins ?_ ?_
    · simp only [cHeldG_con, cHeldG_t, AsksL, GTree.asks, FTree.asks, FactsIn, List.append_nil, List.nil_append, List.cons_append, Option.some.injEq, exists_eq', implies_true, and_self, X.bool, X.den, denL, dX, denSub, d_ite2, d_eq_ite2, asB, dY, snoc_nil, d_mhas, d_mat, d_mput, rows_len, List.take_succ_cons, List.take_zero, cond_acc, h1, hsy, sym6, sym20, sym35, sym52, sym32, sym33v, sym70, rows_len, valRows_len]
      try simp [h0]
    · simp only [cHeldG_l, EndsOk, WaysOk, forall_cons, forall_nil, TgtOk, gpair, FactsIn, hold_cons, hold_nil, Option.some.injEq, dZ, X.bool, X.den, denL, dX, denSub, d_ite2, d_eq_ite2, asB, dY, snoc_nil, d_mhas, d_mat, d_mput, rows_len, List.take_succ_cons, List.take_zero, cond_acc, beq_iff_eq, beq_eq_false_iff_ne, ne_eq, h1, hsy, sym6, sym20, sym35, sym52, sym32, sym33v, sym70, rows_len, valRows_len]
      simp [h0, heldA]
end Go.Proofs.YtpdemfamfmeemacGreat.Zs
