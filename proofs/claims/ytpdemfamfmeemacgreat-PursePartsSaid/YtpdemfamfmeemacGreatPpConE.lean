/-
  Contracts of package purse: Check and Append.
-/
import Derived.Test.YtpdemfamfmeemacGreatPpConD
import Derived.KernelRfl
set_option linter.unusedSimpArgs false
set_option linter.unusedVariables false
namespace Go.Proofs.YtpdemfamfmeemacGreat.Zs
open Go
noncomputable def L5 : Env → CallE := libs [cLib cLedN_con, cLib cLedY_con]
theorem L5_ok (F : List (X × Bool)) {r : Rho} (h : r.sym = sy) : CallsOk (E0.with F r) (L5 (E0.with F r)) := libs_ok fun c hc => by
  simp only [List.mem_cons, List.not_mem_nil, or_false] at hc
  rcases hc with rfl | rfl
  · exact lib_ok (E := E0) cLedN_cok F h
  · exact lib_ok (E := E0) cLedY_cok F h
noncomputable def cChk_con : Con := { f := 40, args := [ptgsArg 0 0], N := 1, M := 1, pre := [(.app 20 [.var 1], true)], out := .tuple [.sint .i64 (.app 5 [.var 1]), .sint .i64 (.app 6 [.var 1])], news := [] }
noncomputable def cChk_call : Env → CallL := fun E => acallAll E (evH E (L5 E) ((fun _ => noLoops) E) 6)
noncomputable def cChk_t : GTree := (.fork (.op2 .eq (.app 6 [(.var 1)]) (.num 0)) (.leaf [[]]) (.leaf [[]]))
noncomputable def cChk_l : List (List (X × Bool) × Option Pairs) := [([((.op2 .eq (.app 6 [(.var 1)]) (.num 0)), true), ((.app 20 [(.var 1)]), true)], some [((.app 5 [(.var 1)]), (.num 0)), ((.app 6 [(.var 1)]), (.num 0))]),
  ([((.op2 .eq (.app 6 [(.var 1)]) (.num 0)), false), ((.app 20 [(.var 1)]), true)], some [((.app 5 [(.var 1)]), (.app 5 [(.var 1)])), ((.app 6 [(.var 1)]), (.app 6 [(.var 1)]))])]
theorem cChk_w (r : Rho) : cChk_con.fn.ways cChk_call E0 r cChk_con.pre cChk_t = some cChk_l := by kernel_rfl
theorem cChk_cok : cChk_con.Ok Tryz.prog sy := by
  intro r σ w us hsy hρ hpre hrel hins
  obtain ⟨l, h1⟩ := ptgs_at hrel (i := 0) rfl
  rw [hρ] at h1
  have h1 : r.val 1 = some (ptgsR l) := h1
  refine con_of (E := E0) E0_ok E0_glob (sy := sy) (fun F => L5_ok F hsy) (fun F => noH_ok) (cChk_w r) hρ hpre hrel hins ?_ ?_
  · simp only [cChk_con, cChk_t, AsksL, GTree.asks, FTree.asks, FactsIn, List.append_nil, List.nil_append, List.cons_append, Option.some.injEq, exists_eq', implies_true, and_self, X.bool, X.den, denL, dX, denSub, denIte, asB, dY, h1, hsy, sym5, sym6, sym20]
    try simp
  · simp only [cChk_l, EndsOk, WaysOk, forall_cons, forall_nil, TgtOk, gpair, FactsIn, hold_cons, hold_nil, Option.some.injEq, dZ, X.bool, X.den, denL, dX, denSub, denIte, asB, dY, h1, hsy, sym5, sym6, sym20]
    have h00 : (checkP l).2 = 0 → (checkP l).1 = 0 := check00 l
    (repeat' apply And.intro) <;> intros <;> simp_all
end Go.Proofs.YtpdemfamfmeemacGreat.Zs
