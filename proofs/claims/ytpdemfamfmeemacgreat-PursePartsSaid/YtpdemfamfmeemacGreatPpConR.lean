/-
  Contracts of package purse: what a party has; books and their beginnings.
-/
import Derived.Test.YtpdemfamfmeemacGreatPpConE
import Derived.KernelRfl
set_option linter.unusedSimpArgs false
set_option linter.unusedVariables false
namespace Go.Proofs.YtpdemfamfmeemacGreat.Zs
open Go
theorem chk_good : ∀ (l pre : List Ptg), GoodL pre → (chkP pre l).2 = 0 → GoodL (pre ++ l)
  | [], pre, h, _ => by rwa [List.append_nil]
  | p :: r, pre, h, hc => by
    by_cases e : refusedP pre p = 0
    · simp only [chkP, if_pos e] at hc
      have := chk_good r (pre ++ [p]) (h.snoc e) hc
      rwa [List.append_assoc] at this
    · simp only [chkP, if_neg e] at hc
      exact absurd hc e
theorem check_good {l : List Ptg} (h : (checkP l).2 = 0) : GoodL l := chk_good l [] goodL_nil h
noncomputable def cPty_con : Con := { f := 56, args := [.one (.int .i64 0)], N := 0, M := 0, pre := [], out := .sbool (.app 31 [.var 0]), news := [] }
noncomputable def cPty_call : Env → CallL := fun E => acallAll E (evH E (LW E) ((fun _ => noLoops) E) 4)
def yPR_0 : X := .snoc .nil [(.op1 (.kind .i64) (.var 3)), (.op1 (.kind .i64) (.var 4))]
noncomputable def cPty_t : GTree := (.fork (.op2 .eq (.var 0) (.num 0)) (.leaf [[]]) (.leaf [[]]))
noncomputable def cPty_l : List (List (X × Bool) × Option Pairs) := [([(.op2 .eq (.var 0) (.num 0), true)], some [(.app 31 [.var 0], .boo true)]),
  ([(.op2 .eq (.var 0) (.num 0), false)], some [(.app 31 [.var 0], .app 10 [.var 0, .num 1, .num 40])])]
theorem cPty_w (r : Rho) : cPty_con.fn.ways cPty_call E0 r cPty_con.pre cPty_t = some cPty_l := by kernel_rfl
theorem cPty_cok : cPty_con.Ok Tryz.prog sy := by
  intro r σ w us hsy hρ hpre hrel hins
  obtain ⟨u0, us, rfl, g0, hi⟩ := ins_cons hins
  obtain ⟨a, k, rfl, h0⟩ := one_int g0
  rw [hρ] at h0
  refine con_of (E := E0) E0_ok E0_glob (sy := sy) (fun F => LW_ok F hsy) (fun F => noH_ok) (cPty_w r) hρ hpre hrel hins ?_ ?_
  · simp only [cPty_con, cPty_t, yPR_0, AsksL, GTree.asks, FTree.asks, FactsIn, List.append_nil, List.nil_append, List.cons_append, Option.some.injEq, exists_eq', implies_true, and_self, X.bool, X.den, denL, dX, denSub, denIte, asB, dY, h0, hsy, sym10, sym31]
    try simp
  · simp only [cPty_l, yPR_0, EndsOk, WaysOk, forall_cons, forall_nil, TgtOk, gpair, FactsIn, hold_cons, hold_nil, Option.some.injEq, dZ, X.bool, X.den, denL, dX, denSub, denIte, asB, dY, h0, hsy, sym10, sym31]
    (repeat' apply And.intro) <;> intros <;> simp_all [partyB]
noncomputable def L7 : Env → CallE := libs [cLib cLedN_con, cLib cLedY_con, cLib cwithin_con, cLib cPty_con, cLib cChk_con]
theorem L7_ok (F : List (X × Bool)) {r : Rho} (h : r.sym = sy) : CallsOk (E0.with F r) (L7 (E0.with F r)) := libs_ok fun c hc => by
  simp only [List.mem_cons, List.not_mem_nil, or_false] at hc
  rcases hc with rfl | rfl | rfl | rfl | rfl
  · exact lib_ok (E := E0) cLedN_cok F h
  · exact lib_ok (E := E0) cLedY_cok F h
  · exact lib_ok (E := E0) cwithin_cok F h
  · exact lib_ok (E := E0) cPty_cok F h
  · exact lib_ok (E := E0) cChk_cok F h
end Go.Proofs.YtpdemfamfmeemacGreat.Zs
