/-
  Contracts of package award, over names: parties, equal parts.
-/
import Derived.Test.YtpdemfamfmeemacGreatDoorMeBase
import Derived.Test.YtpdemfamfmeemacGreatDoorMeData
import Derived.KernelRfl
set_option linter.unusedSimpArgs false
set_option linter.unusedVariables false
namespace Go.Proofs.YtpdemfamfmeemacGreatDoor.Zs
open Go
noncomputable def noL : Env → CallE := libs []
theorem noL_ok (F : List (X × Bool)) {r : Rho} (h : r.sym = sy) : CallsOk (E0.with F r) (noL (E0.with F r)) := libs_ok fun c hc => by
  cases hc
noncomputable def cwithin_con : Con := { f := 44, args := [.one (.int .i64 0), .one (.int .i64 1), .one (.int .i64 2)], N := 0, M := 0, pre := [], out := .sbool (.app 10 [.var 0, .var 1, .var 2]), news := [] }
noncomputable def cwithin_call : Env → CallL := fun E => acallAll E (evH E (noL E) ((fun _ => noLoops) E) 4)
def yEA_0 : X := .op2 .lcat (.snoc (.lsub (.var 101) (.num 0) (.var 100)) [(.op1 (.kind .i64) (.op1 (.wrap .i64) (.op2 .div (.var 0) (.var 1))))]) (.lsub (.var 101) (.op2 .add (.var 100) (.num 1)) (.op1 .len (.var 101)))
def yEA_1 : X := .op2 .lt (.var 100) (.num 0)
def yEA_2 : X := .op2 .lt (.var 100) (.op1 (.kind .i64) (.op2 .mod (.var 0) (.var 1)))
def yEA_3 : X := .op2 .lt (.var 100) (.op1 .len (.var 101))
def yEA_4 : X := .op2 .lt (.var 100) (.var 1)
def yEA_5 : X := .app 10 [(.op1 .len (.var 1)), (.num 1), (.num 40)]
noncomputable def cwithin_t : GTree := (.fork (.op2 .lt (.var 0) (.var 1)) (.leaf [[]]) (.leaf [[]]))
noncomputable def cwithin_l : List (List (X × Bool) × Option Pairs) := [([(.op2 .lt (.var 0) (.var 1), true)], some [(.app 10 [.var 0, .var 1, .var 2], .boo false)]),
  ([(.op2 .lt (.var 0) (.var 1), false)], some [(.app 10 [.var 0, .var 1, .var 2], .op1 .not (.op2 .lt (.var 2) (.var 0)))])]
theorem cwithin_w (r : Rho) : cwithin_con.fn.ways cwithin_call E0 r cwithin_con.pre cwithin_t = some cwithin_l := by kernel_rfl
theorem cwithin_cok : cwithin_con.Ok Tryz.prog sy := by
  intro r σ w us hsy hρ hpre hrel hins
  obtain ⟨u0, us, rfl, g0, hins⟩ := ins_cons hins
  obtain ⟨u1, us, rfl, g1, hins⟩ := ins_cons hins
  obtain ⟨u2, us, rfl, g2, hins⟩ := ins_cons hins
  obtain ⟨a, k0, rfl, h0⟩ := one_int g0
  obtain ⟨b, k1, rfl, h1⟩ := one_int g1
  obtain ⟨c, k2, rfl, h2⟩ := one_int g2
  rw [hρ] at h0 h1 h2
  have hs : r.sym 10 [.int k0 a, .int k1 b, .int k2 c] = some (.bool (withinB a b c)) := by rw [hsy]; rfl
  refine con_of (E := E0) E0_ok E0_glob (sy := sy) (fun F => noL_ok F hsy) (fun F => noH_ok) (cwithin_w r) hρ hpre hrel hins ?_ ?_
  · simp only [cwithin_con, cwithin_t, yEA_5, yEA_4, yEA_3, yEA_2, yEA_1, yEA_0, AsksL, GTree.asks, FTree.asks, FactsIn, List.append_nil, List.nil_append, List.cons_append, Option.some.injEq, exists_eq', implies_true, and_self, X.bool, X.den, denL, dX, denSub, denIte, asB, whos_len, whos_cell, whos_lsub, whos_lcat, whos_rep, shrs_len, shrs_cell, shrs_lsub, shrs_lcat, h0, h1, h2, hs]
  · simp only [cwithin_l, yEA_5, yEA_4, yEA_3, yEA_2, yEA_1, yEA_0, EndsOk, WaysOk, forall_cons, forall_nil, TgtOk, gpair, FactsIn, hold_cons, hold_nil, Option.some.injEq, dZ, X.bool, X.den, denL, dX, denSub, denIte, asB, whos_len, whos_cell, whos_lsub, whos_lcat, whos_rep, shrs_len, shrs_cell, shrs_lsub, shrs_lcat, h0, h1, h2, hs]
    (repeat' apply And.intro) <;> intros <;> first | trivial | (simp [withinB]; omega) | (rw [Bool.eq_iff_iff]; simp [withinB]; omega)
noncomputable def LW : Env → CallE := libs [cLib cwithin_con]
theorem LW_ok (F : List (X × Bool)) {r : Rho} (h : r.sym = sy) : CallsOk (E0.with F r) (LW (E0.with F r)) := libs_ok fun c hc => by
  simp only [List.mem_cons, List.not_mem_nil, or_false] at hc
  subst hc; exact lib_ok (E := E0) cwithin_cok F h
end Go.Proofs.YtpdemfamfmeemacGreatDoor.Zs
