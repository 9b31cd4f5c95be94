/-
  Contracts of package purse and its reference, over names: well-formed postings.
-/
import Derived.Test.YtpdemfamfmeemacGreatPpBase
import Derived.Test.YtpdemfamfmeemacGreatPpData
import Derived.KernelRfl
set_option linter.unusedSimpArgs false
set_option linter.unusedVariables false
namespace Go.Proofs.YtpdemfamfmeemacGreat.Zs
open Go
noncomputable def noL : Env → CallE := libs []
theorem noL_ok (F : List (X × Bool)) {r : Rho} (h : r.sym = sy) : CallsOk (E0.with F r) (noL (E0.with F r)) := libs_ok fun c hc => by
  cases hc
noncomputable def cwithin_con : Con := { f := 53, args := [.one (.int .i64 0), .one (.int .i64 1), .one (.int .i64 2)], N := 0, M := 0, pre := [], out := .sbool (.app 10 [.var 0, .var 1, .var 2]), news := [] }
noncomputable def cwithin_call : Env → CallL := fun E => acallAll E (evH E (noL E) ((fun _ => noLoops) E) 4)
def yPA_0 : X := .ite (.app 63 [(.var 0), (.var 1), (.var 2), (.var 3), (.var 4), (.var 5), (.var 6), (.var 7)]) (.num 0) (.num 1)
def yPA_1 : X := .app 10 [(.var 0), (.num 1), (.num 1000000)]
def yPA_2 : X := .app 10 [(.var 6), (.num 1), (.num 1000000)]
def yPA_3 : X := .app 10 [(.var 1), (.num 0), (.num 1000000)]
def yPA_4 : X := .app 10 [(.var 4), (.num 10), (.num 10000007)]
def yPA_5 : X := .app 10 [(.var 7), (.num 0), (.var 1)]
def yPA_6 : X := .app 10 [(.var 5), (.num 1), (.num 1000000000)]
def yPA_7 : X := .app 10 [(.var 3), (.num 0), (.num 40)]
def yPA_8 : X := .op2 .eq (.var 1) (.num 1)
def yPA_9 : X := .op2 .eq (.var 0) (.num 0)
def yPA_10 : X := .op2 .lt (.var 2) (.num 1)
noncomputable def cwithin_t : GTree := (.fork (.op2 .lt (.var 0) (.var 1)) (.leaf [[]]) (.leaf [[]]))
noncomputable def cwithin_l : List (List (X × Bool) × Option Pairs) := [([(.op2 .lt (.var 0) (.var 1), true)], some [(.app 10 [.var 0, .var 1, .var 2], .boo false)]),
  ([(.op2 .lt (.var 0) (.var 1), false)], some [(.app 10 [.var 0, .var 1, .var 2], .op1 .not (.op2 .lt (.var 2) (.var 0)))])]
theorem cwithin_w (r : Rho) : cwithin_con.fn.ways cwithin_call E0 r cwithin_con.pre cwithin_t = some cwithin_l := by kernel_rfl
theorem cwithin_cok : cwithin_con.Ok Tryz.prog sy := by
  intro r σ w us hsy hρ hpre hrel hins
  obtain ⟨u0, us, rfl, g0, hins⟩ := ins_cons hins
  obtain ⟨u1, us, rfl, g1, hins⟩ := ins_cons hins
  obtain ⟨u2, us, rfl, g2, hins⟩ := ins_cons hins
  obtain ⟨a, k0, rfl, h0⟩ := one_int g0
  obtain ⟨b, k1, rfl, h1⟩ := one_int g1
  obtain ⟨c, k2, rfl, h2⟩ := one_int g2
  rw [hρ] at h0 h1 h2
  have hs : r.sym 10 [.int k0 a, .int k1 b, .int k2 c] = some (.bool (withinB a b c)) := by rw [hsy]; rfl
  refine con_of (E := E0) E0_ok E0_glob (sy := sy) (fun F => noL_ok F hsy) (fun F => noH_ok) (cwithin_w r) hρ hpre hrel hins ?_ ?_
  · simp only [cwithin_con, cwithin_t, yPA_10, yPA_9, yPA_8, yPA_7, yPA_6, yPA_5, yPA_4, yPA_3, yPA_2, yPA_1, yPA_0, AsksL, GTree.asks, FTree.asks, FactsIn, List.append_nil, List.nil_append, List.cons_append, Option.some.injEq, exists_eq', implies_true, and_self, X.bool, X.den, denL, dX, denSub, denIte, asB, dY, h0, h1, h2, hs]
  · simp only [cwithin_l, yPA_10, yPA_9, yPA_8, yPA_7, yPA_6, yPA_5, yPA_4, yPA_3, yPA_2, yPA_1, yPA_0, EndsOk, WaysOk, forall_cons, forall_nil, TgtOk, gpair, FactsIn, hold_cons, hold_nil, Option.some.injEq, dZ, X.bool, X.den, denL, dX, denSub, denIte, asB, dY, h0, h1, h2, hs]
    (repeat' apply And.intro) <;> intros <;> first | trivial | (simp [withinB]; omega) | (rw [Bool.eq_iff_iff]; simp [withinB]; omega)
noncomputable def rwithin_con : Con := { f := 82, args := [.one (.int .i64 0), .one (.int .i64 1), .one (.int .i64 2)], N := 0, M := 0, pre := [], out := .sbool (.app 10 [.var 0, .var 1, .var 2]), news := [] }
noncomputable def rwithin_call : Env → CallL := fun E => acallAll E (evH E (noL E) ((fun _ => noLoops) E) 4)
noncomputable def rwithin_t : GTree := (.fork (.op2 .lt (.var 0) (.var 1)) (.leaf [[]]) (.leaf [[]]))
noncomputable def rwithin_l : List (List (X × Bool) × Option Pairs) := [([(.op2 .lt (.var 0) (.var 1), true)], some [(.app 10 [.var 0, .var 1, .var 2], .boo false)]),
  ([(.op2 .lt (.var 0) (.var 1), false)], some [(.app 10 [.var 0, .var 1, .var 2], .op1 .not (.op2 .lt (.var 2) (.var 0)))])]
theorem rwithin_w (r : Rho) : rwithin_con.fn.ways rwithin_call E0 r rwithin_con.pre rwithin_t = some rwithin_l := by kernel_rfl
theorem rwithin_cok : rwithin_con.Ok Tryz.prog sy := by
  intro r σ w us hsy hρ hpre hrel hins
  obtain ⟨u0, us, rfl, g0, hins⟩ := ins_cons hins
  obtain ⟨u1, us, rfl, g1, hins⟩ := ins_cons hins
  obtain ⟨u2, us, rfl, g2, hins⟩ := ins_cons hins
  obtain ⟨a, k0, rfl, h0⟩ := one_int g0
  obtain ⟨b, k1, rfl, h1⟩ := one_int g1
  obtain ⟨c, k2, rfl, h2⟩ := one_int g2
  rw [hρ] at h0 h1 h2
  have hs : r.sym 10 [.int k0 a, .int k1 b, .int k2 c] = some (.bool (withinB a b c)) := by rw [hsy]; rfl
  refine con_of (E := E0) E0_ok E0_glob (sy := sy) (fun F => noL_ok F hsy) (fun F => noH_ok) (rwithin_w r) hρ hpre hrel hins ?_ ?_
  · simp only [rwithin_con, rwithin_t, yPA_10, yPA_9, yPA_8, yPA_7, yPA_6, yPA_5, yPA_4, yPA_3, yPA_2, yPA_1, yPA_0, AsksL, GTree.asks, FTree.asks, FactsIn, List.append_nil, List.nil_append, List.cons_append, Option.some.injEq, exists_eq', implies_true, and_self, X.bool, X.den, denL, dX, denSub, denIte, asB, dY, h0, h1, h2, hs]
  · simp only [rwithin_l, yPA_10, yPA_9, yPA_8, yPA_7, yPA_6, yPA_5, yPA_4, yPA_3, yPA_2, yPA_1, yPA_0, EndsOk, WaysOk, forall_cons, forall_nil, TgtOk, gpair, FactsIn, hold_cons, hold_nil, Option.some.injEq, dZ, X.bool, X.den, denL, dX, denSub, denIte, asB, dY, h0, h1, h2, hs]
    (repeat' apply And.intro) <;> intros <;> first | trivial | (simp [withinB]; omega) | (rw [Bool.eq_iff_iff]; simp [withinB]; omega)
noncomputable def LW : Env → CallE := libs [cLib cwithin_con]
theorem LW_ok (F : List (X × Bool)) {r : Rho} (h : r.sym = sy) : CallsOk (E0.with F r) (LW (E0.with F r)) := libs_ok fun c hc => by
  simp only [List.mem_cons, List.not_mem_nil, or_false] at hc
  subst hc; exact lib_ok (E := E0) cwithin_cok F h
noncomputable def LR : Env → CallE := libs [cLib rwithin_con]
theorem LR_ok (F : List (X × Bool)) {r : Rho} (h : r.sym = sy) : CallsOk (E0.with F r) (LR (E0.with F r)) := libs_ok fun c hc => by
  simp only [List.mem_cons, List.not_mem_nil, or_false] at hc
  subst hc; exact lib_ok (E := E0) rwithin_cok F h
noncomputable def cKind_con : Con := { f := 89, args := [.one (.int .i64 0), .one (.int .u8 1)], N := 0, M := 0, pre := [], out := .sbool (.app 30 [.var 0, .var 1]), news := [] }
noncomputable def cKind_call : Env → CallL := fun E => acallAll E (evH E (LW E) ((fun _ => noLoops) E) 8)
noncomputable def cKind_t : GTree := (.fork yPA_8 (.leaf [[]]) (.fork (.op2 .eq (.var 1) (.num 2)) (.fork yPA_9 (.leaf [[]]) (.leaf [[]])) (.fork (.op2 .eq (.var 1) (.num 3)) (.fork yPA_9 (.leaf [[]]) (.leaf [[]])) (.leaf [[]]))))
noncomputable def cKind_l : List (List (X × Bool) × Option Pairs) := [([(yPA_8, true)], some [(.app 30 [.var 0, .var 1], yPA_9)]),
  ([(yPA_9, true), (.op2 .eq (.var 1) (.num 2), true), (yPA_8, false)], some [(.app 30 [.var 0, .var 1], .boo true)]),
  ([(yPA_9, false), (.op2 .eq (.var 1) (.num 2), true), (yPA_8, false)], some [(.app 30 [.var 0, .var 1], .app 10 [.var 0, .num 1, .num 40])]),
  ([(yPA_9, true), (.op2 .eq (.var 1) (.num 3), true), (.op2 .eq (.var 1) (.num 2), false), (yPA_8, false)], some [(.app 30 [.var 0, .var 1], .boo true)]),
  ([(yPA_9, false), (.op2 .eq (.var 1) (.num 3), true), (.op2 .eq (.var 1) (.num 2), false), (yPA_8, false)], some [(.app 30 [.var 0, .var 1], .app 10 [.var 0, .num 1, .num 40])]),
  ([(.op2 .eq (.var 1) (.num 3), false), (.op2 .eq (.var 1) (.num 2), false), (yPA_8, false)], some [(.app 30 [.var 0, .var 1], .boo false)])]
theorem cKind_w (r : Rho) : cKind_con.fn.ways cKind_call E0 r cKind_con.pre cKind_t = some cKind_l := by kernel_rfl
theorem cKind_cok : cKind_con.Ok Tryz.prog sy := by
  intro r σ w us hsy hρ hpre hrel hins
  obtain ⟨u0, us, rfl, g0, hins⟩ := ins_cons hins
  obtain ⟨u1, us, rfl, g1, hins⟩ := ins_cons hins
  obtain ⟨a, k0, rfl, h0⟩ := one_int g0
  obtain ⟨b, k1, rfl, h1⟩ := one_int g1
  rw [hρ] at h0 h1
  refine con_of (E := E0) E0_ok E0_glob (sy := sy) (fun F => LW_ok F hsy) (fun F => noH_ok) (cKind_w r) hρ hpre hrel hins ?_ ?_
  · simp only [cKind_con, cKind_t, yPA_10, yPA_9, yPA_8, yPA_7, yPA_6, yPA_5, yPA_4, yPA_3, yPA_2, yPA_1, yPA_0, AsksL, GTree.asks, FTree.asks, FactsIn, List.append_nil, List.nil_append, List.cons_append, Option.some.injEq, exists_eq', implies_true, and_self, X.bool, X.den, denL, dX, denSub, denIte, asB, dY, h0, h1, hsy, sym10, sym30]
  · simp only [cKind_l, yPA_10, yPA_9, yPA_8, yPA_7, yPA_6, yPA_5, yPA_4, yPA_3, yPA_2, yPA_1, yPA_0, EndsOk, WaysOk, forall_cons, forall_nil, TgtOk, gpair, FactsIn, hold_cons, hold_nil, Option.some.injEq, dZ, X.bool, X.den, denL, dX, denSub, denIte, asB, dY, beq_iff_eq, beq_eq_false_iff_ne, ne_eq, h0, h1, hsy, sym10, sym30]
    clear hsy hρ hpre hrel hins g0 g1 h0 h1
    simp only [kindB]
    (repeat' apply And.intro) <;> intros <;> first
      | trivial
      | (subst_vars; simp [*]; done)
      | (rw [Bool.eq_iff_iff]; subst_vars; simp [*]; done)
      | (simp_all; done)
noncomputable def LP : Env → CallE := libs [cLib cwithin_con, cLib cKind_con]
theorem LP_ok (F : List (X × Bool)) {r : Rho} (h : r.sym = sy) : CallsOk (E0.with F r) (LP (E0.with F r)) := libs_ok fun c hc => by
  simp only [List.mem_cons, List.not_mem_nil, or_false] at hc
  rcases hc with rfl | rfl
  · exact lib_ok (E := E0) cwithin_cok F h
  · exact lib_ok (E := E0) cKind_cok F h
noncomputable def cPost_con : Con := { f := 77, args := [.agg (ptgLeaves 0)], N := 0, M := 0, pre := [], out := .sint .i64 (.ite (.app 63 [.var 0, .var 1, .var 2, .var 3, .var 4, .var 5, .var 6, .var 7]) (.num 0) (.num 1)), news := [] }
noncomputable def cPost_call : Env → CallL := fun E => acallAll E (evH E (LP E) ((fun _ => noLoops) E) 8)
noncomputable def cPost_t : GTree := (.fork yPA_1 (.fork yPA_2 (.fork yPA_3 (.fork yPA_5 (.fork yPA_4 (.fork yPA_6 (.fork (.app 30 [.var 3, .var 2]) (.leaf [[]]) (.leaf [[]])) (.leaf [[]])) (.leaf [[]])) (.leaf [[]])) (.leaf [[]])) (.leaf [[]])) (.leaf [[]]))
noncomputable def cPost_l : List (List (X × Bool) × Option Pairs) := [([(.app 30 [.var 3, .var 2], true), (yPA_6, true), (yPA_4, true), (yPA_5, true), (yPA_3, true), (yPA_2, true), (yPA_1, true)], some [(yPA_0, .num 0)]),
  ([(.app 30 [.var 3, .var 2], false), (yPA_6, true), (yPA_4, true), (yPA_5, true), (yPA_3, true), (yPA_2, true), (yPA_1, true)], some [(yPA_0, .num 1)]),
  ([(yPA_6, false), (yPA_4, true), (yPA_5, true), (yPA_3, true), (yPA_2, true), (yPA_1, true)], some [(yPA_0, .num 1)]),
  ([(yPA_4, false), (yPA_5, true), (yPA_3, true), (yPA_2, true), (yPA_1, true)], some [(yPA_0, .num 1)]),
  ([(yPA_5, false), (yPA_3, true), (yPA_2, true), (yPA_1, true)], some [(yPA_0, .num 1)]),
  ([(yPA_3, false), (yPA_2, true), (yPA_1, true)], some [(yPA_0, .num 1)]),
  ([(yPA_2, false), (yPA_1, true)], some [(yPA_0, .num 1)]),
  ([(yPA_1, false)], some [(yPA_0, .num 1)])]
theorem cPost_w (r : Rho) : cPost_con.fn.ways cPost_call E0 r cPost_con.pre cPost_t = some cPost_l := by kernel_rfl
theorem cPost_cok : cPost_con.Ok Tryz.prog sy := by
  intro r σ w us hsy hρ hpre hrel hins
  obtain ⟨u0, us, rfl, g0, hi⟩ := ins_cons hins
  obtain ⟨x, k, rfl, hp⟩ := ptg_agg g0
  rw [hρ] at hp
  have a0 := hp.h0
  have a1 := hp.h1
  have a2 := hp.h2
  have a3 := hp.h3
  have a4 := hp.h4
  have a5 := hp.h5
  have a6 := hp.h6
  have a7 := hp.h7
  simp only [Nat.zero_add, Nat.reduceAdd] at a0 a1 a2 a3 a4 a5 a6 a7
  refine con_of (E := E0) E0_ok E0_glob (sy := sy) (fun F => LP_ok F hsy) (fun F => noH_ok) (cPost_w r) hρ hpre hrel hins ?_ ?_
  · simp only [cPost_con, cPost_t, yPA_10, yPA_9, yPA_8, yPA_7, yPA_6, yPA_5, yPA_4, yPA_3, yPA_2, yPA_1, yPA_0, AsksL, GTree.asks, FTree.asks, FactsIn, List.append_nil, List.nil_append, List.cons_append, Option.some.injEq, exists_eq', implies_true, and_self, X.bool, X.den, denL, dX, denSub, denIte, asB, dY, a0, a1, a2, a3, a4, a5, a6, a7, hsy, sym10, sym30, sym63]
  · simp only [cPost_l, yPA_10, yPA_9, yPA_8, yPA_7, yPA_6, yPA_5, yPA_4, yPA_3, yPA_2, yPA_1, yPA_0, EndsOk, WaysOk, forall_cons, forall_nil, TgtOk, gpair, FactsIn, hold_cons, hold_nil, Option.some.injEq, dZ, X.bool, X.den, denL, dX, denSub, denIte, asB, dY, beq_iff_eq, beq_eq_false_iff_ne, ne_eq, a0, a1, a2, a3, a4, a5, a6, a7, hsy, sym10, sym30, sym63]
    clear hsy hρ hpre hrel hi hins g0 hp a0 a1 a2 a3 a4 a5 a6 a7
    obtain ⟨id, hour, kind, party, parcel, amount, reason, known⟩ := x
    simp only [formB]
    generalize withinB id 1 1000000 = b1
    generalize withinB reason 1 1000000 = b2
    generalize withinB hour 0 1000000 = b3
    generalize withinB known 0 hour = b4
    generalize withinB parcel 10 10000007 = b5
    generalize withinB amount 1 1000000000 = b6
    generalize kindB party kind = b7
    cases b1 <;> cases b2 <;> cases b3 <;> cases b4 <;> cases b5 <;> cases b6 <;> cases b7 <;> simp
noncomputable def rPost_con : Con := { f := 83, args := [.agg (ptgLeaves 0)], N := 0, M := 0, pre := [], out := .sint .i64 (.ite (.app 63 [.var 0, .var 1, .var 2, .var 3, .var 4, .var 5, .var 6, .var 7]) (.num 0) (.num 1)), news := [] }
noncomputable def rPost_call : Env → CallL := fun E => acallAll E (evH E (LR E) ((fun _ => noLoops) E) 8)
noncomputable def rPost_t : GTree := (.fork yPA_1 (.fork yPA_2 (.fork yPA_3 (.fork yPA_5 (.fork yPA_4 (.fork yPA_6 (.fork yPA_10 (.leaf [[]]) (.fork (.op2 .lt (.num 3) (.var 2)) (.leaf [[]]) (.fork yPA_7 (.fork (.op2 .eq (.var 2) (.num 1)) (.fork (.op2 .eq (.var 3) (.num 0)) (.leaf [[]]) (.leaf [[]])) (.leaf [[]])) (.leaf [[]])))) (.leaf [[]])) (.leaf [[]])) (.leaf [[]])) (.leaf [[]])) (.leaf [[]])) (.leaf [[]]))
noncomputable def rPost_l : List (List (X × Bool) × Option Pairs) := [([(yPA_10, true), (yPA_6, true), (yPA_4, true), (yPA_5, true), (yPA_3, true), (yPA_2, true), (yPA_1, true)], some [(yPA_0, .num 1)]),
  ([(.op2 .lt (.num 3) (.var 2), true), (yPA_10, false), (yPA_6, true), (yPA_4, true), (yPA_5, true), (yPA_3, true), (yPA_2, true), (yPA_1, true)], some [(yPA_0, .num 1)]),
  ([(.op2 .eq (.var 3) (.num 0), true), (.op2 .eq (.var 2) (.num 1), true), (yPA_7, true), (.op2 .lt (.num 3) (.var 2), false), (yPA_10, false), (yPA_6, true), (yPA_4, true), (yPA_5, true), (yPA_3, true), (yPA_2, true), (yPA_1, true)], some [(yPA_0, .num 0)]),
  ([(.op2 .eq (.var 3) (.num 0), false), (.op2 .eq (.var 2) (.num 1), true), (yPA_7, true), (.op2 .lt (.num 3) (.var 2), false), (yPA_10, false), (yPA_6, true), (yPA_4, true), (yPA_5, true), (yPA_3, true), (yPA_2, true), (yPA_1, true)], some [(yPA_0, .num 1)]),
  ([(.op2 .eq (.var 2) (.num 1), false), (yPA_7, true), (.op2 .lt (.num 3) (.var 2), false), (yPA_10, false), (yPA_6, true), (yPA_4, true), (yPA_5, true), (yPA_3, true), (yPA_2, true), (yPA_1, true)], some [(yPA_0, .num 0)]),
  ([(yPA_7, false), (.op2 .lt (.num 3) (.var 2), false), (yPA_10, false), (yPA_6, true), (yPA_4, true), (yPA_5, true), (yPA_3, true), (yPA_2, true), (yPA_1, true)], some [(yPA_0, .num 1)]),
  ([(yPA_6, false), (yPA_4, true), (yPA_5, true), (yPA_3, true), (yPA_2, true), (yPA_1, true)], some [(yPA_0, .num 1)]),
  ([(yPA_4, false), (yPA_5, true), (yPA_3, true), (yPA_2, true), (yPA_1, true)], some [(yPA_0, .num 1)]),
  ([(yPA_5, false), (yPA_3, true), (yPA_2, true), (yPA_1, true)], some [(yPA_0, .num 1)]),
  ([(yPA_3, false), (yPA_2, true), (yPA_1, true)], some [(yPA_0, .num 1)]),
  ([(yPA_2, false), (yPA_1, true)], some [(yPA_0, .num 1)]),
  ([(yPA_1, false)], some [(yPA_0, .num 1)])]
theorem rPost_w (r : Rho) : rPost_con.fn.ways rPost_call E0 r rPost_con.pre rPost_t = some rPost_l := by kernel_rfl
theorem rPost_cok : rPost_con.Ok Tryz.prog sy := by
  intro r σ w us hsy hρ hpre hrel hins
  obtain ⟨u0, us, rfl, g0, hi⟩ := ins_cons hins
  obtain ⟨x, k, rfl, hp⟩ := ptg_agg g0
  rw [hρ] at hp
  have a0 := hp.h0
  have a1 := hp.h1
  have a2 := hp.h2
  have a3 := hp.h3
  have a4 := hp.h4
  have a5 := hp.h5
  have a6 := hp.h6
  have a7 := hp.h7
  simp only [Nat.zero_add, Nat.reduceAdd] at a0 a1 a2 a3 a4 a5 a6 a7
  refine con_of (E := E0) E0_ok E0_glob (sy := sy) (fun F => LR_ok F hsy) (fun F => noH_ok) (rPost_w r) hρ hpre hrel hins ?_ ?_
  · simp only [rPost_con, rPost_t, yPA_10, yPA_9, yPA_8, yPA_7, yPA_6, yPA_5, yPA_4, yPA_3, yPA_2, yPA_1, yPA_0, AsksL, GTree.asks, FTree.asks, FactsIn, List.append_nil, List.nil_append, List.cons_append, Option.some.injEq, exists_eq', implies_true, and_self, X.bool, X.den, denL, dX, denSub, denIte, asB, dY, a0, a1, a2, a3, a4, a5, a6, a7, hsy, sym10, sym30, sym63]
  · simp only [rPost_l, yPA_10, yPA_9, yPA_8, yPA_7, yPA_6, yPA_5, yPA_4, yPA_3, yPA_2, yPA_1, yPA_0, EndsOk, WaysOk, forall_cons, forall_nil, TgtOk, gpair, FactsIn, hold_cons, hold_nil, Option.some.injEq, dZ, X.bool, X.den, denL, dX, denSub, denIte, asB, dY, beq_iff_eq, beq_eq_false_iff_ne, ne_eq, a0, a1, a2, a3, a4, a5, a6, a7, hsy, sym10, sym30, sym63]
    clear hsy hρ hpre hrel hi hins g0 hp a0 a1 a2 a3 a4 a5 a6 a7
    obtain ⟨id, hour, kind, party, parcel, amount, reason, known⟩ := x
    simp only [formB]
    have hk : kindB party kind = (!(decide (kind < 1)) && (!(decide (3 < kind)) && (withinB party 0 40 && !(decide (kind = 1) && !(decide (party = 0)))))) := by
      simp only [kindB, withinB]
      rw [Bool.eq_iff_iff]
      by_cases k1 : kind = 1 <;> by_cases k2 : kind = 2 <;> by_cases k3 : kind = 3 <;> by_cases q : party = 0 <;> simp [k1, k2, k3, q] <;> omega
    rw [hk]
    generalize withinB id 1 1000000 = b1
    generalize withinB reason 1 1000000 = b2
    generalize withinB hour 0 1000000 = b3
    generalize withinB known 0 hour = b4
    generalize withinB parcel 10 10000007 = b5
    generalize withinB amount 1 1000000000 = b6
    generalize withinB party 0 40 = b7
    (repeat' apply And.intro) <;> intros <;> first
      | trivial
      | (simp [*]; done)
      | (simp_all; done)
      | (exfalso; omega)
end Go.Proofs.YtpdemfamfmeemacGreat.Zs
