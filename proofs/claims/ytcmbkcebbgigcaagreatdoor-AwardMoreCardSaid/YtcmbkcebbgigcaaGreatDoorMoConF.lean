/-
  Contracts: fractions that are parts of one.
-/
import Derived.Test.YtcmbkcebbgigcaaGreatDoorMoConA
import Derived.Test.YtcmbkcebbgigcaaGreatDoorMoAcc
import Derived.KernelRfl
set_option linter.unusedSimpArgs false
set_option linter.unusedVariables false
namespace Go.Proofs.YtcmbkcebbgigcaaGreatDoor.Zs
open Go
def div_vs : List X := [.var 0, .var 1]
noncomputable def kwithin_con : Con := { f := 79, args := [.one (.int .i64 0), .one (.int .i64 1), .one (.int .i64 2)], N := 0, M := 0, pre := [], out := .sbool (.app 10 [.var 0, .var 1, .var 2]), news := [] }
noncomputable def kwithin_call : Env → CallL := fun E => acallAll E (evH E (noL E) ((fun _ => noLoops) E) 4)
def qb0 : X := .app 10 [(.var 0), (.num (-1000000000000000)), (.num 1000000000000000)]
def qb1 : X := .app 10 [(.var 1), (.num (-1000000000000000)), (.num 1000000000000000)]
def qb2 : X := .op1 (.wrap .i64) (.op2 .sub (.num 0) (.var 0))
def qb3 : X := .op1 (.wrap .i64) (.op2 .sub (.num 0) (.var 1))
def qb4 : X := .app 72 [(.var 0), (.var 1)]
def qb5 : X := .app 70 [(.var 0), (.var 1)]
def qb6 : X := .app 71 [(.var 0), (.var 1)]
def qb7 : X := .op2 .eq (.var 1) (.num 0)
def qb8 : X := .app 58 [(.var 0), (.var 1)]
def qb9 : X := .op2 .lt (.var 1) (.num 0)
def qb10 : X := .app 10 [(.app 54 [(.var 0), (.var 1)]), (.num 1), (.num 1000000)]
def qb11 : X := .app 10 [(.app 53 [(.var 0), (.var 1)]), (.num (-1000000000000)), (.num 1000000000000)]
def qb12 : X := .app 10 [(.app 54 [qb2, qb3]), (.num 1), (.num 1000000)]
def qb13 : X := .app 10 [(.app 53 [qb2, qb3]), (.num (-1000000000000)), (.num 1000000000000)]
def qb14 : X := .app 50 [(.var 0), (.var 1)]
noncomputable def kwithin_t : GTree := (.fork (.op2 .lt (.var 0) (.var 1)) (.leaf [[]]) (.leaf [[]]))
noncomputable def kwithin_l : List (List (X × Bool) × Option Pairs) := [([(.op2 .lt (.var 0) (.var 1), true)], some [(.app 10 [.var 0, .var 1, .var 2], .boo false)]),
  ([(.op2 .lt (.var 0) (.var 1), false)], some [(.app 10 [.var 0, .var 1, .var 2], .op1 .not (.op2 .lt (.var 2) (.var 0)))])]
theorem kwithin_w (r : Rho) : kwithin_con.fn.ways kwithin_call E0 r kwithin_con.pre kwithin_t = some kwithin_l := by kernel_rfl
theorem kwithin_cok : kwithin_con.Ok Tryz.prog sy := by
  intro r σ w us hsy hρ hpre hrel hins
  obtain ⟨u0, us, rfl, g0, hins⟩ := ins_cons hins
  obtain ⟨u1, us, rfl, g1, hins⟩ := ins_cons hins
  obtain ⟨u2, us, rfl, g2, hins⟩ := ins_cons hins
  obtain ⟨a, k0, rfl, h0⟩ := one_int g0
  obtain ⟨b, k1, rfl, h1⟩ := one_int g1
  obtain ⟨c, k2, rfl, h2⟩ := one_int g2
  rw [hρ] at h0 h1 h2
  have hs : r.sym 10 [.int k0 a, .int k1 b, .int k2 c] = some (.bool (withinB a b c)) := by rw [hsy]; rfl
  refine con_of (E := E0) E0_ok E0_glob (sy := sy) (fun F => noL_ok F hsy) (fun F => noH_ok) (kwithin_w r) hρ hpre hrel hins ?_ ?_
  · simp only [kwithin_con, kwithin_t, qb14, qb13, qb12, qb11, qb10, qb9, qb8, qb7, qb6, qb5, qb4, qb3, qb2, qb1, qb0, AsksL, GTree.asks, FTree.asks, FactsIn, List.append_nil, List.nil_append, List.cons_append, Option.some.injEq, exists_eq', implies_true, and_self, X.bool, X.den, denL, dX, denSub, denIte, asB, dY, h0, h1, h2, hs]
  · simp only [kwithin_l, qb14, qb13, qb12, qb11, qb10, qb9, qb8, qb7, qb6, qb5, qb4, qb3, qb2, qb1, qb0, EndsOk, WaysOk, forall_cons, forall_nil, TgtOk, gpair, FactsIn, hold_cons, hold_nil, Option.some.injEq, dZ, X.bool, X.den, denL, dX, denSub, denIte, asB, dY, beq_iff_eq, beq_eq_false_iff_ne, ne_eq, h0, h1, h2, hs]
    (repeat' apply And.intro) <;> intros <;> first | trivial | (simp [withinB]; omega) | (rw [Bool.eq_iff_iff]; simp [withinB]; omega)
noncomputable def kdiv_D : LoopD := { N := 100, M := 102, size := sizeOfF 119, reads := [], pats := [{ slots := [(0, .sint .i64 (.var 100)), (1, .sint .i64 (.var 101))], heap := [] }], exits := [(.exit 0, { slots := [(0, .sint .i64 (.app 52 [.var 0, .var 1]))], heap := [] })], own := [], pre := [(.app 55 [.var 0], true), (.app 55 [.var 1], true)] }
noncomputable def kdiv_run : Env → AF → ASt → Option (List Out) := bodyRun noL 4 (fun _ => noLoop) (loopAt Tryz.prog 119 0)
def kdiv0_F : List (X × Bool) := []
noncomputable def kdiv0_t : FTree := (.fork (.op2 .eq (.var 101) (.num 0)) (.leaf [.leave 0 []]) (.leaf [.again 0 []]))
noncomputable def kdiv0_l : List (List (X × Bool) × Option (List (Tgt × Pairs))) := [([(.op2 .eq (.var 101) (.num 0), true)], some [(.leave 0 [], [(.app 52 [.var 0, .var 1], .var 100)])]),
  ([(.op2 .eq (.var 101) (.num 0), false)], some [(.again 0 [], [(.var 100, .var 101), (.var 101, .op1 (.kind .i64) (.op2 .mod (.var 100) (.var 101)))])])]
theorem kdiv0_w (r : Rho) : kdiv_D.ways kdiv_run E0 r 0 kdiv0_F kdiv0_t = some kdiv0_l := by kernel_rfl
theorem kdiv_ok : kdiv_D.ok = true := by kernel_rfl
def kdiv_Inv (k0 k1 : IntKind) (a b : Int) (j : Nat) (vals : List Value) : Prop :=
  j = 0 ∧ ∃ (x y : Int) (j0 j1 : IntKind), vals = [.int j0 x, .int j1 y] ∧ wideB x = true ∧ wideB y = true ∧ lastI x y = lastI a b ∧ lastK j0 j1 x y = lastK k0 k1 a b
def kdiv_mu (_ : Nat) (vals : List Value) : Nat := (vI (vals.getD 1 default)).natAbs
theorem kdiv_step {ρ : Rho} {a b : Int} {k0 k1 : IntKind} (h0 : ρ.val 0 = some (.int k0 a)) (h1 : ρ.val 1 = some (.int k1 b)) (hsy : ρ.sym = sy) (j : Nat) (vals : List Value) (hI : kdiv_Inv k0 k1 a b j vals) :
    StepOk kdiv_D kdiv_run E0 ρ (kdiv_Inv k0 k1 a b) kdiv_mu j vals := by
  obtain ⟨rfl, x, y, j0, j1, rfl, hx, hy, hl, hk⟩ := hI
  have hN : kdiv_D.N = 100 := rfl
  have v0 : (ρ.ext kdiv_D.N [.int j0 x, .int j1 y]).val 0 = some (.int k0 a) := by rw [ext_low _ _ _ _ (by rw [hN]; omega)]; exact h0
  have v1 : (ρ.ext kdiv_D.N [.int j0 x, .int j1 y]).val 1 = some (.int k1 b) := by rw [ext_low _ _ _ _ (by rw [hN]; omega)]; exact h1
  have v100 : (ρ.ext kdiv_D.N [.int j0 x, .int j1 y]).val 100 = some (.int j0 x) := by rw [ext_high _ _ _ _ (by rw [hN]; omega)]; rfl
  have v101 : (ρ.ext kdiv_D.N [.int j0 x, .int j1 y]).val 101 = some (.int j1 y) := by rw [ext_high _ _ _ _ (by rw [hN]; omega)]; rfl
  have vs : (ρ.ext kdiv_D.N [.int j0 x, .int j1 y]).sym = sy := hsy
  refine step_of_ways (kdiv0_w _) (F := kdiv0_F) ?_ (AsksL.ok ?_) ?_
  · simp only [kdiv0_F, FactsIn]
  · simp only [kdiv0_t, qb14, qb13, qb12, qb11, qb10, qb9, qb8, qb7, qb6, qb5, qb4, qb3, qb2, qb1, qb0, kdiv0_F, AsksL, GTree.asks, FTree.asks, FactsIn, List.append_nil, List.nil_append, List.cons_append, Option.some.injEq, exists_eq', implies_true, and_self, X.bool, X.den, denL, dX, denSub, denIte, asB, dY, v0, v1, v100, v101, vs, sym50, sym52, sym55]
  · simp only [kdiv0_l, qb14, qb13, qb12, qb11, qb10, qb9, qb8, qb7, qb6, qb5, qb4, qb3, qb2, qb1, qb0, EndsOk, WaysOk, forall_cons, forall_nil, TgtOk, gpair, FactsIn, hold_cons, hold_nil, Option.some.injEq, dZ, X.bool, X.den, denL, dX, denSub, denIte, asB, dY, v0, v1, v100, v101, vs, h0, h1, hsy, sym50, sym52, sym55, beq_iff_eq, beq_eq_false_iff_ne, ne_eq]
    refine ⟨fun e => ?_, fun e => ⟨[.int j1 y, .int .i64 (x.tmod y)], ⟨?_, ?_⟩, ⟨rfl, y, x.tmod y, j1, .i64, rfl, hy, wide_tmod hy e, by rw [← lastI_step _ _ e]; exact hl, by rw [lastK_step j0 j1 x y e]; exact hk⟩, ?_⟩⟩
    · subst e
      rw [lastI_zero] at hl
      simp only [lastK, if_true] at hk
      exact ⟨hk.symm, hl.symm⟩
    · rw [ext_high _ _ _ _ (by rw [hN]; omega)]; rfl
    · rw [ext_high _ _ _ _ (by rw [hN]; omega)]; rfl
    · exact tmod_lt x y e
noncomputable def kdiv_con : Con := { f := 119, args := [.one (.int .i64 0), .one (.int .i64 1)], N := 0, M := 0, pre := [(.app 55 [.var 0], true), (.app 55 [.var 1], true)], out := .sint .i64 (.app 50 [.var 0, .var 1]), news := [] }
noncomputable def kdiv_call : Env → CallL := fun E => acallAll E (evH E (noL E) ((fun E => oneH 119 (hooks [(1, kdiv_D.hook E.facts div_vs)])) E) 4)
noncomputable def kdiv_t : GTree := (.leaf [[]])
noncomputable def kdiv_l : List (List (X × Bool) × Option Pairs) := [([(.app 55 [.var 0], true), (.app 55 [.var 1], true)], some [(qb14, .ite (.op2 .lt (.app 52 [.var 0, .var 1]) (.op1 (.wrap .i64) (.op2 .sub (.num 0) (.app 52 [.var 0, .var 1])))) (.op1 (.kind .i64) (.op1 (.wrap .i64) (.op2 .sub (.num 0) (.app 52 [.var 0, .var 1])))) (.op1 (.kind .i64) (.app 52 [.var 0, .var 1])))])]
theorem kdiv_w (r : Rho) : kdiv_con.fn.ways kdiv_call E0 r kdiv_con.pre kdiv_t = some kdiv_l := by kernel_rfl
theorem kdiv_H {r : Rho} {a b : Int} {k0 k1 : IntKind} (h0 : r.val 0 = some (.int k0 a)) (h1 : r.val 1 = some (.int k1 b)) (ha : wideB a = true) (hb : wideB b = true) (hsy : r.sym = sy) (F : List (X × Bool)) :
    LoopsOk (E0.with F r) (oneH 119 (hooks [(1, kdiv_D.hook (E0.with F r).facts div_vs)])) := by
  refine loops_all (n := 1) (fun f fn h => h) (by kernel_rfl) fun i hi => ?_
  obtain rfl : i = 0 := by omega
  rw [hooks_hit (show keyOf (loopAt (E0.with F r).P 119 0) = 1 by kernel_rfl)]
  refine hook_ok (E₀ := E0) (run := kdiv_run) (ρ := r) (Inv := kdiv_Inv k0 k1 a b) (μ := kdiv_mu) E0_ok kdiv_ok (fun F r' h => ?_) (fun _ => ⟨kdiv_step h0 h1 hsy, [.int k0 a, .int k1 b], ?_, rfl, a, b, k0, k1, rfl, ha, hb, rfl, rfl⟩)
  · exact bodyRun_ok E0_ok (noL_ok F (h.trans hsy)) fun _ _ => noLoop_ok
  · simp only [div_vs, X.bool, X.den, denL, dX, denSub, denIte, asB, dY, h0, h1]
theorem kdiv_cok : kdiv_con.Ok Tryz.prog sy := by
  intro r σ w us hsy hρ hpre hrel hins
  obtain ⟨u0, us, rfl, g0, hins⟩ := ins_cons hins
  obtain ⟨u1, us, rfl, g1, hins⟩ := ins_cons hins
  obtain ⟨a, k0, rfl, h0⟩ := one_int g0
  obtain ⟨b, k1, rfl, h1⟩ := one_int g1
  rw [hρ] at h0 h1
  have hw := hpre
  simp only [kdiv_con, FactsIn, X.bool, X.den, denL, dX, denSub, denIte, asB, dY, h0, h1, hsy, sym55, Option.some.injEq, Value.bool.injEq, and_true] at hw
  obtain ⟨ha, hb⟩ := hw
  refine con_of (E := E0) E0_ok E0_glob (sy := sy) (fun F => noL_ok F hsy) (fun F => kdiv_H h0 h1 ha hb hsy F) (kdiv_w r) hρ hpre hrel hins ?_ ?_
  · simp only [kdiv_con, kdiv_t, qb14, qb13, qb12, qb11, qb10, qb9, qb8, qb7, qb6, qb5, qb4, qb3, qb2, qb1, qb0, AsksL, GTree.asks, FTree.asks, FactsIn, List.append_nil, List.nil_append, List.cons_append, Option.some.injEq, exists_eq', implies_true, and_self, X.bool, X.den, denL, dX, denSub, denIte, asB, dY, h0, h1, hsy, sym50, sym52, sym55]
  · simp only [kdiv_l, qb14, qb13, qb12, qb11, qb10, qb9, qb8, qb7, qb6, qb5, qb4, qb3, qb2, qb1, qb0, EndsOk, WaysOk, forall_cons, forall_nil, TgtOk, gpair, FactsIn, hold_cons, hold_nil, Option.some.injEq, dZ, X.bool, X.den, denL, dX, denSub, denIte, asB, dY, h0, h1, hsy, sym50, sym52, sym55]
    have hg := last_gcd a b
    have hn := last_wide ha hb
    have hwr : IntKind.i64.wrap (0 - lastI a b) = - lastI a b := by rw [IntWalk.i64_in _ (by rw [wide_iff] at hn; omega)]; omega
    intros
    have e : gcdI a b = if lastI a b < - lastI a b then - lastI a b else lastI a b := by split <;> omega
    rw [hwr]
    by_cases hlt : lastI a b < - lastI a b
    · rw [if_pos hlt] at e
      simp [hlt, e]
    · rw [if_neg hlt] at e
      simp [hlt, e]
noncomputable def K2 : Env → CallE := libs [cLib kwithin_con, cLib kdiv_con]
theorem K2_ok (F : List (X × Bool)) {r : Rho} (h : r.sym = sy) : CallsOk (E0.with F r) (K2 (E0.with F r)) := libs_ok fun c hc => by
  simp only [List.mem_cons, List.not_mem_nil, or_false] at hc
  rcases hc with rfl | rfl
  · exact lib_ok (E := E0) kwithin_cok F h
  · exact lib_ok (E := E0) kdiv_cok F h
noncomputable def kLow_con : Con := { f := 126, args := [.one (.int .i64 0), .one (.int .i64 1)], N := 0, M := 0, pre := [(.app 58 [.var 0, .var 1], true)], out := .agg [.sint .i64 (.app 53 [.var 0, .var 1]), .sint .i64 (.app 54 [.var 0, .var 1])], news := [] }
noncomputable def kLow_call : Env → CallL := fun E => acallAll E (evH E (K2 E) ((fun _ => noLoops) E) 4)
noncomputable def kLow_t : GTree := (.fork (.app 55 [.var 0]) (.fork (.app 55 [.var 1]) (.fork (.op2 .eq qb14 (.num 0)) .bad (.leaf [[]])) .bad) .bad)
noncomputable def kLow_l : List (List (X × Bool) × Option Pairs) := [([(.op2 .eq qb14 (.num 0), true), (.app 55 [.var 1], true), (.app 55 [.var 0], true), (qb8, true)], none),
  ([(.op2 .eq qb14 (.num 0), false), (.app 55 [.var 1], true), (.app 55 [.var 0], true), (qb8, true)], some [(.app 53 [.var 0, .var 1], .op1 (.wrap .i64) (.op2 .div (.var 0) qb14)), (.app 54 [.var 0, .var 1], .op1 (.wrap .i64) (.op2 .div (.var 1) qb14))]),
  ([(.app 55 [.var 1], false), (.app 55 [.var 0], true), (qb8, true)], none),
  ([(.app 55 [.var 0], false), (qb8, true)], none)]
theorem kLow_w (r : Rho) : kLow_con.fn.ways kLow_call E0 r kLow_con.pre kLow_t = some kLow_l := by kernel_rfl
theorem kLow_cok : kLow_con.Ok Tryz.prog sy := by
  intro r σ w us hsy hρ hpre hrel hins
  obtain ⟨u0, us, rfl, g0, hins⟩ := ins_cons hins
  obtain ⟨u1, us, rfl, g1, hins⟩ := ins_cons hins
  obtain ⟨n, k0, rfl, h0⟩ := one_int g0
  obtain ⟨d, k1, rfl, h1⟩ := one_int g1
  rw [hρ] at h0 h1
  have hw := hpre
  simp only [kLow_con, FactsIn, X.bool, X.den, denL, dX, denSub, denIte, asB, dY, h0, h1, hsy, sym58, Option.some.injEq, Value.bool.injEq, and_true, can_iff] at hw
  obtain ⟨hn, hd, hp⟩ := hw
  have e1 := wrap_lowN d hn
  have e2 := wrap_lowD n hd
  have e3 := gcd_ne (n := n) hp
  refine con_of (E := E0) E0_ok E0_glob (sy := sy) (fun F => K2_ok F hsy) (fun F => noH_ok) (kLow_w r) hρ hpre hrel hins ?_ ?_
  · simp only [kLow_con, kLow_t, qb14, qb13, qb12, qb11, qb10, qb9, qb8, qb7, qb6, qb5, qb4, qb3, qb2, qb1, qb0, AsksL, GTree.asks, FTree.asks, FactsIn, List.append_nil, List.nil_append, List.cons_append, Option.some.injEq, exists_eq', implies_true, and_self, X.bool, X.den, denL, dX, denSub, denIte, asB, dY, h0, h1, hsy, sym10, sym50, sym53, sym54, sym55, sym58, sym59, e1, e2, hn, hd, e3]
  · simp only [kLow_l, qb14, qb13, qb12, qb11, qb10, qb9, qb8, qb7, qb6, qb5, qb4, qb3, qb2, qb1, qb0, EndsOk, WaysOk, forall_cons, forall_nil, TgtOk, gpair, FactsIn, hold_cons, hold_nil, Option.some.injEq, dZ, X.bool, X.den, denL, dX, denSub, denIte, asB, dY, beq_iff_eq, beq_eq_false_iff_ne, ne_eq, h0, h1, hsy, sym10, sym50, sym53, sym54, sym55, sym58, sym59, e1, e2, hn, hd, e3]
    simp_all
noncomputable def K3 : Env → CallE := libs [cLib kwithin_con, cLib kdiv_con, cLib kLow_con]
theorem K3_ok (F : List (X × Bool)) {r : Rho} (h : r.sym = sy) : CallsOk (E0.with F r) (K3 (E0.with F r)) := libs_ok fun c hc => by
  simp only [List.mem_cons, List.not_mem_nil, or_false] at hc
  rcases hc with rfl | rfl | rfl
  · exact lib_ok (E := E0) kwithin_cok F h
  · exact lib_ok (E := E0) kdiv_cok F h
  · exact lib_ok (E := E0) kLow_cok F h
noncomputable def kNorm_con : Con := { f := 110, args := [.one (.int .i64 0), .one (.int .i64 1)], N := 0, M := 0, pre := [], out := .tuple [.agg [.sint .i64 (.app 70 [.var 0, .var 1]), .sint .i64 (.app 71 [.var 0, .var 1])], .sint .i64 (.app 72 [.var 0, .var 1])], news := [] }
noncomputable def kNorm_call : Env → CallL := fun E => acallAll E (evH E (K3 E) ((fun _ => noLoops) E) 20)
noncomputable def kNorm_t : GTree := (.fork qb7 (.leaf [[]]) (.fork qb0 (.fork qb1 (.fork qb9 (.fork (.app 58 [qb2, qb3]) (.fork qb12 (.fork qb13 (.leaf [[]]) (.leaf [[]])) (.leaf [[]])) .bad) (.fork qb8 (.fork qb10 (.fork qb11 (.leaf [[]]) (.leaf [[]])) (.leaf [[]])) .bad)) (.leaf [[]])) (.leaf [[]])))
noncomputable def kNorm_l : List (List (X × Bool) × Option Pairs) := [([(qb7, true)], some [(qb5, .num 0), (qb6, .num 0), (qb4, .num 1)]),
  ([(qb13, true), (qb12, true), (.app 58 [qb2, qb3], true), (qb9, true), (qb1, true), (qb0, true), (qb7, false)], some [(qb5, .app 53 [qb2, qb3]), (qb6, .app 54 [qb2, qb3]), (qb4, .num 0)]),
  ([(qb13, false), (qb12, true), (.app 58 [qb2, qb3], true), (qb9, true), (qb1, true), (qb0, true), (qb7, false)], some [(qb5, .num 0), (qb6, .num 0), (qb4, .num 2)]),
  ([(qb12, false), (.app 58 [qb2, qb3], true), (qb9, true), (qb1, true), (qb0, true), (qb7, false)], some [(qb5, .num 0), (qb6, .num 0), (qb4, .num 2)]),
  ([(.app 58 [qb2, qb3], false), (qb9, true), (qb1, true), (qb0, true), (qb7, false)], none),
  ([(qb11, true), (qb10, true), (qb8, true), (qb9, false), (qb1, true), (qb0, true), (qb7, false)], some [(qb5, .app 53 [.var 0, .var 1]), (qb6, .app 54 [.var 0, .var 1]), (qb4, .num 0)]),
  ([(qb11, false), (qb10, true), (qb8, true), (qb9, false), (qb1, true), (qb0, true), (qb7, false)], some [(qb5, .num 0), (qb6, .num 0), (qb4, .num 2)]),
  ([(qb10, false), (qb8, true), (qb9, false), (qb1, true), (qb0, true), (qb7, false)], some [(qb5, .num 0), (qb6, .num 0), (qb4, .num 2)]),
  ([(qb8, false), (qb9, false), (qb1, true), (qb0, true), (qb7, false)], none),
  ([(qb1, false), (qb0, true), (qb7, false)], some [(qb5, .num 0), (qb6, .num 0), (qb4, .num 1)]),
  ([(qb0, false), (qb7, false)], some [(qb5, .num 0), (qb6, .num 0), (qb4, .num 1)])]
theorem kNorm_w (r : Rho) : kNorm_con.fn.ways kNorm_call E0 r kNorm_con.pre kNorm_t = some kNorm_l := by kernel_rfl
theorem kNorm_cok : kNorm_con.Ok Tryz.prog sy := by
  intro r σ w us hsy hρ hpre hrel hins
  obtain ⟨u0, us, rfl, g0, hins⟩ := ins_cons hins
  obtain ⟨u1, us, rfl, g1, hins⟩ := ins_cons hins
  obtain ⟨n, k0, rfl, h0⟩ := one_int g0
  obtain ⟨d, k1, rfl, h1⟩ := one_int g1
  rw [hρ] at h0 h1
  refine con_of (E := E0) E0_ok E0_glob (sy := sy) (fun F => K3_ok F hsy) (fun F => noH_ok) (kNorm_w r) hρ hpre hrel hins ?_ ?_
  · simp only [kNorm_con, kNorm_t, qb14, qb13, qb12, qb11, qb10, qb9, qb8, qb7, qb6, qb5, qb4, qb3, qb2, qb1, qb0, AsksL, GTree.asks, FTree.asks, FactsIn, List.append_nil, List.nil_append, List.cons_append, Option.some.injEq, exists_eq', implies_true, and_self, X.bool, X.den, denL, dX, denSub, denIte, asB, dY, h0, h1, hsy, sym10, sym50, sym53, sym54, sym55, sym58, sym59, sym70, sym71, sym72]
  · simp only [kNorm_l, qb14, qb13, qb12, qb11, qb10, qb9, qb8, qb7, qb6, qb5, qb4, qb3, qb2, qb1, qb0, EndsOk, WaysOk, forall_cons, forall_nil, TgtOk, gpair, FactsIn, hold_cons, hold_nil, Option.some.injEq, dZ, X.bool, X.den, denL, dX, denSub, denIte, asB, dY, beq_iff_eq, beq_eq_false_iff_ne, ne_eq, h0, h1, hsy, sym10, sym50, sym53, sym54, sym55, sym58, sym59, sym70, sym71, sym72]
    clear hsy hρ hpre hrel hins g0 g1 h0 h1
    cases hb : numB n d with
    | false =>
      have hr : normR n d = (0, 0, 1) := by unfold normR; rw [hb]; rfl
      simp only [hr]
      simp only [numB, Bool.and_eq_false_iff, Bool.not_eq_false', beq_iff_eq] at hb
      (repeat' apply And.intro) <;> intros <;> first
        | trivial
        | (exfalso; simp_all; done)
        | (simp_all; done)
    | true =>
      have hb' := hb
      simp only [numB, withinB, Bool.and_eq_true, Bool.not_eq_true', beq_eq_false_iff_ne, ne_eq, decide_eq_true_eq] at hb'
      obtain ⟨h0, ⟨h1, h2⟩, h3, h4⟩ := hb'
      have wn : wideB n = true := (wide_iff n).2 (by omega)
      have wd : wideB d = true := (wide_iff d).2 (by omega)
      have i1 : withinB n (-1000000000000000) 1000000000000000 = true := by simp [withinB, h1, h2]
      have i2 : withinB d (-1000000000000000) 1000000000000000 = true := by simp [withinB, h3, h4]
      have e1 := wrap_neg wn
      have e2 := wrap_neg wd
      by_cases hd : d < 0
      · have hc : canB (-n) (-d) = true := (can_iff _ _).2 ⟨(wide_iff _).2 (by omega), (wide_iff _).2 (by omega), by omega⟩
        have hv := valid_low (n := -n) (d := -d) (by omega)
        have hr : normR n d = lowR (-n) (-d) := by unfold normR; rw [if_pos hb, if_pos hd]
        unfold lowB at hv
        simp only [e1, e2, hr, lowR, lowB, i1, i2, hd, h0, hc]
        cases q1 : withinB (lowD (-n) (-d)) 1 1000000 <;> cases q2 : withinB (lowN (-n) (-d)) (-1000000000000) 1000000000000 <;> simp_all
      · have hc : canB n d = true := (can_iff _ _).2 ⟨wn, wd, by omega⟩
        have hv := valid_low (n := n) (d := d) (by omega)
        have hr : normR n d = lowR n d := by unfold normR; rw [if_pos hb, if_neg hd]
        unfold lowB at hv
        simp only [e1, e2, hr, lowR, lowB, i1, i2, hd, h0, hc]
        cases q1 : withinB (lowD n d) 1 1000000 <;> cases q2 : withinB (lowN n d) (-1000000000000) 1000000000000 <;> simp_all
noncomputable def K4 : Env → CallE := libs [cLib cwithin_con, cLib kNorm_con]
theorem K4_ok (F : List (X × Bool)) {r : Rho} (h : r.sym = sy) : CallsOk (E0.with F r) (K4 (E0.with F r)) := libs_ok fun c hc => by
  simp only [List.mem_cons, List.not_mem_nil, or_false] at hc
  rcases hc with rfl | rfl
  · exact lib_ok (E := E0) cwithin_cok F h
  · exact lib_ok (E := E0) kNorm_cok F h
noncomputable def pPart_con : Con := { f := 85, args := [.agg [.int .i64 0, .int .i64 1]], N := 0, M := 0, pre := [], out := .sbool (.app 132 [.var 0, .var 1]), news := [] }
noncomputable def pPart_call : Env → CallL := fun E => acallAll E (evH E (K4 E) ((fun _ => noLoops) E) 6)
noncomputable def pPart_t : GTree := (.fork (.op2 .eq qb4 (.num 0)) (.fork (.op2 .eq (.var 0) qb5) (.fork (.op2 .eq (.var 1) qb6) (.leaf [[]]) (.leaf [[]])) (.leaf [[]])) (.leaf [[]]))
noncomputable def pPart_l : List (List (X × Bool) × Option Pairs) := [([(.op2 .eq (.var 1) qb6, true), (.op2 .eq (.var 0) qb5, true), (.op2 .eq qb4 (.num 0), true)], some [(.app 132 [.var 0, .var 1], .app 10 [.var 0, .num 0, .var 1])]),
  ([(.op2 .eq (.var 1) qb6, false), (.op2 .eq (.var 0) qb5, true), (.op2 .eq qb4 (.num 0), true)], some [(.app 132 [.var 0, .var 1], .boo false)]),
  ([(.op2 .eq (.var 0) qb5, false), (.op2 .eq qb4 (.num 0), true)], some [(.app 132 [.var 0, .var 1], .boo false)]),
  ([(.op2 .eq qb4 (.num 0), false)], some [(.app 132 [.var 0, .var 1], .boo false)])]
theorem pPart_w (r : Rho) : pPart_con.fn.ways pPart_call E0 r pPart_con.pre pPart_t = some pPart_l := by kernel_rfl
theorem pPart_cok : pPart_con.Ok Tryz.prog sy := by
  intro r σ w us hsy hρ hpre hrel hins
  obtain ⟨u0, us, rfl, g0, hins⟩ := ins_cons hins
  obtain ⟨p, kp, rfl, hpp⟩ := fra_agg g0
  rw [hρ] at hpp
  have a0 := hpp.h0
  have a1 := hpp.h1
  simp only [Nat.zero_add, Nat.reduceAdd] at a0 a1
  refine con_of (E := E0) E0_ok E0_glob (sy := sy) (fun F => K4_ok F hsy) (fun F => noH_ok) (pPart_w r) hρ hpre hrel hins ?_ ?_
  · simp only [pPart_con, pPart_t, qb14, qb13, qb12, qb11, qb10, qb9, qb8, qb7, qb6, qb5, qb4, qb3, qb2, qb1, qb0, AsksL, GTree.asks, FTree.asks, FactsIn, List.append_nil, List.nil_append, List.cons_append, Option.some.injEq, exists_eq', implies_true, and_self, X.bool, X.den, denL, dX, denSub, denIte, asB, dY, a0, a1, hsy, sym10, sym70, sym71, sym72, sym132]
  · simp only [pPart_l, qb14, qb13, qb12, qb11, qb10, qb9, qb8, qb7, qb6, qb5, qb4, qb3, qb2, qb1, qb0, EndsOk, WaysOk, forall_cons, forall_nil, TgtOk, gpair, FactsIn, hold_cons, hold_nil, Option.some.injEq, dZ, X.bool, X.den, denL, dX, denSub, denIte, asB, dY, beq_iff_eq, beq_eq_false_iff_ne, ne_eq, a0, a1, hsy, sym10, sym70, sym71, sym72, sym132]
    clear hsy hρ hpre hrel hins g0 hpp a0 a1
    obtain ⟨a, b⟩ := p
    simp only [partB]
    generalize normR a b = q
    obtain ⟨x, y, z⟩ := q
    simp only [Prod.mk.injEq]
    (repeat' apply And.intro) <;> intros <;> first
      | trivial
      | (simp_all; done)
      | (symm; simp_all; done)
      | (simp_all; omega)
end Go.Proofs.YtcmbkcebbgigcaaGreatDoor.Zs
