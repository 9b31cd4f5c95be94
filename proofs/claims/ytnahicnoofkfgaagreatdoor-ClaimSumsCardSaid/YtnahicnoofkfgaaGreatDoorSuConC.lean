/-
  Contracts of Mul, of the package and of the reference, and of Sub of the reference.
-/
import Derived.Test.YtnahicnoofkfgaaGreatDoorSuConB
import Derived.KernelRfl
set_option linter.unusedSimpArgs false
set_option linter.unusedVariables false
namespace Go.Proofs.YtnahicnoofkfgaaGreatDoor.Zs
open Go
set_option linter.unusedSimpArgs false
set_option linter.unusedVariables false

noncomputable def R4 : Env → CallE := libs [cLib rwithin_con, cLib rdiv_con, cLib rValid_con, cLib rLow_con, cLib rAdd_con]
theorem R4_ok (F : List (X × Bool)) {r : Rho} (h : r.sym = sy) : CallsOk (E0.with F r) (R4 (E0.with F r)) := libs_ok fun c hc => by
  simp only [List.mem_cons, List.not_mem_nil, or_false] at hc
  rcases hc with rfl | rfl | rfl | rfl | rfl
  · exact lib_ok (E := E0) rwithin_cok F h
  · exact lib_ok (E := E0) rdiv_cok F h
  · exact lib_ok (E := E0) rValid_cok F h
  · exact lib_ok (E := E0) rLow_cok F h
  · exact lib_ok (E := E0) rAdd_cok F h

theorem d_ite (b : Bool) (x y : Value) : denIte (some (.bool b)) (some x) (some y) = some (bif b then x else y) := by cases b <;> rfl
theorem bif_int (b : Bool) (k : IntKind) (m n : Int) : (bif b then Value.int k m else Value.int k n) = Value.int k (bif b then m else n) := by cases b <;> rfl

noncomputable def rSub_con : Con := { f := 25, args := [.agg (fracLeaves 0), .agg (fracLeaves 2)], N := 0, M := 0, pre := [(.app 56 [.var 2], true)], out := .tuple [.agg [.sint .i64 (.app 76 [.var 0, .var 1, .var 2, .var 3]), .sint .i64 (.app 77 [.var 0, .var 1, .var 2, .var 3])], .sint .i64 (.app 78 [.var 0, .var 1, .var 2, .var 3])], news := [] }
noncomputable def rSub_call : Env → CallL := fun E => acallAll E (evH E (R4 E) ((fun _ => noLoops) E) 8)
noncomputable def rSub_t : GTree := (.leaf [[]])
noncomputable def rSub_l : List (List (X × Bool) × Option Pairs) := [([((.app 56 [(.var 2)]), true)], some [((.app 76 [(.var 0), (.var 1), (.var 2), (.var 3)]), (.app 73 [(.var 0), (.var 1), (.op1 (.wrap .i64) (.op2 .sub (.num 0) (.var 2))), (.var 3)])), ((.app 77 [(.var 0), (.var 1), (.var 2), (.var 3)]), (.app 74 [(.var 0), (.var 1), (.op1 (.wrap .i64) (.op2 .sub (.num 0) (.var 2))), (.var 3)])), ((.app 78 [(.var 0), (.var 1), (.var 2), (.var 3)]), (.app 75 [(.var 0), (.var 1), (.op1 (.wrap .i64) (.op2 .sub (.num 0) (.var 2))), (.var 3)]))])]
theorem rSub_w (r : Rho) : rSub_con.fn.ways rSub_call E0 r rSub_con.pre rSub_t = some rSub_l := by kernel_rfl
theorem rSub_cok : rSub_con.Ok Tryz.prog sy := by
  intro r σ w us hsy hρ hpre hrel hins
  obtain ⟨u0, us, rfl, g0, hins⟩ := ins_cons hins
  obtain ⟨u1, us, rfl, g1, hins⟩ := ins_cons hins
  obtain ⟨p, kp, rfl, hpp⟩ := frac_agg g0
  rw [hρ] at hpp
  obtain ⟨q, kq, rfl, hpq⟩ := frac_agg g1
  rw [hρ] at hpq
  have a0 := hpp.h0
  have a1 := hpp.h1
  simp only [Nat.zero_add, Nat.reduceAdd] at a0 a1
  have a2 := hpq.h0
  have a3 := hpq.h1
  simp only [Nat.zero_add, Nat.reduceAdd] at a2 a3
  have hw := hpre
  simp only [rSub_con, FactsIn, X.bool, X.den, denL, d_wrap, d_kind, d_not, d_neg, d_slen, d_add, d_sub, d_mul, d_div, d_mod, d_lt, d_le, d_eq, d_eqb, d_eqs, d_lts, d_cat, d_sat, d_and, d_or, denSub, denIte, asB, fracs_len, fracs_cell, fracs_lsub, deeds_len, deeds_cell, deeds_lsub, a2, hsy, sym56, Option.some.injEq, Value.bool.injEq, and_true] at hw

  refine con_of (E := E0) E0_ok E0_glob (sy := sy) (fun F => R4_ok F hsy) (fun F => noH_ok) (rSub_w r) hρ hpre hrel hins ?_ ?_
  · simp only [rSub_con, rSub_t, AsksL, GTree.asks, FTree.asks, FactsIn, List.append_nil, List.nil_append, List.cons_append, Option.some.injEq, exists_eq', implies_true, and_self, X.bool, X.den, denL, d_wrap, d_kind, d_not, d_neg, d_slen, d_add, d_sub, d_mul, d_div, d_mod, d_lt, d_le, d_eq, d_eqb, d_eqs, d_lts, d_cat, d_sat, d_and, d_or, denSub, d_ite, bif_int, asB, fracs_len, fracs_cell, fracs_lsub, deeds_len, deeds_cell, deeds_lsub, a0, a1, a2, a3, hsy, sym10, sym50, sym51, sym53, sym54, sym55, sym56, sym57, sym58, sym59, sym70, sym71, sym72, sym73, sym74, sym75, sym76, sym77, sym78, sym79, sym80, sym81, sym82, sym83, sym84]
  · simp only [rSub_l, EndsOk, WaysOk, forall_cons, forall_nil, TgtOk, gpair, FactsIn, hold_cons, hold_nil, Option.some.injEq, Value.bool.injEq, Value.int.injEq, decide_eq_true_eq, decide_eq_false_iff_not, and_true, true_and, and_imp, X.bool, X.den, denL, d_wrap, d_kind, d_not, d_neg, d_slen, d_add, d_sub, d_mul, d_div, d_mod, d_lt, d_le, d_eq, d_eqb, d_eqs, d_lts, d_cat, d_sat, d_and, d_or, denSub, d_ite, bif_int, asB, fracs_len, fracs_cell, fracs_lsub, deeds_len, deeds_cell, deeds_lsub, beq_iff_eq, beq_eq_false_iff_ne, ne_eq, a0, a1, a2, a3, hsy, sym10, sym50, sym51, sym53, sym54, sym55, sym56, sym57, sym58, sym59, sym70, sym71, sym72, sym73, sym74, sym75, sym76, sym77, sym78, sym79, sym80, sym81, sym82, sym83, sym84]
    clear hsy hρ hpre hrel hins g0 g1 hpp hpq a0 a1 a2 a3
    obtain ⟨a, b⟩ := p
    obtain ⟨c, d⟩ := q
    simp only at *
    have key : addR a b (IntKind.i64.wrap (0 - c)) d = subR a b c d := by
      rw [word_iff] at hw
      by_cases hc : c = -9223372036854775808
      · subst hc
        have e : IntKind.i64.wrap (0 - (-9223372036854775808)) = -9223372036854775808 := by decide
        rw [e]
        have v1 : validB (-9223372036854775808) d = false := by simp [validB, withinB]
        have v2 : validB 9223372036854775808 d = false := by simp [validB, withinB]
        simp [subR, addR, v1, v2]
      · rw [IntWalk.i64_in _ (by omega)]
        unfold subR
        rw [show (0 : Int) - c = -c by omega]
    simp only [key]
    (repeat' apply And.intro) <;> intros <;> trivial
noncomputable def rMul_con : Con := { f := 27, args := [.agg (fracLeaves 0), .agg (fracLeaves 2)], N := 0, M := 0, pre := [], out := .tuple [.agg [.sint .i64 (.app 79 [.var 0, .var 1, .var 2, .var 3]), .sint .i64 (.app 80 [.var 0, .var 1, .var 2, .var 3])], .sint .i64 (.app 81 [.var 0, .var 1, .var 2, .var 3])], news := [] }
noncomputable def rMul_call : Env → CallL := fun E => acallAll E (evH E (R3 E) ((fun _ => noLoops) E) 8)
noncomputable def rMul_t : GTree := (.fork (.app 51 [(.var 0), (.var 1)]) (.fork (.app 51 [(.var 2), (.var 3)]) (.fork (.app 55 [(.var 0)]) (.fork (.app 55 [(.var 3)]) (.fork (.app 55 [(.var 2)]) (.fork (.app 55 [(.var 1)]) (.fork (.op2 .eq (.app 50 [(.var 0), (.var 3)]) (.num 0)) .bad (.fork (.op2 .eq (.app 50 [(.var 2), (.var 1)]) (.num 0)) .bad (.fork (.op2 .eq (.op1 (.wrap .i64) (.op2 .div (.var 0) (.app 50 [(.var 0), (.var 3)]))) (.num 0)) (.fork (.app 58 [(.op1 (.wrap .i64) (.op2 .mul (.op1 (.wrap .i64) (.op2 .div (.var 0) (.app 50 [(.var 0), (.var 3)]))) (.op1 (.wrap .i64) (.op2 .div (.var 2) (.app 50 [(.var 2), (.var 1)]))))), (.op1 (.wrap .i64) (.op2 .mul (.op1 (.wrap .i64) (.op2 .div (.var 1) (.app 50 [(.var 2), (.var 1)]))) (.op1 (.wrap .i64) (.op2 .div (.var 3) (.app 50 [(.var 0), (.var 3)])))))]) (.leaf [[]]) .bad) (.fork (.op2 .eq (.op1 (.wrap .i64) (.op2 .div (.var 2) (.app 50 [(.var 2), (.var 1)]))) (.num 0)) (.fork (.app 58 [(.op1 (.wrap .i64) (.op2 .mul (.op1 (.wrap .i64) (.op2 .div (.var 0) (.app 50 [(.var 0), (.var 3)]))) (.op1 (.wrap .i64) (.op2 .div (.var 2) (.app 50 [(.var 2), (.var 1)]))))), (.op1 (.wrap .i64) (.op2 .mul (.op1 (.wrap .i64) (.op2 .div (.var 1) (.app 50 [(.var 2), (.var 1)]))) (.op1 (.wrap .i64) (.op2 .div (.var 3) (.app 50 [(.var 0), (.var 3)])))))]) (.leaf [[]]) .bad) (.fork (.op2 .eq (.ite (.op2 .lt (.op1 (.wrap .i64) (.op2 .div (.var 2) (.app 50 [(.var 2), (.var 1)]))) (.op1 (.wrap .i64) (.op2 .sub (.num 0) (.op1 (.wrap .i64) (.op2 .div (.var 2) (.app 50 [(.var 2), (.var 1)])))))) (.op1 (.kind .i64) (.op1 (.wrap .i64) (.op2 .sub (.num 0) (.op1 (.wrap .i64) (.op2 .div (.var 2) (.app 50 [(.var 2), (.var 1)])))))) (.op1 (.kind .i64) (.op1 (.wrap .i64) (.op2 .div (.var 2) (.app 50 [(.var 2), (.var 1)]))))) (.num 0)) .bad (.fork (.op2 .lt (.op1 (.wrap .i64) (.op2 .div (.num 1000000000000) (.ite (.op2 .lt (.op1 (.wrap .i64) (.op2 .div (.var 2) (.app 50 [(.var 2), (.var 1)]))) (.op1 (.wrap .i64) (.op2 .sub (.num 0) (.op1 (.wrap .i64) (.op2 .div (.var 2) (.app 50 [(.var 2), (.var 1)])))))) (.op1 (.kind .i64) (.op1 (.wrap .i64) (.op2 .sub (.num 0) (.op1 (.wrap .i64) (.op2 .div (.var 2) (.app 50 [(.var 2), (.var 1)])))))) (.op1 (.kind .i64) (.op1 (.wrap .i64) (.op2 .div (.var 2) (.app 50 [(.var 2), (.var 1)]))))))) (.ite (.op2 .lt (.op1 (.wrap .i64) (.op2 .div (.var 0) (.app 50 [(.var 0), (.var 3)]))) (.op1 (.wrap .i64) (.op2 .sub (.num 0) (.op1 (.wrap .i64) (.op2 .div (.var 0) (.app 50 [(.var 0), (.var 3)])))))) (.op1 (.kind .i64) (.op1 (.wrap .i64) (.op2 .sub (.num 0) (.op1 (.wrap .i64) (.op2 .div (.var 0) (.app 50 [(.var 0), (.var 3)])))))) (.op1 (.kind .i64) (.op1 (.wrap .i64) (.op2 .div (.var 0) (.app 50 [(.var 0), (.var 3)])))))) (.leaf [[]]) (.fork (.app 58 [(.op1 (.wrap .i64) (.op2 .mul (.op1 (.wrap .i64) (.op2 .div (.var 0) (.app 50 [(.var 0), (.var 3)]))) (.op1 (.wrap .i64) (.op2 .div (.var 2) (.app 50 [(.var 2), (.var 1)]))))), (.op1 (.wrap .i64) (.op2 .mul (.op1 (.wrap .i64) (.op2 .div (.var 1) (.app 50 [(.var 2), (.var 1)]))) (.op1 (.wrap .i64) (.op2 .div (.var 3) (.app 50 [(.var 0), (.var 3)])))))]) (.leaf [[]]) .bad))))))) .bad) .bad) .bad) .bad) (.leaf [[]])) (.leaf [[]]))
noncomputable def rMul_l : List (List (X × Bool) × Option Pairs) := [([((.op2 .eq (.app 50 [(.var 0), (.var 3)]) (.num 0)), true), ((.app 55 [(.var 1)]), true), ((.app 55 [(.var 2)]), true), ((.app 55 [(.var 3)]), true), ((.app 55 [(.var 0)]), true), ((.app 51 [(.var 2), (.var 3)]), true), ((.app 51 [(.var 0), (.var 1)]), true)], none),
  ([((.op2 .eq (.app 50 [(.var 2), (.var 1)]) (.num 0)), true), ((.op2 .eq (.app 50 [(.var 0), (.var 3)]) (.num 0)), false), ((.app 55 [(.var 1)]), true), ((.app 55 [(.var 2)]), true), ((.app 55 [(.var 3)]), true), ((.app 55 [(.var 0)]), true), ((.app 51 [(.var 2), (.var 3)]), true), ((.app 51 [(.var 0), (.var 1)]), true)], none),
  ([((.app 58 [(.op1 (.wrap .i64) (.op2 .mul (.op1 (.wrap .i64) (.op2 .div (.var 0) (.app 50 [(.var 0), (.var 3)]))) (.op1 (.wrap .i64) (.op2 .div (.var 2) (.app 50 [(.var 2), (.var 1)]))))), (.op1 (.wrap .i64) (.op2 .mul (.op1 (.wrap .i64) (.op2 .div (.var 1) (.app 50 [(.var 2), (.var 1)]))) (.op1 (.wrap .i64) (.op2 .div (.var 3) (.app 50 [(.var 0), (.var 3)])))))]), true), ((.op2 .eq (.op1 (.wrap .i64) (.op2 .div (.var 0) (.app 50 [(.var 0), (.var 3)]))) (.num 0)), true), ((.op2 .eq (.app 50 [(.var 2), (.var 1)]) (.num 0)), false), ((.op2 .eq (.app 50 [(.var 0), (.var 3)]) (.num 0)), false), ((.app 55 [(.var 1)]), true), ((.app 55 [(.var 2)]), true), ((.app 55 [(.var 3)]), true), ((.app 55 [(.var 0)]), true), ((.app 51 [(.var 2), (.var 3)]), true), ((.app 51 [(.var 0), (.var 1)]), true)], some [((.app 79 [(.var 0), (.var 1), (.var 2), (.var 3)]), (.ite (.app 51 [(.app 53 [(.op1 (.wrap .i64) (.op2 .mul (.op1 (.wrap .i64) (.op2 .div (.var 0) (.app 50 [(.var 0), (.var 3)]))) (.op1 (.wrap .i64) (.op2 .div (.var 2) (.app 50 [(.var 2), (.var 1)]))))), (.op1 (.wrap .i64) (.op2 .mul (.op1 (.wrap .i64) (.op2 .div (.var 1) (.app 50 [(.var 2), (.var 1)]))) (.op1 (.wrap .i64) (.op2 .div (.var 3) (.app 50 [(.var 0), (.var 3)])))))]), (.app 54 [(.op1 (.wrap .i64) (.op2 .mul (.op1 (.wrap .i64) (.op2 .div (.var 0) (.app 50 [(.var 0), (.var 3)]))) (.op1 (.wrap .i64) (.op2 .div (.var 2) (.app 50 [(.var 2), (.var 1)]))))), (.op1 (.wrap .i64) (.op2 .mul (.op1 (.wrap .i64) (.op2 .div (.var 1) (.app 50 [(.var 2), (.var 1)]))) (.op1 (.wrap .i64) (.op2 .div (.var 3) (.app 50 [(.var 0), (.var 3)])))))])]) (.app 53 [(.op1 (.wrap .i64) (.op2 .mul (.op1 (.wrap .i64) (.op2 .div (.var 0) (.app 50 [(.var 0), (.var 3)]))) (.op1 (.wrap .i64) (.op2 .div (.var 2) (.app 50 [(.var 2), (.var 1)]))))), (.op1 (.wrap .i64) (.op2 .mul (.op1 (.wrap .i64) (.op2 .div (.var 1) (.app 50 [(.var 2), (.var 1)]))) (.op1 (.wrap .i64) (.op2 .div (.var 3) (.app 50 [(.var 0), (.var 3)])))))]) (.num 0))), ((.app 80 [(.var 0), (.var 1), (.var 2), (.var 3)]), (.ite (.app 51 [(.app 53 [(.op1 (.wrap .i64) (.op2 .mul (.op1 (.wrap .i64) (.op2 .div (.var 0) (.app 50 [(.var 0), (.var 3)]))) (.op1 (.wrap .i64) (.op2 .div (.var 2) (.app 50 [(.var 2), (.var 1)]))))), (.op1 (.wrap .i64) (.op2 .mul (.op1 (.wrap .i64) (.op2 .div (.var 1) (.app 50 [(.var 2), (.var 1)]))) (.op1 (.wrap .i64) (.op2 .div (.var 3) (.app 50 [(.var 0), (.var 3)])))))]), (.app 54 [(.op1 (.wrap .i64) (.op2 .mul (.op1 (.wrap .i64) (.op2 .div (.var 0) (.app 50 [(.var 0), (.var 3)]))) (.op1 (.wrap .i64) (.op2 .div (.var 2) (.app 50 [(.var 2), (.var 1)]))))), (.op1 (.wrap .i64) (.op2 .mul (.op1 (.wrap .i64) (.op2 .div (.var 1) (.app 50 [(.var 2), (.var 1)]))) (.op1 (.wrap .i64) (.op2 .div (.var 3) (.app 50 [(.var 0), (.var 3)])))))])]) (.app 54 [(.op1 (.wrap .i64) (.op2 .mul (.op1 (.wrap .i64) (.op2 .div (.var 0) (.app 50 [(.var 0), (.var 3)]))) (.op1 (.wrap .i64) (.op2 .div (.var 2) (.app 50 [(.var 2), (.var 1)]))))), (.op1 (.wrap .i64) (.op2 .mul (.op1 (.wrap .i64) (.op2 .div (.var 1) (.app 50 [(.var 2), (.var 1)]))) (.op1 (.wrap .i64) (.op2 .div (.var 3) (.app 50 [(.var 0), (.var 3)])))))]) (.num 0))), ((.app 81 [(.var 0), (.var 1), (.var 2), (.var 3)]), (.ite (.app 51 [(.app 53 [(.op1 (.wrap .i64) (.op2 .mul (.op1 (.wrap .i64) (.op2 .div (.var 0) (.app 50 [(.var 0), (.var 3)]))) (.op1 (.wrap .i64) (.op2 .div (.var 2) (.app 50 [(.var 2), (.var 1)]))))), (.op1 (.wrap .i64) (.op2 .mul (.op1 (.wrap .i64) (.op2 .div (.var 1) (.app 50 [(.var 2), (.var 1)]))) (.op1 (.wrap .i64) (.op2 .div (.var 3) (.app 50 [(.var 0), (.var 3)])))))]), (.app 54 [(.op1 (.wrap .i64) (.op2 .mul (.op1 (.wrap .i64) (.op2 .div (.var 0) (.app 50 [(.var 0), (.var 3)]))) (.op1 (.wrap .i64) (.op2 .div (.var 2) (.app 50 [(.var 2), (.var 1)]))))), (.op1 (.wrap .i64) (.op2 .mul (.op1 (.wrap .i64) (.op2 .div (.var 1) (.app 50 [(.var 2), (.var 1)]))) (.op1 (.wrap .i64) (.op2 .div (.var 3) (.app 50 [(.var 0), (.var 3)])))))])]) (.num 0) (.num 2)))]),
  ([((.app 58 [(.op1 (.wrap .i64) (.op2 .mul (.op1 (.wrap .i64) (.op2 .div (.var 0) (.app 50 [(.var 0), (.var 3)]))) (.op1 (.wrap .i64) (.op2 .div (.var 2) (.app 50 [(.var 2), (.var 1)]))))), (.op1 (.wrap .i64) (.op2 .mul (.op1 (.wrap .i64) (.op2 .div (.var 1) (.app 50 [(.var 2), (.var 1)]))) (.op1 (.wrap .i64) (.op2 .div (.var 3) (.app 50 [(.var 0), (.var 3)])))))]), false), ((.op2 .eq (.op1 (.wrap .i64) (.op2 .div (.var 0) (.app 50 [(.var 0), (.var 3)]))) (.num 0)), true), ((.op2 .eq (.app 50 [(.var 2), (.var 1)]) (.num 0)), false), ((.op2 .eq (.app 50 [(.var 0), (.var 3)]) (.num 0)), false), ((.app 55 [(.var 1)]), true), ((.app 55 [(.var 2)]), true), ((.app 55 [(.var 3)]), true), ((.app 55 [(.var 0)]), true), ((.app 51 [(.var 2), (.var 3)]), true), ((.app 51 [(.var 0), (.var 1)]), true)], none),
  ([((.app 58 [(.op1 (.wrap .i64) (.op2 .mul (.op1 (.wrap .i64) (.op2 .div (.var 0) (.app 50 [(.var 0), (.var 3)]))) (.op1 (.wrap .i64) (.op2 .div (.var 2) (.app 50 [(.var 2), (.var 1)]))))), (.op1 (.wrap .i64) (.op2 .mul (.op1 (.wrap .i64) (.op2 .div (.var 1) (.app 50 [(.var 2), (.var 1)]))) (.op1 (.wrap .i64) (.op2 .div (.var 3) (.app 50 [(.var 0), (.var 3)])))))]), true), ((.op2 .eq (.op1 (.wrap .i64) (.op2 .div (.var 2) (.app 50 [(.var 2), (.var 1)]))) (.num 0)), true), ((.op2 .eq (.op1 (.wrap .i64) (.op2 .div (.var 0) (.app 50 [(.var 0), (.var 3)]))) (.num 0)), false), ((.op2 .eq (.app 50 [(.var 2), (.var 1)]) (.num 0)), false), ((.op2 .eq (.app 50 [(.var 0), (.var 3)]) (.num 0)), false), ((.app 55 [(.var 1)]), true), ((.app 55 [(.var 2)]), true), ((.app 55 [(.var 3)]), true), ((.app 55 [(.var 0)]), true), ((.app 51 [(.var 2), (.var 3)]), true), ((.app 51 [(.var 0), (.var 1)]), true)], some [((.app 79 [(.var 0), (.var 1), (.var 2), (.var 3)]), (.ite (.app 51 [(.app 53 [(.op1 (.wrap .i64) (.op2 .mul (.op1 (.wrap .i64) (.op2 .div (.var 0) (.app 50 [(.var 0), (.var 3)]))) (.op1 (.wrap .i64) (.op2 .div (.var 2) (.app 50 [(.var 2), (.var 1)]))))), (.op1 (.wrap .i64) (.op2 .mul (.op1 (.wrap .i64) (.op2 .div (.var 1) (.app 50 [(.var 2), (.var 1)]))) (.op1 (.wrap .i64) (.op2 .div (.var 3) (.app 50 [(.var 0), (.var 3)])))))]), (.app 54 [(.op1 (.wrap .i64) (.op2 .mul (.op1 (.wrap .i64) (.op2 .div (.var 0) (.app 50 [(.var 0), (.var 3)]))) (.op1 (.wrap .i64) (.op2 .div (.var 2) (.app 50 [(.var 2), (.var 1)]))))), (.op1 (.wrap .i64) (.op2 .mul (.op1 (.wrap .i64) (.op2 .div (.var 1) (.app 50 [(.var 2), (.var 1)]))) (.op1 (.wrap .i64) (.op2 .div (.var 3) (.app 50 [(.var 0), (.var 3)])))))])]) (.app 53 [(.op1 (.wrap .i64) (.op2 .mul (.op1 (.wrap .i64) (.op2 .div (.var 0) (.app 50 [(.var 0), (.var 3)]))) (.op1 (.wrap .i64) (.op2 .div (.var 2) (.app 50 [(.var 2), (.var 1)]))))), (.op1 (.wrap .i64) (.op2 .mul (.op1 (.wrap .i64) (.op2 .div (.var 1) (.app 50 [(.var 2), (.var 1)]))) (.op1 (.wrap .i64) (.op2 .div (.var 3) (.app 50 [(.var 0), (.var 3)])))))]) (.num 0))), ((.app 80 [(.var 0), (.var 1), (.var 2), (.var 3)]), (.ite (.app 51 [(.app 53 [(.op1 (.wrap .i64) (.op2 .mul (.op1 (.wrap .i64) (.op2 .div (.var 0) (.app 50 [(.var 0), (.var 3)]))) (.op1 (.wrap .i64) (.op2 .div (.var 2) (.app 50 [(.var 2), (.var 1)]))))), (.op1 (.wrap .i64) (.op2 .mul (.op1 (.wrap .i64) (.op2 .div (.var 1) (.app 50 [(.var 2), (.var 1)]))) (.op1 (.wrap .i64) (.op2 .div (.var 3) (.app 50 [(.var 0), (.var 3)])))))]), (.app 54 [(.op1 (.wrap .i64) (.op2 .mul (.op1 (.wrap .i64) (.op2 .div (.var 0) (.app 50 [(.var 0), (.var 3)]))) (.op1 (.wrap .i64) (.op2 .div (.var 2) (.app 50 [(.var 2), (.var 1)]))))), (.op1 (.wrap .i64) (.op2 .mul (.op1 (.wrap .i64) (.op2 .div (.var 1) (.app 50 [(.var 2), (.var 1)]))) (.op1 (.wrap .i64) (.op2 .div (.var 3) (.app 50 [(.var 0), (.var 3)])))))])]) (.app 54 [(.op1 (.wrap .i64) (.op2 .mul (.op1 (.wrap .i64) (.op2 .div (.var 0) (.app 50 [(.var 0), (.var 3)]))) (.op1 (.wrap .i64) (.op2 .div (.var 2) (.app 50 [(.var 2), (.var 1)]))))), (.op1 (.wrap .i64) (.op2 .mul (.op1 (.wrap .i64) (.op2 .div (.var 1) (.app 50 [(.var 2), (.var 1)]))) (.op1 (.wrap .i64) (.op2 .div (.var 3) (.app 50 [(.var 0), (.var 3)])))))]) (.num 0))), ((.app 81 [(.var 0), (.var 1), (.var 2), (.var 3)]), (.ite (.app 51 [(.app 53 [(.op1 (.wrap .i64) (.op2 .mul (.op1 (.wrap .i64) (.op2 .div (.var 0) (.app 50 [(.var 0), (.var 3)]))) (.op1 (.wrap .i64) (.op2 .div (.var 2) (.app 50 [(.var 2), (.var 1)]))))), (.op1 (.wrap .i64) (.op2 .mul (.op1 (.wrap .i64) (.op2 .div (.var 1) (.app 50 [(.var 2), (.var 1)]))) (.op1 (.wrap .i64) (.op2 .div (.var 3) (.app 50 [(.var 0), (.var 3)])))))]), (.app 54 [(.op1 (.wrap .i64) (.op2 .mul (.op1 (.wrap .i64) (.op2 .div (.var 0) (.app 50 [(.var 0), (.var 3)]))) (.op1 (.wrap .i64) (.op2 .div (.var 2) (.app 50 [(.var 2), (.var 1)]))))), (.op1 (.wrap .i64) (.op2 .mul (.op1 (.wrap .i64) (.op2 .div (.var 1) (.app 50 [(.var 2), (.var 1)]))) (.op1 (.wrap .i64) (.op2 .div (.var 3) (.app 50 [(.var 0), (.var 3)])))))])]) (.num 0) (.num 2)))]),
  ([((.app 58 [(.op1 (.wrap .i64) (.op2 .mul (.op1 (.wrap .i64) (.op2 .div (.var 0) (.app 50 [(.var 0), (.var 3)]))) (.op1 (.wrap .i64) (.op2 .div (.var 2) (.app 50 [(.var 2), (.var 1)]))))), (.op1 (.wrap .i64) (.op2 .mul (.op1 (.wrap .i64) (.op2 .div (.var 1) (.app 50 [(.var 2), (.var 1)]))) (.op1 (.wrap .i64) (.op2 .div (.var 3) (.app 50 [(.var 0), (.var 3)])))))]), false), ((.op2 .eq (.op1 (.wrap .i64) (.op2 .div (.var 2) (.app 50 [(.var 2), (.var 1)]))) (.num 0)), true), ((.op2 .eq (.op1 (.wrap .i64) (.op2 .div (.var 0) (.app 50 [(.var 0), (.var 3)]))) (.num 0)), false), ((.op2 .eq (.app 50 [(.var 2), (.var 1)]) (.num 0)), false), ((.op2 .eq (.app 50 [(.var 0), (.var 3)]) (.num 0)), false), ((.app 55 [(.var 1)]), true), ((.app 55 [(.var 2)]), true), ((.app 55 [(.var 3)]), true), ((.app 55 [(.var 0)]), true), ((.app 51 [(.var 2), (.var 3)]), true), ((.app 51 [(.var 0), (.var 1)]), true)], none),
  ([((.op2 .eq (.ite (.op2 .lt (.op1 (.wrap .i64) (.op2 .div (.var 2) (.app 50 [(.var 2), (.var 1)]))) (.op1 (.wrap .i64) (.op2 .sub (.num 0) (.op1 (.wrap .i64) (.op2 .div (.var 2) (.app 50 [(.var 2), (.var 1)])))))) (.op1 (.kind .i64) (.op1 (.wrap .i64) (.op2 .sub (.num 0) (.op1 (.wrap .i64) (.op2 .div (.var 2) (.app 50 [(.var 2), (.var 1)])))))) (.op1 (.kind .i64) (.op1 (.wrap .i64) (.op2 .div (.var 2) (.app 50 [(.var 2), (.var 1)]))))) (.num 0)), true), ((.op2 .eq (.op1 (.wrap .i64) (.op2 .div (.var 2) (.app 50 [(.var 2), (.var 1)]))) (.num 0)), false), ((.op2 .eq (.op1 (.wrap .i64) (.op2 .div (.var 0) (.app 50 [(.var 0), (.var 3)]))) (.num 0)), false), ((.op2 .eq (.app 50 [(.var 2), (.var 1)]) (.num 0)), false), ((.op2 .eq (.app 50 [(.var 0), (.var 3)]) (.num 0)), false), ((.app 55 [(.var 1)]), true), ((.app 55 [(.var 2)]), true), ((.app 55 [(.var 3)]), true), ((.app 55 [(.var 0)]), true), ((.app 51 [(.var 2), (.var 3)]), true), ((.app 51 [(.var 0), (.var 1)]), true)], none),
  ([((.op2 .lt (.op1 (.wrap .i64) (.op2 .div (.num 1000000000000) (.ite (.op2 .lt (.op1 (.wrap .i64) (.op2 .div (.var 2) (.app 50 [(.var 2), (.var 1)]))) (.op1 (.wrap .i64) (.op2 .sub (.num 0) (.op1 (.wrap .i64) (.op2 .div (.var 2) (.app 50 [(.var 2), (.var 1)])))))) (.op1 (.kind .i64) (.op1 (.wrap .i64) (.op2 .sub (.num 0) (.op1 (.wrap .i64) (.op2 .div (.var 2) (.app 50 [(.var 2), (.var 1)])))))) (.op1 (.kind .i64) (.op1 (.wrap .i64) (.op2 .div (.var 2) (.app 50 [(.var 2), (.var 1)]))))))) (.ite (.op2 .lt (.op1 (.wrap .i64) (.op2 .div (.var 0) (.app 50 [(.var 0), (.var 3)]))) (.op1 (.wrap .i64) (.op2 .sub (.num 0) (.op1 (.wrap .i64) (.op2 .div (.var 0) (.app 50 [(.var 0), (.var 3)])))))) (.op1 (.kind .i64) (.op1 (.wrap .i64) (.op2 .sub (.num 0) (.op1 (.wrap .i64) (.op2 .div (.var 0) (.app 50 [(.var 0), (.var 3)])))))) (.op1 (.kind .i64) (.op1 (.wrap .i64) (.op2 .div (.var 0) (.app 50 [(.var 0), (.var 3)])))))), true), ((.op2 .eq (.ite (.op2 .lt (.op1 (.wrap .i64) (.op2 .div (.var 2) (.app 50 [(.var 2), (.var 1)]))) (.op1 (.wrap .i64) (.op2 .sub (.num 0) (.op1 (.wrap .i64) (.op2 .div (.var 2) (.app 50 [(.var 2), (.var 1)])))))) (.op1 (.kind .i64) (.op1 (.wrap .i64) (.op2 .sub (.num 0) (.op1 (.wrap .i64) (.op2 .div (.var 2) (.app 50 [(.var 2), (.var 1)])))))) (.op1 (.kind .i64) (.op1 (.wrap .i64) (.op2 .div (.var 2) (.app 50 [(.var 2), (.var 1)]))))) (.num 0)), false), ((.op2 .eq (.op1 (.wrap .i64) (.op2 .div (.var 2) (.app 50 [(.var 2), (.var 1)]))) (.num 0)), false), ((.op2 .eq (.op1 (.wrap .i64) (.op2 .div (.var 0) (.app 50 [(.var 0), (.var 3)]))) (.num 0)), false), ((.op2 .eq (.app 50 [(.var 2), (.var 1)]) (.num 0)), false), ((.op2 .eq (.app 50 [(.var 0), (.var 3)]) (.num 0)), false), ((.app 55 [(.var 1)]), true), ((.app 55 [(.var 2)]), true), ((.app 55 [(.var 3)]), true), ((.app 55 [(.var 0)]), true), ((.app 51 [(.var 2), (.var 3)]), true), ((.app 51 [(.var 0), (.var 1)]), true)], some [((.app 79 [(.var 0), (.var 1), (.var 2), (.var 3)]), (.num 0)), ((.app 80 [(.var 0), (.var 1), (.var 2), (.var 3)]), (.num 0)), ((.app 81 [(.var 0), (.var 1), (.var 2), (.var 3)]), (.num 2))]),
  ([((.app 58 [(.op1 (.wrap .i64) (.op2 .mul (.op1 (.wrap .i64) (.op2 .div (.var 0) (.app 50 [(.var 0), (.var 3)]))) (.op1 (.wrap .i64) (.op2 .div (.var 2) (.app 50 [(.var 2), (.var 1)]))))), (.op1 (.wrap .i64) (.op2 .mul (.op1 (.wrap .i64) (.op2 .div (.var 1) (.app 50 [(.var 2), (.var 1)]))) (.op1 (.wrap .i64) (.op2 .div (.var 3) (.app 50 [(.var 0), (.var 3)])))))]), true), ((.op2 .lt (.op1 (.wrap .i64) (.op2 .div (.num 1000000000000) (.ite (.op2 .lt (.op1 (.wrap .i64) (.op2 .div (.var 2) (.app 50 [(.var 2), (.var 1)]))) (.op1 (.wrap .i64) (.op2 .sub (.num 0) (.op1 (.wrap .i64) (.op2 .div (.var 2) (.app 50 [(.var 2), (.var 1)])))))) (.op1 (.kind .i64) (.op1 (.wrap .i64) (.op2 .sub (.num 0) (.op1 (.wrap .i64) (.op2 .div (.var 2) (.app 50 [(.var 2), (.var 1)])))))) (.op1 (.kind .i64) (.op1 (.wrap .i64) (.op2 .div (.var 2) (.app 50 [(.var 2), (.var 1)]))))))) (.ite (.op2 .lt (.op1 (.wrap .i64) (.op2 .div (.var 0) (.app 50 [(.var 0), (.var 3)]))) (.op1 (.wrap .i64) (.op2 .sub (.num 0) (.op1 (.wrap .i64) (.op2 .div (.var 0) (.app 50 [(.var 0), (.var 3)])))))) (.op1 (.kind .i64) (.op1 (.wrap .i64) (.op2 .sub (.num 0) (.op1 (.wrap .i64) (.op2 .div (.var 0) (.app 50 [(.var 0), (.var 3)])))))) (.op1 (.kind .i64) (.op1 (.wrap .i64) (.op2 .div (.var 0) (.app 50 [(.var 0), (.var 3)])))))), false), ((.op2 .eq (.ite (.op2 .lt (.op1 (.wrap .i64) (.op2 .div (.var 2) (.app 50 [(.var 2), (.var 1)]))) (.op1 (.wrap .i64) (.op2 .sub (.num 0) (.op1 (.wrap .i64) (.op2 .div (.var 2) (.app 50 [(.var 2), (.var 1)])))))) (.op1 (.kind .i64) (.op1 (.wrap .i64) (.op2 .sub (.num 0) (.op1 (.wrap .i64) (.op2 .div (.var 2) (.app 50 [(.var 2), (.var 1)])))))) (.op1 (.kind .i64) (.op1 (.wrap .i64) (.op2 .div (.var 2) (.app 50 [(.var 2), (.var 1)]))))) (.num 0)), false), ((.op2 .eq (.op1 (.wrap .i64) (.op2 .div (.var 2) (.app 50 [(.var 2), (.var 1)]))) (.num 0)), false), ((.op2 .eq (.op1 (.wrap .i64) (.op2 .div (.var 0) (.app 50 [(.var 0), (.var 3)]))) (.num 0)), false), ((.op2 .eq (.app 50 [(.var 2), (.var 1)]) (.num 0)), false), ((.op2 .eq (.app 50 [(.var 0), (.var 3)]) (.num 0)), false), ((.app 55 [(.var 1)]), true), ((.app 55 [(.var 2)]), true), ((.app 55 [(.var 3)]), true), ((.app 55 [(.var 0)]), true), ((.app 51 [(.var 2), (.var 3)]), true), ((.app 51 [(.var 0), (.var 1)]), true)], some [((.app 79 [(.var 0), (.var 1), (.var 2), (.var 3)]), (.ite (.app 51 [(.app 53 [(.op1 (.wrap .i64) (.op2 .mul (.op1 (.wrap .i64) (.op2 .div (.var 0) (.app 50 [(.var 0), (.var 3)]))) (.op1 (.wrap .i64) (.op2 .div (.var 2) (.app 50 [(.var 2), (.var 1)]))))), (.op1 (.wrap .i64) (.op2 .mul (.op1 (.wrap .i64) (.op2 .div (.var 1) (.app 50 [(.var 2), (.var 1)]))) (.op1 (.wrap .i64) (.op2 .div (.var 3) (.app 50 [(.var 0), (.var 3)])))))]), (.app 54 [(.op1 (.wrap .i64) (.op2 .mul (.op1 (.wrap .i64) (.op2 .div (.var 0) (.app 50 [(.var 0), (.var 3)]))) (.op1 (.wrap .i64) (.op2 .div (.var 2) (.app 50 [(.var 2), (.var 1)]))))), (.op1 (.wrap .i64) (.op2 .mul (.op1 (.wrap .i64) (.op2 .div (.var 1) (.app 50 [(.var 2), (.var 1)]))) (.op1 (.wrap .i64) (.op2 .div (.var 3) (.app 50 [(.var 0), (.var 3)])))))])]) (.app 53 [(.op1 (.wrap .i64) (.op2 .mul (.op1 (.wrap .i64) (.op2 .div (.var 0) (.app 50 [(.var 0), (.var 3)]))) (.op1 (.wrap .i64) (.op2 .div (.var 2) (.app 50 [(.var 2), (.var 1)]))))), (.op1 (.wrap .i64) (.op2 .mul (.op1 (.wrap .i64) (.op2 .div (.var 1) (.app 50 [(.var 2), (.var 1)]))) (.op1 (.wrap .i64) (.op2 .div (.var 3) (.app 50 [(.var 0), (.var 3)])))))]) (.num 0))), ((.app 80 [(.var 0), (.var 1), (.var 2), (.var 3)]), (.ite (.app 51 [(.app 53 [(.op1 (.wrap .i64) (.op2 .mul (.op1 (.wrap .i64) (.op2 .div (.var 0) (.app 50 [(.var 0), (.var 3)]))) (.op1 (.wrap .i64) (.op2 .div (.var 2) (.app 50 [(.var 2), (.var 1)]))))), (.op1 (.wrap .i64) (.op2 .mul (.op1 (.wrap .i64) (.op2 .div (.var 1) (.app 50 [(.var 2), (.var 1)]))) (.op1 (.wrap .i64) (.op2 .div (.var 3) (.app 50 [(.var 0), (.var 3)])))))]), (.app 54 [(.op1 (.wrap .i64) (.op2 .mul (.op1 (.wrap .i64) (.op2 .div (.var 0) (.app 50 [(.var 0), (.var 3)]))) (.op1 (.wrap .i64) (.op2 .div (.var 2) (.app 50 [(.var 2), (.var 1)]))))), (.op1 (.wrap .i64) (.op2 .mul (.op1 (.wrap .i64) (.op2 .div (.var 1) (.app 50 [(.var 2), (.var 1)]))) (.op1 (.wrap .i64) (.op2 .div (.var 3) (.app 50 [(.var 0), (.var 3)])))))])]) (.app 54 [(.op1 (.wrap .i64) (.op2 .mul (.op1 (.wrap .i64) (.op2 .div (.var 0) (.app 50 [(.var 0), (.var 3)]))) (.op1 (.wrap .i64) (.op2 .div (.var 2) (.app 50 [(.var 2), (.var 1)]))))), (.op1 (.wrap .i64) (.op2 .mul (.op1 (.wrap .i64) (.op2 .div (.var 1) (.app 50 [(.var 2), (.var 1)]))) (.op1 (.wrap .i64) (.op2 .div (.var 3) (.app 50 [(.var 0), (.var 3)])))))]) (.num 0))), ((.app 81 [(.var 0), (.var 1), (.var 2), (.var 3)]), (.ite (.app 51 [(.app 53 [(.op1 (.wrap .i64) (.op2 .mul (.op1 (.wrap .i64) (.op2 .div (.var 0) (.app 50 [(.var 0), (.var 3)]))) (.op1 (.wrap .i64) (.op2 .div (.var 2) (.app 50 [(.var 2), (.var 1)]))))), (.op1 (.wrap .i64) (.op2 .mul (.op1 (.wrap .i64) (.op2 .div (.var 1) (.app 50 [(.var 2), (.var 1)]))) (.op1 (.wrap .i64) (.op2 .div (.var 3) (.app 50 [(.var 0), (.var 3)])))))]), (.app 54 [(.op1 (.wrap .i64) (.op2 .mul (.op1 (.wrap .i64) (.op2 .div (.var 0) (.app 50 [(.var 0), (.var 3)]))) (.op1 (.wrap .i64) (.op2 .div (.var 2) (.app 50 [(.var 2), (.var 1)]))))), (.op1 (.wrap .i64) (.op2 .mul (.op1 (.wrap .i64) (.op2 .div (.var 1) (.app 50 [(.var 2), (.var 1)]))) (.op1 (.wrap .i64) (.op2 .div (.var 3) (.app 50 [(.var 0), (.var 3)])))))])]) (.num 0) (.num 2)))]),
  ([((.app 58 [(.op1 (.wrap .i64) (.op2 .mul (.op1 (.wrap .i64) (.op2 .div (.var 0) (.app 50 [(.var 0), (.var 3)]))) (.op1 (.wrap .i64) (.op2 .div (.var 2) (.app 50 [(.var 2), (.var 1)]))))), (.op1 (.wrap .i64) (.op2 .mul (.op1 (.wrap .i64) (.op2 .div (.var 1) (.app 50 [(.var 2), (.var 1)]))) (.op1 (.wrap .i64) (.op2 .div (.var 3) (.app 50 [(.var 0), (.var 3)])))))]), false), ((.op2 .lt (.op1 (.wrap .i64) (.op2 .div (.num 1000000000000) (.ite (.op2 .lt (.op1 (.wrap .i64) (.op2 .div (.var 2) (.app 50 [(.var 2), (.var 1)]))) (.op1 (.wrap .i64) (.op2 .sub (.num 0) (.op1 (.wrap .i64) (.op2 .div (.var 2) (.app 50 [(.var 2), (.var 1)])))))) (.op1 (.kind .i64) (.op1 (.wrap .i64) (.op2 .sub (.num 0) (.op1 (.wrap .i64) (.op2 .div (.var 2) (.app 50 [(.var 2), (.var 1)])))))) (.op1 (.kind .i64) (.op1 (.wrap .i64) (.op2 .div (.var 2) (.app 50 [(.var 2), (.var 1)]))))))) (.ite (.op2 .lt (.op1 (.wrap .i64) (.op2 .div (.var 0) (.app 50 [(.var 0), (.var 3)]))) (.op1 (.wrap .i64) (.op2 .sub (.num 0) (.op1 (.wrap .i64) (.op2 .div (.var 0) (.app 50 [(.var 0), (.var 3)])))))) (.op1 (.kind .i64) (.op1 (.wrap .i64) (.op2 .sub (.num 0) (.op1 (.wrap .i64) (.op2 .div (.var 0) (.app 50 [(.var 0), (.var 3)])))))) (.op1 (.kind .i64) (.op1 (.wrap .i64) (.op2 .div (.var 0) (.app 50 [(.var 0), (.var 3)])))))), false), ((.op2 .eq (.ite (.op2 .lt (.op1 (.wrap .i64) (.op2 .div (.var 2) (.app 50 [(.var 2), (.var 1)]))) (.op1 (.wrap .i64) (.op2 .sub (.num 0) (.op1 (.wrap .i64) (.op2 .div (.var 2) (.app 50 [(.var 2), (.var 1)])))))) (.op1 (.kind .i64) (.op1 (.wrap .i64) (.op2 .sub (.num 0) (.op1 (.wrap .i64) (.op2 .div (.var 2) (.app 50 [(.var 2), (.var 1)])))))) (.op1 (.kind .i64) (.op1 (.wrap .i64) (.op2 .div (.var 2) (.app 50 [(.var 2), (.var 1)]))))) (.num 0)), false), ((.op2 .eq (.op1 (.wrap .i64) (.op2 .div (.var 2) (.app 50 [(.var 2), (.var 1)]))) (.num 0)), false), ((.op2 .eq (.op1 (.wrap .i64) (.op2 .div (.var 0) (.app 50 [(.var 0), (.var 3)]))) (.num 0)), false), ((.op2 .eq (.app 50 [(.var 2), (.var 1)]) (.num 0)), false), ((.op2 .eq (.app 50 [(.var 0), (.var 3)]) (.num 0)), false), ((.app 55 [(.var 1)]), true), ((.app 55 [(.var 2)]), true), ((.app 55 [(.var 3)]), true), ((.app 55 [(.var 0)]), true), ((.app 51 [(.var 2), (.var 3)]), true), ((.app 51 [(.var 0), (.var 1)]), true)], none),
  ([((.app 55 [(.var 1)]), false), ((.app 55 [(.var 2)]), true), ((.app 55 [(.var 3)]), true), ((.app 55 [(.var 0)]), true), ((.app 51 [(.var 2), (.var 3)]), true), ((.app 51 [(.var 0), (.var 1)]), true)], none),
  ([((.app 55 [(.var 2)]), false), ((.app 55 [(.var 3)]), true), ((.app 55 [(.var 0)]), true), ((.app 51 [(.var 2), (.var 3)]), true), ((.app 51 [(.var 0), (.var 1)]), true)], none),
  ([((.app 55 [(.var 3)]), false), ((.app 55 [(.var 0)]), true), ((.app 51 [(.var 2), (.var 3)]), true), ((.app 51 [(.var 0), (.var 1)]), true)], none),
  ([((.app 55 [(.var 0)]), false), ((.app 51 [(.var 2), (.var 3)]), true), ((.app 51 [(.var 0), (.var 1)]), true)], none),
  ([((.app 51 [(.var 2), (.var 3)]), false), ((.app 51 [(.var 0), (.var 1)]), true)], some [((.app 79 [(.var 0), (.var 1), (.var 2), (.var 3)]), (.num 0)), ((.app 80 [(.var 0), (.var 1), (.var 2), (.var 3)]), (.num 0)), ((.app 81 [(.var 0), (.var 1), (.var 2), (.var 3)]), (.num 1))]),
  ([((.app 51 [(.var 0), (.var 1)]), false)], some [((.app 79 [(.var 0), (.var 1), (.var 2), (.var 3)]), (.num 0)), ((.app 80 [(.var 0), (.var 1), (.var 2), (.var 3)]), (.num 0)), ((.app 81 [(.var 0), (.var 1), (.var 2), (.var 3)]), (.num 1))])]
theorem rMul_w (r : Rho) : rMul_con.fn.ways rMul_call E0 r rMul_con.pre rMul_t = some rMul_l := by kernel_rfl
set_option maxHeartbeats 1000000 in
theorem rMul_cok : rMul_con.Ok Tryz.prog sy := by
  intro r σ w us hsy hρ hpre hrel hins
  obtain ⟨u0, us, rfl, g0, hins⟩ := ins_cons hins
  obtain ⟨u1, us, rfl, g1, hins⟩ := ins_cons hins
  obtain ⟨p, kp, rfl, hpp⟩ := frac_agg g0
  rw [hρ] at hpp
  obtain ⟨q, kq, rfl, hpq⟩ := frac_agg g1
  rw [hρ] at hpq
  have a0 := hpp.h0
  have a1 := hpp.h1
  simp only [Nat.zero_add, Nat.reduceAdd] at a0 a1
  have a2 := hpq.h0
  have a3 := hpq.h1
  simp only [Nat.zero_add, Nat.reduceAdd] at a2 a3

  refine con_of (E := E0) E0_ok E0_glob (sy := sy) (fun F => R3_ok F hsy) (fun F => noH_ok) (rMul_w r) hρ hpre hrel hins ?_ ?_
  · simp only [rMul_con, rMul_t, AsksL, GTree.asks, FTree.asks, FactsIn, List.append_nil, List.nil_append, List.cons_append, Option.some.injEq, exists_eq', implies_true, and_self, X.bool, X.den, denL, d_wrap, d_kind, d_not, d_neg, d_slen, d_add, d_sub, d_mul, d_div, d_mod, d_lt, d_le, d_eq, d_eqb, d_eqs, d_lts, d_cat, d_sat, d_and, d_or, denSub, d_ite, bif_int, asB, fracs_len, fracs_cell, fracs_lsub, deeds_len, deeds_cell, deeds_lsub, a0, a1, a2, a3, hsy, sym10, sym50, sym51, sym53, sym54, sym55, sym56, sym57, sym58, sym59, sym70, sym71, sym72, sym73, sym74, sym75, sym76, sym77, sym78, sym79, sym80, sym81, sym82, sym83, sym84]
  · simp only [rMul_l, EndsOk, WaysOk, forall_cons, forall_nil, TgtOk, gpair, FactsIn, hold_cons, hold_nil, Option.some.injEq, Value.bool.injEq, Value.int.injEq, decide_eq_true_eq, decide_eq_false_iff_not, and_true, true_and, and_imp, X.bool, X.den, denL, d_wrap, d_kind, d_not, d_neg, d_slen, d_add, d_sub, d_mul, d_div, d_mod, d_lt, d_le, d_eq, d_eqb, d_eqs, d_lts, d_cat, d_sat, d_and, d_or, denSub, d_ite, bif_int, asB, fracs_len, fracs_cell, fracs_lsub, deeds_len, deeds_cell, deeds_lsub, beq_iff_eq, beq_eq_false_iff_ne, ne_eq, a0, a1, a2, a3, hsy, sym10, sym50, sym51, sym53, sym54, sym55, sym56, sym57, sym58, sym59, sym70, sym71, sym72, sym73, sym74, sym75, sym76, sym77, sym78, sym79, sym80, sym81, sym82, sym83, sym84]
    clear hsy hρ hpre hrel hins g0 g1 hpp hpq a0 a1 a2 a3
    obtain ⟨a, b⟩ := p
    obtain ⟨c, d⟩ := q
    simp only
    cases h1 : validB a b with
    | false => simp_all [mulR]
    | true => cases h2 : validB c d with
      | false => simp_all [mulR]
      | true =>
        obtain ⟨b1, b2, a1, a2, _⟩ := valid_spec h1
        obtain ⟨d1, d2, c1, c2, _⟩ := valid_spec h2
        obtain ⟨wa, wb, pb⟩ := valid_wide h1
        obtain ⟨wc, wd, pd⟩ := valid_wide h2
        have ca : canB a d = true := (can_iff _ _).2 ⟨wa, wd, pd⟩
        have cc : canB c b = true := (can_iff _ _).2 ⟨wc, wb, pb⟩
        have g1 := gcd_ne (n := a) pd
        have g2 := gcd_ne (n := c) pb
        have e1 := wrap_lowN d wa
        have e2 := wrap_lowN b wc
        have e3 := wrap_lowD c wb
        have e4 := wrap_lowD a wd
        obtain ⟨hg, hp⟩ := mul_coprime h1 h2
        have l1 := tdiv_le a (gcdI a d)
        have l2 := tdiv_le c (gcdI c b)
        have l3 := tdiv_le b (gcdI c b)
        have l4 := tdiv_le d (gcdI a d)
        have p3 := (low_spec c b pb).2.2.2.1
        have p4 := (low_spec a d pd).2.2.2.1
        have hr : mulR a b c d = if bigB (lowN a d) (lowN c b) = true then (0, 0, 2) else lowR (lowN a d * lowN c b) (lowD c b * lowD a d) := by unfold mulR; rw [if_pos ⟨h1, h2⟩]
        rw [hr]
        simp only [e1, e2, e3, e4, ca, cc, g1, g2, wa, wb, wc, wd]
        change (lowN a d).natAbs ≤ a.natAbs at l1
        change (lowN c b).natAbs ≤ c.natAbs at l2
        change (lowD c b).natAbs ≤ b.natAbs at l3
        change (lowD a d).natAbs ≤ d.natAbs at l4
        clear h1 h2 hr e1 e2 e3 e4 ca cc g1 g2
        generalize lowN a d = X at *
        generalize lowN c b = Y at *
        generalize lowD c b = U at *
        generalize lowD a d = V at *
        have wX : wideB X = true := (wide_iff _).2 (by omega)
        have wY : wideB Y = true := (wide_iff _).2 (by omega)
        have n1 := wrap_neg wX
        have n2 := wrap_neg wY
        have m3 := dens_le (b := U) (d := V) ⟨by omega, by omega⟩ ⟨by omega, by omega⟩
        have n3 : IntKind.i64.wrap (U * V) = U * V := wrap_id ((wide_iff _).2 (by omega))
        have ab : ∀ z : Int, (bif decide (z < -z) then -z else z) = (z.natAbs : Int) := fun z => by
          by_cases h : z < -z
          · simp [h]; omega
          · simp [h]; omega
        have t1 := tdiv_le 1000000000000 (Y.natAbs : Int)
        have t2 : 0 ≤ (1000000000000 : Int).tdiv Y.natAbs := Int.tdiv_nonneg (by omega) (by omega)
        have n4 : IntKind.i64.wrap ((1000000000000 : Int).tdiv Y.natAbs) = (1000000000000 : Int).tdiv Y.natAbs := wrap_id ((wide_iff _).2 (by omega))
        simp only [Int.mul_comm V U, n1, n2, n3, n4, ab, wX, wY]
        cases hbig : bigB X Y with
        | false =>
          have sp := small_prod hbig
          have n5 : IntKind.i64.wrap (X * Y) = X * Y := wrap_id ((wide_iff _).2 (by omega))
          have hc : canB (X * Y) (U * V) = true := (can_iff _ _).2 ⟨(wide_iff _).2 (by omega), (wide_iff _).2 (by omega), hp⟩
          obtain ⟨s1, s2⟩ := low_self hg
          have hv := valid_low (n := X * Y) (d := U * V) hp
          unfold lowB at hv
          have hbt : X ≠ 0 → Y ≠ 0 → ¬ ((1000000000000 : Int).tdiv Y.natAbs < X.natAbs) := fun hx hy e => by
            have := (big_iff hx hy).2 e
            rw [hbig] at this; cases this
          have r1 : withinB (X * Y) (-1000000000000) 1000000000000 = true := by simp [withinB]; omega
          rw [s1, s2, r1, Bool.and_true] at hv
          simp only [n5, hc, lowR, lowB, s1, s2, Bool.false_eq_true, if_false]
          clear hg hp
          generalize X * Y = XY at *
          generalize U * V = UV at *
          generalize (1000000000000 : Int).tdiv Y.natAbs = T at *
          cases q1 : withinB UV 1 1000000 <;> rw [q1] at hv <;> simp only [hv, r1]
          all_goals ((repeat' apply And.intro) <;> intros <;> first
            | trivial
            | (exfalso; omega)
            | (exfalso; exact hbt (by assumption) (by assumption) (by assumption))
            | (simp_all; done))
        | true =>
          have hx : X ≠ 0 := fun e => by rw [big_zero (.inl e)] at hbig; cases hbig
          have hy : Y ≠ 0 := fun e => by rw [big_zero (.inr e)] at hbig; cases hbig
          have hbt := (big_iff hx hy).1 hbig
          clear hg hp
          generalize (1000000000000 : Int).tdiv Y.natAbs = T at *
          simp only [if_true]
          (repeat' apply And.intro) <;> intros <;> first
            | trivial
            | (exfalso; omega)
            | (exfalso; contradiction)
            | (simp_all; done)
noncomputable def cMul_con : Con := { f := 26, args := [.agg (fracLeaves 0), .agg (fracLeaves 2)], N := 0, M := 0, pre := [], out := .tuple [.agg [.sint .i64 (.app 79 [.var 0, .var 1, .var 2, .var 3]), .sint .i64 (.app 80 [.var 0, .var 1, .var 2, .var 3])], .sint .i64 (.app 81 [.var 0, .var 1, .var 2, .var 3])], news := [] }
noncomputable def cMul_call : Env → CallL := fun E => acallAll E (evH E (C3 E) ((fun _ => noLoops) E) 20)
noncomputable def cMul_t : GTree := (.fork (.app 51 [(.var 0), (.var 1)]) (.fork (.app 51 [(.var 2), (.var 3)]) (.fork (.app 58 [(.var 0), (.var 3)]) (.fork (.app 58 [(.var 2), (.var 1)]) (.fork (.op2 .eq (.app 53 [(.var 2), (.var 1)]) (.num 0)) (.fork (.app 10 [(.op1 (.wrap .i64) (.op2 .mul (.app 54 [(.var 0), (.var 3)]) (.app 54 [(.var 2), (.var 1)]))), (.num 1), (.num 1000000)]) (.fork (.app 10 [(.op1 (.wrap .i64) (.op2 .mul (.app 53 [(.var 0), (.var 3)]) (.app 53 [(.var 2), (.var 1)]))), (.num (-1000000000000)), (.num 1000000000000)]) (.leaf [[], []]) (.leaf [[], []])) (.leaf [[], []])) (.fork (.app 55 [(.app 53 [(.var 0), (.var 3)])]) (.fork (.app 55 [(.app 53 [(.var 2), (.var 1)])]) (.fork (.op2 .eq (.app 59 [(.app 53 [(.var 2), (.var 1)])]) (.num 0)) .bad (.fork (.op2 .lt (.op1 (.wrap .i64) (.op2 .div (.num 1000000000000) (.app 59 [(.app 53 [(.var 2), (.var 1)])]))) (.app 59 [(.app 53 [(.var 0), (.var 3)])])) (.leaf [[], []]) (.fork (.app 10 [(.op1 (.wrap .i64) (.op2 .mul (.app 54 [(.var 0), (.var 3)]) (.app 54 [(.var 2), (.var 1)]))), (.num 1), (.num 1000000)]) (.fork (.app 10 [(.op1 (.wrap .i64) (.op2 .mul (.app 53 [(.var 0), (.var 3)]) (.app 53 [(.var 2), (.var 1)]))), (.num (-1000000000000)), (.num 1000000000000)]) (.leaf [[], []]) (.leaf [[], []])) (.leaf [[], []])))) .bad) .bad)) .bad) .bad) (.leaf [[]])) (.leaf [[]]))
noncomputable def cMul_l : List (List (X × Bool) × Option Pairs) := [([((.app 10 [(.op1 (.wrap .i64) (.op2 .mul (.app 53 [(.var 0), (.var 3)]) (.app 53 [(.var 2), (.var 1)]))), (.num (-1000000000000)), (.num 1000000000000)]), true), ((.app 10 [(.op1 (.wrap .i64) (.op2 .mul (.app 54 [(.var 0), (.var 3)]) (.app 54 [(.var 2), (.var 1)]))), (.num 1), (.num 1000000)]), true), ((.op2 .eq (.app 53 [(.var 2), (.var 1)]) (.num 0)), true), ((.app 58 [(.var 2), (.var 1)]), true), ((.app 58 [(.var 0), (.var 3)]), true), ((.app 51 [(.var 2), (.var 3)]), true), ((.app 51 [(.var 0), (.var 1)]), true)], some [((.app 79 [(.var 0), (.var 1), (.var 2), (.var 3)]), (.op1 (.wrap .i64) (.op2 .mul (.app 53 [(.var 0), (.var 3)]) (.app 53 [(.var 2), (.var 1)])))), ((.app 80 [(.var 0), (.var 1), (.var 2), (.var 3)]), (.op1 (.wrap .i64) (.op2 .mul (.app 54 [(.var 0), (.var 3)]) (.app 54 [(.var 2), (.var 1)])))), ((.app 81 [(.var 0), (.var 1), (.var 2), (.var 3)]), (.num 0)), ((.app 79 [(.var 0), (.var 1), (.var 2), (.var 3)]), (.op1 (.wrap .i64) (.op2 .mul (.app 53 [(.var 0), (.var 3)]) (.app 53 [(.var 2), (.var 1)])))), ((.app 80 [(.var 0), (.var 1), (.var 2), (.var 3)]), (.op1 (.wrap .i64) (.op2 .mul (.app 54 [(.var 0), (.var 3)]) (.app 54 [(.var 2), (.var 1)])))), ((.app 81 [(.var 0), (.var 1), (.var 2), (.var 3)]), (.num 0))]),
  ([((.app 10 [(.op1 (.wrap .i64) (.op2 .mul (.app 53 [(.var 0), (.var 3)]) (.app 53 [(.var 2), (.var 1)]))), (.num (-1000000000000)), (.num 1000000000000)]), false), ((.app 10 [(.op1 (.wrap .i64) (.op2 .mul (.app 54 [(.var 0), (.var 3)]) (.app 54 [(.var 2), (.var 1)]))), (.num 1), (.num 1000000)]), true), ((.op2 .eq (.app 53 [(.var 2), (.var 1)]) (.num 0)), true), ((.app 58 [(.var 2), (.var 1)]), true), ((.app 58 [(.var 0), (.var 3)]), true), ((.app 51 [(.var 2), (.var 3)]), true), ((.app 51 [(.var 0), (.var 1)]), true)], some [((.app 79 [(.var 0), (.var 1), (.var 2), (.var 3)]), (.num 0)), ((.app 80 [(.var 0), (.var 1), (.var 2), (.var 3)]), (.num 0)), ((.app 81 [(.var 0), (.var 1), (.var 2), (.var 3)]), (.num 2)), ((.app 79 [(.var 0), (.var 1), (.var 2), (.var 3)]), (.num 0)), ((.app 80 [(.var 0), (.var 1), (.var 2), (.var 3)]), (.num 0)), ((.app 81 [(.var 0), (.var 1), (.var 2), (.var 3)]), (.num 2))]),
  ([((.app 10 [(.op1 (.wrap .i64) (.op2 .mul (.app 54 [(.var 0), (.var 3)]) (.app 54 [(.var 2), (.var 1)]))), (.num 1), (.num 1000000)]), false), ((.op2 .eq (.app 53 [(.var 2), (.var 1)]) (.num 0)), true), ((.app 58 [(.var 2), (.var 1)]), true), ((.app 58 [(.var 0), (.var 3)]), true), ((.app 51 [(.var 2), (.var 3)]), true), ((.app 51 [(.var 0), (.var 1)]), true)], some [((.app 79 [(.var 0), (.var 1), (.var 2), (.var 3)]), (.num 0)), ((.app 80 [(.var 0), (.var 1), (.var 2), (.var 3)]), (.num 0)), ((.app 81 [(.var 0), (.var 1), (.var 2), (.var 3)]), (.num 2)), ((.app 79 [(.var 0), (.var 1), (.var 2), (.var 3)]), (.num 0)), ((.app 80 [(.var 0), (.var 1), (.var 2), (.var 3)]), (.num 0)), ((.app 81 [(.var 0), (.var 1), (.var 2), (.var 3)]), (.num 2))]),
  ([((.op2 .eq (.app 59 [(.app 53 [(.var 2), (.var 1)])]) (.num 0)), true), ((.app 55 [(.app 53 [(.var 2), (.var 1)])]), true), ((.app 55 [(.app 53 [(.var 0), (.var 3)])]), true), ((.op2 .eq (.app 53 [(.var 2), (.var 1)]) (.num 0)), false), ((.app 58 [(.var 2), (.var 1)]), true), ((.app 58 [(.var 0), (.var 3)]), true), ((.app 51 [(.var 2), (.var 3)]), true), ((.app 51 [(.var 0), (.var 1)]), true)], none),
  ([((.op2 .lt (.op1 (.wrap .i64) (.op2 .div (.num 1000000000000) (.app 59 [(.app 53 [(.var 2), (.var 1)])]))) (.app 59 [(.app 53 [(.var 0), (.var 3)])])), true), ((.op2 .eq (.app 59 [(.app 53 [(.var 2), (.var 1)])]) (.num 0)), false), ((.app 55 [(.app 53 [(.var 2), (.var 1)])]), true), ((.app 55 [(.app 53 [(.var 0), (.var 3)])]), true), ((.op2 .eq (.app 53 [(.var 2), (.var 1)]) (.num 0)), false), ((.app 58 [(.var 2), (.var 1)]), true), ((.app 58 [(.var 0), (.var 3)]), true), ((.app 51 [(.var 2), (.var 3)]), true), ((.app 51 [(.var 0), (.var 1)]), true)], some [((.app 79 [(.var 0), (.var 1), (.var 2), (.var 3)]), (.num 0)), ((.app 80 [(.var 0), (.var 1), (.var 2), (.var 3)]), (.num 0)), ((.app 81 [(.var 0), (.var 1), (.var 2), (.var 3)]), (.num 2)), ((.app 79 [(.var 0), (.var 1), (.var 2), (.var 3)]), (.num 0)), ((.app 80 [(.var 0), (.var 1), (.var 2), (.var 3)]), (.num 0)), ((.app 81 [(.var 0), (.var 1), (.var 2), (.var 3)]), (.num 2))]),
  ([((.app 10 [(.op1 (.wrap .i64) (.op2 .mul (.app 53 [(.var 0), (.var 3)]) (.app 53 [(.var 2), (.var 1)]))), (.num (-1000000000000)), (.num 1000000000000)]), true), ((.app 10 [(.op1 (.wrap .i64) (.op2 .mul (.app 54 [(.var 0), (.var 3)]) (.app 54 [(.var 2), (.var 1)]))), (.num 1), (.num 1000000)]), true), ((.op2 .lt (.op1 (.wrap .i64) (.op2 .div (.num 1000000000000) (.app 59 [(.app 53 [(.var 2), (.var 1)])]))) (.app 59 [(.app 53 [(.var 0), (.var 3)])])), false), ((.op2 .eq (.app 59 [(.app 53 [(.var 2), (.var 1)])]) (.num 0)), false), ((.app 55 [(.app 53 [(.var 2), (.var 1)])]), true), ((.app 55 [(.app 53 [(.var 0), (.var 3)])]), true), ((.op2 .eq (.app 53 [(.var 2), (.var 1)]) (.num 0)), false), ((.app 58 [(.var 2), (.var 1)]), true), ((.app 58 [(.var 0), (.var 3)]), true), ((.app 51 [(.var 2), (.var 3)]), true), ((.app 51 [(.var 0), (.var 1)]), true)], some [((.app 79 [(.var 0), (.var 1), (.var 2), (.var 3)]), (.op1 (.wrap .i64) (.op2 .mul (.app 53 [(.var 0), (.var 3)]) (.app 53 [(.var 2), (.var 1)])))), ((.app 80 [(.var 0), (.var 1), (.var 2), (.var 3)]), (.op1 (.wrap .i64) (.op2 .mul (.app 54 [(.var 0), (.var 3)]) (.app 54 [(.var 2), (.var 1)])))), ((.app 81 [(.var 0), (.var 1), (.var 2), (.var 3)]), (.num 0)), ((.app 79 [(.var 0), (.var 1), (.var 2), (.var 3)]), (.op1 (.wrap .i64) (.op2 .mul (.app 53 [(.var 0), (.var 3)]) (.app 53 [(.var 2), (.var 1)])))), ((.app 80 [(.var 0), (.var 1), (.var 2), (.var 3)]), (.op1 (.wrap .i64) (.op2 .mul (.app 54 [(.var 0), (.var 3)]) (.app 54 [(.var 2), (.var 1)])))), ((.app 81 [(.var 0), (.var 1), (.var 2), (.var 3)]), (.num 0))]),
  ([((.app 10 [(.op1 (.wrap .i64) (.op2 .mul (.app 53 [(.var 0), (.var 3)]) (.app 53 [(.var 2), (.var 1)]))), (.num (-1000000000000)), (.num 1000000000000)]), false), ((.app 10 [(.op1 (.wrap .i64) (.op2 .mul (.app 54 [(.var 0), (.var 3)]) (.app 54 [(.var 2), (.var 1)]))), (.num 1), (.num 1000000)]), true), ((.op2 .lt (.op1 (.wrap .i64) (.op2 .div (.num 1000000000000) (.app 59 [(.app 53 [(.var 2), (.var 1)])]))) (.app 59 [(.app 53 [(.var 0), (.var 3)])])), false), ((.op2 .eq (.app 59 [(.app 53 [(.var 2), (.var 1)])]) (.num 0)), false), ((.app 55 [(.app 53 [(.var 2), (.var 1)])]), true), ((.app 55 [(.app 53 [(.var 0), (.var 3)])]), true), ((.op2 .eq (.app 53 [(.var 2), (.var 1)]) (.num 0)), false), ((.app 58 [(.var 2), (.var 1)]), true), ((.app 58 [(.var 0), (.var 3)]), true), ((.app 51 [(.var 2), (.var 3)]), true), ((.app 51 [(.var 0), (.var 1)]), true)], some [((.app 79 [(.var 0), (.var 1), (.var 2), (.var 3)]), (.num 0)), ((.app 80 [(.var 0), (.var 1), (.var 2), (.var 3)]), (.num 0)), ((.app 81 [(.var 0), (.var 1), (.var 2), (.var 3)]), (.num 2)), ((.app 79 [(.var 0), (.var 1), (.var 2), (.var 3)]), (.num 0)), ((.app 80 [(.var 0), (.var 1), (.var 2), (.var 3)]), (.num 0)), ((.app 81 [(.var 0), (.var 1), (.var 2), (.var 3)]), (.num 2))]),
  ([((.app 10 [(.op1 (.wrap .i64) (.op2 .mul (.app 54 [(.var 0), (.var 3)]) (.app 54 [(.var 2), (.var 1)]))), (.num 1), (.num 1000000)]), false), ((.op2 .lt (.op1 (.wrap .i64) (.op2 .div (.num 1000000000000) (.app 59 [(.app 53 [(.var 2), (.var 1)])]))) (.app 59 [(.app 53 [(.var 0), (.var 3)])])), false), ((.op2 .eq (.app 59 [(.app 53 [(.var 2), (.var 1)])]) (.num 0)), false), ((.app 55 [(.app 53 [(.var 2), (.var 1)])]), true), ((.app 55 [(.app 53 [(.var 0), (.var 3)])]), true), ((.op2 .eq (.app 53 [(.var 2), (.var 1)]) (.num 0)), false), ((.app 58 [(.var 2), (.var 1)]), true), ((.app 58 [(.var 0), (.var 3)]), true), ((.app 51 [(.var 2), (.var 3)]), true), ((.app 51 [(.var 0), (.var 1)]), true)], some [((.app 79 [(.var 0), (.var 1), (.var 2), (.var 3)]), (.num 0)), ((.app 80 [(.var 0), (.var 1), (.var 2), (.var 3)]), (.num 0)), ((.app 81 [(.var 0), (.var 1), (.var 2), (.var 3)]), (.num 2)), ((.app 79 [(.var 0), (.var 1), (.var 2), (.var 3)]), (.num 0)), ((.app 80 [(.var 0), (.var 1), (.var 2), (.var 3)]), (.num 0)), ((.app 81 [(.var 0), (.var 1), (.var 2), (.var 3)]), (.num 2))]),
  ([((.app 55 [(.app 53 [(.var 2), (.var 1)])]), false), ((.app 55 [(.app 53 [(.var 0), (.var 3)])]), true), ((.op2 .eq (.app 53 [(.var 2), (.var 1)]) (.num 0)), false), ((.app 58 [(.var 2), (.var 1)]), true), ((.app 58 [(.var 0), (.var 3)]), true), ((.app 51 [(.var 2), (.var 3)]), true), ((.app 51 [(.var 0), (.var 1)]), true)], none),
  ([((.app 55 [(.app 53 [(.var 0), (.var 3)])]), false), ((.op2 .eq (.app 53 [(.var 2), (.var 1)]) (.num 0)), false), ((.app 58 [(.var 2), (.var 1)]), true), ((.app 58 [(.var 0), (.var 3)]), true), ((.app 51 [(.var 2), (.var 3)]), true), ((.app 51 [(.var 0), (.var 1)]), true)], none),
  ([((.app 58 [(.var 2), (.var 1)]), false), ((.app 58 [(.var 0), (.var 3)]), true), ((.app 51 [(.var 2), (.var 3)]), true), ((.app 51 [(.var 0), (.var 1)]), true)], none),
  ([((.app 58 [(.var 0), (.var 3)]), false), ((.app 51 [(.var 2), (.var 3)]), true), ((.app 51 [(.var 0), (.var 1)]), true)], none),
  ([((.app 51 [(.var 2), (.var 3)]), false), ((.app 51 [(.var 0), (.var 1)]), true)], some [((.app 79 [(.var 0), (.var 1), (.var 2), (.var 3)]), (.num 0)), ((.app 80 [(.var 0), (.var 1), (.var 2), (.var 3)]), (.num 0)), ((.app 81 [(.var 0), (.var 1), (.var 2), (.var 3)]), (.num 1))]),
  ([((.app 51 [(.var 0), (.var 1)]), false)], some [((.app 79 [(.var 0), (.var 1), (.var 2), (.var 3)]), (.num 0)), ((.app 80 [(.var 0), (.var 1), (.var 2), (.var 3)]), (.num 0)), ((.app 81 [(.var 0), (.var 1), (.var 2), (.var 3)]), (.num 1))])]
theorem cMul_w (r : Rho) : cMul_con.fn.ways cMul_call E0 r cMul_con.pre cMul_t = some cMul_l := by kernel_rfl
set_option maxHeartbeats 1000000 in
theorem cMul_cok : cMul_con.Ok Tryz.prog sy := by
  intro r σ w us hsy hρ hpre hrel hins
  obtain ⟨u0, us, rfl, g0, hins⟩ := ins_cons hins
  obtain ⟨u1, us, rfl, g1, hins⟩ := ins_cons hins
  obtain ⟨p, kp, rfl, hpp⟩ := frac_agg g0
  rw [hρ] at hpp
  obtain ⟨q, kq, rfl, hpq⟩ := frac_agg g1
  rw [hρ] at hpq
  have a0 := hpp.h0
  have a1 := hpp.h1
  simp only [Nat.zero_add, Nat.reduceAdd] at a0 a1
  have a2 := hpq.h0
  have a3 := hpq.h1
  simp only [Nat.zero_add, Nat.reduceAdd] at a2 a3

  refine con_of (E := E0) E0_ok E0_glob (sy := sy) (fun F => C3_ok F hsy) (fun F => noH_ok) (cMul_w r) hρ hpre hrel hins ?_ ?_
  · simp only [cMul_con, cMul_t, AsksL, GTree.asks, FTree.asks, FactsIn, List.append_nil, List.nil_append, List.cons_append, Option.some.injEq, exists_eq', implies_true, and_self, X.bool, X.den, denL, d_wrap, d_kind, d_not, d_neg, d_slen, d_add, d_sub, d_mul, d_div, d_mod, d_lt, d_le, d_eq, d_eqb, d_eqs, d_lts, d_cat, d_sat, d_and, d_or, denSub, d_ite, bif_int, asB, fracs_len, fracs_cell, fracs_lsub, deeds_len, deeds_cell, deeds_lsub, a0, a1, a2, a3, hsy, sym10, sym50, sym51, sym53, sym54, sym55, sym56, sym57, sym58, sym59, sym70, sym71, sym72, sym73, sym74, sym75, sym76, sym77, sym78, sym79, sym80, sym81, sym82, sym83, sym84]
  · simp only [cMul_l, EndsOk, WaysOk, forall_cons, forall_nil, TgtOk, gpair, FactsIn, hold_cons, hold_nil, Option.some.injEq, Value.bool.injEq, Value.int.injEq, decide_eq_true_eq, decide_eq_false_iff_not, and_true, true_and, and_imp, X.bool, X.den, denL, d_wrap, d_kind, d_not, d_neg, d_slen, d_add, d_sub, d_mul, d_div, d_mod, d_lt, d_le, d_eq, d_eqb, d_eqs, d_lts, d_cat, d_sat, d_and, d_or, denSub, d_ite, bif_int, asB, fracs_len, fracs_cell, fracs_lsub, deeds_len, deeds_cell, deeds_lsub, beq_iff_eq, beq_eq_false_iff_ne, ne_eq, a0, a1, a2, a3, hsy, sym10, sym50, sym51, sym53, sym54, sym55, sym56, sym57, sym58, sym59, sym70, sym71, sym72, sym73, sym74, sym75, sym76, sym77, sym78, sym79, sym80, sym81, sym82, sym83, sym84]
    clear hsy hρ hpre hrel hins g0 g1 hpp hpq a0 a1 a2 a3
    obtain ⟨a, b⟩ := p
    obtain ⟨c, d⟩ := q
    simp only
    cases h1 : validB a b with
    | false => simp_all [mulR]
    | true => cases h2 : validB c d with
      | false => simp_all [mulR]
      | true =>
        obtain ⟨b1, b2, a1, a2, _⟩ := valid_spec h1
        obtain ⟨d1, d2, c1, c2, _⟩ := valid_spec h2
        obtain ⟨wa, wb, pb⟩ := valid_wide h1
        obtain ⟨wc, wd, pd⟩ := valid_wide h2
        have ca : canB a d = true := (can_iff _ _).2 ⟨wa, wd, pd⟩
        have cc : canB c b = true := (can_iff _ _).2 ⟨wc, wb, pb⟩
        have g1 := gcd_ne (n := a) pd
        have g2 := gcd_ne (n := c) pb
        have e1 := wrap_lowN d wa
        have e2 := wrap_lowN b wc
        have e3 := wrap_lowD c wb
        have e4 := wrap_lowD a wd
        obtain ⟨hg, hp⟩ := mul_coprime h1 h2
        have l1 := tdiv_le a (gcdI a d)
        have l2 := tdiv_le c (gcdI c b)
        have l3 := tdiv_le b (gcdI c b)
        have l4 := tdiv_le d (gcdI a d)
        have p3 := (low_spec c b pb).2.2.2.1
        have p4 := (low_spec a d pd).2.2.2.1
        have hr : mulR a b c d = if bigB (lowN a d) (lowN c b) = true then (0, 0, 2) else lowR (lowN a d * lowN c b) (lowD c b * lowD a d) := by unfold mulR; rw [if_pos ⟨h1, h2⟩]
        rw [hr]
        simp only [e1, e2, e3, e4, ca, cc, g1, g2, wa, wb, wc, wd]
        change (lowN a d).natAbs ≤ a.natAbs at l1
        change (lowN c b).natAbs ≤ c.natAbs at l2
        change (lowD c b).natAbs ≤ b.natAbs at l3
        change (lowD a d).natAbs ≤ d.natAbs at l4
        clear h1 h2 hr e1 e2 e3 e4 ca cc g1 g2
        generalize lowN a d = X at *
        generalize lowN c b = Y at *
        generalize lowD c b = U at *
        generalize lowD a d = V at *
        have wX : wideB X = true := (wide_iff _).2 (by omega)
        have wY : wideB Y = true := (wide_iff _).2 (by omega)
        have n1 := wrap_neg wX
        have n2 := wrap_neg wY
        have m3 := dens_le (b := U) (d := V) ⟨by omega, by omega⟩ ⟨by omega, by omega⟩
        have n3 : IntKind.i64.wrap (U * V) = U * V := wrap_id ((wide_iff _).2 (by omega))
        have ab : ∀ z : Int, (bif decide (z < -z) then -z else z) = (z.natAbs : Int) := fun z => by
          by_cases h : z < -z
          · simp [h]; omega
          · simp [h]; omega
        have t1 := tdiv_le 1000000000000 (Y.natAbs : Int)
        have t2 : 0 ≤ (1000000000000 : Int).tdiv Y.natAbs := Int.tdiv_nonneg (by omega) (by omega)
        have n4 : IntKind.i64.wrap ((1000000000000 : Int).tdiv Y.natAbs) = (1000000000000 : Int).tdiv Y.natAbs := wrap_id ((wide_iff _).2 (by omega))
        simp only [Int.mul_comm V U, n1, n2, n3, n4, ab, wX, wY]
        cases hbig : bigB X Y with
        | false =>
          have sp := small_prod hbig
          have n5 : IntKind.i64.wrap (X * Y) = X * Y := wrap_id ((wide_iff _).2 (by omega))
          have hc : canB (X * Y) (U * V) = true := (can_iff _ _).2 ⟨(wide_iff _).2 (by omega), (wide_iff _).2 (by omega), hp⟩
          obtain ⟨s1, s2⟩ := low_self hg
          have hv := valid_low (n := X * Y) (d := U * V) hp
          unfold lowB at hv
          have hbt : X ≠ 0 → Y ≠ 0 → ¬ ((1000000000000 : Int).tdiv Y.natAbs < X.natAbs) := fun hx hy e => by
            have := (big_iff hx hy).2 e
            rw [hbig] at this; cases this
          have r1 : withinB (X * Y) (-1000000000000) 1000000000000 = true := by simp [withinB]; omega
          rw [s1, s2, r1, Bool.and_true] at hv
          simp only [n5, hc, lowR, lowB, s1, s2, Bool.false_eq_true, if_false]
          clear hg hp
          generalize X * Y = XY at *
          generalize U * V = UV at *
          generalize (1000000000000 : Int).tdiv Y.natAbs = T at *
          cases q1 : withinB UV 1 1000000 <;> rw [q1] at hv <;> simp only [hv, r1]
          all_goals ((repeat' apply And.intro) <;> intros <;> first
            | trivial
            | (exfalso; omega)
            | (exfalso; exact hbt (by assumption) (by assumption) (by assumption))
            | (simp_all; done))
        | true =>
          have hx : X ≠ 0 := fun e => by rw [big_zero (.inl e)] at hbig; cases hbig
          have hy : Y ≠ 0 := fun e => by rw [big_zero (.inr e)] at hbig; cases hbig
          have hbt := (big_iff hx hy).1 hbig
          clear hg hp
          generalize (1000000000000 : Int).tdiv Y.natAbs = T at *
          simp only [if_true]
          (repeat' apply And.intro) <;> intros <;> first
            | trivial
            | (exfalso; omega)
            | (exfalso; contradiction)
            | (simp_all; done)
end Go.Proofs.YtnahicnoofkfgaaGreatDoor.Zs
