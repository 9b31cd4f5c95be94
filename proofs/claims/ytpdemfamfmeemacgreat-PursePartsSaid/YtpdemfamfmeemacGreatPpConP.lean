/-
  Contracts of both sides: Sold, Has and HeldOf.
-/
import Derived.Test.YtpdemfamfmeemacGreatPpConR
import Derived.Test.YtpdemfamfmeemacGreatPpConC
import Derived.Test.YtpdemfamfmeemacGreatPpDataK
import Derived.KernelRfl
set_option linter.unusedSimpArgs false
set_option linter.unusedVariables false
namespace Go.Proofs.YtpdemfamfmeemacGreat.Zs
open Go
noncomputable def cSoldG_con : Con := { f := 5, args := [ptgsArg 0 0, .one (.int .i64 3)], N := 1, M := 1, pre := [(.app 20 [.var 1], true)], out := .tuple [.sint .i64 (.app 65 [.var 1, .var 3]), .sint .i64 (.app 64 [.var 1, .var 3])], news := [] }
noncomputable def cSoldG_call : Env → CallL := fun E => acallAll E (evH E (L7 E) ((fun _ => noLoops) E) 6)
def yPP_0 : X := .op2 .eq (.app 6 [(.var 1)]) (.num 0)
def yPP_1 : X := .app 20 [(.var 1)]
def yPP_2 : X := .snoc .nil [(.op1 (.kind .i64) (.var 3))]
def yPP_3 : X := .app 67 [(.var 1), (.var 3), (.var 4)]
def yPP_4 : X := .app 66 [(.var 1), (.var 3), (.var 4)]
def yPP_5 : X := .app 10 [(.var 3), (.num 10), (.num 10000007)]
def yPP_6 : X := .app 65 [(.var 1), (.var 3)]
def yPP_7 : X := .app 64 [(.var 1), (.var 3)]
def yPP_8 : X := .snoc .nil [(.op1 (.kind .i64) (.var 3)), (.op1 (.kind .i64) (.var 4))]
def yPP_9 : X := .op2 .lt (.var 3) (.num 10)
def yPP_10 : X := .op2 .lt (.num 10000007) (.var 3)
def yPP_11 : X := .app 69 [(.var 1), (.var 3)]
def yPP_12 : X := .app 68 [(.var 1), (.var 3)]
noncomputable def cSoldG_t : GTree := (.fork yPP_0 (.fork yPP_5 (.fork (.op2 .mhas (.app 51 [.var 1]) yPP_2) (.fork (.op2 .lt (.num 0) (.op2 (.mat 1) (.app 51 [.var 1]) yPP_2)) (.leaf [[]]) (.leaf [[]])) (.leaf [[]])) (.leaf [[]])) (.leaf [[]]))
noncomputable def cSoldG_l : List (List (X × Bool) × Option Pairs) := [([(.op2 .lt (.num 0) (.op2 (.mat 1) (.app 51 [.var 1]) yPP_2), true), (.op2 .mhas (.app 51 [.var 1]) yPP_2, true), (yPP_5, true), (yPP_0, true), (yPP_1, true)], some [(yPP_6, .op2 (.mat 1) (.app 51 [.var 1]) yPP_2), (yPP_7, .num 0)]),
  ([(.op2 .lt (.num 0) (.op2 (.mat 1) (.app 51 [.var 1]) yPP_2), false), (.op2 .mhas (.app 51 [.var 1]) yPP_2, true), (yPP_5, true), (yPP_0, true), (yPP_1, true)], some [(yPP_6, .num 0), (yPP_7, .num 5)]),
  ([(.op2 .mhas (.app 51 [.var 1]) yPP_2, false), (yPP_5, true), (yPP_0, true), (yPP_1, true)], some [(yPP_6, .num 0), (yPP_7, .num 5)]),
  ([(yPP_5, false), (yPP_0, true), (yPP_1, true)], some [(yPP_6, .num 0), (yPP_7, .num 1)]),
  ([(yPP_0, false), (yPP_1, true)], some [(yPP_6, .num 0), (yPP_7, .app 6 [.var 1])])]
theorem cSoldG_w (r : Rho) : cSoldG_con.fn.ways cSoldG_call E0 r cSoldG_con.pre cSoldG_t = some cSoldG_l := by kernel_rfl
set_option maxRecDepth 100000 in
set_option maxHeartbeats 2000000 in
theorem cSoldG_cok : cSoldG_con.Ok Tryz.prog sy := by
  intro r σ w us hsy hρ hpre hrel hins
  obtain ⟨u0, us, rfl, g0, hi⟩ := ins_cons hins
  obtain ⟨u1, us, rfl, g1, hi⟩ := ins_cons hi
  obtain ⟨c, k3, rfl, h3⟩ := one_int g1
  obtain ⟨l, h1⟩ := ptgs_at hrel (i := 0) rfl
  rw [hρ] at h1 h3
  have h1 : r.val 1 = some (ptgsR l) := h1
  have hmax : (l.length : Int) ≤ 1010 := by
    have := hpre.1
    simp only [X.bool, X.den, denL, dX, denSub, denIte, asB, dY, h1, hsy, sym20, Option.some.injEq, Value.bool.injEq] at this
    exact short_len this
  by_cases h0 : (checkP l).2 = 0
  · have hg := check_good h0
    have hu : uptoP l = l := upto_full h0
    have kC : (mapHas (soldV l) (kI c) = false ∧ soldW l c = 0) ∨ (mapHas (soldV l) (kI c) = true ∧ mapAt (soldV l) (kI c) 1 = some (.int .i64 (soldW l c)) ∧ 0 < soldW l c) := hg.sold c
    simp only [kI, kA] at kC
    refine con_of (E := E0) E0_ok E0_glob (sy := sy) (fun F => L7_ok F hsy) (fun F => noH_ok) (cSoldG_w r) hρ hpre hrel hins ?_ ?_
    · rcases kC with ⟨e1, e2⟩ | ⟨e1, e2, e3⟩ <;> simp only [cSoldG_con, cSoldG_t, yPP_12, yPP_11, yPP_10, yPP_9, yPP_8, yPP_7, yPP_6, yPP_5, yPP_4, yPP_3, yPP_2, yPP_1, yPP_0, AsksL, GTree.asks, FTree.asks, FactsIn, List.append_nil, List.nil_append, List.cons_append, Option.some.injEq, exists_eq', implies_true, and_self, X.bool, X.den, denL, dX, denSub, d_ite2, d_eq_ite2, asB, dY, snoc_nil, d_mhas, d_mat, d_mput, rows_len, List.take_succ_cons, List.take_zero, cond_acc, h1, h3, hsy, sym6, sym10, sym31, sym40, sym41, sym42, sym51, sym52, sym53, sym64, sym65, sym66, sym67, sym68, sym69, hu, h0, e1, e2]
      all_goals (try simp)
    · rcases kC with ⟨e1, e2⟩ | ⟨e1, e2, e3⟩ <;> simp only [cSoldG_l, yPP_12, yPP_11, yPP_10, yPP_9, yPP_8, yPP_7, yPP_6, yPP_5, yPP_4, yPP_3, yPP_2, yPP_1, yPP_0, EndsOk, WaysOk, forall_cons, forall_nil, TgtOk, gpair, FactsIn, hold_cons, hold_nil, Option.some.injEq, dZ, X.bool, X.den, denL, dX, denSub, d_ite2, d_eq_ite2, asB, dY, snoc_nil, d_mhas, d_mat, d_mput, rows_len, List.take_succ_cons, List.take_zero, cond_acc, beq_iff_eq, beq_eq_false_iff_ne, ne_eq, h1, h3, hsy, sym6, sym10, sym31, sym40, sym41, sym42, sym51, sym52, sym53, sym64, sym65, sym66, sym67, sym68, sym69, hu, h0, e1, e2, soldE, soldA, hasE, hasA, hofE, hofA, inC]
      all_goals (
        clear hρ hpre hrel hins
        (repeat' apply And.intro) <;> intros <;> first
          | trivial
          | contradiction
          | (exfalso; omega)
          | (simp [*]; done)
          | (by_cases q1 : soldW l c = 0 <;> cases q4 : withinB c 10 10000007 <;> skip <;> first
              | contradiction
              | (simp [*]; done)
              | (exfalso; simp_all; done)
              | (exfalso; omega)
              | (simp [q1, q4]; omega)))
  · refine con_of (E := E0) E0_ok E0_glob (sy := sy) (fun F => L7_ok F hsy) (fun F => noH_ok) (cSoldG_w r) hρ hpre hrel hins ?_ ?_
    · simp only [cSoldG_con, cSoldG_t, yPP_12, yPP_11, yPP_10, yPP_9, yPP_8, yPP_7, yPP_6, yPP_5, yPP_4, yPP_3, yPP_2, yPP_1, yPP_0, AsksL, GTree.asks, FTree.asks, FactsIn, List.append_nil, List.nil_append, List.cons_append, Option.some.injEq, exists_eq', implies_true, and_self, X.bool, X.den, denL, dX, denSub, d_ite2, d_eq_ite2, asB, dY, snoc_nil, d_mhas, d_mat, d_mput, rows_len, List.take_succ_cons, List.take_zero, cond_acc, h1, h3, hsy, sym6, sym10, sym31, sym40, sym41, sym42, sym51, sym52, sym53, sym64, sym65, sym66, sym67, sym68, sym69]
      try simp [h0]
    · simp only [cSoldG_l, yPP_12, yPP_11, yPP_10, yPP_9, yPP_8, yPP_7, yPP_6, yPP_5, yPP_4, yPP_3, yPP_2, yPP_1, yPP_0, EndsOk, WaysOk, forall_cons, forall_nil, TgtOk, gpair, FactsIn, hold_cons, hold_nil, Option.some.injEq, dZ, X.bool, X.den, denL, dX, denSub, d_ite2, d_eq_ite2, asB, dY, snoc_nil, d_mhas, d_mat, d_mput, rows_len, List.take_succ_cons, List.take_zero, cond_acc, beq_iff_eq, beq_eq_false_iff_ne, ne_eq, h1, h3, hsy, sym6, sym10, sym31, sym40, sym41, sym42, sym51, sym52, sym53, sym64, sym65, sym66, sym67, sym68, sym69]
      simp [h0, soldE, soldA, hasE, hasA, hofE, hofA]
noncomputable def cHasG_con : Con := { f := 7, args := [ptgsArg 0 0, .one (.int .i64 3), .one (.int .i64 4)], N := 1, M := 1, pre := [(.app 20 [.var 1], true)], out := .tuple [.sint .i64 (.app 67 [.var 1, .var 3, .var 4]), .sint .i64 (.app 66 [.var 1, .var 3, .var 4])], news := [] }
noncomputable def cHasG_call : Env → CallL := fun E => acallAll E (evH E (L7 E) ((fun _ => noLoops) E) 6)
noncomputable def cHasG_t : GTree := (.fork yPP_0 (.fork (.app 31 [.var 3]) (.fork (.app 10 [.var 4, .num 10, .num 10000007]) (.fork (.op2 .mhas (.app 53 [.var 1]) yPP_8) (.leaf [[]]) (.leaf [[]])) (.leaf [[]])) (.leaf [[]])) (.leaf [[]]))
noncomputable def cHasG_l : List (List (X × Bool) × Option Pairs) := [([(.op2 .mhas (.app 53 [.var 1]) yPP_8, true), (.app 10 [.var 4, .num 10, .num 10000007], true), (.app 31 [.var 3], true), (yPP_0, true), (yPP_1, true)], some [(yPP_3, .op2 (.mat 2) (.app 53 [.var 1]) yPP_8), (yPP_4, .num 0)]),
  ([(.op2 .mhas (.app 53 [.var 1]) yPP_8, false), (.app 10 [.var 4, .num 10, .num 10000007], true), (.app 31 [.var 3], true), (yPP_0, true), (yPP_1, true)], some [(yPP_3, .num 0), (yPP_4, .num 0)]),
  ([(.app 10 [.var 4, .num 10, .num 10000007], false), (.app 31 [.var 3], true), (yPP_0, true), (yPP_1, true)], some [(yPP_3, .num 0), (yPP_4, .num 1)]),
  ([(.app 31 [.var 3], false), (yPP_0, true), (yPP_1, true)], some [(yPP_3, .num 0), (yPP_4, .num 1)]),
  ([(yPP_0, false), (yPP_1, true)], some [(yPP_3, .num 0), (yPP_4, .app 6 [.var 1])])]
theorem cHasG_w (r : Rho) : cHasG_con.fn.ways cHasG_call E0 r cHasG_con.pre cHasG_t = some cHasG_l := by kernel_rfl
set_option maxRecDepth 100000 in
set_option maxHeartbeats 2000000 in
theorem cHasG_cok : cHasG_con.Ok Tryz.prog sy := by
  intro r σ w us hsy hρ hpre hrel hins
  obtain ⟨u0, us, rfl, g0, hi⟩ := ins_cons hins
  obtain ⟨u1, us, rfl, g1, hi⟩ := ins_cons hi
  obtain ⟨u2, us, rfl, g2, hi⟩ := ins_cons hi
  obtain ⟨w_, k3, rfl, h3⟩ := one_int g1
  obtain ⟨c, k4, rfl, h4⟩ := one_int g2
  obtain ⟨l, h1⟩ := ptgs_at hrel (i := 0) rfl
  rw [hρ] at h1 h3 h4
  have h1 : r.val 1 = some (ptgsR l) := h1
  have hmax : (l.length : Int) ≤ 1010 := by
    have := hpre.1
    simp only [X.bool, X.den, denL, dX, denSub, denIte, asB, dY, h1, hsy, sym20, Option.some.injEq, Value.bool.injEq] at this
    exact short_len this
  by_cases h0 : (checkP l).2 = 0
  · have hg := check_good h0
    have hu : uptoP l = l := upto_full h0
    have kC : (mapHas (hasV l) (kA w_ c) = false ∧ hasW l w_ c = 0) ∨ (mapHas (hasV l) (kA w_ c) = true ∧ mapAt (hasV l) (kA w_ c) 2 = some (.int .i64 (hasW l w_ c)) ∧ True) := by
      rcases hg.has w_ c with ⟨a1, a2, _⟩ | ⟨a1, a2, _⟩
      · exact .inl ⟨a1, a2⟩
      · exact .inr ⟨a1, a2, trivial⟩
    simp only [kI, kA] at kC
    refine con_of (E := E0) E0_ok E0_glob (sy := sy) (fun F => L7_ok F hsy) (fun F => noH_ok) (cHasG_w r) hρ hpre hrel hins ?_ ?_
    · rcases kC with ⟨e1, e2⟩ | ⟨e1, e2, e3⟩ <;> simp only [cHasG_con, cHasG_t, yPP_12, yPP_11, yPP_10, yPP_9, yPP_8, yPP_7, yPP_6, yPP_5, yPP_4, yPP_3, yPP_2, yPP_1, yPP_0, AsksL, GTree.asks, FTree.asks, FactsIn, List.append_nil, List.nil_append, List.cons_append, Option.some.injEq, exists_eq', implies_true, and_self, X.bool, X.den, denL, dX, denSub, d_ite2, d_eq_ite2, asB, dY, snoc_nil, d_mhas, d_mat, d_mput, rows_len, List.take_succ_cons, List.take_zero, cond_acc, h1, h3, h4, hsy, sym6, sym10, sym31, sym40, sym41, sym42, sym51, sym52, sym53, sym64, sym65, sym66, sym67, sym68, sym69, hu, h0, e1, e2]
      all_goals (try simp)
    · rcases kC with ⟨e1, e2⟩ | ⟨e1, e2, e3⟩ <;> simp only [cHasG_l, yPP_12, yPP_11, yPP_10, yPP_9, yPP_8, yPP_7, yPP_6, yPP_5, yPP_4, yPP_3, yPP_2, yPP_1, yPP_0, EndsOk, WaysOk, forall_cons, forall_nil, TgtOk, gpair, FactsIn, hold_cons, hold_nil, Option.some.injEq, dZ, X.bool, X.den, denL, dX, denSub, d_ite2, d_eq_ite2, asB, dY, snoc_nil, d_mhas, d_mat, d_mput, rows_len, List.take_succ_cons, List.take_zero, cond_acc, beq_iff_eq, beq_eq_false_iff_ne, ne_eq, h1, h3, h4, hsy, sym6, sym10, sym31, sym40, sym41, sym42, sym51, sym52, sym53, sym64, sym65, sym66, sym67, sym68, sym69, hu, h0, e1, e2, soldE, soldA, hasE, hasA, hofE, hofA, inC]
      all_goals (
        clear hρ hpre hrel hins
        (repeat' apply And.intro) <;> intros <;> first
          | trivial
          | contradiction
          | (exfalso; omega)
          | (simp [*]; done)
          | (by_cases q1 : soldW l c = 0 <;> cases q4 : withinB c 10 10000007 <;> cases q5 : partyB w_ <;> first
              | contradiction
              | (simp [*]; done)
              | (exfalso; simp_all; done)
              | (exfalso; omega)
              | (simp [q1, q4]; omega)))
  · refine con_of (E := E0) E0_ok E0_glob (sy := sy) (fun F => L7_ok F hsy) (fun F => noH_ok) (cHasG_w r) hρ hpre hrel hins ?_ ?_
    · simp only [cHasG_con, cHasG_t, yPP_12, yPP_11, yPP_10, yPP_9, yPP_8, yPP_7, yPP_6, yPP_5, yPP_4, yPP_3, yPP_2, yPP_1, yPP_0, AsksL, GTree.asks, FTree.asks, FactsIn, List.append_nil, List.nil_append, List.cons_append, Option.some.injEq, exists_eq', implies_true, and_self, X.bool, X.den, denL, dX, denSub, d_ite2, d_eq_ite2, asB, dY, snoc_nil, d_mhas, d_mat, d_mput, rows_len, List.take_succ_cons, List.take_zero, cond_acc, h1, h3, h4, hsy, sym6, sym10, sym31, sym40, sym41, sym42, sym51, sym52, sym53, sym64, sym65, sym66, sym67, sym68, sym69]
      try simp [h0]
    · simp only [cHasG_l, yPP_12, yPP_11, yPP_10, yPP_9, yPP_8, yPP_7, yPP_6, yPP_5, yPP_4, yPP_3, yPP_2, yPP_1, yPP_0, EndsOk, WaysOk, forall_cons, forall_nil, TgtOk, gpair, FactsIn, hold_cons, hold_nil, Option.some.injEq, dZ, X.bool, X.den, denL, dX, denSub, d_ite2, d_eq_ite2, asB, dY, snoc_nil, d_mhas, d_mat, d_mput, rows_len, List.take_succ_cons, List.take_zero, cond_acc, beq_iff_eq, beq_eq_false_iff_ne, ne_eq, h1, h3, h4, hsy, sym6, sym10, sym31, sym40, sym41, sym42, sym51, sym52, sym53, sym64, sym65, sym66, sym67, sym68, sym69]
      simp [h0, soldE, soldA, hasE, hasA, hofE, hofA]
noncomputable def cHofG_con : Con := { f := 11, args := [ptgsArg 0 0, .one (.int .i64 3)], N := 1, M := 1, pre := [(.app 20 [.var 1], true)], out := .tuple [.sint .i64 (.app 69 [.var 1, .var 3]), .sint .i64 (.app 68 [.var 1, .var 3])], news := [] }
noncomputable def cHofG_call : Env → CallL := fun E => acallAll E (evH E (L7 E) ((fun _ => noLoops) E) 6)
noncomputable def cHofG_t : GTree := (.fork yPP_0 (.fork yPP_5 (.fork (.op2 .mhas (.app 52 [.var 1]) yPP_2) (.leaf [[]]) (.leaf [[]])) (.leaf [[]])) (.leaf [[]]))
noncomputable def cHofG_l : List (List (X × Bool) × Option Pairs) := [([(.op2 .mhas (.app 52 [.var 1]) yPP_2, true), (yPP_5, true), (yPP_0, true), (yPP_1, true)], some [(yPP_11, .op2 (.mat 1) (.app 52 [.var 1]) yPP_2), (yPP_12, .num 0)]),
  ([(.op2 .mhas (.app 52 [.var 1]) yPP_2, false), (yPP_5, true), (yPP_0, true), (yPP_1, true)], some [(yPP_11, .num 0), (yPP_12, .num 0)]),
  ([(yPP_5, false), (yPP_0, true), (yPP_1, true)], some [(yPP_11, .num 0), (yPP_12, .num 1)]),
  ([(yPP_0, false), (yPP_1, true)], some [(yPP_11, .num 0), (yPP_12, .app 6 [.var 1])])]
theorem cHofG_w (r : Rho) : cHofG_con.fn.ways cHofG_call E0 r cHofG_con.pre cHofG_t = some cHofG_l := by kernel_rfl
set_option maxRecDepth 100000 in
set_option maxHeartbeats 2000000 in
theorem cHofG_cok : cHofG_con.Ok Tryz.prog sy := by
  intro r σ w us hsy hρ hpre hrel hins
  obtain ⟨u0, us, rfl, g0, hi⟩ := ins_cons hins
  obtain ⟨u1, us, rfl, g1, hi⟩ := ins_cons hi
  obtain ⟨c, k3, rfl, h3⟩ := one_int g1
  obtain ⟨l, h1⟩ := ptgs_at hrel (i := 0) rfl
  rw [hρ] at h1 h3
  have h1 : r.val 1 = some (ptgsR l) := h1
  have hmax : (l.length : Int) ≤ 1010 := by
    have := hpre.1
    simp only [X.bool, X.den, denL, dX, denSub, denIte, asB, dY, h1, hsy, sym20, Option.some.injEq, Value.bool.injEq] at this
    exact short_len this
  by_cases h0 : (checkP l).2 = 0
  · have hg := check_good h0
    have hu : uptoP l = l := upto_full h0
    have hw := hg.heldW c
    have kC : (mapHas (heldV l) (kI c) = false ∧ heldW l c = 0) ∨ (mapHas (heldV l) (kI c) = true ∧ mapAt (heldV l) (kI c) 1 = some (.int .i64 (heldW l c)) ∧ True) := by
      rcases hg.held c with ⟨a1, a2⟩ | ⟨a1, a2, _⟩
      · refine .inl ⟨a1, ?_⟩
        have h5 := hg.heldN c
        have h6 := sumH_nonneg (fun w => hg.hasN w c) 41
        rw [hw]
        unfold heldZ at *
        omega
      · exact .inr ⟨a1, by rw [hw]; exact a2, trivial⟩
    simp only [kI, kA] at kC
    refine con_of (E := E0) E0_ok E0_glob (sy := sy) (fun F => L7_ok F hsy) (fun F => noH_ok) (cHofG_w r) hρ hpre hrel hins ?_ ?_
    · rcases kC with ⟨e1, e2⟩ | ⟨e1, e2, e3⟩ <;> simp only [cHofG_con, cHofG_t, yPP_12, yPP_11, yPP_10, yPP_9, yPP_8, yPP_7, yPP_6, yPP_5, yPP_4, yPP_3, yPP_2, yPP_1, yPP_0, AsksL, GTree.asks, FTree.asks, FactsIn, List.append_nil, List.nil_append, List.cons_append, Option.some.injEq, exists_eq', implies_true, and_self, X.bool, X.den, denL, dX, denSub, d_ite2, d_eq_ite2, asB, dY, snoc_nil, d_mhas, d_mat, d_mput, rows_len, List.take_succ_cons, List.take_zero, cond_acc, h1, h3, hsy, sym6, sym10, sym31, sym40, sym41, sym42, sym51, sym52, sym53, sym64, sym65, sym66, sym67, sym68, sym69, hu, h0, e1, e2]
      all_goals (try simp)
    · rcases kC with ⟨e1, e2⟩ | ⟨e1, e2, e3⟩ <;> simp only [cHofG_l, yPP_12, yPP_11, yPP_10, yPP_9, yPP_8, yPP_7, yPP_6, yPP_5, yPP_4, yPP_3, yPP_2, yPP_1, yPP_0, EndsOk, WaysOk, forall_cons, forall_nil, TgtOk, gpair, FactsIn, hold_cons, hold_nil, Option.some.injEq, dZ, X.bool, X.den, denL, dX, denSub, d_ite2, d_eq_ite2, asB, dY, snoc_nil, d_mhas, d_mat, d_mput, rows_len, List.take_succ_cons, List.take_zero, cond_acc, beq_iff_eq, beq_eq_false_iff_ne, ne_eq, h1, h3, hsy, sym6, sym10, sym31, sym40, sym41, sym42, sym51, sym52, sym53, sym64, sym65, sym66, sym67, sym68, sym69, hu, h0, e1, e2, soldE, soldA, hasE, hasA, hofE, hofA, inC]
      all_goals (
        clear hρ hpre hrel hins
        (repeat' apply And.intro) <;> intros <;> first
          | trivial
          | contradiction
          | (exfalso; omega)
          | (simp [*]; done)
          | (by_cases q1 : soldW l c = 0 <;> cases q4 : withinB c 10 10000007 <;> skip <;> first
              | contradiction
              | (simp [*]; done)
              | (exfalso; simp_all; done)
              | (exfalso; omega)
              | (simp [q1, q4]; omega)))
  · refine con_of (E := E0) E0_ok E0_glob (sy := sy) (fun F => L7_ok F hsy) (fun F => noH_ok) (cHofG_w r) hρ hpre hrel hins ?_ ?_
    · simp only [cHofG_con, cHofG_t, yPP_12, yPP_11, yPP_10, yPP_9, yPP_8, yPP_7, yPP_6, yPP_5, yPP_4, yPP_3, yPP_2, yPP_1, yPP_0, AsksL, GTree.asks, FTree.asks, FactsIn, List.append_nil, List.nil_append, List.cons_append, Option.some.injEq, exists_eq', implies_true, and_self, X.bool, X.den, denL, dX, denSub, d_ite2, d_eq_ite2, asB, dY, snoc_nil, d_mhas, d_mat, d_mput, rows_len, List.take_succ_cons, List.take_zero, cond_acc, h1, h3, hsy, sym6, sym10, sym31, sym40, sym41, sym42, sym51, sym52, sym53, sym64, sym65, sym66, sym67, sym68, sym69]
      try simp [h0]
    · simp only [cHofG_l, yPP_12, yPP_11, yPP_10, yPP_9, yPP_8, yPP_7, yPP_6, yPP_5, yPP_4, yPP_3, yPP_2, yPP_1, yPP_0, EndsOk, WaysOk, forall_cons, forall_nil, TgtOk, gpair, FactsIn, hold_cons, hold_nil, Option.some.injEq, dZ, X.bool, X.den, denL, dX, denSub, d_ite2, d_eq_ite2, asB, dY, snoc_nil, d_mhas, d_mat, d_mput, rows_len, List.take_succ_cons, List.take_zero, cond_acc, beq_iff_eq, beq_eq_false_iff_ne, ne_eq, h1, h3, hsy, sym6, sym10, sym31, sym40, sym41, sym42, sym51, sym52, sym53, sym64, sym65, sym66, sym67, sym68, sym69]
      simp [h0, soldE, soldA, hasE, hasA, hofE, hofA]
noncomputable def LPR : Env → CallE := libs [cLib rChk_con, cLib rSold_con, cLib rHas_con, cLib rHeld_con]
theorem LPR_ok (F : List (X × Bool)) {r : Rho} (h : r.sym = sy) : CallsOk (E0.with F r) (LPR (E0.with F r)) := libs_ok fun c hc => by
  simp only [List.mem_cons, List.not_mem_nil, or_false] at hc
  rcases hc with rfl | rfl | rfl | rfl
  · exact lib_ok (E := E0) rChk_cok F h
  · exact lib_ok (E := E0) rSold_cok F h
  · exact lib_ok (E := E0) rHas_cok F h
  · exact lib_ok (E := E0) rHeld_cok F h
noncomputable def rSoldG_con : Con := { f := 6, args := [ptgsArg 0 0, .one (.int .i64 3)], N := 1, M := 1, pre := [(.app 20 [.var 1], true)], out := .tuple [.sint .i64 (.app 65 [.var 1, .var 3]), .sint .i64 (.app 64 [.var 1, .var 3])], news := [] }
noncomputable def rSoldG_call : Env → CallL := fun E => acallAll E (evH E (LPR E) ((fun _ => noLoops) E) 6)
noncomputable def rSoldG_t : GTree := (.fork yPP_0 (.fork yPP_9 (.leaf [[]]) (.fork yPP_10 (.leaf [[]]) (.fork (.op2 .eq (.app 41 [.var 1, .var 3]) (.num 0)) (.leaf [[]]) (.leaf [[]])))) (.leaf [[]]))
noncomputable def rSoldG_l : List (List (X × Bool) × Option Pairs) := [([(yPP_9, true), (yPP_0, true), (yPP_1, true)], some [(yPP_6, .num 0), (yPP_7, .num 1)]),
  ([(yPP_10, true), (yPP_9, false), (yPP_0, true), (yPP_1, true)], some [(yPP_6, .num 0), (yPP_7, .num 1)]),
  ([(.op2 .eq (.app 41 [.var 1, .var 3]) (.num 0), true), (yPP_10, false), (yPP_9, false), (yPP_0, true), (yPP_1, true)], some [(yPP_6, .num 0), (yPP_7, .num 5)]),
  ([(.op2 .eq (.app 41 [.var 1, .var 3]) (.num 0), false), (yPP_10, false), (yPP_9, false), (yPP_0, true), (yPP_1, true)], some [(yPP_6, .app 41 [.var 1, .var 3]), (yPP_7, .num 0)]),
  ([(yPP_0, false), (yPP_1, true)], some [(yPP_6, .num 0), (yPP_7, .app 6 [.var 1])])]
theorem rSoldG_w (r : Rho) : rSoldG_con.fn.ways rSoldG_call E0 r rSoldG_con.pre rSoldG_t = some rSoldG_l := by kernel_rfl
set_option maxRecDepth 100000 in
set_option maxHeartbeats 2000000 in
theorem rSoldG_cok : rSoldG_con.Ok Tryz.prog sy := by
  intro r σ w us hsy hρ hpre hrel hins
  obtain ⟨u0, us, rfl, g0, hi⟩ := ins_cons hins
  obtain ⟨u1, us, rfl, g1, hi⟩ := ins_cons hi
  obtain ⟨c, k3, rfl, h3⟩ := one_int g1
  obtain ⟨l, h1⟩ := ptgs_at hrel (i := 0) rfl
  rw [hρ] at h1 h3
  have h1 : r.val 1 = some (ptgsR l) := h1
  have hmax : (l.length : Int) ≤ 1010 := by
    have := hpre.1
    simp only [X.bool, X.den, denL, dX, denSub, denIte, asB, dY, h1, hsy, sym20, Option.some.injEq, Value.bool.injEq] at this
    exact short_len this
  refine con_of (E := E0) E0_ok E0_glob (sy := sy) (fun F => LPR_ok F hsy) (fun F => noH_ok) (rSoldG_w r) hρ hpre hrel hins ?_ ?_
  · simp only [rSoldG_con, rSoldG_t, yPP_12, yPP_11, yPP_10, yPP_9, yPP_8, yPP_7, yPP_6, yPP_5, yPP_4, yPP_3, yPP_2, yPP_1, yPP_0, AsksL, GTree.asks, FTree.asks, FactsIn, List.append_nil, List.nil_append, List.cons_append, Option.some.injEq, exists_eq', implies_true, and_self, X.bool, X.den, denL, dX, denSub, denIte, asB, dY, h1, h3, hsy, sym6, sym10, sym31, sym40, sym41, sym42, sym51, sym52, sym53, sym64, sym65, sym66, sym67, sym68, sym69]
    try simp
  · simp only [rSoldG_l, yPP_12, yPP_11, yPP_10, yPP_9, yPP_8, yPP_7, yPP_6, yPP_5, yPP_4, yPP_3, yPP_2, yPP_1, yPP_0, EndsOk, WaysOk, forall_cons, forall_nil, TgtOk, gpair, FactsIn, hold_cons, hold_nil, Option.some.injEq, dZ, X.bool, X.den, denL, dX, denSub, denIte, asB, dY, beq_iff_eq, beq_eq_false_iff_ne, ne_eq, h1, h3, hsy, sym6, sym10, sym31, sym40, sym41, sym42, sym51, sym52, sym53, sym64, sym65, sym66, sym67, sym68, sym69, soldE, soldA, hasE, hasA, hofE, hofA, inC, withinB, partyB]
    clear hρ hrel hi hins
    (repeat' apply And.intro) <;> intros <;> first
      | trivial
      | contradiction
      | (exfalso; omega)
      | (simp [*]; done)
      | (by_cases q0 : (checkP l).2 = 0 <;> by_cases q1 : soldW l c = 0 <;> by_cases q2 : 10 ≤ c <;> by_cases q3 : c ≤ 10000007 <;> skip <;> first
          | contradiction
          | (simp [q0, q1, q2, q3]; done)
          | (exfalso; omega)
          | (simp [*]; done)
          | (simp [q0, q1, q2, q3]; omega))
noncomputable def rHasG_con : Con := { f := 8, args := [ptgsArg 0 0, .one (.int .i64 3), .one (.int .i64 4)], N := 1, M := 1, pre := [(.app 20 [.var 1], true)], out := .tuple [.sint .i64 (.app 67 [.var 1, .var 3, .var 4]), .sint .i64 (.app 66 [.var 1, .var 3, .var 4])], news := [] }
noncomputable def rHasG_call : Env → CallL := fun E => acallAll E (evH E (LPR E) ((fun _ => noLoops) E) 6)
noncomputable def rHasG_t : GTree := (.fork yPP_0 (.fork (.op2 .lt (.var 3) (.num 0)) (.leaf [[]]) (.fork (.op2 .lt (.num 40) (.var 3)) (.leaf [[]]) (.fork (.op2 .lt (.var 4) (.num 10)) (.leaf [[]]) (.fork (.op2 .lt (.num 10000007) (.var 4)) (.leaf [[]]) (.leaf [[]]))))) (.leaf [[]]))
noncomputable def rHasG_l : List (List (X × Bool) × Option Pairs) := [([(.op2 .lt (.var 3) (.num 0), true), (yPP_0, true), (yPP_1, true)], some [(yPP_3, .num 0), (yPP_4, .num 1)]),
  ([(.op2 .lt (.num 40) (.var 3), true), (.op2 .lt (.var 3) (.num 0), false), (yPP_0, true), (yPP_1, true)], some [(yPP_3, .num 0), (yPP_4, .num 1)]),
  ([(.op2 .lt (.var 4) (.num 10), true), (.op2 .lt (.num 40) (.var 3), false), (.op2 .lt (.var 3) (.num 0), false), (yPP_0, true), (yPP_1, true)], some [(yPP_3, .num 0), (yPP_4, .num 1)]),
  ([(.op2 .lt (.num 10000007) (.var 4), true), (.op2 .lt (.var 4) (.num 10), false), (.op2 .lt (.num 40) (.var 3), false), (.op2 .lt (.var 3) (.num 0), false), (yPP_0, true), (yPP_1, true)], some [(yPP_3, .num 0), (yPP_4, .num 1)]),
  ([(.op2 .lt (.num 10000007) (.var 4), false), (.op2 .lt (.var 4) (.num 10), false), (.op2 .lt (.num 40) (.var 3), false), (.op2 .lt (.var 3) (.num 0), false), (yPP_0, true), (yPP_1, true)], some [(yPP_3, .app 40 [.var 1, .var 3, .var 4]), (yPP_4, .num 0)]),
  ([(yPP_0, false), (yPP_1, true)], some [(yPP_3, .num 0), (yPP_4, .app 6 [.var 1])])]
theorem rHasG_w (r : Rho) : rHasG_con.fn.ways rHasG_call E0 r rHasG_con.pre rHasG_t = some rHasG_l := by kernel_rfl
set_option maxRecDepth 100000 in
set_option maxHeartbeats 2000000 in
theorem rHasG_cok : rHasG_con.Ok Tryz.prog sy := by
  intro r σ w us hsy hρ hpre hrel hins
  obtain ⟨u0, us, rfl, g0, hi⟩ := ins_cons hins
  obtain ⟨u1, us, rfl, g1, hi⟩ := ins_cons hi
  obtain ⟨u2, us, rfl, g2, hi⟩ := ins_cons hi
  obtain ⟨w_, k3, rfl, h3⟩ := one_int g1
  obtain ⟨c, k4, rfl, h4⟩ := one_int g2
  obtain ⟨l, h1⟩ := ptgs_at hrel (i := 0) rfl
  rw [hρ] at h1 h3 h4
  have h1 : r.val 1 = some (ptgsR l) := h1
  have hmax : (l.length : Int) ≤ 1010 := by
    have := hpre.1
    simp only [X.bool, X.den, denL, dX, denSub, denIte, asB, dY, h1, hsy, sym20, Option.some.injEq, Value.bool.injEq] at this
    exact short_len this
  refine con_of (E := E0) E0_ok E0_glob (sy := sy) (fun F => LPR_ok F hsy) (fun F => noH_ok) (rHasG_w r) hρ hpre hrel hins ?_ ?_
  · simp only [rHasG_con, rHasG_t, yPP_12, yPP_11, yPP_10, yPP_9, yPP_8, yPP_7, yPP_6, yPP_5, yPP_4, yPP_3, yPP_2, yPP_1, yPP_0, AsksL, GTree.asks, FTree.asks, FactsIn, List.append_nil, List.nil_append, List.cons_append, Option.some.injEq, exists_eq', implies_true, and_self, X.bool, X.den, denL, dX, denSub, denIte, asB, dY, h1, h3, h4, hsy, sym6, sym10, sym31, sym40, sym41, sym42, sym51, sym52, sym53, sym64, sym65, sym66, sym67, sym68, sym69]
    try simp
  · simp only [rHasG_l, yPP_12, yPP_11, yPP_10, yPP_9, yPP_8, yPP_7, yPP_6, yPP_5, yPP_4, yPP_3, yPP_2, yPP_1, yPP_0, EndsOk, WaysOk, forall_cons, forall_nil, TgtOk, gpair, FactsIn, hold_cons, hold_nil, Option.some.injEq, dZ, X.bool, X.den, denL, dX, denSub, denIte, asB, dY, beq_iff_eq, beq_eq_false_iff_ne, ne_eq, h1, h3, h4, hsy, sym6, sym10, sym31, sym40, sym41, sym42, sym51, sym52, sym53, sym64, sym65, sym66, sym67, sym68, sym69, soldE, soldA, hasE, hasA, hofE, hofA, inC, withinB, partyB]
    clear hρ hrel hi hins
    (repeat' apply And.intro) <;> intros <;> first
      | trivial
      | contradiction
      | (exfalso; omega)
      | (simp [*]; done)
      | (by_cases q0 : (checkP l).2 = 0 <;> by_cases q1 : soldW l c = 0 <;> by_cases q2 : 10 ≤ c <;> by_cases q3 : c ≤ 10000007 <;> (by_cases q5 : w_ = 0 <;> by_cases q6 : 1 ≤ w_ <;> by_cases q7 : w_ ≤ 40) <;> first
          | contradiction
          | (simp [q0, q1, q2, q3, q5, q6, q7]; done)
          | (exfalso; omega)
          | (simp [*]; done)
          | (simp [q0, q1, q2, q3, q5, q6, q7]; omega))
noncomputable def rHofG_con : Con := { f := 12, args := [ptgsArg 0 0, .one (.int .i64 3)], N := 1, M := 1, pre := [(.app 20 [.var 1], true)], out := .tuple [.sint .i64 (.app 69 [.var 1, .var 3]), .sint .i64 (.app 68 [.var 1, .var 3])], news := [] }
noncomputable def rHofG_call : Env → CallL := fun E => acallAll E (evH E (LPR E) ((fun _ => noLoops) E) 6)
noncomputable def rHofG_t : GTree := (.fork yPP_0 (.fork yPP_9 (.leaf [[]]) (.fork yPP_10 (.leaf [[]]) (.leaf [[]]))) (.leaf [[]]))
noncomputable def rHofG_l : List (List (X × Bool) × Option Pairs) := [([(yPP_9, true), (yPP_0, true), (yPP_1, true)], some [(yPP_11, .num 0), (yPP_12, .num 1)]),
  ([(yPP_10, true), (yPP_9, false), (yPP_0, true), (yPP_1, true)], some [(yPP_11, .num 0), (yPP_12, .num 1)]),
  ([(yPP_10, false), (yPP_9, false), (yPP_0, true), (yPP_1, true)], some [(yPP_11, .app 42 [.var 1, .var 3]), (yPP_12, .num 0)]),
  ([(yPP_0, false), (yPP_1, true)], some [(yPP_11, .num 0), (yPP_12, .app 6 [.var 1])])]
theorem rHofG_w (r : Rho) : rHofG_con.fn.ways rHofG_call E0 r rHofG_con.pre rHofG_t = some rHofG_l := by kernel_rfl
set_option maxRecDepth 100000 in
set_option maxHeartbeats 2000000 in
theorem rHofG_cok : rHofG_con.Ok Tryz.prog sy := by
  intro r σ w us hsy hρ hpre hrel hins
  obtain ⟨u0, us, rfl, g0, hi⟩ := ins_cons hins
  obtain ⟨u1, us, rfl, g1, hi⟩ := ins_cons hi
  obtain ⟨c, k3, rfl, h3⟩ := one_int g1
  obtain ⟨l, h1⟩ := ptgs_at hrel (i := 0) rfl
  rw [hρ] at h1 h3
  have h1 : r.val 1 = some (ptgsR l) := h1
  have hmax : (l.length : Int) ≤ 1010 := by
    have := hpre.1
    simp only [X.bool, X.den, denL, dX, denSub, denIte, asB, dY, h1, hsy, sym20, Option.some.injEq, Value.bool.injEq] at this
    exact short_len this
  refine con_of (E := E0) E0_ok E0_glob (sy := sy) (fun F => LPR_ok F hsy) (fun F => noH_ok) (rHofG_w r) hρ hpre hrel hins ?_ ?_
  · simp only [rHofG_con, rHofG_t, yPP_12, yPP_11, yPP_10, yPP_9, yPP_8, yPP_7, yPP_6, yPP_5, yPP_4, yPP_3, yPP_2, yPP_1, yPP_0, AsksL, GTree.asks, FTree.asks, FactsIn, List.append_nil, List.nil_append, List.cons_append, Option.some.injEq, exists_eq', implies_true, and_self, X.bool, X.den, denL, dX, denSub, denIte, asB, dY, h1, h3, hsy, sym6, sym10, sym31, sym40, sym41, sym42, sym51, sym52, sym53, sym64, sym65, sym66, sym67, sym68, sym69]
    try simp
  · simp only [rHofG_l, yPP_12, yPP_11, yPP_10, yPP_9, yPP_8, yPP_7, yPP_6, yPP_5, yPP_4, yPP_3, yPP_2, yPP_1, yPP_0, EndsOk, WaysOk, forall_cons, forall_nil, TgtOk, gpair, FactsIn, hold_cons, hold_nil, Option.some.injEq, dZ, X.bool, X.den, denL, dX, denSub, denIte, asB, dY, beq_iff_eq, beq_eq_false_iff_ne, ne_eq, h1, h3, hsy, sym6, sym10, sym31, sym40, sym41, sym42, sym51, sym52, sym53, sym64, sym65, sym66, sym67, sym68, sym69, soldE, soldA, hasE, hasA, hofE, hofA, inC, withinB, partyB]
    clear hρ hrel hi hins
    (repeat' apply And.intro) <;> intros <;> first
      | trivial
      | contradiction
      | (exfalso; omega)
      | (simp [*]; done)
      | (by_cases q0 : (checkP l).2 = 0 <;> by_cases q1 : soldW l c = 0 <;> by_cases q2 : 10 ≤ c <;> by_cases q3 : c ≤ 10000007 <;> skip <;> first
          | contradiction
          | (simp [q0, q1, q2, q3]; done)
          | (exfalso; omega)
          | (simp [*]; done)
          | (simp [q0, q1, q2, q3]; omega))
end Go.Proofs.YtpdemfamfmeemacGreat.Zs
