/-
  Contracts of Merge and Change on both sides.
-/
import Derived.Test.YtpdemfamfmeemacGreatDoorMeConM
import Derived.Test.YtpdemfamfmeemacGreatDoorMeConV
import Derived.Test.YtpdemfamfmeemacGreatDoorMeConO
import Derived.KernelRfl
set_option linter.unusedSimpArgs false
set_option linter.unusedVariables false
namespace Go.Proofs.YtpdemfamfmeemacGreatDoor.Zs
open Go
theorem negAll_snoc (l : List Shr) (p : Shr) : negAll (l ++ [p]) = negAll l ++ [⟨p.party, IntKind.i64.wrap (0 - p.pence)⟩] := by simp [negAll]
theorem both_snoc (l m : List Shr) (p : Shr) : bothS (l ++ [p]) m = bothS l m ++ [⟨p.party, IntKind.i64.wrap (0 - p.pence)⟩] := by simp [bothS, negAll_snoc, List.append_assoc]
theorem negAll_len (l : List Shr) : (negAll l).length = l.length := by simp [negAll]
theorem both_len (l m : List Shr) : (bothS l m).length = m.length + l.length := by simp [bothS, negAll_len]
theorem both_nil (l : List Shr) : bothS l [] = negAll l := rfl
theorem nil_both (m : List Shr) : bothS [] m = m := by simp [bothS, negAll]
theorem chkS_ways (l : List Shr) : chkS l = 0 ∨ (chkS l = 1 ∧ ¬ (1000 : Int) < l.length) ∨ (chkS l = 2 ∧ (1000 : Int) < l.length) := by
  unfold chkS
  by_cases h : (1000 : Int) < l.length
  · rw [if_pos h]; exact .inr (.inr ⟨rfl, h⟩)
  · rw [if_neg h]
    split
    · exact .inl rfl
    · exact .inr (.inl ⟨rfl, h⟩)
theorem chk_len {l : List Shr} (h : chkS l = 0) : (l.length : Int) ≤ 1000 := ((chkS_iff l).1 h).1
theorem mrg_nil : mrgR [] = [] := rfl
theorem chk_nil : chkS [] = 0 := rfl
theorem mrg_one {l : List Shr} (h : chkS l = 0) : chgOf (accB (accA []) l) = mrgR l := by
  have := chg_mrg chk_nil h
  rwa [show negAll [] = [] from rfl, List.append_nil] at this
theorem mrg_two {l m : List Shr} (h : chkS l = 0) (h' : chkS m = 0) : chgOf (accB (accA l) m) = mrgR (bothS l m) := chg_mrg h h'
theorem mrg_neg {l : List Shr} (h : chkS l = 0) : chgOf (accB (accA l) []) = mrgR (negAll l) := chg_mrg h chk_nil
def orH (h g : AF → ASt → Option (List Out)) (f : AF) (S : ASt) : Option (List Out) := match h f S with
  | some r => some r
  | none => g f S
theorem orH_ok {E : Env} {ro : Option Nat} {c : Code} {h g : AF → ASt → Option (List Out)} (h1 : CodeOk E ro c h) (h2 : CodeOk E ro c g) : CodeOk E ro c (orH h g) := fun f S outs e => by
  unfold orH at e
  split at e
  · rename_i r hr
    cases e
    exact h1 f S _ hr
  · exact h2 f S outs e
def rng_vs : List X := [.num 0]
noncomputable def LPM : Env → CallE := libs [cLib cChgENL_con, cLib cChg0NL_con, cLib cChg1NL_con]
theorem LPM_ok (F : List (X × Bool)) {r : Rho} (h : r.sym = sy) : CallsOk (E0.with F r) (LPM (E0.with F r)) := libs_ok fun c hc => by
  simp only [List.mem_cons, List.not_mem_nil, or_false] at hc
  rcases hc with rfl | rfl | rfl
  · exact lib_ok (E := E0) cChgENL_cok F h
  · exact lib_ok (E := E0) cChg0NL_cok F h
  · exact lib_ok (E := E0) cChg1NL_cok F h
noncomputable def LRM : Env → CallE := libs [cLib rSha_con, cLib rMrgN_con, cLib rMrgY_con]
theorem LRM_ok (F : List (X × Bool)) {r : Rho} (h : r.sym = sy) : CallsOk (E0.with F r) (LRM (E0.with F r)) := libs_ok fun c hc => by
  simp only [List.mem_cons, List.not_mem_nil, or_false] at hc
  rcases hc with rfl | rfl | rfl
  · exact lib_ok (E := E0) rSha_cok F h
  · exact lib_ok (E := E0) rMrgN_cok F h
  · exact lib_ok (E := E0) rMrgY_cok F h
noncomputable def cMgE_con : Con := { f := 6, args := [shrsArg 0 0], N := 1, M := 1, pre := [(.app 22 [.var 1], true), (.op2 .eq (.app 110 [.var 1]) (.num 0), false)], out := .tuple [.nilslice, .sint .i64 (.app 110 [.var 1])], news := [] }
noncomputable def cMgE_call : Env → CallL := fun E => acallAll E (evH E (LPM E) ((fun _ => noLoops) E) 3)
def yEN_0 : X := .op2 .eq (.app 110 [(.var 1)]) (.num 0)
def yEN_1 : X := .op2 .eq (.op1 .len (.app 111 [(.var 4), (.app 112 [(.var 1)])])) (.num 0)
def yEN_2 : X := .op2 .eq (.op1 .len (.var 1)) (.num 0)
def yEN_3 : X := .op2 .lt (.num 0) (.op1 .len (.var 4))
def yEN_4 : X := .op2 .eq (.app 110 [(.var 4)]) (.num 0)
def yEN_5 : X := .op2 .lt (.num 1000000000) (.op1 .len (.var 4))
def yEN_6 : X := .app 22 [(.var 1)]
def yEN_7 : X := .op2 .eq (.op1 .len (.app 120 [(.app 121 [(.var 1)])])) (.num 0)
def yEN_8 : X := .op2 .eq (.op1 .len (.app 120 [(.var 4)])) (.num 0)
def yEN_9 : X := .op2 .lt (.var 110) (.op1 .len (.var 1))
def yEN_10 : X := .app 22 [(.var 4)]
def yEN_11 : X := .app 123 [(.var 1), (.var 4)]
def yEN_12 : X := .app 22 [(.app 121 [(.var 1)])]
def yEN_13 : X := .op2 .lt (.num 1000000000) (.op2 .add (.op1 .len (.var 111)) (.num 1))
def yEN_14 : X := .op2 .eq (.op1 .len (.app 118 [(.var 1)])) (.num 0)
def yEN_15 : X := .op2 .eq (.op1 .len (.app 117 [(.var 4)])) (.num 0)
def yEN_16 : X := .app 115 [(.app 111 [(.var 4), (.app 112 [(.var 1)])])]
def yEN_17 : X := .op1 (.kind .i64) (.op1 (.wrap .i64) (.op2 .sub (.num 0) (.cell 1 (.var 1) (.var 110))))
def yEN_18 : X := .op2 .lt (.var 110) (.num 0)
def yEN_19 : X := .op2 .eq (.op1 .len (.app 117 [(.var 1)])) (.num 0)
def yEN_20 : X := .op2 .eq (.op1 .len (.app 120 [(.var 1)])) (.num 0)
def yEN_21 : X := .op2 .eq (.op1 .len (.app 120 [yEN_11])) (.num 0)
def yEN_22 : X := .app 110 [(.var 1)]
def yEN_23 : X := .app 115 [(.app 117 [(.var 1)])]
def yEN_24 : X := .op1 (.wrap .i64) (.op2 .add (.var 110) (.num 1))
def yEN_25 : X := .op1 (.kind .i64) (.cell 0 (.var 1) (.var 110))
def yEN_26 : X := .op2 .lt (.num 1000000000) (.op2 .add (.op1 .len (.var 4)) (.num 1))
noncomputable def cMgE_t : GTree := (.leaf [[]])
noncomputable def cMgE_l : List (List (X × Bool) × Option Pairs) := [([(yEN_6, true), (yEN_0, false)], some [(yEN_22, yEN_22)])]
theorem cMgE_w (r : Rho) : cMgE_con.fn.ways cMgE_call E0 r cMgE_con.pre cMgE_t = some cMgE_l := by kernel_rfl
set_option maxHeartbeats 1000000 in
theorem cMgE_cok : cMgE_con.Ok Tryz.prog sy := by
  intro r σ w us hsy hρ hpre hrel hins
  obtain ⟨l, h1⟩ := shrs_at hrel (i := 0) rfl
  rw [hρ] at h1
  have h1 : r.val 1 = some (shrsR l) := h1
  refine con_of (E := E0) E0_ok E0_glob (sy := sy) (fun F => LPM_ok F hsy) (fun F => noH_ok) (cMgE_w r) hρ hpre hrel hins ?_ ?_
  · simp only [cMgE_con, cMgE_t, yEN_26, yEN_25, yEN_24, yEN_23, yEN_22, yEN_21, yEN_20, yEN_19, yEN_18, yEN_17, yEN_16, yEN_15, yEN_14, yEN_13, yEN_12, yEN_11, yEN_10, yEN_9, yEN_8, yEN_7, yEN_6, yEN_5, yEN_4, yEN_3, yEN_2, yEN_1, yEN_0, AsksL, GTree.asks, FTree.asks, FactsIn, List.append_nil, List.nil_append, List.cons_append, Option.some.injEq, exists_eq', implies_true, and_self, X.bool, X.den, denL, dX, denSub, denIte, asB, dY, h1, hsy, sym10, sym22, sym110, sym111, sym112, sym115, sym116, sym117, sym118, sym120, sym121, sym123]
    try simp
  · simp only [cMgE_l, yEN_26, yEN_25, yEN_24, yEN_23, yEN_22, yEN_21, yEN_20, yEN_19, yEN_18, yEN_17, yEN_16, yEN_15, yEN_14, yEN_13, yEN_12, yEN_11, yEN_10, yEN_9, yEN_8, yEN_7, yEN_6, yEN_5, yEN_4, yEN_3, yEN_2, yEN_1, yEN_0, EndsOk, WaysOk, forall_cons, forall_nil, TgtOk, gpair, FactsIn, hold_cons, hold_nil, Option.some.injEq, dZ, X.bool, X.den, denL, dX, denSub, denIte, asB, dY, beq_iff_eq, beq_eq_false_iff_ne, ne_eq, h1, hsy, sym10, sym22, sym110, sym111, sym112, sym115, sym116, sym117, sym118, sym120, sym121, sym123]
    try simp
noncomputable def cMg0_con : Con := { f := 6, args := [shrsArg 0 0], N := 1, M := 1, pre := [(.app 22 [.var 1], true), (.op2 .eq (.app 110 [.var 1]) (.num 0), true), (.op2 .eq (.op1 .len (.app 117 [.var 1])) (.num 0), true)], out := .tuple [.nilslice, .int .i64 0], news := [] }
noncomputable def cMg0_call : Env → CallL := fun E => acallAll E (evH E (LPM E) ((fun _ => noLoops) E) 3)
noncomputable def cMg0_t : GTree := (.leaf [[]])
noncomputable def cMg0_l : List (List (X × Bool) × Option Pairs) := [([(yEN_6, true), (yEN_0, true), (yEN_19, true)], some [])]
theorem cMg0_w (r : Rho) : cMg0_con.fn.ways cMg0_call E0 r cMg0_con.pre cMg0_t = some cMg0_l := by kernel_rfl
set_option maxHeartbeats 1000000 in
theorem cMg0_cok : cMg0_con.Ok Tryz.prog sy := by
  intro r σ w us hsy hρ hpre hrel hins
  obtain ⟨l, h1⟩ := shrs_at hrel (i := 0) rfl
  rw [hρ] at h1
  have h1 : r.val 1 = some (shrsR l) := h1
  refine con_of (E := E0) E0_ok E0_glob (sy := sy) (fun F => LPM_ok F hsy) (fun F => noH_ok) (cMg0_w r) hρ hpre hrel hins ?_ ?_
  · simp only [cMg0_con, cMg0_t, yEN_26, yEN_25, yEN_24, yEN_23, yEN_22, yEN_21, yEN_20, yEN_19, yEN_18, yEN_17, yEN_16, yEN_15, yEN_14, yEN_13, yEN_12, yEN_11, yEN_10, yEN_9, yEN_8, yEN_7, yEN_6, yEN_5, yEN_4, yEN_3, yEN_2, yEN_1, yEN_0, AsksL, GTree.asks, FTree.asks, FactsIn, List.append_nil, List.nil_append, List.cons_append, Option.some.injEq, exists_eq', implies_true, and_self, X.bool, X.den, denL, dX, denSub, denIte, asB, dY, h1, hsy, sym10, sym22, sym110, sym111, sym112, sym115, sym116, sym117, sym118, sym120, sym121, sym123]
    try simp
  · simp only [cMg0_l, yEN_26, yEN_25, yEN_24, yEN_23, yEN_22, yEN_21, yEN_20, yEN_19, yEN_18, yEN_17, yEN_16, yEN_15, yEN_14, yEN_13, yEN_12, yEN_11, yEN_10, yEN_9, yEN_8, yEN_7, yEN_6, yEN_5, yEN_4, yEN_3, yEN_2, yEN_1, yEN_0, EndsOk, WaysOk, forall_cons, forall_nil, TgtOk, gpair, FactsIn, hold_cons, hold_nil, Option.some.injEq, dZ, X.bool, X.den, denL, dX, denSub, denIte, asB, dY, beq_iff_eq, beq_eq_false_iff_ne, ne_eq, h1, hsy, sym10, sym22, sym110, sym111, sym112, sym115, sym116, sym117, sym118, sym120, sym121, sym123]
    try simp
noncomputable def cMg1_con : Con := { f := 6, args := [shrsArg 0 0], N := 1, M := 2, pre := [(.app 22 [.var 1], true), (.op2 .eq (.app 110 [.var 1]) (.num 0), true), (.op2 .eq (.op1 .len (.app 117 [.var 1])) (.num 0), false)], out := .tuple [.slo 1 2 (.op1 .len (.app 115 [.app 117 [.var 1]])), .int .i64 0], news := [(1, .rows 2 shrSch (.num 0) (.app 115 [.app 117 [.var 1]]) true 25)] }
noncomputable def cMg1_call : Env → CallL := fun E => acallAll E (evH E (LPM E) ((fun _ => noLoops) E) 3)
noncomputable def cMg1_t : GTree := (.leaf [[(1, 1)]])
noncomputable def cMg1_l : List (List (X × Bool) × Option Pairs) := [([(yEN_6, true), (yEN_0, true), (yEN_19, false)], some [(.op1 .len yEN_23, .op1 .len yEN_23), (yEN_23, yEN_23)])]
theorem cMg1_w (r : Rho) : cMg1_con.fn.ways cMg1_call E0 r cMg1_con.pre cMg1_t = some cMg1_l := by kernel_rfl
set_option maxHeartbeats 1000000 in
theorem cMg1_cok : cMg1_con.Ok Tryz.prog sy := by
  intro r σ w us hsy hρ hpre hrel hins
  obtain ⟨l, h1⟩ := shrs_at hrel (i := 0) rfl
  rw [hρ] at h1
  have h1 : r.val 1 = some (shrsR l) := h1
  refine con_of (E := E0) E0_ok E0_glob (sy := sy) (fun F => LPM_ok F hsy) (fun F => noH_ok) (cMg1_w r) hρ hpre hrel hins ?_ ?_
  · simp only [cMg1_con, cMg1_t, yEN_26, yEN_25, yEN_24, yEN_23, yEN_22, yEN_21, yEN_20, yEN_19, yEN_18, yEN_17, yEN_16, yEN_15, yEN_14, yEN_13, yEN_12, yEN_11, yEN_10, yEN_9, yEN_8, yEN_7, yEN_6, yEN_5, yEN_4, yEN_3, yEN_2, yEN_1, yEN_0, AsksL, GTree.asks, FTree.asks, FactsIn, List.append_nil, List.nil_append, List.cons_append, Option.some.injEq, exists_eq', implies_true, and_self, X.bool, X.den, denL, dX, denSub, denIte, asB, dY, h1, hsy, sym10, sym22, sym110, sym111, sym112, sym115, sym116, sym117, sym118, sym120, sym121, sym123]
    try simp
  · simp only [cMg1_l, yEN_26, yEN_25, yEN_24, yEN_23, yEN_22, yEN_21, yEN_20, yEN_19, yEN_18, yEN_17, yEN_16, yEN_15, yEN_14, yEN_13, yEN_12, yEN_11, yEN_10, yEN_9, yEN_8, yEN_7, yEN_6, yEN_5, yEN_4, yEN_3, yEN_2, yEN_1, yEN_0, EndsOk, WaysOk, forall_cons, forall_nil, TgtOk, gpair, FactsIn, hold_cons, hold_nil, Option.some.injEq, dZ, X.bool, X.den, denL, dX, denSub, denIte, asB, dY, beq_iff_eq, beq_eq_false_iff_ne, ne_eq, h1, hsy, sym10, sym22, sym110, sym111, sym112, sym115, sym116, sym117, sym118, sym120, sym121, sym123]
    try simp
noncomputable def rMgE_con : Con := { f := 7, args := [shrsArg 0 0], N := 1, M := 1, pre := [(.app 22 [.var 1], true), (.op2 .eq (.app 110 [.var 1]) (.num 0), false)], out := .tuple [.nilslice, .sint .i64 (.app 110 [.var 1])], news := [] }
noncomputable def rMgE_call : Env → CallL := fun E => acallAll E (evH E (LRM E) ((fun _ => noLoops) E) 3)
noncomputable def rMgE_t : GTree := (.leaf [[]])
noncomputable def rMgE_l : List (List (X × Bool) × Option Pairs) := [([(yEN_6, true), (yEN_0, false)], some [(yEN_22, yEN_22)])]
theorem rMgE_w (r : Rho) : rMgE_con.fn.ways rMgE_call E0 r rMgE_con.pre rMgE_t = some rMgE_l := by kernel_rfl
set_option maxHeartbeats 1000000 in
theorem rMgE_cok : rMgE_con.Ok Tryz.prog sy := by
  intro r σ w us hsy hρ hpre hrel hins
  obtain ⟨l, h1⟩ := shrs_at hrel (i := 0) rfl
  rw [hρ] at h1
  have h1 : r.val 1 = some (shrsR l) := h1
  refine con_of (E := E0) E0_ok E0_glob (sy := sy) (fun F => LRM_ok F hsy) (fun F => noH_ok) (rMgE_w r) hρ hpre hrel hins ?_ ?_
  · simp only [rMgE_con, rMgE_t, yEN_26, yEN_25, yEN_24, yEN_23, yEN_22, yEN_21, yEN_20, yEN_19, yEN_18, yEN_17, yEN_16, yEN_15, yEN_14, yEN_13, yEN_12, yEN_11, yEN_10, yEN_9, yEN_8, yEN_7, yEN_6, yEN_5, yEN_4, yEN_3, yEN_2, yEN_1, yEN_0, AsksL, GTree.asks, FTree.asks, FactsIn, List.append_nil, List.nil_append, List.cons_append, Option.some.injEq, exists_eq', implies_true, and_self, X.bool, X.den, denL, dX, denSub, denIte, asB, dY, h1, hsy, sym10, sym22, sym110, sym111, sym112, sym115, sym116, sym117, sym118, sym120, sym121, sym123]
    try simp
  · simp only [rMgE_l, yEN_26, yEN_25, yEN_24, yEN_23, yEN_22, yEN_21, yEN_20, yEN_19, yEN_18, yEN_17, yEN_16, yEN_15, yEN_14, yEN_13, yEN_12, yEN_11, yEN_10, yEN_9, yEN_8, yEN_7, yEN_6, yEN_5, yEN_4, yEN_3, yEN_2, yEN_1, yEN_0, EndsOk, WaysOk, forall_cons, forall_nil, TgtOk, gpair, FactsIn, hold_cons, hold_nil, Option.some.injEq, dZ, X.bool, X.den, denL, dX, denSub, denIte, asB, dY, beq_iff_eq, beq_eq_false_iff_ne, ne_eq, h1, hsy, sym10, sym22, sym110, sym111, sym112, sym115, sym116, sym117, sym118, sym120, sym121, sym123]
    try simp
noncomputable def rMg0_con : Con := { f := 7, args := [shrsArg 0 0], N := 1, M := 1, pre := [(.app 22 [.var 1], true), (.op2 .eq (.app 110 [.var 1]) (.num 0), true), (.op2 .eq (.op1 .len (.app 117 [.var 1])) (.num 0), true)], out := .tuple [.nilslice, .int .i64 0], news := [] }
noncomputable def rMg0_call : Env → CallL := fun E => acallAll E (evH E (LRM E) ((fun _ => noLoops) E) 3)
noncomputable def rMg0_t : GTree := (.fork yEN_20 (.leaf [[]]) .bad)
noncomputable def rMg0_l : List (List (X × Bool) × Option Pairs) := [([(yEN_20, true), (yEN_6, true), (yEN_0, true), (yEN_19, true)], some []),
  ([(yEN_20, false), (yEN_6, true), (yEN_0, true), (yEN_19, true)], none)]
theorem rMg0_w (r : Rho) : rMg0_con.fn.ways rMg0_call E0 r rMg0_con.pre rMg0_t = some rMg0_l := by kernel_rfl
set_option maxHeartbeats 1000000 in
theorem rMg0_cok : rMg0_con.Ok Tryz.prog sy := by
  intro r σ w us hsy hρ hpre hrel hins
  obtain ⟨l, h1⟩ := shrs_at hrel (i := 0) rfl
  rw [hρ] at h1
  have h1 : r.val 1 = some (shrsR l) := h1
  have k1 : chkS l = 0 := by
    have := hpre.2.1
    simpa only [X.bool, X.den, denL, dX, denSub, denIte, asB, dY, h1, hsy, sym110, Option.some.injEq, Value.bool.injEq, beq_iff_eq] using this
  refine con_of (E := E0) E0_ok E0_glob (sy := sy) (fun F => LRM_ok F hsy) (fun F => noH_ok) (rMg0_w r) hρ hpre hrel hins ?_ ?_
  · simp only [rMg0_con, rMg0_t, yEN_26, yEN_25, yEN_24, yEN_23, yEN_22, yEN_21, yEN_20, yEN_19, yEN_18, yEN_17, yEN_16, yEN_15, yEN_14, yEN_13, yEN_12, yEN_11, yEN_10, yEN_9, yEN_8, yEN_7, yEN_6, yEN_5, yEN_4, yEN_3, yEN_2, yEN_1, yEN_0, AsksL, GTree.asks, FTree.asks, FactsIn, List.append_nil, List.nil_append, List.cons_append, Option.some.injEq, exists_eq', implies_true, and_self, X.bool, X.den, denL, dX, denSub, denIte, asB, dY, h1, hsy, sym10, sym22, sym110, sym111, sym112, sym115, sym116, sym117, sym118, sym120, sym121, sym123]
    try simp
  · simp only [rMg0_l, yEN_26, yEN_25, yEN_24, yEN_23, yEN_22, yEN_21, yEN_20, yEN_19, yEN_18, yEN_17, yEN_16, yEN_15, yEN_14, yEN_13, yEN_12, yEN_11, yEN_10, yEN_9, yEN_8, yEN_7, yEN_6, yEN_5, yEN_4, yEN_3, yEN_2, yEN_1, yEN_0, EndsOk, WaysOk, forall_cons, forall_nil, TgtOk, gpair, FactsIn, hold_cons, hold_nil, Option.some.injEq, dZ, X.bool, X.den, denL, dX, denSub, denIte, asB, dY, beq_iff_eq, beq_eq_false_iff_ne, ne_eq, h1, hsy, sym10, sym22, sym110, sym111, sym112, sym115, sym116, sym117, sym118, sym120, sym121, sym123]
    have e := mrg_one k1
    have e2 := chg_len (accB (accA []) l)
    have e3 := congrArg List.length e
    clear hsy hρ hpre hrel hins h1
    (repeat' apply And.intro) <;> intros <;> first
      | trivial
      | contradiction
      | (rw [e]; done)
      | (simp [e]; done)
      | (exfalso; omega)
      | (simp_all; done)
      | (exfalso; simp_all; done)
noncomputable def rMg1_con : Con := { f := 7, args := [shrsArg 0 0], N := 1, M := 2, pre := [(.app 22 [.var 1], true), (.op2 .eq (.app 110 [.var 1]) (.num 0), true), (.op2 .eq (.op1 .len (.app 117 [.var 1])) (.num 0), false)], out := .tuple [.slo 1 2 (.op1 .len (.app 115 [.app 117 [.var 1]])), .int .i64 0], news := [(1, .rows 2 shrSch (.num 0) (.app 115 [.app 117 [.var 1]]) true 25)] }
noncomputable def rMg1_call : Env → CallL := fun E => acallAll E (evH E (LRM E) ((fun _ => noLoops) E) 3)
noncomputable def rMg1_t : GTree := (.fork yEN_20 .bad (.leaf [[(1, 1)]]))
noncomputable def rMg1_l : List (List (X × Bool) × Option Pairs) := [([(yEN_20, true), (yEN_6, true), (yEN_0, true), (yEN_19, false)], none),
  ([(yEN_20, false), (yEN_6, true), (yEN_0, true), (yEN_19, false)], some [(.op1 .len yEN_23, .op1 .len (.app 120 [.var 1])), (yEN_23, .app 120 [.var 1])])]
theorem rMg1_w (r : Rho) : rMg1_con.fn.ways rMg1_call E0 r rMg1_con.pre rMg1_t = some rMg1_l := by kernel_rfl
set_option maxHeartbeats 1000000 in
theorem rMg1_cok : rMg1_con.Ok Tryz.prog sy := by
  intro r σ w us hsy hρ hpre hrel hins
  obtain ⟨l, h1⟩ := shrs_at hrel (i := 0) rfl
  rw [hρ] at h1
  have h1 : r.val 1 = some (shrsR l) := h1
  have k1 : chkS l = 0 := by
    have := hpre.2.1
    simpa only [X.bool, X.den, denL, dX, denSub, denIte, asB, dY, h1, hsy, sym110, Option.some.injEq, Value.bool.injEq, beq_iff_eq] using this
  refine con_of (E := E0) E0_ok E0_glob (sy := sy) (fun F => LRM_ok F hsy) (fun F => noH_ok) (rMg1_w r) hρ hpre hrel hins ?_ ?_
  · simp only [rMg1_con, rMg1_t, yEN_26, yEN_25, yEN_24, yEN_23, yEN_22, yEN_21, yEN_20, yEN_19, yEN_18, yEN_17, yEN_16, yEN_15, yEN_14, yEN_13, yEN_12, yEN_11, yEN_10, yEN_9, yEN_8, yEN_7, yEN_6, yEN_5, yEN_4, yEN_3, yEN_2, yEN_1, yEN_0, AsksL, GTree.asks, FTree.asks, FactsIn, List.append_nil, List.nil_append, List.cons_append, Option.some.injEq, exists_eq', implies_true, and_self, X.bool, X.den, denL, dX, denSub, denIte, asB, dY, h1, hsy, sym10, sym22, sym110, sym111, sym112, sym115, sym116, sym117, sym118, sym120, sym121, sym123]
    try simp
  · simp only [rMg1_l, yEN_26, yEN_25, yEN_24, yEN_23, yEN_22, yEN_21, yEN_20, yEN_19, yEN_18, yEN_17, yEN_16, yEN_15, yEN_14, yEN_13, yEN_12, yEN_11, yEN_10, yEN_9, yEN_8, yEN_7, yEN_6, yEN_5, yEN_4, yEN_3, yEN_2, yEN_1, yEN_0, EndsOk, WaysOk, forall_cons, forall_nil, TgtOk, gpair, FactsIn, hold_cons, hold_nil, Option.some.injEq, dZ, X.bool, X.den, denL, dX, denSub, denIte, asB, dY, beq_iff_eq, beq_eq_false_iff_ne, ne_eq, h1, hsy, sym10, sym22, sym110, sym111, sym112, sym115, sym116, sym117, sym118, sym120, sym121, sym123]
    have e := mrg_one k1
    have e2 := chg_len (accB (accA []) l)
    have e3 := congrArg List.length e
    clear hsy hρ hpre hrel hins h1
    (repeat' apply And.intro) <;> intros <;> first
      | trivial
      | contradiction
      | (rw [e]; done)
      | (simp [e]; done)
      | (exfalso; omega)
      | (simp_all; done)
      | (exfalso; simp_all; done)
noncomputable def LMF : Env → CallE := libs [cLib cMgE_con]
theorem LMF_ok (F : List (X × Bool)) {r : Rho} (h : r.sym = sy) : CallsOk (E0.with F r) (LMF (E0.with F r)) := libs_ok fun c hc => by
  simp only [List.mem_cons, List.not_mem_nil, or_false] at hc
  subst hc; exact lib_ok (E := E0) cMgE_cok F h
noncomputable def cMf_con : Con := { f := 5, args := [shrsArg 0 0], N := 1, M := 1, pre := [(.app 22 [.var 1], true), (.op2 .eq (.app 110 [.var 1]) (.num 0), false)], out := .sbool (.boo true), news := [] }
noncomputable def cMf_call : Env → CallL := fun E => acallAll E (evH E (LMF E) ((fun _ => noLoops) E) 3)
noncomputable def cMf_t : GTree := (.fork (.op2 .eq yEN_22 (.num 1)) (.leaf [[]]) (.fork (.op2 .eq yEN_22 (.num 2)) (.leaf [[]]) (.leaf [[]])))
noncomputable def cMf_l : List (List (X × Bool) × Option Pairs) := [([(.op2 .eq yEN_22 (.num 1), true), (yEN_6, true), (yEN_0, false)], some []),
  ([(.op2 .eq yEN_22 (.num 2), true), (.op2 .eq yEN_22 (.num 1), false), (yEN_6, true), (yEN_0, false)], some [(.boo true, .op2 .lt (.num 1000) (.op1 .len (.var 1)))]),
  ([(.op2 .eq yEN_22 (.num 2), false), (.op2 .eq yEN_22 (.num 1), false), (yEN_6, true), (yEN_0, false)], some [(.boo true, .boo false)])]
theorem cMf_w (r : Rho) : cMf_con.fn.ways cMf_call E0 r cMf_con.pre cMf_t = some cMf_l := by kernel_rfl
set_option maxHeartbeats 1000000 in
theorem cMf_cok : cMf_con.Ok Tryz.prog sy := by
  intro r σ w us hsy hρ hpre hrel hins
  obtain ⟨l, h1⟩ := shrs_at hrel (i := 0) rfl
  rw [hρ] at h1
  have h1 : r.val 1 = some (shrsR l) := h1
  refine con_of (E := E0) E0_ok E0_glob (sy := sy) (fun F => LMF_ok F hsy) (fun F => noH_ok) (cMf_w r) hρ hpre hrel hins ?_ ?_
  · simp only [cMf_con, cMf_t, yEN_26, yEN_25, yEN_24, yEN_23, yEN_22, yEN_21, yEN_20, yEN_19, yEN_18, yEN_17, yEN_16, yEN_15, yEN_14, yEN_13, yEN_12, yEN_11, yEN_10, yEN_9, yEN_8, yEN_7, yEN_6, yEN_5, yEN_4, yEN_3, yEN_2, yEN_1, yEN_0, AsksL, GTree.asks, FTree.asks, FactsIn, List.append_nil, List.nil_append, List.cons_append, Option.some.injEq, exists_eq', implies_true, and_self, X.bool, X.den, denL, dX, denSub, denIte, asB, dY, h1, hsy, sym10, sym22, sym110, sym111, sym112, sym115, sym116, sym117, sym118, sym120, sym121, sym123]
    try simp
  · simp only [cMf_l, yEN_26, yEN_25, yEN_24, yEN_23, yEN_22, yEN_21, yEN_20, yEN_19, yEN_18, yEN_17, yEN_16, yEN_15, yEN_14, yEN_13, yEN_12, yEN_11, yEN_10, yEN_9, yEN_8, yEN_7, yEN_6, yEN_5, yEN_4, yEN_3, yEN_2, yEN_1, yEN_0, EndsOk, WaysOk, forall_cons, forall_nil, TgtOk, gpair, FactsIn, hold_cons, hold_nil, Option.some.injEq, dZ, X.bool, X.den, denL, dX, denSub, denIte, asB, dY, beq_iff_eq, beq_eq_false_iff_ne, ne_eq, h1, hsy, sym10, sym22, sym110, sym111, sym112, sym115, sym116, sym117, sym118, sym120, sym121, sym123]
    have hw := chkS_ways l
    clear hsy hρ hpre hrel hins h1
    (repeat' apply And.intro) <;> intros <;> first
      | trivial
      | (exfalso; omega)
      | (simp_all; done)
      | (exfalso; simp_all; omega)
noncomputable def rNgN_D : LoopD := { N := 110, M := 114, size := sizeOfF 9, reads := [(0, .rows 2 shrSch (.var 0) (.var 1) false 25)], pats := [{ slots := [(0, .slx 0 2 (.var 0) (.num 0) (.op1 .len (.var 1)) (.var 2)), (7, .nilslice), (8, .sint .i64 (.var 110))], heap := [] }, { slots := [(0, .slx 0 2 (.var 0) (.num 0) (.op1 .len (.var 1)) (.var 2)), (7, .slo 112 2 (.op1 .len (.var 111))), (8, .sint .i64 (.var 110))], heap := [(112, .rows 2 shrSch (.num 0) (.var 111) true 25)] }], exits := [(.exit 0, { slots := [(7, .nilslice)], heap := [], guard := .op2 .eq (.op1 .len (.var 1)) (.num 0) }), (.exit 0, { slots := [(7, .slo 112 2 (.op1 .len (.app 121 [.var 1])))], heap := [(112, .rows 2 shrSch (.num 0) (.app 121 [.var 1]) true 25)], guard := .op1 .not (.op2 .eq (.op1 .len (.var 1)) (.num 0)) })], own := [], pre := [(.app 22 [.var 1], true)] }
noncomputable def rNgN_run : Env → AF → ASt → Option (List Out) := bodyRun noL 6 (fun _ => noLoop) (loopAt Tryz.prog 9 0)
def rNgN0_F : List (X × Bool) := [(.op2 .lt (.var 110) (.num 0), false), (.app 22 [.var 1], true)]
def rNgN1_F : List (X × Bool) := [(.op2 .lt (.var 110) (.num 0), false)]
noncomputable def rNgN0_t : FTree := (.fork yEN_9 (.leaf [.again 1 [(112, 115)]]) (.leaf [.leave 0 []]))
noncomputable def rNgN0_l : List (List (X × Bool) × Option (List (Tgt × Pairs))) := [([(yEN_9, true), (yEN_18, false), (yEN_6, true)], some [(.again 1 [(112, 115)], [(.op1 .len (.var 111), .num 1), (.var 110, yEN_24), (.var 111, .snoc .nil [yEN_25, yEN_17])])]),
  ([(yEN_9, false), (yEN_18, false), (yEN_6, true)], some [(.leave 0 [], [(yEN_2, .boo true)])])]
theorem rNgN0_w (r : Rho) : rNgN_D.ways rNgN_run E0 r 0 rNgN0_F rNgN0_t = some rNgN0_l := by kernel_rfl
noncomputable def rNgN1_t : FTree := (.fork yEN_9 (.fork yEN_13 .bad (.leaf [.again 1 [(112, 115)]])) (.leaf [.leave 1 [(112, 112)]]))
noncomputable def rNgN1_l : List (List (X × Bool) × Option (List (Tgt × Pairs))) := [([(yEN_13, true), (yEN_9, true), (yEN_18, false)], none),
  ([(yEN_13, false), (yEN_9, true), (yEN_18, false)], some [(.again 1 [(112, 115)], [(.op1 .len (.var 111), .op2 .add (.op1 .len (.var 111)) (.num 1)), (.var 110, yEN_24), (.var 111, .snoc (.var 111) [yEN_25, yEN_17])])]),
  ([(yEN_9, false), (yEN_18, false)], some [(.leave 1 [(112, 112)], [(.op1 .len (.app 121 [.var 1]), .op1 .len (.var 111)), (.app 121 [.var 1], .var 111), (.op1 .not yEN_2, .boo true)])])]
theorem rNgN1_w (r : Rho) : rNgN_D.ways rNgN_run E0 r 1 rNgN1_F rNgN1_t = some rNgN1_l := by kernel_rfl
theorem rNgN_ok : rNgN_D.ok = true := by kernel_rfl
def rNgN_Inv (l : List Shr) (j : Nat) (vals : List Value) : Prop :=
  ∃ i : Nat, i ≤ l.length ∧ ((j = 0 ∧ vals = [.int .i64 (i : Int)] ∧ i = 0) ∨ (j = 1 ∧ vals = [.int .i64 (i : Int), shrsR (negAll (l.take i))] ∧ 0 < i))
def rNgN_mu (l : List Shr) (_ : Nat) (vals : List Value) : Nat := l.length - (vI (vals.getD 0 default)).toNat
set_option maxHeartbeats 1000000 in
theorem rNgN_step0 {ρ : Rho} {l : List Shr} (h1 : ρ.val 1 = some (shrsR l)) (hsy : ρ.sym = sy) (hmax : (l.length : Int) ≤ 5000) {i : Nat} (hi : i ≤ l.length) (h0 : i = 0) :
    StepOk rNgN_D rNgN_run E0 ρ (rNgN_Inv l) (rNgN_mu l) 0 [.int .i64 (i : Int)] := by
  have hN : rNgN_D.N = 110 := rfl
  have v1 : (ρ.ext rNgN_D.N [.int .i64 (i : Int)]).val 1 = some (shrsR l) := by rw [ext_low _ _ _ _ (by rw [hN]; omega)]; exact h1
  have v110 : (ρ.ext rNgN_D.N [.int .i64 (i : Int)]).val 110 = some (.int .i64 (i : Int)) := by rw [ext_high _ _ _ _ (by rw [hN]; omega)]; rfl
  have vs : (ρ.ext rNgN_D.N [.int .i64 (i : Int)]).sym = sy := hsy
  have g3 : ¬ (i : Int) < 0 := by omega
  have hbl : bigB l = true := len_big hmax
  have hF : FactsIn (ρ.ext rNgN_D.N [.int .i64 (i : Int)]) rNgN0_F := by
    simp only [rNgN0_F, FactsIn, X.bool, X.den, denL, dX, denSub, denIte, asB, dY, v1, v110, vs, sym10, sym22, sym110, sym111, sym112, sym115, sym116, sym117, sym118, sym120, sym121, sym123, g3, hbl, decide_true, decide_false, and_true, and_self]
  suffices both : AsksL (ρ.ext rNgN_D.N [.int .i64 (i : Int)]) (rNgN0_t.asks rNgN0_F) ∧ WaysOk rNgN_D ρ (rNgN_Inv l) (rNgN_mu l) 0 [.int .i64 (i : Int)] rNgN0_l from step_of_ways (rNgN0_w _) hF both.1.ok both.2
  have hlen : (negAll (l.take i)).length = i := by rw [negAll_len]; simp; omega
  cases hp : l[i]? with
  | none =>
    have hge := List.getElem?_eq_none_iff.1 hp
    have hge' : ¬ (i : Int) < l.length := by omega
    have hl : l.take i = l := List.take_of_length_le hge
    have hle : i = l.length := by omega
    refine ⟨?_, ?_⟩
    · simp only [rNgN0_t, yEN_26, yEN_25, yEN_24, yEN_23, yEN_22, yEN_21, yEN_20, yEN_19, yEN_18, yEN_17, yEN_16, yEN_15, yEN_14, yEN_13, yEN_12, yEN_11, yEN_10, yEN_9, yEN_8, yEN_7, yEN_6, yEN_5, yEN_4, yEN_3, yEN_2, yEN_1, yEN_0, rNgN0_F, AsksL, GTree.asks, FTree.asks, FactsIn, List.append_nil, List.nil_append, List.cons_append, Option.some.injEq, exists_eq', implies_true, and_self, X.bool, X.den, denL, dX, denSub, denIte, asB, dY, v1, v110, vs, sym10, sym22, sym110, sym111, sym112, sym115, sym116, sym117, sym118, sym120, sym121, sym123, Int.toNat_natCast, hp, hge']
      try simp
    · simp only [rNgN0_l, yEN_26, yEN_25, yEN_24, yEN_23, yEN_22, yEN_21, yEN_20, yEN_19, yEN_18, yEN_17, yEN_16, yEN_15, yEN_14, yEN_13, yEN_12, yEN_11, yEN_10, yEN_9, yEN_8, yEN_7, yEN_6, yEN_5, yEN_4, yEN_3, yEN_2, yEN_1, yEN_0, EndsOk, WaysOk, forall_cons, forall_nil, TgtOk, gpair, FactsIn, hold_cons, hold_nil, Option.some.injEq, dZ, X.bool, X.den, denL, dX, denSub, denIte, asB, dY, beq_iff_eq, beq_eq_false_iff_ne, ne_eq, v1, v110, vs, h1, hsy, sym10, sym22, sym110, sym111, sym112, sym115, sym116, sym117, sym118, sym120, sym121, sym123, Int.toNat_natCast, hp, hge']
      try rw [hl]
      (repeat' apply And.intro) <;> intros <;> first
        | trivial
        | rfl
        | (exfalso; omega)
        | omega
        | (refine ⟨rfl, rfl, ?_⟩; rw [Bool.not_eq_true', beq_eq_false_iff_ne]; omega)
        | (rw [Bool.not_eq_true', beq_eq_false_iff_ne]; omega)
        | (simp_all; done)
        | (simp_all; omega)
  | some p =>
    have hlt : i < l.length := (List.getElem?_eq_some_iff.1 hp).1
    have hlt1 : (i : Int) < l.length := by omega
    have hw : IntKind.i64.wrap ((i : Int) + 1) = ((i + 1 : Nat) : Int) := by rw [IntWalk.i64_in _ (by omega)]; rfl
    have hnext : negAll (l.take (i + 1)) = negAll (l.take i) ++ [⟨p.party, IntKind.i64.wrap (0 - p.pence)⟩] := by
      rw [List.take_add_one, hp]; exact negAll_snoc _ p
    have go : ∀ (R : List Shr) (k : Int), R = negAll (l.take i) ++ [⟨p.party, IntKind.i64.wrap (0 - p.pence)⟩] → k = (R.length : Int) → ∃ vals', ((match (ρ.ext rNgN_D.N vals').val 111 with | some v => den1 .len v | none => none) = some (.int .i64 k) ∧ (ρ.ext rNgN_D.N vals').val 110 = some (.int .i64 ((i + 1 : Nat) : Int)) ∧ (ρ.ext rNgN_D.N vals').val 111 = some (shrsR R)) ∧ rNgN_Inv l 1 vals' ∧ rNgN_mu l 1 vals' < rNgN_mu l 0 [.int .i64 (i : Int)] := by
      rintro R k rfl rfl
      have e111 : (ρ.ext rNgN_D.N [.int .i64 ((i + 1 : Nat) : Int), shrsR (negAll (l.take (i + 1)))]).val 111 = some (shrsR (negAll (l.take (i + 1)))) := by rw [ext_high _ _ _ _ (by rw [hN]; omega)]; rfl
      refine ⟨[.int .i64 ((i + 1 : Nat) : Int), shrsR (negAll (l.take (i + 1)))], ⟨?_, ?_, ?_⟩, ⟨i + 1, by omega, .inr ⟨rfl, rfl, by omega⟩⟩, by simp [rNgN_mu, vI]; omega⟩
      · rw [e111, ← hnext]; exact shrs_len _
      · rw [ext_high _ _ _ _ (by rw [hN]; omega)]; rfl
      · rw [e111, ← hnext]
    subst h0
    have e0 : negAll (l.take 0) = [] := rfl
    rw [e0] at go
    refine ⟨?_, ?_⟩
    · simp only [rNgN0_t, yEN_26, yEN_25, yEN_24, yEN_23, yEN_22, yEN_21, yEN_20, yEN_19, yEN_18, yEN_17, yEN_16, yEN_15, yEN_14, yEN_13, yEN_12, yEN_11, yEN_10, yEN_9, yEN_8, yEN_7, yEN_6, yEN_5, yEN_4, yEN_3, yEN_2, yEN_1, yEN_0, rNgN0_F, AsksL, GTree.asks, FTree.asks, FactsIn, List.append_nil, List.nil_append, List.cons_append, Option.some.injEq, exists_eq', implies_true, and_self, X.bool, X.den, denL, dX, denSub, denIte, asB, dY, v1, v110, vs, sym10, sym22, sym110, sym111, sym112, sym115, sym116, sym117, sym118, sym120, sym121, sym123, Int.toNat_natCast, hp, Option.bind_some, shr0, shr1]
      try simp
      try omega
    · simp only [rNgN0_l, yEN_26, yEN_25, yEN_24, yEN_23, yEN_22, yEN_21, yEN_20, yEN_19, yEN_18, yEN_17, yEN_16, yEN_15, yEN_14, yEN_13, yEN_12, yEN_11, yEN_10, yEN_9, yEN_8, yEN_7, yEN_6, yEN_5, yEN_4, yEN_3, yEN_2, yEN_1, yEN_0, EndsOk, WaysOk, forall_cons, forall_nil, TgtOk, gpair, FactsIn, hold_cons, hold_nil, Option.some.injEq, dZ, X.bool, X.den, denL, dX, denSub, denIte, asB, dY, beq_iff_eq, beq_eq_false_iff_ne, ne_eq, v1, v110, vs, h1, hsy, sym10, sym22, sym110, sym111, sym112, sym115, sym116, sym117, sym118, sym120, sym121, sym123, Int.toNat_natCast, hp, Option.bind_some, shr0, shr1, hlt1, hw]
      clear v1 v110 vs h1 hsy hp hF hnext
      (repeat' apply And.intro) <;> intros <;> first
        | trivial
        | (exfalso; omega)
        | (exact go _ _ rfl (by simp))
        | (exact go _ _ rfl rfl)
set_option maxHeartbeats 1000000 in
theorem rNgN_step1 {ρ : Rho} {l : List Shr} (h1 : ρ.val 1 = some (shrsR l)) (hsy : ρ.sym = sy) (hmax : (l.length : Int) ≤ 5000) {i : Nat} (hi : i ≤ l.length) (h0 : 0 < i) :
    StepOk rNgN_D rNgN_run E0 ρ (rNgN_Inv l) (rNgN_mu l) 1 [.int .i64 (i : Int), shrsR (negAll (l.take i))] := by
  have hN : rNgN_D.N = 110 := rfl
  have v1 : (ρ.ext rNgN_D.N [.int .i64 (i : Int), shrsR (negAll (l.take i))]).val 1 = some (shrsR l) := by rw [ext_low _ _ _ _ (by rw [hN]; omega)]; exact h1
  have v110 : (ρ.ext rNgN_D.N [.int .i64 (i : Int), shrsR (negAll (l.take i))]).val 110 = some (.int .i64 (i : Int)) := by rw [ext_high _ _ _ _ (by rw [hN]; omega)]; rfl
  have v111 : (ρ.ext rNgN_D.N [.int .i64 (i : Int), shrsR (negAll (l.take i))]).val 111 = some (shrsR (negAll (l.take i))) := by rw [ext_high _ _ _ _ (by rw [hN]; omega)]; rfl
  have vs : (ρ.ext rNgN_D.N [.int .i64 (i : Int), shrsR (negAll (l.take i))]).sym = sy := hsy
  have g3 : ¬ (i : Int) < 0 := by omega
  have hbl : bigB l = true := len_big hmax
  have hF : FactsIn (ρ.ext rNgN_D.N [.int .i64 (i : Int), shrsR (negAll (l.take i))]) rNgN1_F := by
    simp only [rNgN1_F, FactsIn, X.bool, X.den, denL, dX, denSub, denIte, asB, dY, v1, v110, v111, vs, sym10, sym22, sym110, sym111, sym112, sym115, sym116, sym117, sym118, sym120, sym121, sym123, g3, hbl, decide_true, decide_false, and_true, and_self]
  suffices both : AsksL (ρ.ext rNgN_D.N [.int .i64 (i : Int), shrsR (negAll (l.take i))]) (rNgN1_t.asks rNgN1_F) ∧ WaysOk rNgN_D ρ (rNgN_Inv l) (rNgN_mu l) 1 [.int .i64 (i : Int), shrsR (negAll (l.take i))] rNgN1_l from step_of_ways (rNgN1_w _) hF both.1.ok both.2
  have hlen : (negAll (l.take i)).length = i := by rw [negAll_len]; simp; omega
  cases hp : l[i]? with
  | none =>
    have hge := List.getElem?_eq_none_iff.1 hp
    have hge' : ¬ (i : Int) < l.length := by omega
    have hl : l.take i = l := List.take_of_length_le hge
    have hle : i = l.length := by omega
    refine ⟨?_, ?_⟩
    · simp only [rNgN1_t, yEN_26, yEN_25, yEN_24, yEN_23, yEN_22, yEN_21, yEN_20, yEN_19, yEN_18, yEN_17, yEN_16, yEN_15, yEN_14, yEN_13, yEN_12, yEN_11, yEN_10, yEN_9, yEN_8, yEN_7, yEN_6, yEN_5, yEN_4, yEN_3, yEN_2, yEN_1, yEN_0, rNgN1_F, AsksL, GTree.asks, FTree.asks, FactsIn, List.append_nil, List.nil_append, List.cons_append, Option.some.injEq, exists_eq', implies_true, and_self, X.bool, X.den, denL, dX, denSub, denIte, asB, dY, v1, v110, v111, vs, sym10, sym22, sym110, sym111, sym112, sym115, sym116, sym117, sym118, sym120, sym121, sym123, Int.toNat_natCast, hp, hge']
      try simp
    · simp only [rNgN1_l, yEN_26, yEN_25, yEN_24, yEN_23, yEN_22, yEN_21, yEN_20, yEN_19, yEN_18, yEN_17, yEN_16, yEN_15, yEN_14, yEN_13, yEN_12, yEN_11, yEN_10, yEN_9, yEN_8, yEN_7, yEN_6, yEN_5, yEN_4, yEN_3, yEN_2, yEN_1, yEN_0, EndsOk, WaysOk, forall_cons, forall_nil, TgtOk, gpair, FactsIn, hold_cons, hold_nil, Option.some.injEq, dZ, X.bool, X.den, denL, dX, denSub, denIte, asB, dY, beq_iff_eq, beq_eq_false_iff_ne, ne_eq, v1, v110, v111, vs, h1, hsy, sym10, sym22, sym110, sym111, sym112, sym115, sym116, sym117, sym118, sym120, sym121, sym123, Int.toNat_natCast, hp, hge']
      try rw [hl]
      (repeat' apply And.intro) <;> intros <;> first
        | trivial
        | rfl
        | (exfalso; omega)
        | omega
        | (refine ⟨rfl, rfl, ?_⟩; rw [Bool.not_eq_true', beq_eq_false_iff_ne]; omega)
        | (rw [Bool.not_eq_true', beq_eq_false_iff_ne]; omega)
        | (simp_all; done)
        | (simp_all; omega)
  | some p =>
    have hlt : i < l.length := (List.getElem?_eq_some_iff.1 hp).1
    have hlt1 : (i : Int) < l.length := by omega
    have hw : IntKind.i64.wrap ((i : Int) + 1) = ((i + 1 : Nat) : Int) := by rw [IntWalk.i64_in _ (by omega)]; rfl
    have hnext : negAll (l.take (i + 1)) = negAll (l.take i) ++ [⟨p.party, IntKind.i64.wrap (0 - p.pence)⟩] := by
      rw [List.take_add_one, hp]; exact negAll_snoc _ p
    have go : ∀ (R : List Shr) (k : Int), R = negAll (l.take i) ++ [⟨p.party, IntKind.i64.wrap (0 - p.pence)⟩] → k = (R.length : Int) → ∃ vals', ((match (ρ.ext rNgN_D.N vals').val 111 with | some v => den1 .len v | none => none) = some (.int .i64 k) ∧ (ρ.ext rNgN_D.N vals').val 110 = some (.int .i64 ((i + 1 : Nat) : Int)) ∧ (ρ.ext rNgN_D.N vals').val 111 = some (shrsR R)) ∧ rNgN_Inv l 1 vals' ∧ rNgN_mu l 1 vals' < rNgN_mu l 1 [.int .i64 (i : Int), shrsR (negAll (l.take i))] := by
      rintro R k rfl rfl
      have e111 : (ρ.ext rNgN_D.N [.int .i64 ((i + 1 : Nat) : Int), shrsR (negAll (l.take (i + 1)))]).val 111 = some (shrsR (negAll (l.take (i + 1)))) := by rw [ext_high _ _ _ _ (by rw [hN]; omega)]; rfl
      refine ⟨[.int .i64 ((i + 1 : Nat) : Int), shrsR (negAll (l.take (i + 1)))], ⟨?_, ?_, ?_⟩, ⟨i + 1, by omega, .inr ⟨rfl, rfl, by omega⟩⟩, by simp [rNgN_mu, vI]; omega⟩
      · rw [e111, ← hnext]; exact shrs_len _
      · rw [ext_high _ _ _ _ (by rw [hN]; omega)]; rfl
      · rw [e111, ← hnext]
    refine ⟨?_, ?_⟩
    · simp only [rNgN1_t, yEN_26, yEN_25, yEN_24, yEN_23, yEN_22, yEN_21, yEN_20, yEN_19, yEN_18, yEN_17, yEN_16, yEN_15, yEN_14, yEN_13, yEN_12, yEN_11, yEN_10, yEN_9, yEN_8, yEN_7, yEN_6, yEN_5, yEN_4, yEN_3, yEN_2, yEN_1, yEN_0, rNgN1_F, AsksL, GTree.asks, FTree.asks, FactsIn, List.append_nil, List.nil_append, List.cons_append, Option.some.injEq, exists_eq', implies_true, and_self, X.bool, X.den, denL, dX, denSub, denIte, asB, dY, v1, v110, v111, vs, sym10, sym22, sym110, sym111, sym112, sym115, sym116, sym117, sym118, sym120, sym121, sym123, Int.toNat_natCast, hp, Option.bind_some, shr0, shr1]
      try simp
      try omega
    · simp only [rNgN1_l, yEN_26, yEN_25, yEN_24, yEN_23, yEN_22, yEN_21, yEN_20, yEN_19, yEN_18, yEN_17, yEN_16, yEN_15, yEN_14, yEN_13, yEN_12, yEN_11, yEN_10, yEN_9, yEN_8, yEN_7, yEN_6, yEN_5, yEN_4, yEN_3, yEN_2, yEN_1, yEN_0, EndsOk, WaysOk, forall_cons, forall_nil, TgtOk, gpair, FactsIn, hold_cons, hold_nil, Option.some.injEq, dZ, X.bool, X.den, denL, dX, denSub, denIte, asB, dY, beq_iff_eq, beq_eq_false_iff_ne, ne_eq, v1, v110, v111, vs, h1, hsy, sym10, sym22, sym110, sym111, sym112, sym115, sym116, sym117, sym118, sym120, sym121, sym123, Int.toNat_natCast, hp, Option.bind_some, shr0, shr1, hlt1, hw]
      clear v1 v110 v111 vs h1 hsy hp hF hnext
      (repeat' apply And.intro) <;> intros <;> first
        | trivial
        | (exfalso; omega)
        | (exact go _ _ rfl (by simp))
        | (exact go _ _ rfl rfl)
theorem rNgN_step {ρ : Rho} {l : List Shr} (h1 : ρ.val 1 = some (shrsR l)) (hsy : ρ.sym = sy) (hmax : (l.length : Int) ≤ 5000) (j : Nat) (vals : List Value) (hI : rNgN_Inv l j vals) :
    StepOk rNgN_D rNgN_run E0 ρ (rNgN_Inv l) (rNgN_mu l) j vals := by
  obtain ⟨i, hi, ⟨rfl, rfl, hn⟩ | ⟨rfl, rfl, hn⟩⟩ := hI
  · exact rNgN_step0 h1 hsy hmax hi hn
  · exact rNgN_step1 h1 hsy hmax hi hn
theorem rNgN_C {r : Rho} {l : List Shr} (h1 : r.val 1 = some (shrsR l)) (hsy : r.sym = sy) (hmax : (l.length : Int) ≤ 5000) (F : List (X × Bool)) :
    CodeOk (E0.with F r) none (.loop (loopAt (E0.with F r).P 9 0)) (rNgN_D.hook F rng_vs) := by
  refine hook_ok (E₀ := E0) (run := rNgN_run) (ρ := r) (Inv := rNgN_Inv l) (μ := rNgN_mu l) E0_ok rNgN_ok (fun F r' h => ?_) (fun hp => ⟨rNgN_step h1 hsy hmax, [.int .i64 0], ?_, 0, Nat.zero_le _, .inl ⟨rfl, rfl, rfl⟩⟩)
  · exact bodyRun_ok E0_ok (noL_ok F (h.trans hsy)) fun _ _ => noLoop_ok
  · simp only [rng_vs, X.bool, X.den, denL, dX, denSub, denIte, asB, dY]
theorem rNgN_H {r : Rho} {l : List Shr} (h1 : r.val 1 = some (shrsR l)) (hsy : r.sym = sy) (hmax : (l.length : Int) ≤ 5000) (F : List (X × Bool)) :
    LoopsOk (E0.with F r) (oneH 9 (hooks [(9, rNgN_D.hook (E0.with F r).facts rng_vs)])) := by
  refine loops_all (n := 1) (fun f fn h => h) (by kernel_rfl) fun i hi => ?_
  obtain rfl : i = 0 := by omega
  rw [hooks_hit (show keyOf (loopAt (E0.with F r).P 9 0) = 9 by kernel_rfl)]
  exact rNgN_C h1 hsy hmax F
noncomputable def rNgL_D : LoopD := { N := 110, M := 114, size := sizeOfF 9, reads := [(0, .rows 2 shrSch (.var 0) (.var 1) false 25)], pats := [{ slots := [(0, .slx 0 2 (.var 0) (.num 0) (.op1 .len (.var 1)) (.var 2)), (7, .slo 2 2 (.op1 .len (.var 4))), (8, .sint .i64 (.var 110))], heap := [(2, .rows 2 shrSch (.num 0) (.var 4) true 25)] }, { slots := [(0, .slx 0 2 (.var 0) (.num 0) (.op1 .len (.var 1)) (.var 2)), (7, .slo 112 2 (.op1 .len (.var 111))), (8, .sint .i64 (.var 110))], heap := [(112, .rows 2 shrSch (.num 0) (.var 111) true 25)] }], exits := [(.exit 0, { slots := [(7, .slo 2 2 (.op1 .len (.var 4)))], heap := [(2, .rows 2 shrSch (.num 0) (.var 4) true 25)], guard := .op2 .eq (.op1 .len (.var 1)) (.num 0) }), (.exit 0, { slots := [(7, .slo 112 2 (.op1 .len (.app 123 [.var 1, .var 4])))], heap := [(112, .rows 2 shrSch (.num 0) (.app 123 [.var 1, .var 4]) true 25)], guard := .op1 .not (.op2 .eq (.op1 .len (.var 1)) (.num 0)) })], own := [2], pre := [(.app 22 [.var 1], true), (.app 22 [.var 4], true)] }
noncomputable def rNgL_run : Env → AF → ASt → Option (List Out) := bodyRun noL 6 (fun _ => noLoop) (loopAt Tryz.prog 9 0)
def rNgL0_F : List (X × Bool) := [(.op2 .lt (.var 110) (.num 0), false), (.app 22 [.var 1], true), (.app 22 [.var 4], true)]
def rNgL1_F : List (X × Bool) := [(.op2 .lt (.var 110) (.num 0), false)]
noncomputable def rNgL0_t : FTree := (.fork yEN_9 (.fork yEN_26 .bad (.leaf [.again 1 [(112, 115)]])) (.leaf [.leave 0 []]))
noncomputable def rNgL0_l : List (List (X × Bool) × Option (List (Tgt × Pairs))) := [([(yEN_26, true), (yEN_9, true), (yEN_18, false), (yEN_6, true), (yEN_10, true)], none),
  ([(yEN_26, false), (yEN_9, true), (yEN_18, false), (yEN_6, true), (yEN_10, true)], some [(.again 1 [(112, 115)], [(.op1 .len (.var 111), .op2 .add (.op1 .len (.var 4)) (.num 1)), (.var 110, yEN_24), (.var 111, .snoc (.var 4) [yEN_25, yEN_17])])]),
  ([(yEN_9, false), (yEN_18, false), (yEN_6, true), (yEN_10, true)], some [(.leave 0 [], [(yEN_2, .boo true)])])]
theorem rNgL0_w (r : Rho) : rNgL_D.ways rNgL_run E0 r 0 rNgL0_F rNgL0_t = some rNgL0_l := by kernel_rfl
noncomputable def rNgL1_t : FTree := (.fork yEN_9 (.fork yEN_13 .bad (.leaf [.again 1 [(112, 115)]])) (.leaf [.leave 1 [(112, 112)]]))
noncomputable def rNgL1_l : List (List (X × Bool) × Option (List (Tgt × Pairs))) := [([(yEN_13, true), (yEN_9, true), (yEN_18, false)], none),
  ([(yEN_13, false), (yEN_9, true), (yEN_18, false)], some [(.again 1 [(112, 115)], [(.op1 .len (.var 111), .op2 .add (.op1 .len (.var 111)) (.num 1)), (.var 110, yEN_24), (.var 111, .snoc (.var 111) [yEN_25, yEN_17])])]),
  ([(yEN_9, false), (yEN_18, false)], some [(.leave 1 [(112, 112)], [(.op1 .len yEN_11, .op1 .len (.var 111)), (yEN_11, .var 111), (.op1 .not yEN_2, .boo true)])])]
theorem rNgL1_w (r : Rho) : rNgL_D.ways rNgL_run E0 r 1 rNgL1_F rNgL1_t = some rNgL1_l := by kernel_rfl
theorem rNgL_ok : rNgL_D.ok = true := by kernel_rfl
def rNgL_Inv (l m : List Shr) (j : Nat) (vals : List Value) : Prop :=
  ∃ i : Nat, i ≤ l.length ∧ ((j = 0 ∧ vals = [.int .i64 (i : Int)] ∧ i = 0) ∨ (j = 1 ∧ vals = [.int .i64 (i : Int), shrsR (bothS (l.take i) m)] ∧ 0 < i))
def rNgL_mu (l : List Shr) (_ : Nat) (vals : List Value) : Nat := l.length - (vI (vals.getD 0 default)).toNat
set_option maxHeartbeats 1000000 in
theorem rNgL_step0 {ρ : Rho} {l m : List Shr} (h1 : ρ.val 1 = some (shrsR l)) (h4 : ρ.val 4 = some (shrsR m)) (hm : (m.length : Int) ≤ 5000) (hsy : ρ.sym = sy) (hmax : (l.length : Int) ≤ 5000) {i : Nat} (hi : i ≤ l.length) (h0 : i = 0) :
    StepOk rNgL_D rNgL_run E0 ρ (rNgL_Inv l m) (rNgL_mu l) 0 [.int .i64 (i : Int)] := by
  have hN : rNgL_D.N = 110 := rfl
  have v1 : (ρ.ext rNgL_D.N [.int .i64 (i : Int)]).val 1 = some (shrsR l) := by rw [ext_low _ _ _ _ (by rw [hN]; omega)]; exact h1
  have v4 : (ρ.ext rNgL_D.N [.int .i64 (i : Int)]).val 4 = some (shrsR m) := by rw [ext_low _ _ _ _ (by rw [hN]; omega)]; exact h4
  have v110 : (ρ.ext rNgL_D.N [.int .i64 (i : Int)]).val 110 = some (.int .i64 (i : Int)) := by rw [ext_high _ _ _ _ (by rw [hN]; omega)]; rfl
  have vs : (ρ.ext rNgL_D.N [.int .i64 (i : Int)]).sym = sy := hsy
  have g3 : ¬ (i : Int) < 0 := by omega
  have hbl : bigB l = true := len_big hmax
  have hbm : bigB m = true := len_big hm
  have hF : FactsIn (ρ.ext rNgL_D.N [.int .i64 (i : Int)]) rNgL0_F := by
    simp only [rNgL0_F, FactsIn, X.bool, X.den, denL, dX, denSub, denIte, asB, dY, v1, v4, v110, vs, sym10, sym22, sym110, sym111, sym112, sym115, sym116, sym117, sym118, sym120, sym121, sym123, g3, hbl, hbm, decide_true, decide_false, and_true, and_self]
  suffices both : AsksL (ρ.ext rNgL_D.N [.int .i64 (i : Int)]) (rNgL0_t.asks rNgL0_F) ∧ WaysOk rNgL_D ρ (rNgL_Inv l m) (rNgL_mu l) 0 [.int .i64 (i : Int)] rNgL0_l from step_of_ways (rNgL0_w _) hF both.1.ok both.2
  have hlen : (bothS (l.take i) m).length = m.length + i := by rw [both_len]; simp; omega
  cases hp : l[i]? with
  | none =>
    have hge := List.getElem?_eq_none_iff.1 hp
    have hge' : ¬ (i : Int) < l.length := by omega
    have hl : l.take i = l := List.take_of_length_le hge
    have hle : i = l.length := by omega
    refine ⟨?_, ?_⟩
    · simp only [rNgL0_t, yEN_26, yEN_25, yEN_24, yEN_23, yEN_22, yEN_21, yEN_20, yEN_19, yEN_18, yEN_17, yEN_16, yEN_15, yEN_14, yEN_13, yEN_12, yEN_11, yEN_10, yEN_9, yEN_8, yEN_7, yEN_6, yEN_5, yEN_4, yEN_3, yEN_2, yEN_1, yEN_0, rNgL0_F, AsksL, GTree.asks, FTree.asks, FactsIn, List.append_nil, List.nil_append, List.cons_append, Option.some.injEq, exists_eq', implies_true, and_self, X.bool, X.den, denL, dX, denSub, denIte, asB, dY, v1, v4, v110, vs, sym10, sym22, sym110, sym111, sym112, sym115, sym116, sym117, sym118, sym120, sym121, sym123, Int.toNat_natCast, hp, hge']
      try simp
    · simp only [rNgL0_l, yEN_26, yEN_25, yEN_24, yEN_23, yEN_22, yEN_21, yEN_20, yEN_19, yEN_18, yEN_17, yEN_16, yEN_15, yEN_14, yEN_13, yEN_12, yEN_11, yEN_10, yEN_9, yEN_8, yEN_7, yEN_6, yEN_5, yEN_4, yEN_3, yEN_2, yEN_1, yEN_0, EndsOk, WaysOk, forall_cons, forall_nil, TgtOk, gpair, FactsIn, hold_cons, hold_nil, Option.some.injEq, dZ, X.bool, X.den, denL, dX, denSub, denIte, asB, dY, beq_iff_eq, beq_eq_false_iff_ne, ne_eq, v1, v4, v110, vs, h1, h4, hsy, sym10, sym22, sym110, sym111, sym112, sym115, sym116, sym117, sym118, sym120, sym121, sym123, Int.toNat_natCast, hp, hge']
      try rw [hl]
      (repeat' apply And.intro) <;> intros <;> first
        | trivial
        | rfl
        | (exfalso; omega)
        | omega
        | (refine ⟨rfl, rfl, ?_⟩; rw [Bool.not_eq_true', beq_eq_false_iff_ne]; omega)
        | (rw [Bool.not_eq_true', beq_eq_false_iff_ne]; omega)
        | (simp_all; done)
        | (simp_all; omega)
  | some p =>
    have hlt : i < l.length := (List.getElem?_eq_some_iff.1 hp).1
    have hlt1 : (i : Int) < l.length := by omega
    have hw : IntKind.i64.wrap ((i : Int) + 1) = ((i + 1 : Nat) : Int) := by rw [IntWalk.i64_in _ (by omega)]; rfl
    have hnext : bothS (l.take (i + 1)) m = bothS (l.take i) m ++ [⟨p.party, IntKind.i64.wrap (0 - p.pence)⟩] := by
      rw [List.take_add_one, hp]; exact both_snoc _ m p
    have go : ∀ (R : List Shr) (k : Int), R = bothS (l.take i) m ++ [⟨p.party, IntKind.i64.wrap (0 - p.pence)⟩] → k = (R.length : Int) → ∃ vals', ((match (ρ.ext rNgL_D.N vals').val 111 with | some v => den1 .len v | none => none) = some (.int .i64 k) ∧ (ρ.ext rNgL_D.N vals').val 110 = some (.int .i64 ((i + 1 : Nat) : Int)) ∧ (ρ.ext rNgL_D.N vals').val 111 = some (shrsR R)) ∧ rNgL_Inv l m 1 vals' ∧ rNgL_mu l 1 vals' < rNgL_mu l 0 [.int .i64 (i : Int)] := by
      rintro R k rfl rfl
      have e111 : (ρ.ext rNgL_D.N [.int .i64 ((i + 1 : Nat) : Int), shrsR (bothS (l.take (i + 1)) m)]).val 111 = some (shrsR (bothS (l.take (i + 1)) m)) := by rw [ext_high _ _ _ _ (by rw [hN]; omega)]; rfl
      refine ⟨[.int .i64 ((i + 1 : Nat) : Int), shrsR (bothS (l.take (i + 1)) m)], ⟨?_, ?_, ?_⟩, ⟨i + 1, by omega, .inr ⟨rfl, rfl, by omega⟩⟩, by simp [rNgL_mu, vI]; omega⟩
      · rw [e111, ← hnext]; exact shrs_len _
      · rw [ext_high _ _ _ _ (by rw [hN]; omega)]; rfl
      · rw [e111, ← hnext]
    subst h0
    have e0 : bothS (l.take 0) m = m := nil_both m
    rw [e0] at go
    refine ⟨?_, ?_⟩
    · simp only [rNgL0_t, yEN_26, yEN_25, yEN_24, yEN_23, yEN_22, yEN_21, yEN_20, yEN_19, yEN_18, yEN_17, yEN_16, yEN_15, yEN_14, yEN_13, yEN_12, yEN_11, yEN_10, yEN_9, yEN_8, yEN_7, yEN_6, yEN_5, yEN_4, yEN_3, yEN_2, yEN_1, yEN_0, rNgL0_F, AsksL, GTree.asks, FTree.asks, FactsIn, List.append_nil, List.nil_append, List.cons_append, Option.some.injEq, exists_eq', implies_true, and_self, X.bool, X.den, denL, dX, denSub, denIte, asB, dY, v1, v4, v110, vs, sym10, sym22, sym110, sym111, sym112, sym115, sym116, sym117, sym118, sym120, sym121, sym123, Int.toNat_natCast, hp, Option.bind_some, shr0, shr1]
      try simp
      try omega
    · simp only [rNgL0_l, yEN_26, yEN_25, yEN_24, yEN_23, yEN_22, yEN_21, yEN_20, yEN_19, yEN_18, yEN_17, yEN_16, yEN_15, yEN_14, yEN_13, yEN_12, yEN_11, yEN_10, yEN_9, yEN_8, yEN_7, yEN_6, yEN_5, yEN_4, yEN_3, yEN_2, yEN_1, yEN_0, EndsOk, WaysOk, forall_cons, forall_nil, TgtOk, gpair, FactsIn, hold_cons, hold_nil, Option.some.injEq, dZ, X.bool, X.den, denL, dX, denSub, denIte, asB, dY, beq_iff_eq, beq_eq_false_iff_ne, ne_eq, v1, v4, v110, vs, h1, h4, hsy, sym10, sym22, sym110, sym111, sym112, sym115, sym116, sym117, sym118, sym120, sym121, sym123, Int.toNat_natCast, hp, Option.bind_some, shr0, shr1, hlt1, hw]
      clear v1 v4 v110 vs h1 h4 hsy hp hF hnext
      (repeat' apply And.intro) <;> intros <;> first
        | trivial
        | (exfalso; omega)
        | (exact go _ _ rfl (by simp))
        | (exact go _ _ rfl rfl)
set_option maxHeartbeats 1000000 in
theorem rNgL_step1 {ρ : Rho} {l m : List Shr} (h1 : ρ.val 1 = some (shrsR l)) (h4 : ρ.val 4 = some (shrsR m)) (hm : (m.length : Int) ≤ 5000) (hsy : ρ.sym = sy) (hmax : (l.length : Int) ≤ 5000) {i : Nat} (hi : i ≤ l.length) (h0 : 0 < i) :
    StepOk rNgL_D rNgL_run E0 ρ (rNgL_Inv l m) (rNgL_mu l) 1 [.int .i64 (i : Int), shrsR (bothS (l.take i) m)] := by
  have hN : rNgL_D.N = 110 := rfl
  have v1 : (ρ.ext rNgL_D.N [.int .i64 (i : Int), shrsR (bothS (l.take i) m)]).val 1 = some (shrsR l) := by rw [ext_low _ _ _ _ (by rw [hN]; omega)]; exact h1
  have v4 : (ρ.ext rNgL_D.N [.int .i64 (i : Int), shrsR (bothS (l.take i) m)]).val 4 = some (shrsR m) := by rw [ext_low _ _ _ _ (by rw [hN]; omega)]; exact h4
  have v110 : (ρ.ext rNgL_D.N [.int .i64 (i : Int), shrsR (bothS (l.take i) m)]).val 110 = some (.int .i64 (i : Int)) := by rw [ext_high _ _ _ _ (by rw [hN]; omega)]; rfl
  have v111 : (ρ.ext rNgL_D.N [.int .i64 (i : Int), shrsR (bothS (l.take i) m)]).val 111 = some (shrsR (bothS (l.take i) m)) := by rw [ext_high _ _ _ _ (by rw [hN]; omega)]; rfl
  have vs : (ρ.ext rNgL_D.N [.int .i64 (i : Int), shrsR (bothS (l.take i) m)]).sym = sy := hsy
  have g3 : ¬ (i : Int) < 0 := by omega
  have hbl : bigB l = true := len_big hmax
  have hbm : bigB m = true := len_big hm
  have hF : FactsIn (ρ.ext rNgL_D.N [.int .i64 (i : Int), shrsR (bothS (l.take i) m)]) rNgL1_F := by
    simp only [rNgL1_F, FactsIn, X.bool, X.den, denL, dX, denSub, denIte, asB, dY, v1, v4, v110, v111, vs, sym10, sym22, sym110, sym111, sym112, sym115, sym116, sym117, sym118, sym120, sym121, sym123, g3, hbl, hbm, decide_true, decide_false, and_true, and_self]
  suffices both : AsksL (ρ.ext rNgL_D.N [.int .i64 (i : Int), shrsR (bothS (l.take i) m)]) (rNgL1_t.asks rNgL1_F) ∧ WaysOk rNgL_D ρ (rNgL_Inv l m) (rNgL_mu l) 1 [.int .i64 (i : Int), shrsR (bothS (l.take i) m)] rNgL1_l from step_of_ways (rNgL1_w _) hF both.1.ok both.2
  have hlen : (bothS (l.take i) m).length = m.length + i := by rw [both_len]; simp; omega
  cases hp : l[i]? with
  | none =>
    have hge := List.getElem?_eq_none_iff.1 hp
    have hge' : ¬ (i : Int) < l.length := by omega
    have hl : l.take i = l := List.take_of_length_le hge
    have hle : i = l.length := by omega
    refine ⟨?_, ?_⟩
    · simp only [rNgL1_t, yEN_26, yEN_25, yEN_24, yEN_23, yEN_22, yEN_21, yEN_20, yEN_19, yEN_18, yEN_17, yEN_16, yEN_15, yEN_14, yEN_13, yEN_12, yEN_11, yEN_10, yEN_9, yEN_8, yEN_7, yEN_6, yEN_5, yEN_4, yEN_3, yEN_2, yEN_1, yEN_0, rNgL1_F, AsksL, GTree.asks, FTree.asks, FactsIn, List.append_nil, List.nil_append, List.cons_append, Option.some.injEq, exists_eq', implies_true, and_self, X.bool, X.den, denL, dX, denSub, denIte, asB, dY, v1, v4, v110, v111, vs, sym10, sym22, sym110, sym111, sym112, sym115, sym116, sym117, sym118, sym120, sym121, sym123, Int.toNat_natCast, hp, hge']
      try simp
    · simp only [rNgL1_l, yEN_26, yEN_25, yEN_24, yEN_23, yEN_22, yEN_21, yEN_20, yEN_19, yEN_18, yEN_17, yEN_16, yEN_15, yEN_14, yEN_13, yEN_12, yEN_11, yEN_10, yEN_9, yEN_8, yEN_7, yEN_6, yEN_5, yEN_4, yEN_3, yEN_2, yEN_1, yEN_0, EndsOk, WaysOk, forall_cons, forall_nil, TgtOk, gpair, FactsIn, hold_cons, hold_nil, Option.some.injEq, dZ, X.bool, X.den, denL, dX, denSub, denIte, asB, dY, beq_iff_eq, beq_eq_false_iff_ne, ne_eq, v1, v4, v110, v111, vs, h1, h4, hsy, sym10, sym22, sym110, sym111, sym112, sym115, sym116, sym117, sym118, sym120, sym121, sym123, Int.toNat_natCast, hp, hge']
      try rw [hl]
      (repeat' apply And.intro) <;> intros <;> first
        | trivial
        | rfl
        | (exfalso; omega)
        | omega
        | (refine ⟨rfl, rfl, ?_⟩; rw [Bool.not_eq_true', beq_eq_false_iff_ne]; omega)
        | (rw [Bool.not_eq_true', beq_eq_false_iff_ne]; omega)
        | (simp_all; done)
        | (simp_all; omega)
  | some p =>
    have hlt : i < l.length := (List.getElem?_eq_some_iff.1 hp).1
    have hlt1 : (i : Int) < l.length := by omega
    have hw : IntKind.i64.wrap ((i : Int) + 1) = ((i + 1 : Nat) : Int) := by rw [IntWalk.i64_in _ (by omega)]; rfl
    have hnext : bothS (l.take (i + 1)) m = bothS (l.take i) m ++ [⟨p.party, IntKind.i64.wrap (0 - p.pence)⟩] := by
      rw [List.take_add_one, hp]; exact both_snoc _ m p
    have go : ∀ (R : List Shr) (k : Int), R = bothS (l.take i) m ++ [⟨p.party, IntKind.i64.wrap (0 - p.pence)⟩] → k = (R.length : Int) → ∃ vals', ((match (ρ.ext rNgL_D.N vals').val 111 with | some v => den1 .len v | none => none) = some (.int .i64 k) ∧ (ρ.ext rNgL_D.N vals').val 110 = some (.int .i64 ((i + 1 : Nat) : Int)) ∧ (ρ.ext rNgL_D.N vals').val 111 = some (shrsR R)) ∧ rNgL_Inv l m 1 vals' ∧ rNgL_mu l 1 vals' < rNgL_mu l 1 [.int .i64 (i : Int), shrsR (bothS (l.take i) m)] := by
      rintro R k rfl rfl
      have e111 : (ρ.ext rNgL_D.N [.int .i64 ((i + 1 : Nat) : Int), shrsR (bothS (l.take (i + 1)) m)]).val 111 = some (shrsR (bothS (l.take (i + 1)) m)) := by rw [ext_high _ _ _ _ (by rw [hN]; omega)]; rfl
      refine ⟨[.int .i64 ((i + 1 : Nat) : Int), shrsR (bothS (l.take (i + 1)) m)], ⟨?_, ?_, ?_⟩, ⟨i + 1, by omega, .inr ⟨rfl, rfl, by omega⟩⟩, by simp [rNgL_mu, vI]; omega⟩
      · rw [e111, ← hnext]; exact shrs_len _
      · rw [ext_high _ _ _ _ (by rw [hN]; omega)]; rfl
      · rw [e111, ← hnext]
    refine ⟨?_, ?_⟩
    · simp only [rNgL1_t, yEN_26, yEN_25, yEN_24, yEN_23, yEN_22, yEN_21, yEN_20, yEN_19, yEN_18, yEN_17, yEN_16, yEN_15, yEN_14, yEN_13, yEN_12, yEN_11, yEN_10, yEN_9, yEN_8, yEN_7, yEN_6, yEN_5, yEN_4, yEN_3, yEN_2, yEN_1, yEN_0, rNgL1_F, AsksL, GTree.asks, FTree.asks, FactsIn, List.append_nil, List.nil_append, List.cons_append, Option.some.injEq, exists_eq', implies_true, and_self, X.bool, X.den, denL, dX, denSub, denIte, asB, dY, v1, v4, v110, v111, vs, sym10, sym22, sym110, sym111, sym112, sym115, sym116, sym117, sym118, sym120, sym121, sym123, Int.toNat_natCast, hp, Option.bind_some, shr0, shr1]
      try simp
      try omega
    · simp only [rNgL1_l, yEN_26, yEN_25, yEN_24, yEN_23, yEN_22, yEN_21, yEN_20, yEN_19, yEN_18, yEN_17, yEN_16, yEN_15, yEN_14, yEN_13, yEN_12, yEN_11, yEN_10, yEN_9, yEN_8, yEN_7, yEN_6, yEN_5, yEN_4, yEN_3, yEN_2, yEN_1, yEN_0, EndsOk, WaysOk, forall_cons, forall_nil, TgtOk, gpair, FactsIn, hold_cons, hold_nil, Option.some.injEq, dZ, X.bool, X.den, denL, dX, denSub, denIte, asB, dY, beq_iff_eq, beq_eq_false_iff_ne, ne_eq, v1, v4, v110, v111, vs, h1, h4, hsy, sym10, sym22, sym110, sym111, sym112, sym115, sym116, sym117, sym118, sym120, sym121, sym123, Int.toNat_natCast, hp, Option.bind_some, shr0, shr1, hlt1, hw]
      clear v1 v4 v110 v111 vs h1 h4 hsy hp hF hnext
      (repeat' apply And.intro) <;> intros <;> first
        | trivial
        | (exfalso; omega)
        | (exact go _ _ rfl (by simp))
        | (exact go _ _ rfl rfl)
theorem rNgL_step {ρ : Rho} {l m : List Shr} (h1 : ρ.val 1 = some (shrsR l)) (h4 : ρ.val 4 = some (shrsR m)) (hm : (m.length : Int) ≤ 5000) (hsy : ρ.sym = sy) (hmax : (l.length : Int) ≤ 5000) (j : Nat) (vals : List Value) (hI : rNgL_Inv l m j vals) :
    StepOk rNgL_D rNgL_run E0 ρ (rNgL_Inv l m) (rNgL_mu l) j vals := by
  obtain ⟨i, hi, ⟨rfl, rfl, hn⟩ | ⟨rfl, rfl, hn⟩⟩ := hI
  · exact rNgL_step0 h1 h4 hm hsy hmax hi hn
  · exact rNgL_step1 h1 h4 hm hsy hmax hi hn
theorem rNgL_C {r : Rho} {l m : List Shr} (h1 : r.val 1 = some (shrsR l)) (h4 : r.val 4 = some (shrsR m)) (hm : (m.length : Int) ≤ 5000) (hsy : r.sym = sy) (hmax : (l.length : Int) ≤ 5000) (F : List (X × Bool)) :
    CodeOk (E0.with F r) none (.loop (loopAt (E0.with F r).P 9 0)) (rNgL_D.hook F rng_vs) := by
  refine hook_ok (E₀ := E0) (run := rNgL_run) (ρ := r) (Inv := rNgL_Inv l m) (μ := rNgL_mu l) E0_ok rNgL_ok (fun F r' h => ?_) (fun hp => ⟨rNgL_step h1 h4 hm hsy hmax, [.int .i64 0], ?_, 0, Nat.zero_le _, .inl ⟨rfl, rfl, rfl⟩⟩)
  · exact bodyRun_ok E0_ok (noL_ok F (h.trans hsy)) fun _ _ => noLoop_ok
  · simp only [rng_vs, X.bool, X.den, denL, dX, denSub, denIte, asB, dY]
theorem rNg_H {r : Rho} {l m : List Shr} (h1 : r.val 1 = some (shrsR l)) (h4 : r.val 4 = some (shrsR m)) (hsy : r.sym = sy) (hmax : (l.length : Int) ≤ 5000) (hm : (m.length : Int) ≤ 5000) (F : List (X × Bool)) :
    LoopsOk (E0.with F r) (oneH 9 (hooks [(9, orH (rNgL_D.hook (E0.with F r).facts rng_vs) (rNgN_D.hook (E0.with F r).facts rng_vs))])) := by
  refine loops_all (n := 1) (fun f fn h => h) (by kernel_rfl) fun i hi => ?_
  obtain rfl : i = 0 := by omega
  rw [hooks_hit (show keyOf (loopAt (E0.with F r).P 9 0) = 9 by kernel_rfl)]
  exact orH_ok (rNgL_C h1 h4 hm hsy hmax F) (rNgN_C h1 hsy hmax F)
noncomputable def rCE_con : Con := { f := 9, args := [shrsArg 0 0, shrsArg 1 3], N := 2, M := 2, pre := [(.app 22 [.var 1], true), (.app 22 [.var 4], true), (.op2 .eq (.app 110 [.var 1]) (.num 0), false)], out := .tuple [.nilslice, .sint .i64 (.app 110 [.var 1])], news := [] }
noncomputable def rCE_call : Env → CallL := fun E => acallAll E (evH E (LRM E) ((fun _ => noLoops) E) 3)
noncomputable def rCE_t : GTree := (.leaf [[]])
noncomputable def rCE_l : List (List (X × Bool) × Option Pairs) := [([(yEN_6, true), (yEN_10, true), (yEN_0, false)], some [])]
theorem rCE_w (r : Rho) : rCE_con.fn.ways rCE_call E0 r rCE_con.pre rCE_t = some rCE_l := by kernel_rfl
set_option maxHeartbeats 1000000 in
theorem rCE_cok : rCE_con.Ok Tryz.prog sy := by
  intro r σ w us hsy hρ hpre hrel hins
  obtain ⟨l, h1⟩ := shrs_at hrel (i := 0) rfl
  obtain ⟨m, h4⟩ := shrs_at hrel (i := 1) rfl
  rw [hρ] at h1 h4
  have h1 : r.val 1 = some (shrsR l) := h1
  have h4 : r.val 4 = some (shrsR m) := h4
  refine con_of (E := E0) E0_ok E0_glob (sy := sy) (fun F => LRM_ok F hsy) (fun F => noH_ok) (rCE_w r) hρ hpre hrel hins ?_ ?_
  · simp only [rCE_con, rCE_t, yEN_26, yEN_25, yEN_24, yEN_23, yEN_22, yEN_21, yEN_20, yEN_19, yEN_18, yEN_17, yEN_16, yEN_15, yEN_14, yEN_13, yEN_12, yEN_11, yEN_10, yEN_9, yEN_8, yEN_7, yEN_6, yEN_5, yEN_4, yEN_3, yEN_2, yEN_1, yEN_0, AsksL, GTree.asks, FTree.asks, FactsIn, List.append_nil, List.nil_append, List.cons_append, Option.some.injEq, exists_eq', implies_true, and_self, X.bool, X.den, denL, dX, denSub, denIte, asB, dY, h1, h4, hsy, sym10, sym22, sym110, sym111, sym112, sym115, sym116, sym117, sym118, sym120, sym121, sym123]
    try simp
  · simp only [rCE_l, yEN_26, yEN_25, yEN_24, yEN_23, yEN_22, yEN_21, yEN_20, yEN_19, yEN_18, yEN_17, yEN_16, yEN_15, yEN_14, yEN_13, yEN_12, yEN_11, yEN_10, yEN_9, yEN_8, yEN_7, yEN_6, yEN_5, yEN_4, yEN_3, yEN_2, yEN_1, yEN_0, EndsOk, WaysOk, forall_cons, forall_nil, TgtOk, gpair, FactsIn, hold_cons, hold_nil, Option.some.injEq, dZ, X.bool, X.den, denL, dX, denSub, denIte, asB, dY, beq_iff_eq, beq_eq_false_iff_ne, ne_eq, h1, h4, hsy, sym10, sym22, sym110, sym111, sym112, sym115, sym116, sym117, sym118, sym120, sym121, sym123]
    try simp
noncomputable def rCF_con : Con := { f := 9, args := [shrsArg 0 0, shrsArg 1 3], N := 2, M := 2, pre := [(.app 22 [.var 1], true), (.app 22 [.var 4], true), (.op2 .eq (.app 110 [.var 1]) (.num 0), true), (.op2 .eq (.app 110 [.var 4]) (.num 0), false)], out := .tuple [.nilslice, .sint .i64 (.app 110 [.var 4])], news := [] }
noncomputable def rCF_call : Env → CallL := fun E => acallAll E (evH E (LRM E) ((fun _ => noLoops) E) 3)
noncomputable def rCF_t : GTree := (.leaf [[]])
noncomputable def rCF_l : List (List (X × Bool) × Option Pairs) := [([(yEN_6, true), (yEN_10, true), (yEN_0, true), (yEN_4, false)], some [(.app 110 [.var 4], .app 110 [.var 4])])]
theorem rCF_w (r : Rho) : rCF_con.fn.ways rCF_call E0 r rCF_con.pre rCF_t = some rCF_l := by kernel_rfl
set_option maxHeartbeats 1000000 in
theorem rCF_cok : rCF_con.Ok Tryz.prog sy := by
  intro r σ w us hsy hρ hpre hrel hins
  obtain ⟨l, h1⟩ := shrs_at hrel (i := 0) rfl
  obtain ⟨m, h4⟩ := shrs_at hrel (i := 1) rfl
  rw [hρ] at h1 h4
  have h1 : r.val 1 = some (shrsR l) := h1
  have h4 : r.val 4 = some (shrsR m) := h4
  refine con_of (E := E0) E0_ok E0_glob (sy := sy) (fun F => LRM_ok F hsy) (fun F => noH_ok) (rCF_w r) hρ hpre hrel hins ?_ ?_
  · simp only [rCF_con, rCF_t, yEN_26, yEN_25, yEN_24, yEN_23, yEN_22, yEN_21, yEN_20, yEN_19, yEN_18, yEN_17, yEN_16, yEN_15, yEN_14, yEN_13, yEN_12, yEN_11, yEN_10, yEN_9, yEN_8, yEN_7, yEN_6, yEN_5, yEN_4, yEN_3, yEN_2, yEN_1, yEN_0, AsksL, GTree.asks, FTree.asks, FactsIn, List.append_nil, List.nil_append, List.cons_append, Option.some.injEq, exists_eq', implies_true, and_self, X.bool, X.den, denL, dX, denSub, denIte, asB, dY, h1, h4, hsy, sym10, sym22, sym110, sym111, sym112, sym115, sym116, sym117, sym118, sym120, sym121, sym123]
    try simp
  · simp only [rCF_l, yEN_26, yEN_25, yEN_24, yEN_23, yEN_22, yEN_21, yEN_20, yEN_19, yEN_18, yEN_17, yEN_16, yEN_15, yEN_14, yEN_13, yEN_12, yEN_11, yEN_10, yEN_9, yEN_8, yEN_7, yEN_6, yEN_5, yEN_4, yEN_3, yEN_2, yEN_1, yEN_0, EndsOk, WaysOk, forall_cons, forall_nil, TgtOk, gpair, FactsIn, hold_cons, hold_nil, Option.some.injEq, dZ, X.bool, X.den, denL, dX, denSub, denIte, asB, dY, beq_iff_eq, beq_eq_false_iff_ne, ne_eq, h1, h4, hsy, sym10, sym22, sym110, sym111, sym112, sym115, sym116, sym117, sym118, sym120, sym121, sym123]
    try simp
noncomputable def rC0_con : Con := { f := 9, args := [shrsArg 0 0, shrsArg 1 3], N := 2, M := 2, pre := [(.app 22 [.var 1], true), (.app 22 [.var 4], true), (.op2 .eq (.app 110 [.var 1]) (.num 0), true), (.op2 .eq (.app 110 [.var 4]) (.num 0), true), (.op2 .eq (.op1 .len (.app 111 [.var 4, .app 112 [.var 1]])) (.num 0), true)], out := .tuple [.nilslice, .int .i64 0], news := [] }
noncomputable def rC0_call : Env → CallL := fun E => acallAll E (evH E (LRM E) ((fun E => oneH 9 (hooks [(9, orH (rNgL_D.hook E.facts rng_vs) (rNgN_D.hook E.facts rng_vs))])) E) 5)
noncomputable def rC0_t : GTree := (.fork yEN_3 (.fork yEN_5 .bad (.fork yEN_2 (.fork yEN_8 (.leaf [[]]) .bad) (.fork (.app 22 [yEN_11]) (.fork yEN_21 (.leaf [[]]) .bad) .bad))) (.fork yEN_2 (.leaf [[]]) (.fork yEN_12 (.fork yEN_7 (.leaf [[]]) .bad) .bad)))
noncomputable def rC0_l : List (List (X × Bool) × Option Pairs) := [([(yEN_5, true), (yEN_3, true), (yEN_6, true), (yEN_10, true), (yEN_0, true), (yEN_4, true), (yEN_1, true)], none),
  ([(yEN_8, true), (yEN_2, true), (yEN_5, false), (yEN_3, true), (yEN_6, true), (yEN_10, true), (yEN_0, true), (yEN_4, true), (yEN_1, true)], some []),
  ([(yEN_8, false), (yEN_2, true), (yEN_5, false), (yEN_3, true), (yEN_6, true), (yEN_10, true), (yEN_0, true), (yEN_4, true), (yEN_1, true)], none),
  ([(yEN_21, true), (.app 22 [yEN_11], true), (yEN_2, false), (yEN_5, false), (yEN_3, true), (yEN_6, true), (yEN_10, true), (yEN_0, true), (yEN_4, true), (yEN_1, true)], some []),
  ([(yEN_21, false), (.app 22 [yEN_11], true), (yEN_2, false), (yEN_5, false), (yEN_3, true), (yEN_6, true), (yEN_10, true), (yEN_0, true), (yEN_4, true), (yEN_1, true)], none),
  ([(.app 22 [yEN_11], false), (yEN_2, false), (yEN_5, false), (yEN_3, true), (yEN_6, true), (yEN_10, true), (yEN_0, true), (yEN_4, true), (yEN_1, true)], none),
  ([(yEN_2, true), (yEN_3, false), (yEN_6, true), (yEN_10, true), (yEN_0, true), (yEN_4, true), (yEN_1, true)], some []),
  ([(yEN_7, true), (yEN_12, true), (yEN_2, false), (yEN_3, false), (yEN_6, true), (yEN_10, true), (yEN_0, true), (yEN_4, true), (yEN_1, true)], some []),
  ([(yEN_7, false), (yEN_12, true), (yEN_2, false), (yEN_3, false), (yEN_6, true), (yEN_10, true), (yEN_0, true), (yEN_4, true), (yEN_1, true)], none),
  ([(yEN_12, false), (yEN_2, false), (yEN_3, false), (yEN_6, true), (yEN_10, true), (yEN_0, true), (yEN_4, true), (yEN_1, true)], none)]
theorem rC0_w (r : Rho) : rC0_con.fn.ways rC0_call E0 r rC0_con.pre rC0_t = some rC0_l := by kernel_rfl
set_option maxHeartbeats 1000000 in
theorem rC0_cok : rC0_con.Ok Tryz.prog sy := by
  intro r σ w us hsy hρ hpre hrel hins
  obtain ⟨l, h1⟩ := shrs_at hrel (i := 0) rfl
  obtain ⟨m, h4⟩ := shrs_at hrel (i := 1) rfl
  rw [hρ] at h1 h4
  have h1 : r.val 1 = some (shrsR l) := h1
  have h4 : r.val 4 = some (shrsR m) := h4
  have hbl : bigB l = true := by
    have := hpre.1
    simpa only [X.bool, X.den, denL, dX, denSub, denIte, asB, dY, h1, hsy, sym22, Option.some.injEq, Value.bool.injEq] using this
  have hbm : bigB m = true := by
    have := hpre.2.1
    simpa only [X.bool, X.den, denL, dX, denSub, denIte, asB, dY, h4, hsy, sym22, Option.some.injEq, Value.bool.injEq] using this
  have k1 : chkS l = 0 := by
    have := hpre.2.2.1
    simpa only [X.bool, X.den, denL, dX, denSub, denIte, asB, dY, h1, hsy, sym110, Option.some.injEq, Value.bool.injEq, beq_iff_eq] using this
  have k2 : chkS m = 0 := by
    have := hpre.2.2.2.1
    simpa only [X.bool, X.den, denL, dX, denSub, denIte, asB, dY, h4, hsy, sym110, Option.some.injEq, Value.bool.injEq, beq_iff_eq] using this
  refine con_of (E := E0) E0_ok E0_glob (sy := sy) (fun F => LRM_ok F hsy) (fun F => rNg_H h1 h4 hsy (big_len hbl) (big_len hbm) F) (rC0_w r) hρ hpre hrel hins ?_ ?_
  · simp only [rC0_con, rC0_t, yEN_26, yEN_25, yEN_24, yEN_23, yEN_22, yEN_21, yEN_20, yEN_19, yEN_18, yEN_17, yEN_16, yEN_15, yEN_14, yEN_13, yEN_12, yEN_11, yEN_10, yEN_9, yEN_8, yEN_7, yEN_6, yEN_5, yEN_4, yEN_3, yEN_2, yEN_1, yEN_0, AsksL, GTree.asks, FTree.asks, FactsIn, List.append_nil, List.nil_append, List.cons_append, Option.some.injEq, exists_eq', implies_true, and_self, X.bool, X.den, denL, dX, denSub, denIte, asB, dY, h1, h4, hsy, sym10, sym22, sym110, sym111, sym112, sym115, sym116, sym117, sym118, sym120, sym121, sym123]
    try simp
  · simp only [rC0_l, yEN_26, yEN_25, yEN_24, yEN_23, yEN_22, yEN_21, yEN_20, yEN_19, yEN_18, yEN_17, yEN_16, yEN_15, yEN_14, yEN_13, yEN_12, yEN_11, yEN_10, yEN_9, yEN_8, yEN_7, yEN_6, yEN_5, yEN_4, yEN_3, yEN_2, yEN_1, yEN_0, EndsOk, WaysOk, forall_cons, forall_nil, TgtOk, gpair, FactsIn, hold_cons, hold_nil, Option.some.injEq, dZ, X.bool, X.den, denL, dX, denSub, denIte, asB, dY, beq_iff_eq, beq_eq_false_iff_ne, ne_eq, h1, h4, hsy, sym10, sym22, sym110, sym111, sym112, sym115, sym116, sym117, sym118, sym120, sym121, sym123]
    have q1 := chk_len k1
    have q2 := chk_len k2
    have e := mrg_two k1 k2
    have e2 := chg_len (accB (accA l) m)
    have e3 := congrArg List.length e
    have b1 : bigB (bothS l m) = true := len_big (by rw [both_len]; omega)
    have b2 : bigB (negAll l) = true := len_big (by rw [negAll_len]; omega)
    clear hsy hρ hpre hrel hins h1 h4
    (repeat' apply And.intro) <;> intros <;> first
      | trivial
      | contradiction
      | (exfalso; omega)
      | (exfalso; simp_all; done)
      | (have em : m = [] := List.eq_nil_of_length_eq_zero (by omega)
         subst em
         first
           | (simp_all [both_nil]; done)
           | (have el : l = [] := List.eq_nil_of_length_eq_zero (by omega)
              subst el
              simp_all [both_nil, negAll, mrg_nil]; done))
      | (have el : l = [] := List.eq_nil_of_length_eq_zero (by omega)
         subst el
         simp_all [nil_both]; done)
      | (simp_all; done)
noncomputable def rC1_con : Con := { f := 9, args := [shrsArg 0 0, shrsArg 1 3], N := 2, M := 3, pre := [(.app 22 [.var 1], true), (.app 22 [.var 4], true), (.op2 .eq (.app 110 [.var 1]) (.num 0), true), (.op2 .eq (.app 110 [.var 4]) (.num 0), true), (.op2 .eq (.op1 .len (.app 111 [.var 4, .app 112 [.var 1]])) (.num 0), false)], out := .tuple [.slo 2 2 (.op1 .len (.app 115 [.app 111 [.var 4, .app 112 [.var 1]]])), .int .i64 0], news := [(2, .rows 2 shrSch (.num 0) (.app 115 [.app 111 [.var 4, .app 112 [.var 1]]]) true 25)] }
noncomputable def rC1_call : Env → CallL := fun E => acallAll E (evH E (LRM E) ((fun E => oneH 9 (hooks [(9, orH (rNgL_D.hook E.facts rng_vs) (rNgN_D.hook E.facts rng_vs))])) E) 5)
noncomputable def rC1_t : GTree := (.fork yEN_3 (.fork yEN_5 .bad (.fork yEN_2 (.fork yEN_8 .bad (.leaf [[(2, 114)]])) (.fork (.app 22 [yEN_11]) (.fork yEN_21 .bad (.leaf [[(2, 114)]])) .bad))) (.fork yEN_2 .bad (.fork yEN_12 (.fork yEN_7 .bad (.leaf [[(2, 114)]])) .bad)))
noncomputable def rC1_l : List (List (X × Bool) × Option Pairs) := [([(yEN_5, true), (yEN_3, true), (yEN_6, true), (yEN_10, true), (yEN_0, true), (yEN_4, true), (yEN_1, false)], none),
  ([(yEN_8, true), (yEN_2, true), (yEN_5, false), (yEN_3, true), (yEN_6, true), (yEN_10, true), (yEN_0, true), (yEN_4, true), (yEN_1, false)], none),
  ([(yEN_8, false), (yEN_2, true), (yEN_5, false), (yEN_3, true), (yEN_6, true), (yEN_10, true), (yEN_0, true), (yEN_4, true), (yEN_1, false)], some [(.op1 .len yEN_16, .op1 .len (.app 120 [.var 4])), (yEN_16, .app 120 [.var 4])]),
  ([(yEN_21, true), (.app 22 [yEN_11], true), (yEN_2, false), (yEN_5, false), (yEN_3, true), (yEN_6, true), (yEN_10, true), (yEN_0, true), (yEN_4, true), (yEN_1, false)], none),
  ([(yEN_21, false), (.app 22 [yEN_11], true), (yEN_2, false), (yEN_5, false), (yEN_3, true), (yEN_6, true), (yEN_10, true), (yEN_0, true), (yEN_4, true), (yEN_1, false)], some [(.op1 .len yEN_16, .op1 .len (.app 120 [yEN_11])), (yEN_16, .app 120 [yEN_11])]),
  ([(.app 22 [yEN_11], false), (yEN_2, false), (yEN_5, false), (yEN_3, true), (yEN_6, true), (yEN_10, true), (yEN_0, true), (yEN_4, true), (yEN_1, false)], none),
  ([(yEN_2, true), (yEN_3, false), (yEN_6, true), (yEN_10, true), (yEN_0, true), (yEN_4, true), (yEN_1, false)], none),
  ([(yEN_7, true), (yEN_12, true), (yEN_2, false), (yEN_3, false), (yEN_6, true), (yEN_10, true), (yEN_0, true), (yEN_4, true), (yEN_1, false)], none),
  ([(yEN_7, false), (yEN_12, true), (yEN_2, false), (yEN_3, false), (yEN_6, true), (yEN_10, true), (yEN_0, true), (yEN_4, true), (yEN_1, false)], some [(.op1 .len yEN_16, .op1 .len (.app 120 [.app 121 [.var 1]])), (yEN_16, .app 120 [.app 121 [.var 1]])]),
  ([(yEN_12, false), (yEN_2, false), (yEN_3, false), (yEN_6, true), (yEN_10, true), (yEN_0, true), (yEN_4, true), (yEN_1, false)], none)]
theorem rC1_w (r : Rho) : rC1_con.fn.ways rC1_call E0 r rC1_con.pre rC1_t = some rC1_l := by kernel_rfl
set_option maxHeartbeats 1000000 in
theorem rC1_cok : rC1_con.Ok Tryz.prog sy := by
  intro r σ w us hsy hρ hpre hrel hins
  obtain ⟨l, h1⟩ := shrs_at hrel (i := 0) rfl
  obtain ⟨m, h4⟩ := shrs_at hrel (i := 1) rfl
  rw [hρ] at h1 h4
  have h1 : r.val 1 = some (shrsR l) := h1
  have h4 : r.val 4 = some (shrsR m) := h4
  have hbl : bigB l = true := by
    have := hpre.1
    simpa only [X.bool, X.den, denL, dX, denSub, denIte, asB, dY, h1, hsy, sym22, Option.some.injEq, Value.bool.injEq] using this
  have hbm : bigB m = true := by
    have := hpre.2.1
    simpa only [X.bool, X.den, denL, dX, denSub, denIte, asB, dY, h4, hsy, sym22, Option.some.injEq, Value.bool.injEq] using this
  have k1 : chkS l = 0 := by
    have := hpre.2.2.1
    simpa only [X.bool, X.den, denL, dX, denSub, denIte, asB, dY, h1, hsy, sym110, Option.some.injEq, Value.bool.injEq, beq_iff_eq] using this
  have k2 : chkS m = 0 := by
    have := hpre.2.2.2.1
    simpa only [X.bool, X.den, denL, dX, denSub, denIte, asB, dY, h4, hsy, sym110, Option.some.injEq, Value.bool.injEq, beq_iff_eq] using this
  refine con_of (E := E0) E0_ok E0_glob (sy := sy) (fun F => LRM_ok F hsy) (fun F => rNg_H h1 h4 hsy (big_len hbl) (big_len hbm) F) (rC1_w r) hρ hpre hrel hins ?_ ?_
  · simp only [rC1_con, rC1_t, yEN_26, yEN_25, yEN_24, yEN_23, yEN_22, yEN_21, yEN_20, yEN_19, yEN_18, yEN_17, yEN_16, yEN_15, yEN_14, yEN_13, yEN_12, yEN_11, yEN_10, yEN_9, yEN_8, yEN_7, yEN_6, yEN_5, yEN_4, yEN_3, yEN_2, yEN_1, yEN_0, AsksL, GTree.asks, FTree.asks, FactsIn, List.append_nil, List.nil_append, List.cons_append, Option.some.injEq, exists_eq', implies_true, and_self, X.bool, X.den, denL, dX, denSub, denIte, asB, dY, h1, h4, hsy, sym10, sym22, sym110, sym111, sym112, sym115, sym116, sym117, sym118, sym120, sym121, sym123]
    try simp
  · simp only [rC1_l, yEN_26, yEN_25, yEN_24, yEN_23, yEN_22, yEN_21, yEN_20, yEN_19, yEN_18, yEN_17, yEN_16, yEN_15, yEN_14, yEN_13, yEN_12, yEN_11, yEN_10, yEN_9, yEN_8, yEN_7, yEN_6, yEN_5, yEN_4, yEN_3, yEN_2, yEN_1, yEN_0, EndsOk, WaysOk, forall_cons, forall_nil, TgtOk, gpair, FactsIn, hold_cons, hold_nil, Option.some.injEq, dZ, X.bool, X.den, denL, dX, denSub, denIte, asB, dY, beq_iff_eq, beq_eq_false_iff_ne, ne_eq, h1, h4, hsy, sym10, sym22, sym110, sym111, sym112, sym115, sym116, sym117, sym118, sym120, sym121, sym123]
    have q1 := chk_len k1
    have q2 := chk_len k2
    have e := mrg_two k1 k2
    have e2 := chg_len (accB (accA l) m)
    have e3 := congrArg List.length e
    have b1 : bigB (bothS l m) = true := len_big (by rw [both_len]; omega)
    have b2 : bigB (negAll l) = true := len_big (by rw [negAll_len]; omega)
    clear hsy hρ hpre hrel hins h1 h4
    (repeat' apply And.intro) <;> intros <;> first
      | trivial
      | contradiction
      | (exfalso; omega)
      | (exfalso; simp_all; done)
      | (have em : m = [] := List.eq_nil_of_length_eq_zero (by omega)
         subst em
         first
           | (simp_all [both_nil]; done)
           | (have el : l = [] := List.eq_nil_of_length_eq_zero (by omega)
              subst el
              simp_all [both_nil, negAll, mrg_nil]; done))
      | (have el : l = [] := List.eq_nil_of_length_eq_zero (by omega)
         subst el
         simp_all [nil_both]; done)
      | (simp_all; done)
noncomputable def rCEN_con : Con := { f := 9, args := [shrsArg 0 0, .nils], N := 2, M := 2, pre := [(.app 22 [.var 1], true), (.op2 .eq (.app 110 [.var 1]) (.num 0), false)], out := .tuple [.nilslice, .sint .i64 (.app 110 [.var 1])], news := [] }
noncomputable def rCEN_call : Env → CallL := fun E => acallAll E (evH E (LRM E) ((fun _ => noLoops) E) 3)
noncomputable def rCEN_t : GTree := (.leaf [[]])
noncomputable def rCEN_l : List (List (X × Bool) × Option Pairs) := [([(yEN_6, true), (yEN_0, false)], some [])]
theorem rCEN_w (r : Rho) : rCEN_con.fn.ways rCEN_call E0 r rCEN_con.pre rCEN_t = some rCEN_l := by kernel_rfl
set_option maxHeartbeats 1000000 in
theorem rCEN_cok : rCEN_con.Ok Tryz.prog sy := by
  intro r σ w us hsy hρ hpre hrel hins
  obtain ⟨l, h1⟩ := shrs_at hrel (i := 0) rfl
  rw [hρ] at h1
  have h1 : r.val 1 = some (shrsR l) := h1
  refine con_of (E := E0) E0_ok E0_glob (sy := sy) (fun F => LRM_ok F hsy) (fun F => noH_ok) (rCEN_w r) hρ hpre hrel hins ?_ ?_
  · simp only [rCEN_con, rCEN_t, yEN_26, yEN_25, yEN_24, yEN_23, yEN_22, yEN_21, yEN_20, yEN_19, yEN_18, yEN_17, yEN_16, yEN_15, yEN_14, yEN_13, yEN_12, yEN_11, yEN_10, yEN_9, yEN_8, yEN_7, yEN_6, yEN_5, yEN_4, yEN_3, yEN_2, yEN_1, yEN_0, AsksL, GTree.asks, FTree.asks, FactsIn, List.append_nil, List.nil_append, List.cons_append, Option.some.injEq, exists_eq', implies_true, and_self, X.bool, X.den, denL, dX, denSub, denIte, asB, dY, h1, hsy, sym10, sym22, sym110, sym111, sym112, sym115, sym116, sym117, sym118, sym120, sym121, sym123]
    try simp
  · simp only [rCEN_l, yEN_26, yEN_25, yEN_24, yEN_23, yEN_22, yEN_21, yEN_20, yEN_19, yEN_18, yEN_17, yEN_16, yEN_15, yEN_14, yEN_13, yEN_12, yEN_11, yEN_10, yEN_9, yEN_8, yEN_7, yEN_6, yEN_5, yEN_4, yEN_3, yEN_2, yEN_1, yEN_0, EndsOk, WaysOk, forall_cons, forall_nil, TgtOk, gpair, FactsIn, hold_cons, hold_nil, Option.some.injEq, dZ, X.bool, X.den, denL, dX, denSub, denIte, asB, dY, beq_iff_eq, beq_eq_false_iff_ne, ne_eq, h1, hsy, sym10, sym22, sym110, sym111, sym112, sym115, sym116, sym117, sym118, sym120, sym121, sym123]
    try simp
noncomputable def rC0N_con : Con := { f := 9, args := [shrsArg 0 0, .nils], N := 2, M := 2, pre := [(.app 22 [.var 1], true), (.op2 .eq (.app 110 [.var 1]) (.num 0), true), (.op2 .eq (.op1 .len (.app 118 [.var 1])) (.num 0), true)], out := .tuple [.nilslice, .int .i64 0], news := [] }
noncomputable def rC0N_call : Env → CallL := fun E => acallAll E (evH E (LRM E) ((fun E => oneH 9 (hooks [(9, rNgN_D.hook E.facts rng_vs)])) E) 5)
noncomputable def rC0N_t : GTree := (.fork yEN_2 (.leaf [[]]) (.fork yEN_12 (.fork yEN_7 (.leaf [[]]) .bad) .bad))
noncomputable def rC0N_l : List (List (X × Bool) × Option Pairs) := [([(yEN_2, true), (yEN_6, true), (yEN_0, true), (yEN_14, true)], some []),
  ([(yEN_7, true), (yEN_12, true), (yEN_2, false), (yEN_6, true), (yEN_0, true), (yEN_14, true)], some []),
  ([(yEN_7, false), (yEN_12, true), (yEN_2, false), (yEN_6, true), (yEN_0, true), (yEN_14, true)], none),
  ([(yEN_12, false), (yEN_2, false), (yEN_6, true), (yEN_0, true), (yEN_14, true)], none)]
theorem rC0N_w (r : Rho) : rC0N_con.fn.ways rC0N_call E0 r rC0N_con.pre rC0N_t = some rC0N_l := by kernel_rfl
set_option maxHeartbeats 1000000 in
theorem rC0N_cok : rC0N_con.Ok Tryz.prog sy := by
  intro r σ w us hsy hρ hpre hrel hins
  obtain ⟨l, h1⟩ := shrs_at hrel (i := 0) rfl
  rw [hρ] at h1
  have h1 : r.val 1 = some (shrsR l) := h1
  have hbl : bigB l = true := by
    have := hpre.1
    simpa only [X.bool, X.den, denL, dX, denSub, denIte, asB, dY, h1, hsy, sym22, Option.some.injEq, Value.bool.injEq] using this
  have k1 : chkS l = 0 := by
    have := hpre.2.1
    simpa only [X.bool, X.den, denL, dX, denSub, denIte, asB, dY, h1, hsy, sym110, Option.some.injEq, Value.bool.injEq, beq_iff_eq] using this
  refine con_of (E := E0) E0_ok E0_glob (sy := sy) (fun F => LRM_ok F hsy) (fun F => rNgN_H h1 hsy (big_len hbl) F) (rC0N_w r) hρ hpre hrel hins ?_ ?_
  · simp only [rC0N_con, rC0N_t, yEN_26, yEN_25, yEN_24, yEN_23, yEN_22, yEN_21, yEN_20, yEN_19, yEN_18, yEN_17, yEN_16, yEN_15, yEN_14, yEN_13, yEN_12, yEN_11, yEN_10, yEN_9, yEN_8, yEN_7, yEN_6, yEN_5, yEN_4, yEN_3, yEN_2, yEN_1, yEN_0, AsksL, GTree.asks, FTree.asks, FactsIn, List.append_nil, List.nil_append, List.cons_append, Option.some.injEq, exists_eq', implies_true, and_self, X.bool, X.den, denL, dX, denSub, denIte, asB, dY, h1, hsy, sym10, sym22, sym110, sym111, sym112, sym115, sym116, sym117, sym118, sym120, sym121, sym123]
    try simp
  · simp only [rC0N_l, yEN_26, yEN_25, yEN_24, yEN_23, yEN_22, yEN_21, yEN_20, yEN_19, yEN_18, yEN_17, yEN_16, yEN_15, yEN_14, yEN_13, yEN_12, yEN_11, yEN_10, yEN_9, yEN_8, yEN_7, yEN_6, yEN_5, yEN_4, yEN_3, yEN_2, yEN_1, yEN_0, EndsOk, WaysOk, forall_cons, forall_nil, TgtOk, gpair, FactsIn, hold_cons, hold_nil, Option.some.injEq, dZ, X.bool, X.den, denL, dX, denSub, denIte, asB, dY, beq_iff_eq, beq_eq_false_iff_ne, ne_eq, h1, hsy, sym10, sym22, sym110, sym111, sym112, sym115, sym116, sym117, sym118, sym120, sym121, sym123]
    have q1 := chk_len k1
    have e := mrg_neg k1
    have e2 := chg_len (accB (accA l) [])
    have e3 := congrArg List.length e
    have b2 : bigB (negAll l) = true := len_big (by rw [negAll_len]; omega)
    clear hsy hρ hpre hrel hins h1
    (repeat' apply And.intro) <;> intros <;> first
      | trivial
      | contradiction
      | (exfalso; omega)
      | (exfalso; simp_all; done)
      | (have el : l = [] := List.eq_nil_of_length_eq_zero (by omega)
         subst el
         simp_all [negAll, mrg_nil]; done)
      | (simp_all; done)
noncomputable def rC1N_con : Con := { f := 9, args := [shrsArg 0 0, .nils], N := 2, M := 3, pre := [(.app 22 [.var 1], true), (.op2 .eq (.app 110 [.var 1]) (.num 0), true), (.op2 .eq (.op1 .len (.app 118 [.var 1])) (.num 0), false)], out := .tuple [.slo 2 2 (.op1 .len (.app 115 [.app 118 [.var 1]])), .int .i64 0], news := [(2, .rows 2 shrSch (.num 0) (.app 115 [.app 118 [.var 1]]) true 25)] }
noncomputable def rC1N_call : Env → CallL := fun E => acallAll E (evH E (LRM E) ((fun E => oneH 9 (hooks [(9, rNgN_D.hook E.facts rng_vs)])) E) 5)
noncomputable def rC1N_t : GTree := (.fork yEN_2 .bad (.fork yEN_12 (.fork yEN_7 .bad (.leaf [[(2, 114)]])) .bad))
noncomputable def rC1N_l : List (List (X × Bool) × Option Pairs) := [([(yEN_2, true), (yEN_6, true), (yEN_0, true), (yEN_14, false)], none),
  ([(yEN_7, true), (yEN_12, true), (yEN_2, false), (yEN_6, true), (yEN_0, true), (yEN_14, false)], none),
  ([(yEN_7, false), (yEN_12, true), (yEN_2, false), (yEN_6, true), (yEN_0, true), (yEN_14, false)], some [(.op1 .len (.app 115 [.app 118 [.var 1]]), .op1 .len (.app 120 [.app 121 [.var 1]])), (.app 115 [.app 118 [.var 1]], .app 120 [.app 121 [.var 1]])]),
  ([(yEN_12, false), (yEN_2, false), (yEN_6, true), (yEN_0, true), (yEN_14, false)], none)]
theorem rC1N_w (r : Rho) : rC1N_con.fn.ways rC1N_call E0 r rC1N_con.pre rC1N_t = some rC1N_l := by kernel_rfl
set_option maxHeartbeats 1000000 in
theorem rC1N_cok : rC1N_con.Ok Tryz.prog sy := by
  intro r σ w us hsy hρ hpre hrel hins
  obtain ⟨l, h1⟩ := shrs_at hrel (i := 0) rfl
  rw [hρ] at h1
  have h1 : r.val 1 = some (shrsR l) := h1
  have hbl : bigB l = true := by
    have := hpre.1
    simpa only [X.bool, X.den, denL, dX, denSub, denIte, asB, dY, h1, hsy, sym22, Option.some.injEq, Value.bool.injEq] using this
  have k1 : chkS l = 0 := by
    have := hpre.2.1
    simpa only [X.bool, X.den, denL, dX, denSub, denIte, asB, dY, h1, hsy, sym110, Option.some.injEq, Value.bool.injEq, beq_iff_eq] using this
  refine con_of (E := E0) E0_ok E0_glob (sy := sy) (fun F => LRM_ok F hsy) (fun F => rNgN_H h1 hsy (big_len hbl) F) (rC1N_w r) hρ hpre hrel hins ?_ ?_
  · simp only [rC1N_con, rC1N_t, yEN_26, yEN_25, yEN_24, yEN_23, yEN_22, yEN_21, yEN_20, yEN_19, yEN_18, yEN_17, yEN_16, yEN_15, yEN_14, yEN_13, yEN_12, yEN_11, yEN_10, yEN_9, yEN_8, yEN_7, yEN_6, yEN_5, yEN_4, yEN_3, yEN_2, yEN_1, yEN_0, AsksL, GTree.asks, FTree.asks, FactsIn, List.append_nil, List.nil_append, List.cons_append, Option.some.injEq, exists_eq', implies_true, and_self, X.bool, X.den, denL, dX, denSub, denIte, asB, dY, h1, hsy, sym10, sym22, sym110, sym111, sym112, sym115, sym116, sym117, sym118, sym120, sym121, sym123]
    try simp
  · simp only [rC1N_l, yEN_26, yEN_25, yEN_24, yEN_23, yEN_22, yEN_21, yEN_20, yEN_19, yEN_18, yEN_17, yEN_16, yEN_15, yEN_14, yEN_13, yEN_12, yEN_11, yEN_10, yEN_9, yEN_8, yEN_7, yEN_6, yEN_5, yEN_4, yEN_3, yEN_2, yEN_1, yEN_0, EndsOk, WaysOk, forall_cons, forall_nil, TgtOk, gpair, FactsIn, hold_cons, hold_nil, Option.some.injEq, dZ, X.bool, X.den, denL, dX, denSub, denIte, asB, dY, beq_iff_eq, beq_eq_false_iff_ne, ne_eq, h1, hsy, sym10, sym22, sym110, sym111, sym112, sym115, sym116, sym117, sym118, sym120, sym121, sym123]
    have q1 := chk_len k1
    have e := mrg_neg k1
    have e2 := chg_len (accB (accA l) [])
    have e3 := congrArg List.length e
    have b2 : bigB (negAll l) = true := len_big (by rw [negAll_len]; omega)
    clear hsy hρ hpre hrel hins h1
    (repeat' apply And.intro) <;> intros <;> first
      | trivial
      | contradiction
      | (exfalso; omega)
      | (exfalso; simp_all; done)
      | (have el : l = [] := List.eq_nil_of_length_eq_zero (by omega)
         subst el
         simp_all [negAll, mrg_nil]; done)
      | (simp_all; done)
noncomputable def rCFB_con : Con := { f := 9, args := [.nils, shrsArg 1 3], N := 2, M := 2, pre := [(.app 22 [.var 4], true), (.op2 .eq (.app 110 [.var 4]) (.num 0), false)], out := .tuple [.nilslice, .sint .i64 (.app 110 [.var 4])], news := [] }
noncomputable def rCFB_call : Env → CallL := fun E => acallAll E (evH E (LRM E) ((fun _ => noLoops) E) 3)
noncomputable def rCFB_t : GTree := (.leaf [[]])
noncomputable def rCFB_l : List (List (X × Bool) × Option Pairs) := [([(yEN_10, true), (yEN_4, false)], some [(.app 110 [.var 4], .app 110 [.var 4])])]
theorem rCFB_w (r : Rho) : rCFB_con.fn.ways rCFB_call E0 r rCFB_con.pre rCFB_t = some rCFB_l := by kernel_rfl
set_option maxHeartbeats 1000000 in
theorem rCFB_cok : rCFB_con.Ok Tryz.prog sy := by
  intro r σ w us hsy hρ hpre hrel hins
  obtain ⟨m, h4⟩ := shrs_at hrel (i := 1) rfl
  rw [hρ] at h4
  have h4 : r.val 4 = some (shrsR m) := h4
  refine con_of (E := E0) E0_ok E0_glob (sy := sy) (fun F => LRM_ok F hsy) (fun F => noH_ok) (rCFB_w r) hρ hpre hrel hins ?_ ?_
  · simp only [rCFB_con, rCFB_t, yEN_26, yEN_25, yEN_24, yEN_23, yEN_22, yEN_21, yEN_20, yEN_19, yEN_18, yEN_17, yEN_16, yEN_15, yEN_14, yEN_13, yEN_12, yEN_11, yEN_10, yEN_9, yEN_8, yEN_7, yEN_6, yEN_5, yEN_4, yEN_3, yEN_2, yEN_1, yEN_0, AsksL, GTree.asks, FTree.asks, FactsIn, List.append_nil, List.nil_append, List.cons_append, Option.some.injEq, exists_eq', implies_true, and_self, X.bool, X.den, denL, dX, denSub, denIte, asB, dY, h4, hsy, sym10, sym22, sym110, sym111, sym112, sym115, sym116, sym117, sym118, sym120, sym121, sym123]
    try simp
  · simp only [rCFB_l, yEN_26, yEN_25, yEN_24, yEN_23, yEN_22, yEN_21, yEN_20, yEN_19, yEN_18, yEN_17, yEN_16, yEN_15, yEN_14, yEN_13, yEN_12, yEN_11, yEN_10, yEN_9, yEN_8, yEN_7, yEN_6, yEN_5, yEN_4, yEN_3, yEN_2, yEN_1, yEN_0, EndsOk, WaysOk, forall_cons, forall_nil, TgtOk, gpair, FactsIn, hold_cons, hold_nil, Option.some.injEq, dZ, X.bool, X.den, denL, dX, denSub, denIte, asB, dY, beq_iff_eq, beq_eq_false_iff_ne, ne_eq, h4, hsy, sym10, sym22, sym110, sym111, sym112, sym115, sym116, sym117, sym118, sym120, sym121, sym123]
    try simp
noncomputable def rC0B_con : Con := { f := 9, args := [.nils, shrsArg 1 3], N := 2, M := 2, pre := [(.app 22 [.var 4], true), (.op2 .eq (.app 110 [.var 4]) (.num 0), true), (.op2 .eq (.op1 .len (.app 117 [.var 4])) (.num 0), true)], out := .tuple [.nilslice, .int .i64 0], news := [] }
noncomputable def rC0B_call : Env → CallL := fun E => acallAll E (evH E (LRM E) ((fun _ => noLoops) E) 9)
noncomputable def rC0B_t : GTree := (.fork yEN_3 (.fork yEN_5 .bad (.fork yEN_8 (.leaf [[]]) .bad)) (.leaf [[]]))
noncomputable def rC0B_l : List (List (X × Bool) × Option Pairs) := [([(yEN_5, true), (yEN_3, true), (yEN_10, true), (yEN_4, true), (yEN_15, true)], none),
  ([(yEN_8, true), (yEN_5, false), (yEN_3, true), (yEN_10, true), (yEN_4, true), (yEN_15, true)], some []),
  ([(yEN_8, false), (yEN_5, false), (yEN_3, true), (yEN_10, true), (yEN_4, true), (yEN_15, true)], none),
  ([(yEN_3, false), (yEN_10, true), (yEN_4, true), (yEN_15, true)], some [])]
theorem rC0B_w (r : Rho) : rC0B_con.fn.ways rC0B_call E0 r rC0B_con.pre rC0B_t = some rC0B_l := by kernel_rfl
set_option maxHeartbeats 1000000 in
theorem rC0B_cok : rC0B_con.Ok Tryz.prog sy := by
  intro r σ w us hsy hρ hpre hrel hins
  obtain ⟨m, h4⟩ := shrs_at hrel (i := 1) rfl
  rw [hρ] at h4
  have h4 : r.val 4 = some (shrsR m) := h4
  have k2 : chkS m = 0 := by
    have := hpre.2.1
    simpa only [X.bool, X.den, denL, dX, denSub, denIte, asB, dY, h4, hsy, sym110, Option.some.injEq, Value.bool.injEq, beq_iff_eq] using this
  refine con_of (E := E0) E0_ok E0_glob (sy := sy) (fun F => LRM_ok F hsy) (fun F => noH_ok) (rC0B_w r) hρ hpre hrel hins ?_ ?_
  · simp only [rC0B_con, rC0B_t, yEN_26, yEN_25, yEN_24, yEN_23, yEN_22, yEN_21, yEN_20, yEN_19, yEN_18, yEN_17, yEN_16, yEN_15, yEN_14, yEN_13, yEN_12, yEN_11, yEN_10, yEN_9, yEN_8, yEN_7, yEN_6, yEN_5, yEN_4, yEN_3, yEN_2, yEN_1, yEN_0, AsksL, GTree.asks, FTree.asks, FactsIn, List.append_nil, List.nil_append, List.cons_append, Option.some.injEq, exists_eq', implies_true, and_self, X.bool, X.den, denL, dX, denSub, denIte, asB, dY, h4, hsy, sym10, sym22, sym110, sym111, sym112, sym115, sym116, sym117, sym118, sym120, sym121, sym123]
    try simp
  · simp only [rC0B_l, yEN_26, yEN_25, yEN_24, yEN_23, yEN_22, yEN_21, yEN_20, yEN_19, yEN_18, yEN_17, yEN_16, yEN_15, yEN_14, yEN_13, yEN_12, yEN_11, yEN_10, yEN_9, yEN_8, yEN_7, yEN_6, yEN_5, yEN_4, yEN_3, yEN_2, yEN_1, yEN_0, EndsOk, WaysOk, forall_cons, forall_nil, TgtOk, gpair, FactsIn, hold_cons, hold_nil, Option.some.injEq, dZ, X.bool, X.den, denL, dX, denSub, denIte, asB, dY, beq_iff_eq, beq_eq_false_iff_ne, ne_eq, h4, hsy, sym10, sym22, sym110, sym111, sym112, sym115, sym116, sym117, sym118, sym120, sym121, sym123]
    have q2 := chk_len k2
    have e := mrg_one k2
    have e2 := chg_len (accB (accA []) m)
    have e3 := congrArg List.length e
    clear hsy hρ hpre hrel hins h4
    (repeat' apply And.intro) <;> intros <;> first
      | trivial
      | contradiction
      | (rw [e]; done)
      | (simp [e]; done)
      | (exfalso; omega)
      | (have em : m = [] := List.eq_nil_of_length_eq_zero (by omega)
         subst em
         simp_all [mrg_nil]; done)
      | (simp_all; done)
      | (exfalso; simp_all; done)
noncomputable def rC1B_con : Con := { f := 9, args := [.nils, shrsArg 1 3], N := 2, M := 3, pre := [(.app 22 [.var 4], true), (.op2 .eq (.app 110 [.var 4]) (.num 0), true), (.op2 .eq (.op1 .len (.app 117 [.var 4])) (.num 0), false)], out := .tuple [.slo 2 2 (.op1 .len (.app 115 [.app 117 [.var 4]])), .int .i64 0], news := [(2, .rows 2 shrSch (.num 0) (.app 115 [.app 117 [.var 4]]) true 25)] }
noncomputable def rC1B_call : Env → CallL := fun E => acallAll E (evH E (LRM E) ((fun _ => noLoops) E) 9)
noncomputable def rC1B_t : GTree := (.fork yEN_3 (.fork yEN_5 .bad (.fork yEN_8 .bad (.leaf [[(2, 3)]]))) .bad)
noncomputable def rC1B_l : List (List (X × Bool) × Option Pairs) := [([(yEN_5, true), (yEN_3, true), (yEN_10, true), (yEN_4, true), (yEN_15, false)], none),
  ([(yEN_8, true), (yEN_5, false), (yEN_3, true), (yEN_10, true), (yEN_4, true), (yEN_15, false)], none),
  ([(yEN_8, false), (yEN_5, false), (yEN_3, true), (yEN_10, true), (yEN_4, true), (yEN_15, false)], some [(.op1 .len (.app 115 [.app 117 [.var 4]]), .op1 .len (.app 120 [.var 4])), (.app 115 [.app 117 [.var 4]], .app 120 [.var 4])]),
  ([(yEN_3, false), (yEN_10, true), (yEN_4, true), (yEN_15, false)], none)]
theorem rC1B_w (r : Rho) : rC1B_con.fn.ways rC1B_call E0 r rC1B_con.pre rC1B_t = some rC1B_l := by kernel_rfl
set_option maxHeartbeats 1000000 in
theorem rC1B_cok : rC1B_con.Ok Tryz.prog sy := by
  intro r σ w us hsy hρ hpre hrel hins
  obtain ⟨m, h4⟩ := shrs_at hrel (i := 1) rfl
  rw [hρ] at h4
  have h4 : r.val 4 = some (shrsR m) := h4
  have k2 : chkS m = 0 := by
    have := hpre.2.1
    simpa only [X.bool, X.den, denL, dX, denSub, denIte, asB, dY, h4, hsy, sym110, Option.some.injEq, Value.bool.injEq, beq_iff_eq] using this
  refine con_of (E := E0) E0_ok E0_glob (sy := sy) (fun F => LRM_ok F hsy) (fun F => noH_ok) (rC1B_w r) hρ hpre hrel hins ?_ ?_
  · simp only [rC1B_con, rC1B_t, yEN_26, yEN_25, yEN_24, yEN_23, yEN_22, yEN_21, yEN_20, yEN_19, yEN_18, yEN_17, yEN_16, yEN_15, yEN_14, yEN_13, yEN_12, yEN_11, yEN_10, yEN_9, yEN_8, yEN_7, yEN_6, yEN_5, yEN_4, yEN_3, yEN_2, yEN_1, yEN_0, AsksL, GTree.asks, FTree.asks, FactsIn, List.append_nil, List.nil_append, List.cons_append, Option.some.injEq, exists_eq', implies_true, and_self, X.bool, X.den, denL, dX, denSub, denIte, asB, dY, h4, hsy, sym10, sym22, sym110, sym111, sym112, sym115, sym116, sym117, sym118, sym120, sym121, sym123]
    try simp
  · simp only [rC1B_l, yEN_26, yEN_25, yEN_24, yEN_23, yEN_22, yEN_21, yEN_20, yEN_19, yEN_18, yEN_17, yEN_16, yEN_15, yEN_14, yEN_13, yEN_12, yEN_11, yEN_10, yEN_9, yEN_8, yEN_7, yEN_6, yEN_5, yEN_4, yEN_3, yEN_2, yEN_1, yEN_0, EndsOk, WaysOk, forall_cons, forall_nil, TgtOk, gpair, FactsIn, hold_cons, hold_nil, Option.some.injEq, dZ, X.bool, X.den, denL, dX, denSub, denIte, asB, dY, beq_iff_eq, beq_eq_false_iff_ne, ne_eq, h4, hsy, sym10, sym22, sym110, sym111, sym112, sym115, sym116, sym117, sym118, sym120, sym121, sym123]
    have q2 := chk_len k2
    have e := mrg_one k2
    have e2 := chg_len (accB (accA []) m)
    have e3 := congrArg List.length e
    clear hsy hρ hpre hrel hins h4
    (repeat' apply And.intro) <;> intros <;> first
      | trivial
      | contradiction
      | (rw [e]; done)
      | (simp [e]; done)
      | (exfalso; omega)
      | (have em : m = [] := List.eq_nil_of_length_eq_zero (by omega)
         subst em
         simp_all [mrg_nil]; done)
      | (simp_all; done)
      | (exfalso; simp_all; done)
end Go.Proofs.YtpdemfamfmeemacGreatDoor.Zs
