/-
  Contracts of the reference: Held, Upto, OfParcel.
-/
import Derived.Test.YtpdemfamfmeemacGreatPpConI
import Derived.KernelRfl
set_option linter.unusedSimpArgs false
set_option linter.unusedVariables false
namespace Go.Proofs.YtpdemfamfmeemacGreat.Zs
open Go
theorem sumHeld_snoc (l : List Ptg) (ks : List Int) (c : Int) : sumHeld l (ks ++ [c]) = IntKind.i64.wrap (sumHeld l ks + heldW l c) := by simp [sumHeld]
theorem hour_snoc2 (l : List Ptg) (p : Ptg) (h : Int) : hourP (l ++ [p]) h = if p.hour ≤ h then hourP l h ++ [p] else hourP l h := by
  unfold hourP
  rw [List.filter_append]
  by_cases e : p.hour ≤ h <;> simp [e]
theorem of_snoc2 (l : List Ptg) (p : Ptg) (h : Int) : ofP (l ++ [p]) h = if p.parcel = h then ofP l h ++ [p] else ofP l h := by
  unfold ofP
  rw [List.filter_append]
  by_cases e : p.parcel = h <;> simp [e]
noncomputable def LQS : Env → CallE := libs [cLib rChk_con]
theorem LQS_ok (F : List (X × Bool)) {r : Rho} (h : r.sym = sy) : CallsOk (E0.with F r) (LQS (E0.with F r)) := libs_ok fun c hc => by
  simp only [List.mem_cons, List.not_mem_nil, or_false] at hc
  subst hc; exact lib_ok (E := E0) rChk_cok F h
noncomputable def LHS : Env → CallE := libs [cLib rHeld_con]
theorem LHS_ok (F : List (X × Bool)) {r : Rho} (h : r.sym = sy) : CallsOk (E0.with F r) (LHS (E0.with F r)) := libs_ok fun c hc => by
  simp only [List.mem_cons, List.not_mem_nil, or_false] at hc
  subst hc; exact lib_ok (E := E0) rHeld_cok F h
noncomputable def LHG : Env → CallE := libs [cLib rChk_con, cLib rParN_con, cLib rParY_con]
theorem LHG_ok (F : List (X × Bool)) {r : Rho} (h : r.sym = sy) : CallsOk (E0.with F r) (LHG (E0.with F r)) := libs_ok fun c hc => by
  simp only [List.mem_cons, List.not_mem_nil, or_false] at hc
  rcases hc with rfl | rfl | rfl
  · exact lib_ok (E := E0) rChk_cok F h
  · exact lib_ok (E := E0) rParN_cok F h
  · exact lib_ok (E := E0) rParY_cok F h
def flt_vs : List X := [.num 0]
def rhl_vs : List X := [.num 0, .num 0]
noncomputable def lRhl_D : LoopD := { N := 100, M := 102, size := sizeOfF 10, reads := [(0, .rows 8 ptgSch (.var 0) (.var 1) false 36), (1, .rows 1 [.int .i64] (.num 0) (.app 59 [.var 1]) true 3)], pats := [{ slots := [(0, .slx 0 8 (.var 0) (.num 0) (.op1 .len (.var 1)) (.var 2)), (7, .slo 1 1 (.op1 .len (.app 59 [.var 1]))), (6, .sint .i64 (.var 101)), (8, .sint .i64 (.var 100))], heap := [] }], exits := [(.exit 0, { slots := [(6, .sint .i64 (.app 71 [.var 1, .app 59 [.var 1]]))], heap := [] })], own := [], pre := [(.app 20 [.var 1], true)] }
noncomputable def lRhl_run : Env → AF → ASt → Option (List Out) := bodyRun LHS 3 (fun _ => noLoop) (loopAt Tryz.prog 10 0)
def lRhl0_F : List (X × Bool) := [(.op2 .lt (.var 100) (.num 0), false), (.app 20 [.var 1], true)]
def yPJ_0 : X := .op2 .eq (.app 6 [(.var 1)]) (.num 0)
def yPJ_1 : X := .op2 .lt (.var 100) (.op1 .len (.var 1))
def yPJ_2 : X := .snoc (.var 101) [(.op1 (.kind .i64) (.cell 0 (.var 1) (.var 100))), (.op1 (.kind .i64) (.cell 1 (.var 1) (.var 100))), (.op1 (.kind .u8) (.cell 2 (.var 1) (.var 100))), (.op1 (.kind .i64) (.cell 3 (.var 1) (.var 100))), (.op1 (.kind .i64) (.cell 4 (.var 1) (.var 100))), (.op1 (.kind .i64) (.cell 5 (.var 1) (.var 100))), (.op1 (.kind .i64) (.cell 6 (.var 1) (.var 100))), (.op1 (.kind .i64) (.cell 7 (.var 1) (.var 100)))]
def yPJ_3 : X := .snoc .nil [(.op1 (.kind .i64) (.cell 0 (.var 1) (.var 100))), (.op1 (.kind .i64) (.cell 1 (.var 1) (.var 100))), (.op1 (.kind .u8) (.cell 2 (.var 1) (.var 100))), (.op1 (.kind .i64) (.cell 3 (.var 1) (.var 100))), (.op1 (.kind .i64) (.cell 4 (.var 1) (.var 100))), (.op1 (.kind .i64) (.cell 5 (.var 1) (.var 100))), (.op1 (.kind .i64) (.cell 6 (.var 1) (.var 100))), (.op1 (.kind .i64) (.cell 7 (.var 1) (.var 100)))]
def yPJ_4 : X := .app 20 [(.var 1)]
def yPJ_5 : X := .op2 .lt (.var 100) (.num 0)
def yPJ_6 : X := .op1 (.wrap .i64) (.op2 .add (.var 100) (.num 1))
def yPJ_7 : X := .op2 .lt (.num 1000000000) (.op2 .add (.op1 .len (.var 101)) (.num 1))
def yPJ_8 : X := .op2 .lt (.var 3) (.cell 1 (.var 1) (.var 100))
def yPJ_9 : X := .op2 .eq (.cell 4 (.var 1) (.var 100)) (.var 3)
def yPJ_10 : X := .app 58 [(.var 1), (.var 3)]
def yPJ_11 : X := .app 60 [(.var 1), (.var 3)]
def yPJ_12 : X := .op1 .len (.var 101)
def yPJ_13 : X := .op2 .lt (.num 0) (.op1 .len (.var 1))
noncomputable def lRhl0_t : FTree := (.fork (.op2 .lt (.var 100) (.op1 .len (.app 59 [.var 1]))) (.leaf [.again 0 []]) (.leaf [.leave 0 []]))
noncomputable def lRhl0_l : List (List (X × Bool) × Option (List (Tgt × Pairs))) := [([(.op2 .lt (.var 100) (.op1 .len (.app 59 [.var 1])), true), (yPJ_5, false), (yPJ_4, true)], some [(.again 0 [], [(.var 101, .op1 (.wrap .i64) (.op2 .add (.var 101) (.app 42 [.var 1, .cell 0 (.app 59 [.var 1]) (.var 100)]))), (.var 100, yPJ_6)])]),
  ([(.op2 .lt (.var 100) (.op1 .len (.app 59 [.var 1])), false), (yPJ_5, false), (yPJ_4, true)], some [(.leave 0 [], [(.app 71 [.var 1, .app 59 [.var 1]], .var 101)])])]
theorem lRhl0_w (r : Rho) : lRhl_D.ways lRhl_run E0 r 0 lRhl0_F lRhl0_t = some lRhl0_l := by kernel_rfl
theorem lRhl_ok : lRhl_D.ok = true := by kernel_rfl
def lRhl_Inv (l : List Ptg) (j : Nat) (vals : List Value) : Prop :=
  j = 0 ∧ ∃ i : Nat, i ≤ (parcZ l).length ∧ vals = [.int .i64 i, .int .i64 (sumHeld l ((parcZ l).take i))]
def lRhl_mu (l : List Ptg) (_ : Nat) (vals : List Value) : Nat := (parcZ l).length - (vI (vals.getD 0 default)).toNat
theorem lRhl_step {ρ : Rho} {l : List Ptg} (h1 : ρ.val 1 = some (ptgsR l)) (hsy : ρ.sym = sy) (hmax : (l.length : Int) ≤ 1010) (j : Nat) (vals : List Value) (hI : lRhl_Inv l j vals) :
    StepOk lRhl_D lRhl_run E0 ρ (lRhl_Inv l) (lRhl_mu l) j vals := by
  obtain ⟨rfl, i, hi, rfl⟩ := hI
  have hN : lRhl_D.N = 100 := rfl
  have v1 : (ρ.ext lRhl_D.N [.int .i64 i, .int .i64 (sumHeld l ((parcZ l).take i))]).val 1 = some (ptgsR l) := by rw [ext_low _ _ _ _ (by rw [hN]; omega)]; exact h1
  have v100 : (ρ.ext lRhl_D.N [.int .i64 i, .int .i64 (sumHeld l ((parcZ l).take i))]).val 100 = some (.int .i64 i) := by rw [ext_high _ _ _ _ (by rw [hN]; omega)]; rfl
  have v101 : (ρ.ext lRhl_D.N [.int .i64 i, .int .i64 (sumHeld l ((parcZ l).take i))]).val 101 = some (.int .i64 (sumHeld l ((parcZ l).take i))) := by rw [ext_high _ _ _ _ (by rw [hN]; omega)]; rfl
  have vs : (ρ.ext lRhl_D.N [.int .i64 i, .int .i64 (sumHeld l ((parcZ l).take i))]).sym = sy := hsy
  have hlen := parcZ_le l
  have hsl : shortB l = true := len_short hmax
  have g3 : ¬ (i : Int) < 0 := by omega
  have hF : FactsIn (ρ.ext lRhl_D.N [.int .i64 i, .int .i64 (sumHeld l ((parcZ l).take i))]) lRhl0_F := by
    simp only [lRhl0_F, FactsIn, X.bool, X.den, denL, dX, denSub, denIte, asB, dY, v1, v100, v101, vs, sym5, sym6, sym20, sym42, sym58, sym59, sym60, sym70, sym71, sym72, g3, hsl, decide_true, decide_false, and_true, and_self]
  suffices both : AsksL (ρ.ext lRhl_D.N [.int .i64 i, .int .i64 (sumHeld l ((parcZ l).take i))]) (lRhl0_t.asks lRhl0_F) ∧ WaysOk lRhl_D ρ (lRhl_Inv l) (lRhl_mu l) 0 [.int .i64 i, .int .i64 (sumHeld l ((parcZ l).take i))] lRhl0_l from step_of_ways (lRhl0_w _) hF both.1.ok both.2
  generalize hz : parcZ l = z at *
  cases hp : z[i]? with
  | none =>
    have hge := List.getElem?_eq_none_iff.1 hp
    have hge' : ¬ (i : Int) < z.length := by omega
    have hl : z.take i = z := List.take_of_length_le hge
    refine ⟨?_, ?_⟩
    · simp only [lRhl0_t, yPJ_13, yPJ_12, yPJ_11, yPJ_10, yPJ_9, yPJ_8, yPJ_7, yPJ_6, yPJ_5, yPJ_4, yPJ_3, yPJ_2, yPJ_1, yPJ_0, lRhl0_F, AsksL, GTree.asks, FTree.asks, FactsIn, List.append_nil, List.nil_append, List.cons_append, Option.some.injEq, exists_eq', implies_true, and_self, X.bool, X.den, denL, dX, denSub, denIte, asB, dY, v1, v100, v101, vs, sym5, sym6, sym20, sym42, sym58, sym59, sym60, sym70, sym71, sym72, zs_cell, zs_len, zs_lsub, zs_snoc, zs_snoc0, zs_cat, intRows, hz, Int.toNat_natCast, hp, hge']
      try simp
    · simp only [lRhl0_l, yPJ_13, yPJ_12, yPJ_11, yPJ_10, yPJ_9, yPJ_8, yPJ_7, yPJ_6, yPJ_5, yPJ_4, yPJ_3, yPJ_2, yPJ_1, yPJ_0, EndsOk, WaysOk, forall_cons, forall_nil, TgtOk, gpair, FactsIn, hold_cons, hold_nil, Option.some.injEq, dZ, X.bool, X.den, denL, dX, denSub, denIte, asB, dY, beq_iff_eq, beq_eq_false_iff_ne, ne_eq, v1, v100, v101, vs, h1, hsy, sym5, sym6, sym20, sym42, sym58, sym59, sym60, sym70, sym71, sym72, zs_cell, zs_len, zs_lsub, zs_snoc, zs_snoc0, zs_cat, intRows, hz, Int.toNat_natCast, hp, hge']
      simp [hl]
  | some p =>
    have hlt : i < z.length := (List.getElem?_eq_some_iff.1 hp).1
    have hlt1 : (i : Int) < z.length := by omega
    have hw : IntKind.i64.wrap ((i : Int) + 1) = ((i + 1 : Nat) : Int) := by rw [IntWalk.i64_in _ (by omega)]; rfl
    have hnext : sumHeld l (z.take (i + 1)) = IntKind.i64.wrap (sumHeld l (z.take i) + heldW l p) := by
      rw [List.take_add_one, hp]; exact sumHeld_snoc _ _ _
    have go : ∃ vals', ((ρ.ext lRhl_D.N vals').val 101 = some (.int .i64 (IntKind.i64.wrap (sumHeld l (z.take i) + heldW l p))) ∧ (ρ.ext lRhl_D.N vals').val 100 = some (.int .i64 ((i + 1 : Nat) : Int))) ∧ lRhl_Inv l 0 vals' ∧ lRhl_mu l 0 vals' < lRhl_mu l 0 [.int .i64 i, .int .i64 (sumHeld l (z.take i))] := by
      refine ⟨[.int .i64 ((i + 1 : Nat) : Int), .int .i64 (sumHeld l (z.take (i + 1)))], ⟨?_, ?_⟩, ⟨rfl, i + 1, by rw [hz]; omega, by rw [hz]⟩, ?_⟩
      · rw [ext_high _ _ _ _ (by rw [hN]; omega), hnext]; rfl
      · rw [ext_high _ _ _ _ (by rw [hN]; omega)]; rfl
      · simp [lRhl_mu, vI, hz]; omega
    refine ⟨?_, ?_⟩
    · simp only [lRhl0_t, yPJ_13, yPJ_12, yPJ_11, yPJ_10, yPJ_9, yPJ_8, yPJ_7, yPJ_6, yPJ_5, yPJ_4, yPJ_3, yPJ_2, yPJ_1, yPJ_0, lRhl0_F, AsksL, GTree.asks, FTree.asks, FactsIn, List.append_nil, List.nil_append, List.cons_append, Option.some.injEq, exists_eq', implies_true, and_self, X.bool, X.den, denL, dX, denSub, denIte, asB, dY, v1, v100, v101, vs, sym5, sym6, sym20, sym42, sym58, sym59, sym60, sym70, sym71, sym72, zs_cell, zs_len, zs_lsub, zs_snoc, zs_snoc0, zs_cat, intRows, hz, Int.toNat_natCast, hp, Option.bind_some]
      try simp [hsl]
    · simp only [lRhl0_l, yPJ_13, yPJ_12, yPJ_11, yPJ_10, yPJ_9, yPJ_8, yPJ_7, yPJ_6, yPJ_5, yPJ_4, yPJ_3, yPJ_2, yPJ_1, yPJ_0, EndsOk, WaysOk, forall_cons, forall_nil, TgtOk, gpair, FactsIn, hold_cons, hold_nil, Option.some.injEq, dZ, X.bool, X.den, denL, dX, denSub, denIte, asB, dY, beq_iff_eq, beq_eq_false_iff_ne, ne_eq, v1, v100, v101, vs, h1, hsy, sym5, sym6, sym20, sym42, sym58, sym59, sym60, sym70, sym71, sym72, zs_cell, zs_len, zs_lsub, zs_snoc, zs_snoc0, zs_cat, intRows, hz, Int.toNat_natCast, hp, Option.bind_some, hlt1, hw]
      clear v1 v100 v101 vs h1 hsy hp hF hnext
      (repeat' apply And.intro) <;> intros <;> first
        | trivial
        | (exfalso; omega)
        | (exact go)
        | contradiction
theorem lRhl_H {r : Rho} {l : List Ptg} (h1 : r.val 1 = some (ptgsR l)) (hmax : (l.length : Int) ≤ 1010) (hsy : r.sym = sy) (F : List (X × Bool)) :
    LoopsOk (E0.with F r) (oneH 10 (hooks [(7, lRhl_D.hook (E0.with F r).facts rhl_vs)])) := by
  refine loops_all (n := 1) (fun f fn h => h) (by kernel_rfl) fun i hi => ?_
  obtain rfl : i = 0 := by omega
  rw [hooks_hit (show keyOf (loopAt (E0.with F r).P 10 0) = 7 by kernel_rfl)]
  refine hook_ok (E₀ := E0) (run := lRhl_run) (ρ := r) (Inv := lRhl_Inv l) (μ := lRhl_mu l) E0_ok lRhl_ok (fun F r' h => ?_) (fun _ => ⟨lRhl_step h1 hsy hmax, [.int .i64 0, .int .i64 0], ?_, rfl, 0, Nat.zero_le _, rfl⟩)
  · exact bodyRun_ok E0_ok (LHS_ok F (h.trans hsy)) fun _ _ => noLoop_ok
  · simp only [rhl_vs, X.bool, X.den, denL, dX, denSub, denIte, asB, dY]
noncomputable def rHeldG_con : Con := { f := 10, args := [ptgsArg 0 0], N := 1, M := 1, pre := [(.app 20 [.var 1], true)], out := .tuple [.sint .i64 (.app 70 [.var 1]), .sint .i64 (.app 6 [.var 1])], news := [] }
noncomputable def rHeldG_call : Env → CallL := fun E => acallAll E (evH E (LHG E) ((fun E => oneH 10 (hooks [(7, lRhl_D.hook E.facts rhl_vs)])) E) 5)
noncomputable def rHeldG_t : GTree := (.fork yPJ_0 (.fork (.op2 .eq (.op1 .len (.var 1)) (.num 0)) (.leaf [[]]) (.leaf [[]])) (.leaf [[]]))
noncomputable def rHeldG_l : List (List (X × Bool) × Option Pairs) := [([(.op2 .eq (.op1 .len (.var 1)) (.num 0), true), (yPJ_0, true), (yPJ_4, true)], some [(.app 70 [.var 1], .num 0), (.app 6 [.var 1], .num 0)]),
  ([(.op2 .eq (.op1 .len (.var 1)) (.num 0), false), (yPJ_0, true), (yPJ_4, true)], some [(.app 70 [.var 1], .app 71 [.var 1, .app 59 [.var 1]]), (.app 6 [.var 1], .num 0)]),
  ([(yPJ_0, false), (yPJ_4, true)], some [(.app 70 [.var 1], .num 0), (.app 6 [.var 1], .app 6 [.var 1])])]
theorem rHeldG_w (r : Rho) : rHeldG_con.fn.ways rHeldG_call E0 r rHeldG_con.pre rHeldG_t = some rHeldG_l := by kernel_rfl
theorem rHeldG_cok : rHeldG_con.Ok Tryz.prog sy := by
  intro r σ w us hsy hρ hpre hrel hins
  obtain ⟨u0, us, rfl, g0, hi⟩ := ins_cons hins
  obtain ⟨l, h1⟩ := ptgs_at hrel (i := 0) rfl
  rw [hρ] at h1
  have h1 : r.val 1 = some (ptgsR l) := h1
  have hmax : (l.length : Int) ≤ 1010 := by
    have := hpre.1
    simp only [X.bool, X.den, denL, dX, denSub, denIte, asB, dY, h1, hsy, sym20, Option.some.injEq, Value.bool.injEq] at this
    exact short_len this
  refine con_of (E := E0) E0_ok E0_glob (sy := sy) (fun F => LHG_ok F hsy) (fun F => lRhl_H h1 hmax hsy F) (rHeldG_w r) hρ hpre hrel hins ?_ ?_
  · simp only [rHeldG_con, rHeldG_t, yPJ_13, yPJ_12, yPJ_11, yPJ_10, yPJ_9, yPJ_8, yPJ_7, yPJ_6, yPJ_5, yPJ_4, yPJ_3, yPJ_2, yPJ_1, yPJ_0, AsksL, GTree.asks, FTree.asks, FactsIn, List.append_nil, List.nil_append, List.cons_append, Option.some.injEq, exists_eq', implies_true, and_self, X.bool, X.den, denL, dX, denSub, denIte, asB, dY, h1, hsy, sym5, sym6, sym20, sym42, sym58, sym59, sym60, sym70, sym71, sym72, zs_cell, zs_len, zs_lsub, zs_snoc, zs_snoc0, zs_cat, intRows]
    try simp
  · simp only [rHeldG_l, yPJ_13, yPJ_12, yPJ_11, yPJ_10, yPJ_9, yPJ_8, yPJ_7, yPJ_6, yPJ_5, yPJ_4, yPJ_3, yPJ_2, yPJ_1, yPJ_0, EndsOk, WaysOk, forall_cons, forall_nil, TgtOk, gpair, FactsIn, hold_cons, hold_nil, Option.some.injEq, dZ, X.bool, X.den, denL, dX, denSub, denIte, asB, dY, beq_iff_eq, beq_eq_false_iff_ne, ne_eq, h1, hsy, sym5, sym6, sym20, sym42, sym58, sym59, sym60, sym70, sym71, sym72, zs_cell, zs_len, zs_lsub, zs_snoc, zs_snoc0, zs_cat, intRows, heldA]
    clear hρ hrel hi hins
    (repeat' apply And.intro) <;> intros <;> first
      | trivial
      | (simp [*]; done)
      | (have hl : l = [] := List.eq_nil_of_length_eq_zero (by omega)
         subst hl
         exact ⟨rfl, rfl⟩)
      | (have hl : l = [] := List.eq_nil_of_length_eq_zero (by omega)
         subst hl
         rfl)
      | (simp_all; done)
      | (exfalso; simp_all; omega)
noncomputable def lRup_D : LoopD := { N := 100, M := 111, size := sizeOfF 15, reads := [(0, .rows 8 ptgSch (.var 0) (.var 1) false 36)], pats := [{ slots := [(0, .slx 0 8 (.var 0) (.num 0) (.op1 .len (.var 1)) (.var 2)), (1, .sint .i64 (.var 3)), (5, .nilslice), (6, .sint .i64 (.var 100))], heap := [] }, { slots := [(0, .slx 0 8 (.var 0) (.num 0) (.op1 .len (.var 1)) (.var 2)), (1, .sint .i64 (.var 3)), (5, .slo 110 8 (.op1 .len (.var 101))), (6, .sint .i64 (.var 100))], heap := [(110, .rows 8 ptgSch (.num 0) (.var 101) true 36)] }], exits := [(.exit 0, { slots := [(5, .nilslice)], heap := [], guard := .op2 .eq (.op1 .len (.app 58 [.var 1, .var 3])) (.num 0) }), (.exit 0, { slots := [(5, .slo 110 8 (.op1 .len (.app 58 [.var 1, .var 3])))], heap := [(110, .rows 8 ptgSch (.num 0) (.app 58 [.var 1, .var 3]) true 36)], guard := .op1 .not (.op2 .eq (.op1 .len (.app 58 [.var 1, .var 3])) (.num 0)) })], own := [], pre := [(.app 20 [.var 1], true), (.op2 .eq (.app 6 [.var 1]) (.num 0), true)] }
noncomputable def lRup_run : Env → AF → ASt → Option (List Out) := bodyRun LQS 4 (fun _ => noLoop) (loopAt Tryz.prog 15 0)
def lRup0_F : List (X × Bool) := [(.op2 .lt (.var 100) (.num 0), false), (.op2 .eq (.app 6 [.var 1]) (.num 0), true), (.app 20 [.var 1], true)]
def lRup1_F : List (X × Bool) := [(.op2 .lt (.var 100) (.num 0), false), (.op2 .eq (.app 6 [.var 1]) (.num 0), true), (.app 20 [.var 1], true)]
noncomputable def lRup0_t : FTree := (.fork yPJ_1 (.fork yPJ_8 (.leaf [.again 0 []]) (.leaf [.again 1 [(110, 112)]])) (.leaf [.leave 0 []]))
noncomputable def lRup0_l : List (List (X × Bool) × Option (List (Tgt × Pairs))) := [([(yPJ_8, true), (yPJ_1, true), (yPJ_5, false), (yPJ_0, true), (yPJ_4, true)], some [(.again 0 [], [(.var 100, yPJ_6)])]),
  ([(yPJ_8, false), (yPJ_1, true), (yPJ_5, false), (yPJ_0, true), (yPJ_4, true)], some [(.again 1 [(110, 112)], [(yPJ_12, .num 1), (.var 100, yPJ_6), (.var 101, yPJ_3)])]),
  ([(yPJ_1, false), (yPJ_5, false), (yPJ_0, true), (yPJ_4, true)], some [(.leave 0 [], [(.op2 .eq (.op1 .len yPJ_10) (.num 0), .boo true)])])]
theorem lRup0_w (r : Rho) : lRup_D.ways lRup_run E0 r 0 lRup0_F lRup0_t = some lRup0_l := by kernel_rfl
noncomputable def lRup1_t : FTree := (.fork yPJ_1 (.fork yPJ_8 (.leaf [.again 1 [(110, 110)]]) (.fork yPJ_7 .bad (.leaf [.again 1 [(110, 112)]]))) (.leaf [.leave 1 [(110, 110)]]))
noncomputable def lRup1_l : List (List (X × Bool) × Option (List (Tgt × Pairs))) := [([(yPJ_8, true), (yPJ_1, true), (yPJ_5, false), (yPJ_0, true), (yPJ_4, true)], some [(.again 1 [(110, 110)], [(yPJ_12, yPJ_12), (.var 100, yPJ_6), (.var 101, .var 101)])]),
  ([(yPJ_7, true), (yPJ_8, false), (yPJ_1, true), (yPJ_5, false), (yPJ_0, true), (yPJ_4, true)], none),
  ([(yPJ_7, false), (yPJ_8, false), (yPJ_1, true), (yPJ_5, false), (yPJ_0, true), (yPJ_4, true)], some [(.again 1 [(110, 112)], [(yPJ_12, .op2 .add yPJ_12 (.num 1)), (.var 100, yPJ_6), (.var 101, yPJ_2)])]),
  ([(yPJ_1, false), (yPJ_5, false), (yPJ_0, true), (yPJ_4, true)], some [(.leave 1 [(110, 110)], [(.op1 .len yPJ_10, yPJ_12), (yPJ_10, .var 101), (.op1 .not (.op2 .eq (.op1 .len yPJ_10) (.num 0)), .boo true)])])]
theorem lRup1_w (r : Rho) : lRup_D.ways lRup_run E0 r 1 lRup1_F lRup1_t = some lRup1_l := by kernel_rfl
theorem lRup_ok : lRup_D.ok = true := by kernel_rfl
def lRup_Inv (l : List Ptg) (h : Int) (j : Nat) (vals : List Value) : Prop :=
  ∃ i : Nat, i ≤ l.length ∧ ((j = 0 ∧ vals = [.int .i64 (i : Int)] ∧ hourP (l.take i) h = []) ∨ (j = 1 ∧ vals = [.int .i64 (i : Int), ptgsR (hourP (l.take i) h)] ∧ hourP (l.take i) h ≠ []))
def lRup_mu (l : List Ptg) (_ : Nat) (vals : List Value) : Nat := l.length - (vI (vals.getD 0 default)).toNat
set_option maxHeartbeats 1000000 in
theorem lRup_step0 {ρ : Rho} {l : List Ptg} {h : Int} {k3 : IntKind} (h1 : ρ.val 1 = some (ptgsR l)) (h3 : ρ.val 3 = some (.int k3 h)) (hsy : ρ.sym = sy) (hmax : (l.length : Int) ≤ 1010) (hck : (checkP l).2 = 0) {i : Nat} (hi : i ≤ l.length) (hn : hourP (l.take i) h = []) :
    StepOk lRup_D lRup_run E0 ρ (lRup_Inv l h) (lRup_mu l) 0 [.int .i64 (i : Int)] := by
  have hN : lRup_D.N = 100 := rfl
  have v1 : (ρ.ext lRup_D.N [.int .i64 (i : Int)]).val 1 = some (ptgsR l) := by rw [ext_low _ _ _ _ (by rw [hN]; omega)]; exact h1
  have v3 : (ρ.ext lRup_D.N [.int .i64 (i : Int)]).val 3 = some (.int k3 h) := by rw [ext_low _ _ _ _ (by rw [hN]; omega)]; exact h3
  have v100 : (ρ.ext lRup_D.N [.int .i64 (i : Int)]).val 100 = some (.int .i64 (i : Int)) := by rw [ext_high _ _ _ _ (by rw [hN]; omega)]; rfl
  have vs : (ρ.ext lRup_D.N [.int .i64 (i : Int)]).sym = sy := hsy
  have hsl : shortB l = true := len_short hmax
  have g3 : ¬ (i : Int) < 0 := by omega
  have hF : FactsIn (ρ.ext lRup_D.N [.int .i64 (i : Int)]) lRup0_F := by
    simp only [lRup0_F, FactsIn, X.bool, X.den, denL, dX, denSub, denIte, asB, dY, v1, v3, v100, vs, sym5, sym6, sym20, sym42, sym58, sym59, sym60, sym70, sym71, sym72, g3, hsl, hck, decide_true, decide_false, and_true, and_self, beq_self_eq_true]
  suffices both : AsksL (ρ.ext lRup_D.N [.int .i64 (i : Int)]) (lRup0_t.asks lRup0_F) ∧ WaysOk lRup_D ρ (lRup_Inv l h) (lRup_mu l) 0 [.int .i64 (i : Int)] lRup0_l from step_of_ways (lRup0_w _) hF both.1.ok both.2
  have hlen : (hourP (l.take i) h).length ≤ (l.take i).length := List.length_filter_le _ _
  have hti : (l.take i).length = i := by simp; omega
  cases hp : l[i]? with
  | none =>
    have hge := List.getElem?_eq_none_iff.1 hp
    have hge' : ¬ (i : Int) < l.length := by omega
    have hl : l.take i = l := List.take_of_length_le hge
    refine ⟨?_, ?_⟩
    · simp only [lRup0_t, yPJ_13, yPJ_12, yPJ_11, yPJ_10, yPJ_9, yPJ_8, yPJ_7, yPJ_6, yPJ_5, yPJ_4, yPJ_3, yPJ_2, yPJ_1, yPJ_0, lRup0_F, AsksL, GTree.asks, FTree.asks, FactsIn, List.append_nil, List.nil_append, List.cons_append, Option.some.injEq, exists_eq', implies_true, and_self, X.bool, X.den, denL, dX, denSub, denIte, asB, dY, ptgs_snoc, ptgs_snoc0, snoc_nil, v1, v3, v100, vs, sym5, sym6, sym20, sym42, sym58, sym59, sym60, sym70, sym71, sym72, Int.toNat_natCast, hp, hge']
      try simp
    · simp only [lRup0_l, yPJ_13, yPJ_12, yPJ_11, yPJ_10, yPJ_9, yPJ_8, yPJ_7, yPJ_6, yPJ_5, yPJ_4, yPJ_3, yPJ_2, yPJ_1, yPJ_0, EndsOk, WaysOk, forall_cons, forall_nil, TgtOk, gpair, FactsIn, hold_cons, hold_nil, Option.some.injEq, dZ, X.bool, X.den, denL, dX, denSub, denIte, asB, dY, ptgs_snoc, ptgs_snoc0, snoc_nil, beq_iff_eq, beq_eq_false_iff_ne, ne_eq, v1, v3, v100, vs, h1, h3, hsy, sym5, sym6, sym20, sym42, sym58, sym59, sym60, sym70, sym71, sym72, Int.toNat_natCast, hp, hge']
      rw [hl] at hn
      simp [hl, hn]
  | some p =>
    have hlt : i < l.length := (List.getElem?_eq_some_iff.1 hp).1
    have hlt1 : (i : Int) < l.length := by omega
    have hw : IntKind.i64.wrap ((i : Int) + 1) = ((i + 1 : Nat) : Int) := by rw [IntWalk.i64_in _ (by omega)]; rfl
    have hnext : hourP (l.take (i + 1)) h = if p.hour ≤ h then hourP (l.take i) h ++ [p] else hourP (l.take i) h := by
      rw [List.take_add_one, hp]; exact hour_snoc2 _ p h
    have goA : ¬ h < p.hour → ∃ vals', ((match (ρ.ext lRup_D.N vals').val 101 with | some v => den1 .len v | none => none) = some (.int .i64 (1 : Int)) ∧ (ρ.ext lRup_D.N vals').val 100 = some (.int .i64 ((i + 1 : Nat) : Int)) ∧ (ρ.ext lRup_D.N vals').val 101 = some (ptgsR [p])) ∧ lRup_Inv l h 1 vals' ∧ lRup_mu l 1 vals' < lRup_mu l 0 [.int .i64 (i : Int)] := by
        intro hc0
        have hc : p.hour ≤ h := by omega
        have e101 : (ρ.ext lRup_D.N [.int .i64 ((i + 1 : Nat) : Int), ptgsR (hourP (l.take (i + 1)) h)]).val 101 = some (ptgsR (hourP (l.take (i + 1)) h)) := by rw [ext_high _ _ _ _ (by rw [hN]; omega)]; rfl
        refine ⟨[.int .i64 ((i + 1 : Nat) : Int), ptgsR (hourP (l.take (i + 1)) h)], ⟨?_, ?_, ?_⟩, ⟨i + 1, by omega, .inr ⟨rfl, rfl, by rw [hnext]; simp [hc, hn]⟩⟩, by simp [lRup_mu, vI]; omega⟩
        · rw [e101, hnext]
          refine (ptgs_len _).trans ?_
          simp [hc, hn]
        · rw [ext_high _ _ _ _ (by rw [hN]; omega)]; rfl
        · rw [e101, hnext]; simp [hc, hn]
    have goK : h < p.hour → ∃ vals', (ρ.ext lRup_D.N vals').val 100 = some (.int .i64 ((i + 1 : Nat) : Int)) ∧ lRup_Inv l h 0 vals' ∧ lRup_mu l 0 vals' < lRup_mu l 0 [.int .i64 (i : Int)] := by
        intro hc0
        have hc : ¬ p.hour ≤ h := by omega
        refine ⟨[.int .i64 ((i + 1 : Nat) : Int)], ?_, ⟨i + 1, by omega, .inl ⟨rfl, rfl, by rw [hnext]; simp [hc, hn]⟩⟩, by simp [lRup_mu, vI]; omega⟩
        rw [ext_high _ _ _ _ (by rw [hN]; omega)]; rfl
    refine ⟨?_, ?_⟩
    · simp only [lRup0_t, yPJ_13, yPJ_12, yPJ_11, yPJ_10, yPJ_9, yPJ_8, yPJ_7, yPJ_6, yPJ_5, yPJ_4, yPJ_3, yPJ_2, yPJ_1, yPJ_0, lRup0_F, AsksL, GTree.asks, FTree.asks, FactsIn, List.append_nil, List.nil_append, List.cons_append, Option.some.injEq, exists_eq', implies_true, and_self, X.bool, X.den, denL, dX, denSub, denIte, asB, dY, ptgs_snoc, ptgs_snoc0, snoc_nil, v1, v3, v100, vs, sym5, sym6, sym20, sym42, sym58, sym59, sym60, sym70, sym71, sym72, Int.toNat_natCast, hp, Option.bind_some, ptg0, ptg1, ptg2, ptg3, ptg4, ptg5, ptg6, ptg7]
      try simp [hck, hsl]
      try omega
    · simp only [lRup0_l, yPJ_13, yPJ_12, yPJ_11, yPJ_10, yPJ_9, yPJ_8, yPJ_7, yPJ_6, yPJ_5, yPJ_4, yPJ_3, yPJ_2, yPJ_1, yPJ_0, EndsOk, WaysOk, forall_cons, forall_nil, TgtOk, gpair, FactsIn, hold_cons, hold_nil, Option.some.injEq, dZ, X.bool, X.den, denL, dX, denSub, denIte, asB, dY, ptgs_snoc, ptgs_snoc0, snoc_nil, beq_iff_eq, beq_eq_false_iff_ne, ne_eq, v1, v3, v100, vs, h1, h3, hsy, sym5, sym6, sym20, sym42, sym58, sym59, sym60, sym70, sym71, sym72, Int.toNat_natCast, hp, Option.bind_some, ptg0, ptg1, ptg2, ptg3, ptg4, ptg5, ptg6, ptg7, hlt1, hw]
      clear v1 v3 v100 vs h1 h3 hsy hp hF hnext
      (repeat' apply And.intro) <;> intros <;> first
        | trivial
        | (exfalso; omega)
        | (exact goA (by assumption))
        | (exact goK (by assumption))
        | contradiction
        | (simp_all; done)
set_option maxHeartbeats 1000000 in
theorem lRup_step1 {ρ : Rho} {l : List Ptg} {h : Int} {k3 : IntKind} (h1 : ρ.val 1 = some (ptgsR l)) (h3 : ρ.val 3 = some (.int k3 h)) (hsy : ρ.sym = sy) (hmax : (l.length : Int) ≤ 1010) (hck : (checkP l).2 = 0) {i : Nat} (hi : i ≤ l.length) (hn : hourP (l.take i) h ≠ []) :
    StepOk lRup_D lRup_run E0 ρ (lRup_Inv l h) (lRup_mu l) 1 [.int .i64 (i : Int), ptgsR (hourP (l.take i) h)] := by
  have hN : lRup_D.N = 100 := rfl
  have v1 : (ρ.ext lRup_D.N [.int .i64 (i : Int), ptgsR (hourP (l.take i) h)]).val 1 = some (ptgsR l) := by rw [ext_low _ _ _ _ (by rw [hN]; omega)]; exact h1
  have v3 : (ρ.ext lRup_D.N [.int .i64 (i : Int), ptgsR (hourP (l.take i) h)]).val 3 = some (.int k3 h) := by rw [ext_low _ _ _ _ (by rw [hN]; omega)]; exact h3
  have v100 : (ρ.ext lRup_D.N [.int .i64 (i : Int), ptgsR (hourP (l.take i) h)]).val 100 = some (.int .i64 (i : Int)) := by rw [ext_high _ _ _ _ (by rw [hN]; omega)]; rfl
  have v101 : (ρ.ext lRup_D.N [.int .i64 (i : Int), ptgsR (hourP (l.take i) h)]).val 101 = some (ptgsR (hourP (l.take i) h)) := by rw [ext_high _ _ _ _ (by rw [hN]; omega)]; rfl
  have vs : (ρ.ext lRup_D.N [.int .i64 (i : Int), ptgsR (hourP (l.take i) h)]).sym = sy := hsy
  have hsl : shortB l = true := len_short hmax
  have g3 : ¬ (i : Int) < 0 := by omega
  have hF : FactsIn (ρ.ext lRup_D.N [.int .i64 (i : Int), ptgsR (hourP (l.take i) h)]) lRup1_F := by
    simp only [lRup1_F, FactsIn, X.bool, X.den, denL, dX, denSub, denIte, asB, dY, v1, v3, v100, v101, vs, sym5, sym6, sym20, sym42, sym58, sym59, sym60, sym70, sym71, sym72, g3, hsl, hck, decide_true, decide_false, and_true, and_self, beq_self_eq_true]
  suffices both : AsksL (ρ.ext lRup_D.N [.int .i64 (i : Int), ptgsR (hourP (l.take i) h)]) (lRup1_t.asks lRup1_F) ∧ WaysOk lRup_D ρ (lRup_Inv l h) (lRup_mu l) 1 [.int .i64 (i : Int), ptgsR (hourP (l.take i) h)] lRup1_l from step_of_ways (lRup1_w _) hF both.1.ok both.2
  have hlen : (hourP (l.take i) h).length ≤ (l.take i).length := List.length_filter_le _ _
  have hti : (l.take i).length = i := by simp; omega
  cases hp : l[i]? with
  | none =>
    have hge := List.getElem?_eq_none_iff.1 hp
    have hge' : ¬ (i : Int) < l.length := by omega
    have hl : l.take i = l := List.take_of_length_le hge
    refine ⟨?_, ?_⟩
    · simp only [lRup1_t, yPJ_13, yPJ_12, yPJ_11, yPJ_10, yPJ_9, yPJ_8, yPJ_7, yPJ_6, yPJ_5, yPJ_4, yPJ_3, yPJ_2, yPJ_1, yPJ_0, lRup1_F, AsksL, GTree.asks, FTree.asks, FactsIn, List.append_nil, List.nil_append, List.cons_append, Option.some.injEq, exists_eq', implies_true, and_self, X.bool, X.den, denL, dX, denSub, denIte, asB, dY, ptgs_snoc, ptgs_snoc0, snoc_nil, v1, v3, v100, v101, vs, sym5, sym6, sym20, sym42, sym58, sym59, sym60, sym70, sym71, sym72, Int.toNat_natCast, hp, hge']
      try simp
    · simp only [lRup1_l, yPJ_13, yPJ_12, yPJ_11, yPJ_10, yPJ_9, yPJ_8, yPJ_7, yPJ_6, yPJ_5, yPJ_4, yPJ_3, yPJ_2, yPJ_1, yPJ_0, EndsOk, WaysOk, forall_cons, forall_nil, TgtOk, gpair, FactsIn, hold_cons, hold_nil, Option.some.injEq, dZ, X.bool, X.den, denL, dX, denSub, denIte, asB, dY, ptgs_snoc, ptgs_snoc0, snoc_nil, beq_iff_eq, beq_eq_false_iff_ne, ne_eq, v1, v3, v100, v101, vs, h1, h3, hsy, sym5, sym6, sym20, sym42, sym58, sym59, sym60, sym70, sym71, sym72, Int.toNat_natCast, hp, hge']
      rw [hl] at hn
      simp [hl, hn]
  | some p =>
    have hlt : i < l.length := (List.getElem?_eq_some_iff.1 hp).1
    have hlt1 : (i : Int) < l.length := by omega
    have hw : IntKind.i64.wrap ((i : Int) + 1) = ((i + 1 : Nat) : Int) := by rw [IntWalk.i64_in _ (by omega)]; rfl
    have hnext : hourP (l.take (i + 1)) h = if p.hour ≤ h then hourP (l.take i) h ++ [p] else hourP (l.take i) h := by
      rw [List.take_add_one, hp]; exact hour_snoc2 _ p h
    have goA : ¬ h < p.hour → ∃ vals', ((match (ρ.ext lRup_D.N vals').val 101 with | some v => den1 .len v | none => none) = some (.int .i64 (((hourP (l.take i) h).length + 1) : Int)) ∧ (ρ.ext lRup_D.N vals').val 100 = some (.int .i64 ((i + 1 : Nat) : Int)) ∧ (ρ.ext lRup_D.N vals').val 101 = some (ptgsR (hourP (l.take i) h ++ [p]))) ∧ lRup_Inv l h 1 vals' ∧ lRup_mu l 1 vals' < lRup_mu l 1 [.int .i64 (i : Int), ptgsR (hourP (l.take i) h)] := by
        intro hc0
        have hc : p.hour ≤ h := by omega
        have e101 : (ρ.ext lRup_D.N [.int .i64 ((i + 1 : Nat) : Int), ptgsR (hourP (l.take (i + 1)) h)]).val 101 = some (ptgsR (hourP (l.take (i + 1)) h)) := by rw [ext_high _ _ _ _ (by rw [hN]; omega)]; rfl
        refine ⟨[.int .i64 ((i + 1 : Nat) : Int), ptgsR (hourP (l.take (i + 1)) h)], ⟨?_, ?_, ?_⟩, ⟨i + 1, by omega, .inr ⟨rfl, rfl, by rw [hnext]; simp [hc, hn]⟩⟩, by simp [lRup_mu, vI]; omega⟩
        · rw [e101, hnext]
          refine (ptgs_len _).trans ?_
          simp [hc, hn]
        · rw [ext_high _ _ _ _ (by rw [hN]; omega)]; rfl
        · rw [e101, hnext]; simp [hc, hn]
    have goK : h < p.hour → ∃ vals', ((match (ρ.ext lRup_D.N vals').val 101 with | some v => den1 .len v | none => none) = some (.int .i64 ((hourP (l.take i) h).length : Int)) ∧ (ρ.ext lRup_D.N vals').val 100 = some (.int .i64 ((i + 1 : Nat) : Int)) ∧ (ρ.ext lRup_D.N vals').val 101 = some (ptgsR (hourP (l.take i) h))) ∧ lRup_Inv l h 1 vals' ∧ lRup_mu l 1 vals' < lRup_mu l 1 [.int .i64 (i : Int), ptgsR (hourP (l.take i) h)] := by
        intro hc0
        have hc : ¬ p.hour ≤ h := by omega
        have e101 : (ρ.ext lRup_D.N [.int .i64 ((i + 1 : Nat) : Int), ptgsR (hourP (l.take (i + 1)) h)]).val 101 = some (ptgsR (hourP (l.take (i + 1)) h)) := by rw [ext_high _ _ _ _ (by rw [hN]; omega)]; rfl
        refine ⟨[.int .i64 ((i + 1 : Nat) : Int), ptgsR (hourP (l.take (i + 1)) h)], ⟨?_, ?_, ?_⟩, ⟨i + 1, by omega, .inr ⟨rfl, rfl, by rw [hnext]; simp [hc, hn]⟩⟩, by simp [lRup_mu, vI]; omega⟩
        · rw [e101, hnext]
          refine (ptgs_len _).trans ?_
          simp [hc, hn]
        · rw [ext_high _ _ _ _ (by rw [hN]; omega)]; rfl
        · rw [e101, hnext]; simp [hc, hn]
    refine ⟨?_, ?_⟩
    · simp only [lRup1_t, yPJ_13, yPJ_12, yPJ_11, yPJ_10, yPJ_9, yPJ_8, yPJ_7, yPJ_6, yPJ_5, yPJ_4, yPJ_3, yPJ_2, yPJ_1, yPJ_0, lRup1_F, AsksL, GTree.asks, FTree.asks, FactsIn, List.append_nil, List.nil_append, List.cons_append, Option.some.injEq, exists_eq', implies_true, and_self, X.bool, X.den, denL, dX, denSub, denIte, asB, dY, ptgs_snoc, ptgs_snoc0, snoc_nil, v1, v3, v100, v101, vs, sym5, sym6, sym20, sym42, sym58, sym59, sym60, sym70, sym71, sym72, Int.toNat_natCast, hp, Option.bind_some, ptg0, ptg1, ptg2, ptg3, ptg4, ptg5, ptg6, ptg7]
      try simp [hck, hsl]
      try omega
    · simp only [lRup1_l, yPJ_13, yPJ_12, yPJ_11, yPJ_10, yPJ_9, yPJ_8, yPJ_7, yPJ_6, yPJ_5, yPJ_4, yPJ_3, yPJ_2, yPJ_1, yPJ_0, EndsOk, WaysOk, forall_cons, forall_nil, TgtOk, gpair, FactsIn, hold_cons, hold_nil, Option.some.injEq, dZ, X.bool, X.den, denL, dX, denSub, denIte, asB, dY, ptgs_snoc, ptgs_snoc0, snoc_nil, beq_iff_eq, beq_eq_false_iff_ne, ne_eq, v1, v3, v100, v101, vs, h1, h3, hsy, sym5, sym6, sym20, sym42, sym58, sym59, sym60, sym70, sym71, sym72, Int.toNat_natCast, hp, Option.bind_some, ptg0, ptg1, ptg2, ptg3, ptg4, ptg5, ptg6, ptg7, hlt1, hw]
      clear v1 v3 v100 v101 vs h1 h3 hsy hp hF hnext
      (repeat' apply And.intro) <;> intros <;> first
        | trivial
        | (exfalso; omega)
        | (exact goA (by assumption))
        | (exact goK (by assumption))
        | contradiction
        | (simp_all; done)
theorem lRup_step {ρ : Rho} {l : List Ptg} {h : Int} {k3 : IntKind} (h1 : ρ.val 1 = some (ptgsR l)) (h3 : ρ.val 3 = some (.int k3 h)) (hsy : ρ.sym = sy) (hmax : (l.length : Int) ≤ 1010) (hck : (checkP l).2 = 0) (j : Nat) (vals : List Value) (hI : lRup_Inv l h j vals) :
    StepOk lRup_D lRup_run E0 ρ (lRup_Inv l h) (lRup_mu l) j vals := by
  obtain ⟨i, hi, ⟨rfl, rfl, hn⟩ | ⟨rfl, rfl, hn⟩⟩ := hI
  · exact lRup_step0 h1 h3 hsy hmax hck hi hn
  · exact lRup_step1 h1 h3 hsy hmax hck hi hn
theorem lRup_H {r : Rho} {l : List Ptg} {h : Int} {k3 : IntKind} (h1 : r.val 1 = some (ptgsR l)) (h3 : r.val 3 = some (.int k3 h)) (hmax : (l.length : Int) ≤ 1010) (hsy : r.sym = sy) (F : List (X × Bool)) :
    LoopsOk (E0.with F r) (oneH 15 (hooks [(3, lRup_D.hook (E0.with F r).facts flt_vs)])) := by
  refine loops_all (n := 1) (fun f fn h => h) (by kernel_rfl) fun i hi => ?_
  obtain rfl : i = 0 := by omega
  rw [hooks_hit (show keyOf (loopAt (E0.with F r).P 15 0) = 3 by kernel_rfl)]
  refine hook_ok (E₀ := E0) (run := lRup_run) (ρ := r) (Inv := lRup_Inv l h) (μ := lRup_mu l) E0_ok lRup_ok (fun F r' h => ?_) (fun hq => ⟨lRup_step h1 h3 hsy hmax ?_, [.int .i64 0], ?_, 0, Nat.zero_le _, .inl ⟨rfl, rfl, rfl⟩⟩)
  · exact bodyRun_ok E0_ok (LQS_ok F (h.trans hsy)) fun _ _ => noLoop_ok
  · have := hq.2.1
    simpa only [X.bool, X.den, denL, dX, denSub, denIte, asB, dY, h1, hsy, sym6, Option.some.injEq, Value.bool.injEq, decide_eq_true_eq, beq_iff_eq] using this
  · simp only [flt_vs, X.bool, X.den, denL, dX, denSub, denIte, asB, dY]
noncomputable def rUpN_con : Con := { f := 15, args := [ptgsArg 0 0, .one (.int .i64 3)], N := 1, M := 1, pre := [(.app 20 [.var 1], true), (.op2 .eq (.app 6 [.var 1]) (.num 0), true), (.op2 .eq (.op1 .len (.app 58 [.var 1, .var 3])) (.num 0), true)], out := .nilslice, news := [] }
noncomputable def rUpN_call : Env → CallL := fun E => acallAll E (evH E (LQS E) ((fun E => oneH 15 (hooks [(3, lRup_D.hook E.facts flt_vs)])) E) 5)
noncomputable def rUpN_t : GTree := (.leaf [[]])
noncomputable def rUpN_l : List (List (X × Bool) × Option Pairs) := [([(yPJ_4, true), (yPJ_0, true), (.op2 .eq (.op1 .len yPJ_10) (.num 0), true)], some [])]
theorem rUpN_w (r : Rho) : rUpN_con.fn.ways rUpN_call E0 r rUpN_con.pre rUpN_t = some rUpN_l := by kernel_rfl
theorem rUpN_cok : rUpN_con.Ok Tryz.prog sy := by
  intro r σ w us hsy hρ hpre hrel hins
  obtain ⟨u0, us, rfl, g0, hi⟩ := ins_cons hins
  obtain ⟨u1, us, rfl, g1, hi⟩ := ins_cons hi
  obtain ⟨h, k3, rfl, h3⟩ := one_int g1
  obtain ⟨l, h1⟩ := ptgs_at hrel (i := 0) rfl
  rw [hρ] at h1 h3
  have h1 : r.val 1 = some (ptgsR l) := h1
  have hmax : (l.length : Int) ≤ 1010 := by
    have := hpre.1
    simp only [X.bool, X.den, denL, dX, denSub, denIte, asB, dY, h1, hsy, sym20, Option.some.injEq, Value.bool.injEq] at this
    exact short_len this
  refine con_of (E := E0) E0_ok E0_glob (sy := sy) (fun F => LQS_ok F hsy) (fun F => lRup_H h1 h3 hmax hsy F) (rUpN_w r) hρ hpre hrel hins ?_ ?_
  · simp only [rUpN_con, rUpN_t, yPJ_13, yPJ_12, yPJ_11, yPJ_10, yPJ_9, yPJ_8, yPJ_7, yPJ_6, yPJ_5, yPJ_4, yPJ_3, yPJ_2, yPJ_1, yPJ_0, AsksL, GTree.asks, FTree.asks, FactsIn, List.append_nil, List.nil_append, List.cons_append, Option.some.injEq, exists_eq', implies_true, and_self, X.bool, X.den, denL, dX, denSub, denIte, asB, dY, ptgs_snoc, ptgs_snoc0, snoc_nil, h1, h3, hsy, sym5, sym6, sym20, sym42, sym58, sym59, sym60, sym70, sym71, sym72]
    try simp
  · simp only [rUpN_l, yPJ_13, yPJ_12, yPJ_11, yPJ_10, yPJ_9, yPJ_8, yPJ_7, yPJ_6, yPJ_5, yPJ_4, yPJ_3, yPJ_2, yPJ_1, yPJ_0, EndsOk, WaysOk, forall_cons, forall_nil, TgtOk, gpair, FactsIn, hold_cons, hold_nil, Option.some.injEq, dZ, X.bool, X.den, denL, dX, denSub, denIte, asB, dY, ptgs_snoc, ptgs_snoc0, snoc_nil, h1, h3, hsy, sym5, sym6, sym20, sym42, sym58, sym59, sym60, sym70, sym71, sym72]
    try simp
noncomputable def rUpY_con : Con := { f := 15, args := [ptgsArg 0 0, .one (.int .i64 3)], N := 1, M := 2, pre := [(.app 20 [.var 1], true), (.op2 .eq (.app 6 [.var 1]) (.num 0), true), (.op2 .eq (.op1 .len (.app 58 [.var 1, .var 3])) (.num 0), false)], out := .slo 1 8 (.op1 .len (.app 58 [.var 1, .var 3])), news := [(1, .rows 8 ptgSch (.num 0) (.app 58 [.var 1, .var 3]) true 36)] }
noncomputable def rUpY_call : Env → CallL := fun E => acallAll E (evH E (LQS E) ((fun E => oneH 15 (hooks [(3, lRup_D.hook E.facts flt_vs)])) E) 5)
noncomputable def rUpY_t : GTree := (.leaf [[(1, 110)]])
noncomputable def rUpY_l : List (List (X × Bool) × Option Pairs) := [([(yPJ_4, true), (yPJ_0, true), (.op2 .eq (.op1 .len yPJ_10) (.num 0), false)], some [(.op1 .len yPJ_10, .op1 .len yPJ_10), (yPJ_10, yPJ_10)])]
theorem rUpY_w (r : Rho) : rUpY_con.fn.ways rUpY_call E0 r rUpY_con.pre rUpY_t = some rUpY_l := by kernel_rfl
theorem rUpY_cok : rUpY_con.Ok Tryz.prog sy := by
  intro r σ w us hsy hρ hpre hrel hins
  obtain ⟨u0, us, rfl, g0, hi⟩ := ins_cons hins
  obtain ⟨u1, us, rfl, g1, hi⟩ := ins_cons hi
  obtain ⟨h, k3, rfl, h3⟩ := one_int g1
  obtain ⟨l, h1⟩ := ptgs_at hrel (i := 0) rfl
  rw [hρ] at h1 h3
  have h1 : r.val 1 = some (ptgsR l) := h1
  have hmax : (l.length : Int) ≤ 1010 := by
    have := hpre.1
    simp only [X.bool, X.den, denL, dX, denSub, denIte, asB, dY, h1, hsy, sym20, Option.some.injEq, Value.bool.injEq] at this
    exact short_len this
  refine con_of (E := E0) E0_ok E0_glob (sy := sy) (fun F => LQS_ok F hsy) (fun F => lRup_H h1 h3 hmax hsy F) (rUpY_w r) hρ hpre hrel hins ?_ ?_
  · simp only [rUpY_con, rUpY_t, yPJ_13, yPJ_12, yPJ_11, yPJ_10, yPJ_9, yPJ_8, yPJ_7, yPJ_6, yPJ_5, yPJ_4, yPJ_3, yPJ_2, yPJ_1, yPJ_0, AsksL, GTree.asks, FTree.asks, FactsIn, List.append_nil, List.nil_append, List.cons_append, Option.some.injEq, exists_eq', implies_true, and_self, X.bool, X.den, denL, dX, denSub, denIte, asB, dY, ptgs_snoc, ptgs_snoc0, snoc_nil, h1, h3, hsy, sym5, sym6, sym20, sym42, sym58, sym59, sym60, sym70, sym71, sym72]
    try simp
  · simp only [rUpY_l, yPJ_13, yPJ_12, yPJ_11, yPJ_10, yPJ_9, yPJ_8, yPJ_7, yPJ_6, yPJ_5, yPJ_4, yPJ_3, yPJ_2, yPJ_1, yPJ_0, EndsOk, WaysOk, forall_cons, forall_nil, TgtOk, gpair, FactsIn, hold_cons, hold_nil, Option.some.injEq, dZ, X.bool, X.den, denL, dX, denSub, denIte, asB, dY, ptgs_snoc, ptgs_snoc0, snoc_nil, h1, h3, hsy, sym5, sym6, sym20, sym42, sym58, sym59, sym60, sym70, sym71, sym72]
    try simp
noncomputable def rUpE_con : Con := { f := 15, args := [ptgsArg 0 0, .one (.int .i64 3)], N := 1, M := 1, pre := [(.app 20 [.var 1], true), (.op2 .eq (.app 6 [.var 1]) (.num 0), false)], out := .nilslice, news := [] }
noncomputable def rUpE_call : Env → CallL := fun E => acallAll E (evH E (LQS E) ((fun _ => noLoops) E) 5)
noncomputable def rUpE_t : GTree := (.fork yPJ_13 (.leaf [[]]) (.leaf [[]]))
noncomputable def rUpE_l : List (List (X × Bool) × Option Pairs) := [([(yPJ_13, true), (yPJ_4, true), (yPJ_0, false)], some []),
  ([(yPJ_13, false), (yPJ_4, true), (yPJ_0, false)], some [])]
theorem rUpE_w (r : Rho) : rUpE_con.fn.ways rUpE_call E0 r rUpE_con.pre rUpE_t = some rUpE_l := by kernel_rfl
theorem rUpE_cok : rUpE_con.Ok Tryz.prog sy := by
  intro r σ w us hsy hρ hpre hrel hins
  obtain ⟨u0, us, rfl, g0, hi⟩ := ins_cons hins
  obtain ⟨u1, us, rfl, g1, hi⟩ := ins_cons hi
  obtain ⟨h, k3, rfl, h3⟩ := one_int g1
  obtain ⟨l, h1⟩ := ptgs_at hrel (i := 0) rfl
  rw [hρ] at h1 h3
  have h1 : r.val 1 = some (ptgsR l) := h1
  have hmax : (l.length : Int) ≤ 1010 := by
    have := hpre.1
    simp only [X.bool, X.den, denL, dX, denSub, denIte, asB, dY, h1, hsy, sym20, Option.some.injEq, Value.bool.injEq] at this
    exact short_len this
  refine con_of (E := E0) E0_ok E0_glob (sy := sy) (fun F => LQS_ok F hsy) (fun F => noH_ok) (rUpE_w r) hρ hpre hrel hins ?_ ?_
  · simp only [rUpE_con, rUpE_t, yPJ_13, yPJ_12, yPJ_11, yPJ_10, yPJ_9, yPJ_8, yPJ_7, yPJ_6, yPJ_5, yPJ_4, yPJ_3, yPJ_2, yPJ_1, yPJ_0, AsksL, GTree.asks, FTree.asks, FactsIn, List.append_nil, List.nil_append, List.cons_append, Option.some.injEq, exists_eq', implies_true, and_self, X.bool, X.den, denL, dX, denSub, denIte, asB, dY, ptgs_snoc, ptgs_snoc0, snoc_nil, h1, h3, hsy, sym5, sym6, sym20, sym42, sym58, sym59, sym60, sym70, sym71, sym72]
    try simp
  · simp only [rUpE_l, yPJ_13, yPJ_12, yPJ_11, yPJ_10, yPJ_9, yPJ_8, yPJ_7, yPJ_6, yPJ_5, yPJ_4, yPJ_3, yPJ_2, yPJ_1, yPJ_0, EndsOk, WaysOk, forall_cons, forall_nil, TgtOk, gpair, FactsIn, hold_cons, hold_nil, Option.some.injEq, dZ, X.bool, X.den, denL, dX, denSub, denIte, asB, dY, ptgs_snoc, ptgs_snoc0, snoc_nil, h1, h3, hsy, sym5, sym6, sym20, sym42, sym58, sym59, sym60, sym70, sym71, sym72]
    try simp
noncomputable def lRof_D : LoopD := { N := 100, M := 111, size := sizeOfF 17, reads := [(0, .rows 8 ptgSch (.var 0) (.var 1) false 36)], pats := [{ slots := [(0, .slx 0 8 (.var 0) (.num 0) (.op1 .len (.var 1)) (.var 2)), (1, .sint .i64 (.var 3)), (5, .nilslice), (6, .sint .i64 (.var 100))], heap := [] }, { slots := [(0, .slx 0 8 (.var 0) (.num 0) (.op1 .len (.var 1)) (.var 2)), (1, .sint .i64 (.var 3)), (5, .slo 110 8 (.op1 .len (.var 101))), (6, .sint .i64 (.var 100))], heap := [(110, .rows 8 ptgSch (.num 0) (.var 101) true 36)] }], exits := [(.exit 0, { slots := [(5, .nilslice)], heap := [], guard := .op2 .eq (.op1 .len (.app 60 [.var 1, .var 3])) (.num 0) }), (.exit 0, { slots := [(5, .slo 110 8 (.op1 .len (.app 60 [.var 1, .var 3])))], heap := [(110, .rows 8 ptgSch (.num 0) (.app 60 [.var 1, .var 3]) true 36)], guard := .op1 .not (.op2 .eq (.op1 .len (.app 60 [.var 1, .var 3])) (.num 0)) })], own := [], pre := [(.app 20 [.var 1], true), (.op2 .eq (.app 6 [.var 1]) (.num 0), true)] }
noncomputable def lRof_run : Env → AF → ASt → Option (List Out) := bodyRun LQS 4 (fun _ => noLoop) (loopAt Tryz.prog 17 0)
def lRof0_F : List (X × Bool) := [(.op2 .lt (.var 100) (.num 0), false), (.op2 .eq (.app 6 [.var 1]) (.num 0), true), (.app 20 [.var 1], true)]
def lRof1_F : List (X × Bool) := [(.op2 .lt (.var 100) (.num 0), false), (.op2 .eq (.app 6 [.var 1]) (.num 0), true), (.app 20 [.var 1], true)]
noncomputable def lRof0_t : FTree := (.fork yPJ_1 (.fork yPJ_9 (.leaf [.again 1 [(110, 112)]]) (.leaf [.again 0 []])) (.leaf [.leave 0 []]))
noncomputable def lRof0_l : List (List (X × Bool) × Option (List (Tgt × Pairs))) := [([(yPJ_9, true), (yPJ_1, true), (yPJ_5, false), (yPJ_0, true), (yPJ_4, true)], some [(.again 1 [(110, 112)], [(yPJ_12, .num 1), (.var 100, yPJ_6), (.var 101, yPJ_3)])]),
  ([(yPJ_9, false), (yPJ_1, true), (yPJ_5, false), (yPJ_0, true), (yPJ_4, true)], some [(.again 0 [], [(.var 100, yPJ_6)])]),
  ([(yPJ_1, false), (yPJ_5, false), (yPJ_0, true), (yPJ_4, true)], some [(.leave 0 [], [(.op2 .eq (.op1 .len yPJ_11) (.num 0), .boo true)])])]
theorem lRof0_w (r : Rho) : lRof_D.ways lRof_run E0 r 0 lRof0_F lRof0_t = some lRof0_l := by kernel_rfl
noncomputable def lRof1_t : FTree := (.fork yPJ_1 (.fork yPJ_9 (.fork yPJ_7 .bad (.leaf [.again 1 [(110, 112)]])) (.leaf [.again 1 [(110, 110)]])) (.leaf [.leave 1 [(110, 110)]]))
noncomputable def lRof1_l : List (List (X × Bool) × Option (List (Tgt × Pairs))) := [([(yPJ_7, true), (yPJ_9, true), (yPJ_1, true), (yPJ_5, false), (yPJ_0, true), (yPJ_4, true)], none),
  ([(yPJ_7, false), (yPJ_9, true), (yPJ_1, true), (yPJ_5, false), (yPJ_0, true), (yPJ_4, true)], some [(.again 1 [(110, 112)], [(yPJ_12, .op2 .add yPJ_12 (.num 1)), (.var 100, yPJ_6), (.var 101, yPJ_2)])]),
  ([(yPJ_9, false), (yPJ_1, true), (yPJ_5, false), (yPJ_0, true), (yPJ_4, true)], some [(.again 1 [(110, 110)], [(yPJ_12, yPJ_12), (.var 100, yPJ_6), (.var 101, .var 101)])]),
  ([(yPJ_1, false), (yPJ_5, false), (yPJ_0, true), (yPJ_4, true)], some [(.leave 1 [(110, 110)], [(.op1 .len yPJ_11, yPJ_12), (yPJ_11, .var 101), (.op1 .not (.op2 .eq (.op1 .len yPJ_11) (.num 0)), .boo true)])])]
theorem lRof1_w (r : Rho) : lRof_D.ways lRof_run E0 r 1 lRof1_F lRof1_t = some lRof1_l := by kernel_rfl
theorem lRof_ok : lRof_D.ok = true := by kernel_rfl
def lRof_Inv (l : List Ptg) (h : Int) (j : Nat) (vals : List Value) : Prop :=
  ∃ i : Nat, i ≤ l.length ∧ ((j = 0 ∧ vals = [.int .i64 (i : Int)] ∧ ofP (l.take i) h = []) ∨ (j = 1 ∧ vals = [.int .i64 (i : Int), ptgsR (ofP (l.take i) h)] ∧ ofP (l.take i) h ≠ []))
def lRof_mu (l : List Ptg) (_ : Nat) (vals : List Value) : Nat := l.length - (vI (vals.getD 0 default)).toNat
set_option maxHeartbeats 1000000 in
theorem lRof_step0 {ρ : Rho} {l : List Ptg} {h : Int} {k3 : IntKind} (h1 : ρ.val 1 = some (ptgsR l)) (h3 : ρ.val 3 = some (.int k3 h)) (hsy : ρ.sym = sy) (hmax : (l.length : Int) ≤ 1010) (hck : (checkP l).2 = 0) {i : Nat} (hi : i ≤ l.length) (hn : ofP (l.take i) h = []) :
    StepOk lRof_D lRof_run E0 ρ (lRof_Inv l h) (lRof_mu l) 0 [.int .i64 (i : Int)] := by
  have hN : lRof_D.N = 100 := rfl
  have v1 : (ρ.ext lRof_D.N [.int .i64 (i : Int)]).val 1 = some (ptgsR l) := by rw [ext_low _ _ _ _ (by rw [hN]; omega)]; exact h1
  have v3 : (ρ.ext lRof_D.N [.int .i64 (i : Int)]).val 3 = some (.int k3 h) := by rw [ext_low _ _ _ _ (by rw [hN]; omega)]; exact h3
  have v100 : (ρ.ext lRof_D.N [.int .i64 (i : Int)]).val 100 = some (.int .i64 (i : Int)) := by rw [ext_high _ _ _ _ (by rw [hN]; omega)]; rfl
  have vs : (ρ.ext lRof_D.N [.int .i64 (i : Int)]).sym = sy := hsy
  have hsl : shortB l = true := len_short hmax
  have g3 : ¬ (i : Int) < 0 := by omega
  have hF : FactsIn (ρ.ext lRof_D.N [.int .i64 (i : Int)]) lRof0_F := by
    simp only [lRof0_F, FactsIn, X.bool, X.den, denL, dX, denSub, denIte, asB, dY, v1, v3, v100, vs, sym5, sym6, sym20, sym42, sym58, sym59, sym60, sym70, sym71, sym72, g3, hsl, hck, decide_true, decide_false, and_true, and_self, beq_self_eq_true]
  suffices both : AsksL (ρ.ext lRof_D.N [.int .i64 (i : Int)]) (lRof0_t.asks lRof0_F) ∧ WaysOk lRof_D ρ (lRof_Inv l h) (lRof_mu l) 0 [.int .i64 (i : Int)] lRof0_l from step_of_ways (lRof0_w _) hF both.1.ok both.2
  have hlen : (ofP (l.take i) h).length ≤ (l.take i).length := List.length_filter_le _ _
  have hti : (l.take i).length = i := by simp; omega
  cases hp : l[i]? with
  | none =>
    have hge := List.getElem?_eq_none_iff.1 hp
    have hge' : ¬ (i : Int) < l.length := by omega
    have hl : l.take i = l := List.take_of_length_le hge
    refine ⟨?_, ?_⟩
    · simp only [lRof0_t, yPJ_13, yPJ_12, yPJ_11, yPJ_10, yPJ_9, yPJ_8, yPJ_7, yPJ_6, yPJ_5, yPJ_4, yPJ_3, yPJ_2, yPJ_1, yPJ_0, lRof0_F, AsksL, GTree.asks, FTree.asks, FactsIn, List.append_nil, List.nil_append, List.cons_append, Option.some.injEq, exists_eq', implies_true, and_self, X.bool, X.den, denL, dX, denSub, denIte, asB, dY, ptgs_snoc, ptgs_snoc0, snoc_nil, v1, v3, v100, vs, sym5, sym6, sym20, sym42, sym58, sym59, sym60, sym70, sym71, sym72, Int.toNat_natCast, hp, hge']
      try simp
    · simp only [lRof0_l, yPJ_13, yPJ_12, yPJ_11, yPJ_10, yPJ_9, yPJ_8, yPJ_7, yPJ_6, yPJ_5, yPJ_4, yPJ_3, yPJ_2, yPJ_1, yPJ_0, EndsOk, WaysOk, forall_cons, forall_nil, TgtOk, gpair, FactsIn, hold_cons, hold_nil, Option.some.injEq, dZ, X.bool, X.den, denL, dX, denSub, denIte, asB, dY, ptgs_snoc, ptgs_snoc0, snoc_nil, beq_iff_eq, beq_eq_false_iff_ne, ne_eq, v1, v3, v100, vs, h1, h3, hsy, sym5, sym6, sym20, sym42, sym58, sym59, sym60, sym70, sym71, sym72, Int.toNat_natCast, hp, hge']
      rw [hl] at hn
      simp [hl, hn]
  | some p =>
    have hlt : i < l.length := (List.getElem?_eq_some_iff.1 hp).1
    have hlt1 : (i : Int) < l.length := by omega
    have hw : IntKind.i64.wrap ((i : Int) + 1) = ((i + 1 : Nat) : Int) := by rw [IntWalk.i64_in _ (by omega)]; rfl
    have hnext : ofP (l.take (i + 1)) h = if p.parcel = h then ofP (l.take i) h ++ [p] else ofP (l.take i) h := by
      rw [List.take_add_one, hp]; exact of_snoc2 _ p h
    have goA : p.parcel = h → ∃ vals', ((match (ρ.ext lRof_D.N vals').val 101 with | some v => den1 .len v | none => none) = some (.int .i64 (1 : Int)) ∧ (ρ.ext lRof_D.N vals').val 100 = some (.int .i64 ((i + 1 : Nat) : Int)) ∧ (ρ.ext lRof_D.N vals').val 101 = some (ptgsR [p])) ∧ lRof_Inv l h 1 vals' ∧ lRof_mu l 1 vals' < lRof_mu l 0 [.int .i64 (i : Int)] := by
        intro hc0
        have hc : p.parcel = h := hc0
        have e101 : (ρ.ext lRof_D.N [.int .i64 ((i + 1 : Nat) : Int), ptgsR (ofP (l.take (i + 1)) h)]).val 101 = some (ptgsR (ofP (l.take (i + 1)) h)) := by rw [ext_high _ _ _ _ (by rw [hN]; omega)]; rfl
        refine ⟨[.int .i64 ((i + 1 : Nat) : Int), ptgsR (ofP (l.take (i + 1)) h)], ⟨?_, ?_, ?_⟩, ⟨i + 1, by omega, .inr ⟨rfl, rfl, by rw [hnext]; simp [hc, hn]⟩⟩, by simp [lRof_mu, vI]; omega⟩
        · rw [e101, hnext]
          refine (ptgs_len _).trans ?_
          simp [hc, hn]
        · rw [ext_high _ _ _ _ (by rw [hN]; omega)]; rfl
        · rw [e101, hnext]; simp [hc, hn]
    have goK : ¬ p.parcel = h → ∃ vals', (ρ.ext lRof_D.N vals').val 100 = some (.int .i64 ((i + 1 : Nat) : Int)) ∧ lRof_Inv l h 0 vals' ∧ lRof_mu l 0 vals' < lRof_mu l 0 [.int .i64 (i : Int)] := by
        intro hc0
        have hc : ¬ p.parcel = h := hc0
        refine ⟨[.int .i64 ((i + 1 : Nat) : Int)], ?_, ⟨i + 1, by omega, .inl ⟨rfl, rfl, by rw [hnext]; simp [hc, hn]⟩⟩, by simp [lRof_mu, vI]; omega⟩
        rw [ext_high _ _ _ _ (by rw [hN]; omega)]; rfl
    refine ⟨?_, ?_⟩
    · simp only [lRof0_t, yPJ_13, yPJ_12, yPJ_11, yPJ_10, yPJ_9, yPJ_8, yPJ_7, yPJ_6, yPJ_5, yPJ_4, yPJ_3, yPJ_2, yPJ_1, yPJ_0, lRof0_F, AsksL, GTree.asks, FTree.asks, FactsIn, List.append_nil, List.nil_append, List.cons_append, Option.some.injEq, exists_eq', implies_true, and_self, X.bool, X.den, denL, dX, denSub, denIte, asB, dY, ptgs_snoc, ptgs_snoc0, snoc_nil, v1, v3, v100, vs, sym5, sym6, sym20, sym42, sym58, sym59, sym60, sym70, sym71, sym72, Int.toNat_natCast, hp, Option.bind_some, ptg0, ptg1, ptg2, ptg3, ptg4, ptg5, ptg6, ptg7]
      try simp [hck, hsl]
      try omega
    · simp only [lRof0_l, yPJ_13, yPJ_12, yPJ_11, yPJ_10, yPJ_9, yPJ_8, yPJ_7, yPJ_6, yPJ_5, yPJ_4, yPJ_3, yPJ_2, yPJ_1, yPJ_0, EndsOk, WaysOk, forall_cons, forall_nil, TgtOk, gpair, FactsIn, hold_cons, hold_nil, Option.some.injEq, dZ, X.bool, X.den, denL, dX, denSub, denIte, asB, dY, ptgs_snoc, ptgs_snoc0, snoc_nil, beq_iff_eq, beq_eq_false_iff_ne, ne_eq, v1, v3, v100, vs, h1, h3, hsy, sym5, sym6, sym20, sym42, sym58, sym59, sym60, sym70, sym71, sym72, Int.toNat_natCast, hp, Option.bind_some, ptg0, ptg1, ptg2, ptg3, ptg4, ptg5, ptg6, ptg7, hlt1, hw]
      clear v1 v3 v100 vs h1 h3 hsy hp hF hnext
      (repeat' apply And.intro) <;> intros <;> first
        | trivial
        | (exfalso; omega)
        | (exact goA (by assumption))
        | (exact goK (by assumption))
        | contradiction
        | (simp_all; done)
set_option maxHeartbeats 1000000 in
theorem lRof_step1 {ρ : Rho} {l : List Ptg} {h : Int} {k3 : IntKind} (h1 : ρ.val 1 = some (ptgsR l)) (h3 : ρ.val 3 = some (.int k3 h)) (hsy : ρ.sym = sy) (hmax : (l.length : Int) ≤ 1010) (hck : (checkP l).2 = 0) {i : Nat} (hi : i ≤ l.length) (hn : ofP (l.take i) h ≠ []) :
    StepOk lRof_D lRof_run E0 ρ (lRof_Inv l h) (lRof_mu l) 1 [.int .i64 (i : Int), ptgsR (ofP (l.take i) h)] := by
  have hN : lRof_D.N = 100 := rfl
  have v1 : (ρ.ext lRof_D.N [.int .i64 (i : Int), ptgsR (ofP (l.take i) h)]).val 1 = some (ptgsR l) := by rw [ext_low _ _ _ _ (by rw [hN]; omega)]; exact h1
  have v3 : (ρ.ext lRof_D.N [.int .i64 (i : Int), ptgsR (ofP (l.take i) h)]).val 3 = some (.int k3 h) := by rw [ext_low _ _ _ _ (by rw [hN]; omega)]; exact h3
  have v100 : (ρ.ext lRof_D.N [.int .i64 (i : Int), ptgsR (ofP (l.take i) h)]).val 100 = some (.int .i64 (i : Int)) := by rw [ext_high _ _ _ _ (by rw [hN]; omega)]; rfl
  have v101 : (ρ.ext lRof_D.N [.int .i64 (i : Int), ptgsR (ofP (l.take i) h)]).val 101 = some (ptgsR (ofP (l.take i) h)) := by rw [ext_high _ _ _ _ (by rw [hN]; omega)]; rfl
  have vs : (ρ.ext lRof_D.N [.int .i64 (i : Int), ptgsR (ofP (l.take i) h)]).sym = sy := hsy
  have hsl : shortB l = true := len_short hmax
  have g3 : ¬ (i : Int) < 0 := by omega
  have hF : FactsIn (ρ.ext lRof_D.N [.int .i64 (i : Int), ptgsR (ofP (l.take i) h)]) lRof1_F := by
    simp only [lRof1_F, FactsIn, X.bool, X.den, denL, dX, denSub, denIte, asB, dY, v1, v3, v100, v101, vs, sym5, sym6, sym20, sym42, sym58, sym59, sym60, sym70, sym71, sym72, g3, hsl, hck, decide_true, decide_false, and_true, and_self, beq_self_eq_true]
  suffices both : AsksL (ρ.ext lRof_D.N [.int .i64 (i : Int), ptgsR (ofP (l.take i) h)]) (lRof1_t.asks lRof1_F) ∧ WaysOk lRof_D ρ (lRof_Inv l h) (lRof_mu l) 1 [.int .i64 (i : Int), ptgsR (ofP (l.take i) h)] lRof1_l from step_of_ways (lRof1_w _) hF both.1.ok both.2
  have hlen : (ofP (l.take i) h).length ≤ (l.take i).length := List.length_filter_le _ _
  have hti : (l.take i).length = i := by simp; omega
  cases hp : l[i]? with
  | none =>
    have hge := List.getElem?_eq_none_iff.1 hp
    have hge' : ¬ (i : Int) < l.length := by omega
    have hl : l.take i = l := List.take_of_length_le hge
    refine ⟨?_, ?_⟩
    · simp only [lRof1_t, yPJ_13, yPJ_12, yPJ_11, yPJ_10, yPJ_9, yPJ_8, yPJ_7, yPJ_6, yPJ_5, yPJ_4, yPJ_3, yPJ_2, yPJ_1, yPJ_0, lRof1_F, AsksL, GTree.asks, FTree.asks, FactsIn, List.append_nil, List.nil_append, List.cons_append, Option.some.injEq, exists_eq', implies_true, and_self, X.bool, X.den, denL, dX, denSub, denIte, asB, dY, ptgs_snoc, ptgs_snoc0, snoc_nil, v1, v3, v100, v101, vs, sym5, sym6, sym20, sym42, sym58, sym59, sym60, sym70, sym71, sym72, Int.toNat_natCast, hp, hge']
      try simp
    · simp only [lRof1_l, yPJ_13, yPJ_12, yPJ_11, yPJ_10, yPJ_9, yPJ_8, yPJ_7, yPJ_6, yPJ_5, yPJ_4, yPJ_3, yPJ_2, yPJ_1, yPJ_0, EndsOk, WaysOk, forall_cons, forall_nil, TgtOk, gpair, FactsIn, hold_cons, hold_nil, Option.some.injEq, dZ, X.bool, X.den, denL, dX, denSub, denIte, asB, dY, ptgs_snoc, ptgs_snoc0, snoc_nil, beq_iff_eq, beq_eq_false_iff_ne, ne_eq, v1, v3, v100, v101, vs, h1, h3, hsy, sym5, sym6, sym20, sym42, sym58, sym59, sym60, sym70, sym71, sym72, Int.toNat_natCast, hp, hge']
      rw [hl] at hn
      simp [hl, hn]
  | some p =>
    have hlt : i < l.length := (List.getElem?_eq_some_iff.1 hp).1
    have hlt1 : (i : Int) < l.length := by omega
    have hw : IntKind.i64.wrap ((i : Int) + 1) = ((i + 1 : Nat) : Int) := by rw [IntWalk.i64_in _ (by omega)]; rfl
    have hnext : ofP (l.take (i + 1)) h = if p.parcel = h then ofP (l.take i) h ++ [p] else ofP (l.take i) h := by
      rw [List.take_add_one, hp]; exact of_snoc2 _ p h
    have goA : p.parcel = h → ∃ vals', ((match (ρ.ext lRof_D.N vals').val 101 with | some v => den1 .len v | none => none) = some (.int .i64 (((ofP (l.take i) h).length + 1) : Int)) ∧ (ρ.ext lRof_D.N vals').val 100 = some (.int .i64 ((i + 1 : Nat) : Int)) ∧ (ρ.ext lRof_D.N vals').val 101 = some (ptgsR (ofP (l.take i) h ++ [p]))) ∧ lRof_Inv l h 1 vals' ∧ lRof_mu l 1 vals' < lRof_mu l 1 [.int .i64 (i : Int), ptgsR (ofP (l.take i) h)] := by
        intro hc0
        have hc : p.parcel = h := hc0
        have e101 : (ρ.ext lRof_D.N [.int .i64 ((i + 1 : Nat) : Int), ptgsR (ofP (l.take (i + 1)) h)]).val 101 = some (ptgsR (ofP (l.take (i + 1)) h)) := by rw [ext_high _ _ _ _ (by rw [hN]; omega)]; rfl
        refine ⟨[.int .i64 ((i + 1 : Nat) : Int), ptgsR (ofP (l.take (i + 1)) h)], ⟨?_, ?_, ?_⟩, ⟨i + 1, by omega, .inr ⟨rfl, rfl, by rw [hnext]; simp [hc, hn]⟩⟩, by simp [lRof_mu, vI]; omega⟩
        · rw [e101, hnext]
          refine (ptgs_len _).trans ?_
          simp [hc, hn]
        · rw [ext_high _ _ _ _ (by rw [hN]; omega)]; rfl
        · rw [e101, hnext]; simp [hc, hn]
    have goK : ¬ p.parcel = h → ∃ vals', ((match (ρ.ext lRof_D.N vals').val 101 with | some v => den1 .len v | none => none) = some (.int .i64 ((ofP (l.take i) h).length : Int)) ∧ (ρ.ext lRof_D.N vals').val 100 = some (.int .i64 ((i + 1 : Nat) : Int)) ∧ (ρ.ext lRof_D.N vals').val 101 = some (ptgsR (ofP (l.take i) h))) ∧ lRof_Inv l h 1 vals' ∧ lRof_mu l 1 vals' < lRof_mu l 1 [.int .i64 (i : Int), ptgsR (ofP (l.take i) h)] := by
        intro hc0
        have hc : ¬ p.parcel = h := hc0
        have e101 : (ρ.ext lRof_D.N [.int .i64 ((i + 1 : Nat) : Int), ptgsR (ofP (l.take (i + 1)) h)]).val 101 = some (ptgsR (ofP (l.take (i + 1)) h)) := by rw [ext_high _ _ _ _ (by rw [hN]; omega)]; rfl
        refine ⟨[.int .i64 ((i + 1 : Nat) : Int), ptgsR (ofP (l.take (i + 1)) h)], ⟨?_, ?_, ?_⟩, ⟨i + 1, by omega, .inr ⟨rfl, rfl, by rw [hnext]; simp [hc, hn]⟩⟩, by simp [lRof_mu, vI]; omega⟩
        · rw [e101, hnext]
          refine (ptgs_len _).trans ?_
          simp [hc, hn]
        · rw [ext_high _ _ _ _ (by rw [hN]; omega)]; rfl
        · rw [e101, hnext]; simp [hc, hn]
    refine ⟨?_, ?_⟩
    · simp only [lRof1_t, yPJ_13, yPJ_12, yPJ_11, yPJ_10, yPJ_9, yPJ_8, yPJ_7, yPJ_6, yPJ_5, yPJ_4, yPJ_3, yPJ_2, yPJ_1, yPJ_0, lRof1_F, AsksL, GTree.asks, FTree.asks, FactsIn, List.append_nil, List.nil_append, List.cons_append, Option.some.injEq, exists_eq', implies_true, and_self, X.bool, X.den, denL, dX, denSub, denIte, asB, dY, ptgs_snoc, ptgs_snoc0, snoc_nil, v1, v3, v100, v101, vs, sym5, sym6, sym20, sym42, sym58, sym59, sym60, sym70, sym71, sym72, Int.toNat_natCast, hp, Option.bind_some, ptg0, ptg1, ptg2, ptg3, ptg4, ptg5, ptg6, ptg7]
      try simp [hck, hsl]
      try omega
    · simp only [lRof1_l, yPJ_13, yPJ_12, yPJ_11, yPJ_10, yPJ_9, yPJ_8, yPJ_7, yPJ_6, yPJ_5, yPJ_4, yPJ_3, yPJ_2, yPJ_1, yPJ_0, EndsOk, WaysOk, forall_cons, forall_nil, TgtOk, gpair, FactsIn, hold_cons, hold_nil, Option.some.injEq, dZ, X.bool, X.den, denL, dX, denSub, denIte, asB, dY, ptgs_snoc, ptgs_snoc0, snoc_nil, beq_iff_eq, beq_eq_false_iff_ne, ne_eq, v1, v3, v100, v101, vs, h1, h3, hsy, sym5, sym6, sym20, sym42, sym58, sym59, sym60, sym70, sym71, sym72, Int.toNat_natCast, hp, Option.bind_some, ptg0, ptg1, ptg2, ptg3, ptg4, ptg5, ptg6, ptg7, hlt1, hw]
      clear v1 v3 v100 v101 vs h1 h3 hsy hp hF hnext
      (repeat' apply And.intro) <;> intros <;> first
        | trivial
        | (exfalso; omega)
        | (exact goA (by assumption))
        | (exact goK (by assumption))
        | contradiction
        | (simp_all; done)
theorem lRof_step {ρ : Rho} {l : List Ptg} {h : Int} {k3 : IntKind} (h1 : ρ.val 1 = some (ptgsR l)) (h3 : ρ.val 3 = some (.int k3 h)) (hsy : ρ.sym = sy) (hmax : (l.length : Int) ≤ 1010) (hck : (checkP l).2 = 0) (j : Nat) (vals : List Value) (hI : lRof_Inv l h j vals) :
    StepOk lRof_D lRof_run E0 ρ (lRof_Inv l h) (lRof_mu l) j vals := by
  obtain ⟨i, hi, ⟨rfl, rfl, hn⟩ | ⟨rfl, rfl, hn⟩⟩ := hI
  · exact lRof_step0 h1 h3 hsy hmax hck hi hn
  · exact lRof_step1 h1 h3 hsy hmax hck hi hn
theorem lRof_H {r : Rho} {l : List Ptg} {h : Int} {k3 : IntKind} (h1 : r.val 1 = some (ptgsR l)) (h3 : r.val 3 = some (.int k3 h)) (hmax : (l.length : Int) ≤ 1010) (hsy : r.sym = sy) (F : List (X × Bool)) :
    LoopsOk (E0.with F r) (oneH 17 (hooks [(3, lRof_D.hook (E0.with F r).facts flt_vs)])) := by
  refine loops_all (n := 1) (fun f fn h => h) (by kernel_rfl) fun i hi => ?_
  obtain rfl : i = 0 := by omega
  rw [hooks_hit (show keyOf (loopAt (E0.with F r).P 17 0) = 3 by kernel_rfl)]
  refine hook_ok (E₀ := E0) (run := lRof_run) (ρ := r) (Inv := lRof_Inv l h) (μ := lRof_mu l) E0_ok lRof_ok (fun F r' h => ?_) (fun hq => ⟨lRof_step h1 h3 hsy hmax ?_, [.int .i64 0], ?_, 0, Nat.zero_le _, .inl ⟨rfl, rfl, rfl⟩⟩)
  · exact bodyRun_ok E0_ok (LQS_ok F (h.trans hsy)) fun _ _ => noLoop_ok
  · have := hq.2.1
    simpa only [X.bool, X.den, denL, dX, denSub, denIte, asB, dY, h1, hsy, sym6, Option.some.injEq, Value.bool.injEq, decide_eq_true_eq, beq_iff_eq] using this
  · simp only [flt_vs, X.bool, X.den, denL, dX, denSub, denIte, asB, dY]
noncomputable def rOfN_con : Con := { f := 17, args := [ptgsArg 0 0, .one (.int .i64 3)], N := 1, M := 1, pre := [(.app 20 [.var 1], true), (.op2 .eq (.app 6 [.var 1]) (.num 0), true), (.op2 .eq (.op1 .len (.app 60 [.var 1, .var 3])) (.num 0), true)], out := .nilslice, news := [] }
noncomputable def rOfN_call : Env → CallL := fun E => acallAll E (evH E (LQS E) ((fun E => oneH 17 (hooks [(3, lRof_D.hook E.facts flt_vs)])) E) 5)
noncomputable def rOfN_t : GTree := (.leaf [[]])
noncomputable def rOfN_l : List (List (X × Bool) × Option Pairs) := [([(yPJ_4, true), (yPJ_0, true), (.op2 .eq (.op1 .len yPJ_11) (.num 0), true)], some [])]
theorem rOfN_w (r : Rho) : rOfN_con.fn.ways rOfN_call E0 r rOfN_con.pre rOfN_t = some rOfN_l := by kernel_rfl
theorem rOfN_cok : rOfN_con.Ok Tryz.prog sy := by
  intro r σ w us hsy hρ hpre hrel hins
  obtain ⟨u0, us, rfl, g0, hi⟩ := ins_cons hins
  obtain ⟨u1, us, rfl, g1, hi⟩ := ins_cons hi
  obtain ⟨h, k3, rfl, h3⟩ := one_int g1
  obtain ⟨l, h1⟩ := ptgs_at hrel (i := 0) rfl
  rw [hρ] at h1 h3
  have h1 : r.val 1 = some (ptgsR l) := h1
  have hmax : (l.length : Int) ≤ 1010 := by
    have := hpre.1
    simp only [X.bool, X.den, denL, dX, denSub, denIte, asB, dY, h1, hsy, sym20, Option.some.injEq, Value.bool.injEq] at this
    exact short_len this
  refine con_of (E := E0) E0_ok E0_glob (sy := sy) (fun F => LQS_ok F hsy) (fun F => lRof_H h1 h3 hmax hsy F) (rOfN_w r) hρ hpre hrel hins ?_ ?_
  · simp only [rOfN_con, rOfN_t, yPJ_13, yPJ_12, yPJ_11, yPJ_10, yPJ_9, yPJ_8, yPJ_7, yPJ_6, yPJ_5, yPJ_4, yPJ_3, yPJ_2, yPJ_1, yPJ_0, AsksL, GTree.asks, FTree.asks, FactsIn, List.append_nil, List.nil_append, List.cons_append, Option.some.injEq, exists_eq', implies_true, and_self, X.bool, X.den, denL, dX, denSub, denIte, asB, dY, ptgs_snoc, ptgs_snoc0, snoc_nil, h1, h3, hsy, sym5, sym6, sym20, sym42, sym58, sym59, sym60, sym70, sym71, sym72]
    try simp
  · simp only [rOfN_l, yPJ_13, yPJ_12, yPJ_11, yPJ_10, yPJ_9, yPJ_8, yPJ_7, yPJ_6, yPJ_5, yPJ_4, yPJ_3, yPJ_2, yPJ_1, yPJ_0, EndsOk, WaysOk, forall_cons, forall_nil, TgtOk, gpair, FactsIn, hold_cons, hold_nil, Option.some.injEq, dZ, X.bool, X.den, denL, dX, denSub, denIte, asB, dY, ptgs_snoc, ptgs_snoc0, snoc_nil, h1, h3, hsy, sym5, sym6, sym20, sym42, sym58, sym59, sym60, sym70, sym71, sym72]
    try simp
noncomputable def rOfY_con : Con := { f := 17, args := [ptgsArg 0 0, .one (.int .i64 3)], N := 1, M := 2, pre := [(.app 20 [.var 1], true), (.op2 .eq (.app 6 [.var 1]) (.num 0), true), (.op2 .eq (.op1 .len (.app 60 [.var 1, .var 3])) (.num 0), false)], out := .slo 1 8 (.op1 .len (.app 60 [.var 1, .var 3])), news := [(1, .rows 8 ptgSch (.num 0) (.app 60 [.var 1, .var 3]) true 36)] }
noncomputable def rOfY_call : Env → CallL := fun E => acallAll E (evH E (LQS E) ((fun E => oneH 17 (hooks [(3, lRof_D.hook E.facts flt_vs)])) E) 5)
noncomputable def rOfY_t : GTree := (.leaf [[(1, 110)]])
noncomputable def rOfY_l : List (List (X × Bool) × Option Pairs) := [([(yPJ_4, true), (yPJ_0, true), (.op2 .eq (.op1 .len yPJ_11) (.num 0), false)], some [(.op1 .len yPJ_11, .op1 .len yPJ_11), (yPJ_11, yPJ_11)])]
theorem rOfY_w (r : Rho) : rOfY_con.fn.ways rOfY_call E0 r rOfY_con.pre rOfY_t = some rOfY_l := by kernel_rfl
theorem rOfY_cok : rOfY_con.Ok Tryz.prog sy := by
  intro r σ w us hsy hρ hpre hrel hins
  obtain ⟨u0, us, rfl, g0, hi⟩ := ins_cons hins
  obtain ⟨u1, us, rfl, g1, hi⟩ := ins_cons hi
  obtain ⟨h, k3, rfl, h3⟩ := one_int g1
  obtain ⟨l, h1⟩ := ptgs_at hrel (i := 0) rfl
  rw [hρ] at h1 h3
  have h1 : r.val 1 = some (ptgsR l) := h1
  have hmax : (l.length : Int) ≤ 1010 := by
    have := hpre.1
    simp only [X.bool, X.den, denL, dX, denSub, denIte, asB, dY, h1, hsy, sym20, Option.some.injEq, Value.bool.injEq] at this
    exact short_len this
  refine con_of (E := E0) E0_ok E0_glob (sy := sy) (fun F => LQS_ok F hsy) (fun F => lRof_H h1 h3 hmax hsy F) (rOfY_w r) hρ hpre hrel hins ?_ ?_
  · simp only [rOfY_con, rOfY_t, yPJ_13, yPJ_12, yPJ_11, yPJ_10, yPJ_9, yPJ_8, yPJ_7, yPJ_6, yPJ_5, yPJ_4, yPJ_3, yPJ_2, yPJ_1, yPJ_0, AsksL, GTree.asks, FTree.asks, FactsIn, List.append_nil, List.nil_append, List.cons_append, Option.some.injEq, exists_eq', implies_true, and_self, X.bool, X.den, denL, dX, denSub, denIte, asB, dY, ptgs_snoc, ptgs_snoc0, snoc_nil, h1, h3, hsy, sym5, sym6, sym20, sym42, sym58, sym59, sym60, sym70, sym71, sym72]
    try simp
  · simp only [rOfY_l, yPJ_13, yPJ_12, yPJ_11, yPJ_10, yPJ_9, yPJ_8, yPJ_7, yPJ_6, yPJ_5, yPJ_4, yPJ_3, yPJ_2, yPJ_1, yPJ_0, EndsOk, WaysOk, forall_cons, forall_nil, TgtOk, gpair, FactsIn, hold_cons, hold_nil, Option.some.injEq, dZ, X.bool, X.den, denL, dX, denSub, denIte, asB, dY, ptgs_snoc, ptgs_snoc0, snoc_nil, h1, h3, hsy, sym5, sym6, sym20, sym42, sym58, sym59, sym60, sym70, sym71, sym72]
    try simp
noncomputable def rOfE_con : Con := { f := 17, args := [ptgsArg 0 0, .one (.int .i64 3)], N := 1, M := 1, pre := [(.app 20 [.var 1], true), (.op2 .eq (.app 6 [.var 1]) (.num 0), false)], out := .nilslice, news := [] }
noncomputable def rOfE_call : Env → CallL := fun E => acallAll E (evH E (LQS E) ((fun _ => noLoops) E) 5)
noncomputable def rOfE_t : GTree := (.fork yPJ_13 (.leaf [[]]) (.leaf [[]]))
noncomputable def rOfE_l : List (List (X × Bool) × Option Pairs) := [([(yPJ_13, true), (yPJ_4, true), (yPJ_0, false)], some []),
  ([(yPJ_13, false), (yPJ_4, true), (yPJ_0, false)], some [])]
theorem rOfE_w (r : Rho) : rOfE_con.fn.ways rOfE_call E0 r rOfE_con.pre rOfE_t = some rOfE_l := by kernel_rfl
theorem rOfE_cok : rOfE_con.Ok Tryz.prog sy := by
  intro r σ w us hsy hρ hpre hrel hins
  obtain ⟨u0, us, rfl, g0, hi⟩ := ins_cons hins
  obtain ⟨u1, us, rfl, g1, hi⟩ := ins_cons hi
  obtain ⟨h, k3, rfl, h3⟩ := one_int g1
  obtain ⟨l, h1⟩ := ptgs_at hrel (i := 0) rfl
  rw [hρ] at h1 h3
  have h1 : r.val 1 = some (ptgsR l) := h1
  have hmax : (l.length : Int) ≤ 1010 := by
    have := hpre.1
    simp only [X.bool, X.den, denL, dX, denSub, denIte, asB, dY, h1, hsy, sym20, Option.some.injEq, Value.bool.injEq] at this
    exact short_len this
  refine con_of (E := E0) E0_ok E0_glob (sy := sy) (fun F => LQS_ok F hsy) (fun F => noH_ok) (rOfE_w r) hρ hpre hrel hins ?_ ?_
  · simp only [rOfE_con, rOfE_t, yPJ_13, yPJ_12, yPJ_11, yPJ_10, yPJ_9, yPJ_8, yPJ_7, yPJ_6, yPJ_5, yPJ_4, yPJ_3, yPJ_2, yPJ_1, yPJ_0, AsksL, GTree.asks, FTree.asks, FactsIn, List.append_nil, List.nil_append, List.cons_append, Option.some.injEq, exists_eq', implies_true, and_self, X.bool, X.den, denL, dX, denSub, denIte, asB, dY, ptgs_snoc, ptgs_snoc0, snoc_nil, h1, h3, hsy, sym5, sym6, sym20, sym42, sym58, sym59, sym60, sym70, sym71, sym72]
    try simp
  · simp only [rOfE_l, yPJ_13, yPJ_12, yPJ_11, yPJ_10, yPJ_9, yPJ_8, yPJ_7, yPJ_6, yPJ_5, yPJ_4, yPJ_3, yPJ_2, yPJ_1, yPJ_0, EndsOk, WaysOk, forall_cons, forall_nil, TgtOk, gpair, FactsIn, hold_cons, hold_nil, Option.some.injEq, dZ, X.bool, X.den, denL, dX, denSub, denIte, asB, dY, ptgs_snoc, ptgs_snoc0, snoc_nil, h1, h3, hsy, sym5, sym6, sym20, sym42, sym58, sym59, sym60, sym70, sym71, sym72]
    try simp
end Go.Proofs.YtpdemfamfmeemacGreat.Zs
