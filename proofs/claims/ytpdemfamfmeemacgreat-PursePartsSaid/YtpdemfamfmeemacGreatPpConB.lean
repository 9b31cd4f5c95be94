/-
  Contracts of the reference: what a party has, what was sold, what is held, the last payment.
-/
import Derived.Test.YtpdemfamfmeemacGreatPpConA
import Derived.KernelRfl
set_option linter.unusedSimpArgs false
set_option linter.unusedVariables false
namespace Go.Proofs.YtpdemfamfmeemacGreat.Zs
open Go
theorem hasW_snoc (l : List Ptg) (p : Ptg) (w c : Int) : hasW (l ++ [p]) w c = hasStep w c (hasW l w c) p := by simp [hasW]
theorem soldW_snoc (l : List Ptg) (p : Ptg) (c : Int) : soldW (l ++ [p]) c = soldStep c (soldW l c) p := by simp [soldW]
theorem last_drop {l : List Ptg} {w c : Int} {i : Nat} {p : Ptg} (h : l[i]? = some p) (hn : paidB (l.drop (i + 1)) w c = false) (hp : payB w c p = true) : lastPay l w c = p ∧ paidB l w c = true := by
  obtain ⟨hi, rfl⟩ := List.getElem?_eq_some_iff.1 h
  have e : l = l.take i ++ l[i] :: l.drop (i + 1) := by rw [← List.drop_eq_getElem_cons hi, List.take_append_drop]
  generalize hq : l[i] = q at hp e
  generalize l.take i = a at e
  generalize hb : l.drop (i + 1) = b at hn e
  clear hb hq h hi
  subst e
  constructor
  · unfold lastPay
    rw [List.foldl_append, List.foldl_cons]
    simp only [hp, cond_true]
    generalize q = z
    induction b generalizing z with
    | nil => rfl
    | cons x b ih =>
      simp only [paidB, List.any_cons, Bool.or_eq_false_iff] at hn
      rw [List.foldl_cons]
      simp only [hn.1, cond_false]
      exact ih hn.2 z
  · unfold paidB
    simp [hp]
theorem last_none {l : List Ptg} {w c : Int} (h : paidB l w c = false) : lastPay l w c = zeroP := by
  unfold lastPay
  generalize zeroP = z
  induction l generalizing z with
  | nil => rfl
  | cons x b ih =>
    simp only [paidB, List.any_cons, Bool.or_eq_false_iff] at h
    rw [List.foldl_cons]
    simp only [h.1, cond_false]
    exact ih h.2 z
theorem paid_drop {l : List Ptg} {w c : Int} {i : Nat} {p : Ptg} (h : l[i]? = some p) (hn : paidB (l.drop (i + 1)) w c = false) (hp : payB w c p = false) : paidB (l.drop i) w c = false := by
  obtain ⟨hi, rfl⟩ := List.getElem?_eq_some_iff.1 h
  rw [List.drop_eq_getElem_cons hi]
  unfold paidB at *
  rw [List.any_cons, hp, Bool.false_or]
  exact hn
theorem zeroP_row : zeroP.row = [.int .i64 0, .int .i64 0, .int .u8 0, .int .i64 0, .int .i64 0, .int .i64 0, .int .i64 0, .int .i64 0] := rfl
def sum_vs : List X := [.num 0, .num 0]
noncomputable def lHas_D : LoopD := { N := 100, M := 102, size := sizeOfF 28, reads := [(0, .rows 8 ptgSch (.var 0) (.var 1) false 36)], pats := [{ slots := [(0, .slx 0 8 (.var 0) (.num 0) (.op1 .len (.var 1)) (.var 2)), (1, .sint .i64 (.var 3)), (2, .sint .i64 (.var 4)), (7, .sint .i64 (.var 101)), (8, .sint .i64 (.var 100))], heap := [] }], exits := [(.exit 0, { slots := [(7, .sint .i64 (.app 40 [.var 1, .var 3, .var 4]))], heap := [] })], own := [], pre := [(.app 20 [.var 1], true)] }
noncomputable def lHas_run : Env → AF → ASt → Option (List Out) := bodyRun noL 6 (fun _ => noLoop) (loopAt Tryz.prog 28 0)
def lHas0_F : List (X × Bool) := [(.op2 .lt (.var 100) (.num 0), false)]
def yPB_0 : X := .op2 .lt (.var 100) (.op1 .len (.var 1))
def yPB_1 : X := .cell 2 (.var 1) (.var 100)
def yPB_2 : X := .op2 .lt (.var 100) (.num 0)
def yPB_3 : X := .op2 .eq (.cell 3 (.var 1) (.var 100)) (.var 3)
def yPB_4 : X := .op1 (.wrap .i64) (.op2 .add (.var 100) (.num 1))
def yPB_5 : X := .op2 .eq (.cell 4 (.var 1) (.var 100)) (.var 4)
def yPB_6 : X := .app 44 [(.var 1), (.var 3), (.var 4)]
def yPB_7 : X := .op2 .eq yPB_1 (.num 2)
def yPB_8 : X := .app 43 [(.var 1), (.var 3), (.var 4), (.num 0)]
def yPB_9 : X := .app 43 [(.var 1), (.var 3), (.var 4), (.num 1)]
def yPB_10 : X := .op1 (.wrap .i64) (.op2 .add (.var 101) (.cell 5 (.var 1) (.var 100)))
def yPB_11 : X := .app 43 [(.var 1), (.var 3), (.var 4), (.num 2)]
def yPB_12 : X := .app 43 [(.var 1), (.var 3), (.var 4), (.num 3)]
def yPB_13 : X := .app 43 [(.var 1), (.var 3), (.var 4), (.num 4)]
def yPB_14 : X := .app 43 [(.var 1), (.var 3), (.var 4), (.num 5)]
def yPB_15 : X := .app 43 [(.var 1), (.var 3), (.var 4), (.num 6)]
def yPB_16 : X := .app 43 [(.var 1), (.var 3), (.var 4), (.num 7)]
noncomputable def lHas0_t : FTree := (.fork yPB_0 (.fork yPB_3 (.fork yPB_5 (.fork yPB_7 (.fork (.op2 .eq yPB_1 (.num 3)) (.leaf [.again 0 []]) (.leaf [.again 0 []])) (.fork (.op2 .eq yPB_1 (.num 3)) (.leaf [.again 0 []]) (.leaf [.again 0 []]))) (.leaf [.again 0 []])) (.leaf [.again 0 []])) (.leaf [.leave 0 []]))
noncomputable def lHas0_l : List (List (X × Bool) × Option (List (Tgt × Pairs))) := [([(.op2 .eq yPB_1 (.num 3), true), (yPB_7, true), (yPB_5, true), (yPB_3, true), (yPB_0, true), (yPB_2, false)], some [(.again 0 [], [(.var 101, .op1 (.wrap .i64) (.op2 .sub yPB_10 (.cell 5 (.var 1) (.var 100)))), (.var 100, yPB_4)])]),
  ([(.op2 .eq yPB_1 (.num 3), false), (yPB_7, true), (yPB_5, true), (yPB_3, true), (yPB_0, true), (yPB_2, false)], some [(.again 0 [], [(.var 101, yPB_10), (.var 100, yPB_4)])]),
  ([(.op2 .eq yPB_1 (.num 3), true), (yPB_7, false), (yPB_5, true), (yPB_3, true), (yPB_0, true), (yPB_2, false)], some [(.again 0 [], [(.var 101, .op1 (.wrap .i64) (.op2 .sub (.var 101) (.cell 5 (.var 1) (.var 100)))), (.var 100, yPB_4)])]),
  ([(.op2 .eq yPB_1 (.num 3), false), (yPB_7, false), (yPB_5, true), (yPB_3, true), (yPB_0, true), (yPB_2, false)], some [(.again 0 [], [(.var 101, .var 101), (.var 100, yPB_4)])]),
  ([(yPB_5, false), (yPB_3, true), (yPB_0, true), (yPB_2, false)], some [(.again 0 [], [(.var 101, .var 101), (.var 100, yPB_4)])]),
  ([(yPB_3, false), (yPB_0, true), (yPB_2, false)], some [(.again 0 [], [(.var 101, .var 101), (.var 100, yPB_4)])]),
  ([(yPB_0, false), (yPB_2, false)], some [(.leave 0 [], [(.app 40 [.var 1, .var 3, .var 4], .var 101)])])]
theorem lHas0_w (r : Rho) : lHas_D.ways lHas_run E0 r 0 lHas0_F lHas0_t = some lHas0_l := by kernel_rfl
theorem lHas_ok : lHas_D.ok = true := by kernel_rfl
def lHas_Inv (l : List Ptg) (w : Int) (c : Int) (j : Nat) (vals : List Value) : Prop :=
  j = 0 ∧ ∃ i : Nat, i ≤ l.length ∧ vals = [.int .i64 i, .int .i64 (hasW (l.take i) w c)]
def lHas_mu (l : List Ptg) (_ : Nat) (vals : List Value) : Nat := l.length - (vI (vals.getD 0 default)).toNat
theorem lHas_step {ρ : Rho} {l : List Ptg} {w c : Int} {k3 k4 : IntKind} (h1 : ρ.val 1 = some (ptgsR l)) (h3 : ρ.val 3 = some (.int k3 w)) (h4 : ρ.val 4 = some (.int k4 c)) (hsy : ρ.sym = sy) (hmax : (l.length : Int) ≤ 1010) (j : Nat) (vals : List Value) (hI : lHas_Inv l w c j vals) :
    StepOk lHas_D lHas_run E0 ρ (lHas_Inv l w c) (lHas_mu l) j vals := by
  obtain ⟨rfl, i, hi, rfl⟩ := hI
  have hN : lHas_D.N = 100 := rfl
  have v1 : (ρ.ext lHas_D.N [.int .i64 i, .int .i64 (hasW (l.take i) w c)]).val 1 = some (ptgsR l) := by rw [ext_low _ _ _ _ (by rw [hN]; omega)]; exact h1
  have v3 : (ρ.ext lHas_D.N [.int .i64 i, .int .i64 (hasW (l.take i) w c)]).val 3 = some (.int k3 w) := by rw [ext_low _ _ _ _ (by rw [hN]; omega)]; exact h3
  have v4 : (ρ.ext lHas_D.N [.int .i64 i, .int .i64 (hasW (l.take i) w c)]).val 4 = some (.int k4 c) := by rw [ext_low _ _ _ _ (by rw [hN]; omega)]; exact h4
  have v100 : (ρ.ext lHas_D.N [.int .i64 i, .int .i64 (hasW (l.take i) w c)]).val 100 = some (.int .i64 i) := by rw [ext_high _ _ _ _ (by rw [hN]; omega)]; rfl
  have v101 : (ρ.ext lHas_D.N [.int .i64 i, .int .i64 (hasW (l.take i) w c)]).val 101 = some (.int .i64 (hasW (l.take i) w c)) := by rw [ext_high _ _ _ _ (by rw [hN]; omega)]; rfl
  have vs : (ρ.ext lHas_D.N [.int .i64 i, .int .i64 (hasW (l.take i) w c)]).sym = sy := hsy
  have hF : FactsIn (ρ.ext lHas_D.N [.int .i64 i, .int .i64 (hasW (l.take i) w c)]) lHas0_F := by
    simp only [lHas0_F, FactsIn, X.bool, X.den, denL, dX, denSub, denIte, asB, dY, v100, Option.some.injEq, Value.bool.injEq, decide_eq_false_iff_not, and_true]
    omega
  suffices both : AsksL (ρ.ext lHas_D.N [.int .i64 i, .int .i64 (hasW (l.take i) w c)]) (lHas0_t.asks lHas0_F) ∧ WaysOk lHas_D ρ (lHas_Inv l w c) (lHas_mu l) 0 [.int .i64 i, .int .i64 (hasW (l.take i) w c)] lHas0_l from step_of_ways (lHas0_w _) hF both.1.ok both.2
  cases hp : l[i]? with
  | none =>
    have hge := List.getElem?_eq_none_iff.1 hp
    have hge' : ¬ (i : Int) < l.length := by omega
    have hl : l.take i = l := List.take_of_length_le hge
    refine ⟨?_, ?_⟩
    · simp only [lHas0_t, yPB_16, yPB_15, yPB_14, yPB_13, yPB_12, yPB_11, yPB_10, yPB_9, yPB_8, yPB_7, yPB_6, yPB_5, yPB_4, yPB_3, yPB_2, yPB_1, yPB_0, lHas0_F, AsksL, GTree.asks, FTree.asks, FactsIn, List.append_nil, List.nil_append, List.cons_append, Option.some.injEq, exists_eq', implies_true, and_self, X.bool, X.den, denL, dX, denSub, denIte, asB, dY, v1, v3, v4, v100, v101, vs, sym20, sym40, sym41, sym42, sym43, sym44, sym45, Int.toNat_natCast, hp, hge']
      try simp
    · simp only [lHas0_l, yPB_16, yPB_15, yPB_14, yPB_13, yPB_12, yPB_11, yPB_10, yPB_9, yPB_8, yPB_7, yPB_6, yPB_5, yPB_4, yPB_3, yPB_2, yPB_1, yPB_0, EndsOk, WaysOk, forall_cons, forall_nil, TgtOk, gpair, FactsIn, hold_cons, hold_nil, Option.some.injEq, dZ, X.bool, X.den, denL, dX, denSub, denIte, asB, dY, beq_iff_eq, beq_eq_false_iff_ne, ne_eq, v1, v3, v4, v100, v101, vs, h1, h3, h4, hsy, sym20, sym40, sym41, sym42, sym43, sym44, sym45, Int.toNat_natCast, hp, hge']
      simp [hl]
  | some p =>
    have hlt : i < l.length := (List.getElem?_eq_some_iff.1 hp).1
    have hlt1 : (i : Int) < l.length := by omega
    have hw : IntKind.i64.wrap ((i : Int) + 1) = ((i + 1 : Nat) : Int) := by rw [IntWalk.i64_in _ (by omega)]; rfl
    have hnext : hasW (l.take (i + 1)) w c = hasStep w c (hasW (l.take i) w c) p := by
      rw [List.take_add_one, hp]; exact hasW_snoc _ p w c
    have go : ∀ s, s = hasW (l.take (i + 1)) w c → ∃ vals', ((ρ.ext lHas_D.N vals').val 101 = some (.int .i64 s) ∧ (ρ.ext lHas_D.N vals').val 100 = some (.int .i64 ((i + 1 : Nat) : Int))) ∧ lHas_Inv l w c 0 vals' ∧ lHas_mu l 0 vals' < lHas_mu l 0 [.int .i64 i, .int .i64 (hasW (l.take i) w c)] := by
      rintro s rfl
      refine ⟨[.int .i64 ((i + 1 : Nat) : Int), .int .i64 (hasW (l.take (i + 1)) w c)], ⟨?_, ?_⟩, ⟨rfl, i + 1, by omega, rfl⟩, ?_⟩
      · rw [ext_high _ _ _ _ (by rw [hN]; omega)]; rfl
      · rw [ext_high _ _ _ _ (by rw [hN]; omega)]; rfl
      · simp [lHas_mu, vI]; omega
    rw [hnext] at go
    refine ⟨?_, ?_⟩
    · simp only [lHas0_t, yPB_16, yPB_15, yPB_14, yPB_13, yPB_12, yPB_11, yPB_10, yPB_9, yPB_8, yPB_7, yPB_6, yPB_5, yPB_4, yPB_3, yPB_2, yPB_1, yPB_0, lHas0_F, AsksL, GTree.asks, FTree.asks, FactsIn, List.append_nil, List.nil_append, List.cons_append, Option.some.injEq, exists_eq', implies_true, and_self, X.bool, X.den, denL, dX, denSub, denIte, asB, dY, v1, v3, v4, v100, v101, vs, sym20, sym40, sym41, sym42, sym43, sym44, sym45, Int.toNat_natCast, hp, Option.bind_some, ptg0, ptg1, ptg2, ptg3, ptg4, ptg5, ptg6, ptg7]
    · simp only [lHas0_l, yPB_16, yPB_15, yPB_14, yPB_13, yPB_12, yPB_11, yPB_10, yPB_9, yPB_8, yPB_7, yPB_6, yPB_5, yPB_4, yPB_3, yPB_2, yPB_1, yPB_0, EndsOk, WaysOk, forall_cons, forall_nil, TgtOk, gpair, FactsIn, hold_cons, hold_nil, Option.some.injEq, dZ, X.bool, X.den, denL, dX, denSub, denIte, asB, dY, beq_iff_eq, beq_eq_false_iff_ne, ne_eq, v1, v3, v4, v100, v101, vs, h1, h3, h4, hsy, sym20, sym40, sym41, sym42, sym43, sym44, sym45, Int.toNat_natCast, hp, Option.bind_some, ptg0, ptg1, ptg2, ptg3, ptg4, ptg5, ptg6, ptg7, hlt1, hw]
      clear v1 v3 v4 v100 v101 vs h1 h3 h4 hsy hp hF hnext
      simp only [hasStep, mine] at go
      (repeat' apply And.intro) <;> intros <;> first
        | trivial
        | (exfalso; omega)
        | contradiction
        | (refine go _ ?_; simp [*]; done)
        | (refine go _ ?_; simp_all; done)
noncomputable def rHas_con : Con := { f := 28, args := [ptgsArg 0 0, .one (.int .i64 3), .one (.int .i64 4)], N := 1, M := 1, pre := [(.app 20 [.var 1], true)], out := .sint .i64 (.app 40 [.var 1, .var 3, .var 4]), news := [] }
noncomputable def rHas_call : Env → CallL := fun E => acallAll E (evH E (noL E) ((fun E => oneH 28 (hooks [(3, lHas_D.hook E.facts sum_vs)])) E) 6)
noncomputable def rHas_t : GTree := (.leaf [[]])
noncomputable def rHas_l : List (List (X × Bool) × Option Pairs) := [([(.app 20 [.var 1], true)], some [(.app 40 [.var 1, .var 3, .var 4], .app 40 [.var 1, .var 3, .var 4])])]
theorem rHas_w (r : Rho) : rHas_con.fn.ways rHas_call E0 r rHas_con.pre rHas_t = some rHas_l := by kernel_rfl
theorem lHas_H {r : Rho} {l : List Ptg} {w c : Int} {k3 k4 : IntKind} (h1 : r.val 1 = some (ptgsR l)) (h3 : r.val 3 = some (.int k3 w)) (h4 : r.val 4 = some (.int k4 c)) (hmax : (l.length : Int) ≤ 1010) (hsy : r.sym = sy) (F : List (X × Bool)) :
    LoopsOk (E0.with F r) (oneH 28 (hooks [(3, lHas_D.hook (E0.with F r).facts sum_vs)])) := by
  refine loops_all (n := 1) (fun f fn h => h) (by kernel_rfl) fun i hi => ?_
  obtain rfl : i = 0 := by omega
  rw [hooks_hit (show keyOf (loopAt (E0.with F r).P 28 0) = 3 by kernel_rfl)]
  refine hook_ok (E₀ := E0) (run := lHas_run) (ρ := r) (Inv := lHas_Inv l w c) (μ := lHas_mu l) E0_ok lHas_ok (fun F r' h => ?_) (fun _ => ⟨lHas_step h1 h3 h4 hsy hmax, [.int .i64 0, .int .i64 0], ?_, rfl, 0, Nat.zero_le _, rfl⟩)
  · exact bodyRun_ok E0_ok (noL_ok F (h.trans hsy)) fun _ _ => noLoop_ok
  · simp only [sum_vs, X.bool, X.den, denL, dX, denSub, denIte, asB, dY]
theorem rHas_cok : rHas_con.Ok Tryz.prog sy := by
  intro r σ w us hsy hρ hpre hrel hins
  obtain ⟨u0, us, rfl, g0, hi⟩ := ins_cons hins
  obtain ⟨u1, us, rfl, g1, hi⟩ := ins_cons hi
  obtain ⟨u2, us, rfl, g2, hi⟩ := ins_cons hi
  obtain ⟨w, k3, rfl, h3⟩ := one_int g1
  obtain ⟨c, k4, rfl, h4⟩ := one_int g2
  obtain ⟨l, h1⟩ := ptgs_at hrel (i := 0) rfl
  rw [hρ] at h1 h3 h4
  have h1 : r.val 1 = some (ptgsR l) := h1
  have hmax : (l.length : Int) ≤ 1010 := by
    have := hpre.1
    simp only [X.bool, X.den, denL, dX, denSub, denIte, asB, dY, h1, hsy, sym20, Option.some.injEq, Value.bool.injEq] at this
    exact short_len this
  refine con_of (E := E0) E0_ok E0_glob (sy := sy) (fun F => noL_ok F hsy) (fun F => lHas_H h1 h3 h4 hmax hsy F) (rHas_w r) hρ hpre hrel hins ?_ ?_
  · simp only [rHas_con, rHas_t, yPB_16, yPB_15, yPB_14, yPB_13, yPB_12, yPB_11, yPB_10, yPB_9, yPB_8, yPB_7, yPB_6, yPB_5, yPB_4, yPB_3, yPB_2, yPB_1, yPB_0, AsksL, GTree.asks, FTree.asks, FactsIn, List.append_nil, List.nil_append, List.cons_append, Option.some.injEq, exists_eq', implies_true, and_self, X.bool, X.den, denL, dX, denSub, denIte, asB, dY, h1, h3, h4, hsy, sym20, sym40, sym41, sym42, sym43, sym44, sym45]
    try simp
  · simp only [rHas_l, yPB_16, yPB_15, yPB_14, yPB_13, yPB_12, yPB_11, yPB_10, yPB_9, yPB_8, yPB_7, yPB_6, yPB_5, yPB_4, yPB_3, yPB_2, yPB_1, yPB_0, EndsOk, WaysOk, forall_cons, forall_nil, TgtOk, gpair, FactsIn, hold_cons, hold_nil, Option.some.injEq, dZ, X.bool, X.den, denL, dX, denSub, denIte, asB, dY, h1, h3, h4, hsy, sym20, sym40, sym41, sym42, sym43, sym44, sym45]
    try simp
noncomputable def lSold_D : LoopD := { N := 100, M := 102, size := sizeOfF 26, reads := [(0, .rows 8 ptgSch (.var 0) (.var 1) false 36)], pats := [{ slots := [(0, .slx 0 8 (.var 0) (.num 0) (.op1 .len (.var 1)) (.var 2)), (1, .sint .i64 (.var 3)), (5, .sint .i64 (.var 101)), (6, .sint .i64 (.var 100))], heap := [] }], exits := [(.exit 0, { slots := [(5, .sint .i64 (.app 41 [.var 1, .var 3]))], heap := [] })], own := [], pre := [(.app 20 [.var 1], true)] }
noncomputable def lSold_run : Env → AF → ASt → Option (List Out) := bodyRun noL 6 (fun _ => noLoop) (loopAt Tryz.prog 26 0)
def lSold0_F : List (X × Bool) := [(.op2 .lt (.var 100) (.num 0), false)]
noncomputable def lSold0_t : FTree := (.fork yPB_0 (.fork (.op2 .eq yPB_1 (.num 1)) (.fork (.op2 .eq (.cell 4 (.var 1) (.var 100)) (.var 3)) (.leaf [.again 0 []]) (.leaf [.again 0 []])) (.leaf [.again 0 []])) (.leaf [.leave 0 []]))
noncomputable def lSold0_l : List (List (X × Bool) × Option (List (Tgt × Pairs))) := [([(.op2 .eq (.cell 4 (.var 1) (.var 100)) (.var 3), true), (.op2 .eq yPB_1 (.num 1), true), (yPB_0, true), (yPB_2, false)], some [(.again 0 [], [(.var 101, yPB_10), (.var 100, yPB_4)])]),
  ([(.op2 .eq (.cell 4 (.var 1) (.var 100)) (.var 3), false), (.op2 .eq yPB_1 (.num 1), true), (yPB_0, true), (yPB_2, false)], some [(.again 0 [], [(.var 101, .var 101), (.var 100, yPB_4)])]),
  ([(.op2 .eq yPB_1 (.num 1), false), (yPB_0, true), (yPB_2, false)], some [(.again 0 [], [(.var 101, .var 101), (.var 100, yPB_4)])]),
  ([(yPB_0, false), (yPB_2, false)], some [(.leave 0 [], [(.app 41 [.var 1, .var 3], .var 101)])])]
theorem lSold0_w (r : Rho) : lSold_D.ways lSold_run E0 r 0 lSold0_F lSold0_t = some lSold0_l := by kernel_rfl
theorem lSold_ok : lSold_D.ok = true := by kernel_rfl
def lSold_Inv (l : List Ptg) (c : Int) (j : Nat) (vals : List Value) : Prop :=
  j = 0 ∧ ∃ i : Nat, i ≤ l.length ∧ vals = [.int .i64 i, .int .i64 (soldW (l.take i) c)]
def lSold_mu (l : List Ptg) (_ : Nat) (vals : List Value) : Nat := l.length - (vI (vals.getD 0 default)).toNat
theorem lSold_step {ρ : Rho} {l : List Ptg} {c : Int} {k3 : IntKind} (h1 : ρ.val 1 = some (ptgsR l)) (h3 : ρ.val 3 = some (.int k3 c)) (hsy : ρ.sym = sy) (hmax : (l.length : Int) ≤ 1010) (j : Nat) (vals : List Value) (hI : lSold_Inv l c j vals) :
    StepOk lSold_D lSold_run E0 ρ (lSold_Inv l c) (lSold_mu l) j vals := by
  obtain ⟨rfl, i, hi, rfl⟩ := hI
  have hN : lSold_D.N = 100 := rfl
  have v1 : (ρ.ext lSold_D.N [.int .i64 i, .int .i64 (soldW (l.take i) c)]).val 1 = some (ptgsR l) := by rw [ext_low _ _ _ _ (by rw [hN]; omega)]; exact h1
  have v3 : (ρ.ext lSold_D.N [.int .i64 i, .int .i64 (soldW (l.take i) c)]).val 3 = some (.int k3 c) := by rw [ext_low _ _ _ _ (by rw [hN]; omega)]; exact h3
  have v100 : (ρ.ext lSold_D.N [.int .i64 i, .int .i64 (soldW (l.take i) c)]).val 100 = some (.int .i64 i) := by rw [ext_high _ _ _ _ (by rw [hN]; omega)]; rfl
  have v101 : (ρ.ext lSold_D.N [.int .i64 i, .int .i64 (soldW (l.take i) c)]).val 101 = some (.int .i64 (soldW (l.take i) c)) := by rw [ext_high _ _ _ _ (by rw [hN]; omega)]; rfl
  have vs : (ρ.ext lSold_D.N [.int .i64 i, .int .i64 (soldW (l.take i) c)]).sym = sy := hsy
  have hF : FactsIn (ρ.ext lSold_D.N [.int .i64 i, .int .i64 (soldW (l.take i) c)]) lSold0_F := by
    simp only [lSold0_F, FactsIn, X.bool, X.den, denL, dX, denSub, denIte, asB, dY, v100, Option.some.injEq, Value.bool.injEq, decide_eq_false_iff_not, and_true]
    omega
  suffices both : AsksL (ρ.ext lSold_D.N [.int .i64 i, .int .i64 (soldW (l.take i) c)]) (lSold0_t.asks lSold0_F) ∧ WaysOk lSold_D ρ (lSold_Inv l c) (lSold_mu l) 0 [.int .i64 i, .int .i64 (soldW (l.take i) c)] lSold0_l from step_of_ways (lSold0_w _) hF both.1.ok both.2
  cases hp : l[i]? with
  | none =>
    have hge := List.getElem?_eq_none_iff.1 hp
    have hge' : ¬ (i : Int) < l.length := by omega
    have hl : l.take i = l := List.take_of_length_le hge
    refine ⟨?_, ?_⟩
    · simp only [lSold0_t, yPB_16, yPB_15, yPB_14, yPB_13, yPB_12, yPB_11, yPB_10, yPB_9, yPB_8, yPB_7, yPB_6, yPB_5, yPB_4, yPB_3, yPB_2, yPB_1, yPB_0, lSold0_F, AsksL, GTree.asks, FTree.asks, FactsIn, List.append_nil, List.nil_append, List.cons_append, Option.some.injEq, exists_eq', implies_true, and_self, X.bool, X.den, denL, dX, denSub, denIte, asB, dY, v1, v3, v100, v101, vs, sym20, sym40, sym41, sym42, sym43, sym44, sym45, Int.toNat_natCast, hp, hge']
      try simp
    · simp only [lSold0_l, yPB_16, yPB_15, yPB_14, yPB_13, yPB_12, yPB_11, yPB_10, yPB_9, yPB_8, yPB_7, yPB_6, yPB_5, yPB_4, yPB_3, yPB_2, yPB_1, yPB_0, EndsOk, WaysOk, forall_cons, forall_nil, TgtOk, gpair, FactsIn, hold_cons, hold_nil, Option.some.injEq, dZ, X.bool, X.den, denL, dX, denSub, denIte, asB, dY, beq_iff_eq, beq_eq_false_iff_ne, ne_eq, v1, v3, v100, v101, vs, h1, h3, hsy, sym20, sym40, sym41, sym42, sym43, sym44, sym45, Int.toNat_natCast, hp, hge']
      simp [hl]
  | some p =>
    have hlt : i < l.length := (List.getElem?_eq_some_iff.1 hp).1
    have hlt1 : (i : Int) < l.length := by omega
    have hw : IntKind.i64.wrap ((i : Int) + 1) = ((i + 1 : Nat) : Int) := by rw [IntWalk.i64_in _ (by omega)]; rfl
    have hnext : soldW (l.take (i + 1)) c = soldStep c (soldW (l.take i) c) p := by
      rw [List.take_add_one, hp]; exact soldW_snoc _ p c
    have go : ∀ s, s = soldW (l.take (i + 1)) c → ∃ vals', ((ρ.ext lSold_D.N vals').val 101 = some (.int .i64 s) ∧ (ρ.ext lSold_D.N vals').val 100 = some (.int .i64 ((i + 1 : Nat) : Int))) ∧ lSold_Inv l c 0 vals' ∧ lSold_mu l 0 vals' < lSold_mu l 0 [.int .i64 i, .int .i64 (soldW (l.take i) c)] := by
      rintro s rfl
      refine ⟨[.int .i64 ((i + 1 : Nat) : Int), .int .i64 (soldW (l.take (i + 1)) c)], ⟨?_, ?_⟩, ⟨rfl, i + 1, by omega, rfl⟩, ?_⟩
      · rw [ext_high _ _ _ _ (by rw [hN]; omega)]; rfl
      · rw [ext_high _ _ _ _ (by rw [hN]; omega)]; rfl
      · simp [lSold_mu, vI]; omega
    rw [hnext] at go
    refine ⟨?_, ?_⟩
    · simp only [lSold0_t, yPB_16, yPB_15, yPB_14, yPB_13, yPB_12, yPB_11, yPB_10, yPB_9, yPB_8, yPB_7, yPB_6, yPB_5, yPB_4, yPB_3, yPB_2, yPB_1, yPB_0, lSold0_F, AsksL, GTree.asks, FTree.asks, FactsIn, List.append_nil, List.nil_append, List.cons_append, Option.some.injEq, exists_eq', implies_true, and_self, X.bool, X.den, denL, dX, denSub, denIte, asB, dY, v1, v3, v100, v101, vs, sym20, sym40, sym41, sym42, sym43, sym44, sym45, Int.toNat_natCast, hp, Option.bind_some, ptg0, ptg1, ptg2, ptg3, ptg4, ptg5, ptg6, ptg7]
    · simp only [lSold0_l, yPB_16, yPB_15, yPB_14, yPB_13, yPB_12, yPB_11, yPB_10, yPB_9, yPB_8, yPB_7, yPB_6, yPB_5, yPB_4, yPB_3, yPB_2, yPB_1, yPB_0, EndsOk, WaysOk, forall_cons, forall_nil, TgtOk, gpair, FactsIn, hold_cons, hold_nil, Option.some.injEq, dZ, X.bool, X.den, denL, dX, denSub, denIte, asB, dY, beq_iff_eq, beq_eq_false_iff_ne, ne_eq, v1, v3, v100, v101, vs, h1, h3, hsy, sym20, sym40, sym41, sym42, sym43, sym44, sym45, Int.toNat_natCast, hp, Option.bind_some, ptg0, ptg1, ptg2, ptg3, ptg4, ptg5, ptg6, ptg7, hlt1, hw]
      clear v1 v3 v100 v101 vs h1 h3 hsy hp hF hnext
      simp only [soldStep, mine] at go
      (repeat' apply And.intro) <;> intros <;> first
        | trivial
        | (exfalso; omega)
        | contradiction
        | (refine go _ ?_; simp [*]; done)
        | (refine go _ ?_; simp_all; done)
noncomputable def rSold_con : Con := { f := 26, args := [ptgsArg 0 0, .one (.int .i64 3)], N := 1, M := 1, pre := [(.app 20 [.var 1], true)], out := .sint .i64 (.app 41 [.var 1, .var 3]), news := [] }
noncomputable def rSold_call : Env → CallL := fun E => acallAll E (evH E (noL E) ((fun E => oneH 26 (hooks [(3, lSold_D.hook E.facts sum_vs)])) E) 6)
noncomputable def rSold_t : GTree := (.leaf [[]])
noncomputable def rSold_l : List (List (X × Bool) × Option Pairs) := [([(.app 20 [.var 1], true)], some [(.app 41 [.var 1, .var 3], .app 41 [.var 1, .var 3])])]
theorem rSold_w (r : Rho) : rSold_con.fn.ways rSold_call E0 r rSold_con.pre rSold_t = some rSold_l := by kernel_rfl
theorem lSold_H {r : Rho} {l : List Ptg} {c : Int} {k3 : IntKind} (h1 : r.val 1 = some (ptgsR l)) (h3 : r.val 3 = some (.int k3 c)) (hmax : (l.length : Int) ≤ 1010) (hsy : r.sym = sy) (F : List (X × Bool)) :
    LoopsOk (E0.with F r) (oneH 26 (hooks [(3, lSold_D.hook (E0.with F r).facts sum_vs)])) := by
  refine loops_all (n := 1) (fun f fn h => h) (by kernel_rfl) fun i hi => ?_
  obtain rfl : i = 0 := by omega
  rw [hooks_hit (show keyOf (loopAt (E0.with F r).P 26 0) = 3 by kernel_rfl)]
  refine hook_ok (E₀ := E0) (run := lSold_run) (ρ := r) (Inv := lSold_Inv l c) (μ := lSold_mu l) E0_ok lSold_ok (fun F r' h => ?_) (fun _ => ⟨lSold_step h1 h3 hsy hmax, [.int .i64 0, .int .i64 0], ?_, rfl, 0, Nat.zero_le _, rfl⟩)
  · exact bodyRun_ok E0_ok (noL_ok F (h.trans hsy)) fun _ _ => noLoop_ok
  · simp only [sum_vs, X.bool, X.den, denL, dX, denSub, denIte, asB, dY]
theorem rSold_cok : rSold_con.Ok Tryz.prog sy := by
  intro r σ w us hsy hρ hpre hrel hins
  obtain ⟨u0, us, rfl, g0, hi⟩ := ins_cons hins
  obtain ⟨u1, us, rfl, g1, hi⟩ := ins_cons hi
  obtain ⟨c, k3, rfl, h3⟩ := one_int g1
  obtain ⟨l, h1⟩ := ptgs_at hrel (i := 0) rfl
  rw [hρ] at h1 h3
  have h1 : r.val 1 = some (ptgsR l) := h1
  have hmax : (l.length : Int) ≤ 1010 := by
    have := hpre.1
    simp only [X.bool, X.den, denL, dX, denSub, denIte, asB, dY, h1, hsy, sym20, Option.some.injEq, Value.bool.injEq] at this
    exact short_len this
  refine con_of (E := E0) E0_ok E0_glob (sy := sy) (fun F => noL_ok F hsy) (fun F => lSold_H h1 h3 hmax hsy F) (rSold_w r) hρ hpre hrel hins ?_ ?_
  · simp only [rSold_con, rSold_t, yPB_16, yPB_15, yPB_14, yPB_13, yPB_12, yPB_11, yPB_10, yPB_9, yPB_8, yPB_7, yPB_6, yPB_5, yPB_4, yPB_3, yPB_2, yPB_1, yPB_0, AsksL, GTree.asks, FTree.asks, FactsIn, List.append_nil, List.nil_append, List.cons_append, Option.some.injEq, exists_eq', implies_true, and_self, X.bool, X.den, denL, dX, denSub, denIte, asB, dY, h1, h3, hsy, sym20, sym40, sym41, sym42, sym43, sym44, sym45]
    try simp
  · simp only [rSold_l, yPB_16, yPB_15, yPB_14, yPB_13, yPB_12, yPB_11, yPB_10, yPB_9, yPB_8, yPB_7, yPB_6, yPB_5, yPB_4, yPB_3, yPB_2, yPB_1, yPB_0, EndsOk, WaysOk, forall_cons, forall_nil, TgtOk, gpair, FactsIn, hold_cons, hold_nil, Option.some.injEq, dZ, X.bool, X.den, denL, dX, denSub, denIte, asB, dY, h1, h3, hsy, sym20, sym40, sym41, sym42, sym43, sym44, sym45]
    try simp
noncomputable def LH : Env → CallE := libs [cLib rHas_con, cLib rSold_con]
theorem LH_ok (F : List (X × Bool)) {r : Rho} (h : r.sym = sy) : CallsOk (E0.with F r) (LH (E0.with F r)) := libs_ok fun c hc => by
  simp only [List.mem_cons, List.not_mem_nil, or_false] at hc
  rcases hc with rfl | rfl
  · exact lib_ok (E := E0) rHas_cok F h
  · exact lib_ok (E := E0) rSold_cok F h
def held_vs : List X := [.num 0, .app 41 [.var 1, .var 3]]
noncomputable def lHeld_D : LoopD := { N := 100, M := 102, size := sizeOfF 34, reads := [(0, .rows 8 ptgSch (.var 0) (.var 1) false 36)], pats := [{ slots := [(0, .slx 0 8 (.var 0) (.num 0) (.op1 .len (.var 1)) (.var 2)), (1, .sint .i64 (.var 3)), (5, .sint .i64 (.var 101)), (6, .sint .i64 (.var 100))], heap := [] }], exits := [(.exit 0, { slots := [(5, .sint .i64 (.app 42 [.var 1, .var 3]))], heap := [] })], own := [], pre := [(.app 20 [.var 1], true)] }
noncomputable def lHeld_run : Env → AF → ASt → Option (List Out) := bodyRun LH 2 (fun _ => noLoop) (loopAt Tryz.prog 34 0)
def lHeld0_F : List (X × Bool) := [(.op2 .lt (.var 100) (.num 0), false)]
noncomputable def lHeld0_t : FTree := (.fork (.op2 .lt (.num 40) (.var 100)) (.leaf [.leave 0 []]) (.fork (.app 20 [.var 1]) (.leaf [.again 0 []]) .bad))
noncomputable def lHeld0_l : List (List (X × Bool) × Option (List (Tgt × Pairs))) := [([(.op2 .lt (.num 40) (.var 100), true), (yPB_2, false)], some [(.leave 0 [], [(.app 42 [.var 1, .var 3], .var 101)])]),
  ([(.app 20 [.var 1], true), (.op2 .lt (.num 40) (.var 100), false), (yPB_2, false)], some [(.again 0 [], [(.var 101, .op1 (.wrap .i64) (.op2 .sub (.var 101) (.app 40 [.var 1, .var 100, .var 3]))), (.var 100, yPB_4)])]),
  ([(.app 20 [.var 1], false), (.op2 .lt (.num 40) (.var 100), false), (yPB_2, false)], none)]
theorem lHeld0_w (r : Rho) : lHeld_D.ways lHeld_run E0 r 0 lHeld0_F lHeld0_t = some lHeld0_l := by kernel_rfl
theorem lHeld_ok : lHeld_D.ok = true := by kernel_rfl
def lHeld_Inv (l : List Ptg) (c : Int) (j : Nat) (vals : List Value) : Prop :=
  j = 0 ∧ ∃ i : Nat, i ≤ 41 ∧ vals = [.int .i64 i, .int .i64 (heldTo l c i)]
def lHeld_mu (_ : Nat) (vals : List Value) : Nat := 41 - (vI (vals.getD 0 default)).toNat
theorem lHeld_step {ρ : Rho} {l : List Ptg} {c : Int} {k3 : IntKind} (h1 : ρ.val 1 = some (ptgsR l)) (h3 : ρ.val 3 = some (.int k3 c)) (hsy : ρ.sym = sy) (hsh : shortB l = true) (j : Nat) (vals : List Value) (hI : lHeld_Inv l c j vals) :
    StepOk lHeld_D lHeld_run E0 ρ (lHeld_Inv l c) lHeld_mu j vals := by
  obtain ⟨rfl, i, hi, rfl⟩ := hI
  have hN : lHeld_D.N = 100 := rfl
  have v1 : (ρ.ext lHeld_D.N [.int .i64 i, .int .i64 (heldTo l c i)]).val 1 = some (ptgsR l) := by rw [ext_low _ _ _ _ (by rw [hN]; omega)]; exact h1
  have v3 : (ρ.ext lHeld_D.N [.int .i64 i, .int .i64 (heldTo l c i)]).val 3 = some (.int k3 c) := by rw [ext_low _ _ _ _ (by rw [hN]; omega)]; exact h3
  have v100 : (ρ.ext lHeld_D.N [.int .i64 i, .int .i64 (heldTo l c i)]).val 100 = some (.int .i64 i) := by rw [ext_high _ _ _ _ (by rw [hN]; omega)]; rfl
  have v101 : (ρ.ext lHeld_D.N [.int .i64 i, .int .i64 (heldTo l c i)]).val 101 = some (.int .i64 (heldTo l c i)) := by rw [ext_high _ _ _ _ (by rw [hN]; omega)]; rfl
  have vs : (ρ.ext lHeld_D.N [.int .i64 i, .int .i64 (heldTo l c i)]).sym = sy := hsy
  have hF : FactsIn (ρ.ext lHeld_D.N [.int .i64 i, .int .i64 (heldTo l c i)]) lHeld0_F := by
    simp only [lHeld0_F, FactsIn, X.bool, X.den, denL, dX, denSub, denIte, asB, dY, v100, Option.some.injEq, Value.bool.injEq, decide_eq_false_iff_not, and_true]
    omega
  have hw : IntKind.i64.wrap ((i : Int) + 1) = ((i + 1 : Nat) : Int) := by rw [IntWalk.i64_in _ (by omega)]; rfl
  suffices both : AsksL (ρ.ext lHeld_D.N [.int .i64 i, .int .i64 (heldTo l c i)]) (lHeld0_t.asks lHeld0_F) ∧ WaysOk lHeld_D ρ (lHeld_Inv l c) lHeld_mu 0 [.int .i64 i, .int .i64 (heldTo l c i)] lHeld0_l from step_of_ways (lHeld0_w _) hF both.1.ok both.2
  refine ⟨?_, ?_⟩
  · simp only [lHeld0_t, yPB_16, yPB_15, yPB_14, yPB_13, yPB_12, yPB_11, yPB_10, yPB_9, yPB_8, yPB_7, yPB_6, yPB_5, yPB_4, yPB_3, yPB_2, yPB_1, yPB_0, lHeld0_F, AsksL, GTree.asks, FTree.asks, FactsIn, List.append_nil, List.nil_append, List.cons_append, Option.some.injEq, exists_eq', implies_true, and_self, X.bool, X.den, denL, dX, denSub, denIte, asB, dY, v1, v3, v100, v101, vs, sym20, sym40, sym41, sym42, sym43, sym44, sym45, hsh]
    try simp
  · simp only [lHeld0_l, yPB_16, yPB_15, yPB_14, yPB_13, yPB_12, yPB_11, yPB_10, yPB_9, yPB_8, yPB_7, yPB_6, yPB_5, yPB_4, yPB_3, yPB_2, yPB_1, yPB_0, EndsOk, WaysOk, forall_cons, forall_nil, TgtOk, gpair, FactsIn, hold_cons, hold_nil, Option.some.injEq, dZ, X.bool, X.den, denL, dX, denSub, denIte, asB, dY, beq_iff_eq, beq_eq_false_iff_ne, ne_eq, v1, v3, v100, v101, vs, h1, h3, hsy, sym20, sym40, sym41, sym42, sym43, sym44, sym45, hsh, hw]
    have go : i < 41 → ∃ vals', ((ρ.ext lHeld_D.N vals').val 101 = some (.int .i64 (IntKind.i64.wrap (heldTo l c i - hasW l (i : Int) c))) ∧ (ρ.ext lHeld_D.N vals').val 100 = some (.int .i64 ((i + 1 : Nat) : Int))) ∧ lHeld_Inv l c 0 vals' ∧ lHeld_mu 0 vals' < lHeld_mu 0 [.int .i64 i, .int .i64 (heldTo l c i)] := by
      intro hlt
      refine ⟨[.int .i64 ((i + 1 : Nat) : Int), .int .i64 (heldTo l c (i + 1))], ⟨?_, ?_⟩, ⟨rfl, i + 1, by omega, rfl⟩, ?_⟩
      · rw [ext_high _ _ _ _ (by rw [hN]; omega)]; rfl
      · rw [ext_high _ _ _ _ (by rw [hN]; omega)]; rfl
      · simp [lHeld_mu, vI]; omega
    have done : ¬ i < 41 → heldTo l c i = heldW l c := fun h => by rw [show i = 41 by omega]; rfl
    clear v1 v3 v100 v101 vs h1 h3 hsy hF
    exact ⟨fun h _ => (done (by omega)).symm, fun h _ => go (by omega), fun h => by cases h⟩
noncomputable def rHeld_con : Con := { f := 34, args := [ptgsArg 0 0, .one (.int .i64 3)], N := 1, M := 1, pre := [(.app 20 [.var 1], true)], out := .sint .i64 (.app 42 [.var 1, .var 3]), news := [] }
noncomputable def rHeld_call : Env → CallL := fun E => acallAll E (evH E (LH E) ((fun E => oneH 34 (hooks [(3, lHeld_D.hook E.facts held_vs)])) E) 2)
noncomputable def rHeld_t : GTree := (.leaf [[]])
noncomputable def rHeld_l : List (List (X × Bool) × Option Pairs) := [([(.app 20 [.var 1], true)], some [(.app 42 [.var 1, .var 3], .app 42 [.var 1, .var 3])])]
theorem rHeld_w (r : Rho) : rHeld_con.fn.ways rHeld_call E0 r rHeld_con.pre rHeld_t = some rHeld_l := by kernel_rfl
theorem lHeld_H {r : Rho} {l : List Ptg} {c : Int} {k3 : IntKind} (h1 : r.val 1 = some (ptgsR l)) (h3 : r.val 3 = some (.int k3 c)) (hmax : (l.length : Int) ≤ 1010) (hsy : r.sym = sy) (F : List (X × Bool)) :
    LoopsOk (E0.with F r) (oneH 34 (hooks [(3, lHeld_D.hook (E0.with F r).facts held_vs)])) := by
  refine loops_all (n := 1) (fun f fn h => h) (by kernel_rfl) fun i hi => ?_
  obtain rfl : i = 0 := by omega
  rw [hooks_hit (show keyOf (loopAt (E0.with F r).P 34 0) = 3 by kernel_rfl)]
  refine hook_ok (E₀ := E0) (run := lHeld_run) (ρ := r) (Inv := lHeld_Inv l c) (μ := lHeld_mu) E0_ok lHeld_ok (fun F r' h => ?_) (fun _ => ⟨lHeld_step h1 h3 hsy (len_short hmax), [.int .i64 0, .int .i64 (soldW l c)], ?_, rfl, 0, Nat.zero_le _, rfl⟩)
  · exact bodyRun_ok E0_ok (LH_ok F (h.trans hsy)) fun _ _ => noLoop_ok
  · simp only [held_vs, X.bool, X.den, denL, dX, denSub, denIte, asB, dY, h1, h3, hsy, sym41]
theorem rHeld_cok : rHeld_con.Ok Tryz.prog sy := by
  intro r σ w us hsy hρ hpre hrel hins
  obtain ⟨u0, us, rfl, g0, hi⟩ := ins_cons hins
  obtain ⟨u1, us, rfl, g1, hi⟩ := ins_cons hi
  obtain ⟨c, k3, rfl, h3⟩ := one_int g1
  obtain ⟨l, h1⟩ := ptgs_at hrel (i := 0) rfl
  rw [hρ] at h1 h3
  have h1 : r.val 1 = some (ptgsR l) := h1
  have hmax : (l.length : Int) ≤ 1010 := by
    have := hpre.1
    simp only [X.bool, X.den, denL, dX, denSub, denIte, asB, dY, h1, hsy, sym20, Option.some.injEq, Value.bool.injEq] at this
    exact short_len this
  refine con_of (E := E0) E0_ok E0_glob (sy := sy) (fun F => LH_ok F hsy) (fun F => lHeld_H h1 h3 hmax hsy F) (rHeld_w r) hρ hpre hrel hins ?_ ?_
  · simp only [rHeld_con, rHeld_t, yPB_16, yPB_15, yPB_14, yPB_13, yPB_12, yPB_11, yPB_10, yPB_9, yPB_8, yPB_7, yPB_6, yPB_5, yPB_4, yPB_3, yPB_2, yPB_1, yPB_0, AsksL, GTree.asks, FTree.asks, FactsIn, List.append_nil, List.nil_append, List.cons_append, Option.some.injEq, exists_eq', implies_true, and_self, X.bool, X.den, denL, dX, denSub, denIte, asB, dY, h1, h3, hsy, sym20, sym40, sym41, sym42, sym43, sym44, sym45, len_short hmax]
    try simp
  · simp only [rHeld_l, yPB_16, yPB_15, yPB_14, yPB_13, yPB_12, yPB_11, yPB_10, yPB_9, yPB_8, yPB_7, yPB_6, yPB_5, yPB_4, yPB_3, yPB_2, yPB_1, yPB_0, EndsOk, WaysOk, forall_cons, forall_nil, TgtOk, gpair, FactsIn, hold_cons, hold_nil, Option.some.injEq, dZ, X.bool, X.den, denL, dX, denSub, denIte, asB, dY, h1, h3, hsy, sym20, sym40, sym41, sym42, sym43, sym44, sym45, len_short hmax]
    try simp
def last_vs : List X := [.op1 (.wrap .i64) (.op2 .sub (.op1 .len (.var 1)) (.num 1))]
noncomputable def lLast_D : LoopD := { N := 100, M := 101, size := sizeOfF 84, reads := [(0, .rows 8 ptgSch (.var 0) (.var 1) false 36)], pats := [{ slots := [(0, .slx 0 8 (.var 0) (.num 0) (.op1 .len (.var 1)) (.var 2)), (1, .sint .i64 (.var 3)), (2, .sint .i64 (.var 4)), (6, .ptr 1 0), (8, .sint .i64 (.var 100))], heap := [(1, .cells [.int .i64 0, .int .i64 0, .int .u8 0, .int .i64 0, .int .i64 0, .int .i64 0, .int .i64 0, .int .i64 0] 36)] }], exits := [(.exit 0, { slots := [(6, .ptr 1 0)], heap := [(1, .cells [.int .i64 0, .int .i64 0, .int .u8 0, .int .i64 0, .int .i64 0, .int .i64 0, .int .i64 0, .int .i64 0] 36)], guard := .op1 .not (.app 44 [.var 1, .var 3, .var 4]) }), (.ret, { slots := [(6, .ptr 1 0), (7, .sbool (.boo true))], heap := [(1, .cells [.sint .i64 (.app 43 [.var 1, .var 3, .var 4, .num 0]), .sint .i64 (.app 43 [.var 1, .var 3, .var 4, .num 1]), .sint .u8 (.app 43 [.var 1, .var 3, .var 4, .num 2]), .sint .i64 (.app 43 [.var 1, .var 3, .var 4, .num 3]), .sint .i64 (.app 43 [.var 1, .var 3, .var 4, .num 4]), .sint .i64 (.app 43 [.var 1, .var 3, .var 4, .num 5]), .sint .i64 (.app 43 [.var 1, .var 3, .var 4, .num 6]), .sint .i64 (.app 43 [.var 1, .var 3, .var 4, .num 7])] 36)], guard := .app 44 [.var 1, .var 3, .var 4] })], own := [1], pre := [(.app 20 [.var 1], true)] }
noncomputable def lLast_run : Env → AF → ASt → Option (List Out) := bodyRun noL 6 (fun _ => noLoop) (loopAt Tryz.prog 84 0)
def lLast0_F : List (X × Bool) := [(.op2 .lt (.var 100) (.op1 .len (.var 1)), true)]
noncomputable def lLast0_t : FTree := (.fork yPB_2 (.leaf [.leave 0 []]) (.fork yPB_7 (.fork yPB_3 (.fork yPB_5 (.leaf [.leave 1 []]) (.leaf [.again 0 []])) (.leaf [.again 0 []])) (.leaf [.again 0 []])))
noncomputable def lLast0_l : List (List (X × Bool) × Option (List (Tgt × Pairs))) := [([(yPB_2, true), (yPB_0, true)], some [(.leave 0 [], [(.op1 .not yPB_6, .boo true)])]),
  ([(yPB_5, true), (yPB_3, true), (yPB_7, true), (yPB_2, false), (yPB_0, true)], some [(.leave 1 [], [(yPB_8, .cell 0 (.var 1) (.var 100)), (yPB_9, .cell 1 (.var 1) (.var 100)), (yPB_11, yPB_1), (yPB_12, .cell 3 (.var 1) (.var 100)), (yPB_13, .cell 4 (.var 1) (.var 100)), (yPB_14, .cell 5 (.var 1) (.var 100)), (yPB_15, .cell 6 (.var 1) (.var 100)), (yPB_16, .cell 7 (.var 1) (.var 100)), (yPB_6, .boo true)])]),
  ([(yPB_5, false), (yPB_3, true), (yPB_7, true), (yPB_2, false), (yPB_0, true)], some [(.again 0 [], [(.var 100, .op1 (.wrap .i64) (.op2 .sub (.var 100) (.num 1)))])]),
  ([(yPB_3, false), (yPB_7, true), (yPB_2, false), (yPB_0, true)], some [(.again 0 [], [(.var 100, .op1 (.wrap .i64) (.op2 .sub (.var 100) (.num 1)))])]),
  ([(yPB_7, false), (yPB_2, false), (yPB_0, true)], some [(.again 0 [], [(.var 100, .op1 (.wrap .i64) (.op2 .sub (.var 100) (.num 1)))])])]
theorem lLast0_w (r : Rho) : lLast_D.ways lLast_run E0 r 0 lLast0_F lLast0_t = some lLast0_l := by kernel_rfl
theorem lLast_ok : lLast_D.ok = true := by kernel_rfl
def lLast_Inv (l : List Ptg) (w c : Int) (j : Nat) (vals : List Value) : Prop :=
  j = 0 ∧ ∃ i : Nat, i ≤ l.length ∧ vals = [.int .i64 ((i : Int) - 1)] ∧ paidB (l.drop i) w c = false
def lLast_mu (_ : Nat) (vals : List Value) : Nat := (vI (vals.getD 0 default) + 1).toNat
theorem lLast_step {ρ : Rho} {l : List Ptg} {w c : Int} {k3 k4 : IntKind} (h1 : ρ.val 1 = some (ptgsR l)) (h3 : ρ.val 3 = some (.int k3 w)) (h4 : ρ.val 4 = some (.int k4 c)) (hsy : ρ.sym = sy) (hmax : (l.length : Int) ≤ 1010) (j : Nat) (vals : List Value) (hI : lLast_Inv l w c j vals) :
    StepOk lLast_D lLast_run E0 ρ (lLast_Inv l w c) lLast_mu j vals := by
  obtain ⟨rfl, i, hi, rfl, hall⟩ := hI
  have hN : lLast_D.N = 100 := rfl
  have v1 : (ρ.ext lLast_D.N [.int .i64 ((i : Int) - 1)]).val 1 = some (ptgsR l) := by rw [ext_low _ _ _ _ (by rw [hN]; omega)]; exact h1
  have v3 : (ρ.ext lLast_D.N [.int .i64 ((i : Int) - 1)]).val 3 = some (.int k3 w) := by rw [ext_low _ _ _ _ (by rw [hN]; omega)]; exact h3
  have v4 : (ρ.ext lLast_D.N [.int .i64 ((i : Int) - 1)]).val 4 = some (.int k4 c) := by rw [ext_low _ _ _ _ (by rw [hN]; omega)]; exact h4
  have v100 : (ρ.ext lLast_D.N [.int .i64 ((i : Int) - 1)]).val 100 = some (.int .i64 ((i : Int) - 1)) := by rw [ext_high _ _ _ _ (by rw [hN]; omega)]; rfl
  have vs : (ρ.ext lLast_D.N [.int .i64 ((i : Int) - 1)]).sym = sy := hsy
  have hF : FactsIn (ρ.ext lLast_D.N [.int .i64 ((i : Int) - 1)]) lLast0_F := by
    simp only [lLast0_F, FactsIn, X.bool, X.den, denL, dX, denSub, denIte, asB, dY, v1, v100, Option.some.injEq, Value.bool.injEq, decide_eq_true_eq, and_true]
    omega
  suffices both : AsksL (ρ.ext lLast_D.N [.int .i64 ((i : Int) - 1)]) (lLast0_t.asks lLast0_F) ∧ WaysOk lLast_D ρ (lLast_Inv l w c) lLast_mu 0 [.int .i64 ((i : Int) - 1)] lLast0_l from step_of_ways (lLast0_w _) hF both.1.ok both.2
  cases i with
  | zero =>
    rw [List.drop_zero] at hall
    refine ⟨?_, ?_⟩
    · simp only [lLast0_t, yPB_16, yPB_15, yPB_14, yPB_13, yPB_12, yPB_11, yPB_10, yPB_9, yPB_8, yPB_7, yPB_6, yPB_5, yPB_4, yPB_3, yPB_2, yPB_1, yPB_0, lLast0_F, AsksL, GTree.asks, FTree.asks, FactsIn, List.append_nil, List.nil_append, List.cons_append, Option.some.injEq, exists_eq', implies_true, and_self, X.bool, X.den, denL, dX, denSub, denIte, asB, dY, v1, v3, v4, v100, vs, sym20, sym40, sym41, sym42, sym43, sym44, sym45]
      try simp
    · simp only [lLast0_l, yPB_16, yPB_15, yPB_14, yPB_13, yPB_12, yPB_11, yPB_10, yPB_9, yPB_8, yPB_7, yPB_6, yPB_5, yPB_4, yPB_3, yPB_2, yPB_1, yPB_0, EndsOk, WaysOk, forall_cons, forall_nil, TgtOk, gpair, FactsIn, hold_cons, hold_nil, Option.some.injEq, dZ, X.bool, X.den, denL, dX, denSub, denIte, asB, dY, beq_iff_eq, beq_eq_false_iff_ne, ne_eq, v1, v3, v4, v100, vs, h1, h3, h4, hsy, sym20, sym40, sym41, sym42, sym43, sym44, sym45]
      simp [hall]
  | succ i =>
    have e1 : ((i + 1 : Nat) : Int) - 1 = (i : Int) := by omega
    rw [e1] at v100
    simp only [e1] at v1 v3 v4 v100 vs hF ⊢
    obtain ⟨p, hp⟩ : ∃ p, l[i]? = some p := ⟨l[i]'(by omega), List.getElem?_eq_getElem (by omega)⟩
    have hlt1 : (i : Int) < l.length := by omega
    have hw : IntKind.i64.wrap ((i : Int) - 1) = (i : Int) - 1 := IntWalk.i64_in _ (by omega)
    refine ⟨?_, ?_⟩
    · simp only [lLast0_t, yPB_16, yPB_15, yPB_14, yPB_13, yPB_12, yPB_11, yPB_10, yPB_9, yPB_8, yPB_7, yPB_6, yPB_5, yPB_4, yPB_3, yPB_2, yPB_1, yPB_0, lLast0_F, AsksL, GTree.asks, FTree.asks, FactsIn, List.append_nil, List.nil_append, List.cons_append, Option.some.injEq, exists_eq', implies_true, and_self, X.bool, X.den, denL, dX, denSub, denIte, asB, dY, v1, v3, v4, v100, vs, sym20, sym40, sym41, sym42, sym43, sym44, sym45, Int.toNat_natCast, hp, Option.bind_some, ptg0, ptg1, ptg2, ptg3, ptg4, ptg5, ptg6, ptg7]
    · simp only [lLast0_l, yPB_16, yPB_15, yPB_14, yPB_13, yPB_12, yPB_11, yPB_10, yPB_9, yPB_8, yPB_7, yPB_6, yPB_5, yPB_4, yPB_3, yPB_2, yPB_1, yPB_0, EndsOk, WaysOk, forall_cons, forall_nil, TgtOk, gpair, FactsIn, hold_cons, hold_nil, Option.some.injEq, dZ, X.bool, X.den, denL, dX, denSub, denIte, asB, dY, beq_iff_eq, beq_eq_false_iff_ne, ne_eq, v1, v3, v4, v100, vs, h1, h3, h4, hsy, sym20, sym40, sym41, sym42, sym43, sym44, sym45, Int.toNat_natCast, hp, Option.bind_some, ptg0, ptg1, ptg2, ptg3, ptg4, ptg5, ptg6, ptg7, hlt1, hw]
      have go : payB w c p = false → ∃ vals', ((ρ.ext lLast_D.N vals').val 100 = some (.int .i64 ((i : Int) - 1))) ∧ lLast_Inv l w c 0 vals' ∧ lLast_mu 0 vals' < lLast_mu 0 [.int .i64 (i : Int)] := by
        intro e
        refine ⟨[.int .i64 ((i : Int) - 1)], ?_, ⟨rfl, i, by omega, rfl, paid_drop hp hall e⟩, ?_⟩
        · rw [ext_high _ _ _ _ (by rw [hN]; omega)]; rfl
        · first | (simp [lLast_mu, vI]; done) | (simp [lLast_mu, vI]; omega)
      have yes := @last_drop l w c i p hp hall
      clear v1 v3 v4 v100 vs h1 h3 h4 hsy hF hall
      simp only [payB] at go yes
      (repeat' apply And.intro) <;> intros <;> first
        | trivial
        | (exfalso; omega)
        | contradiction
        | (refine go ?_; simp [*]; done)
        | (have h2 := yes (by simp [*]); simp [h2.1, h2.2, Ptg.row, *]; done)
        | (have h2 := yes (by simp [*]); simp_all [Ptg.row]; done)
noncomputable def rLast_con : Con := { f := 84, args := [ptgsArg 0 0, .one (.int .i64 3), .one (.int .i64 4)], N := 1, M := 1, pre := [(.app 20 [.var 1], true)], out := .tuple [.agg [.sint .i64 (.app 43 [.var 1, .var 3, .var 4, .num 0]), .sint .i64 (.app 43 [.var 1, .var 3, .var 4, .num 1]), .sint .u8 (.ite (.app 44 [.var 1, .var 3, .var 4]) (.app 43 [.var 1, .var 3, .var 4, .num 2]) (.num 0)), .sint .i64 (.app 43 [.var 1, .var 3, .var 4, .num 3]), .sint .i64 (.app 43 [.var 1, .var 3, .var 4, .num 4]), .sint .i64 (.app 43 [.var 1, .var 3, .var 4, .num 5]), .sint .i64 (.app 43 [.var 1, .var 3, .var 4, .num 6]), .sint .i64 (.app 43 [.var 1, .var 3, .var 4, .num 7])], .sbool (.app 44 [.var 1, .var 3, .var 4])], news := [] }
noncomputable def rLast_call : Env → CallL := fun E => acallAll E (evH E (noL E) ((fun E => oneH 84 (hooks [(2, lLast_D.hook E.facts last_vs)])) E) 6)
noncomputable def rLast_t : GTree := (.fork yPB_6 (.leaf [[]]) (.leaf [[]]))
noncomputable def rLast_l : List (List (X × Bool) × Option Pairs) := [([(yPB_6, true), (.app 20 [.var 1], true)], some [(yPB_8, yPB_8), (yPB_9, yPB_9), (.ite yPB_6 yPB_11 (.num 0), yPB_11), (yPB_12, yPB_12), (yPB_13, yPB_13), (yPB_14, yPB_14), (yPB_15, yPB_15), (yPB_16, yPB_16), (yPB_6, .boo true)]),
  ([(yPB_6, false), (.app 20 [.var 1], true)], some [(yPB_8, .num 0), (yPB_9, .num 0), (.ite yPB_6 yPB_11 (.num 0), .num 0), (yPB_12, .num 0), (yPB_13, .num 0), (yPB_14, .num 0), (yPB_15, .num 0), (yPB_16, .num 0), (yPB_6, .boo false)])]
theorem rLast_w (r : Rho) : rLast_con.fn.ways rLast_call E0 r rLast_con.pre rLast_t = some rLast_l := by kernel_rfl
theorem lLast_H {r : Rho} {l : List Ptg} {w c : Int} {k3 k4 : IntKind} (h1 : r.val 1 = some (ptgsR l)) (h3 : r.val 3 = some (.int k3 w)) (h4 : r.val 4 = some (.int k4 c)) (hmax : (l.length : Int) ≤ 1010) (hsy : r.sym = sy) (F : List (X × Bool)) :
    LoopsOk (E0.with F r) (oneH 84 (hooks [(2, lLast_D.hook (E0.with F r).facts last_vs)])) := by
  refine loops_all (n := 1) (fun f fn h => h) (by kernel_rfl) fun i hi => ?_
  obtain rfl : i = 0 := by omega
  rw [hooks_hit (show keyOf (loopAt (E0.with F r).P 84 0) = 2 by kernel_rfl)]
  have hw : IntKind.i64.wrap ((l.length : Int) - 1) = (l.length : Int) - 1 := IntWalk.i64_in _ (by omega)
  refine hook_ok (E₀ := E0) (run := lLast_run) (ρ := r) (Inv := lLast_Inv l w c) (μ := lLast_mu) E0_ok lLast_ok (fun F r' h => ?_) (fun _ => ⟨lLast_step h1 h3 h4 hsy hmax, [.int .i64 ((l.length : Int) - 1)], ?_, rfl, l.length, Nat.le_refl _, rfl, by rw [List.drop_length]; rfl⟩)
  · exact bodyRun_ok E0_ok (noL_ok F (h.trans hsy)) fun _ _ => noLoop_ok
  · simp only [last_vs, X.bool, X.den, denL, dX, denSub, denIte, asB, dY, h1, hw]
theorem rLast_cok : rLast_con.Ok Tryz.prog sy := by
  intro r σ w us hsy hρ hpre hrel hins
  obtain ⟨u0, us, rfl, g0, hi⟩ := ins_cons hins
  obtain ⟨u1, us, rfl, g1, hi⟩ := ins_cons hi
  obtain ⟨u2, us, rfl, g2, hi⟩ := ins_cons hi
  obtain ⟨w, k3, rfl, h3⟩ := one_int g1
  obtain ⟨c, k4, rfl, h4⟩ := one_int g2
  obtain ⟨l, h1⟩ := ptgs_at hrel (i := 0) rfl
  rw [hρ] at h1 h3 h4
  have h1 : r.val 1 = some (ptgsR l) := h1
  have hmax : (l.length : Int) ≤ 1010 := by
    have := hpre.1
    simp only [X.bool, X.den, denL, dX, denSub, d_ite2, asB, dY, h1, hsy, sym20, Option.some.injEq, Value.bool.injEq] at this
    exact short_len this
  refine con_of (E := E0) E0_ok E0_glob (sy := sy) (fun F => noL_ok F hsy) (fun F => lLast_H h1 h3 h4 hmax hsy F) (rLast_w r) hρ hpre hrel hins ?_ ?_
  · simp only [rLast_con, rLast_t, yPB_16, yPB_15, yPB_14, yPB_13, yPB_12, yPB_11, yPB_10, yPB_9, yPB_8, yPB_7, yPB_6, yPB_5, yPB_4, yPB_3, yPB_2, yPB_1, yPB_0, AsksL, GTree.asks, FTree.asks, FactsIn, List.append_nil, List.nil_append, List.cons_append, Option.some.injEq, exists_eq', implies_true, and_self, X.bool, X.den, denL, dX, denSub, d_ite2, asB, dY, h1, h3, h4, hsy, sym20, sym40, sym41, sym42, sym43, sym44, sym45, d_ite2]
    try simp
  · simp only [rLast_l, yPB_16, yPB_15, yPB_14, yPB_13, yPB_12, yPB_11, yPB_10, yPB_9, yPB_8, yPB_7, yPB_6, yPB_5, yPB_4, yPB_3, yPB_2, yPB_1, yPB_0, EndsOk, WaysOk, forall_cons, forall_nil, TgtOk, gpair, FactsIn, hold_cons, hold_nil, Option.some.injEq, dZ, X.bool, X.den, denL, dX, denSub, d_ite2, asB, dY, h1, h3, h4, hsy, sym20, sym40, sym41, sym42, sym43, sym44, sym45, d_ite2]
    clear hsy hρ hpre hrel hins hi h1 h3 h4
    cases q : paidB l w c with
    | false =>
      rw [last_none q]
      simp [zeroP_row, d_ite2]
    | true => simp [Ptg.row, d_ite2]
end Go.Proofs.YtpdemfamfmeemacGreat.Zs
