/-
  Contracts of the wind of an hour.
-/
import Derived.Test.YtpjkfjnjbekcaaaGreatDoorConC
import Derived.KernelRfl
set_option linter.unusedSimpArgs false
set_option linter.unusedVariables false
namespace Go.Proofs.YtpjkfjnjbekcaaaGreatDoor.Zs
open Go
set_option linter.unusedSimpArgs false
set_option linter.unusedVariables false

def rat_vs : List X := [.op1 (.wrap .i64) (.op2 .sub (.op1 .len (.var 1)) (.num 1))]

noncomputable def rat_D : LoopD := { N := 100, M := 101, size := sizeOfF 41, reads := [(0, .rows 9 windSch (.var 0) (.var 1) false 26)], pats := [{ slots := [(0, .slx 0 9 (.var 0) (.num 0) (.op1 .len (.var 1)) (.var 2)), (1, .sint .i64 (.var 3)), (4, .ptr 1 0), (6, .sint .i64 (.var 100))], heap := [(1, .cells [.int .i64 0, .int .i64 0, .int .i64 0, .int .i64 0, .int .i64 0, .int .i64 0, .int .i64 0, .int .i64 0, .int .i64 0] 26)] }], exits := [(.exit 0, { slots := [(4, .ptr 1 0)], heap := [(1, .cells [.int .i64 0, .int .i64 0, .int .i64 0, .int .i64 0, .int .i64 0, .int .i64 0, .int .i64 0, .int .i64 0, .int .i64 0] 26)], guard := .op1 .not (.app 22 [.var 1, .var 3]) }), (.ret, { slots := [(4, .ptr 1 0), (5, .sbool (.boo true))], heap := [(1, .cells [.sint .i64 (.app 23 [.var 1, .var 3, .num 0]), .sint .i64 (.app 23 [.var 1, .var 3, .num 1]), .sint .i64 (.app 23 [.var 1, .var 3, .num 2]), .sint .i64 (.app 23 [.var 1, .var 3, .num 3]), .sint .i64 (.app 23 [.var 1, .var 3, .num 4]), .sint .i64 (.app 23 [.var 1, .var 3, .num 5]), .sint .i64 (.app 23 [.var 1, .var 3, .num 6]), .sint .i64 (.app 23 [.var 1, .var 3, .num 7]), .sint .i64 (.app 23 [.var 1, .var 3, .num 8])] 26)], guard := .app 22 [.var 1, .var 3] })], own := [1], pre := [(.app 20 [.var 1], true)] }
noncomputable def rat_run : Env → AF → ASt → Option (List Out) := bodyRun noL 6 (fun _ => noLoop) (loopAt Tryz.prog 41 0)
def rat0_F : List (X × Bool) := [(.op2 .lt (.var 100) (.op1 .len (.var 1)), true)]
noncomputable def rat0_t : FTree := (.fork (.op2 .lt (.var 100) (.num 0)) (.leaf [(.leave 0 [])]) (.fork (.op2 .lt (.var 3) (.cell 2 (.var 1) (.var 100))) (.leaf [(.again 0 [])]) (.fork (.op2 .lt (.cell 3 (.var 1) (.var 100)) (.var 3)) (.leaf [(.again 0 [])]) (.leaf [(.leave 1 [])]))))
noncomputable def rat0_l : List (List (X × Bool) × Option (List (Tgt × Pairs))) := [([((.op2 .lt (.var 100) (.num 0)), true), ((.op2 .lt (.var 100) (.op1 .len (.var 1))), true)], some [((.leave 0 []), [((.op1 .not (.app 22 [(.var 1), (.var 3)])), (.boo true))])]),
  ([((.op2 .lt (.var 3) (.cell 2 (.var 1) (.var 100))), true), ((.op2 .lt (.var 100) (.num 0)), false), ((.op2 .lt (.var 100) (.op1 .len (.var 1))), true)], some [((.again 0 []), [((.var 100), (.op1 (.wrap .i64) (.op2 .sub (.var 100) (.num 1))))])]),
  ([((.op2 .lt (.cell 3 (.var 1) (.var 100)) (.var 3)), true), ((.op2 .lt (.var 3) (.cell 2 (.var 1) (.var 100))), false), ((.op2 .lt (.var 100) (.num 0)), false), ((.op2 .lt (.var 100) (.op1 .len (.var 1))), true)], some [((.again 0 []), [((.var 100), (.op1 (.wrap .i64) (.op2 .sub (.var 100) (.num 1))))])]),
  ([((.op2 .lt (.cell 3 (.var 1) (.var 100)) (.var 3)), false), ((.op2 .lt (.var 3) (.cell 2 (.var 1) (.var 100))), false), ((.op2 .lt (.var 100) (.num 0)), false), ((.op2 .lt (.var 100) (.op1 .len (.var 1))), true)], some [((.leave 1 []), [((.app 23 [(.var 1), (.var 3), (.num 0)]), (.cell 0 (.var 1) (.var 100))), ((.app 23 [(.var 1), (.var 3), (.num 1)]), (.cell 1 (.var 1) (.var 100))), ((.app 23 [(.var 1), (.var 3), (.num 2)]), (.cell 2 (.var 1) (.var 100))), ((.app 23 [(.var 1), (.var 3), (.num 3)]), (.cell 3 (.var 1) (.var 100))), ((.app 23 [(.var 1), (.var 3), (.num 4)]), (.cell 4 (.var 1) (.var 100))), ((.app 23 [(.var 1), (.var 3), (.num 5)]), (.cell 5 (.var 1) (.var 100))), ((.app 23 [(.var 1), (.var 3), (.num 6)]), (.cell 6 (.var 1) (.var 100))), ((.app 23 [(.var 1), (.var 3), (.num 7)]), (.cell 7 (.var 1) (.var 100))), ((.app 23 [(.var 1), (.var 3), (.num 8)]), (.cell 8 (.var 1) (.var 100))), ((.app 22 [(.var 1), (.var 3)]), (.boo true))])])]
theorem rat0_w (r : Rho) : rat_D.ways rat_run E0 r 0 rat0_F rat0_t = some rat0_l := by kernel_rfl
theorem rat_ok : rat_D.ok = true := by kernel_rfl
theorem at_take {l : List Wind} {i : Nat} {p : Wind} (hp : l[i]? = some p) (h : Int) : atR (l.take (i + 1)) h = if covers_ h p = true then some p else atR (l.take i) h := by
  rw [atR, List.take_add_one, hp]
  simp only [Option.toList_some, List.reverse_append, List.reverse_cons, List.reverse_nil, List.nil_append, List.cons_append, List.find?_cons]
  cases covers_ h p <;> rfl
def rat_Inv (l : List Wind) (h : Int) (j : Nat) (vals : List Value) : Prop := j = 0 ∧ ((vals = [.int .i64 (-1)] ∧ atR l h = none) ∨ ∃ i : Nat, i < l.length ∧ vals = [.int .i64 (i : Int)] ∧ atR l h = atR (l.take (i + 1)) h)
def rat_mu (_ : Nat) (vals : List Value) : Nat := (vI (vals.getD 0 default) + 1).toNat
theorem rat_stepA {ρ : Rho} {l : List Wind} {kk : IntKind} {h : Int} (h1 : ρ.val 1 = some (windsR l)) (h3 : ρ.val 3 = some (.int kk h)) (hsy : ρ.sym = sy) (hsh : shortB l = true) (hn : atR l h = none) : StepOk rat_D rat_run E0 ρ (rat_Inv l h) rat_mu 0 [.int .i64 (-1)] := by
  have hN : rat_D.N = 100 := rfl
  have hmax := short_len hsh
  have v1 : (ρ.ext rat_D.N [.int .i64 (-1)]).val 1 = some (windsR l) := by rw [ext_low _ _ _ _ (by rw [hN]; omega)]; exact h1
  have v3 : (ρ.ext rat_D.N [.int .i64 (-1)]).val 3 = some (.int kk h) := by rw [ext_low _ _ _ _ (by rw [hN]; omega)]; exact h3
  have v100 : (ρ.ext rat_D.N [.int .i64 (-1)]).val 100 = some (.int .i64 (-1)) := by rw [ext_high _ _ _ _ (by rw [hN]; omega)]; rfl
  have vs : (ρ.ext rat_D.N [.int .i64 (-1)]).sym = sy := hsy

  have hF : FactsIn (ρ.ext rat_D.N [.int .i64 (-1)]) rat0_F := by
    simp only [rat0_F, FactsIn, X.bool, X.den, denL, d_wrap, d_kind, d_not, d_neg, d_slen, d_add, d_sub, d_mul, d_div, d_mod, d_lt, d_le, d_eq, d_eqb, d_eqs, d_lts, d_cat, d_sat, d_and, d_or, denSub, denIte, asB, winds_len, winds_cell, winds_lsub, v1, v100, Option.some.injEq, Value.bool.injEq, decide_eq_true_eq, and_true]
    omega
  suffices both : AsksL (ρ.ext rat_D.N [.int .i64 (-1)]) (rat0_t.asks rat0_F) ∧ WaysOk rat_D ρ (rat_Inv l h) rat_mu 0 [.int .i64 (-1)] rat0_l from step_of_ways (rat0_w _) hF both.1.ok both.2

  have h9 : ¬ ((0 : Int) ≤ -1) := by omega
  refine ⟨?_, ?_⟩
  · simp only [rat0_t, rat0_F, AsksL, GTree.asks, FTree.asks, FactsIn, List.append_nil, List.nil_append, List.cons_append, Option.some.injEq, exists_eq', implies_true, and_self, X.bool, X.den, denL, d_wrap, d_kind, d_not, d_neg, d_slen, d_add, d_sub, d_mul, d_div, d_mod, d_lt, d_le, d_eq, d_eqb, d_eqs, d_lts, d_cat, d_sat, d_and, d_or, denSub, denIte, asB, winds_len, winds_cell, winds_lsub, v1, v3, v100, vs, sym20, sym22, sym23, hn]
    simp
  · simp only [rat0_l, EndsOk, WaysOk, forall_cons, forall_nil, TgtOk, gpair, FactsIn, hold_cons, hold_nil, Option.some.injEq, Value.bool.injEq, Value.int.injEq, decide_eq_true_eq, decide_eq_false_iff_not, and_true, true_and, and_imp, X.bool, X.den, denL, d_wrap, d_kind, d_not, d_neg, d_slen, d_add, d_sub, d_mul, d_div, d_mod, d_lt, d_le, d_eq, d_eqb, d_eqs, d_lts, d_cat, d_sat, d_and, d_or, denSub, denIte, asB, winds_len, winds_cell, winds_lsub, beq_iff_eq, beq_eq_false_iff_ne, ne_eq, v1, v3, v100, vs, h1, h3, hsy, sym20, sym22, sym23, hn]
    simp
theorem rat_stepB {ρ : Rho} {l : List Wind} {kk : IntKind} {h : Int} (h1 : ρ.val 1 = some (windsR l)) (h3 : ρ.val 3 = some (.int kk h)) (hsy : ρ.sym = sy) (hsh : shortB l = true) {i : Nat} (hi : i < l.length) (hn : atR l h = atR (l.take (i + 1)) h) : StepOk rat_D rat_run E0 ρ (rat_Inv l h) rat_mu 0 [.int .i64 (i : Int)] := by
  have hN : rat_D.N = 100 := rfl
  have hmax := short_len hsh
  have v1 : (ρ.ext rat_D.N [.int .i64 (i : Int)]).val 1 = some (windsR l) := by rw [ext_low _ _ _ _ (by rw [hN]; omega)]; exact h1
  have v3 : (ρ.ext rat_D.N [.int .i64 (i : Int)]).val 3 = some (.int kk h) := by rw [ext_low _ _ _ _ (by rw [hN]; omega)]; exact h3
  have v100 : (ρ.ext rat_D.N [.int .i64 (i : Int)]).val 100 = some (.int .i64 (i : Int)) := by rw [ext_high _ _ _ _ (by rw [hN]; omega)]; rfl
  have vs : (ρ.ext rat_D.N [.int .i64 (i : Int)]).sym = sy := hsy

  have hF : FactsIn (ρ.ext rat_D.N [.int .i64 (i : Int)]) rat0_F := by
    simp only [rat0_F, FactsIn, X.bool, X.den, denL, d_wrap, d_kind, d_not, d_neg, d_slen, d_add, d_sub, d_mul, d_div, d_mod, d_lt, d_le, d_eq, d_eqb, d_eqs, d_lts, d_cat, d_sat, d_and, d_or, denSub, denIte, asB, winds_len, winds_cell, winds_lsub, v1, v100, Option.some.injEq, Value.bool.injEq, decide_eq_true_eq, and_true]
    omega
  suffices both : AsksL (ρ.ext rat_D.N [.int .i64 (i : Int)]) (rat0_t.asks rat0_F) ∧ WaysOk rat_D ρ (rat_Inv l h) rat_mu 0 [.int .i64 (i : Int)] rat0_l from step_of_ways (rat0_w _) hF both.1.ok both.2

  obtain ⟨p, hp⟩ : ∃ p, l[i]? = some p := ⟨l[i], List.getElem?_eq_getElem hi⟩
  rw [at_take hp] at hn
  have go : covers_ h p = false → ∃ vals', ((ρ.ext rat_D.N vals').val 100 = some (.int .i64 (IntKind.i64.wrap ((i : Int) - 1)))) ∧ rat_Inv l h 0 vals' ∧ rat_mu 0 vals' < rat_mu 0 [.int .i64 (i : Int)] := by
    intro hc
    rw [hc] at hn
    have hw : IntKind.i64.wrap ((i : Int) - 1) = (i : Int) - 1 := IntWalk.i64_in _ (by omega)
    refine ⟨[.int .i64 ((i : Int) - 1)], ?_, ⟨rfl, ?_⟩, ?_⟩
    · rw [ext_high _ _ _ _ (by rw [hN]; omega), hw]; rfl
    · rcases Nat.eq_zero_or_pos i with rfl | hpos
      · exact .inl ⟨rfl, by rw [hn]; rfl⟩
      · exact .inr ⟨i - 1, by omega, by rw [show ((i - 1 : Nat) : Int) = (i : Int) - 1 by omega], by rw [show i - 1 + 1 = i by omega]; simpa using hn⟩
    · simp [rat_mu, vI]; try omega
  have out : covers_ h p = true → atR l h = some p := fun hc => by rw [hn, if_pos hc]
  have hc1 : h < p.from_ → covers_ h p = false := fun h => by simp [covers_]; try omega
  have hc2 : p.until_ < h → covers_ h p = false := fun h => by simp [covers_]; try omega
  have hc3 : ¬ h < p.from_ → ¬ p.until_ < h → covers_ h p = true := fun h1 h2 => by simp [covers_]; try omega
  cases hc : covers_ h p
  · rw [hc] at hn
    simp only [Bool.false_eq_true, if_false] at hn
    refine ⟨?_, ?_⟩
    · simp only [rat0_t, rat0_F, AsksL, GTree.asks, FTree.asks, FactsIn, List.append_nil, List.nil_append, List.cons_append, Option.some.injEq, exists_eq', implies_true, and_self, X.bool, X.den, denL, d_wrap, d_kind, d_not, d_neg, d_slen, d_add, d_sub, d_mul, d_div, d_mod, d_lt, d_le, d_eq, d_eqb, d_eqs, d_lts, d_cat, d_sat, d_and, d_or, denSub, denIte, asB, winds_len, winds_cell, winds_lsub, v1, v3, v100, vs, h1, h3, hsy, sym20, sym22, sym23, Int.toNat_natCast, hp, Option.bind_some, wind0, wind1, wind2, wind3, wind4, wind5, wind6, wind7, wind8]
    · simp only [rat0_l, EndsOk, WaysOk, forall_cons, forall_nil, TgtOk, gpair, FactsIn, hold_cons, hold_nil, Option.some.injEq, Value.bool.injEq, Value.int.injEq, decide_eq_true_eq, decide_eq_false_iff_not, and_true, true_and, and_imp, X.bool, X.den, denL, d_wrap, d_kind, d_not, d_neg, d_slen, d_add, d_sub, d_mul, d_div, d_mod, d_lt, d_le, d_eq, d_eqb, d_eqs, d_lts, d_cat, d_sat, d_and, d_or, denSub, denIte, asB, winds_len, winds_cell, winds_lsub, beq_iff_eq, beq_eq_false_iff_ne, ne_eq, v1, v3, v100, vs, h1, h3, hsy, sym20, sym22, sym23, Int.toNat_natCast, hp, Option.bind_some, wind0, wind1, wind2, wind3, wind4, wind5, wind6, wind7, wind8]
      clear v1 v3 v100 vs h1 h3 hsy hF
      (repeat' apply And.intro) <;> intros <;> first
        | (exfalso; omega)
        | (exact go hc)
        | (exfalso; have := hc3 (by assumption) (by assumption); rw [hc] at this; cases this)
  · have ho := out hc
    refine ⟨?_, ?_⟩
    · simp only [rat0_t, rat0_F, AsksL, GTree.asks, FTree.asks, FactsIn, List.append_nil, List.nil_append, List.cons_append, Option.some.injEq, exists_eq', implies_true, and_self, X.bool, X.den, denL, d_wrap, d_kind, d_not, d_neg, d_slen, d_add, d_sub, d_mul, d_div, d_mod, d_lt, d_le, d_eq, d_eqb, d_eqs, d_lts, d_cat, d_sat, d_and, d_or, denSub, denIte, asB, winds_len, winds_cell, winds_lsub, v1, v3, v100, vs, h1, h3, hsy, sym20, sym22, sym23, Int.toNat_natCast, hp, Option.bind_some, wind0, wind1, wind2, wind3, wind4, wind5, wind6, wind7, wind8, ho, Option.getD_some, Option.isSome_some, Int.toNat_zero, Int.reduceToNat]
    · simp only [rat0_l, EndsOk, WaysOk, forall_cons, forall_nil, TgtOk, gpair, FactsIn, hold_cons, hold_nil, Option.some.injEq, Value.bool.injEq, Value.int.injEq, decide_eq_true_eq, decide_eq_false_iff_not, and_true, true_and, and_imp, X.bool, X.den, denL, d_wrap, d_kind, d_not, d_neg, d_slen, d_add, d_sub, d_mul, d_div, d_mod, d_lt, d_le, d_eq, d_eqb, d_eqs, d_lts, d_cat, d_sat, d_and, d_or, denSub, denIte, asB, winds_len, winds_cell, winds_lsub, beq_iff_eq, beq_eq_false_iff_ne, ne_eq, v1, v3, v100, vs, h1, h3, hsy, sym20, sym22, sym23, Int.toNat_natCast, hp, Option.bind_some, wind0, wind1, wind2, wind3, wind4, wind5, wind6, wind7, wind8, ho, Option.getD_some, Option.isSome_some, Int.toNat_zero, Int.reduceToNat]
      clear v1 v3 v100 vs h1 h3 hsy hF
      (repeat' apply And.intro) <;> intros <;> first
        | trivial
        | (exfalso; omega)
        | (exfalso; have := hc1 (by assumption); rw [hc] at this; cases this)
        | (exfalso; have := hc2 (by assumption); rw [hc] at this; cases this)
theorem rat_step {ρ : Rho} {l : List Wind} {kk : IntKind} {h : Int} (h1 : ρ.val 1 = some (windsR l)) (h3 : ρ.val 3 = some (.int kk h)) (hsy : ρ.sym = sy) (hsh : shortB l = true) (j : Nat) (vals : List Value) (hI : rat_Inv l h j vals) : StepOk rat_D rat_run E0 ρ (rat_Inv l h) rat_mu j vals := by
  obtain ⟨rfl, ⟨rfl, hn⟩ | ⟨i, hi, rfl, hn⟩⟩ := hI
  · exact rat_stepA h1 h3 hsy hsh hn
  · exact rat_stepB h1 h3 hsy hsh hi hn
theorem rat_H {r : Rho} {l : List Wind} {kk : IntKind} {h : Int} (h1 : r.val 1 = some (windsR l)) (h3 : r.val 3 = some (.int kk h)) (hsy : r.sym = sy) (hsh : shortB l = true) (F : List (X × Bool)) :
    LoopsOk (E0.with F r) (oneH 41 (hooks [(2, rat_D.hook (E0.with F r).facts rat_vs)])) := by
  refine loops_all (n := 1) (fun f fn h => h) (by kernel_rfl) fun i hi => ?_
  obtain rfl : i = 0 := by omega
  rw [hooks_hit (show keyOf (loopAt (E0.with F r).P 41 0) = 2 by kernel_rfl)]
  have hmax := short_len hsh
  refine hook_ok (E₀ := E0) (run := rat_run) (ρ := r) (Inv := rat_Inv l h) (μ := rat_mu) E0_ok rat_ok (fun F r' h => ?_) (fun _ => ⟨rat_step h1 h3 hsy hsh, [.int .i64 (IntKind.i64.wrap ((l.length : Int) - 1))], ?_, rfl, ?_⟩)
  · exact bodyRun_ok E0_ok (noL_ok F (h.trans hsy)) fun _ _ => noLoop_ok
  · simp only [rat_vs, X.bool, X.den, denL, d_wrap, d_kind, d_not, d_neg, d_slen, d_add, d_sub, d_mul, d_div, d_mod, d_lt, d_le, d_eq, d_eqb, d_eqs, d_lts, d_cat, d_sat, d_and, d_or, denSub, denIte, asB, winds_len, winds_cell, winds_lsub, h1]
  · have hw : IntKind.i64.wrap ((l.length : Int) - 1) = (l.length : Int) - 1 := IntWalk.i64_in _ (by omega)
    rw [hw]
    rcases Nat.eq_zero_or_pos l.length with e | e
    · obtain rfl := List.eq_nil_of_length_eq_zero e
      exact .inl ⟨rfl, rfl⟩
    · exact .inr ⟨l.length - 1, by omega, by rw [show ((l.length - 1 : Nat) : Int) = (l.length : Int) - 1 by omega], by rw [show l.length - 1 + 1 = l.length by omega, List.take_length]⟩

noncomputable def rat_con : Con := { f := 41, args := [windsArg 0 0, .one (.int .i64 3)], N := 1, M := 1, pre := [(.app 20 [.var 1], true)], out := .tuple [.agg [.sint .i64 (.app 23 [.var 1, .var 3, .num 0]), .sint .i64 (.app 23 [.var 1, .var 3, .num 1]), .sint .i64 (.app 23 [.var 1, .var 3, .num 2]), .sint .i64 (.app 23 [.var 1, .var 3, .num 3]), .sint .i64 (.app 23 [.var 1, .var 3, .num 4]), .sint .i64 (.app 23 [.var 1, .var 3, .num 5]), .sint .i64 (.app 23 [.var 1, .var 3, .num 6]), .sint .i64 (.app 23 [.var 1, .var 3, .num 7]), .sint .i64 (.app 23 [.var 1, .var 3, .num 8])], .sbool (.app 22 [.var 1, .var 3])], news := [] }
noncomputable def rat_call : Env → CallL := fun E => acallAll E (evH E (noL E) ((fun E => oneH 41 (hooks [(2, rat_D.hook E.facts rat_vs)])) E) 6)
noncomputable def rat_t : GTree := (.fork (.app 22 [(.var 1), (.var 3)]) (.leaf [[]]) (.leaf [[]]))
noncomputable def rat_l : List (List (X × Bool) × Option Pairs) := [([((.app 22 [(.var 1), (.var 3)]), true), ((.app 20 [(.var 1)]), true)], some [((.app 23 [(.var 1), (.var 3), (.num 0)]), (.app 23 [(.var 1), (.var 3), (.num 0)])), ((.app 23 [(.var 1), (.var 3), (.num 1)]), (.app 23 [(.var 1), (.var 3), (.num 1)])), ((.app 23 [(.var 1), (.var 3), (.num 2)]), (.app 23 [(.var 1), (.var 3), (.num 2)])), ((.app 23 [(.var 1), (.var 3), (.num 3)]), (.app 23 [(.var 1), (.var 3), (.num 3)])), ((.app 23 [(.var 1), (.var 3), (.num 4)]), (.app 23 [(.var 1), (.var 3), (.num 4)])), ((.app 23 [(.var 1), (.var 3), (.num 5)]), (.app 23 [(.var 1), (.var 3), (.num 5)])), ((.app 23 [(.var 1), (.var 3), (.num 6)]), (.app 23 [(.var 1), (.var 3), (.num 6)])), ((.app 23 [(.var 1), (.var 3), (.num 7)]), (.app 23 [(.var 1), (.var 3), (.num 7)])), ((.app 23 [(.var 1), (.var 3), (.num 8)]), (.app 23 [(.var 1), (.var 3), (.num 8)])), ((.app 22 [(.var 1), (.var 3)]), (.boo true))]),
  ([((.app 22 [(.var 1), (.var 3)]), false), ((.app 20 [(.var 1)]), true)], some [((.app 23 [(.var 1), (.var 3), (.num 0)]), (.num 0)), ((.app 23 [(.var 1), (.var 3), (.num 1)]), (.num 0)), ((.app 23 [(.var 1), (.var 3), (.num 2)]), (.num 0)), ((.app 23 [(.var 1), (.var 3), (.num 3)]), (.num 0)), ((.app 23 [(.var 1), (.var 3), (.num 4)]), (.num 0)), ((.app 23 [(.var 1), (.var 3), (.num 5)]), (.num 0)), ((.app 23 [(.var 1), (.var 3), (.num 6)]), (.num 0)), ((.app 23 [(.var 1), (.var 3), (.num 7)]), (.num 0)), ((.app 23 [(.var 1), (.var 3), (.num 8)]), (.num 0)), ((.app 22 [(.var 1), (.var 3)]), (.boo false))])]
theorem rat_w (r : Rho) : rat_con.fn.ways rat_call E0 r rat_con.pre rat_t = some rat_l := by kernel_rfl
theorem rat_cok : rat_con.Ok Tryz.prog sy := by
  intro r σ w us hsy hρ hpre hrel hins
  obtain ⟨u0, us, rfl, g0, hi⟩ := ins_cons hins
  obtain ⟨u1, us, rfl, g1, hi⟩ := ins_cons hi
  obtain ⟨h, kk, rfl, h3⟩ := one_int g1
  obtain ⟨l, h1⟩ := winds_at hrel (i := 0) rfl
  rw [hρ] at h1 h3
  have h1 : r.val 1 = some (windsR l) := h1
  have hsh : shortB l = true := by
    have := hpre.1
    simp only [X.bool, X.den, denL, d_wrap, d_kind, d_not, d_neg, d_slen, d_add, d_sub, d_mul, d_div, d_mod, d_lt, d_le, d_eq, d_eqb, d_eqs, d_lts, d_cat, d_sat, d_and, d_or, denSub, denIte, asB, winds_len, winds_cell, winds_lsub, h1, hsy, sym20, Option.some.injEq, Value.bool.injEq] at this
    exact this
  refine con_of (E := E0) E0_ok E0_glob (sy := sy) (fun F => noL_ok F hsy) (fun F => rat_H h1 h3 hsy hsh F) (rat_w r) hρ hpre hrel hins ?_ ?_
  · simp only [rat_con, rat_t, AsksL, GTree.asks, FTree.asks, FactsIn, List.append_nil, List.nil_append, List.cons_append, Option.some.injEq, exists_eq', implies_true, and_self, X.bool, X.den, denL, d_wrap, d_kind, d_not, d_neg, d_slen, d_add, d_sub, d_mul, d_div, d_mod, d_lt, d_le, d_eq, d_eqb, d_eqs, d_lts, d_cat, d_sat, d_and, d_or, denSub, denIte, asB, winds_len, winds_cell, winds_lsub, h1, h3, hsy, sym20, sym22, sym23]
    try (cases atR l h <;> simp [zeroW, Wind.row])
  · simp only [rat_l, EndsOk, WaysOk, forall_cons, forall_nil, TgtOk, gpair, FactsIn, hold_cons, hold_nil, Option.some.injEq, Value.bool.injEq, Value.int.injEq, decide_eq_true_eq, decide_eq_false_iff_not, and_true, true_and, and_imp, X.bool, X.den, denL, d_wrap, d_kind, d_not, d_neg, d_slen, d_add, d_sub, d_mul, d_div, d_mod, d_lt, d_le, d_eq, d_eqb, d_eqs, d_lts, d_cat, d_sat, d_and, d_or, denSub, denIte, asB, winds_len, winds_cell, winds_lsub, beq_iff_eq, beq_eq_false_iff_ne, ne_eq, h1, h3, hsy, sym20, sym22, sym23]
    cases atR l h <;> simp [zeroW, Wind.row]
end Go.Proofs.YtpjkfjnjbekcaaaGreatDoor.Zs

namespace Go.Proofs.YtpjkfjnjbekcaaaGreatDoor.Zs
open Go
set_option linter.unusedSimpArgs false
set_option linter.unusedVariables false

noncomputable def LC4 : Env → CallE := libs [cLib cCheck_con, cLib cCountNo_con, cLib cCountYes_con, cLib cwithin_con, cLib errIf_con]
theorem LC4_ok (F : List (X × Bool)) {r : Rho} (h : r.sym = sy) : CallsOk (E0.with F r) (LC4 (E0.with F r)) := libs_ok fun c hc => by
  simp only [List.mem_cons, List.not_mem_nil, or_false] at hc
  rcases hc with rfl | rfl | rfl | rfl | rfl
  · exact lib_ok (E := E0) cCheck_cok F h
  · exact lib_ok (E := E0) cCountNo_cok F h
  · exact lib_ok (E := E0) cCountYes_cok F h
  · exact lib_ok (E := E0) cwithin_cok F h
  · exact lib_ok (E := E0) errIf_cok F h
noncomputable def LC5 : Env → CallE := libs [cLib cwithin_con]
theorem LC5_ok (F : List (X × Bool)) {r : Rho} (h : r.sym = sy) : CallsOk (E0.with F r) (LC5 (E0.with F r)) := libs_ok fun c hc => by
  simp only [List.mem_cons, List.not_mem_nil, or_false] at hc
  subst hc; exact lib_ok (E := E0) cwithin_cok F h
def bw_vs : List X := [.op1 (.wrap .i64) (.op2 .sub (.op1 .len (.app 21 [.var 1, .var 3])) (.num 1))]

noncomputable def bw_D : LoopD := { N := 100, M := 101, size := sizeOfF 86, reads := [(3, .rows 9 windSch (.num 0) (.app 21 [.var 1, .var 3]) true 26), (5, .cells [.sint .i64 (.var 4)] 3), (8, .cells [.slo 3 9 (.op1 .len (.app 21 [.var 1, .var 3]))] 22)], pats := [{ slots := [(0, .yield 10), (1, .ptr 8 0), (3, .sint .i64 (.var 100))], heap := [(6, .cells [.int .i64 0, .int .i64 0, .int .i64 0, .int .i64 0, .int .i64 0, .int .i64 0, .int .i64 0, .int .i64 0, .int .i64 0] 26), (7, .cells [.bool false] 4), (10, .loop { state := .ready, pending := none, tmps := buildT [(2, .ptr 5 0), (3, .ptr 6 0), (4, .ptr 7 0)], size := 19, src := .at_ 65 3, defers := 9 })] }], exits := [(.exit 0, { slots := [], heap := [(6, .cells [.int .i64 0, .int .i64 0, .int .i64 0, .int .i64 0, .int .i64 0, .int .i64 0, .int .i64 0, .int .i64 0, .int .i64 0] 26), (7, .cells [.bool false] 4), (10, .loop { state := .ready, pending := none, tmps := buildT [(2, .ptr 5 0), (3, .ptr 6 0), (4, .ptr 7 0)], size := 19, src := .at_ 65 3, defers := 9 })], guard := .op1 .not (.app 22 [.app 21 [.var 1, .var 3], .var 4]) }), (.ret, { slots := [], heap := [(6, .cells [.sint .i64 (.app 23 [.app 21 [.var 1, .var 3], .var 4, .num 0]), .sint .i64 (.app 23 [.app 21 [.var 1, .var 3], .var 4, .num 1]), .sint .i64 (.app 23 [.app 21 [.var 1, .var 3], .var 4, .num 2]), .sint .i64 (.app 23 [.app 21 [.var 1, .var 3], .var 4, .num 3]), .sint .i64 (.app 23 [.app 21 [.var 1, .var 3], .var 4, .num 4]), .sint .i64 (.app 23 [.app 21 [.var 1, .var 3], .var 4, .num 5]), .sint .i64 (.app 23 [.app 21 [.var 1, .var 3], .var 4, .num 6]), .sint .i64 (.app 23 [.app 21 [.var 1, .var 3], .var 4, .num 7]), .sint .i64 (.app 23 [.app 21 [.var 1, .var 3], .var 4, .num 8])] 26), (7, .cells [.bool true] 4), (10, .loop { state := .done, pending := some .ret, tmps := buildT [(2, .ptr 5 0), (3, .ptr 6 0), (4, .ptr 7 0)], size := 19, src := .at_ 65 3, defers := 9 })], guard := .app 22 [.app 21 [.var 1, .var 3], .var 4] })], own := [6, 7, 10], pre := [(.app 20 [.var 1], true)] }
noncomputable def bw_run : Env → AF → ASt → Option (List Out) := bodyRun LC5 8 (fun _ => noLoop) (loopAt Tryz.prog 86 0)
def bw0_F : List (X × Bool) := [(.op2 .lt (.var 100) (.op1 .len (.app 21 [.var 1, .var 3])), true)]
noncomputable def bw0_t : FTree := (.fork (.op2 .lt (.var 100) (.num 0)) (.leaf [(.leave 0 [])]) (.fork (.app 10 [(.var 4), (.cell 2 (.app 21 [(.var 1), (.var 3)]) (.var 100)), (.cell 3 (.app 21 [(.var 1), (.var 3)]) (.var 100))]) (.leaf [(.leave 1 [])]) (.leaf [(.again 0 [])])))
noncomputable def bw0_l : List (List (X × Bool) × Option (List (Tgt × Pairs))) := [([((.op2 .lt (.var 100) (.num 0)), true), ((.op2 .lt (.var 100) (.op1 .len (.app 21 [(.var 1), (.var 3)]))), true)], some [((.leave 0 []), [((.op1 .not (.app 22 [(.app 21 [(.var 1), (.var 3)]), (.var 4)])), (.boo true))])]),
  ([((.app 10 [(.var 4), (.cell 2 (.app 21 [(.var 1), (.var 3)]) (.var 100)), (.cell 3 (.app 21 [(.var 1), (.var 3)]) (.var 100))]), true), ((.op2 .lt (.var 100) (.num 0)), false), ((.op2 .lt (.var 100) (.op1 .len (.app 21 [(.var 1), (.var 3)]))), true)], some [((.leave 1 []), [((.app 23 [(.app 21 [(.var 1), (.var 3)]), (.var 4), (.num 0)]), (.cell 0 (.app 21 [(.var 1), (.var 3)]) (.var 100))), ((.app 23 [(.app 21 [(.var 1), (.var 3)]), (.var 4), (.num 1)]), (.cell 1 (.app 21 [(.var 1), (.var 3)]) (.var 100))), ((.app 23 [(.app 21 [(.var 1), (.var 3)]), (.var 4), (.num 2)]), (.cell 2 (.app 21 [(.var 1), (.var 3)]) (.var 100))), ((.app 23 [(.app 21 [(.var 1), (.var 3)]), (.var 4), (.num 3)]), (.cell 3 (.app 21 [(.var 1), (.var 3)]) (.var 100))), ((.app 23 [(.app 21 [(.var 1), (.var 3)]), (.var 4), (.num 4)]), (.cell 4 (.app 21 [(.var 1), (.var 3)]) (.var 100))), ((.app 23 [(.app 21 [(.var 1), (.var 3)]), (.var 4), (.num 5)]), (.cell 5 (.app 21 [(.var 1), (.var 3)]) (.var 100))), ((.app 23 [(.app 21 [(.var 1), (.var 3)]), (.var 4), (.num 6)]), (.cell 6 (.app 21 [(.var 1), (.var 3)]) (.var 100))), ((.app 23 [(.app 21 [(.var 1), (.var 3)]), (.var 4), (.num 7)]), (.cell 7 (.app 21 [(.var 1), (.var 3)]) (.var 100))), ((.app 23 [(.app 21 [(.var 1), (.var 3)]), (.var 4), (.num 8)]), (.cell 8 (.app 21 [(.var 1), (.var 3)]) (.var 100))), ((.app 22 [(.app 21 [(.var 1), (.var 3)]), (.var 4)]), (.boo true))])]),
  ([((.app 10 [(.var 4), (.cell 2 (.app 21 [(.var 1), (.var 3)]) (.var 100)), (.cell 3 (.app 21 [(.var 1), (.var 3)]) (.var 100))]), false), ((.op2 .lt (.var 100) (.num 0)), false), ((.op2 .lt (.var 100) (.op1 .len (.app 21 [(.var 1), (.var 3)]))), true)], some [((.again 0 []), [((.var 100), (.op1 (.wrap .i64) (.op2 .sub (.var 100) (.num 1))))])])]
theorem bw0_w (r : Rho) : bw_D.ways bw_run E0 r 0 bw0_F bw0_t = some bw0_l := by kernel_rfl
theorem bw_ok : bw_D.ok = true := by kernel_rfl
theorem count_short {l : List Wind} (h : shortB l = true) (known : Int) : shortB (countR l known) = true := by
  have := short_len h
  have h2 : (countR l known).length ≤ l.length := List.length_filter_le _ _
  exact len_short (by omega)
def bw_Inv (c : List Wind) (h : Int) (j : Nat) (vals : List Value) : Prop := j = 0 ∧ ((vals = [.int .i64 (-1)] ∧ atR c h = none) ∨ ∃ i : Nat, i < c.length ∧ vals = [.int .i64 (i : Int)] ∧ atR c h = atR (c.take (i + 1)) h)
def bw_mu (_ : Nat) (vals : List Value) : Nat := (vI (vals.getD 0 default) + 1).toNat
theorem bw_stepA {ρ : Rho} {l : List Wind} {kk kh : IntKind} {known h : Int} (h1 : ρ.val 1 = some (windsR l)) (h3 : ρ.val 3 = some (.int kk known)) (h4 : ρ.val 4 = some (.int kh h)) (hsy : ρ.sym = sy) (hsh : shortB l = true) (hn : atR (countR l known) h = none) : StepOk bw_D bw_run E0 ρ (bw_Inv (countR l known) h) bw_mu 0 [.int .i64 (-1)] := by
  have hN : bw_D.N = 100 := rfl
  have hmax := short_len (count_short hsh known)
  have v1 : (ρ.ext bw_D.N [.int .i64 (-1)]).val 1 = some (windsR l) := by rw [ext_low _ _ _ _ (by rw [hN]; omega)]; exact h1
  have v3 : (ρ.ext bw_D.N [.int .i64 (-1)]).val 3 = some (.int kk known) := by rw [ext_low _ _ _ _ (by rw [hN]; omega)]; exact h3
  have v4 : (ρ.ext bw_D.N [.int .i64 (-1)]).val 4 = some (.int kh h) := by rw [ext_low _ _ _ _ (by rw [hN]; omega)]; exact h4
  have v100 : (ρ.ext bw_D.N [.int .i64 (-1)]).val 100 = some (.int .i64 (-1)) := by rw [ext_high _ _ _ _ (by rw [hN]; omega)]; rfl
  have vs : (ρ.ext bw_D.N [.int .i64 (-1)]).sym = sy := hsy

  have hF : FactsIn (ρ.ext bw_D.N [.int .i64 (-1)]) bw0_F := by
    simp only [bw0_F, FactsIn, X.bool, X.den, denL, d_wrap, d_kind, d_not, d_neg, d_slen, d_add, d_sub, d_mul, d_div, d_mod, d_lt, d_le, d_eq, d_eqb, d_eqs, d_lts, d_cat, d_sat, d_and, d_or, denSub, denIte, asB, winds_len, winds_cell, winds_lsub, v1, v3, v100, vs, sym21, Option.some.injEq, Value.bool.injEq, decide_eq_true_eq, and_true]
    omega
  suffices both : AsksL (ρ.ext bw_D.N [.int .i64 (-1)]) (bw0_t.asks bw0_F) ∧ WaysOk bw_D ρ (bw_Inv (countR l known) h) bw_mu 0 [.int .i64 (-1)] bw0_l from step_of_ways (bw0_w _) hF both.1.ok both.2

  refine ⟨?_, ?_⟩
  · simp only [bw0_t, bw0_F, AsksL, GTree.asks, FTree.asks, FactsIn, List.append_nil, List.nil_append, List.cons_append, Option.some.injEq, exists_eq', implies_true, and_self, X.bool, X.den, denL, d_wrap, d_kind, d_not, d_neg, d_slen, d_add, d_sub, d_mul, d_div, d_mod, d_lt, d_le, d_eq, d_eqb, d_eqs, d_lts, d_cat, d_sat, d_and, d_or, denSub, denIte, asB, winds_len, winds_cell, winds_lsub, v1, v3, v4, v100, vs, sym6, sym10, sym20, sym21, sym22, sym23, hn]
    try simp
  · simp only [bw0_l, EndsOk, WaysOk, forall_cons, forall_nil, TgtOk, gpair, FactsIn, hold_cons, hold_nil, Option.some.injEq, Value.bool.injEq, Value.int.injEq, decide_eq_true_eq, decide_eq_false_iff_not, and_true, true_and, and_imp, X.bool, X.den, denL, d_wrap, d_kind, d_not, d_neg, d_slen, d_add, d_sub, d_mul, d_div, d_mod, d_lt, d_le, d_eq, d_eqb, d_eqs, d_lts, d_cat, d_sat, d_and, d_or, denSub, denIte, asB, winds_len, winds_cell, winds_lsub, beq_iff_eq, beq_eq_false_iff_ne, ne_eq, v1, v3, v4, v100, vs, h1, h3, h4, hsy, sym6, sym10, sym20, sym21, sym22, sym23, hn]
    try simp
theorem bw_stepB {ρ : Rho} {l : List Wind} {kk kh : IntKind} {known h : Int} (h1 : ρ.val 1 = some (windsR l)) (h3 : ρ.val 3 = some (.int kk known)) (h4 : ρ.val 4 = some (.int kh h)) (hsy : ρ.sym = sy) (hsh : shortB l = true) {i : Nat} (hi : i < (countR l known).length) (hn : atR (countR l known) h = atR ((countR l known).take (i + 1)) h) : StepOk bw_D bw_run E0 ρ (bw_Inv (countR l known) h) bw_mu 0 [.int .i64 (i : Int)] := by
  have hN : bw_D.N = 100 := rfl
  have hmax := short_len (count_short hsh known)
  have v1 : (ρ.ext bw_D.N [.int .i64 (i : Int)]).val 1 = some (windsR l) := by rw [ext_low _ _ _ _ (by rw [hN]; omega)]; exact h1
  have v3 : (ρ.ext bw_D.N [.int .i64 (i : Int)]).val 3 = some (.int kk known) := by rw [ext_low _ _ _ _ (by rw [hN]; omega)]; exact h3
  have v4 : (ρ.ext bw_D.N [.int .i64 (i : Int)]).val 4 = some (.int kh h) := by rw [ext_low _ _ _ _ (by rw [hN]; omega)]; exact h4
  have v100 : (ρ.ext bw_D.N [.int .i64 (i : Int)]).val 100 = some (.int .i64 (i : Int)) := by rw [ext_high _ _ _ _ (by rw [hN]; omega)]; rfl
  have vs : (ρ.ext bw_D.N [.int .i64 (i : Int)]).sym = sy := hsy

  have hF : FactsIn (ρ.ext bw_D.N [.int .i64 (i : Int)]) bw0_F := by
    simp only [bw0_F, FactsIn, X.bool, X.den, denL, d_wrap, d_kind, d_not, d_neg, d_slen, d_add, d_sub, d_mul, d_div, d_mod, d_lt, d_le, d_eq, d_eqb, d_eqs, d_lts, d_cat, d_sat, d_and, d_or, denSub, denIte, asB, winds_len, winds_cell, winds_lsub, v1, v3, v100, vs, sym21, Option.some.injEq, Value.bool.injEq, decide_eq_true_eq, and_true]
    omega
  suffices both : AsksL (ρ.ext bw_D.N [.int .i64 (i : Int)]) (bw0_t.asks bw0_F) ∧ WaysOk bw_D ρ (bw_Inv (countR l known) h) bw_mu 0 [.int .i64 (i : Int)] bw0_l from step_of_ways (bw0_w _) hF both.1.ok both.2

  obtain ⟨p, hp⟩ : ∃ p, (countR l known)[i]? = some p := ⟨(countR l known)[i], List.getElem?_eq_getElem hi⟩
  rw [at_take hp] at hn
  have go : covers_ h p = false → ∃ vals', ((ρ.ext bw_D.N vals').val 100 = some (.int .i64 (IntKind.i64.wrap ((i : Int) - 1)))) ∧ bw_Inv (countR l known) h 0 vals' ∧ bw_mu 0 vals' < bw_mu 0 [.int .i64 (i : Int)] := by
    intro hc
    rw [hc] at hn
    have hw : IntKind.i64.wrap ((i : Int) - 1) = (i : Int) - 1 := IntWalk.i64_in _ (by omega)
    refine ⟨[.int .i64 ((i : Int) - 1)], ?_, ⟨rfl, ?_⟩, ?_⟩
    · rw [ext_high _ _ _ _ (by rw [hN]; omega), hw]; rfl
    · rcases Nat.eq_zero_or_pos i with rfl | hpos
      · exact .inl ⟨rfl, by rw [hn]; rfl⟩
      · exact .inr ⟨i - 1, by omega, by rw [show ((i - 1 : Nat) : Int) = (i : Int) - 1 by omega], by rw [show i - 1 + 1 = i by omega]; simpa using hn⟩
    · simp [bw_mu, vI]; try omega
  have hcw : withinB h p.from_ p.until_ = covers_ h p := rfl
  cases hc : covers_ h p
  · have hg := go hc
    clear go
    refine ⟨?_, ?_⟩
    · simp only [bw0_t, bw0_F, AsksL, GTree.asks, FTree.asks, FactsIn, List.append_nil, List.nil_append, List.cons_append, Option.some.injEq, exists_eq', implies_true, and_self, X.bool, X.den, denL, d_wrap, d_kind, d_not, d_neg, d_slen, d_add, d_sub, d_mul, d_div, d_mod, d_lt, d_le, d_eq, d_eqb, d_eqs, d_lts, d_cat, d_sat, d_and, d_or, denSub, denIte, asB, winds_len, winds_cell, winds_lsub, v1, v3, v4, v100, vs, h1, h3, h4, hsy, sym6, sym10, sym20, sym21, sym22, sym23, Int.toNat_natCast, hp, Option.bind_some, wind0, wind1, wind2, wind3, wind4, wind5, wind6, wind7, wind8, hcw, hc]
      try simp
    · simp only [bw0_l, EndsOk, WaysOk, forall_cons, forall_nil, TgtOk, gpair, FactsIn, hold_cons, hold_nil, Option.some.injEq, Value.bool.injEq, Value.int.injEq, decide_eq_true_eq, decide_eq_false_iff_not, and_true, true_and, and_imp, X.bool, X.den, denL, d_wrap, d_kind, d_not, d_neg, d_slen, d_add, d_sub, d_mul, d_div, d_mod, d_lt, d_le, d_eq, d_eqb, d_eqs, d_lts, d_cat, d_sat, d_and, d_or, denSub, denIte, asB, winds_len, winds_cell, winds_lsub, beq_iff_eq, beq_eq_false_iff_ne, ne_eq, v1, v3, v4, v100, vs, h1, h3, h4, hsy, sym6, sym10, sym20, sym21, sym22, sym23, Int.toNat_natCast, hp, Option.bind_some, wind0, wind1, wind2, wind3, wind4, wind5, wind6, wind7, wind8, hcw, hc]
      clear v1 v3 v4 v100 vs h1 h3 h4 hsy hF
      (repeat' apply And.intro) <;> intros <;> first
        | (exfalso; omega)
        | (exact hg)
        | (exfalso; simp_all; done)
  · have ho : atR (countR l known) h = some p := by rw [hn, if_pos hc]
    refine ⟨?_, ?_⟩
    · simp only [bw0_t, bw0_F, AsksL, GTree.asks, FTree.asks, FactsIn, List.append_nil, List.nil_append, List.cons_append, Option.some.injEq, exists_eq', implies_true, and_self, X.bool, X.den, denL, d_wrap, d_kind, d_not, d_neg, d_slen, d_add, d_sub, d_mul, d_div, d_mod, d_lt, d_le, d_eq, d_eqb, d_eqs, d_lts, d_cat, d_sat, d_and, d_or, denSub, denIte, asB, winds_len, winds_cell, winds_lsub, v1, v3, v4, v100, vs, h1, h3, h4, hsy, sym6, sym10, sym20, sym21, sym22, sym23, Int.toNat_natCast, hp, Option.bind_some, wind0, wind1, wind2, wind3, wind4, wind5, wind6, wind7, wind8, hcw, hc, ho, Option.getD_some, Option.isSome_some, Int.toNat_zero, Int.reduceToNat]
      try simp
    · simp only [bw0_l, EndsOk, WaysOk, forall_cons, forall_nil, TgtOk, gpair, FactsIn, hold_cons, hold_nil, Option.some.injEq, Value.bool.injEq, Value.int.injEq, decide_eq_true_eq, decide_eq_false_iff_not, and_true, true_and, and_imp, X.bool, X.den, denL, d_wrap, d_kind, d_not, d_neg, d_slen, d_add, d_sub, d_mul, d_div, d_mod, d_lt, d_le, d_eq, d_eqb, d_eqs, d_lts, d_cat, d_sat, d_and, d_or, denSub, denIte, asB, winds_len, winds_cell, winds_lsub, beq_iff_eq, beq_eq_false_iff_ne, ne_eq, v1, v3, v4, v100, vs, h1, h3, h4, hsy, sym6, sym10, sym20, sym21, sym22, sym23, Int.toNat_natCast, hp, Option.bind_some, wind0, wind1, wind2, wind3, wind4, wind5, wind6, wind7, wind8, hcw, hc, ho, Option.getD_some, Option.isSome_some, Int.toNat_zero, Int.reduceToNat]
      clear v1 v3 v4 v100 vs h1 h3 h4 hsy hF
      (repeat' apply And.intro) <;> intros <;> first
        | trivial
        | (exfalso; omega)
        | (exfalso; simp_all; done)
theorem bw_step {ρ : Rho} {l : List Wind} {kk kh : IntKind} {known h : Int} (h1 : ρ.val 1 = some (windsR l)) (h3 : ρ.val 3 = some (.int kk known)) (h4 : ρ.val 4 = some (.int kh h)) (hsy : ρ.sym = sy) (hsh : shortB l = true) (j : Nat) (vals : List Value) (hI : bw_Inv (countR l known) h j vals) : StepOk bw_D bw_run E0 ρ (bw_Inv (countR l known) h) bw_mu j vals := by
  obtain ⟨rfl, ⟨rfl, hn⟩ | ⟨i, hi, rfl, hn⟩⟩ := hI
  · exact bw_stepA h1 h3 h4 hsy hsh hn
  · exact bw_stepB h1 h3 h4 hsy hsh hi hn
theorem bw_H {r : Rho} {l : List Wind} {kk kh : IntKind} {known h : Int} (h1 : r.val 1 = some (windsR l)) (h3 : r.val 3 = some (.int kk known)) (h4 : r.val 4 = some (.int kh h)) (hsy : r.sym = sy) (hsh : shortB l = true) (F : List (X × Bool)) :
    LoopsOk (E0.with F r) (oneH 86 (hooks [(1, bw_D.hook (E0.with F r).facts bw_vs)])) := by
  refine loops_all (n := 1) (fun f fn h => h) (by kernel_rfl) fun i hi => ?_
  obtain rfl : i = 0 := by omega
  rw [hooks_hit (show keyOf (loopAt (E0.with F r).P 86 0) = 1 by kernel_rfl)]
  have hmax := short_len (count_short hsh known)
  refine hook_ok (E₀ := E0) (run := bw_run) (ρ := r) (Inv := bw_Inv (countR l known) h) (μ := bw_mu) E0_ok bw_ok (fun F r' h => ?_) (fun _ => ⟨bw_step h1 h3 h4 hsy hsh, [.int .i64 (IntKind.i64.wrap (((countR l known).length : Int) - 1))], ?_, rfl, ?_⟩)
  · exact bodyRun_ok E0_ok (LC5_ok F (h.trans hsy)) fun _ _ => noLoop_ok
  · simp only [bw_vs, X.bool, X.den, denL, d_wrap, d_kind, d_not, d_neg, d_slen, d_add, d_sub, d_mul, d_div, d_mod, d_lt, d_le, d_eq, d_eqb, d_eqs, d_lts, d_cat, d_sat, d_and, d_or, denSub, denIte, asB, winds_len, winds_cell, winds_lsub, h1, h3, hsy, sym21]
  · have hw : IntKind.i64.wrap (((countR l known).length : Int) - 1) = ((countR l known).length : Int) - 1 := IntWalk.i64_in _ (by omega)
    rw [hw]
    rcases Nat.eq_zero_or_pos (countR l known).length with e | e
    · have e' := List.eq_nil_of_length_eq_zero e
      exact .inl ⟨by rw [e]; rfl, by rw [e']; rfl⟩
    · exact .inr ⟨(countR l known).length - 1, by omega, by rw [show (((countR l known).length - 1 : Nat) : Int) = ((countR l known).length : Int) - 1 by omega], by rw [show (countR l known).length - 1 + 1 = (countR l known).length by omega, List.take_length]⟩

noncomputable def cWinYes_con : Con := { f := 12, args := [windsArg 0 0, .one (.int .i64 3), .one (.int .i64 4)], N := 1, M := 1, pre := [(.app 20 [.var 1], true), (.op2 .eq (.app 6 [.var 1]) (.num 0), true), (.app 10 [.var 4, .num 0, .num 1000000], true), (.op2 .eq (.op1 .len (.app 21 [.var 1, .var 3])) (.num 0), false)], out := .tuple [.agg [.sint .i64 (.app 23 [.app 21 [.var 1, .var 3], .var 4, .num 0]), .sint .i64 (.app 23 [.app 21 [.var 1, .var 3], .var 4, .num 1]), .sint .i64 (.app 23 [.app 21 [.var 1, .var 3], .var 4, .num 2]), .sint .i64 (.app 23 [.app 21 [.var 1, .var 3], .var 4, .num 3]), .sint .i64 (.app 23 [.app 21 [.var 1, .var 3], .var 4, .num 4]), .sint .i64 (.app 23 [.app 21 [.var 1, .var 3], .var 4, .num 5]), .sint .i64 (.app 23 [.app 21 [.var 1, .var 3], .var 4, .num 6]), .sint .i64 (.app 23 [.app 21 [.var 1, .var 3], .var 4, .num 7]), .sint .i64 (.app 23 [.app 21 [.var 1, .var 3], .var 4, .num 8])], .sbool (.app 22 [.app 21 [.var 1, .var 3], .var 4]), .int .i64 0], news := [] }
noncomputable def cWinYes_call : Env → CallL := fun E => acallAll E (evH E (LC4 E) ((fun E => oneH 86 (hooks [(1, bw_D.hook E.facts bw_vs)])) E) 10)
noncomputable def cWinYes_t : GTree := (.fork (.app 22 [(.app 21 [(.var 1), (.var 3)]), (.var 4)]) (.leaf [[]]) (.leaf [[]]))
noncomputable def cWinYes_l : List (List (X × Bool) × Option Pairs) := [([((.app 22 [(.app 21 [(.var 1), (.var 3)]), (.var 4)]), true), ((.app 20 [(.var 1)]), true), ((.op2 .eq (.app 6 [(.var 1)]) (.num 0)), true), ((.app 10 [(.var 4), (.num 0), (.num 1000000)]), true), ((.op2 .eq (.op1 .len (.app 21 [(.var 1), (.var 3)])) (.num 0)), false)], some [((.app 23 [(.app 21 [(.var 1), (.var 3)]), (.var 4), (.num 0)]), (.app 23 [(.app 21 [(.var 1), (.var 3)]), (.var 4), (.num 0)])), ((.app 23 [(.app 21 [(.var 1), (.var 3)]), (.var 4), (.num 1)]), (.app 23 [(.app 21 [(.var 1), (.var 3)]), (.var 4), (.num 1)])), ((.app 23 [(.app 21 [(.var 1), (.var 3)]), (.var 4), (.num 2)]), (.app 23 [(.app 21 [(.var 1), (.var 3)]), (.var 4), (.num 2)])), ((.app 23 [(.app 21 [(.var 1), (.var 3)]), (.var 4), (.num 3)]), (.app 23 [(.app 21 [(.var 1), (.var 3)]), (.var 4), (.num 3)])), ((.app 23 [(.app 21 [(.var 1), (.var 3)]), (.var 4), (.num 4)]), (.app 23 [(.app 21 [(.var 1), (.var 3)]), (.var 4), (.num 4)])), ((.app 23 [(.app 21 [(.var 1), (.var 3)]), (.var 4), (.num 5)]), (.app 23 [(.app 21 [(.var 1), (.var 3)]), (.var 4), (.num 5)])), ((.app 23 [(.app 21 [(.var 1), (.var 3)]), (.var 4), (.num 6)]), (.app 23 [(.app 21 [(.var 1), (.var 3)]), (.var 4), (.num 6)])), ((.app 23 [(.app 21 [(.var 1), (.var 3)]), (.var 4), (.num 7)]), (.app 23 [(.app 21 [(.var 1), (.var 3)]), (.var 4), (.num 7)])), ((.app 23 [(.app 21 [(.var 1), (.var 3)]), (.var 4), (.num 8)]), (.app 23 [(.app 21 [(.var 1), (.var 3)]), (.var 4), (.num 8)])), ((.app 22 [(.app 21 [(.var 1), (.var 3)]), (.var 4)]), (.boo true))]),
  ([((.app 22 [(.app 21 [(.var 1), (.var 3)]), (.var 4)]), false), ((.app 20 [(.var 1)]), true), ((.op2 .eq (.app 6 [(.var 1)]) (.num 0)), true), ((.app 10 [(.var 4), (.num 0), (.num 1000000)]), true), ((.op2 .eq (.op1 .len (.app 21 [(.var 1), (.var 3)])) (.num 0)), false)], some [((.app 23 [(.app 21 [(.var 1), (.var 3)]), (.var 4), (.num 0)]), (.num 0)), ((.app 23 [(.app 21 [(.var 1), (.var 3)]), (.var 4), (.num 1)]), (.num 0)), ((.app 23 [(.app 21 [(.var 1), (.var 3)]), (.var 4), (.num 2)]), (.num 0)), ((.app 23 [(.app 21 [(.var 1), (.var 3)]), (.var 4), (.num 3)]), (.num 0)), ((.app 23 [(.app 21 [(.var 1), (.var 3)]), (.var 4), (.num 4)]), (.num 0)), ((.app 23 [(.app 21 [(.var 1), (.var 3)]), (.var 4), (.num 5)]), (.num 0)), ((.app 23 [(.app 21 [(.var 1), (.var 3)]), (.var 4), (.num 6)]), (.num 0)), ((.app 23 [(.app 21 [(.var 1), (.var 3)]), (.var 4), (.num 7)]), (.num 0)), ((.app 23 [(.app 21 [(.var 1), (.var 3)]), (.var 4), (.num 8)]), (.num 0)), ((.app 22 [(.app 21 [(.var 1), (.var 3)]), (.var 4)]), (.boo false))])]
theorem cWinYes_w (r : Rho) : cWinYes_con.fn.ways cWinYes_call E0 r cWinYes_con.pre cWinYes_t = some cWinYes_l := by kernel_rfl
theorem cWinYes_cok : cWinYes_con.Ok Tryz.prog sy := by
  intro r σ w us hsy hρ hpre hrel hins
  obtain ⟨u0, us, rfl, g0, hi⟩ := ins_cons hins
  obtain ⟨u1, us, rfl, g1, hi⟩ := ins_cons hi
  obtain ⟨u2, us, rfl, g2, hi⟩ := ins_cons hi
  obtain ⟨known, kk, rfl, h3⟩ := one_int g1
  obtain ⟨h, kh, rfl, h4⟩ := one_int g2
  obtain ⟨l, h1⟩ := winds_at hrel (i := 0) rfl
  rw [hρ] at h1 h3 h4
  have h1 : r.val 1 = some (windsR l) := h1
  have hsh : shortB l = true := by
    have := hpre.1
    simp only [X.bool, X.den, denL, d_wrap, d_kind, d_not, d_neg, d_slen, d_add, d_sub, d_mul, d_div, d_mod, d_lt, d_le, d_eq, d_eqb, d_eqs, d_lts, d_cat, d_sat, d_and, d_or, denSub, denIte, asB, winds_len, winds_cell, winds_lsub, h1, hsy, sym20, Option.some.injEq, Value.bool.injEq] at this
    exact this
  refine con_of (E := E0) E0_ok E0_glob (sy := sy) (fun F => LC4_ok F hsy) (fun F => bw_H h1 h3 h4 hsy hsh F) (cWinYes_w r) hρ hpre hrel hins ?_ ?_
  · simp only [cWinYes_con, cWinYes_t, AsksL, GTree.asks, FTree.asks, FactsIn, List.append_nil, List.nil_append, List.cons_append, Option.some.injEq, exists_eq', implies_true, and_self, X.bool, X.den, denL, d_wrap, d_kind, d_not, d_neg, d_slen, d_add, d_sub, d_mul, d_div, d_mod, d_lt, d_le, d_eq, d_eqb, d_eqs, d_lts, d_cat, d_sat, d_and, d_or, denSub, denIte, asB, winds_len, winds_cell, winds_lsub, h1, h3, h4, hsy, sym6, sym10, sym20, sym21, sym22, sym23]
    try (cases atR (countR l known) h <;> simp [zeroW, Wind.row])
  · simp only [cWinYes_l, EndsOk, WaysOk, forall_cons, forall_nil, TgtOk, gpair, FactsIn, hold_cons, hold_nil, Option.some.injEq, Value.bool.injEq, Value.int.injEq, decide_eq_true_eq, decide_eq_false_iff_not, and_true, true_and, and_imp, X.bool, X.den, denL, d_wrap, d_kind, d_not, d_neg, d_slen, d_add, d_sub, d_mul, d_div, d_mod, d_lt, d_le, d_eq, d_eqb, d_eqs, d_lts, d_cat, d_sat, d_and, d_or, denSub, denIte, asB, winds_len, winds_cell, winds_lsub, beq_iff_eq, beq_eq_false_iff_ne, ne_eq, h1, h3, h4, hsy, sym6, sym10, sym20, sym21, sym22, sym23]
    cases atR (countR l known) h <;> simp [zeroW, Wind.row]
end Go.Proofs.YtpjkfjnjbekcaaaGreatDoor.Zs

namespace Go.Proofs.YtpjkfjnjbekcaaaGreatDoor.Zs
open Go
set_option linter.unusedSimpArgs false
set_option linter.unusedVariables false

theorem append_nil_E (x : Wind) : appendE [] x = if windB x = true then (if 0 < x.of_ then 5 else 0) else 1 := by
  have h0 : ((checkR []).2 ≠ 0) = False := by simp [checkR, chkGo]
  cases hf : windB x <;> by_cases hk : 0 < x.of_ <;> simp [appendE, checkR, chkGo, refusedE, thereB, againB, hf, hk]
theorem sym11n (x : Wind) (k0 k1 k2 k3 k4 k5 k6 k7 k8 : IntKind) : sy 11 [.tuple #[], .int k0 x.id, .int k1 x.known, .int k2 x.from_, .int k3 x.until_, .int k4 x.al, .int k5 x.ah, .int k6 x.sl, .int k7 x.sh, .int k8 x.of_] = some (.int .i64 (if windB x = true then (if 0 < x.of_ then 5 else 0) else 1)) := by
  rw [← append_nil_E]; exact sym11 [] x k0 k1 k2 k3 k4 k5 k6 k7 k8

noncomputable def LR6 : Env → CallE := libs [cLib rCheckWind_con]
theorem LR6_ok (F : List (X × Bool)) {r : Rho} (h : r.sym = sy) : CallsOk (E0.with F r) (LR6 (E0.with F r)) := libs_ok fun c hc => by
  simp only [List.mem_cons, List.not_mem_nil, or_false] at hc
  subst hc; exact lib_ok (E := E0) rCheckWind_cok F h

noncomputable def rAppNilNo_con : Con := { f := 8, args := [.nils, .agg (windLeaves 0)], N := 0, M := 0, pre := [(.op2 .eq (.app 11 [.nil, .var 0, .var 1, .var 2, .var 3, .var 4, .var 5, .var 6, .var 7, .var 8]) (.num 0), false)], out := .tuple [.nilslice, .sint .i64 (.app 11 [.nil, .var 0, .var 1, .var 2, .var 3, .var 4, .var 5, .var 6, .var 7, .var 8])], news := [] }
noncomputable def rAppNilNo_call : Env → CallL := fun E => acallAll E (evH E (LR6 E) ((fun _ => noLoops) E) 6)
noncomputable def rAppNilNo_t : GTree := (.fork (.op2 .eq (.app 14 [(.var 0), (.var 1), (.var 2), (.var 3), (.var 4), (.var 5), (.var 6), (.var 7), (.var 8)]) (.num 0)) (.fork (.op2 .lt (.num 0) (.var 8)) (.leaf [[]]) .bad) (.leaf [[]]))
noncomputable def rAppNilNo_l : List (List (X × Bool) × Option Pairs) := [([((.op2 .lt (.num 0) (.var 8)), true), ((.op2 .eq (.app 14 [(.var 0), (.var 1), (.var 2), (.var 3), (.var 4), (.var 5), (.var 6), (.var 7), (.var 8)]) (.num 0)), true), ((.op2 .eq (.app 11 [.nil, (.var 0), (.var 1), (.var 2), (.var 3), (.var 4), (.var 5), (.var 6), (.var 7), (.var 8)]) (.num 0)), false)], some [((.app 11 [.nil, (.var 0), (.var 1), (.var 2), (.var 3), (.var 4), (.var 5), (.var 6), (.var 7), (.var 8)]), (.num 5))]),
  ([((.op2 .lt (.num 0) (.var 8)), false), ((.op2 .eq (.app 14 [(.var 0), (.var 1), (.var 2), (.var 3), (.var 4), (.var 5), (.var 6), (.var 7), (.var 8)]) (.num 0)), true), ((.op2 .eq (.app 11 [.nil, (.var 0), (.var 1), (.var 2), (.var 3), (.var 4), (.var 5), (.var 6), (.var 7), (.var 8)]) (.num 0)), false)], none),
  ([((.op2 .eq (.app 14 [(.var 0), (.var 1), (.var 2), (.var 3), (.var 4), (.var 5), (.var 6), (.var 7), (.var 8)]) (.num 0)), false), ((.op2 .eq (.app 11 [.nil, (.var 0), (.var 1), (.var 2), (.var 3), (.var 4), (.var 5), (.var 6), (.var 7), (.var 8)]) (.num 0)), false)], some [((.app 11 [.nil, (.var 0), (.var 1), (.var 2), (.var 3), (.var 4), (.var 5), (.var 6), (.var 7), (.var 8)]), (.num 1))])]
theorem rAppNilNo_w (r : Rho) : rAppNilNo_con.fn.ways rAppNilNo_call E0 r rAppNilNo_con.pre rAppNilNo_t = some rAppNilNo_l := by kernel_rfl
theorem rAppNilNo_cok : rAppNilNo_con.Ok Tryz.prog sy := by
  intro r σ w us hsy hρ hpre hrel hins
  obtain ⟨u0, us, rfl, g0, hi⟩ := ins_cons hins
  obtain ⟨u1, us, rfl, g1, hi⟩ := ins_cons hi
  obtain ⟨x, k, rfl, hp⟩ := wind_agg g1
  rw [hρ] at hp
  have a0 := hp.h0
  have a1 := hp.h1
  have a2 := hp.h2
  have a3 := hp.h3
  have a4 := hp.h4
  have a5 := hp.h5
  have a6 := hp.h6
  have a7 := hp.h7
  have a8 := hp.h8
  simp only [Nat.zero_add, Nat.reduceAdd] at a0 a1 a2 a3 a4 a5 a6 a7 a8

  refine con_of (E := E0) E0_ok E0_glob (sy := sy) (fun F => LR6_ok F hsy) (fun F => noH_ok) (rAppNilNo_w r) hρ hpre hrel hins ?_ ?_
  · simp only [rAppNilNo_con, rAppNilNo_t, AsksL, GTree.asks, FTree.asks, FactsIn, List.append_nil, List.nil_append, List.cons_append, Option.some.injEq, exists_eq', implies_true, and_self, X.bool, X.den, denL, d_wrap, d_kind, d_not, d_neg, d_slen, d_add, d_sub, d_mul, d_div, d_mod, d_lt, d_le, d_eq, d_eqb, d_eqs, d_lts, d_cat, d_sat, d_and, d_or, denSub, denIte, asB, winds_len, winds_cell, winds_lsub, a0, a1, a2, a3, a4, a5, a6, a7, a8, hsy, sym14, sym11n, winds_snoc0]
  · simp only [rAppNilNo_l, EndsOk, WaysOk, forall_cons, forall_nil, TgtOk, gpair, FactsIn, hold_cons, hold_nil, Option.some.injEq, Value.bool.injEq, Value.int.injEq, decide_eq_true_eq, decide_eq_false_iff_not, and_true, true_and, and_imp, X.bool, X.den, denL, d_wrap, d_kind, d_not, d_neg, d_slen, d_add, d_sub, d_mul, d_div, d_mod, d_lt, d_le, d_eq, d_eqb, d_eqs, d_lts, d_cat, d_sat, d_and, d_or, denSub, denIte, asB, winds_len, winds_cell, winds_lsub, beq_iff_eq, beq_eq_false_iff_ne, ne_eq, a0, a1, a2, a3, a4, a5, a6, a7, a8, hsy, sym14, sym11n, winds_snoc0]
    clear hρ hpre hrel hi hp hins g0 g1 a0 a1 a2 a3 a4 a5 a6 a7 a8
    cases hw : windB x <;> by_cases h0 : 0 < x.of_ <;> simp only [hw, h0, if_true, if_false, Bool.false_eq_true]
    all_goals ((repeat' apply And.intro) <;> intros <;> first
      | trivial
      | (simp_all; done)
      | (exfalso; simp_all; omega))
noncomputable def rAppNilYes_con : Con := { f := 8, args := [.nils, .agg (windLeaves 0)], N := 0, M := 1, pre := [(.op2 .eq (.app 11 [.nil, .var 0, .var 1, .var 2, .var 3, .var 4, .var 5, .var 6, .var 7, .var 8]) (.num 0), true)], out := .tuple [.slo 0 9 (.num 1), .int .i64 0], news := [(0, .rows 9 windSch (.num 0) (.snoc .nil [.op1 (.kind .i64) (.var 0), .op1 (.kind .i64) (.var 1), .op1 (.kind .i64) (.var 2), .op1 (.kind .i64) (.var 3), .op1 (.kind .i64) (.var 4), .op1 (.kind .i64) (.var 5), .op1 (.kind .i64) (.var 6), .op1 (.kind .i64) (.var 7), .op1 (.kind .i64) (.var 8)]) true 26)] }
noncomputable def rAppNilYes_call : Env → CallL := fun E => acallAll E (evH E (LR6 E) ((fun _ => noLoops) E) 6)
noncomputable def rAppNilYes_t : GTree := (.fork (.op2 .eq (.app 14 [(.var 0), (.var 1), (.var 2), (.var 3), (.var 4), (.var 5), (.var 6), (.var 7), (.var 8)]) (.num 0)) (.fork (.op2 .lt (.num 0) (.var 8)) .bad (.leaf [[(0, 4)], [(0, 4)], [(0, 4)]])) .bad)
noncomputable def rAppNilYes_l : List (List (X × Bool) × Option Pairs) := [([((.op2 .lt (.num 0) (.var 8)), true), ((.op2 .eq (.app 14 [(.var 0), (.var 1), (.var 2), (.var 3), (.var 4), (.var 5), (.var 6), (.var 7), (.var 8)]) (.num 0)), true), ((.op2 .eq (.app 11 [.nil, (.var 0), (.var 1), (.var 2), (.var 3), (.var 4), (.var 5), (.var 6), (.var 7), (.var 8)]) (.num 0)), true)], none),
  ([((.op2 .lt (.num 0) (.var 8)), false), ((.op2 .eq (.app 14 [(.var 0), (.var 1), (.var 2), (.var 3), (.var 4), (.var 5), (.var 6), (.var 7), (.var 8)]) (.num 0)), true), ((.op2 .eq (.app 11 [.nil, (.var 0), (.var 1), (.var 2), (.var 3), (.var 4), (.var 5), (.var 6), (.var 7), (.var 8)]) (.num 0)), true)], some [((.snoc .nil [(.op1 (.kind .i64) (.var 0)), (.op1 (.kind .i64) (.var 1)), (.op1 (.kind .i64) (.var 2)), (.op1 (.kind .i64) (.var 3)), (.op1 (.kind .i64) (.var 4)), (.op1 (.kind .i64) (.var 5)), (.op1 (.kind .i64) (.var 6)), (.op1 (.kind .i64) (.var 7)), (.op1 (.kind .i64) (.var 8))]), (.snoc .nil [(.op1 (.kind .i64) (.var 0)), (.op1 (.kind .i64) (.var 1)), (.op1 (.kind .i64) (.var 2)), (.op1 (.kind .i64) (.var 3)), (.op1 (.kind .i64) (.var 4)), (.op1 (.kind .i64) (.var 5)), (.op1 (.kind .i64) (.var 6)), (.op1 (.kind .i64) (.var 7)), (.op1 (.kind .i64) (.var 8))])), ((.snoc .nil [(.op1 (.kind .i64) (.var 0)), (.op1 (.kind .i64) (.var 1)), (.op1 (.kind .i64) (.var 2)), (.op1 (.kind .i64) (.var 3)), (.op1 (.kind .i64) (.var 4)), (.op1 (.kind .i64) (.var 5)), (.op1 (.kind .i64) (.var 6)), (.op1 (.kind .i64) (.var 7)), (.op1 (.kind .i64) (.var 8))]), (.snoc .nil [(.op1 (.kind .i64) (.var 0)), (.op1 (.kind .i64) (.var 1)), (.op1 (.kind .i64) (.var 2)), (.op1 (.kind .i64) (.var 3)), (.op1 (.kind .i64) (.var 4)), (.op1 (.kind .i64) (.var 5)), (.op1 (.kind .i64) (.var 6)), (.op1 (.kind .i64) (.var 7)), (.op1 (.kind .i64) (.var 8))])), ((.snoc .nil [(.op1 (.kind .i64) (.var 0)), (.op1 (.kind .i64) (.var 1)), (.op1 (.kind .i64) (.var 2)), (.op1 (.kind .i64) (.var 3)), (.op1 (.kind .i64) (.var 4)), (.op1 (.kind .i64) (.var 5)), (.op1 (.kind .i64) (.var 6)), (.op1 (.kind .i64) (.var 7)), (.op1 (.kind .i64) (.var 8))]), (.snoc .nil [(.op1 (.kind .i64) (.var 0)), (.op1 (.kind .i64) (.var 1)), (.op1 (.kind .i64) (.var 2)), (.op1 (.kind .i64) (.var 3)), (.op1 (.kind .i64) (.var 4)), (.op1 (.kind .i64) (.var 5)), (.op1 (.kind .i64) (.var 6)), (.op1 (.kind .i64) (.var 7)), (.op1 (.kind .i64) (.var 8))]))]),
  ([((.op2 .eq (.app 14 [(.var 0), (.var 1), (.var 2), (.var 3), (.var 4), (.var 5), (.var 6), (.var 7), (.var 8)]) (.num 0)), false), ((.op2 .eq (.app 11 [.nil, (.var 0), (.var 1), (.var 2), (.var 3), (.var 4), (.var 5), (.var 6), (.var 7), (.var 8)]) (.num 0)), true)], none)]
theorem rAppNilYes_w (r : Rho) : rAppNilYes_con.fn.ways rAppNilYes_call E0 r rAppNilYes_con.pre rAppNilYes_t = some rAppNilYes_l := by kernel_rfl
theorem rAppNilYes_cok : rAppNilYes_con.Ok Tryz.prog sy := by
  intro r σ w us hsy hρ hpre hrel hins
  obtain ⟨u0, us, rfl, g0, hi⟩ := ins_cons hins
  obtain ⟨u1, us, rfl, g1, hi⟩ := ins_cons hi
  obtain ⟨x, k, rfl, hp⟩ := wind_agg g1
  rw [hρ] at hp
  have a0 := hp.h0
  have a1 := hp.h1
  have a2 := hp.h2
  have a3 := hp.h3
  have a4 := hp.h4
  have a5 := hp.h5
  have a6 := hp.h6
  have a7 := hp.h7
  have a8 := hp.h8
  simp only [Nat.zero_add, Nat.reduceAdd] at a0 a1 a2 a3 a4 a5 a6 a7 a8

  refine con_of (E := E0) E0_ok E0_glob (sy := sy) (fun F => LR6_ok F hsy) (fun F => noH_ok) (rAppNilYes_w r) hρ hpre hrel hins ?_ ?_
  · simp only [rAppNilYes_con, rAppNilYes_t, AsksL, GTree.asks, FTree.asks, FactsIn, List.append_nil, List.nil_append, List.cons_append, Option.some.injEq, exists_eq', implies_true, and_self, X.bool, X.den, denL, d_wrap, d_kind, d_not, d_neg, d_slen, d_add, d_sub, d_mul, d_div, d_mod, d_lt, d_le, d_eq, d_eqb, d_eqs, d_lts, d_cat, d_sat, d_and, d_or, denSub, denIte, asB, winds_len, winds_cell, winds_lsub, a0, a1, a2, a3, a4, a5, a6, a7, a8, hsy, sym14, sym11n, winds_snoc0]
  · simp only [rAppNilYes_l, EndsOk, WaysOk, forall_cons, forall_nil, TgtOk, gpair, FactsIn, hold_cons, hold_nil, Option.some.injEq, Value.bool.injEq, Value.int.injEq, decide_eq_true_eq, decide_eq_false_iff_not, and_true, true_and, and_imp, X.bool, X.den, denL, d_wrap, d_kind, d_not, d_neg, d_slen, d_add, d_sub, d_mul, d_div, d_mod, d_lt, d_le, d_eq, d_eqb, d_eqs, d_lts, d_cat, d_sat, d_and, d_or, denSub, denIte, asB, winds_len, winds_cell, winds_lsub, beq_iff_eq, beq_eq_false_iff_ne, ne_eq, a0, a1, a2, a3, a4, a5, a6, a7, a8, hsy, sym14, sym11n, winds_snoc0]
    clear hρ hpre hrel hi hp hins g0 g1 a0 a1 a2 a3 a4 a5 a6 a7 a8
    cases hw : windB x <;> by_cases h0 : 0 < x.of_ <;> simp only [hw, h0, if_true, if_false, Bool.false_eq_true]
    all_goals ((repeat' apply And.intro) <;> intros <;> first
      | trivial
      | (simp_all; done)
      | (exfalso; simp_all; omega))
end Go.Proofs.YtpjkfjnjbekcaaaGreatDoor.Zs
