/-
  Contracts of find and voided of the reference.
-/
import Derived.Test.YtnahicnoofkfgaaGreatDoorDeConA
import Derived.KernelRfl
set_option linter.unusedSimpArgs false
set_option linter.unusedVariables false
namespace Go.Proofs.YtnahicnoofkfgaaGreatDoor.Zs
open Go
set_option linter.unusedSimpArgs false
set_option linter.unusedVariables false

def find_vs : List X := [.num 0]

theorem find_at {l : List Deed} {i : Nat} {p : Deed} {n : Int} (h : l[i]? = some p) (hn : thereB (l.take i) n = false) (he : p.id = n) : findR l n = p ∧ thereB l n = true := by
  obtain ⟨hi, hq⟩ := List.getElem?_eq_some_iff.1 h
  have e : l = l.take i ++ p :: l.drop (i + 1) := by rw [← hq, ← List.drop_eq_getElem_cons hi, List.take_append_drop]
  have h0 : (l.take i).find? (fun q => q.id == n) = none := by
    rw [List.find?_eq_none]
    intro q hq hb
    have : thereB (l.take i) n = true := List.any_eq_true.2 ⟨q, hq, hb⟩
    rw [hn] at this; cases this
  constructor
  · have hf : (l.take i ++ p :: l.drop (i + 1)).find? (fun q => q.id == n) = some p := by
      rw [List.find?_append, h0]
      simp [he]
    rw [← e] at hf
    unfold findR
    rw [hf]
    rfl
  · exact List.any_eq_true.2 ⟨p, List.mem_of_getElem? h, by simpa using he⟩
theorem find_none {l : List Deed} {n : Int} (hn : thereB l n = false) : findR l n = zeroD := by
  have h0 : l.find? (fun q => q.id == n) = none := by
    rw [List.find?_eq_none]
    intro q hq hb
    have : thereB l n = true := List.any_eq_true.2 ⟨q, hq, hb⟩
    rw [hn] at this; cases this
  unfold findR
  rw [h0]
  rfl
theorem there_next {l : List Deed} {i : Nat} {p : Deed} {n : Int} (h : l[i]? = some p) (hn : thereB (l.take i) n = false) (he : ¬ p.id = n) : thereB (l.take (i + 1)) n = false := by
  unfold thereB at *
  rw [List.take_add_one, h, List.any_append, hn]
  simp [he]
theorem gone_next {l : List Deed} {i : Nat} {p : Deed} {n k : Int} (h : l[i]? = some p) (hn : goneB (l.take i) n k = false) (he : ¬ (p.kind = 6 ∧ p.of_ = n ∧ p.known ≤ k)) : goneB (l.take (i + 1)) n k = false := by
  unfold goneB at *
  rw [List.take_add_one, h, List.any_append, hn]
  simp only [Option.toList_some, List.any_cons, List.any_nil, Bool.or_false, Bool.false_or, Bool.and_eq_false_iff, beq_eq_false_iff_ne, ne_eq, decide_eq_false_iff_not]
  by_cases a : p.kind = 6 <;> by_cases b : p.of_ = n <;> simp_all
theorem gone_at {l : List Deed} {i : Nat} {p : Deed} {n k : Int} (h : l[i]? = some p) (h1 : p.kind = 6) (h2 : p.of_ = n) (h3 : p.known ≤ k) : goneB l n k = true := by
  unfold goneB
  exact List.any_eq_true.2 ⟨p, List.mem_of_getElem? h, by simp [h1, h2, h3]⟩
theorem zeroD_row : zeroD.row = [.int .i64 0, .int .i64 0, .int .i64 0, .int .u8 0, .int .i64 0, .int .i64 0, .int .i64 0, .int .i64 0, .int .i64 0, .int .i64 0, .int .i64 0] := rfl
theorem d_ite2 (b : Bool) (x y : Value) : denIte (some (.bool b)) (some x) (some y) = some (bif b then x else y) := by cases b <;> rfl

noncomputable def find_D : LoopD := { N := 100, M := 101, size := sizeOfF 144, reads := [(0, .rows 11 deedSch (.var 0) (.var 1) false 37)], pats := [{ slots := [(0, .slx 0 11 (.var 0) (.num 0) (.op1 .len (.var 1)) (.var 2)), (1, .sint .i64 (.var 3)), (4, .ptr 1 0), (6, .sint .i64 (.var 100))], heap := [(1, .cells [.int .i64 0, .int .i64 0, .int .i64 0, .int .u8 0, .int .i64 0, .int .i64 0, .int .i64 0, .int .i64 0, .int .i64 0, .int .i64 0, .int .i64 0] 37)] }], exits := [(.exit 0, { slots := [(4, .ptr 1 0)], heap := [(1, .cells [.int .i64 0, .int .i64 0, .int .i64 0, .int .u8 0, .int .i64 0, .int .i64 0, .int .i64 0, .int .i64 0, .int .i64 0, .int .i64 0, .int .i64 0] 37)], guard := .op1 .not (.app 61 [.var 1, .var 3]) }), (.ret, { slots := [(4, .ptr 1 0), (5, .sbool (.boo true))], heap := [(1, .cells [.sint .i64 (.app 60 [.var 1, .var 3, .num 0]), .sint .i64 (.app 60 [.var 1, .var 3, .num 1]), .sint .i64 (.app 60 [.var 1, .var 3, .num 2]), .sint .u8 (.app 60 [.var 1, .var 3, .num 3]), .sint .i64 (.app 60 [.var 1, .var 3, .num 4]), .sint .i64 (.app 60 [.var 1, .var 3, .num 5]), .sint .i64 (.app 60 [.var 1, .var 3, .num 6]), .sint .i64 (.app 60 [.var 1, .var 3, .num 7]), .sint .i64 (.app 60 [.var 1, .var 3, .num 8]), .sint .i64 (.app 60 [.var 1, .var 3, .num 9]), .sint .i64 (.app 60 [.var 1, .var 3, .num 10])] 37)], guard := .app 61 [.var 1, .var 3] })], own := [1], pre := [(.app 20 [.var 1], true)] }
noncomputable def find_run : Env → AF → ASt → Option (List Out) := bodyRun noL 6 (fun _ => noLoop) (loopAt Tryz.prog 144 0)
def find0_F : List (X × Bool) := [(.op2 .lt (.var 100) (.num 0), false)]
def dbz0 : X := .op2 .lt (.var 100) (.op1 .len (.var 1))
noncomputable def find0_t : FTree := (.fork dbz0 (.fork (.op2 .eq (.cell 0 (.var 1) (.var 100)) (.var 3)) (.leaf [.leave 1 []]) (.leaf [.again 0 []])) (.leaf [.leave 0 []]))
noncomputable def find0_l : List (List (X × Bool) × Option (List (Tgt × Pairs))) := [([(.op2 .eq (.cell 0 (.var 1) (.var 100)) (.var 3), true), (dbz0, true), (.op2 .lt (.var 100) (.num 0), false)], some [(.leave 1 [], [(.app 60 [.var 1, .var 3, .num 0], .cell 0 (.var 1) (.var 100)), (.app 60 [.var 1, .var 3, .num 1], .cell 1 (.var 1) (.var 100)), (.app 60 [.var 1, .var 3, .num 2], .cell 2 (.var 1) (.var 100)), (.app 60 [.var 1, .var 3, .num 3], .cell 3 (.var 1) (.var 100)), (.app 60 [.var 1, .var 3, .num 4], .cell 4 (.var 1) (.var 100)), (.app 60 [.var 1, .var 3, .num 5], .cell 5 (.var 1) (.var 100)), (.app 60 [.var 1, .var 3, .num 6], .cell 6 (.var 1) (.var 100)), (.app 60 [.var 1, .var 3, .num 7], .cell 7 (.var 1) (.var 100)), (.app 60 [.var 1, .var 3, .num 8], .cell 8 (.var 1) (.var 100)), (.app 60 [.var 1, .var 3, .num 9], .cell 9 (.var 1) (.var 100)), (.app 60 [.var 1, .var 3, .num 10], .cell 10 (.var 1) (.var 100)), (.app 61 [.var 1, .var 3], .boo true)])]),
  ([(.op2 .eq (.cell 0 (.var 1) (.var 100)) (.var 3), false), (dbz0, true), (.op2 .lt (.var 100) (.num 0), false)], some [(.again 0 [], [(.var 100, .op1 (.wrap .i64) (.op2 .add (.var 100) (.num 1)))])]),
  ([(dbz0, false), (.op2 .lt (.var 100) (.num 0), false)], some [(.leave 0 [], [(.op1 .not (.app 61 [.var 1, .var 3]), .boo true)])])]
theorem find0_w (r : Rho) : find_D.ways find_run E0 r 0 find0_F find0_t = some find0_l := by kernel_rfl
theorem find_ok : find_D.ok = true := by kernel_rfl
def find_Inv (l : List Deed) (n : Int) (j : Nat) (vals : List Value) : Prop :=
  j = 0 ∧ ∃ i : Nat, i ≤ l.length ∧ vals = [.int .i64 i] ∧ thereB (l.take i) n = false
def find_mu (l : List Deed) (_ : Nat) (vals : List Value) : Nat := l.length - (vI (vals.getD 0 default)).toNat
theorem find_step {ρ : Rho} {l : List Deed} {k3 : IntKind} {n : Int} (h1 : ρ.val 1 = some (deedsR l)) (h3 : ρ.val 3 = some (.int k3 n)) (hsy : ρ.sym = sy) (hmax : (l.length : Int) ≤ 1010) (j : Nat) (vals : List Value) (hI : find_Inv l n j vals) :
    StepOk find_D find_run E0 ρ (find_Inv l n) (find_mu l) j vals := by
  obtain ⟨rfl, i, hi, rfl, hall⟩ := hI
  have hN : find_D.N = 100 := rfl
  have v1 : (ρ.ext find_D.N [.int .i64 i]).val 1 = some (deedsR l) := by rw [ext_low _ _ _ _ (by rw [hN]; omega)]; exact h1
  have v3 : (ρ.ext find_D.N [.int .i64 i]).val 3 = some (.int k3 n) := by rw [ext_low _ _ _ _ (by rw [hN]; omega)]; exact h3
  have v100 : (ρ.ext find_D.N [.int .i64 i]).val 100 = some (.int .i64 i) := by rw [ext_high _ _ _ _ (by rw [hN]; omega)]; rfl
  have vs : (ρ.ext find_D.N [.int .i64 i]).sym = sy := hsy

  refine step_of_ways (find0_w _) (F := find0_F) ?_ (AsksL.ok ?_) ?_
  · simp only [find0_F, FactsIn, X.bool, X.den, denL, d_wrap, d_kind, d_not, d_neg, d_slen, d_add, d_sub, d_mul, d_div, d_mod, d_lt, d_le, d_eq, d_eqb, d_eqs, d_lts, d_cat, d_sat, d_and, d_or, denSub, denIte, asB, fracs_len, fracs_cell, fracs_lsub, deeds_len, deeds_cell, deeds_lsub, v100, Option.some.injEq, Value.bool.injEq, decide_eq_false_iff_not, and_true]
    omega
  · cases hp : l[i]? with
    | none =>
      have hge : ¬ (i : Int) < l.length := by have := List.getElem?_eq_none_iff.1 hp; omega
      simp only [find0_t, dbz0, find0_F, AsksL, GTree.asks, FTree.asks, FactsIn, List.append_nil, List.nil_append, List.cons_append, Option.some.injEq, exists_eq', implies_true, and_self, X.bool, X.den, denL, d_wrap, d_kind, d_not, d_neg, d_slen, d_add, d_sub, d_mul, d_div, d_mod, d_lt, d_le, d_eq, d_eqb, d_eqs, d_lts, d_cat, d_sat, d_and, d_or, denSub, denIte, asB, fracs_len, fracs_cell, fracs_lsub, deeds_len, deeds_cell, deeds_lsub, v1, v3, v100, vs, sym20, sym60, sym61, sym62, Int.toNat_natCast, hp, hge]
      simp
    | some p => simp only [find0_t, dbz0, find0_F, AsksL, GTree.asks, FTree.asks, FactsIn, List.append_nil, List.nil_append, List.cons_append, Option.some.injEq, exists_eq', implies_true, and_self, X.bool, X.den, denL, d_wrap, d_kind, d_not, d_neg, d_slen, d_add, d_sub, d_mul, d_div, d_mod, d_lt, d_le, d_eq, d_eqb, d_eqs, d_lts, d_cat, d_sat, d_and, d_or, denSub, denIte, asB, fracs_len, fracs_cell, fracs_lsub, deeds_len, deeds_cell, deeds_lsub, v1, v3, v100, vs, sym20, sym60, sym61, sym62, Int.toNat_natCast, hp, Option.bind_some, deed0, deed1, deed2, deed3, deed4, deed5, deed6, deed7, deed8, deed9, deed10]
  · cases hp : l[i]? with
    | none =>
      have hge := List.getElem?_eq_none_iff.1 hp
      have hge' : ¬ (i : Int) < l.length := by omega
      simp only [find0_l, dbz0, EndsOk, WaysOk, forall_cons, forall_nil, TgtOk, gpair, FactsIn, hold_cons, hold_nil, Option.some.injEq, Value.bool.injEq, Value.int.injEq, decide_eq_true_eq, decide_eq_false_iff_not, and_true, true_and, and_imp, X.bool, X.den, denL, d_wrap, d_kind, d_not, d_neg, d_slen, d_add, d_sub, d_mul, d_div, d_mod, d_lt, d_le, d_eq, d_eqb, d_eqs, d_lts, d_cat, d_sat, d_and, d_or, denSub, denIte, asB, fracs_len, fracs_cell, fracs_lsub, deeds_len, deeds_cell, deeds_lsub, beq_iff_eq, beq_eq_false_iff_ne, ne_eq, v1, v3, h1, h3, v100, vs, hsy, sym20, sym60, sym61, sym62, Int.toNat_natCast, hp, hge']
      have hi' : i = l.length := by omega
      subst hi'
      rw [List.take_length] at hall
      simp [hall]
    | some p =>
      have hlt : i < l.length := (List.getElem?_eq_some_iff.1 hp).1
      have hlt1 : (i : Int) < l.length := by omega
      simp only [find0_l, dbz0, EndsOk, WaysOk, forall_cons, forall_nil, TgtOk, gpair, FactsIn, hold_cons, hold_nil, Option.some.injEq, Value.bool.injEq, Value.int.injEq, decide_eq_true_eq, decide_eq_false_iff_not, and_true, true_and, and_imp, X.bool, X.den, denL, d_wrap, d_kind, d_not, d_neg, d_slen, d_add, d_sub, d_mul, d_div, d_mod, d_lt, d_le, d_eq, d_eqb, d_eqs, d_lts, d_cat, d_sat, d_and, d_or, denSub, denIte, asB, fracs_len, fracs_cell, fracs_lsub, deeds_len, deeds_cell, deeds_lsub, beq_iff_eq, beq_eq_false_iff_ne, ne_eq, v1, v3, h1, h3, v100, vs, hsy, sym20, sym60, sym61, sym62, Int.toNat_natCast, hp, Option.bind_some, deed0, deed1, deed2, deed3, deed4, deed5, deed6, deed7, deed8, deed9, deed10, hlt1]
      have go : ¬ p.id = n → ∃ vals', ((ρ.ext find_D.N vals').val 100 = some (.int .i64 (IntKind.i64.wrap ((i : Int) + 1)))) ∧ find_Inv l n 0 vals' ∧ find_mu l 0 vals' < find_mu l 0 [.int .i64 i] := by
        intro e
        refine ⟨[.int .i64 ((i + 1 : Nat) : Int)], ?_, ⟨rfl, i + 1, by omega, rfl, there_next hp hall e⟩, ?_⟩
        · rw [ext_high _ _ _ _ (by rw [hN]; omega), IntWalk.i64_in _ (by omega)]; rfl
        · simp [find_mu, vI]; omega
      have no := @find_at l i p n hp hall
      (repeat' apply And.intro) <;> intros <;> first
        | trivial
        | (exfalso; omega)
        | (exact go (by assumption))
        | (have e : p.id = n := by assumption
           have h2 := no e
           simp [h2.1, h2.2, Deed.row, e]
           done)
        | (simp_all; done)
noncomputable def find_con : Con := { f := 144, args := [deedsArg 0 0, .one (.int .i64 3)], N := 1, M := 1, pre := [(.app 20 [.var 1], true)], out := .tuple [.agg [.sint .i64 (.app 60 [.var 1, .var 3, .num 0]), .sint .i64 (.app 60 [.var 1, .var 3, .num 1]), .sint .i64 (.app 60 [.var 1, .var 3, .num 2]), .sint .u8 (.ite (.app 61 [.var 1, .var 3]) (.app 60 [.var 1, .var 3, .num 3]) (.num 0)), .sint .i64 (.app 60 [.var 1, .var 3, .num 4]), .sint .i64 (.app 60 [.var 1, .var 3, .num 5]), .sint .i64 (.app 60 [.var 1, .var 3, .num 6]), .sint .i64 (.app 60 [.var 1, .var 3, .num 7]), .sint .i64 (.app 60 [.var 1, .var 3, .num 8]), .sint .i64 (.app 60 [.var 1, .var 3, .num 9]), .sint .i64 (.app 60 [.var 1, .var 3, .num 10])], .sbool (.app 61 [.var 1, .var 3])], news := [] }
noncomputable def find_call : Env → CallL := fun E => acallAll E (evH E (noL E) ((fun E => oneH 144 (hooks [(2, find_D.hook E.facts find_vs)])) E) 6)
noncomputable def find_t : GTree := (.fork (.app 61 [.var 1, .var 3]) (.leaf [[]]) (.leaf [[]]))
noncomputable def find_l : List (List (X × Bool) × Option Pairs) := [([(.app 61 [.var 1, .var 3], true), (.app 20 [.var 1], true)], some [(.app 60 [.var 1, .var 3, .num 0], .app 60 [.var 1, .var 3, .num 0]), (.app 60 [.var 1, .var 3, .num 1], .app 60 [.var 1, .var 3, .num 1]), (.app 60 [.var 1, .var 3, .num 2], .app 60 [.var 1, .var 3, .num 2]), (.ite (.app 61 [.var 1, .var 3]) (.app 60 [.var 1, .var 3, .num 3]) (.num 0), .app 60 [.var 1, .var 3, .num 3]), (.app 60 [.var 1, .var 3, .num 4], .app 60 [.var 1, .var 3, .num 4]), (.app 60 [.var 1, .var 3, .num 5], .app 60 [.var 1, .var 3, .num 5]), (.app 60 [.var 1, .var 3, .num 6], .app 60 [.var 1, .var 3, .num 6]), (.app 60 [.var 1, .var 3, .num 7], .app 60 [.var 1, .var 3, .num 7]), (.app 60 [.var 1, .var 3, .num 8], .app 60 [.var 1, .var 3, .num 8]), (.app 60 [.var 1, .var 3, .num 9], .app 60 [.var 1, .var 3, .num 9]), (.app 60 [.var 1, .var 3, .num 10], .app 60 [.var 1, .var 3, .num 10]), (.app 61 [.var 1, .var 3], .boo true)]),
  ([(.app 61 [.var 1, .var 3], false), (.app 20 [.var 1], true)], some [(.app 60 [.var 1, .var 3, .num 0], .num 0), (.app 60 [.var 1, .var 3, .num 1], .num 0), (.app 60 [.var 1, .var 3, .num 2], .num 0), (.ite (.app 61 [.var 1, .var 3]) (.app 60 [.var 1, .var 3, .num 3]) (.num 0), .num 0), (.app 60 [.var 1, .var 3, .num 4], .num 0), (.app 60 [.var 1, .var 3, .num 5], .num 0), (.app 60 [.var 1, .var 3, .num 6], .num 0), (.app 60 [.var 1, .var 3, .num 7], .num 0), (.app 60 [.var 1, .var 3, .num 8], .num 0), (.app 60 [.var 1, .var 3, .num 9], .num 0), (.app 60 [.var 1, .var 3, .num 10], .num 0), (.app 61 [.var 1, .var 3], .boo false)])]
theorem find_w (r : Rho) : find_con.fn.ways find_call E0 r find_con.pre find_t = some find_l := by kernel_rfl
theorem find_H {r : Rho} {l : List Deed} {k3 : IntKind} {n : Int} (h1 : r.val 1 = some (deedsR l)) (h3 : r.val 3 = some (.int k3 n)) (hmax : (l.length : Int) ≤ 1010) (hsy : r.sym = sy) (F : List (X × Bool)) :
    LoopsOk (E0.with F r) (oneH 144 (hooks [(2, find_D.hook (E0.with F r).facts find_vs)])) := by
  refine loops_all (n := 1) (fun f fn h => h) (by kernel_rfl) fun i hi => ?_
  obtain rfl : i = 0 := by omega
  rw [hooks_hit (show keyOf (loopAt (E0.with F r).P 144 0) = 2 by kernel_rfl)]
  refine hook_ok (E₀ := E0) (run := find_run) (ρ := r) (Inv := find_Inv l n) (μ := find_mu l) E0_ok find_ok (fun F r' h => ?_) (fun _ => ⟨find_step h1 h3 hsy hmax, [.int .i64 0], ?_, rfl, 0, Nat.zero_le _, rfl, rfl⟩)
  · exact bodyRun_ok E0_ok (noL_ok F (h.trans hsy)) fun _ _ => noLoop_ok
  · simp only [find_vs, X.bool, X.den, denL, d_wrap, d_kind, d_not, d_neg, d_slen, d_add, d_sub, d_mul, d_div, d_mod, d_lt, d_le, d_eq, d_eqb, d_eqs, d_lts, d_cat, d_sat, d_and, d_or, denSub, denIte, asB, fracs_len, fracs_cell, fracs_lsub, deeds_len, deeds_cell, deeds_lsub]
theorem find_cok : find_con.Ok Tryz.prog sy := by
  intro r σ w us hsy hρ hpre hrel hins
  obtain ⟨u0, us, rfl, g0, hi⟩ := ins_cons hins
  obtain ⟨u1, us, rfl, g1, hi⟩ := ins_cons hi
  obtain ⟨n, k3, rfl, h3⟩ := one_int g1
  rw [hρ] at h3
  obtain ⟨l, h1⟩ := deeds_at hrel (i := 0) rfl
  rw [hρ] at h1
  have h1 : r.val 1 = some (deedsR l) := h1
  have hmax : (l.length : Int) ≤ 1010 := by
    have := hpre.1
    simp only [X.bool, X.den, denL, d_wrap, d_kind, d_not, d_neg, d_slen, d_add, d_sub, d_mul, d_div, d_mod, d_lt, d_le, d_eq, d_eqb, d_eqs, d_lts, d_cat, d_sat, d_and, d_or, denSub, denIte, asB, fracs_len, fracs_cell, fracs_lsub, deeds_len, deeds_cell, deeds_lsub, h1, hsy, sym20, Option.some.injEq, Value.bool.injEq] at this
    exact short_len this
  refine con_of (E := E0) E0_ok E0_glob (sy := sy) (fun F => noL_ok F hsy) (fun F => find_H h1 h3 hmax hsy F) (find_w r) hρ hpre hrel hins ?_ ?_
  · simp only [find_con, find_t, dbz0, AsksL, GTree.asks, FTree.asks, FactsIn, List.append_nil, List.nil_append, List.cons_append, Option.some.injEq, exists_eq', implies_true, and_self, X.bool, X.den, denL, d_wrap, d_kind, d_not, d_neg, d_slen, d_add, d_sub, d_mul, d_div, d_mod, d_lt, d_le, d_eq, d_eqb, d_eqs, d_lts, d_cat, d_sat, d_and, d_or, denSub, denIte, asB, fracs_len, fracs_cell, fracs_lsub, deeds_len, deeds_cell, deeds_lsub, h1, h3, hsy, sym20, sym60, sym61, sym62]
  · simp only [find_l, dbz0, EndsOk, WaysOk, forall_cons, forall_nil, TgtOk, gpair, FactsIn, hold_cons, hold_nil, Option.some.injEq, Value.bool.injEq, Value.int.injEq, decide_eq_true_eq, decide_eq_false_iff_not, and_true, true_and, and_imp, X.bool, X.den, denL, d_wrap, d_kind, d_not, d_neg, d_slen, d_add, d_sub, d_mul, d_div, d_mod, d_lt, d_le, d_eq, d_eqb, d_eqs, d_lts, d_cat, d_sat, d_and, d_or, denSub, denIte, asB, fracs_len, fracs_cell, fracs_lsub, deeds_len, deeds_cell, deeds_lsub, beq_iff_eq, beq_eq_false_iff_ne, ne_eq, h1, h3, hsy, sym20, sym60, sym61, sym62, d_ite2]
    clear hsy hρ hpre hrel hins hi g0 g1 h1 h3
    cases q : thereB l n with
    | false =>
      rw [find_none q]
      simp [zeroD_row]
    | true => simp [Deed.row]
noncomputable def voided_D : LoopD := { N := 100, M := 101, size := sizeOfF 145, reads := [(0, .rows 11 deedSch (.var 0) (.var 1) false 37)], pats := [{ slots := [(0, .slx 0 11 (.var 0) (.num 0) (.op1 .len (.var 1)) (.var 2)), (1, .sint .i64 (.var 3)), (2, .sint .i64 (.var 4)), (7, .sint .i64 (.var 100))], heap := [] }], exits := [(.exit 0, { slots := [], heap := [], guard := .op1 .not (.app 62 [.var 1, .var 3, .var 4]) }), (.ret, { slots := [(6, .sbool (.boo true))], heap := [], guard := .app 62 [.var 1, .var 3, .var 4] })], own := [], pre := [(.app 20 [.var 1], true)] }
noncomputable def voided_run : Env → AF → ASt → Option (List Out) := bodyRun noL 6 (fun _ => noLoop) (loopAt Tryz.prog 145 0)
def voided0_F : List (X × Bool) := [(.op2 .lt (.var 100) (.num 0), false)]
noncomputable def voided0_t : FTree := (.fork dbz0 (.fork (.op2 .eq (.cell 3 (.var 1) (.var 100)) (.num 6)) (.fork (.op2 .eq (.cell 10 (.var 1) (.var 100)) (.var 3)) (.fork (.op2 .lt (.var 4) (.cell 1 (.var 1) (.var 100))) (.leaf [.again 0 []]) (.leaf [.leave 1 []])) (.leaf [.again 0 []])) (.leaf [.again 0 []])) (.leaf [.leave 0 []]))
noncomputable def voided0_l : List (List (X × Bool) × Option (List (Tgt × Pairs))) := [([(.op2 .lt (.var 4) (.cell 1 (.var 1) (.var 100)), true), (.op2 .eq (.cell 10 (.var 1) (.var 100)) (.var 3), true), (.op2 .eq (.cell 3 (.var 1) (.var 100)) (.num 6), true), (dbz0, true), (.op2 .lt (.var 100) (.num 0), false)], some [(.again 0 [], [(.var 100, .op1 (.wrap .i64) (.op2 .add (.var 100) (.num 1)))])]),
  ([(.op2 .lt (.var 4) (.cell 1 (.var 1) (.var 100)), false), (.op2 .eq (.cell 10 (.var 1) (.var 100)) (.var 3), true), (.op2 .eq (.cell 3 (.var 1) (.var 100)) (.num 6), true), (dbz0, true), (.op2 .lt (.var 100) (.num 0), false)], some [(.leave 1 [], [(.app 62 [.var 1, .var 3, .var 4], .boo true)])]),
  ([(.op2 .eq (.cell 10 (.var 1) (.var 100)) (.var 3), false), (.op2 .eq (.cell 3 (.var 1) (.var 100)) (.num 6), true), (dbz0, true), (.op2 .lt (.var 100) (.num 0), false)], some [(.again 0 [], [(.var 100, .op1 (.wrap .i64) (.op2 .add (.var 100) (.num 1)))])]),
  ([(.op2 .eq (.cell 3 (.var 1) (.var 100)) (.num 6), false), (dbz0, true), (.op2 .lt (.var 100) (.num 0), false)], some [(.again 0 [], [(.var 100, .op1 (.wrap .i64) (.op2 .add (.var 100) (.num 1)))])]),
  ([(dbz0, false), (.op2 .lt (.var 100) (.num 0), false)], some [(.leave 0 [], [(.op1 .not (.app 62 [.var 1, .var 3, .var 4]), .boo true)])])]
theorem voided0_w (r : Rho) : voided_D.ways voided_run E0 r 0 voided0_F voided0_t = some voided0_l := by kernel_rfl
theorem voided_ok : voided_D.ok = true := by kernel_rfl
def voided_Inv (l : List Deed) (n m : Int) (j : Nat) (vals : List Value) : Prop :=
  j = 0 ∧ ∃ i : Nat, i ≤ l.length ∧ vals = [.int .i64 i] ∧ goneB (l.take i) n m = false
def voided_mu (l : List Deed) (_ : Nat) (vals : List Value) : Nat := l.length - (vI (vals.getD 0 default)).toNat
theorem voided_step {ρ : Rho} {l : List Deed} {k3 k4 : IntKind} {n m : Int} (h1 : ρ.val 1 = some (deedsR l)) (h3 : ρ.val 3 = some (.int k3 n)) (h4 : ρ.val 4 = some (.int k4 m)) (hsy : ρ.sym = sy) (hmax : (l.length : Int) ≤ 1010) (j : Nat) (vals : List Value) (hI : voided_Inv l n m j vals) :
    StepOk voided_D voided_run E0 ρ (voided_Inv l n m) (voided_mu l) j vals := by
  obtain ⟨rfl, i, hi, rfl, hall⟩ := hI
  have hN : voided_D.N = 100 := rfl
  have v1 : (ρ.ext voided_D.N [.int .i64 i]).val 1 = some (deedsR l) := by rw [ext_low _ _ _ _ (by rw [hN]; omega)]; exact h1
  have v3 : (ρ.ext voided_D.N [.int .i64 i]).val 3 = some (.int k3 n) := by rw [ext_low _ _ _ _ (by rw [hN]; omega)]; exact h3
  have v4 : (ρ.ext voided_D.N [.int .i64 i]).val 4 = some (.int k4 m) := by rw [ext_low _ _ _ _ (by rw [hN]; omega)]; exact h4
  have v100 : (ρ.ext voided_D.N [.int .i64 i]).val 100 = some (.int .i64 i) := by rw [ext_high _ _ _ _ (by rw [hN]; omega)]; rfl
  have vs : (ρ.ext voided_D.N [.int .i64 i]).sym = sy := hsy

  refine step_of_ways (voided0_w _) (F := voided0_F) ?_ (AsksL.ok ?_) ?_
  · simp only [voided0_F, FactsIn, X.bool, X.den, denL, d_wrap, d_kind, d_not, d_neg, d_slen, d_add, d_sub, d_mul, d_div, d_mod, d_lt, d_le, d_eq, d_eqb, d_eqs, d_lts, d_cat, d_sat, d_and, d_or, denSub, denIte, asB, fracs_len, fracs_cell, fracs_lsub, deeds_len, deeds_cell, deeds_lsub, v100, Option.some.injEq, Value.bool.injEq, decide_eq_false_iff_not, and_true]
    omega
  · cases hp : l[i]? with
    | none =>
      have hge : ¬ (i : Int) < l.length := by have := List.getElem?_eq_none_iff.1 hp; omega
      simp only [voided0_t, dbz0, voided0_F, AsksL, GTree.asks, FTree.asks, FactsIn, List.append_nil, List.nil_append, List.cons_append, Option.some.injEq, exists_eq', implies_true, and_self, X.bool, X.den, denL, d_wrap, d_kind, d_not, d_neg, d_slen, d_add, d_sub, d_mul, d_div, d_mod, d_lt, d_le, d_eq, d_eqb, d_eqs, d_lts, d_cat, d_sat, d_and, d_or, denSub, denIte, asB, fracs_len, fracs_cell, fracs_lsub, deeds_len, deeds_cell, deeds_lsub, v1, v3, v4, v100, vs, sym20, sym60, sym61, sym62, Int.toNat_natCast, hp, hge]
      simp
    | some p => simp only [voided0_t, dbz0, voided0_F, AsksL, GTree.asks, FTree.asks, FactsIn, List.append_nil, List.nil_append, List.cons_append, Option.some.injEq, exists_eq', implies_true, and_self, X.bool, X.den, denL, d_wrap, d_kind, d_not, d_neg, d_slen, d_add, d_sub, d_mul, d_div, d_mod, d_lt, d_le, d_eq, d_eqb, d_eqs, d_lts, d_cat, d_sat, d_and, d_or, denSub, denIte, asB, fracs_len, fracs_cell, fracs_lsub, deeds_len, deeds_cell, deeds_lsub, v1, v3, v4, v100, vs, sym20, sym60, sym61, sym62, Int.toNat_natCast, hp, Option.bind_some, deed0, deed1, deed2, deed3, deed4, deed5, deed6, deed7, deed8, deed9, deed10]
  · cases hp : l[i]? with
    | none =>
      have hge := List.getElem?_eq_none_iff.1 hp
      have hge' : ¬ (i : Int) < l.length := by omega
      simp only [voided0_l, dbz0, EndsOk, WaysOk, forall_cons, forall_nil, TgtOk, gpair, FactsIn, hold_cons, hold_nil, Option.some.injEq, Value.bool.injEq, Value.int.injEq, decide_eq_true_eq, decide_eq_false_iff_not, and_true, true_and, and_imp, X.bool, X.den, denL, d_wrap, d_kind, d_not, d_neg, d_slen, d_add, d_sub, d_mul, d_div, d_mod, d_lt, d_le, d_eq, d_eqb, d_eqs, d_lts, d_cat, d_sat, d_and, d_or, denSub, denIte, asB, fracs_len, fracs_cell, fracs_lsub, deeds_len, deeds_cell, deeds_lsub, beq_iff_eq, beq_eq_false_iff_ne, ne_eq, v1, v3, v4, h1, h3, h4, v100, vs, hsy, sym20, sym60, sym61, sym62, Int.toNat_natCast, hp, hge']
      have hi' : i = l.length := by omega
      subst hi'
      rw [List.take_length] at hall
      simp [hall]
    | some p =>
      have hlt : i < l.length := (List.getElem?_eq_some_iff.1 hp).1
      have hlt1 : (i : Int) < l.length := by omega
      simp only [voided0_l, dbz0, EndsOk, WaysOk, forall_cons, forall_nil, TgtOk, gpair, FactsIn, hold_cons, hold_nil, Option.some.injEq, Value.bool.injEq, Value.int.injEq, decide_eq_true_eq, decide_eq_false_iff_not, and_true, true_and, and_imp, X.bool, X.den, denL, d_wrap, d_kind, d_not, d_neg, d_slen, d_add, d_sub, d_mul, d_div, d_mod, d_lt, d_le, d_eq, d_eqb, d_eqs, d_lts, d_cat, d_sat, d_and, d_or, denSub, denIte, asB, fracs_len, fracs_cell, fracs_lsub, deeds_len, deeds_cell, deeds_lsub, beq_iff_eq, beq_eq_false_iff_ne, ne_eq, v1, v3, v4, h1, h3, h4, v100, vs, hsy, sym20, sym60, sym61, sym62, Int.toNat_natCast, hp, Option.bind_some, deed0, deed1, deed2, deed3, deed4, deed5, deed6, deed7, deed8, deed9, deed10, hlt1]
      have go : ¬ (p.kind = 6 ∧ p.of_ = n ∧ p.known ≤ m) → ∃ vals', ((ρ.ext voided_D.N vals').val 100 = some (.int .i64 (IntKind.i64.wrap ((i : Int) + 1)))) ∧ voided_Inv l n m 0 vals' ∧ voided_mu l 0 vals' < voided_mu l 0 [.int .i64 i] := by
        intro e
        refine ⟨[.int .i64 ((i + 1 : Nat) : Int)], ?_, ⟨rfl, i + 1, by omega, rfl, gone_next hp hall e⟩, ?_⟩
        · rw [ext_high _ _ _ _ (by rw [hN]; omega), IntWalk.i64_in _ (by omega)]; rfl
        · simp [voided_mu, vI]; omega
      have yes := @gone_at l i p n m hp
      (repeat' apply And.intro) <;> intros <;> first
        | trivial
        | (exfalso; omega)
        | (exact go (by rintro ⟨q1, q2, q3⟩; first | (exact absurd q1 (by assumption)) | (exact absurd q2 (by assumption)) | omega))
        | (exact yes (by assumption) (by assumption) (by omega))
        | (simp_all; done)
noncomputable def voided_con : Con := { f := 145, args := [deedsArg 0 0, .one (.int .i64 3), .one (.int .i64 4)], N := 1, M := 1, pre := [(.app 20 [.var 1], true)], out := .sbool (.app 62 [.var 1, .var 3, .var 4]), news := [] }
noncomputable def voided_call : Env → CallL := fun E => acallAll E (evH E (noL E) ((fun E => oneH 145 (hooks [(2, voided_D.hook E.facts find_vs)])) E) 6)
noncomputable def voided_t : GTree := (.fork (.app 62 [.var 1, .var 3, .var 4]) (.leaf [[]]) (.leaf [[]]))
noncomputable def voided_l : List (List (X × Bool) × Option Pairs) := [([(.app 62 [.var 1, .var 3, .var 4], true), (.app 20 [.var 1], true)], some [(.app 62 [.var 1, .var 3, .var 4], .boo true)]),
  ([(.app 62 [.var 1, .var 3, .var 4], false), (.app 20 [.var 1], true)], some [(.app 62 [.var 1, .var 3, .var 4], .boo false)])]
theorem voided_w (r : Rho) : voided_con.fn.ways voided_call E0 r voided_con.pre voided_t = some voided_l := by kernel_rfl
theorem voided_H {r : Rho} {l : List Deed} {k3 k4 : IntKind} {n m : Int} (h1 : r.val 1 = some (deedsR l)) (h3 : r.val 3 = some (.int k3 n)) (h4 : r.val 4 = some (.int k4 m)) (hmax : (l.length : Int) ≤ 1010) (hsy : r.sym = sy) (F : List (X × Bool)) :
    LoopsOk (E0.with F r) (oneH 145 (hooks [(2, voided_D.hook (E0.with F r).facts find_vs)])) := by
  refine loops_all (n := 1) (fun f fn h => h) (by kernel_rfl) fun i hi => ?_
  obtain rfl : i = 0 := by omega
  rw [hooks_hit (show keyOf (loopAt (E0.with F r).P 145 0) = 2 by kernel_rfl)]
  refine hook_ok (E₀ := E0) (run := voided_run) (ρ := r) (Inv := voided_Inv l n m) (μ := voided_mu l) E0_ok voided_ok (fun F r' h => ?_) (fun _ => ⟨voided_step h1 h3 h4 hsy hmax, [.int .i64 0], ?_, rfl, 0, Nat.zero_le _, rfl, rfl⟩)
  · exact bodyRun_ok E0_ok (noL_ok F (h.trans hsy)) fun _ _ => noLoop_ok
  · simp only [find_vs, X.bool, X.den, denL, d_wrap, d_kind, d_not, d_neg, d_slen, d_add, d_sub, d_mul, d_div, d_mod, d_lt, d_le, d_eq, d_eqb, d_eqs, d_lts, d_cat, d_sat, d_and, d_or, denSub, denIte, asB, fracs_len, fracs_cell, fracs_lsub, deeds_len, deeds_cell, deeds_lsub]
theorem voided_cok : voided_con.Ok Tryz.prog sy := by
  intro r σ w us hsy hρ hpre hrel hins
  obtain ⟨u0, us, rfl, g0, hi⟩ := ins_cons hins
  obtain ⟨u1, us, rfl, g1, hi⟩ := ins_cons hi
  obtain ⟨u2, us, rfl, g2, hi⟩ := ins_cons hi
  obtain ⟨n, k3, rfl, h3⟩ := one_int g1
  obtain ⟨m, k4, rfl, h4⟩ := one_int g2
  rw [hρ] at h3 h4
  obtain ⟨l, h1⟩ := deeds_at hrel (i := 0) rfl
  rw [hρ] at h1
  have h1 : r.val 1 = some (deedsR l) := h1
  have hmax : (l.length : Int) ≤ 1010 := by
    have := hpre.1
    simp only [X.bool, X.den, denL, d_wrap, d_kind, d_not, d_neg, d_slen, d_add, d_sub, d_mul, d_div, d_mod, d_lt, d_le, d_eq, d_eqb, d_eqs, d_lts, d_cat, d_sat, d_and, d_or, denSub, denIte, asB, fracs_len, fracs_cell, fracs_lsub, deeds_len, deeds_cell, deeds_lsub, h1, hsy, sym20, Option.some.injEq, Value.bool.injEq] at this
    exact short_len this
  refine con_of (E := E0) E0_ok E0_glob (sy := sy) (fun F => noL_ok F hsy) (fun F => voided_H h1 h3 h4 hmax hsy F) (voided_w r) hρ hpre hrel hins ?_ ?_
  · simp only [voided_con, voided_t, dbz0, AsksL, GTree.asks, FTree.asks, FactsIn, List.append_nil, List.nil_append, List.cons_append, Option.some.injEq, exists_eq', implies_true, and_self, X.bool, X.den, denL, d_wrap, d_kind, d_not, d_neg, d_slen, d_add, d_sub, d_mul, d_div, d_mod, d_lt, d_le, d_eq, d_eqb, d_eqs, d_lts, d_cat, d_sat, d_and, d_or, denSub, denIte, asB, fracs_len, fracs_cell, fracs_lsub, deeds_len, deeds_cell, deeds_lsub, h1, h3, h4, hsy, sym20, sym60, sym61, sym62]
  · simp only [voided_l, dbz0, EndsOk, WaysOk, forall_cons, forall_nil, TgtOk, gpair, FactsIn, hold_cons, hold_nil, Option.some.injEq, Value.bool.injEq, Value.int.injEq, decide_eq_true_eq, decide_eq_false_iff_not, and_true, true_and, and_imp, X.bool, X.den, denL, d_wrap, d_kind, d_not, d_neg, d_slen, d_add, d_sub, d_mul, d_div, d_mod, d_lt, d_le, d_eq, d_eqb, d_eqs, d_lts, d_cat, d_sat, d_and, d_or, denSub, denIte, asB, fracs_len, fracs_cell, fracs_lsub, deeds_len, deeds_cell, deeds_lsub, beq_iff_eq, beq_eq_false_iff_ne, ne_eq, h1, h3, h4, hsy, sym20, sym60, sym61, sym62, d_ite2]
    clear hsy hρ hpre hrel hins hi g0 g1 g2 h1 h3 h4
    cases q : goneB l n m <;> simp [q]
end Go.Proofs.YtnahicnoofkfgaaGreatDoor.Zs
