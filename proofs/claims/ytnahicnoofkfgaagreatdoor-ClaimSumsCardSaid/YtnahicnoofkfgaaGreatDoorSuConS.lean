/-
  Contract of Sum of the reference.
-/
import Derived.Test.YtnahicnoofkfgaaGreatDoorSuConC
import Derived.KernelRfl
set_option linter.unusedSimpArgs false
set_option linter.unusedVariables false
namespace Go.Proofs.YtnahicnoofkfgaaGreatDoor.Zs
open Go
set_option linter.unusedSimpArgs false
set_option linter.unusedVariables false

noncomputable def S1 : Env → CallE := libs [cLib rValid_con]
theorem S1_ok (F : List (X × Bool)) {r : Rho} (h : r.sym = sy) : CallsOk (E0.with F r) (S1 (E0.with F r)) := libs_ok fun c hc => by
  simp only [List.mem_cons, List.not_mem_nil, or_false] at hc
  subst hc; exact lib_ok (E := E0) rValid_cok F h
noncomputable def S2 : Env → CallE := libs [cLib rAdd_con]
theorem S2_ok (F : List (X × Bool)) {r : Rho} (h : r.sym = sy) : CallsOk (E0.with F r) (S2 (E0.with F r)) := libs_ok fun c hc => by
  simp only [List.mem_cons, List.not_mem_nil, or_false] at hc
  subst hc; exact lib_ok (E := E0) rAdd_cok F h
def sum_vs1 : List X := [.num 0]
def sum_vs2 : List X := [.num 0, .num 0, .num 1]

theorem stop_step {n d : Int} {l : List Frac} {i : Nat} {p : Frac} (h : l[i]? = some p) : stopR n d (l.drop i) =
    if (addR n d p.num p.den).2.2 = 0 then stopR (addR n d p.num p.den).1 (addR n d p.num p.den).2.1 (l.drop (i + 1)) else (n, d, (addR n d p.num p.den).2.2) := by
  obtain ⟨hi, rfl⟩ := List.getElem?_eq_some_iff.1 h
  rw [List.drop_eq_getElem_cons hi]
  rfl
theorem valid_at {l : List Frac} {i : Nat} {p : Frac} (h : l[i]? = some p) (hv : validB p.num p.den = false) : allValid l = false := by
  cases ha : allValid l with
  | false => rfl
  | true =>
    have := List.all_eq_true.1 ha p (List.mem_of_getElem? h)
    rw [hv] at this; cases this
theorem valid_next {l : List Frac} {i : Nat} {p : Frac} (h : l[i]? = some p) (ha : allValid (l.take i) = true) (hv : validB p.num p.den = true) : allValid (l.take (i + 1)) = true := by
  unfold allValid at *
  rw [List.take_add_one, h, List.all_append, ha]
  simp [hv]

noncomputable def rVal_D : LoopD := { N := 100, M := 101, size := sizeOfF 30, reads := [(0, .rows 2 fracSch (.var 0) (.var 1) false 23)], pats := [{ slots := [(0, .slx 0 2 (.var 0) (.num 0) (.op1 .len (.var 1)) (.var 2)), (2, .ptr 1 0), (4, .sint .i64 (.var 100))], heap := [(1, .cells [.int .i64 0, .int .i64 0] 23)] }], exits := [(.exit 0, { slots := [(0, .slx 0 2 (.var 0) (.num 0) (.op1 .len (.var 1)) (.var 2)), (2, .ptr 1 0)], heap := [(1, .cells [.int .i64 0, .int .i64 0] 23)], guard := .app 93 [.var 1] }), (.ret, { slots := [(2, .ptr 1 0), (3, .int .i64 1)], heap := [(1, .cells [.int .i64 0, .int .i64 0] 23)], guard := .op1 .not (.app 93 [.var 1]) })], own := [1], pre := [(.app 21 [.var 1], true)] }
noncomputable def rVal_run : Env → AF → ASt → Option (List Out) := bodyRun S1 6 (fun _ => noLoop) (loopAt Tryz.prog 30 0)
def rVal0_F : List (X × Bool) := [(.op2 .lt (.var 100) (.num 0), false)]
noncomputable def rVal0_t : FTree := (.fork (.op2 .lt (.var 100) (.op1 .len (.var 1))) (.fork (.app 51 [(.cell 0 (.var 1) (.var 100)), (.cell 1 (.var 1) (.var 100))]) (.leaf [(.again 0 [])]) (.leaf [(.leave 1 [])])) (.leaf [(.leave 0 [])]))
noncomputable def rVal0_l : List (List (X × Bool) × Option (List (Tgt × Pairs))) := [([((.app 51 [(.cell 0 (.var 1) (.var 100)), (.cell 1 (.var 1) (.var 100))]), true), ((.op2 .lt (.var 100) (.op1 .len (.var 1))), true), ((.op2 .lt (.var 100) (.num 0)), false)], some [((.again 0 []), [((.var 100), (.op1 (.wrap .i64) (.op2 .add (.var 100) (.num 1))))])]),
  ([((.app 51 [(.cell 0 (.var 1) (.var 100)), (.cell 1 (.var 1) (.var 100))]), false), ((.op2 .lt (.var 100) (.op1 .len (.var 1))), true), ((.op2 .lt (.var 100) (.num 0)), false)], some [((.leave 1 []), [((.op1 .not (.app 93 [(.var 1)])), (.boo true))])]),
  ([((.op2 .lt (.var 100) (.op1 .len (.var 1))), false), ((.op2 .lt (.var 100) (.num 0)), false)], some [((.leave 0 []), [((.app 93 [(.var 1)]), (.boo true))])])]
theorem rVal0_w (r : Rho) : rVal_D.ways rVal_run E0 r 0 rVal0_F rVal0_t = some rVal0_l := by kernel_rfl
theorem rVal_ok : rVal_D.ok = true := by kernel_rfl
def rVal_Inv (l : List Frac) (j : Nat) (vals : List Value) : Prop :=
  j = 0 ∧ ∃ i : Nat, i ≤ l.length ∧ vals = [.int .i64 i] ∧ allValid (l.take i) = true
def rVal_mu (l : List Frac) (_ : Nat) (vals : List Value) : Nat := l.length - (vI (vals.getD 0 default)).toNat
theorem rVal_step {ρ : Rho} {l : List Frac} (h1 : ρ.val 1 = some (fracsR l)) (hsy : ρ.sym = sy) (hmax : (l.length : Int) ≤ 1010) (j : Nat) (vals : List Value) (hI : rVal_Inv l j vals) :
    StepOk rVal_D rVal_run E0 ρ (rVal_Inv l) (rVal_mu l) j vals := by
  obtain ⟨rfl, i, hi, rfl, hall⟩ := hI
  have hN : rVal_D.N = 100 := rfl
  have v1 : (ρ.ext rVal_D.N [.int .i64 i]).val 1 = some (fracsR l) := by rw [ext_low _ _ _ _ (by rw [hN]; omega)]; exact h1
  have v100 : (ρ.ext rVal_D.N [.int .i64 i]).val 100 = some (.int .i64 i) := by rw [ext_high _ _ _ _ (by rw [hN]; omega)]; rfl
  have vs : (ρ.ext rVal_D.N [.int .i64 i]).sym = sy := hsy

  refine step_of_ways (rVal0_w _) (F := rVal0_F) ?_ (AsksL.ok ?_) ?_
  · simp only [rVal0_F, FactsIn, X.bool, X.den, denL, d_wrap, d_kind, d_not, d_neg, d_slen, d_add, d_sub, d_mul, d_div, d_mod, d_lt, d_le, d_eq, d_eqb, d_eqs, d_lts, d_cat, d_sat, d_and, d_or, denSub, denIte, asB, fracs_len, fracs_cell, fracs_lsub, deeds_len, deeds_cell, deeds_lsub, v100, Option.some.injEq, Value.bool.injEq, decide_eq_false_iff_not, and_true]
    omega
  · cases hp : l[i]? with
    | none =>
      have hge : ¬ (i : Int) < l.length := by have := List.getElem?_eq_none_iff.1 hp; omega
      simp only [rVal0_t, rVal0_F, AsksL, GTree.asks, FTree.asks, FactsIn, List.append_nil, List.nil_append, List.cons_append, Option.some.injEq, exists_eq', implies_true, and_self, X.bool, X.den, denL, d_wrap, d_kind, d_not, d_neg, d_slen, d_add, d_sub, d_mul, d_div, d_mod, d_lt, d_le, d_eq, d_eqb, d_eqs, d_lts, d_cat, d_sat, d_and, d_or, denSub, denIte, asB, fracs_len, fracs_cell, fracs_lsub, deeds_len, deeds_cell, deeds_lsub, v1, v100, vs, sym10, sym50, sym51, sym53, sym54, sym55, sym56, sym57, sym58, sym59, sym70, sym71, sym72, sym73, sym74, sym75, sym76, sym77, sym78, sym79, sym80, sym81, sym82, sym83, sym84, sym21, sym90, sym91, sym92, sym93, sym94, sym95, sym96, Int.toNat_natCast, hp, hge]
      simp
    | some p => simp only [rVal0_t, rVal0_F, AsksL, GTree.asks, FTree.asks, FactsIn, List.append_nil, List.nil_append, List.cons_append, Option.some.injEq, exists_eq', implies_true, and_self, X.bool, X.den, denL, d_wrap, d_kind, d_not, d_neg, d_slen, d_add, d_sub, d_mul, d_div, d_mod, d_lt, d_le, d_eq, d_eqb, d_eqs, d_lts, d_cat, d_sat, d_and, d_or, denSub, denIte, asB, fracs_len, fracs_cell, fracs_lsub, deeds_len, deeds_cell, deeds_lsub, v1, v100, vs, sym10, sym50, sym51, sym53, sym54, sym55, sym56, sym57, sym58, sym59, sym70, sym71, sym72, sym73, sym74, sym75, sym76, sym77, sym78, sym79, sym80, sym81, sym82, sym83, sym84, sym21, sym90, sym91, sym92, sym93, sym94, sym95, sym96, Int.toNat_natCast, hp, Option.bind_some, frac0, frac1]
  · cases hp : l[i]? with
    | none =>
      have hge := List.getElem?_eq_none_iff.1 hp
      have hge' : ¬ (i : Int) < l.length := by omega
      simp only [rVal0_l, EndsOk, WaysOk, forall_cons, forall_nil, TgtOk, gpair, FactsIn, hold_cons, hold_nil, Option.some.injEq, Value.bool.injEq, Value.int.injEq, decide_eq_true_eq, decide_eq_false_iff_not, and_true, true_and, and_imp, X.bool, X.den, denL, d_wrap, d_kind, d_not, d_neg, d_slen, d_add, d_sub, d_mul, d_div, d_mod, d_lt, d_le, d_eq, d_eqb, d_eqs, d_lts, d_cat, d_sat, d_and, d_or, denSub, denIte, asB, fracs_len, fracs_cell, fracs_lsub, deeds_len, deeds_cell, deeds_lsub, beq_iff_eq, beq_eq_false_iff_ne, ne_eq, v1, v100, vs, h1, hsy, sym10, sym50, sym51, sym53, sym54, sym55, sym56, sym57, sym58, sym59, sym70, sym71, sym72, sym73, sym74, sym75, sym76, sym77, sym78, sym79, sym80, sym81, sym82, sym83, sym84, sym21, sym90, sym91, sym92, sym93, sym94, sym95, sym96, Int.toNat_natCast, hp, hge']
      have hi' : i = l.length := by omega
      subst hi'
      rw [List.take_length] at hall
      simp [hall]
    | some p =>
      have hlt : i < l.length := (List.getElem?_eq_some_iff.1 hp).1
      have hlt1 : (i : Int) < l.length := by omega
      simp only [rVal0_l, EndsOk, WaysOk, forall_cons, forall_nil, TgtOk, gpair, FactsIn, hold_cons, hold_nil, Option.some.injEq, Value.bool.injEq, Value.int.injEq, decide_eq_true_eq, decide_eq_false_iff_not, and_true, true_and, and_imp, X.bool, X.den, denL, d_wrap, d_kind, d_not, d_neg, d_slen, d_add, d_sub, d_mul, d_div, d_mod, d_lt, d_le, d_eq, d_eqb, d_eqs, d_lts, d_cat, d_sat, d_and, d_or, denSub, denIte, asB, fracs_len, fracs_cell, fracs_lsub, deeds_len, deeds_cell, deeds_lsub, beq_iff_eq, beq_eq_false_iff_ne, ne_eq, v1, v100, vs, h1, hsy, sym10, sym50, sym51, sym53, sym54, sym55, sym56, sym57, sym58, sym59, sym70, sym71, sym72, sym73, sym74, sym75, sym76, sym77, sym78, sym79, sym80, sym81, sym82, sym83, sym84, sym21, sym90, sym91, sym92, sym93, sym94, sym95, sym96, Int.toNat_natCast, hp, Option.bind_some, frac0, frac1, hlt1]
      have go : validB p.num p.den = true → ∃ vals', ((ρ.ext rVal_D.N vals').val 100 = some (.int .i64 (IntKind.i64.wrap ((i : Int) + 1)))) ∧ rVal_Inv l 0 vals' ∧ rVal_mu l 0 vals' < rVal_mu l 0 [.int .i64 i] := by
        intro e
        refine ⟨[.int .i64 ((i + 1 : Nat) : Int)], ?_, ⟨rfl, i + 1, by omega, rfl, valid_next hp hall e⟩, ?_⟩
        · rw [ext_high _ _ _ _ (by rw [hN]; omega), IntWalk.i64_in _ (by omega)]; rfl
        · simp [rVal_mu, vI]; omega
      have no := valid_at hp
      (repeat' apply And.intro) <;> intros <;> first
        | trivial
        | (exfalso; omega)
        | (exact go (by assumption))
        | (rw [no (by assumption)]; rfl)
        | (simp_all; done)
noncomputable def rGo_D : LoopD := { N := 110, M := 113, size := sizeOfF 30, reads := [(0, .rows 2 fracSch (.var 0) (.var 1) false 23)], pats := [{ slots := [(0, .slx 0 2 (.var 0) (.num 0) (.op1 .len (.var 1)) (.var 2)), (2, .ptr 1 0), (6, .ptr 101 0), (7, .sint .i64 (.var 110))], heap := [(1, .cells [.int .i64 0, .int .i64 0] 23), (101, .cells [.sint .i64 (.var 111), .sint .i64 (.var 112)] 23)] }], exits := [(.exit 2, { slots := [(2, .ptr 1 0), (6, .ptr 101 0)], heap := [(1, .cells [.int .i64 0, .int .i64 0] 23), (101, .cells [.sint .i64 (.app 94 [.var 1]), .sint .i64 (.app 95 [.var 1])] 23)], guard := .op2 .eq (.app 96 [.var 1]) (.num 0) }), (.ret, { slots := [(2, .ptr 1 0), (3, .sint .i64 (.app 96 [.var 1]))], heap := [(1, .cells [.int .i64 0, .int .i64 0] 23), (101, .cells [.sint .i64 (.app 94 [.var 1]), .sint .i64 (.app 95 [.var 1])] 23)], guard := .op1 .not (.op2 .eq (.app 96 [.var 1]) (.num 0)) })], own := [1, 101], pre := [(.app 21 [.var 1], true)] }
noncomputable def rGo_run : Env → AF → ASt → Option (List Out) := bodyRun S2 6 (fun _ => noLoop) (loopAt Tryz.prog 30 1)
def rGo0_F : List (X × Bool) := [(.op2 .lt (.var 110) (.num 0), false)]
noncomputable def rGo0_t : FTree := (.fork (.op2 .lt (.var 110) (.op1 .len (.var 1))) (.fork (.op2 .eq (.app 75 [(.var 111), (.var 112), (.cell 0 (.var 1) (.var 110)), (.cell 1 (.var 1) (.var 110))]) (.num 0)) (.leaf [(.again 0 [])]) (.leaf [(.leave 1 [])])) (.leaf [(.leave 0 [])]))
noncomputable def rGo0_l : List (List (X × Bool) × Option (List (Tgt × Pairs))) := [([((.op2 .eq (.app 75 [(.var 111), (.var 112), (.cell 0 (.var 1) (.var 110)), (.cell 1 (.var 1) (.var 110))]) (.num 0)), true), ((.op2 .lt (.var 110) (.op1 .len (.var 1))), true), ((.op2 .lt (.var 110) (.num 0)), false)], some [((.again 0 []), [((.var 110), (.op1 (.wrap .i64) (.op2 .add (.var 110) (.num 1)))), ((.var 111), (.app 73 [(.var 111), (.var 112), (.cell 0 (.var 1) (.var 110)), (.cell 1 (.var 1) (.var 110))])), ((.var 112), (.app 74 [(.var 111), (.var 112), (.cell 0 (.var 1) (.var 110)), (.cell 1 (.var 1) (.var 110))]))])]),
  ([((.op2 .eq (.app 75 [(.var 111), (.var 112), (.cell 0 (.var 1) (.var 110)), (.cell 1 (.var 1) (.var 110))]) (.num 0)), false), ((.op2 .lt (.var 110) (.op1 .len (.var 1))), true), ((.op2 .lt (.var 110) (.num 0)), false)], some [((.leave 1 []), [((.app 96 [(.var 1)]), (.app 75 [(.var 111), (.var 112), (.cell 0 (.var 1) (.var 110)), (.cell 1 (.var 1) (.var 110))])), ((.app 94 [(.var 1)]), (.var 111)), ((.app 95 [(.var 1)]), (.var 112)), ((.op1 .not (.op2 .eq (.app 96 [(.var 1)]) (.num 0))), (.boo true))])]),
  ([((.op2 .lt (.var 110) (.op1 .len (.var 1))), false), ((.op2 .lt (.var 110) (.num 0)), false)], some [((.leave 0 []), [((.app 94 [(.var 1)]), (.var 111)), ((.app 95 [(.var 1)]), (.var 112)), ((.op2 .eq (.app 96 [(.var 1)]) (.num 0)), (.boo true))])])]
theorem rGo0_w (r : Rho) : rGo_D.ways rGo_run E0 r 0 rGo0_F rGo0_t = some rGo0_l := by kernel_rfl
theorem rGo_ok : rGo_D.ok = true := by kernel_rfl
def rGo_Inv (l : List Frac) (j : Nat) (vals : List Value) : Prop :=
  j = 0 ∧ ∃ (i : Nat) (n d : Int), i ≤ l.length ∧ vals = [.int .i64 i, .int .i64 n, .int .i64 d] ∧ stopR 0 1 l = stopR n d (l.drop i)
def rGo_mu (l : List Frac) (_ : Nat) (vals : List Value) : Nat := l.length - (vI (vals.getD 0 default)).toNat
theorem rGo_step {ρ : Rho} {l : List Frac} (h1 : ρ.val 1 = some (fracsR l)) (hsy : ρ.sym = sy) (hmax : (l.length : Int) ≤ 1010) (j : Nat) (vals : List Value) (hI : rGo_Inv l j vals) :
    StepOk rGo_D rGo_run E0 ρ (rGo_Inv l) (rGo_mu l) j vals := by
  obtain ⟨rfl, i, n, d, hi, rfl, hall⟩ := hI
  have hN : rGo_D.N = 110 := rfl
  have v1 : (ρ.ext rGo_D.N [.int .i64 i, .int .i64 n, .int .i64 d]).val 1 = some (fracsR l) := by rw [ext_low _ _ _ _ (by rw [hN]; omega)]; exact h1
  have v110 : (ρ.ext rGo_D.N [.int .i64 i, .int .i64 n, .int .i64 d]).val 110 = some (.int .i64 i) := by rw [ext_high _ _ _ _ (by rw [hN]; omega)]; rfl
  have v111 : (ρ.ext rGo_D.N [.int .i64 i, .int .i64 n, .int .i64 d]).val 111 = some (.int .i64 n) := by rw [ext_high _ _ _ _ (by rw [hN]; omega)]; rfl
  have v112 : (ρ.ext rGo_D.N [.int .i64 i, .int .i64 n, .int .i64 d]).val 112 = some (.int .i64 d) := by rw [ext_high _ _ _ _ (by rw [hN]; omega)]; rfl
  have vs : (ρ.ext rGo_D.N [.int .i64 i, .int .i64 n, .int .i64 d]).sym = sy := hsy

  refine step_of_ways (rGo0_w _) (F := rGo0_F) ?_ (AsksL.ok ?_) ?_
  · simp only [rGo0_F, FactsIn, X.bool, X.den, denL, d_wrap, d_kind, d_not, d_neg, d_slen, d_add, d_sub, d_mul, d_div, d_mod, d_lt, d_le, d_eq, d_eqb, d_eqs, d_lts, d_cat, d_sat, d_and, d_or, denSub, denIte, asB, fracs_len, fracs_cell, fracs_lsub, deeds_len, deeds_cell, deeds_lsub, v110, Option.some.injEq, Value.bool.injEq, decide_eq_false_iff_not, and_true]
    omega
  · cases hp : l[i]? with
    | none =>
      have hge : ¬ (i : Int) < l.length := by have := List.getElem?_eq_none_iff.1 hp; omega
      simp only [rGo0_t, rGo0_F, AsksL, GTree.asks, FTree.asks, FactsIn, List.append_nil, List.nil_append, List.cons_append, Option.some.injEq, exists_eq', implies_true, and_self, X.bool, X.den, denL, d_wrap, d_kind, d_not, d_neg, d_slen, d_add, d_sub, d_mul, d_div, d_mod, d_lt, d_le, d_eq, d_eqb, d_eqs, d_lts, d_cat, d_sat, d_and, d_or, denSub, denIte, asB, fracs_len, fracs_cell, fracs_lsub, deeds_len, deeds_cell, deeds_lsub, v1, v110, v111, v112, vs, sym10, sym50, sym51, sym53, sym54, sym55, sym56, sym57, sym58, sym59, sym70, sym71, sym72, sym73, sym74, sym75, sym76, sym77, sym78, sym79, sym80, sym81, sym82, sym83, sym84, sym21, sym90, sym91, sym92, sym93, sym94, sym95, sym96, Int.toNat_natCast, hp, hge]
      simp
    | some p => simp only [rGo0_t, rGo0_F, AsksL, GTree.asks, FTree.asks, FactsIn, List.append_nil, List.nil_append, List.cons_append, Option.some.injEq, exists_eq', implies_true, and_self, X.bool, X.den, denL, d_wrap, d_kind, d_not, d_neg, d_slen, d_add, d_sub, d_mul, d_div, d_mod, d_lt, d_le, d_eq, d_eqb, d_eqs, d_lts, d_cat, d_sat, d_and, d_or, denSub, denIte, asB, fracs_len, fracs_cell, fracs_lsub, deeds_len, deeds_cell, deeds_lsub, v1, v110, v111, v112, vs, sym10, sym50, sym51, sym53, sym54, sym55, sym56, sym57, sym58, sym59, sym70, sym71, sym72, sym73, sym74, sym75, sym76, sym77, sym78, sym79, sym80, sym81, sym82, sym83, sym84, sym21, sym90, sym91, sym92, sym93, sym94, sym95, sym96, Int.toNat_natCast, hp, Option.bind_some, frac0, frac1]
  · cases hp : l[i]? with
    | none =>
      have hge := List.getElem?_eq_none_iff.1 hp
      have hge' : ¬ (i : Int) < l.length := by omega
      simp only [rGo0_l, EndsOk, WaysOk, forall_cons, forall_nil, TgtOk, gpair, FactsIn, hold_cons, hold_nil, Option.some.injEq, Value.bool.injEq, Value.int.injEq, decide_eq_true_eq, decide_eq_false_iff_not, and_true, true_and, and_imp, X.bool, X.den, denL, d_wrap, d_kind, d_not, d_neg, d_slen, d_add, d_sub, d_mul, d_div, d_mod, d_lt, d_le, d_eq, d_eqb, d_eqs, d_lts, d_cat, d_sat, d_and, d_or, denSub, denIte, asB, fracs_len, fracs_cell, fracs_lsub, deeds_len, deeds_cell, deeds_lsub, beq_iff_eq, beq_eq_false_iff_ne, ne_eq, v1, v110, v111, v112, vs, h1, hsy, sym10, sym50, sym51, sym53, sym54, sym55, sym56, sym57, sym58, sym59, sym70, sym71, sym72, sym73, sym74, sym75, sym76, sym77, sym78, sym79, sym80, sym81, sym82, sym83, sym84, sym21, sym90, sym91, sym92, sym93, sym94, sym95, sym96, Int.toNat_natCast, hp, hge']
      rw [List.drop_eq_nil_of_le hge] at hall
      simp [hall, stopR]
    | some p =>
      have hlt : i < l.length := (List.getElem?_eq_some_iff.1 hp).1
      have hlt1 : (i : Int) < l.length := by omega
      rw [stop_step hp] at hall
      simp only [rGo0_l, EndsOk, WaysOk, forall_cons, forall_nil, TgtOk, gpair, FactsIn, hold_cons, hold_nil, Option.some.injEq, Value.bool.injEq, Value.int.injEq, decide_eq_true_eq, decide_eq_false_iff_not, and_true, true_and, and_imp, X.bool, X.den, denL, d_wrap, d_kind, d_not, d_neg, d_slen, d_add, d_sub, d_mul, d_div, d_mod, d_lt, d_le, d_eq, d_eqb, d_eqs, d_lts, d_cat, d_sat, d_and, d_or, denSub, denIte, asB, fracs_len, fracs_cell, fracs_lsub, deeds_len, deeds_cell, deeds_lsub, beq_iff_eq, beq_eq_false_iff_ne, ne_eq, v1, v110, v111, v112, vs, h1, hsy, sym10, sym50, sym51, sym53, sym54, sym55, sym56, sym57, sym58, sym59, sym70, sym71, sym72, sym73, sym74, sym75, sym76, sym77, sym78, sym79, sym80, sym81, sym82, sym83, sym84, sym21, sym90, sym91, sym92, sym93, sym94, sym95, sym96, Int.toNat_natCast, hp, Option.bind_some, frac0, frac1, hlt1]
      have go : (addR n d p.num p.den).2.2 = 0 → ∃ vals', ((ρ.ext rGo_D.N vals').val 110 = some (.int .i64 (IntKind.i64.wrap ((i : Int) + 1))) ∧ (ρ.ext rGo_D.N vals').val 111 = some (.int .i64 (addR n d p.num p.den).1) ∧ (ρ.ext rGo_D.N vals').val 112 = some (.int .i64 (addR n d p.num p.den).2.1)) ∧
          rGo_Inv l 0 vals' ∧ rGo_mu l 0 vals' < rGo_mu l 0 [.int .i64 i, .int .i64 n, .int .i64 d] := by
        intro e
        rw [if_pos e] at hall
        refine ⟨[.int .i64 ((i + 1 : Nat) : Int), .int .i64 (addR n d p.num p.den).1, .int .i64 (addR n d p.num p.den).2.1], ⟨?_, ?_, ?_⟩, ⟨rfl, i + 1, _, _, by omega, rfl, hall⟩, ?_⟩
        · rw [ext_high _ _ _ _ (by rw [hN]; omega), IntWalk.i64_in _ (by omega)]; rfl
        · rw [ext_high _ _ _ _ (by rw [hN]; omega)]; rfl
        · rw [ext_high _ _ _ _ (by rw [hN]; omega)]; rfl
        · simp [rGo_mu, vI]; omega
      by_cases e : (addR n d p.num p.den).2.2 = 0
      · (repeat' apply And.intro) <;> intros <;> first
          | trivial
          | (exfalso; omega)
          | (exact go e)
          | (exfalso; simp_all; done)
      · rw [if_neg e] at hall
        rw [hall]
        (repeat' apply And.intro) <;> intros <;> first
          | trivial
          | (exfalso; omega)
          | (exfalso; simp_all; done)
          | (simp_all; done)
noncomputable def rSum_con : Con := { f := 30, args := [fracsArg 0 0], N := 1, M := 1, pre := [(.app 21 [.var 1], true)], out := .tuple [.agg [.sint .i64 (.app 90 [.var 1]), .sint .i64 (.app 91 [.var 1])], .sint .i64 (.app 92 [.var 1])], news := [] }
noncomputable def rSum_call : Env → CallL := fun E => acallAll E (evH E (noL E) ((fun E => oneH 30 (hooks [(4, rVal_D.hook E.facts sum_vs1), (11, rGo_D.hook E.facts sum_vs2)])) E) 6)
noncomputable def rSum_t : GTree := (.fork (.op2 .lt (.num 1000) (.op1 .len (.var 1))) (.leaf [[]]) (.fork (.app 93 [(.var 1)]) (.fork (.op2 .eq (.app 96 [(.var 1)]) (.num 0)) (.leaf [[]]) (.leaf [[]])) (.leaf [[]])))
noncomputable def rSum_l : List (List (X × Bool) × Option Pairs) := [([((.op2 .lt (.num 1000) (.op1 .len (.var 1))), true), ((.app 21 [(.var 1)]), true)], some [((.app 90 [(.var 1)]), (.num 0)), ((.app 91 [(.var 1)]), (.num 0)), ((.app 92 [(.var 1)]), (.num 2))]),
  ([((.op2 .eq (.app 96 [(.var 1)]) (.num 0)), true), ((.app 93 [(.var 1)]), true), ((.op2 .lt (.num 1000) (.op1 .len (.var 1))), false), ((.app 21 [(.var 1)]), true)], some [((.app 90 [(.var 1)]), (.app 94 [(.var 1)])), ((.app 91 [(.var 1)]), (.app 95 [(.var 1)])), ((.app 92 [(.var 1)]), (.num 0))]),
  ([((.op2 .eq (.app 96 [(.var 1)]) (.num 0)), false), ((.app 93 [(.var 1)]), true), ((.op2 .lt (.num 1000) (.op1 .len (.var 1))), false), ((.app 21 [(.var 1)]), true)], some [((.app 90 [(.var 1)]), (.num 0)), ((.app 91 [(.var 1)]), (.num 0)), ((.app 92 [(.var 1)]), (.app 96 [(.var 1)]))]),
  ([((.app 93 [(.var 1)]), false), ((.op2 .lt (.num 1000) (.op1 .len (.var 1))), false), ((.app 21 [(.var 1)]), true)], some [((.app 90 [(.var 1)]), (.num 0)), ((.app 91 [(.var 1)]), (.num 0)), ((.app 92 [(.var 1)]), (.num 1))])]
theorem rSum_w (r : Rho) : rSum_con.fn.ways rSum_call E0 r rSum_con.pre rSum_t = some rSum_l := by kernel_rfl
theorem rSum_H {r : Rho} {l : List Frac} (h1 : r.val 1 = some (fracsR l)) (hsh : shortB l = true) (hsy : r.sym = sy) (F : List (X × Bool)) : LoopsOk (E0.with F r) (oneH 30 (hooks [(4, rVal_D.hook (E0.with F r).facts sum_vs1), (11, rGo_D.hook (E0.with F r).facts sum_vs2)])) := by
  have hmax := short_len hsh
  refine loops_all (n := 2) (fun f fn h => h) (by kernel_rfl) fun i hi => ?_
  rcases (show i = 0 ∨ i = 1 by omega) with rfl | rfl
  · rw [hooks_hit (show keyOf (loopAt (E0.with F r).P 30 0) = 4 by kernel_rfl)]
    refine hook_ok (E₀ := E0) (run := rVal_run) (ρ := r) (Inv := rVal_Inv l) (μ := rVal_mu l) E0_ok rVal_ok (fun F r' h => ?_) (fun _ => ⟨rVal_step h1 hsy hmax, [.int .i64 0], ?_, rfl, 0, Nat.zero_le _, rfl, rfl⟩)
    · exact bodyRun_ok E0_ok (S1_ok F (h.trans hsy)) fun _ _ => noLoop_ok
    · simp only [sum_vs1, X.bool, X.den, denL, d_wrap, d_kind, d_not, d_neg, d_slen, d_add, d_sub, d_mul, d_div, d_mod, d_lt, d_le, d_eq, d_eqb, d_eqs, d_lts, d_cat, d_sat, d_and, d_or, denSub, denIte, asB, fracs_len, fracs_cell, fracs_lsub, deeds_len, deeds_cell, deeds_lsub]
  · rw [hooks_miss (show Nat.beq (keyOf (loopAt (E0.with F r).P 30 1)) 4 = false by kernel_rfl), hooks_hit (show keyOf (loopAt (E0.with F r).P 30 1) = 11 by kernel_rfl)]
    refine hook_ok (E₀ := E0) (run := rGo_run) (ρ := r) (Inv := rGo_Inv l) (μ := rGo_mu l) E0_ok rGo_ok (fun F r' h => ?_) (fun _ => ⟨rGo_step h1 hsy hmax, [.int .i64 0, .int .i64 0, .int .i64 1], ?_, rfl, 0, 0, 1, Nat.zero_le _, rfl, rfl⟩)
    · exact bodyRun_ok E0_ok (S2_ok F (h.trans hsy)) fun _ _ => noLoop_ok
    · simp only [sum_vs2, X.bool, X.den, denL, d_wrap, d_kind, d_not, d_neg, d_slen, d_add, d_sub, d_mul, d_div, d_mod, d_lt, d_le, d_eq, d_eqb, d_eqs, d_lts, d_cat, d_sat, d_and, d_or, denSub, denIte, asB, fracs_len, fracs_cell, fracs_lsub, deeds_len, deeds_cell, deeds_lsub]
theorem rSum_cok : rSum_con.Ok Tryz.prog sy := by
  intro r σ w us hsy hρ hpre hrel hins
  obtain ⟨l, h1⟩ := fracs_at hrel (i := 0) rfl
  rw [hρ] at h1
  have h1 : r.val 1 = some (fracsR l) := h1
  have hsh : shortB l = true := by
    have := hpre.1
    simpa only [X.bool, X.den, denL, d_wrap, d_kind, d_not, d_neg, d_slen, d_add, d_sub, d_mul, d_div, d_mod, d_lt, d_le, d_eq, d_eqb, d_eqs, d_lts, d_cat, d_sat, d_and, d_or, denSub, denIte, asB, fracs_len, fracs_cell, fracs_lsub, deeds_len, deeds_cell, deeds_lsub, h1, hsy, sym21, Option.some.injEq, Value.bool.injEq] using this
  refine con_of (E := E0) E0_ok E0_glob (sy := sy) (fun F => noL_ok F hsy) (fun F => rSum_H h1 hsh hsy F) (rSum_w r) hρ hpre hrel hins ?_ ?_
  · simp only [rSum_con, rSum_t, AsksL, GTree.asks, FTree.asks, FactsIn, List.append_nil, List.nil_append, List.cons_append, Option.some.injEq, exists_eq', implies_true, and_self, X.bool, X.den, denL, d_wrap, d_kind, d_not, d_neg, d_slen, d_add, d_sub, d_mul, d_div, d_mod, d_lt, d_le, d_eq, d_eqb, d_eqs, d_lts, d_cat, d_sat, d_and, d_or, denSub, denIte, asB, fracs_len, fracs_cell, fracs_lsub, deeds_len, deeds_cell, deeds_lsub, h1, hsy, sym10, sym50, sym51, sym53, sym54, sym55, sym56, sym57, sym58, sym59, sym70, sym71, sym72, sym73, sym74, sym75, sym76, sym77, sym78, sym79, sym80, sym81, sym82, sym83, sym84, sym21, sym90, sym91, sym92, sym93, sym94, sym95, sym96]
  · simp only [rSum_l, EndsOk, WaysOk, forall_cons, forall_nil, TgtOk, gpair, FactsIn, hold_cons, hold_nil, Option.some.injEq, Value.bool.injEq, Value.int.injEq, decide_eq_true_eq, decide_eq_false_iff_not, and_true, true_and, and_imp, X.bool, X.den, denL, d_wrap, d_kind, d_not, d_neg, d_slen, d_add, d_sub, d_mul, d_div, d_mod, d_lt, d_le, d_eq, d_eqb, d_eqs, d_lts, d_cat, d_sat, d_and, d_or, denSub, denIte, asB, fracs_len, fracs_cell, fracs_lsub, deeds_len, deeds_cell, deeds_lsub, beq_iff_eq, beq_eq_false_iff_ne, ne_eq, h1, hsy, sym10, sym50, sym51, sym53, sym54, sym55, sym56, sym57, sym58, sym59, sym70, sym71, sym72, sym73, sym74, sym75, sym76, sym77, sym78, sym79, sym80, sym81, sym82, sym83, sym84, sym21, sym90, sym91, sym92, sym93, sym94, sym95, sym96]
    clear hsy hρ hpre hrel hins h1 hsh
    unfold sumR
    by_cases q1 : 1000 < (l.length : Int)
    · simp [q1]
    · cases q2 : allValid l with
      | false => simp [q1, q2]
      | true =>
        by_cases q3 : (stopR 0 1 l).2.2 = 0
        · simp [q1, q2, q3]
        · simp [q1, q2, q3]
end Go.Proofs.YtnahicnoofkfgaaGreatDoor.Zs
