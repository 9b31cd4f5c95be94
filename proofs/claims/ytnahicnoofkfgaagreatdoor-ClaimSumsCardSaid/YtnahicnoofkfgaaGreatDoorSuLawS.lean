/-
  The loops of Sum of the package, and the law ClaimSums.
-/
import Derived.Test.YtnahicnoofkfgaaGreatDoorSuConS
import Derived.Test.YtnahicnoofkfgaaGreatDoorSuRunZ
import Derived.KernelRfl
set_option linter.unusedSimpArgs false
set_option linter.unusedVariables false
namespace Go.Proofs.YtnahicnoofkfgaaGreatDoor.Zs
open Go
set_option linter.unusedSimpArgs false
set_option linter.unusedVariables false

noncomputable def orLoop (a b : LoopE) : LoopE := fun f c fr S => match a f c fr S with
  | some r => some r
  | none => b f c fr S
theorem orLoop_ok {E : Env} {a b : LoopE} (ha : LoopsOk E a) (hb : LoopsOk E b) : LoopsOk E (orLoop a b) := by
  intro f fn c hf hc c' hm fr S outs h
  unfold orLoop at h
  split at h
  · rename_i r hr
    cases h
    exact ha f fn c hf hc c' hm fr S _ hr
  · exact hb f fn c hf hc c' hm fr S _ h

noncomputable def P1 : Env → CallE := libs [cLib cValid_con]
theorem P1_ok (F : List (X × Bool)) {r : Rho} (h : r.sym = sy) : CallsOk (E1.with F r) (P1 (E1.with F r)) := libs_ok fun c hc => by
  simp only [List.mem_cons, List.not_mem_nil, or_false] at hc
  subst hc; exact lib_ok (E := E1) cValid_cok F h
noncomputable def P2 : Env → CallE := libs [cLib cwithin_con, cLib cdiv_con, cLib cLow_con]
theorem P2_ok (F : List (X × Bool)) {r : Rho} (h : r.sym = sy) : CallsOk (E1.with F r) (P2 (E1.with F r)) := libs_ok fun c hc => by
  simp only [List.mem_cons, List.not_mem_nil, or_false] at hc
  rcases hc with rfl | rfl | rfl
  · exact lib_ok (E := E1) cwithin_cok F h
  · exact lib_ok (E := E1) cdiv_cok F h
  · exact lib_ok (E := E1) cLow_cok F h
noncomputable def LQ : Env → CallE := libs [cLib rSum_con, cLib cValid_con, cLib cwithin_con, cLib cdiv_con, cLib cLow_con, fun _ => aliveL]
theorem LQ_ok (F : List (X × Bool)) {r : Rho} (h : r.sym = sy) : CallsOk (E1.with F r) (LQ (E1.with F r)) := libs_ok fun c hc => by
  simp only [List.mem_cons, List.not_mem_nil, or_false] at hc
  rcases hc with rfl | rfl | rfl | rfl | rfl | rfl
  · exact lib_ok (E := E1) rSum_cok F h
  · exact lib_ok (E := E1) cValid_cok F h
  · exact lib_ok (E := E1) cwithin_cok F h
  · exact lib_ok (E := E1) cdiv_cok F h
  · exact lib_ok (E := E1) cLow_cok F h
  · exact alive_ok F r
def p_vs1 : List X := [.num 0]
def p_vs2 : List X := [.num 0, .num 0, .num 1]

noncomputable def pVal_D : LoopD := { N := 200, M := 201, size := sizeOfF 29, reads := [(60, .rows 2 fracSch (.var 0) (.var 1) false 23)], pats := [{ slots := [(1, .ptr 100 0), (2, .ptr 101 0), (10, .slx 60 2 (.var 0) (.num 0) (.op1 .len (.var 1)) (.var 2)), (11, .sint .i64 (.op1 .len (.var 1))), (12, .sint .i64 (.var 200))], heap := [(101, .cells [.int .i64 0, .int .i64 0] 23)] }], exits := [(.exit 0, { slots := [(1, .ptr 100 0), (2, .ptr 101 0)], heap := [(101, .cells [.int .i64 0, .int .i64 0] 23)], guard := .app 93 [.var 1] }), (.ret, { slots := [(2, .ptr 101 0), (3, .int .i64 1)], heap := [(101, .cells [.int .i64 0, .int .i64 0] 23)], guard := .op1 .not (.app 93 [.var 1]) })], own := [101], pre := [(.app 21 [.var 1], true)] }
noncomputable def pVal_run : Env → AF → ASt → Option (List Out) := bodyRun P1 6 (fun _ => noLoop) (loopAt Tryz.prog 29 0)
def pVal0_F : List (X × Bool) := [(.op2 .lt (.var 200) (.num 0), false)]
noncomputable def pVal0_t : FTree := (.fork (.op2 .lt (.var 200) (.op1 .len (.var 1))) (.fork (.app 51 [(.cell 0 (.var 1) (.var 200)), (.cell 1 (.var 1) (.var 200))]) (.leaf [(.again 0 [])]) (.leaf [(.leave 1 [])])) (.leaf [(.leave 0 [])]))
noncomputable def pVal0_l : List (List (X × Bool) × Option (List (Tgt × Pairs))) := [([((.app 51 [(.cell 0 (.var 1) (.var 200)), (.cell 1 (.var 1) (.var 200))]), true), ((.op2 .lt (.var 200) (.op1 .len (.var 1))), true), ((.op2 .lt (.var 200) (.num 0)), false)], some [((.again 0 []), [((.var 200), (.op1 (.wrap .i64) (.op2 .add (.var 200) (.num 1))))])]),
  ([((.app 51 [(.cell 0 (.var 1) (.var 200)), (.cell 1 (.var 1) (.var 200))]), false), ((.op2 .lt (.var 200) (.op1 .len (.var 1))), true), ((.op2 .lt (.var 200) (.num 0)), false)], some [((.leave 1 []), [((.op1 .not (.app 93 [(.var 1)])), (.boo true))])]),
  ([((.op2 .lt (.var 200) (.op1 .len (.var 1))), false), ((.op2 .lt (.var 200) (.num 0)), false)], some [((.leave 0 []), [((.app 93 [(.var 1)]), (.boo true))])])]
theorem pVal0_w (r : Rho) : pVal_D.ways pVal_run E1 r 0 pVal0_F pVal0_t = some pVal0_l := by kernel_rfl
theorem pVal_ok : pVal_D.ok = true := by kernel_rfl
def pVal_Inv (l : List Frac) (j : Nat) (vals : List Value) : Prop :=
  j = 0 ∧ ∃ i : Nat, i ≤ l.length ∧ vals = [.int .i64 i] ∧ allValid (l.take i) = true
def pVal_mu (l : List Frac) (_ : Nat) (vals : List Value) : Nat := l.length - (vI (vals.getD 0 default)).toNat
theorem pVal_step {ρ : Rho} {l : List Frac} (h1 : ρ.val 1 = some (fracsR l)) (hsy : ρ.sym = sy) (hmax : (l.length : Int) ≤ 1010) (j : Nat) (vals : List Value) (hI : pVal_Inv l j vals) :
    StepOk pVal_D pVal_run E1 ρ (pVal_Inv l) (pVal_mu l) j vals := by
  obtain ⟨rfl, i, hi, rfl, hall⟩ := hI
  have hN : pVal_D.N = 200 := rfl
  have v1 : (ρ.ext pVal_D.N [.int .i64 i]).val 1 = some (fracsR l) := by rw [ext_low _ _ _ _ (by rw [hN]; omega)]; exact h1
  have v200 : (ρ.ext pVal_D.N [.int .i64 i]).val 200 = some (.int .i64 i) := by rw [ext_high _ _ _ _ (by rw [hN]; omega)]; rfl
  have vs : (ρ.ext pVal_D.N [.int .i64 i]).sym = sy := hsy

  refine step_of_ways (pVal0_w _) (F := pVal0_F) ?_ (AsksL.ok ?_) ?_
  · simp only [pVal0_F, FactsIn, X.bool, X.den, denL, d_wrap, d_kind, d_not, d_neg, d_slen, d_add, d_sub, d_mul, d_div, d_mod, d_lt, d_le, d_eq, d_eqb, d_eqs, d_lts, d_cat, d_sat, d_and, d_or, denSub, denIte, asB, fracs_len, fracs_cell, fracs_lsub, deeds_len, deeds_cell, deeds_lsub, v200, Option.some.injEq, Value.bool.injEq, decide_eq_false_iff_not, and_true]
    omega
  · cases hp : l[i]? with
    | none =>
      have hge : ¬ (i : Int) < l.length := by have := List.getElem?_eq_none_iff.1 hp; omega
      simp only [pVal0_t, pVal0_F, AsksL, GTree.asks, FTree.asks, FactsIn, List.append_nil, List.nil_append, List.cons_append, Option.some.injEq, exists_eq', implies_true, and_self, X.bool, X.den, denL, d_wrap, d_kind, d_not, d_neg, d_slen, d_add, d_sub, d_mul, d_div, d_mod, d_lt, d_le, d_eq, d_eqb, d_eqs, d_lts, d_cat, d_sat, d_and, d_or, denSub, denIte, asB, fracs_len, fracs_cell, fracs_lsub, deeds_len, deeds_cell, deeds_lsub, v1, v200, vs, sym10, sym50, sym51, sym53, sym54, sym55, sym56, sym57, sym58, sym59, sym70, sym71, sym72, sym73, sym74, sym75, sym76, sym77, sym78, sym79, sym80, sym81, sym82, sym83, sym84, sym21, sym90, sym91, sym92, sym93, sym94, sym95, sym96, Int.toNat_natCast, hp, hge]
      simp
    | some p => simp only [pVal0_t, pVal0_F, AsksL, GTree.asks, FTree.asks, FactsIn, List.append_nil, List.nil_append, List.cons_append, Option.some.injEq, exists_eq', implies_true, and_self, X.bool, X.den, denL, d_wrap, d_kind, d_not, d_neg, d_slen, d_add, d_sub, d_mul, d_div, d_mod, d_lt, d_le, d_eq, d_eqb, d_eqs, d_lts, d_cat, d_sat, d_and, d_or, denSub, denIte, asB, fracs_len, fracs_cell, fracs_lsub, deeds_len, deeds_cell, deeds_lsub, v1, v200, vs, sym10, sym50, sym51, sym53, sym54, sym55, sym56, sym57, sym58, sym59, sym70, sym71, sym72, sym73, sym74, sym75, sym76, sym77, sym78, sym79, sym80, sym81, sym82, sym83, sym84, sym21, sym90, sym91, sym92, sym93, sym94, sym95, sym96, Int.toNat_natCast, hp, Option.bind_some, frac0, frac1]
  · cases hp : l[i]? with
    | none =>
      have hge := List.getElem?_eq_none_iff.1 hp
      have hge' : ¬ (i : Int) < l.length := by omega
      simp only [pVal0_l, EndsOk, WaysOk, forall_cons, forall_nil, TgtOk, gpair, FactsIn, hold_cons, hold_nil, Option.some.injEq, Value.bool.injEq, Value.int.injEq, decide_eq_true_eq, decide_eq_false_iff_not, and_true, true_and, and_imp, X.bool, X.den, denL, d_wrap, d_kind, d_not, d_neg, d_slen, d_add, d_sub, d_mul, d_div, d_mod, d_lt, d_le, d_eq, d_eqb, d_eqs, d_lts, d_cat, d_sat, d_and, d_or, denSub, denIte, asB, fracs_len, fracs_cell, fracs_lsub, deeds_len, deeds_cell, deeds_lsub, beq_iff_eq, beq_eq_false_iff_ne, ne_eq, v1, v200, vs, h1, hsy, sym10, sym50, sym51, sym53, sym54, sym55, sym56, sym57, sym58, sym59, sym70, sym71, sym72, sym73, sym74, sym75, sym76, sym77, sym78, sym79, sym80, sym81, sym82, sym83, sym84, sym21, sym90, sym91, sym92, sym93, sym94, sym95, sym96, Int.toNat_natCast, hp, hge']
      have hi' : i = l.length := by omega
      subst hi'
      rw [List.take_length] at hall
      simp [hall]
    | some p =>
      have hlt : i < l.length := (List.getElem?_eq_some_iff.1 hp).1
      have hlt1 : (i : Int) < l.length := by omega
      simp only [pVal0_l, EndsOk, WaysOk, forall_cons, forall_nil, TgtOk, gpair, FactsIn, hold_cons, hold_nil, Option.some.injEq, Value.bool.injEq, Value.int.injEq, decide_eq_true_eq, decide_eq_false_iff_not, and_true, true_and, and_imp, X.bool, X.den, denL, d_wrap, d_kind, d_not, d_neg, d_slen, d_add, d_sub, d_mul, d_div, d_mod, d_lt, d_le, d_eq, d_eqb, d_eqs, d_lts, d_cat, d_sat, d_and, d_or, denSub, denIte, asB, fracs_len, fracs_cell, fracs_lsub, deeds_len, deeds_cell, deeds_lsub, beq_iff_eq, beq_eq_false_iff_ne, ne_eq, v1, v200, vs, h1, hsy, sym10, sym50, sym51, sym53, sym54, sym55, sym56, sym57, sym58, sym59, sym70, sym71, sym72, sym73, sym74, sym75, sym76, sym77, sym78, sym79, sym80, sym81, sym82, sym83, sym84, sym21, sym90, sym91, sym92, sym93, sym94, sym95, sym96, Int.toNat_natCast, hp, Option.bind_some, frac0, frac1, hlt1]
      have go : validB p.num p.den = true → ∃ vals', ((ρ.ext pVal_D.N vals').val 200 = some (.int .i64 (IntKind.i64.wrap ((i : Int) + 1)))) ∧ pVal_Inv l 0 vals' ∧ pVal_mu l 0 vals' < pVal_mu l 0 [.int .i64 i] := by
        intro e
        refine ⟨[.int .i64 ((i + 1 : Nat) : Int)], ?_, ⟨rfl, i + 1, by omega, rfl, valid_next hp hall e⟩, ?_⟩
        · rw [ext_high _ _ _ _ (by rw [hN]; omega), IntWalk.i64_in _ (by omega)]; rfl
        · simp [pVal_mu, vI]; omega
      have no := valid_at hp
      (repeat' apply And.intro) <;> intros <;> first
        | trivial
        | (exfalso; omega)
        | (exact go (by assumption))
        | (rw [no (by assumption)]; rfl)
        | (simp_all; done)
noncomputable def pGo_D : LoopD := { N := 220, M := 223, size := sizeOfF 87, reads := [(60, .rows 2 fracSch (.var 0) (.var 1) false 23)], pats := [{ slots := [(2, .ptr 202 0), (3, .ptr 203 0), (7, .slx 60 2 (.var 0) (.num 0) (.op1 .len (.var 1)) (.var 2)), (8, .sint .i64 (.op1 .len (.var 1))), (9, .sint .i64 (.var 220))], heap := [(203, .cells [.sint .i64 (.var 221), .sint .i64 (.var 222)] 80)] }], exits := [(.exit 0, { slots := [(2, .ptr 202 0), (3, .ptr 203 0)], heap := [(203, .cells [.sint .i64 (.app 94 [.var 1]), .sint .i64 (.app 95 [.var 1])] 80)], guard := .op2 .eq (.app 96 [.var 1]) (.num 0) }), (.panic (.iface 24 (.int .i64 2)), { slots := [], heap := [(203, .cells [.sint .i64 (.app 94 [.var 1]), .sint .i64 (.app 95 [.var 1])] 80)], guard := .op1 .not (.op2 .eq (.app 96 [.var 1]) (.num 0)) })], own := [203], pre := [(.app 21 [.var 1], true), (.app 93 [.var 1], true)] }
noncomputable def pGo_run : Env → AF → ASt → Option (List Out) := bodyRun P2 8 (fun _ => noLoop) (loopAt Tryz.prog 87 0)
def pGo0_F : List (X × Bool) := [(.op2 .lt (.var 220) (.num 0), false)]
noncomputable def pGo0_t : FTree := (.fork (.op2 .lt (.var 220) (.op1 .len (.var 1))) (.fork (.app 58 [(.op1 (.wrap .i64) (.op2 .add (.op1 (.wrap .i64) (.op2 .mul (.var 221) (.cell 1 (.var 1) (.var 220)))) (.op1 (.wrap .i64) (.op2 .mul (.cell 0 (.var 1) (.var 220)) (.var 222))))), (.op1 (.wrap .i64) (.op2 .mul (.var 222) (.cell 1 (.var 1) (.var 220))))]) (.fork (.app 10 [(.app 54 [(.op1 (.wrap .i64) (.op2 .add (.op1 (.wrap .i64) (.op2 .mul (.var 221) (.cell 1 (.var 1) (.var 220)))) (.op1 (.wrap .i64) (.op2 .mul (.cell 0 (.var 1) (.var 220)) (.var 222))))), (.op1 (.wrap .i64) (.op2 .mul (.var 222) (.cell 1 (.var 1) (.var 220))))]), (.num 1), (.num 1000000)]) (.fork (.app 10 [(.app 53 [(.op1 (.wrap .i64) (.op2 .add (.op1 (.wrap .i64) (.op2 .mul (.var 221) (.cell 1 (.var 1) (.var 220)))) (.op1 (.wrap .i64) (.op2 .mul (.cell 0 (.var 1) (.var 220)) (.var 222))))), (.op1 (.wrap .i64) (.op2 .mul (.var 222) (.cell 1 (.var 1) (.var 220))))]), (.num (-1000000000000)), (.num 1000000000000)]) (.leaf [(.again 0 [])]) (.leaf [(.leave 1 [])])) (.leaf [(.leave 1 [])])) .bad) (.leaf [(.leave 0 [])]))
noncomputable def pGo0_l : List (List (X × Bool) × Option (List (Tgt × Pairs))) := [([((.app 10 [(.app 53 [(.op1 (.wrap .i64) (.op2 .add (.op1 (.wrap .i64) (.op2 .mul (.var 221) (.cell 1 (.var 1) (.var 220)))) (.op1 (.wrap .i64) (.op2 .mul (.cell 0 (.var 1) (.var 220)) (.var 222))))), (.op1 (.wrap .i64) (.op2 .mul (.var 222) (.cell 1 (.var 1) (.var 220))))]), (.num (-1000000000000)), (.num 1000000000000)]), true), ((.app 10 [(.app 54 [(.op1 (.wrap .i64) (.op2 .add (.op1 (.wrap .i64) (.op2 .mul (.var 221) (.cell 1 (.var 1) (.var 220)))) (.op1 (.wrap .i64) (.op2 .mul (.cell 0 (.var 1) (.var 220)) (.var 222))))), (.op1 (.wrap .i64) (.op2 .mul (.var 222) (.cell 1 (.var 1) (.var 220))))]), (.num 1), (.num 1000000)]), true), ((.app 58 [(.op1 (.wrap .i64) (.op2 .add (.op1 (.wrap .i64) (.op2 .mul (.var 221) (.cell 1 (.var 1) (.var 220)))) (.op1 (.wrap .i64) (.op2 .mul (.cell 0 (.var 1) (.var 220)) (.var 222))))), (.op1 (.wrap .i64) (.op2 .mul (.var 222) (.cell 1 (.var 1) (.var 220))))]), true), ((.op2 .lt (.var 220) (.op1 .len (.var 1))), true), ((.op2 .lt (.var 220) (.num 0)), false)], some [((.again 0 []), [((.var 220), (.op1 (.wrap .i64) (.op2 .add (.var 220) (.num 1)))), ((.var 221), (.app 53 [(.op1 (.wrap .i64) (.op2 .add (.op1 (.wrap .i64) (.op2 .mul (.var 221) (.cell 1 (.var 1) (.var 220)))) (.op1 (.wrap .i64) (.op2 .mul (.cell 0 (.var 1) (.var 220)) (.var 222))))), (.op1 (.wrap .i64) (.op2 .mul (.var 222) (.cell 1 (.var 1) (.var 220))))])), ((.var 222), (.app 54 [(.op1 (.wrap .i64) (.op2 .add (.op1 (.wrap .i64) (.op2 .mul (.var 221) (.cell 1 (.var 1) (.var 220)))) (.op1 (.wrap .i64) (.op2 .mul (.cell 0 (.var 1) (.var 220)) (.var 222))))), (.op1 (.wrap .i64) (.op2 .mul (.var 222) (.cell 1 (.var 1) (.var 220))))]))])]),
  ([((.app 10 [(.app 53 [(.op1 (.wrap .i64) (.op2 .add (.op1 (.wrap .i64) (.op2 .mul (.var 221) (.cell 1 (.var 1) (.var 220)))) (.op1 (.wrap .i64) (.op2 .mul (.cell 0 (.var 1) (.var 220)) (.var 222))))), (.op1 (.wrap .i64) (.op2 .mul (.var 222) (.cell 1 (.var 1) (.var 220))))]), (.num (-1000000000000)), (.num 1000000000000)]), false), ((.app 10 [(.app 54 [(.op1 (.wrap .i64) (.op2 .add (.op1 (.wrap .i64) (.op2 .mul (.var 221) (.cell 1 (.var 1) (.var 220)))) (.op1 (.wrap .i64) (.op2 .mul (.cell 0 (.var 1) (.var 220)) (.var 222))))), (.op1 (.wrap .i64) (.op2 .mul (.var 222) (.cell 1 (.var 1) (.var 220))))]), (.num 1), (.num 1000000)]), true), ((.app 58 [(.op1 (.wrap .i64) (.op2 .add (.op1 (.wrap .i64) (.op2 .mul (.var 221) (.cell 1 (.var 1) (.var 220)))) (.op1 (.wrap .i64) (.op2 .mul (.cell 0 (.var 1) (.var 220)) (.var 222))))), (.op1 (.wrap .i64) (.op2 .mul (.var 222) (.cell 1 (.var 1) (.var 220))))]), true), ((.op2 .lt (.var 220) (.op1 .len (.var 1))), true), ((.op2 .lt (.var 220) (.num 0)), false)], some [((.leave 1 []), [((.app 94 [(.var 1)]), (.var 221)), ((.app 95 [(.var 1)]), (.var 222)), ((.op1 .not (.op2 .eq (.app 96 [(.var 1)]) (.num 0))), (.boo true))])]),
  ([((.app 10 [(.app 54 [(.op1 (.wrap .i64) (.op2 .add (.op1 (.wrap .i64) (.op2 .mul (.var 221) (.cell 1 (.var 1) (.var 220)))) (.op1 (.wrap .i64) (.op2 .mul (.cell 0 (.var 1) (.var 220)) (.var 222))))), (.op1 (.wrap .i64) (.op2 .mul (.var 222) (.cell 1 (.var 1) (.var 220))))]), (.num 1), (.num 1000000)]), false), ((.app 58 [(.op1 (.wrap .i64) (.op2 .add (.op1 (.wrap .i64) (.op2 .mul (.var 221) (.cell 1 (.var 1) (.var 220)))) (.op1 (.wrap .i64) (.op2 .mul (.cell 0 (.var 1) (.var 220)) (.var 222))))), (.op1 (.wrap .i64) (.op2 .mul (.var 222) (.cell 1 (.var 1) (.var 220))))]), true), ((.op2 .lt (.var 220) (.op1 .len (.var 1))), true), ((.op2 .lt (.var 220) (.num 0)), false)], some [((.leave 1 []), [((.app 94 [(.var 1)]), (.var 221)), ((.app 95 [(.var 1)]), (.var 222)), ((.op1 .not (.op2 .eq (.app 96 [(.var 1)]) (.num 0))), (.boo true))])]),
  ([((.app 58 [(.op1 (.wrap .i64) (.op2 .add (.op1 (.wrap .i64) (.op2 .mul (.var 221) (.cell 1 (.var 1) (.var 220)))) (.op1 (.wrap .i64) (.op2 .mul (.cell 0 (.var 1) (.var 220)) (.var 222))))), (.op1 (.wrap .i64) (.op2 .mul (.var 222) (.cell 1 (.var 1) (.var 220))))]), false), ((.op2 .lt (.var 220) (.op1 .len (.var 1))), true), ((.op2 .lt (.var 220) (.num 0)), false)], none),
  ([((.op2 .lt (.var 220) (.op1 .len (.var 1))), false), ((.op2 .lt (.var 220) (.num 0)), false)], some [((.leave 0 []), [((.app 94 [(.var 1)]), (.var 221)), ((.app 95 [(.var 1)]), (.var 222)), ((.op2 .eq (.app 96 [(.var 1)]) (.num 0)), (.boo true))])])]
theorem pGo0_w (r : Rho) : pGo_D.ways pGo_run E1 r 0 pGo0_F pGo0_t = some pGo0_l := by kernel_rfl
theorem pGo_ok : pGo_D.ok = true := by kernel_rfl
def pGo_Inv (l : List Frac) (j : Nat) (vals : List Value) : Prop :=
  j = 0 ∧ ∃ (i : Nat) (n d : Int), i ≤ l.length ∧ vals = [.int .i64 i, .int .i64 n, .int .i64 d] ∧ validB n d = true ∧ stopR 0 1 l = stopR n d (l.drop i)
def pGo_mu (l : List Frac) (_ : Nat) (vals : List Value) : Nat := l.length - (vI (vals.getD 0 default)).toNat
set_option maxHeartbeats 1000000 in
theorem pGo_step {ρ : Rho} {l : List Frac} (h1 : ρ.val 1 = some (fracsR l)) (hsy : ρ.sym = sy) (hmax : (l.length : Int) ≤ 1010) (hal : allValid l = true) (j : Nat) (vals : List Value) (hI : pGo_Inv l j vals) :
    StepOk pGo_D pGo_run E1 ρ (pGo_Inv l) (pGo_mu l) j vals := by
  obtain ⟨rfl, i, n, d, hi, rfl, hv, hall⟩ := hI
  have hN : pGo_D.N = 220 := rfl
  have v1 : (ρ.ext pGo_D.N [.int .i64 i, .int .i64 n, .int .i64 d]).val 1 = some (fracsR l) := by rw [ext_low _ _ _ _ (by rw [hN]; omega)]; exact h1
  have v220 : (ρ.ext pGo_D.N [.int .i64 i, .int .i64 n, .int .i64 d]).val 220 = some (.int .i64 i) := by rw [ext_high _ _ _ _ (by rw [hN]; omega)]; rfl
  have v221 : (ρ.ext pGo_D.N [.int .i64 i, .int .i64 n, .int .i64 d]).val 221 = some (.int .i64 n) := by rw [ext_high _ _ _ _ (by rw [hN]; omega)]; rfl
  have v222 : (ρ.ext pGo_D.N [.int .i64 i, .int .i64 n, .int .i64 d]).val 222 = some (.int .i64 d) := by rw [ext_high _ _ _ _ (by rw [hN]; omega)]; rfl
  have vs : (ρ.ext pGo_D.N [.int .i64 i, .int .i64 n, .int .i64 d]).sym = sy := hsy

  refine step_of_ways (pGo0_w _) (F := pGo0_F) ?_ (AsksL.ok ?_) ?_
  · simp only [pGo0_F, FactsIn, X.bool, X.den, denL, d_wrap, d_kind, d_not, d_neg, d_slen, d_add, d_sub, d_mul, d_div, d_mod, d_lt, d_le, d_eq, d_eqb, d_eqs, d_lts, d_cat, d_sat, d_and, d_or, denSub, denIte, asB, fracs_len, fracs_cell, fracs_lsub, deeds_len, deeds_cell, deeds_lsub, v220, Option.some.injEq, Value.bool.injEq, decide_eq_false_iff_not, and_true]
    omega
  · cases hp : l[i]? with
    | none =>
      have hge : ¬ (i : Int) < l.length := by have := List.getElem?_eq_none_iff.1 hp; omega
      simp only [pGo0_t, pGo0_F, AsksL, GTree.asks, FTree.asks, FactsIn, List.append_nil, List.nil_append, List.cons_append, Option.some.injEq, exists_eq', implies_true, and_self, X.bool, X.den, denL, d_wrap, d_kind, d_not, d_neg, d_slen, d_add, d_sub, d_mul, d_div, d_mod, d_lt, d_le, d_eq, d_eqb, d_eqs, d_lts, d_cat, d_sat, d_and, d_or, denSub, denIte, asB, fracs_len, fracs_cell, fracs_lsub, deeds_len, deeds_cell, deeds_lsub, v1, v220, v221, v222, vs, sym10, sym50, sym51, sym53, sym54, sym55, sym56, sym57, sym58, sym59, sym70, sym71, sym72, sym73, sym74, sym75, sym76, sym77, sym78, sym79, sym80, sym81, sym82, sym83, sym84, sym21, sym90, sym91, sym92, sym93, sym94, sym95, sym96, Int.toNat_natCast, hp, hge]
      simp
    | some p => simp only [pGo0_t, pGo0_F, AsksL, GTree.asks, FTree.asks, FactsIn, List.append_nil, List.nil_append, List.cons_append, Option.some.injEq, exists_eq', implies_true, and_self, X.bool, X.den, denL, d_wrap, d_kind, d_not, d_neg, d_slen, d_add, d_sub, d_mul, d_div, d_mod, d_lt, d_le, d_eq, d_eqb, d_eqs, d_lts, d_cat, d_sat, d_and, d_or, denSub, denIte, asB, fracs_len, fracs_cell, fracs_lsub, deeds_len, deeds_cell, deeds_lsub, v1, v220, v221, v222, vs, sym10, sym50, sym51, sym53, sym54, sym55, sym56, sym57, sym58, sym59, sym70, sym71, sym72, sym73, sym74, sym75, sym76, sym77, sym78, sym79, sym80, sym81, sym82, sym83, sym84, sym21, sym90, sym91, sym92, sym93, sym94, sym95, sym96, Int.toNat_natCast, hp, Option.bind_some, frac0, frac1]
  · cases hp : l[i]? with
    | none =>
      have hge := List.getElem?_eq_none_iff.1 hp
      have hge' : ¬ (i : Int) < l.length := by omega
      simp only [pGo0_l, EndsOk, WaysOk, forall_cons, forall_nil, TgtOk, gpair, FactsIn, hold_cons, hold_nil, Option.some.injEq, Value.bool.injEq, Value.int.injEq, decide_eq_true_eq, decide_eq_false_iff_not, and_true, true_and, and_imp, X.bool, X.den, denL, d_wrap, d_kind, d_not, d_neg, d_slen, d_add, d_sub, d_mul, d_div, d_mod, d_lt, d_le, d_eq, d_eqb, d_eqs, d_lts, d_cat, d_sat, d_and, d_or, denSub, denIte, asB, fracs_len, fracs_cell, fracs_lsub, deeds_len, deeds_cell, deeds_lsub, beq_iff_eq, beq_eq_false_iff_ne, ne_eq, v1, v220, v221, v222, vs, h1, hsy, sym10, sym50, sym51, sym53, sym54, sym55, sym56, sym57, sym58, sym59, sym70, sym71, sym72, sym73, sym74, sym75, sym76, sym77, sym78, sym79, sym80, sym81, sym82, sym83, sym84, sym21, sym90, sym91, sym92, sym93, sym94, sym95, sym96, Int.toNat_natCast, hp, hge']
      rw [List.drop_eq_nil_of_le hge] at hall
      simp [hall, stopR]
    | some p =>
      have hlt : i < l.length := (List.getElem?_eq_some_iff.1 hp).1
      have hlt1 : (i : Int) < l.length := by omega
      have hpv : validB p.num p.den = true := List.all_eq_true.1 hal p (List.mem_of_getElem? hp)
      rw [stop_step hp] at hall
      obtain ⟨d1, d2, n1, n2, _⟩ := valid_spec hv
      obtain ⟨q1, q2, p1, p2, _⟩ := valid_spec hpv
      have m1 := prod_le ⟨n1, n2⟩ ⟨q1, q2⟩
      have m2 := prod_le ⟨p1, p2⟩ ⟨d1, d2⟩
      have m3 := dens_le ⟨d1, d2⟩ ⟨q1, q2⟩
      have hr : addR n d p.num p.den = lowR (n * p.den + p.num * d) (d * p.den) := by unfold addR; rw [if_pos ⟨hv, hpv⟩]
      simp only [pGo0_l, EndsOk, WaysOk, forall_cons, forall_nil, TgtOk, gpair, FactsIn, hold_cons, hold_nil, Option.some.injEq, Value.bool.injEq, Value.int.injEq, decide_eq_true_eq, decide_eq_false_iff_not, and_true, true_and, and_imp, X.bool, X.den, denL, d_wrap, d_kind, d_not, d_neg, d_slen, d_add, d_sub, d_mul, d_div, d_mod, d_lt, d_le, d_eq, d_eqb, d_eqs, d_lts, d_cat, d_sat, d_and, d_or, denSub, denIte, asB, fracs_len, fracs_cell, fracs_lsub, deeds_len, deeds_cell, deeds_lsub, beq_iff_eq, beq_eq_false_iff_ne, ne_eq, v1, v220, v221, v222, vs, h1, hsy, sym10, sym50, sym51, sym53, sym54, sym55, sym56, sym57, sym58, sym59, sym70, sym71, sym72, sym73, sym74, sym75, sym76, sym77, sym78, sym79, sym80, sym81, sym82, sym83, sym84, sym21, sym90, sym91, sym92, sym93, sym94, sym95, sym96, Int.toNat_natCast, hp, Option.bind_some, frac0, frac1, hlt1]
      rw [hr] at hall
      generalize n * p.den = x at *
      generalize p.num * d = y at *
      generalize d * p.den = z at *
      have e1 : IntKind.i64.wrap x = x := wrap_id ((wide_iff _).2 (by omega))
      have e2 : IntKind.i64.wrap y = y := wrap_id ((wide_iff _).2 (by omega))
      have e3 : IntKind.i64.wrap z = z := wrap_id ((wide_iff _).2 (by omega))
      have e4 : IntKind.i64.wrap (x + y) = x + y := wrap_id ((wide_iff _).2 (by omega))
      have hc : canB (x + y) z = true := (can_iff _ _).2 ⟨(wide_iff _).2 (by omega), (wide_iff _).2 (by omega), by omega⟩
      have hlow := valid_low (n := x + y) (d := z) (by omega)
      simp only [e1, e2, e3, e4, hc]
      have go : lowB (x + y) z = true → ∃ vals', ((ρ.ext pGo_D.N vals').val 220 = some (.int .i64 (IntKind.i64.wrap ((i : Int) + 1))) ∧ (ρ.ext pGo_D.N vals').val 221 = some (.int .i64 (lowN (x + y) z)) ∧ (ρ.ext pGo_D.N vals').val 222 = some (.int .i64 (lowD (x + y) z))) ∧
          pGo_Inv l 0 vals' ∧ pGo_mu l 0 vals' < pGo_mu l 0 [.int .i64 i, .int .i64 n, .int .i64 d] := by
        intro e
        simp only [lowR, e, if_true] at hall
        refine ⟨[.int .i64 ((i + 1 : Nat) : Int), .int .i64 (lowN (x + y) z), .int .i64 (lowD (x + y) z)], ⟨?_, ?_, ?_⟩, ⟨rfl, i + 1, _, _, by omega, rfl, e, hall⟩, ?_⟩
        · rw [ext_high _ _ _ _ (by rw [hN]; omega), IntWalk.i64_in _ (by omega)]; rfl
        · rw [ext_high _ _ _ _ (by rw [hN]; omega)]; rfl
        · rw [ext_high _ _ _ _ (by rw [hN]; omega)]; rfl
        · simp [pGo_mu, vI]; omega
      cases e : lowB (x + y) z with
      | true =>
        have go := go e
        rw [hlow, Bool.and_eq_true] at e
        clear hall h1 hsy v1 v220 v221 v222 vs
        (repeat' apply And.intro) <;> intros <;> first
          | trivial
          | (exfalso; omega)
          | (exact go)
          | (exfalso; simp_all; done)
      | false =>
        simp only [lowR, e, Bool.false_eq_true, if_false] at hall
        rw [if_neg (by decide)] at hall
        rw [hlow] at e
        clear go h1 hsy v1 v220 v221 v222 vs
        rw [hall]
        (repeat' apply And.intro) <;> intros <;> first
          | trivial
          | (exfalso; omega)
          | (exfalso; simp_all; done)
          | (simp_all; done)
noncomputable def sl_fn : FnD := { f := 4, args := argsAV [fracsArg 60 0], heap := hRoot ++ argsBlk [fracsArg 60 0], N := 100, M := 100, out := .sbool (.boo true), news := [] }
noncomputable def sl_call : Env → CallL := fun E => acallAll E (evH E (LQ E) ((fun E => orLoop (oneH 29 (hooks [(4, pVal_D.hook E.facts p_vs1)])) (oneH 87 (hooks [(3, pGo_D.hook E.facts p_vs2)]))) E) 12)
noncomputable def sl_pre : List (X × Bool) := []
noncomputable def sl_t : GTree := (.fork (.op2 .lt (.num 1005) (.op1 .len (.var 1))) (.leaf [[]]) (.fork (.op2 .lt (.num 1000) (.op1 .len (.var 1))) (.fork (.app 21 [(.var 1)]) (.fork (.op2 .eq (.num 0) (.app 90 [(.var 1)])) (.fork (.op2 .eq (.num 0) (.app 91 [(.var 1)])) (.leaf [[]]) (.leaf [[]])) (.leaf [[]])) .bad) (.fork (.app 21 [(.var 1)]) (.fork (.app 93 [(.var 1)]) (.fork (.op2 .eq (.app 96 [(.var 1)]) (.num 0)) (.fork (.op2 .eq (.app 94 [(.var 1)]) (.app 90 [(.var 1)])) (.fork (.op2 .eq (.app 95 [(.var 1)]) (.app 91 [(.var 1)])) (.leaf [[]]) (.leaf [[]])) (.leaf [[]])) (.fork (.op2 .eq (.num 0) (.app 90 [(.var 1)])) (.fork (.op2 .eq (.num 0) (.app 91 [(.var 1)])) (.leaf [[]]) (.leaf [[]])) (.leaf [[]]))) (.fork (.op2 .eq (.num 0) (.app 90 [(.var 1)])) (.fork (.op2 .eq (.num 0) (.app 91 [(.var 1)])) (.leaf [[]]) (.leaf [[]])) (.leaf [[]]))) .bad)))
noncomputable def sl_l : List (List (X × Bool) × Option Pairs) := [([((.op2 .lt (.num 1005) (.op1 .len (.var 1))), true)], some []),
  ([((.op2 .eq (.num 0) (.app 91 [(.var 1)])), true), ((.op2 .eq (.num 0) (.app 90 [(.var 1)])), true), ((.app 21 [(.var 1)]), true), ((.op2 .lt (.num 1000) (.op1 .len (.var 1))), true), ((.op2 .lt (.num 1005) (.op1 .len (.var 1))), false)], some [((.boo true), (.op2 .eq (.num 2) (.app 92 [(.var 1)])))]),
  ([((.op2 .eq (.num 0) (.app 91 [(.var 1)])), false), ((.op2 .eq (.num 0) (.app 90 [(.var 1)])), true), ((.app 21 [(.var 1)]), true), ((.op2 .lt (.num 1000) (.op1 .len (.var 1))), true), ((.op2 .lt (.num 1005) (.op1 .len (.var 1))), false)], some [((.boo true), (.boo false))]),
  ([((.op2 .eq (.num 0) (.app 90 [(.var 1)])), false), ((.app 21 [(.var 1)]), true), ((.op2 .lt (.num 1000) (.op1 .len (.var 1))), true), ((.op2 .lt (.num 1005) (.op1 .len (.var 1))), false)], some [((.boo true), (.boo false))]),
  ([((.app 21 [(.var 1)]), false), ((.op2 .lt (.num 1000) (.op1 .len (.var 1))), true), ((.op2 .lt (.num 1005) (.op1 .len (.var 1))), false)], none),
  ([((.op2 .eq (.app 95 [(.var 1)]) (.app 91 [(.var 1)])), true), ((.op2 .eq (.app 94 [(.var 1)]) (.app 90 [(.var 1)])), true), ((.op2 .eq (.app 96 [(.var 1)]) (.num 0)), true), ((.app 93 [(.var 1)]), true), ((.app 21 [(.var 1)]), true), ((.op2 .lt (.num 1000) (.op1 .len (.var 1))), false), ((.op2 .lt (.num 1005) (.op1 .len (.var 1))), false)], some [((.boo true), (.op2 .eq (.num 0) (.app 92 [(.var 1)])))]),
  ([((.op2 .eq (.app 95 [(.var 1)]) (.app 91 [(.var 1)])), false), ((.op2 .eq (.app 94 [(.var 1)]) (.app 90 [(.var 1)])), true), ((.op2 .eq (.app 96 [(.var 1)]) (.num 0)), true), ((.app 93 [(.var 1)]), true), ((.app 21 [(.var 1)]), true), ((.op2 .lt (.num 1000) (.op1 .len (.var 1))), false), ((.op2 .lt (.num 1005) (.op1 .len (.var 1))), false)], some [((.boo true), (.boo false))]),
  ([((.op2 .eq (.app 94 [(.var 1)]) (.app 90 [(.var 1)])), false), ((.op2 .eq (.app 96 [(.var 1)]) (.num 0)), true), ((.app 93 [(.var 1)]), true), ((.app 21 [(.var 1)]), true), ((.op2 .lt (.num 1000) (.op1 .len (.var 1))), false), ((.op2 .lt (.num 1005) (.op1 .len (.var 1))), false)], some [((.boo true), (.boo false))]),
  ([((.op2 .eq (.num 0) (.app 91 [(.var 1)])), true), ((.op2 .eq (.num 0) (.app 90 [(.var 1)])), true), ((.op2 .eq (.app 96 [(.var 1)]) (.num 0)), false), ((.app 93 [(.var 1)]), true), ((.app 21 [(.var 1)]), true), ((.op2 .lt (.num 1000) (.op1 .len (.var 1))), false), ((.op2 .lt (.num 1005) (.op1 .len (.var 1))), false)], some [((.boo true), (.op2 .eq (.num 2) (.app 92 [(.var 1)])))]),
  ([((.op2 .eq (.num 0) (.app 91 [(.var 1)])), false), ((.op2 .eq (.num 0) (.app 90 [(.var 1)])), true), ((.op2 .eq (.app 96 [(.var 1)]) (.num 0)), false), ((.app 93 [(.var 1)]), true), ((.app 21 [(.var 1)]), true), ((.op2 .lt (.num 1000) (.op1 .len (.var 1))), false), ((.op2 .lt (.num 1005) (.op1 .len (.var 1))), false)], some [((.boo true), (.boo false))]),
  ([((.op2 .eq (.num 0) (.app 90 [(.var 1)])), false), ((.op2 .eq (.app 96 [(.var 1)]) (.num 0)), false), ((.app 93 [(.var 1)]), true), ((.app 21 [(.var 1)]), true), ((.op2 .lt (.num 1000) (.op1 .len (.var 1))), false), ((.op2 .lt (.num 1005) (.op1 .len (.var 1))), false)], some [((.boo true), (.boo false))]),
  ([((.op2 .eq (.num 0) (.app 91 [(.var 1)])), true), ((.op2 .eq (.num 0) (.app 90 [(.var 1)])), true), ((.app 93 [(.var 1)]), false), ((.app 21 [(.var 1)]), true), ((.op2 .lt (.num 1000) (.op1 .len (.var 1))), false), ((.op2 .lt (.num 1005) (.op1 .len (.var 1))), false)], some [((.boo true), (.op2 .eq (.num 1) (.app 92 [(.var 1)])))]),
  ([((.op2 .eq (.num 0) (.app 91 [(.var 1)])), false), ((.op2 .eq (.num 0) (.app 90 [(.var 1)])), true), ((.app 93 [(.var 1)]), false), ((.app 21 [(.var 1)]), true), ((.op2 .lt (.num 1000) (.op1 .len (.var 1))), false), ((.op2 .lt (.num 1005) (.op1 .len (.var 1))), false)], some [((.boo true), (.boo false))]),
  ([((.op2 .eq (.num 0) (.app 90 [(.var 1)])), false), ((.app 93 [(.var 1)]), false), ((.app 21 [(.var 1)]), true), ((.op2 .lt (.num 1000) (.op1 .len (.var 1))), false), ((.op2 .lt (.num 1005) (.op1 .len (.var 1))), false)], some [((.boo true), (.boo false))]),
  ([((.app 21 [(.var 1)]), false), ((.op2 .lt (.num 1000) (.op1 .len (.var 1))), false), ((.op2 .lt (.num 1005) (.op1 .len (.var 1))), false)], none)]
theorem sl_w (r : Rho) : sl_fn.ways sl_call E1 r sl_pre sl_t = some sl_l := by kernel_rfl
theorem stop_two : ∀ (l : List Frac) (n d : Int), validB n d = true → allValid l = true → (stopR n d l).2.2 = 0 ∨ (stopR n d l).2.2 = 2
  | [], n, d, _, _ => .inl rfl
  | x :: l, n, d, hv, ha => by
    have hx : validB x.num x.den = true := List.all_eq_true.1 ha x (by simp)
    have hl : allValid l = true := List.all_eq_true.2 fun y hy => List.all_eq_true.1 ha y (List.mem_cons_of_mem _ hy)
    have hr : addR n d x.num x.den = lowR (n * x.den + x.num * d) (d * x.den) := by unfold addR; rw [if_pos ⟨hv, hx⟩]
    unfold stopR
    rw [hr]
    unfold lowR
    cases e : lowB (n * x.den + x.num * d) (d * x.den) with
    | true =>
      simp only [if_true]
      exact stop_two l _ _ e hl
    | false => right; simp
theorem sl_H {r : Rho} {l : List Frac} (h1 : r.val 1 = some (fracsR l)) (hsy : r.sym = sy) (F : List (X × Bool)) : LoopsOk (E1.with F r) (orLoop (oneH 29 (hooks [(4, pVal_D.hook (E1.with F r).facts p_vs1)])) (oneH 87 (hooks [(3, pGo_D.hook (E1.with F r).facts p_vs2)]))) := by
  refine orLoop_ok (loops_all (n := 1) (fun f fn h => h) (by kernel_rfl) fun i hi => ?_) (loops_all (n := 1) (fun f fn h => h) (by kernel_rfl) fun i hi => ?_)
  · obtain rfl : i = 0 := by omega
    rw [hooks_hit (show keyOf (loopAt (E1.with F r).P 29 0) = 4 by kernel_rfl)]
    refine hook_ok (E₀ := E1) (run := pVal_run) (ρ := r) (Inv := pVal_Inv l) (μ := pVal_mu l) E1_ok pVal_ok (fun F r' h => ?_) (fun hp => ⟨pVal_step h1 hsy (short_len ?_), [.int .i64 0], ?_, rfl, 0, Nat.zero_le _, rfl, rfl⟩)
    · exact bodyRun_ok E1_ok (P1_ok F (h.trans hsy)) fun _ _ => noLoop_ok
    · have := hp.1
      simpa only [X.bool, X.den, denL, d_wrap, d_kind, d_not, d_neg, d_slen, d_add, d_sub, d_mul, d_div, d_mod, d_lt, d_le, d_eq, d_eqb, d_eqs, d_lts, d_cat, d_sat, d_and, d_or, denSub, denIte, asB, fracs_len, fracs_cell, fracs_lsub, deeds_len, deeds_cell, deeds_lsub, h1, hsy, sym21, Option.some.injEq, Value.bool.injEq] using this
    · simp only [p_vs1, X.bool, X.den, denL, d_wrap, d_kind, d_not, d_neg, d_slen, d_add, d_sub, d_mul, d_div, d_mod, d_lt, d_le, d_eq, d_eqb, d_eqs, d_lts, d_cat, d_sat, d_and, d_or, denSub, denIte, asB, fracs_len, fracs_cell, fracs_lsub, deeds_len, deeds_cell, deeds_lsub]
  · obtain rfl : i = 0 := by omega
    rw [hooks_hit (show keyOf (loopAt (E1.with F r).P 87 0) = 3 by kernel_rfl)]
    refine hook_ok (E₀ := E1) (run := pGo_run) (ρ := r) (Inv := pGo_Inv l) (μ := pGo_mu l) E1_ok pGo_ok (fun F r' h => ?_) (fun hp => ⟨pGo_step h1 hsy (short_len ?_) ?_, [.int .i64 0, .int .i64 0, .int .i64 1], ?_, rfl, 0, 0, 1, Nat.zero_le _, rfl, by kernel_rfl, rfl⟩)
    · exact bodyRun_ok E1_ok (P2_ok F (h.trans hsy)) fun _ _ => noLoop_ok
    · have := hp.1
      simpa only [X.bool, X.den, denL, d_wrap, d_kind, d_not, d_neg, d_slen, d_add, d_sub, d_mul, d_div, d_mod, d_lt, d_le, d_eq, d_eqb, d_eqs, d_lts, d_cat, d_sat, d_and, d_or, denSub, denIte, asB, fracs_len, fracs_cell, fracs_lsub, deeds_len, deeds_cell, deeds_lsub, h1, hsy, sym21, Option.some.injEq, Value.bool.injEq] using this
    · have := hp.2.1
      simpa only [X.bool, X.den, denL, d_wrap, d_kind, d_not, d_neg, d_slen, d_add, d_sub, d_mul, d_div, d_mod, d_lt, d_le, d_eq, d_eqb, d_eqs, d_lts, d_cat, d_sat, d_and, d_or, denSub, denIte, asB, fracs_len, fracs_cell, fracs_lsub, deeds_len, deeds_cell, deeds_lsub, h1, hsy, sym93, Option.some.injEq, Value.bool.injEq] using this
    · simp only [p_vs2, X.bool, X.den, denL, d_wrap, d_kind, d_not, d_neg, d_slen, d_add, d_sub, d_mul, d_div, d_mod, d_lt, d_le, d_eq, d_eqb, d_eqs, d_lts, d_cat, d_sat, d_and, d_or, denSub, denIte, asB, fracs_len, fracs_cell, fracs_lsub, deeds_len, deeds_cell, deeds_lsub]
theorem sl_60 : (buildH sl_fn.heap).get 60 = some (.rows 2 fracSch (.var 0) (.var 1) false 23) := by kernel_rfl
theorem sl_out (σ : Sig) : sl_fn.out.inst σ = some (.bool true) := rfl
theorem sl_true {r : Rho} {σ : Sig} {w : World} {us : List Value} (hsy : r.sym = sy) (hρ : σ.rho = r) (hA : ∀ g id, E1.glob g = some id → ∃ κ, σ id = some (g, κ)) (hrel : (memOf sl_fn.heap 100).rel Tryz.prog σ w (fun b => w.heap.size ≤ b)) (hins : Ins σ sl_fn.args us) :
    Calls Tryz.prog 4 us.toArray w fun e w' => e = .returned (.bool true) ∧ Kept (fun b => w.heap.size ≤ b) w w' := by
  obtain ⟨l, h1⟩ := fracs_at hrel (i := 60) sl_60
  rw [hρ] at h1
  have h1 : r.val 1 = some (fracsR l) := h1
  refine law_of (E := E1) (D := sl_fn) E1_ok (fun F => LQ_ok F hsy) (fun F => sl_H h1 hsy F) (sl_w r) hρ hA trivial hrel hins ?_ ?_ sl_out
  · simp only [sl_pre, sl_t, AsksL, GTree.asks, FTree.asks, FactsIn, List.append_nil, List.nil_append, List.cons_append, Option.some.injEq, exists_eq', implies_true, and_self, X.bool, X.den, denL, d_wrap, d_kind, d_not, d_neg, d_slen, d_add, d_sub, d_mul, d_div, d_mod, d_lt, d_le, d_eq, d_eqb, d_eqs, d_lts, d_cat, d_sat, d_and, d_or, denSub, denIte, asB, fracs_len, fracs_cell, fracs_lsub, deeds_len, deeds_cell, deeds_lsub, h1, hsy, sym10, sym50, sym51, sym53, sym54, sym55, sym56, sym57, sym58, sym59, sym70, sym71, sym72, sym73, sym74, sym75, sym76, sym77, sym78, sym79, sym80, sym81, sym82, sym83, sym84, sym21, sym90, sym91, sym92, sym93, sym94, sym95, sym96]
  · simp only [sl_l, EndsOk, WaysOk, forall_cons, forall_nil, TgtOk, gpair, FactsIn, hold_cons, hold_nil, Option.some.injEq, Value.bool.injEq, Value.int.injEq, decide_eq_true_eq, decide_eq_false_iff_not, and_true, true_and, and_imp, X.bool, X.den, denL, d_wrap, d_kind, d_not, d_neg, d_slen, d_add, d_sub, d_mul, d_div, d_mod, d_lt, d_le, d_eq, d_eqb, d_eqs, d_lts, d_cat, d_sat, d_and, d_or, denSub, denIte, asB, fracs_len, fracs_cell, fracs_lsub, deeds_len, deeds_cell, deeds_lsub, beq_iff_eq, beq_eq_false_iff_ne, ne_eq, h1, hsy, sym10, sym50, sym51, sym53, sym54, sym55, sym56, sym57, sym58, sym59, sym70, sym71, sym72, sym73, sym74, sym75, sym76, sym77, sym78, sym79, sym80, sym81, sym82, sym83, sym84, sym21, sym90, sym91, sym92, sym93, sym94, sym95, sym96]
    clear hsy hρ hA hrel hins h1
    have hs : ¬ 1005 < (l.length : Int) → shortB l = true := fun h => len_short (by omega)
    unfold sumR
    by_cases q0 : 1005 < (l.length : Int)
    · have q1 : 1000 < (l.length : Int) := by omega
      simp [q0]
    · have hs := hs q0
      by_cases q1 : 1000 < (l.length : Int)
      · simp [q0, q1, hs]
      · cases q2 : allValid l with
        | false => simp [q0, q1, q2, hs]
        | true =>
          by_cases q3 : (stopR 0 1 l).2.2 = 0
          · simp [q0, q1, q2, q3, hs]
          · have h2 := (stop_two l 0 1 (by kernel_rfl) q2).resolve_left q3
            simp [q0, q1, q2, h2, hs]

noncomputable def LQ0 : Env → CallE := libs [fun _ => aliveL]
theorem LQ0_ok (F : List (X × Bool)) {r : Rho} : CallsOk (E1.with F r) (LQ0 (E1.with F r)) := libs_ok fun c hc => by
  simp only [List.mem_cons, List.not_mem_nil, or_false] at hc
  subst hc; exact alive_ok F r

noncomputable def sn_fn : FnD := { f := 4, args := [.nilslice], heap := hRoot ++ [], N := 100, M := 100, out := .sbool (.boo true), news := [] }
noncomputable def sn_call : Env → CallL := fun E => acallAll E (evH E (LQ0 E) ((fun _ => noLoops) E) 20)
noncomputable def sn_pre : List (X × Bool) := []
noncomputable def sn_t : GTree := (.leaf [[]])
noncomputable def sn_l : List (List (X × Bool) × Option Pairs) := [([], some [])]
theorem sn_w (r : Rho) : sn_fn.ways sn_call E1 r sn_pre sn_t = some sn_l := by kernel_rfl
theorem sn_out (σ : Sig) : sn_fn.out.inst σ = some (.bool true) := rfl
theorem sn_true {r : Rho} {σ : Sig} {w : World} {us : List Value} (hρ : σ.rho = r) (hA : ∀ g id, E1.glob g = some id → ∃ κ, σ id = some (g, κ)) (hrel : (memOf sn_fn.heap 100).rel Tryz.prog σ w (fun b => w.heap.size ≤ b)) (hins : Ins σ sn_fn.args us) :
    Calls Tryz.prog 4 us.toArray w fun e w' => e = .returned (.bool true) ∧ Kept (fun b => w.heap.size ≤ b) w w' := by
  refine law_of (E := E1) (D := sn_fn) E1_ok (fun F => LQ0_ok F) (fun F => noH_ok) (sn_w r) hρ hA trivial hrel hins ?_ ?_ sn_out
  · simp only [sn_pre, sn_t, AsksL, GTree.asks, FTree.asks, FactsIn, List.append_nil, List.nil_append, List.cons_append, Option.some.injEq, exists_eq', implies_true, and_self, X.bool, X.den, denL, d_wrap, d_kind, d_not, d_neg, d_slen, d_add, d_sub, d_mul, d_div, d_mod, d_lt, d_le, d_eq, d_eqb, d_eqs, d_lts, d_cat, d_sat, d_and, d_or, denSub, denIte, asB, fracs_len, fracs_cell, fracs_lsub, deeds_len, deeds_cell, deeds_lsub]
  · simp only [sn_l, EndsOk, WaysOk, forall_cons, forall_nil, TgtOk, gpair, FactsIn, hold_cons, hold_nil, Option.some.injEq, Value.bool.injEq, Value.int.injEq, decide_eq_true_eq, decide_eq_false_iff_not, and_true, true_and, and_imp, X.bool, X.den, denL, d_wrap, d_kind, d_not, d_neg, d_slen, d_add, d_sub, d_mul, d_div, d_mod, d_lt, d_le, d_eq, d_eqb, d_eqs, d_lts, d_cat, d_sat, d_and, d_or, denSub, denIte, asB, fracs_len, fracs_cell, fracs_lsub, deeds_len, deeds_cell, deeds_lsub, beq_iff_eq, beq_eq_false_iff_ne, ne_eq]
    try simp

noncomputable def s1000_fn : FnD := { f := 4, args := [.slice 1 0 0 0 true], heap := hRoot ++ [], N := 100, M := 100, out := .sbool (.boo true), news := [] }
noncomputable def s1000_call : Env → CallL := fun E => acallAll E (evH E (LQ0 E) ((fun _ => noLoops) E) 20)
noncomputable def s1000_pre : List (X × Bool) := []
noncomputable def s1000_t : GTree := (.leaf [[]])
noncomputable def s1000_l : List (List (X × Bool) × Option Pairs) := [([], some [])]
theorem s1000_w (r : Rho) : s1000_fn.ways s1000_call E1 r s1000_pre s1000_t = some s1000_l := by kernel_rfl
theorem s1000_out (σ : Sig) : s1000_fn.out.inst σ = some (.bool true) := rfl
theorem s1000_true {r : Rho} {σ : Sig} {w : World} {us : List Value} (hρ : σ.rho = r) (hA : ∀ g id, E1.glob g = some id → ∃ κ, σ id = some (g, κ)) (hrel : (memOf s1000_fn.heap 100).rel Tryz.prog σ w (fun b => w.heap.size ≤ b)) (hins : Ins σ s1000_fn.args us) :
    Calls Tryz.prog 4 us.toArray w fun e w' => e = .returned (.bool true) ∧ Kept (fun b => w.heap.size ≤ b) w w' := by
  refine law_of (E := E1) (D := s1000_fn) E1_ok (fun F => LQ0_ok F) (fun F => noH_ok) (s1000_w r) hρ hA trivial hrel hins ?_ ?_ s1000_out
  · simp only [s1000_pre, s1000_t, AsksL, GTree.asks, FTree.asks, FactsIn, List.append_nil, List.nil_append, List.cons_append, Option.some.injEq, exists_eq', implies_true, and_self, X.bool, X.den, denL, d_wrap, d_kind, d_not, d_neg, d_slen, d_add, d_sub, d_mul, d_div, d_mod, d_lt, d_le, d_eq, d_eqb, d_eqs, d_lts, d_cat, d_sat, d_and, d_or, denSub, denIte, asB, fracs_len, fracs_cell, fracs_lsub, deeds_len, deeds_cell, deeds_lsub]
  · simp only [s1000_l, EndsOk, WaysOk, forall_cons, forall_nil, TgtOk, gpair, FactsIn, hold_cons, hold_nil, Option.some.injEq, Value.bool.injEq, Value.int.injEq, decide_eq_true_eq, decide_eq_false_iff_not, and_true, true_and, and_imp, X.bool, X.den, denL, d_wrap, d_kind, d_not, d_neg, d_slen, d_add, d_sub, d_mul, d_div, d_mod, d_lt, d_le, d_eq, d_eqb, d_eqs, d_lts, d_cat, d_sat, d_and, d_or, denSub, denIte, asB, fracs_len, fracs_cell, fracs_lsub, deeds_len, deeds_cell, deeds_lsub, beq_iff_eq, beq_eq_false_iff_ne, ne_eq]
    try simp

noncomputable def s1001_fn : FnD := { f := 4, args := [.slice 1 0 0 1 true], heap := hRoot ++ [], N := 100, M := 100, out := .sbool (.boo true), news := [] }
noncomputable def s1001_call : Env → CallL := fun E => acallAll E (evH E (LQ0 E) ((fun _ => noLoops) E) 20)
noncomputable def s1001_pre : List (X × Bool) := []
noncomputable def s1001_t : GTree := (.leaf [[]])
noncomputable def s1001_l : List (List (X × Bool) × Option Pairs) := [([], some [])]
theorem s1001_w (r : Rho) : s1001_fn.ways s1001_call E1 r s1001_pre s1001_t = some s1001_l := by kernel_rfl
theorem s1001_out (σ : Sig) : s1001_fn.out.inst σ = some (.bool true) := rfl
theorem s1001_true {r : Rho} {σ : Sig} {w : World} {us : List Value} (hρ : σ.rho = r) (hA : ∀ g id, E1.glob g = some id → ∃ κ, σ id = some (g, κ)) (hrel : (memOf s1001_fn.heap 100).rel Tryz.prog σ w (fun b => w.heap.size ≤ b)) (hins : Ins σ s1001_fn.args us) :
    Calls Tryz.prog 4 us.toArray w fun e w' => e = .returned (.bool true) ∧ Kept (fun b => w.heap.size ≤ b) w w' := by
  refine law_of (E := E1) (D := s1001_fn) E1_ok (fun F => LQ0_ok F) (fun F => noH_ok) (s1001_w r) hρ hA trivial hrel hins ?_ ?_ s1001_out
  · simp only [s1001_pre, s1001_t, AsksL, GTree.asks, FTree.asks, FactsIn, List.append_nil, List.nil_append, List.cons_append, Option.some.injEq, exists_eq', implies_true, and_self, X.bool, X.den, denL, d_wrap, d_kind, d_not, d_neg, d_slen, d_add, d_sub, d_mul, d_div, d_mod, d_lt, d_le, d_eq, d_eqb, d_eqs, d_lts, d_cat, d_sat, d_and, d_or, denSub, denIte, asB, fracs_len, fracs_cell, fracs_lsub, deeds_len, deeds_cell, deeds_lsub]
  · simp only [s1001_l, EndsOk, WaysOk, forall_cons, forall_nil, TgtOk, gpair, FactsIn, hold_cons, hold_nil, Option.some.injEq, Value.bool.injEq, Value.int.injEq, decide_eq_true_eq, decide_eq_false_iff_not, and_true, true_and, and_imp, X.bool, X.den, denL, d_wrap, d_kind, d_not, d_neg, d_slen, d_add, d_sub, d_mul, d_div, d_mod, d_lt, d_le, d_eq, d_eqb, d_eqs, d_lts, d_cat, d_sat, d_and, d_or, denSub, denIte, asB, fracs_len, fracs_cell, fracs_lsub, deeds_len, deeds_cell, deeds_lsub, beq_iff_eq, beq_eq_false_iff_ne, ne_eq]
    try simp

noncomputable def s1011_fn : FnD := { f := 4, args := [.slice 1 0 1 1 true], heap := hRoot ++ [], N := 100, M := 100, out := .sbool (.boo true), news := [] }
noncomputable def s1011_call : Env → CallL := fun E => acallAll E (evH E (LQ0 E) ((fun _ => noLoops) E) 20)
noncomputable def s1011_pre : List (X × Bool) := []
noncomputable def s1011_t : GTree := (.leaf [[], []])
noncomputable def s1011_l : List (List (X × Bool) × Option Pairs) := [([], some [])]
theorem s1011_w (r : Rho) : s1011_fn.ways s1011_call E1 r s1011_pre s1011_t = some s1011_l := by kernel_rfl
theorem s1011_out (σ : Sig) : s1011_fn.out.inst σ = some (.bool true) := rfl
theorem s1011_true {r : Rho} {σ : Sig} {w : World} {us : List Value} (hρ : σ.rho = r) (hA : ∀ g id, E1.glob g = some id → ∃ κ, σ id = some (g, κ)) (hrel : (memOf s1011_fn.heap 100).rel Tryz.prog σ w (fun b => w.heap.size ≤ b)) (hins : Ins σ s1011_fn.args us) :
    Calls Tryz.prog 4 us.toArray w fun e w' => e = .returned (.bool true) ∧ Kept (fun b => w.heap.size ≤ b) w w' := by
  refine law_of (E := E1) (D := s1011_fn) E1_ok (fun F => LQ0_ok F) (fun F => noH_ok) (s1011_w r) hρ hA trivial hrel hins ?_ ?_ s1011_out
  · simp only [s1011_pre, s1011_t, AsksL, GTree.asks, FTree.asks, FactsIn, List.append_nil, List.nil_append, List.cons_append, Option.some.injEq, exists_eq', implies_true, and_self, X.bool, X.den, denL, d_wrap, d_kind, d_not, d_neg, d_slen, d_add, d_sub, d_mul, d_div, d_mod, d_lt, d_le, d_eq, d_eqb, d_eqs, d_lts, d_cat, d_sat, d_and, d_or, denSub, denIte, asB, fracs_len, fracs_cell, fracs_lsub, deeds_len, deeds_cell, deeds_lsub]
  · simp only [s1011_l, EndsOk, WaysOk, forall_cons, forall_nil, TgtOk, gpair, FactsIn, hold_cons, hold_nil, Option.some.injEq, Value.bool.injEq, Value.int.injEq, decide_eq_true_eq, decide_eq_false_iff_not, and_true, true_and, and_imp, X.bool, X.den, denL, d_wrap, d_kind, d_not, d_neg, d_slen, d_add, d_sub, d_mul, d_div, d_mod, d_lt, d_le, d_eq, d_eqb, d_eqs, d_lts, d_cat, d_sat, d_and, d_or, denSub, denIte, asB, fracs_len, fracs_cell, fracs_lsub, deeds_len, deeds_cell, deeds_lsub, beq_iff_eq, beq_eq_false_iff_ne, ne_eq]
    try simp

noncomputable def s1200_fn : FnD := { f := 4, args := [.slice 1 2 0 0 true], heap := hRoot ++ [], N := 100, M := 100, out := .sbool (.boo true), news := [] }
noncomputable def s1200_call : Env → CallL := fun E => acallAll E (evH E (LQ0 E) ((fun _ => noLoops) E) 20)
noncomputable def s1200_pre : List (X × Bool) := []
noncomputable def s1200_t : GTree := (.leaf [[]])
noncomputable def s1200_l : List (List (X × Bool) × Option Pairs) := [([], some [])]
theorem s1200_w (r : Rho) : s1200_fn.ways s1200_call E1 r s1200_pre s1200_t = some s1200_l := by kernel_rfl
theorem s1200_out (σ : Sig) : s1200_fn.out.inst σ = some (.bool true) := rfl
theorem s1200_true {r : Rho} {σ : Sig} {w : World} {us : List Value} (hρ : σ.rho = r) (hA : ∀ g id, E1.glob g = some id → ∃ κ, σ id = some (g, κ)) (hrel : (memOf s1200_fn.heap 100).rel Tryz.prog σ w (fun b => w.heap.size ≤ b)) (hins : Ins σ s1200_fn.args us) :
    Calls Tryz.prog 4 us.toArray w fun e w' => e = .returned (.bool true) ∧ Kept (fun b => w.heap.size ≤ b) w w' := by
  refine law_of (E := E1) (D := s1200_fn) E1_ok (fun F => LQ0_ok F) (fun F => noH_ok) (s1200_w r) hρ hA trivial hrel hins ?_ ?_ s1200_out
  · simp only [s1200_pre, s1200_t, AsksL, GTree.asks, FTree.asks, FactsIn, List.append_nil, List.nil_append, List.cons_append, Option.some.injEq, exists_eq', implies_true, and_self, X.bool, X.den, denL, d_wrap, d_kind, d_not, d_neg, d_slen, d_add, d_sub, d_mul, d_div, d_mod, d_lt, d_le, d_eq, d_eqb, d_eqs, d_lts, d_cat, d_sat, d_and, d_or, denSub, denIte, asB, fracs_len, fracs_cell, fracs_lsub, deeds_len, deeds_cell, deeds_lsub]
  · simp only [s1200_l, EndsOk, WaysOk, forall_cons, forall_nil, TgtOk, gpair, FactsIn, hold_cons, hold_nil, Option.some.injEq, Value.bool.injEq, Value.int.injEq, decide_eq_true_eq, decide_eq_false_iff_not, and_true, true_and, and_imp, X.bool, X.den, denL, d_wrap, d_kind, d_not, d_neg, d_slen, d_add, d_sub, d_mul, d_div, d_mod, d_lt, d_le, d_eq, d_eqb, d_eqs, d_lts, d_cat, d_sat, d_and, d_or, denSub, denIte, asB, fracs_len, fracs_cell, fracs_lsub, deeds_len, deeds_cell, deeds_lsub, beq_iff_eq, beq_eq_false_iff_ne, ne_eq]
    try simp

noncomputable def s2000_fn : FnD := { f := 4, args := [.slice 2 0 0 0 true], heap := hRoot ++ [], N := 100, M := 100, out := .sbool (.boo true), news := [] }
noncomputable def s2000_call : Env → CallL := fun E => acallAll E (evH E (LQ0 E) ((fun _ => noLoops) E) 20)
noncomputable def s2000_pre : List (X × Bool) := []
noncomputable def s2000_t : GTree := (.leaf [[]])
noncomputable def s2000_l : List (List (X × Bool) × Option Pairs) := [([], some [])]
theorem s2000_w (r : Rho) : s2000_fn.ways s2000_call E1 r s2000_pre s2000_t = some s2000_l := by kernel_rfl
theorem s2000_out (σ : Sig) : s2000_fn.out.inst σ = some (.bool true) := rfl
theorem s2000_true {r : Rho} {σ : Sig} {w : World} {us : List Value} (hρ : σ.rho = r) (hA : ∀ g id, E1.glob g = some id → ∃ κ, σ id = some (g, κ)) (hrel : (memOf s2000_fn.heap 100).rel Tryz.prog σ w (fun b => w.heap.size ≤ b)) (hins : Ins σ s2000_fn.args us) :
    Calls Tryz.prog 4 us.toArray w fun e w' => e = .returned (.bool true) ∧ Kept (fun b => w.heap.size ≤ b) w w' := by
  refine law_of (E := E1) (D := s2000_fn) E1_ok (fun F => LQ0_ok F) (fun F => noH_ok) (s2000_w r) hρ hA trivial hrel hins ?_ ?_ s2000_out
  · simp only [s2000_pre, s2000_t, AsksL, GTree.asks, FTree.asks, FactsIn, List.append_nil, List.nil_append, List.cons_append, Option.some.injEq, exists_eq', implies_true, and_self, X.bool, X.den, denL, d_wrap, d_kind, d_not, d_neg, d_slen, d_add, d_sub, d_mul, d_div, d_mod, d_lt, d_le, d_eq, d_eqb, d_eqs, d_lts, d_cat, d_sat, d_and, d_or, denSub, denIte, asB, fracs_len, fracs_cell, fracs_lsub, deeds_len, deeds_cell, deeds_lsub]
  · simp only [s2000_l, EndsOk, WaysOk, forall_cons, forall_nil, TgtOk, gpair, FactsIn, hold_cons, hold_nil, Option.some.injEq, Value.bool.injEq, Value.int.injEq, decide_eq_true_eq, decide_eq_false_iff_not, and_true, true_and, and_imp, X.bool, X.den, denL, d_wrap, d_kind, d_not, d_neg, d_slen, d_add, d_sub, d_mul, d_div, d_mod, d_lt, d_le, d_eq, d_eqb, d_eqs, d_lts, d_cat, d_sat, d_and, d_or, denSub, denIte, asB, fracs_len, fracs_cell, fracs_lsub, deeds_len, deeds_cell, deeds_lsub, beq_iff_eq, beq_eq_false_iff_ne, ne_eq]
    try simp

noncomputable def s2001_fn : FnD := { f := 4, args := [.slice 2 0 0 1 true], heap := hRoot ++ [], N := 100, M := 100, out := .sbool (.boo true), news := [] }
noncomputable def s2001_call : Env → CallL := fun E => acallAll E (evH E (LQ0 E) ((fun _ => noLoops) E) 20)
noncomputable def s2001_pre : List (X × Bool) := []
noncomputable def s2001_t : GTree := (.leaf [[]])
noncomputable def s2001_l : List (List (X × Bool) × Option Pairs) := [([], some [])]
theorem s2001_w (r : Rho) : s2001_fn.ways s2001_call E1 r s2001_pre s2001_t = some s2001_l := by kernel_rfl
theorem s2001_out (σ : Sig) : s2001_fn.out.inst σ = some (.bool true) := rfl
theorem s2001_true {r : Rho} {σ : Sig} {w : World} {us : List Value} (hρ : σ.rho = r) (hA : ∀ g id, E1.glob g = some id → ∃ κ, σ id = some (g, κ)) (hrel : (memOf s2001_fn.heap 100).rel Tryz.prog σ w (fun b => w.heap.size ≤ b)) (hins : Ins σ s2001_fn.args us) :
    Calls Tryz.prog 4 us.toArray w fun e w' => e = .returned (.bool true) ∧ Kept (fun b => w.heap.size ≤ b) w w' := by
  refine law_of (E := E1) (D := s2001_fn) E1_ok (fun F => LQ0_ok F) (fun F => noH_ok) (s2001_w r) hρ hA trivial hrel hins ?_ ?_ s2001_out
  · simp only [s2001_pre, s2001_t, AsksL, GTree.asks, FTree.asks, FactsIn, List.append_nil, List.nil_append, List.cons_append, Option.some.injEq, exists_eq', implies_true, and_self, X.bool, X.den, denL, d_wrap, d_kind, d_not, d_neg, d_slen, d_add, d_sub, d_mul, d_div, d_mod, d_lt, d_le, d_eq, d_eqb, d_eqs, d_lts, d_cat, d_sat, d_and, d_or, denSub, denIte, asB, fracs_len, fracs_cell, fracs_lsub, deeds_len, deeds_cell, deeds_lsub]
  · simp only [s2001_l, EndsOk, WaysOk, forall_cons, forall_nil, TgtOk, gpair, FactsIn, hold_cons, hold_nil, Option.some.injEq, Value.bool.injEq, Value.int.injEq, decide_eq_true_eq, decide_eq_false_iff_not, and_true, true_and, and_imp, X.bool, X.den, denL, d_wrap, d_kind, d_not, d_neg, d_slen, d_add, d_sub, d_mul, d_div, d_mod, d_lt, d_le, d_eq, d_eqb, d_eqs, d_lts, d_cat, d_sat, d_and, d_or, denSub, denIte, asB, fracs_len, fracs_cell, fracs_lsub, deeds_len, deeds_cell, deeds_lsub, beq_iff_eq, beq_eq_false_iff_ne, ne_eq]
    try simp

noncomputable def s2011_fn : FnD := { f := 4, args := [.slice 2 0 1 1 true], heap := hRoot ++ [], N := 100, M := 100, out := .sbool (.boo true), news := [] }
noncomputable def s2011_call : Env → CallL := fun E => acallAll E (evH E (LQ0 E) ((fun _ => noLoops) E) 20)
noncomputable def s2011_pre : List (X × Bool) := []
noncomputable def s2011_t : GTree := (.leaf [[], []])
noncomputable def s2011_l : List (List (X × Bool) × Option Pairs) := [([], some [])]
theorem s2011_w (r : Rho) : s2011_fn.ways s2011_call E1 r s2011_pre s2011_t = some s2011_l := by kernel_rfl
theorem s2011_out (σ : Sig) : s2011_fn.out.inst σ = some (.bool true) := rfl
theorem s2011_true {r : Rho} {σ : Sig} {w : World} {us : List Value} (hρ : σ.rho = r) (hA : ∀ g id, E1.glob g = some id → ∃ κ, σ id = some (g, κ)) (hrel : (memOf s2011_fn.heap 100).rel Tryz.prog σ w (fun b => w.heap.size ≤ b)) (hins : Ins σ s2011_fn.args us) :
    Calls Tryz.prog 4 us.toArray w fun e w' => e = .returned (.bool true) ∧ Kept (fun b => w.heap.size ≤ b) w w' := by
  refine law_of (E := E1) (D := s2011_fn) E1_ok (fun F => LQ0_ok F) (fun F => noH_ok) (s2011_w r) hρ hA trivial hrel hins ?_ ?_ s2011_out
  · simp only [s2011_pre, s2011_t, AsksL, GTree.asks, FTree.asks, FactsIn, List.append_nil, List.nil_append, List.cons_append, Option.some.injEq, exists_eq', implies_true, and_self, X.bool, X.den, denL, d_wrap, d_kind, d_not, d_neg, d_slen, d_add, d_sub, d_mul, d_div, d_mod, d_lt, d_le, d_eq, d_eqb, d_eqs, d_lts, d_cat, d_sat, d_and, d_or, denSub, denIte, asB, fracs_len, fracs_cell, fracs_lsub, deeds_len, deeds_cell, deeds_lsub]
  · simp only [s2011_l, EndsOk, WaysOk, forall_cons, forall_nil, TgtOk, gpair, FactsIn, hold_cons, hold_nil, Option.some.injEq, Value.bool.injEq, Value.int.injEq, decide_eq_true_eq, decide_eq_false_iff_not, and_true, true_and, and_imp, X.bool, X.den, denL, d_wrap, d_kind, d_not, d_neg, d_slen, d_add, d_sub, d_mul, d_div, d_mod, d_lt, d_le, d_eq, d_eqb, d_eqs, d_lts, d_cat, d_sat, d_and, d_or, denSub, denIte, asB, fracs_len, fracs_cell, fracs_lsub, deeds_len, deeds_cell, deeds_lsub, beq_iff_eq, beq_eq_false_iff_ne, ne_eq]
    try simp

noncomputable def s2200_fn : FnD := { f := 4, args := [.slice 2 2 0 0 true], heap := hRoot ++ [], N := 100, M := 100, out := .sbool (.boo true), news := [] }
noncomputable def s2200_call : Env → CallL := fun E => acallAll E (evH E (LQ0 E) ((fun _ => noLoops) E) 20)
noncomputable def s2200_pre : List (X × Bool) := []
noncomputable def s2200_t : GTree := (.leaf [[]])
noncomputable def s2200_l : List (List (X × Bool) × Option Pairs) := [([], some [])]
theorem s2200_w (r : Rho) : s2200_fn.ways s2200_call E1 r s2200_pre s2200_t = some s2200_l := by kernel_rfl
theorem s2200_out (σ : Sig) : s2200_fn.out.inst σ = some (.bool true) := rfl
theorem s2200_true {r : Rho} {σ : Sig} {w : World} {us : List Value} (hρ : σ.rho = r) (hA : ∀ g id, E1.glob g = some id → ∃ κ, σ id = some (g, κ)) (hrel : (memOf s2200_fn.heap 100).rel Tryz.prog σ w (fun b => w.heap.size ≤ b)) (hins : Ins σ s2200_fn.args us) :
    Calls Tryz.prog 4 us.toArray w fun e w' => e = .returned (.bool true) ∧ Kept (fun b => w.heap.size ≤ b) w w' := by
  refine law_of (E := E1) (D := s2200_fn) E1_ok (fun F => LQ0_ok F) (fun F => noH_ok) (s2200_w r) hρ hA trivial hrel hins ?_ ?_ s2200_out
  · simp only [s2200_pre, s2200_t, AsksL, GTree.asks, FTree.asks, FactsIn, List.append_nil, List.nil_append, List.cons_append, Option.some.injEq, exists_eq', implies_true, and_self, X.bool, X.den, denL, d_wrap, d_kind, d_not, d_neg, d_slen, d_add, d_sub, d_mul, d_div, d_mod, d_lt, d_le, d_eq, d_eqb, d_eqs, d_lts, d_cat, d_sat, d_and, d_or, denSub, denIte, asB, fracs_len, fracs_cell, fracs_lsub, deeds_len, deeds_cell, deeds_lsub]
  · simp only [s2200_l, EndsOk, WaysOk, forall_cons, forall_nil, TgtOk, gpair, FactsIn, hold_cons, hold_nil, Option.some.injEq, Value.bool.injEq, Value.int.injEq, decide_eq_true_eq, decide_eq_false_iff_not, and_true, true_and, and_imp, X.bool, X.den, denL, d_wrap, d_kind, d_not, d_neg, d_slen, d_add, d_sub, d_mul, d_div, d_mod, d_lt, d_le, d_eq, d_eqb, d_eqs, d_lts, d_cat, d_sat, d_and, d_or, denSub, denIte, asB, fracs_len, fracs_cell, fracs_lsub, deeds_len, deeds_cell, deeds_lsub, beq_iff_eq, beq_eq_false_iff_ne, ne_eq]
    try simp

end Go.Proofs.YtnahicnoofkfgaaGreatDoor.Zs
