/-
  Contracts of Check and Append of the reference.
-/
import Derived.Test.YtnahicnoofkfgaaGreatDoorDeDeedD
import Derived.KernelRfl
import Derived.Test.YtnahicnoofkfgaaGreatDoorDeFrac
set_option linter.unusedSimpArgs false
set_option linter.unusedVariables false
namespace Go.Proofs.YtnahicnoofkfgaaGreatDoor.Zs
open Go
set_option linter.unusedSimpArgs false
set_option linter.unusedVariables false

theorem chkD_step {l : List Deed} {k : Nat} {p : Deed} (hp : l[k]? = some p) : chkD (l.take k) (l.drop k) = if refusedD (l.take k) p = 0 then chkD (l.take (k + 1)) (l.drop (k + 1)) else (k, refusedD (l.take k) p) := by
  obtain ⟨hlt, he⟩ := List.getElem?_eq_some_iff.1 hp
  rw [List.drop_eq_getElem_cons hlt, he, chkD, List.take_add_one, hp]
  simp only [Option.toList_some, List.length_take, Nat.min_eq_left (Nat.le_of_lt hlt)]
theorem chkD00 : ∀ (l pre : List Deed), (chkD pre l).2 = 0 → (chkD pre l).1 = 0
  | [], pre, _ => rfl
  | p :: r, pre, h => by
    simp only [chkD] at h ⊢
    split
    · rename_i e
      rw [if_pos e] at h
      exact chkD00 r _ h
    · rename_i e
      rw [if_neg e] at h
      exact absurd h e
theorem check00 (l : List Deed) : (checkD l).2 = 0 → (checkD l).1 = 0 := chkD00 l []

noncomputable def D2 : Env → CallE := libs [cLib refused_con]
theorem D2_ok (F : List (X × Bool)) {r : Rho} (h : r.sym = sy) : CallsOk (E0.with F r) (D2 (E0.with F r)) := libs_ok fun c hc => by
  simp only [List.mem_cons, List.not_mem_nil, or_false] at hc
  subst hc; exact lib_ok (E := E0) refused_cok F h

noncomputable def rChk_D : LoopD := { N := 100, M := 101, size := sizeOfF 32, reads := [(0, .rows 11 deedSch (.var 0) (.var 1) false 37)], pats := [{ slots := [(0, .slx 0 11 (.var 0) (.num 0) (.op1 .len (.var 1)) (.var 2)), (4, .sint .i64 (.var 100))], heap := [] }], exits := [(.exit 0, { slots := [], heap := [], guard := .op2 .eq (.app 6 [.var 1]) (.num 0) }), (.ret, { slots := [(2, .sint .i64 (.app 5 [.var 1])), (3, .sint .i64 (.app 6 [.var 1]))], heap := [], guard := .op1 .not (.op2 .eq (.app 6 [.var 1]) (.num 0)) })], own := [], pre := [(.app 20 [.var 1], true)] }
noncomputable def rChk_run : Env → AF → ASt → Option (List Out) := bodyRun D2 3 (fun _ => noLoop) (loopAt Tryz.prog 32 0)
def rChk0_F : List (X × Bool) := [(.op2 .lt (.var 100) (.num 0), false)]
def dez0 : X := .app 4 [(.lsub (.var 1) (.num 0) (.var 100)), (.cell 0 (.var 1) (.var 100)), (.cell 1 (.var 1) (.var 100)), (.cell 2 (.var 1) (.var 100)), (.cell 3 (.var 1) (.var 100)), (.cell 4 (.var 1) (.var 100)), (.cell 5 (.var 1) (.var 100)), (.cell 6 (.var 1) (.var 100)), (.cell 7 (.var 1) (.var 100)), (.cell 8 (.var 1) (.var 100)), (.cell 9 (.var 1) (.var 100)), (.cell 10 (.var 1) (.var 100))]
noncomputable def rChk0_t : FTree := (.fork (.op2 .lt (.var 100) (.op1 .len (.var 1))) (.fork (.op2 .lt (.var 2) (.var 100)) .bad (.fork (.op2 .lt (.op1 .len (.var 1)) (.var 100)) .bad (.fork (.app 20 [.lsub (.var 1) (.num 0) (.var 100)]) (.fork (.op2 .eq dez0 (.num 0)) (.leaf [.again 0 []]) (.leaf [.leave 1 []])) .bad))) (.leaf [.leave 0 []]))
noncomputable def rChk0_l : List (List (X × Bool) × Option (List (Tgt × Pairs))) := [([(.op2 .lt (.var 2) (.var 100), true), (.op2 .lt (.var 100) (.op1 .len (.var 1)), true), (.op2 .lt (.var 100) (.num 0), false)], none),
  ([(.op2 .lt (.op1 .len (.var 1)) (.var 100), true), (.op2 .lt (.var 2) (.var 100), false), (.op2 .lt (.var 100) (.op1 .len (.var 1)), true), (.op2 .lt (.var 100) (.num 0), false)], none),
  ([(.op2 .eq dez0 (.num 0), true), (.app 20 [.lsub (.var 1) (.num 0) (.var 100)], true), (.op2 .lt (.op1 .len (.var 1)) (.var 100), false), (.op2 .lt (.var 2) (.var 100), false), (.op2 .lt (.var 100) (.op1 .len (.var 1)), true), (.op2 .lt (.var 100) (.num 0), false)], some [(.again 0 [], [(.var 100, .op1 (.wrap .i64) (.op2 .add (.var 100) (.num 1)))])]),
  ([(.op2 .eq dez0 (.num 0), false), (.app 20 [.lsub (.var 1) (.num 0) (.var 100)], true), (.op2 .lt (.op1 .len (.var 1)) (.var 100), false), (.op2 .lt (.var 2) (.var 100), false), (.op2 .lt (.var 100) (.op1 .len (.var 1)), true), (.op2 .lt (.var 100) (.num 0), false)], some [(.leave 1 [], [(.app 5 [.var 1], .var 100), (.app 6 [.var 1], dez0), (.op1 .not (.op2 .eq (.app 6 [.var 1]) (.num 0)), .boo true)])]),
  ([(.app 20 [.lsub (.var 1) (.num 0) (.var 100)], false), (.op2 .lt (.op1 .len (.var 1)) (.var 100), false), (.op2 .lt (.var 2) (.var 100), false), (.op2 .lt (.var 100) (.op1 .len (.var 1)), true), (.op2 .lt (.var 100) (.num 0), false)], none),
  ([(.op2 .lt (.var 100) (.op1 .len (.var 1)), false), (.op2 .lt (.var 100) (.num 0), false)], some [(.leave 0 [], [(.op2 .eq (.app 6 [.var 1]) (.num 0), .boo true)])])]
theorem rChk0_w (r : Rho) : rChk_D.ways rChk_run E0 r 0 rChk0_F rChk0_t = some rChk0_l := by kernel_rfl
theorem rChk_ok : rChk_D.ok = true := by kernel_rfl
def rChk_Inv (l : List Deed) (j : Nat) (vals : List Value) : Prop :=
  j = 0 ∧ ∃ i : Nat, i ≤ l.length ∧ vals = [.int .i64 i] ∧ checkD l = chkD (l.take i) (l.drop i)
def rChk_mu (l : List Deed) (_ : Nat) (vals : List Value) : Nat := l.length - (vI (vals.getD 0 default)).toNat
theorem rChk_step {ρ : Rho} {l : List Deed} {kc : IntKind} {cap : Int} (h1 : ρ.val 1 = some (deedsR l)) (h2 : ρ.val 2 = some (.int kc cap)) (hcap : (l.length : Int) ≤ cap) (hsy : ρ.sym = sy) (hsh : shortB l = true) (j : Nat) (vals : List Value) (hI : rChk_Inv l j vals) :
    StepOk rChk_D rChk_run E0 ρ (rChk_Inv l) (rChk_mu l) j vals := by
  obtain ⟨rfl, i, hi, rfl, hall⟩ := hI
  have hN : rChk_D.N = 100 := rfl
  have hmax := short_len hsh
  have v1 : (ρ.ext rChk_D.N [.int .i64 i]).val 1 = some (deedsR l) := by rw [ext_low _ _ _ _ (by rw [hN]; omega)]; exact h1
  have v2 : (ρ.ext rChk_D.N [.int .i64 i]).val 2 = some (.int kc cap) := by rw [ext_low _ _ _ _ (by rw [hN]; omega)]; exact h2
  have v100 : (ρ.ext rChk_D.N [.int .i64 i]).val 100 = some (.int .i64 i) := by rw [ext_high _ _ _ _ (by rw [hN]; omega)]; rfl
  have vs : (ρ.ext rChk_D.N [.int .i64 i]).sym = sy := hsy

  have hl20 : shortB (l.take i) = true := short_take hsh i
  refine step_of_ways (rChk0_w _) (F := rChk0_F) ?_ (AsksL.ok ?_) ?_
  · simp only [rChk0_F, FactsIn, X.bool, X.den, denL, d_wrap, d_kind, d_not, d_neg, d_slen, d_add, d_sub, d_mul, d_div, d_mod, d_lt, d_le, d_eq, d_eqb, d_eqs, d_lts, d_cat, d_sat, d_and, d_or, denSub, denIte, asB, fracs_len, fracs_cell, fracs_lsub, deeds_len, deeds_cell, deeds_lsub, v100, Option.some.injEq, Value.bool.injEq, decide_eq_false_iff_not, and_true]
    omega
  · cases hp : l[i]? with
    | none =>
      have hge : ¬ (i : Int) < l.length := by have := List.getElem?_eq_none_iff.1 hp; omega
      simp only [rChk0_t, dez0, rChk0_F, AsksL, GTree.asks, FTree.asks, FactsIn, List.append_nil, List.nil_append, List.cons_append, Option.some.injEq, exists_eq', implies_true, and_self, X.bool, X.den, denL, d_wrap, d_kind, d_not, d_neg, d_slen, d_add, d_sub, d_mul, d_div, d_mod, d_lt, d_le, d_eq, d_eqb, d_eqs, d_lts, d_cat, d_sat, d_and, d_or, denSub, denIte, asB, fracs_len, fracs_cell, fracs_lsub, deeds_len, deeds_cell, deeds_lsub, v1, v2, v100, vs, sym4, sym5, sym6, sym20, Int.toNat_natCast, Int.toNat_zero, List.drop_zero, hp, hge]
      simp
    | some p => simp only [rChk0_t, dez0, rChk0_F, AsksL, GTree.asks, FTree.asks, FactsIn, List.append_nil, List.nil_append, List.cons_append, Option.some.injEq, exists_eq', implies_true, and_self, X.bool, X.den, denL, d_wrap, d_kind, d_not, d_neg, d_slen, d_add, d_sub, d_mul, d_div, d_mod, d_lt, d_le, d_eq, d_eqb, d_eqs, d_lts, d_cat, d_sat, d_and, d_or, denSub, denIte, asB, fracs_len, fracs_cell, fracs_lsub, deeds_len, deeds_cell, deeds_lsub, v1, v2, v100, vs, sym4, sym5, sym6, sym20, Int.toNat_natCast, Int.toNat_zero, List.drop_zero, hp, Option.bind_some, deed0, deed1, deed2, deed3, deed4, deed5, deed6, deed7, deed8, deed9, deed10]
  · cases hp : l[i]? with
    | none =>
      have hge := List.getElem?_eq_none_iff.1 hp
      have hge' : ¬ (i : Int) < l.length := by omega
      simp only [rChk0_l, dez0, EndsOk, WaysOk, forall_cons, forall_nil, TgtOk, gpair, FactsIn, hold_cons, hold_nil, Option.some.injEq, Value.bool.injEq, Value.int.injEq, decide_eq_true_eq, decide_eq_false_iff_not, and_true, true_and, and_imp, X.bool, X.den, denL, d_wrap, d_kind, d_not, d_neg, d_slen, d_add, d_sub, d_mul, d_div, d_mod, d_lt, d_le, d_eq, d_eqb, d_eqs, d_lts, d_cat, d_sat, d_and, d_or, denSub, denIte, asB, fracs_len, fracs_cell, fracs_lsub, deeds_len, deeds_cell, deeds_lsub, beq_iff_eq, beq_eq_false_iff_ne, ne_eq, v1, v2, v100, vs, h1, h2, hsy, sym4, sym5, sym6, sym20, Int.toNat_natCast, Int.toNat_zero, List.drop_zero, hp, hge']
      have hi' : i = l.length := by omega
      subst hi'
      rw [List.drop_length] at hall
      simp [hall, chkD]
    | some p =>
      have hlt : i < l.length := (List.getElem?_eq_some_iff.1 hp).1
      have hlt1 : (i : Int) < l.length := by omega
      rw [chkD_step hp] at hall
      simp only [rChk0_l, dez0, EndsOk, WaysOk, forall_cons, forall_nil, TgtOk, gpair, FactsIn, hold_cons, hold_nil, Option.some.injEq, Value.bool.injEq, Value.int.injEq, decide_eq_true_eq, decide_eq_false_iff_not, and_true, true_and, and_imp, X.bool, X.den, denL, d_wrap, d_kind, d_not, d_neg, d_slen, d_add, d_sub, d_mul, d_div, d_mod, d_lt, d_le, d_eq, d_eqb, d_eqs, d_lts, d_cat, d_sat, d_and, d_or, denSub, denIte, asB, fracs_len, fracs_cell, fracs_lsub, deeds_len, deeds_cell, deeds_lsub, beq_iff_eq, beq_eq_false_iff_ne, ne_eq, v1, v2, v100, vs, h1, h2, hsy, sym4, sym5, sym6, sym20, Int.toNat_natCast, Int.toNat_zero, List.drop_zero, hp, Option.bind_some, deed0, deed1, deed2, deed3, deed4, deed5, deed6, deed7, deed8, deed9, deed10, hlt1, hl20]
      have go : refusedD (l.take i) p = 0 →
          ∃ vals', ((ρ.ext rChk_D.N vals').val 100 = some (.int .i64 (IntKind.i64.wrap ((i : Int) + 1)))) ∧
            rChk_Inv l 0 vals' ∧ rChk_mu l 0 vals' < rChk_mu l 0 [.int .i64 i] := by
        intro e
        refine ⟨[.int .i64 ((i + 1 : Nat) : Int)], ?_, ⟨rfl, i + 1, by omega, rfl, ?_⟩, ?_⟩
        · rw [ext_high _ _ _ _ (by rw [hN]; omega), IntWalk.i64_in _ (by omega)]; rfl
        · rw [hall, if_pos e]
        · simp [rChk_mu, vI]; omega
      (repeat' apply And.intro) <;> intros <;> first
        | (exfalso; omega)
        | (exact go (by assumption))
        | (rename_i e _ _ _ _ _ _; rw [if_neg e] at hall; simp [hall, e]; done)
        | (rename_i e _ _ _ _ _; rw [if_neg e] at hall; simp [hall, e]; done)
        | (rename_i e _ _ _ _; rw [if_neg e] at hall; simp [hall, e]; done)
        | (simp_all; done)
noncomputable def rChk_con : Con := { f := 32, args := [deedsArg 0 0], N := 1, M := 1, pre := [(.app 20 [.var 1], true)], out := .tuple [.sint .i64 (.app 5 [.var 1]), .sint .i64 (.app 6 [.var 1])], news := [] }
noncomputable def rChk_call : Env → CallL := fun E => acallAll E (evH E (D2 E) ((fun E => oneH 32 (hooks [(2, rChk_D.hook E.facts refused_vs)])) E) 6)
noncomputable def rChk_t : GTree := (.fork (.op2 .eq (.app 6 [.var 1]) (.num 0)) (.leaf [[]]) (.leaf [[]]))
noncomputable def rChk_l : List (List (X × Bool) × Option Pairs) := [([(.op2 .eq (.app 6 [.var 1]) (.num 0), true), (.app 20 [.var 1], true)], some [(.app 5 [.var 1], .num 0), (.app 6 [.var 1], .num 0)]),
  ([(.op2 .eq (.app 6 [.var 1]) (.num 0), false), (.app 20 [.var 1], true)], some [(.app 5 [.var 1], .app 5 [.var 1]), (.app 6 [.var 1], .app 6 [.var 1])])]
theorem rChk_w (r : Rho) : rChk_con.fn.ways rChk_call E0 r rChk_con.pre rChk_t = some rChk_l := by kernel_rfl
theorem rChk_H {r : Rho} {l : List Deed} {kc : IntKind} {cap : Int} (h1 : r.val 1 = some (deedsR l)) (h2 : r.val 2 = some (.int kc cap)) (hcap : (l.length : Int) ≤ cap) (hsy : r.sym = sy) (F : List (X × Bool)) :
    LoopsOk (E0.with F r) (oneH 32 (hooks [(2, rChk_D.hook (E0.with F r).facts refused_vs)])) := by
  refine loops_all (n := 1) (fun f fn h => h) (by kernel_rfl) fun i hi => ?_
  obtain rfl : i = 0 := by omega
  rw [hooks_hit (show keyOf (loopAt (E0.with F r).P 32 0) = 2 by kernel_rfl)]
  refine hook_ok (E₀ := E0) (run := rChk_run) (ρ := r) (Inv := rChk_Inv l) (μ := rChk_mu l) E0_ok rChk_ok (fun F r' h => ?_) (fun hpre => ⟨rChk_step h1 h2 hcap hsy (by have := hpre; simp only [rChk_D, FactsIn, X.bool, X.den, denL, d_wrap, d_kind, d_not, d_neg, d_slen, d_add, d_sub, d_mul, d_div, d_mod, d_lt, d_le, d_eq, d_eqb, d_eqs, d_lts, d_cat, d_sat, d_and, d_or, denSub, denIte, asB, fracs_len, fracs_cell, fracs_lsub, deeds_len, deeds_cell, deeds_lsub, h1, hsy, sym20, Option.some.injEq, Value.bool.injEq, and_true] at this; exact this), [.int .i64 0], ?_, rfl, 0, Nat.zero_le _, rfl, rfl⟩)
  · exact bodyRun_ok E0_ok (D2_ok F (h.trans hsy)) fun _ _ => noLoop_ok
  · simp only [refused_vs, X.bool, X.den, denL, d_wrap, d_kind, d_not, d_neg, d_slen, d_add, d_sub, d_mul, d_div, d_mod, d_lt, d_le, d_eq, d_eqb, d_eqs, d_lts, d_cat, d_sat, d_and, d_or, denSub, denIte, asB, fracs_len, fracs_cell, fracs_lsub, deeds_len, deeds_cell, deeds_lsub]

theorem rChk_cok : rChk_con.Ok Tryz.prog sy := by
  intro r σ w us hsy hρ hpre hrel hins
  obtain ⟨u0, us, rfl, g0, hi⟩ := ins_cons hins
  obtain ⟨l, h1⟩ := deeds_at hrel (i := 0) rfl
  have h1 : σ.rho.val 1 = some (deedsR l) := h1
  obtain ⟨kc, cap, h2, hcap⟩ := deeds_cap g0 h1
  rw [hρ] at h1 h2
  have h2 : r.val 2 = some (.int kc cap) := h2
  refine con_of (E := E0) E0_ok E0_glob (sy := sy) (fun F => D2_ok F hsy) (fun F => rChk_H h1 h2 hcap hsy F) (rChk_w r) hρ hpre hrel hins ?_ ?_
  · simp only [rChk_con, rChk_t, dez0, AsksL, GTree.asks, FTree.asks, FactsIn, List.append_nil, List.nil_append, List.cons_append, Option.some.injEq, exists_eq', implies_true, and_self, X.bool, X.den, denL, d_wrap, d_kind, d_not, d_neg, d_slen, d_add, d_sub, d_mul, d_div, d_mod, d_lt, d_le, d_eq, d_eqb, d_eqs, d_lts, d_cat, d_sat, d_and, d_or, denSub, denIte, asB, fracs_len, fracs_cell, fracs_lsub, deeds_len, deeds_cell, deeds_lsub, h1, hsy, sym5, sym6, sym20]
  · simp only [rChk_l, dez0, EndsOk, WaysOk, forall_cons, forall_nil, TgtOk, gpair, FactsIn, hold_cons, hold_nil, Option.some.injEq, Value.bool.injEq, Value.int.injEq, decide_eq_true_eq, decide_eq_false_iff_not, and_true, true_and, and_imp, X.bool, X.den, denL, d_wrap, d_kind, d_not, d_neg, d_slen, d_add, d_sub, d_mul, d_div, d_mod, d_lt, d_le, d_eq, d_eqb, d_eqs, d_lts, d_cat, d_sat, d_and, d_or, denSub, denIte, asB, fracs_len, fracs_cell, fracs_lsub, deeds_len, deeds_cell, deeds_lsub, beq_iff_eq, beq_eq_false_iff_ne, ne_eq, h1, hsy, sym5, sym6, sym20]
    have h00 : (checkD l).2 = 0 → (checkD l).1 = 0 := check00 l
    (repeat' apply And.intro) <;> intros <;> simp_all
end Go.Proofs.YtnahicnoofkfgaaGreatDoor.Zs

namespace Go.Proofs.YtnahicnoofkfgaaGreatDoor.Zs
open Go
set_option linter.unusedSimpArgs false
set_option linter.unusedVariables false

noncomputable def D4 : Env → CallE := libs [cLib refused_con, cLib rChk_con]
theorem D4_ok (F : List (X × Bool)) {r : Rho} (h : r.sym = sy) : CallsOk (E0.with F r) (D4 (E0.with F r)) := libs_ok fun c hc => by
  simp only [List.mem_cons, List.not_mem_nil, or_false] at hc
  rcases hc with rfl | rfl
  · exact lib_ok (E := E0) refused_cok F h
  · exact lib_ok (E := E0) rChk_cok F h

noncomputable def rAppendNo_con : Con := { f := 34, args := [deedsArg 0 0, .agg (deedLeaves 3)], N := 1, M := 1, pre := [(.app 20 [.var 1], true), (.op2 .eq (.app 11 [.var 1, .var 3, .var 4, .var 5, .var 6, .var 7, .var 8, .var 9, .var 10, .var 11, .var 12, .var 13]) (.num 0), false)], out := .tuple [.nilslice, .sint .i64 (.app 11 [.var 1, .var 3, .var 4, .var 5, .var 6, .var 7, .var 8, .var 9, .var 10, .var 11, .var 12, .var 13])], news := [] }
noncomputable def rAppendNo_call : Env → CallL := fun E => acallAll E (evH E (D4 E) ((fun _ => noLoops) E) 4)
def dgz0 : X := .snoc (.var 1) [(.op1 (.kind .i64) (.var 3)), (.op1 (.kind .i64) (.var 4)), (.op1 (.kind .i64) (.var 5)), (.op1 (.kind .u8) (.var 6)), (.op1 (.kind .i64) (.var 7)), (.op1 (.kind .i64) (.var 8)), (.op1 (.kind .i64) (.var 9)), (.op1 (.kind .i64) (.var 10)), (.op1 (.kind .i64) (.var 11)), (.op1 (.kind .i64) (.var 12)), (.op1 (.kind .i64) (.var 13))]
def dgz1 : X := .app 11 [(.var 1), (.var 3), (.var 4), (.var 5), (.var 6), (.var 7), (.var 8), (.var 9), (.var 10), (.var 11), (.var 12), (.var 13)]
def dgz2 : X := .op2 .eq (.app 4 [(.var 1), (.var 3), (.var 4), (.var 5), (.var 6), (.var 7), (.var 8), (.var 9), (.var 10), (.var 11), (.var 12), (.var 13)]) (.num 0)
def dgz3 : X := .op2 .add (.op1 .len (.var 1)) (.num 1)
def dgz4 : X := .op2 .eq (.app 6 [(.var 1)]) (.num 0)
noncomputable def rAppendNo_t : GTree := (.fork dgz4 (.fork dgz2 (.fork (.op2 .lt (.num 1000000000) (.op1 .len (.var 1))) .bad (.fork (.op2 .lt (.num 1000000000) dgz3) .bad .bad)) (.leaf [[]])) (.leaf [[]]))
noncomputable def rAppendNo_l : List (List (X × Bool) × Option Pairs) := [([(.op2 .lt (.num 1000000000) (.op1 .len (.var 1)), true), (dgz2, true), (dgz4, true), (.app 20 [.var 1], true), (.op2 .eq dgz1 (.num 0), false)], none),
  ([(.op2 .lt (.num 1000000000) dgz3, true), (.op2 .lt (.num 1000000000) (.op1 .len (.var 1)), false), (dgz2, true), (dgz4, true), (.app 20 [.var 1], true), (.op2 .eq dgz1 (.num 0), false)], none),
  ([(.op2 .lt (.num 1000000000) dgz3, false), (.op2 .lt (.num 1000000000) (.op1 .len (.var 1)), false), (dgz2, true), (dgz4, true), (.app 20 [.var 1], true), (.op2 .eq dgz1 (.num 0), false)], none),
  ([(dgz2, false), (dgz4, true), (.app 20 [.var 1], true), (.op2 .eq dgz1 (.num 0), false)], some [(dgz1, .app 4 [.var 1, .var 3, .var 4, .var 5, .var 6, .var 7, .var 8, .var 9, .var 10, .var 11, .var 12, .var 13])]),
  ([(dgz4, false), (.app 20 [.var 1], true), (.op2 .eq dgz1 (.num 0), false)], some [(dgz1, .app 6 [.var 1])])]
theorem rAppendNo_w (r : Rho) : rAppendNo_con.fn.ways rAppendNo_call E0 r rAppendNo_con.pre rAppendNo_t = some rAppendNo_l := by kernel_rfl
set_option maxRecDepth 100000 in
theorem rAppendNo_cok : rAppendNo_con.Ok Tryz.prog sy := by
  intro r σ w us hsy hρ hpre hrel hins
  obtain ⟨u0, us, rfl, g0, hi⟩ := ins_cons hins
  obtain ⟨u1, us, rfl, g1, hi⟩ := ins_cons hi
  obtain ⟨x, k, rfl, hp⟩ := deed_agg g1
  obtain ⟨l, h1⟩ := deeds_at hrel (i := 0) rfl
  rw [hρ] at hp h1
  have h1 : r.val 1 = some (deedsR l) := h1
  have a0 := hp.h0
  have a1 := hp.h1
  have a2 := hp.h2
  have a3 := hp.h3
  have a4 := hp.h4
  have a5 := hp.h5
  have a6 := hp.h6
  have a7 := hp.h7
  have a8 := hp.h8
  have a9 := hp.h9
  have a10 := hp.h10
  simp only [Nat.zero_add, Nat.reduceAdd] at a0 a1 a2 a3 a4 a5 a6 a7 a8 a9 a10

  refine con_of (E := E0) E0_ok E0_glob (sy := sy) (fun F => D4_ok F hsy) (fun F => noH_ok) (rAppendNo_w r) hρ hpre hrel hins ?_ ?_
  · simp only [rAppendNo_con, rAppendNo_t, dgz4, dgz3, dgz2, dgz1, dgz0, AsksL, GTree.asks, FTree.asks, FactsIn, List.append_nil, List.nil_append, List.cons_append, Option.some.injEq, exists_eq', implies_true, and_self, X.bool, X.den, denL, d_wrap, d_kind, d_not, d_neg, d_slen, d_add, d_sub, d_mul, d_div, d_mod, d_lt, d_le, d_eq, d_eqb, d_eqs, d_lts, d_cat, d_sat, d_and, d_or, denSub, denIte, asB, fracs_len, fracs_cell, fracs_lsub, deeds_len, deeds_cell, deeds_lsub, a0, a1, a2, a3, a4, a5, a6, a7, a8, a9, a10, h1, hsy, sym4, sym5, sym6, sym11, sym20, deeds_snoc, deeds_snoc0, snoc_nil]
  · simp only [rAppendNo_l, dgz4, dgz3, dgz2, dgz1, dgz0, EndsOk, WaysOk, forall_cons, forall_nil, TgtOk, gpair, FactsIn, hold_cons, hold_nil, Option.some.injEq, Value.bool.injEq, Value.int.injEq, decide_eq_true_eq, decide_eq_false_iff_not, and_true, true_and, and_imp, X.bool, X.den, denL, d_wrap, d_kind, d_not, d_neg, d_slen, d_add, d_sub, d_mul, d_div, d_mod, d_lt, d_le, d_eq, d_eqb, d_eqs, d_lts, d_cat, d_sat, d_and, d_or, denSub, denIte, asB, fracs_len, fracs_cell, fracs_lsub, deeds_len, deeds_cell, deeds_lsub, beq_iff_eq, beq_eq_false_iff_ne, ne_eq, a0, a1, a2, a3, a4, a5, a6, a7, a8, a9, a10, h1, hsy, sym4, sym5, sym6, sym11, sym20, appendD, deeds_snoc, deeds_snoc0, snoc_nil]
    have hlen : refusedD l x = 0 → l.length < 300 := fun h => (accepted h).1
    clear hρ hpre hrel hi hp hins g0 g1 h1 a0 a1 a2 a3 a4 a5 a6 a7 a8 a9 a10
    (repeat' apply And.intro) <;> intros <;> first
      | trivial
      | (simp_all; done)
      | (exfalso; simp_all; omega)
noncomputable def rAppendYes_con : Con := { f := 34, args := [deedsArg 0 0, .agg (deedLeaves 3)], N := 1, M := 2, pre := [(.app 20 [.var 1], true), (.op2 .eq (.app 11 [.var 1, .var 3, .var 4, .var 5, .var 6, .var 7, .var 8, .var 9, .var 10, .var 11, .var 12, .var 13]) (.num 0), true)], out := .tuple [.slo 1 11 (.op2 .add (.op1 .len (.var 1)) (.num 1)), .int .i64 0], news := [(1, .rows 11 deedSch (.num 0) (.snoc (.var 1) [.op1 (.kind .i64) (.var 3), .op1 (.kind .i64) (.var 4), .op1 (.kind .i64) (.var 5), .op1 (.kind .u8) (.var 6), .op1 (.kind .i64) (.var 7), .op1 (.kind .i64) (.var 8), .op1 (.kind .i64) (.var 9), .op1 (.kind .i64) (.var 10), .op1 (.kind .i64) (.var 11), .op1 (.kind .i64) (.var 12), .op1 (.kind .i64) (.var 13)]) true 37)] }
noncomputable def rAppendYes_call : Env → CallL := fun E => acallAll E (evH E (D4 E) ((fun _ => noLoops) E) 4)
noncomputable def rAppendYes_t : GTree := (.fork dgz4 (.fork dgz2 (.fork (.op2 .lt (.num 1000000000) (.op1 .len (.var 1))) .bad (.fork (.op2 .lt (.num 1000000000) dgz3) .bad (.leaf [[(1, 5)], [(1, 5)], [(1, 5)]]))) .bad) .bad)
noncomputable def rAppendYes_l : List (List (X × Bool) × Option Pairs) := [([(.op2 .lt (.num 1000000000) (.op1 .len (.var 1)), true), (dgz2, true), (dgz4, true), (.app 20 [.var 1], true), (.op2 .eq dgz1 (.num 0), true)], none),
  ([(.op2 .lt (.num 1000000000) dgz3, true), (.op2 .lt (.num 1000000000) (.op1 .len (.var 1)), false), (dgz2, true), (dgz4, true), (.app 20 [.var 1], true), (.op2 .eq dgz1 (.num 0), true)], none),
  ([(.op2 .lt (.num 1000000000) dgz3, false), (.op2 .lt (.num 1000000000) (.op1 .len (.var 1)), false), (dgz2, true), (dgz4, true), (.app 20 [.var 1], true), (.op2 .eq dgz1 (.num 0), true)], some [(dgz3, dgz3), (dgz0, dgz0), (dgz3, dgz3), (dgz0, dgz0), (dgz3, dgz3), (dgz0, dgz0)]),
  ([(dgz2, false), (dgz4, true), (.app 20 [.var 1], true), (.op2 .eq dgz1 (.num 0), true)], none),
  ([(dgz4, false), (.app 20 [.var 1], true), (.op2 .eq dgz1 (.num 0), true)], none)]
theorem rAppendYes_w (r : Rho) : rAppendYes_con.fn.ways rAppendYes_call E0 r rAppendYes_con.pre rAppendYes_t = some rAppendYes_l := by kernel_rfl
set_option maxRecDepth 100000 in
theorem rAppendYes_cok : rAppendYes_con.Ok Tryz.prog sy := by
  intro r σ w us hsy hρ hpre hrel hins
  obtain ⟨u0, us, rfl, g0, hi⟩ := ins_cons hins
  obtain ⟨u1, us, rfl, g1, hi⟩ := ins_cons hi
  obtain ⟨x, k, rfl, hp⟩ := deed_agg g1
  obtain ⟨l, h1⟩ := deeds_at hrel (i := 0) rfl
  rw [hρ] at hp h1
  have h1 : r.val 1 = some (deedsR l) := h1
  have a0 := hp.h0
  have a1 := hp.h1
  have a2 := hp.h2
  have a3 := hp.h3
  have a4 := hp.h4
  have a5 := hp.h5
  have a6 := hp.h6
  have a7 := hp.h7
  have a8 := hp.h8
  have a9 := hp.h9
  have a10 := hp.h10
  simp only [Nat.zero_add, Nat.reduceAdd] at a0 a1 a2 a3 a4 a5 a6 a7 a8 a9 a10

  refine con_of (E := E0) E0_ok E0_glob (sy := sy) (fun F => D4_ok F hsy) (fun F => noH_ok) (rAppendYes_w r) hρ hpre hrel hins ?_ ?_
  · simp only [rAppendYes_con, rAppendYes_t, dgz4, dgz3, dgz2, dgz1, dgz0, AsksL, GTree.asks, FTree.asks, FactsIn, List.append_nil, List.nil_append, List.cons_append, Option.some.injEq, exists_eq', implies_true, and_self, X.bool, X.den, denL, d_wrap, d_kind, d_not, d_neg, d_slen, d_add, d_sub, d_mul, d_div, d_mod, d_lt, d_le, d_eq, d_eqb, d_eqs, d_lts, d_cat, d_sat, d_and, d_or, denSub, denIte, asB, fracs_len, fracs_cell, fracs_lsub, deeds_len, deeds_cell, deeds_lsub, a0, a1, a2, a3, a4, a5, a6, a7, a8, a9, a10, h1, hsy, sym4, sym5, sym6, sym11, sym20, deeds_snoc, deeds_snoc0, snoc_nil]
  · simp only [rAppendYes_l, dgz4, dgz3, dgz2, dgz1, dgz0, EndsOk, WaysOk, forall_cons, forall_nil, TgtOk, gpair, FactsIn, hold_cons, hold_nil, Option.some.injEq, Value.bool.injEq, Value.int.injEq, decide_eq_true_eq, decide_eq_false_iff_not, and_true, true_and, and_imp, X.bool, X.den, denL, d_wrap, d_kind, d_not, d_neg, d_slen, d_add, d_sub, d_mul, d_div, d_mod, d_lt, d_le, d_eq, d_eqb, d_eqs, d_lts, d_cat, d_sat, d_and, d_or, denSub, denIte, asB, fracs_len, fracs_cell, fracs_lsub, deeds_len, deeds_cell, deeds_lsub, beq_iff_eq, beq_eq_false_iff_ne, ne_eq, a0, a1, a2, a3, a4, a5, a6, a7, a8, a9, a10, h1, hsy, sym4, sym5, sym6, sym11, sym20, appendD, deeds_snoc, deeds_snoc0, snoc_nil]
    have hlen : refusedD l x = 0 → l.length < 300 := fun h => (accepted h).1
    clear hρ hpre hrel hi hp hins g0 g1 h1 a0 a1 a2 a3 a4 a5 a6 a7 a8 a9 a10
    (repeat' apply And.intro) <;> intros <;> first
      | trivial
      | (simp_all; done)
      | (exfalso; simp_all; omega)
end Go.Proofs.YtnahicnoofkfgaaGreatDoor.Zs
