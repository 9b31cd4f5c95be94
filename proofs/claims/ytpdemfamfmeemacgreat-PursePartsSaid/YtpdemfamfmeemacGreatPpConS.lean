/-
  A contract of the reference: equal lists of postings.
-/
import Derived.Test.YtpdemfamfmeemacGreatPpConA
import Derived.KernelRfl
set_option linter.unusedSimpArgs false
set_option linter.unusedVariables false
namespace Go.Proofs.YtpdemfamfmeemacGreat.Zs
open Go
def Same_vs : List X := [.num 0]
noncomputable def Same_D : LoopD := { N := 100, M := 101, size := sizeOfF 13, reads := [(0, .rows 8 ptgSch (.var 0) (.var 1) false 36), (1, .rows 8 ptgSch (.var 3) (.var 4) false 36)], pats := [{ slots := [(0, .slx 0 8 (.var 0) (.num 0) (.op1 .len (.var 1)) (.var 2)), (1, .slx 1 8 (.var 3) (.num 0) (.op1 .len (.var 4)) (.var 5)), (5, .sint .i64 (.var 100))], heap := [] }], exits := [(.exit 0, { slots := [], heap := [], guard := .app 7 [.var 1, .var 4] }), (.ret, { slots := [(4, .sbool (.boo false))], heap := [], guard := .op1 .not (.app 7 [.var 1, .var 4]) })], own := [], pre := [(.op2 .eq (.op1 .len (.var 1)) (.op1 .len (.var 4)), true)] }
noncomputable def Same_run : Env → AF → ASt → Option (List Out) := bodyRun noL 4 (fun _ => noLoop) (loopAt Tryz.prog 13 0)
def Same0_F : List (X × Bool) := [(.op2 .lt (.var 100) (.num 0), false)]
def yPS_0 : X := .op2 .eq (.cell 0 (.var 1) (.var 100)) (.cell 0 (.var 4) (.var 100))
def yPS_1 : X := .op2 .eq (.cell 1 (.var 1) (.var 100)) (.cell 1 (.var 4) (.var 100))
def yPS_2 : X := .op2 .eq (.cell 2 (.var 1) (.var 100)) (.cell 2 (.var 4) (.var 100))
def yPS_3 : X := .op2 .lt (.var 100) (.op1 .len (.var 1))
def yPS_4 : X := .op2 .eq (.cell 3 (.var 1) (.var 100)) (.cell 3 (.var 4) (.var 100))
def yPS_5 : X := .op2 .lt (.var 100) (.op1 .len (.var 4))
def yPS_6 : X := .app 7 [(.var 1), (.var 4)]
def yPS_7 : X := .op2 .eq (.cell 4 (.var 1) (.var 100)) (.cell 4 (.var 4) (.var 100))
def yPS_8 : X := .op2 .eq (.cell 5 (.var 1) (.var 100)) (.cell 5 (.var 4) (.var 100))
def yPS_9 : X := .op2 .lt (.var 100) (.num 0)
def yPS_10 : X := .op2 .eq (.cell 6 (.var 1) (.var 100)) (.cell 6 (.var 4) (.var 100))
def yPS_11 : X := .op2 .eq (.op1 .len (.var 1)) (.op1 .len (.var 4))
def yPS_12 : X := .op2 .eq (.cell 7 (.var 1) (.var 100)) (.cell 7 (.var 4) (.var 100))
noncomputable def Same0_t : FTree := (.fork yPS_3 (.fork yPS_5 (.fork yPS_0 (.fork yPS_1 (.fork yPS_2 (.fork yPS_4 (.fork yPS_7 (.fork yPS_8 (.fork yPS_10 (.fork yPS_12 (.leaf [.again 0 []]) (.leaf [.leave 1 []])) (.leaf [.leave 1 []])) (.leaf [.leave 1 []])) (.leaf [.leave 1 []])) (.leaf [.leave 1 []])) (.leaf [.leave 1 []])) (.leaf [.leave 1 []])) (.leaf [.leave 1 []])) .bad) (.leaf [.leave 0 []]))
noncomputable def Same0_l : List (List (X × Bool) × Option (List (Tgt × Pairs))) := [([(yPS_12, true), (yPS_10, true), (yPS_8, true), (yPS_7, true), (yPS_4, true), (yPS_2, true), (yPS_1, true), (yPS_0, true), (yPS_5, true), (yPS_3, true), (yPS_9, false)], some [(.again 0 [], [(.var 100, .op1 (.wrap .i64) (.op2 .add (.var 100) (.num 1)))])]),
  ([(yPS_12, false), (yPS_10, true), (yPS_8, true), (yPS_7, true), (yPS_4, true), (yPS_2, true), (yPS_1, true), (yPS_0, true), (yPS_5, true), (yPS_3, true), (yPS_9, false)], some [(.leave 1 [], [(.op1 .not yPS_6, .boo true)])]),
  ([(yPS_10, false), (yPS_8, true), (yPS_7, true), (yPS_4, true), (yPS_2, true), (yPS_1, true), (yPS_0, true), (yPS_5, true), (yPS_3, true), (yPS_9, false)], some [(.leave 1 [], [(.op1 .not yPS_6, .boo true)])]),
  ([(yPS_8, false), (yPS_7, true), (yPS_4, true), (yPS_2, true), (yPS_1, true), (yPS_0, true), (yPS_5, true), (yPS_3, true), (yPS_9, false)], some [(.leave 1 [], [(.op1 .not yPS_6, .boo true)])]),
  ([(yPS_7, false), (yPS_4, true), (yPS_2, true), (yPS_1, true), (yPS_0, true), (yPS_5, true), (yPS_3, true), (yPS_9, false)], some [(.leave 1 [], [(.op1 .not yPS_6, .boo true)])]),
  ([(yPS_4, false), (yPS_2, true), (yPS_1, true), (yPS_0, true), (yPS_5, true), (yPS_3, true), (yPS_9, false)], some [(.leave 1 [], [(.op1 .not yPS_6, .boo true)])]),
  ([(yPS_2, false), (yPS_1, true), (yPS_0, true), (yPS_5, true), (yPS_3, true), (yPS_9, false)], some [(.leave 1 [], [(.op1 .not yPS_6, .boo true)])]),
  ([(yPS_1, false), (yPS_0, true), (yPS_5, true), (yPS_3, true), (yPS_9, false)], some [(.leave 1 [], [(.op1 .not yPS_6, .boo true)])]),
  ([(yPS_0, false), (yPS_5, true), (yPS_3, true), (yPS_9, false)], some [(.leave 1 [], [(.op1 .not yPS_6, .boo true)])]),
  ([(yPS_5, false), (yPS_3, true), (yPS_9, false)], none),
  ([(yPS_3, false), (yPS_9, false)], some [(.leave 0 [], [(yPS_6, .boo true)])])]
theorem Same0_w (r : Rho) : Same_D.ways Same_run E0 r 0 Same0_F Same0_t = some Same0_l := by kernel_rfl
theorem Same_ok : Same_D.ok = true := by kernel_rfl
def Same_Inv (a b : List Ptg) (j : Nat) (vals : List Value) : Prop :=
  j = 0 ∧ ∃ i : Nat, i ≤ a.length ∧ vals = [.int .i64 i] ∧ a.take i = b.take i
def Same_mu (a : List Ptg) (_ : Nat) (vals : List Value) : Nat := a.length - (vI (vals.getD 0 default)).toNat
theorem Same_step {ρ : Rho} {a b : List Ptg} (h1 : ρ.val 1 = some (ptgsR a)) (h4 : ρ.val 4 = some (ptgsR b)) (hsy : ρ.sym = sy) (hlen : a.length = b.length) (hmax : (a.length : Int) ≤ 1010) (j : Nat) (vals : List Value) (hI : Same_Inv a b j vals) :
    StepOk Same_D Same_run E0 ρ (Same_Inv a b) (Same_mu a) j vals := by
  obtain ⟨rfl, i, hi, rfl, hall⟩ := hI
  have hN : Same_D.N = 100 := rfl
  have v1 : (ρ.ext Same_D.N [.int .i64 i]).val 1 = some (ptgsR a) := by rw [ext_low _ _ _ _ (by rw [hN]; omega)]; exact h1
  have v4 : (ρ.ext Same_D.N [.int .i64 i]).val 4 = some (ptgsR b) := by rw [ext_low _ _ _ _ (by rw [hN]; omega)]; exact h4
  have v100 : (ρ.ext Same_D.N [.int .i64 i]).val 100 = some (.int .i64 i) := by rw [ext_high _ _ _ _ (by rw [hN]; omega)]; rfl
  have vs : (ρ.ext Same_D.N [.int .i64 i]).sym = sy := hsy
  refine step_of_ways (Same0_w _) (F := Same0_F) ?_ (AsksL.ok ?_) ?_
  · simp only [Same0_F, FactsIn, X.bool, X.den, denL, dX, denSub, denIte, asB, dY, v100, Option.some.injEq, Value.bool.injEq, decide_eq_false_iff_not, and_true]
    omega
  · cases hp : a[i]? with
    | none =>
      have hge : ¬ (i : Int) < a.length := by have := List.getElem?_eq_none_iff.1 hp; omega
      simp only [Same0_t, yPS_12, yPS_11, yPS_10, yPS_9, yPS_8, yPS_7, yPS_6, yPS_5, yPS_4, yPS_3, yPS_2, yPS_1, yPS_0, Same0_F, AsksL, GTree.asks, FTree.asks, FactsIn, List.append_nil, List.nil_append, List.cons_append, Option.some.injEq, exists_eq', implies_true, and_self, X.bool, X.den, denL, dX, denSub, denIte, asB, dY, v1, v4, v100, vs, sym7, Int.toNat_natCast, hp, hge]
      simp
    | some p =>
      have hlt : i < a.length := (List.getElem?_eq_some_iff.1 hp).1
      obtain ⟨q, hq⟩ : ∃ q, b[i]? = some q := ⟨b[i], List.getElem?_eq_getElem (by omega)⟩
      simp only [Same0_t, yPS_12, yPS_11, yPS_10, yPS_9, yPS_8, yPS_7, yPS_6, yPS_5, yPS_4, yPS_3, yPS_2, yPS_1, yPS_0, Same0_F, AsksL, GTree.asks, FTree.asks, FactsIn, List.append_nil, List.nil_append, List.cons_append, Option.some.injEq, exists_eq', implies_true, and_self, X.bool, X.den, denL, dX, denSub, denIte, asB, dY, v1, v4, v100, vs, sym7, Int.toNat_natCast, hp, hq, Option.bind_some, ptg0, ptg1, ptg2, ptg3, ptg4, ptg5, ptg6, ptg7]
  · cases hp : a[i]? with
    | none =>
      have hge := List.getElem?_eq_none_iff.1 hp
      have hge' : ¬ (i : Int) < a.length := by omega
      simp only [Same0_l, yPS_12, yPS_11, yPS_10, yPS_9, yPS_8, yPS_7, yPS_6, yPS_5, yPS_4, yPS_3, yPS_2, yPS_1, yPS_0, EndsOk, WaysOk, forall_cons, forall_nil, TgtOk, gpair, FactsIn, hold_cons, hold_nil, Option.some.injEq, dZ, X.bool, X.den, denL, dX, denSub, denIte, asB, dY, beq_iff_eq, beq_eq_false_iff_ne, ne_eq, v1, v4, v100, vs, h1, h4, hsy, sym7, Int.toNat_natCast, hp, hge']
      have hi' : i = a.length := by omega
      subst hi'
      have : a = b := by
        rw [List.take_length, hlen, List.take_length] at hall
        exact hall
      simp [this]
    | some p =>
      have hlt : i < a.length := (List.getElem?_eq_some_iff.1 hp).1
      obtain ⟨q, hq⟩ : ∃ q, b[i]? = some q := ⟨b[i], List.getElem?_eq_getElem (by omega)⟩
      have hlt1 : (i : Int) < a.length := by omega
      have hlt2 : (i : Int) < b.length := by omega
      simp only [Same0_l, yPS_12, yPS_11, yPS_10, yPS_9, yPS_8, yPS_7, yPS_6, yPS_5, yPS_4, yPS_3, yPS_2, yPS_1, yPS_0, EndsOk, WaysOk, forall_cons, forall_nil, TgtOk, gpair, FactsIn, hold_cons, hold_nil, Option.some.injEq, dZ, X.bool, X.den, denL, dX, denSub, denIte, asB, dY, beq_iff_eq, beq_eq_false_iff_ne, ne_eq, v1, v4, v100, vs, h1, h4, hsy, sym7, Int.toNat_natCast, hp, hq, Option.bind_some, ptg0, ptg1, ptg2, ptg3, ptg4, ptg5, ptg6, ptg7, hlt1, hlt2, not_true_eq_false, Bool.not_eq_true']
      have far : ∀ f : Ptg → Int, ¬ f p = f q → ¬ a = b := fun f h e => by
        subst e
        rw [hp] at hq
        exact h (by rw [Option.some.inj hq])
      have go : p = q → ∃ vals', ((ρ.ext Same_D.N vals').val 100 = some (.int .i64 (IntKind.i64.wrap ((i : Int) + 1)))) ∧ Same_Inv a b 0 vals' ∧ Same_mu a 0 vals' < Same_mu a 0 [.int .i64 i] := by
        intro e
        refine ⟨[.int .i64 ((i + 1 : Nat) : Int)], ?_, ⟨rfl, i + 1, by omega, rfl, ?_⟩, ?_⟩
        · rw [ext_high _ _ _ _ (by rw [hN]; omega), IntWalk.i64_in _ (by omega)]; rfl
        · rw [List.take_add_one, List.take_add_one, hp, hq, hall, e]
        · simp [Same_mu, vI]; omega
      (repeat' apply And.intro) <;> intros <;> first
        | (exfalso; omega)
        | (exact go (ptg_eq (by assumption) (by assumption) (by assumption) (by assumption) (by assumption) (by assumption) (by assumption) (by assumption)))
        | (first | exact far (·.id) (by assumption) | exact far (·.hour) (by assumption) | exact far (·.kind) (by assumption) | exact far (·.party) (by assumption) | exact far (·.parcel) (by assumption) | exact far (·.amount) (by assumption) | exact far (·.reason) (by assumption) | exact far (·.known) (by assumption))
        | (simp; done)
noncomputable def Same_con : Con := { f := 13, args := [ptgsArg 0 0, ptgsArg 1 3], N := 2, M := 2, pre := [(.app 20 [.var 1], true)], out := .sbool (.app 7 [.var 1, .var 4]), news := [] }
noncomputable def Same_call : Env → CallL := fun E => acallAll E (evH E (noL E) ((fun E => oneH 13 (hooks [(4, Same_D.hook E.facts Same_vs)])) E) 4)
noncomputable def Same_t : GTree := (.fork yPS_11 (.fork yPS_6 (.leaf [[]]) (.leaf [[]])) (.leaf [[]]))
noncomputable def Same_l : List (List (X × Bool) × Option Pairs) := [([(yPS_6, true), (yPS_11, true), (.app 20 [.var 1], true)], some [(yPS_6, .boo true)]),
  ([(yPS_6, false), (yPS_11, true), (.app 20 [.var 1], true)], some [(yPS_6, .boo false)]),
  ([(yPS_11, false), (.app 20 [.var 1], true)], some [(yPS_6, .boo false)])]
theorem Same_w (r : Rho) : Same_con.fn.ways Same_call E0 r Same_con.pre Same_t = some Same_l := by kernel_rfl
theorem Same_H {r : Rho} {a b : List Ptg} (h1 : r.val 1 = some (ptgsR a)) (h4 : r.val 4 = some (ptgsR b)) (hmax : (a.length : Int) ≤ 1010) (hsy : r.sym = sy) (F : List (X × Bool)) :
    LoopsOk (E0.with F r) (oneH 13 (hooks [(4, Same_D.hook (E0.with F r).facts Same_vs)])) := by
  refine loops_all (n := 1) (fun f fn h => h) (by kernel_rfl) fun i hi => ?_
  obtain rfl : i = 0 := by omega
  rw [hooks_hit (show keyOf (loopAt (E0.with F r).P 13 0) = 4 by kernel_rfl)]
  refine hook_ok (E₀ := E0) (run := Same_run) (ρ := r) (Inv := Same_Inv a b) (μ := Same_mu a) E0_ok Same_ok (fun F r' h => ?_) (fun hpre => ⟨Same_step h1 h4 hsy (by have := hpre; simp [Same_D, FactsIn, X.bool, X.den, denL, dX, denSub, denIte, asB, dY, h1, h4] at this; omega) hmax, [.int .i64 0], ?_, rfl, 0, Nat.zero_le _, rfl, rfl⟩)
  · exact bodyRun_ok E0_ok (noL_ok F (h.trans hsy)) fun _ _ => noLoop_ok
  · simp only [Same_vs, X.bool, X.den, denL, dX, denSub, denIte, asB, dY]
theorem Same_cok : Same_con.Ok Tryz.prog sy := by
  intro r σ w us hsy hρ hpre hrel hins
  obtain ⟨a, h1⟩ := ptgs_at hrel (i := 0) rfl
  obtain ⟨b, h4⟩ := ptgs_at hrel (i := 1) rfl
  rw [hρ] at h1 h4
  have h1 : r.val 1 = some (ptgsR a) := h1
  have h4 : r.val 4 = some (ptgsR b) := h4
  have hmax : (a.length : Int) ≤ 1010 := by
    have := hpre.1
    simp only [X.bool, X.den, denL, dX, denSub, denIte, asB, dY, h1, hsy, sym20, Option.some.injEq, Value.bool.injEq] at this
    exact short_len this
  refine con_of (E := E0) E0_ok E0_glob (sy := sy) (fun F => noL_ok F hsy) (fun F => Same_H h1 h4 hmax hsy F) (Same_w r) hρ hpre hrel hins ?_ ?_
  · simp only [Same_con, Same_t, yPS_12, yPS_11, yPS_10, yPS_9, yPS_8, yPS_7, yPS_6, yPS_5, yPS_4, yPS_3, yPS_2, yPS_1, yPS_0, AsksL, GTree.asks, FTree.asks, FactsIn, List.append_nil, List.nil_append, List.cons_append, Option.some.injEq, exists_eq', implies_true, and_self, X.bool, X.den, denL, dX, denSub, denIte, asB, dY, h1, h4, hsy, sym7, sym20]
  · simp only [Same_l, yPS_12, yPS_11, yPS_10, yPS_9, yPS_8, yPS_7, yPS_6, yPS_5, yPS_4, yPS_3, yPS_2, yPS_1, yPS_0, EndsOk, WaysOk, forall_cons, forall_nil, TgtOk, gpair, FactsIn, hold_cons, hold_nil, Option.some.injEq, dZ, X.bool, X.den, denL, dX, denSub, denIte, asB, dY, beq_iff_eq, beq_eq_false_iff_ne, ne_eq, h1, h4, hsy, sym7, sym20]
    have key : ¬ a.length = b.length → decide (a = b) = false := fun h => by
      cases hf : decide (a = b) with
      | false => rfl
      | true => exact absurd (by rw [show a = b by simpa using hf]) h
    have key' : ¬ a.length = b.length → ¬ a = b := fun h e => h (by rw [e])
    (repeat' apply And.intro) <;> intros <;> first | assumption | (exact key' (by omega)) | (apply key; simp_all; omega) | (have h2 := key (by omega); simpa using h2) | (simp_all; done)
end Go.Proofs.YtpdemfamfmeemacGreat.Zs
