/-
  A contract of the reference: the sums of parties.
-/
import Derived.Test.YtpdemfamfmeemacGreatDoorMeConR
import Derived.KernelRfl
set_option linter.unusedSimpArgs false
set_option linter.unusedVariables false
namespace Go.Proofs.YtpdemfamfmeemacGreatDoor.Zs
open Go
noncomputable def LM : Env → CallE := libs [cLib rSum_con]
theorem LM_ok (F : List (X × Bool)) {r : Rho} (h : r.sym = sy) : CallsOk (E0.with F r) (LM (E0.with F r)) := libs_ok fun c hc => by
  simp only [List.mem_cons, List.not_mem_nil, or_false] at hc
  subst hc; exact lib_ok (E := E0) rSum_cok F h
def rmer_vs : List X := [.num 0]
noncomputable def rMer_D : LoopD := { N := 110, M := 114, size := sizeOfF 24, reads := [(0, .rows 2 shrSch (.var 0) (.var 1) false 25)], pats := [{ slots := [(0, .slx 0 2 (.var 0) (.num 0) (.op1 .len (.var 1)) (.var 2)), (3, .nilslice), (4, .sint .i64 (.var 110))], heap := [] }, { slots := [(0, .slx 0 2 (.var 0) (.num 0) (.op1 .len (.var 1)) (.var 2)), (3, .slo 112 2 (.op1 .len (.var 111))), (4, .sint .i64 (.var 110))], heap := [(112, .rows 2 shrSch (.num 0) (.var 111) true 25)] }], exits := [(.exit 0, { slots := [(3, .nilslice)], heap := [], guard := .op2 .eq (.op1 .len (.app 120 [.var 1])) (.num 0) }), (.exit 0, { slots := [(3, .slo 112 2 (.op1 .len (.app 120 [.var 1])))], heap := [(112, .rows 2 shrSch (.num 0) (.app 120 [.var 1]) true 25)], guard := .op1 .not (.op2 .eq (.op1 .len (.app 120 [.var 1])) (.num 0)) })], own := [], pre := [(.app 22 [.var 1], true)] }
noncomputable def rMer_run : Env → AF → ASt → Option (List Out) := bodyRun LM 6 (fun _ => noLoop) (loopAt Tryz.prog 24 0)
def rMer0_F : List (X × Bool) := [(.op2 .lt (.var 110) (.num 0), false), (.app 22 [.var 1], true)]
def rMer1_F : List (X × Bool) := [(.op2 .lt (.var 110) (.num 0), false), (.app 22 [.var 1], true)]
def yEM_0 : X := .op2 .eq (.app 116 [(.var 1), (.var 110)]) (.num 0)
def yEM_1 : X := .op2 .lt (.num 40) (.var 110)
def yEM_2 : X := .op1 .len (.app 120 [(.var 1)])
def yEM_3 : X := .op2 .lt (.var 110) (.num 0)
def yEM_4 : X := .op1 (.wrap .i64) (.op2 .add (.var 110) (.num 1))
def yEM_5 : X := .op1 .len (.var 111)
noncomputable def rMer0_t : FTree := (.fork yEM_1 (.leaf [.leave 0 []]) (.fork yEM_0 (.leaf [.again 0 []]) (.leaf [.again 1 [(112, 115)]])))
noncomputable def rMer0_l : List (List (X × Bool) × Option (List (Tgt × Pairs))) := [([(yEM_1, true), (yEM_3, false), (.app 22 [.var 1], true)], some [(.leave 0 [], [(.op2 .eq yEM_2 (.num 0), .boo true)])]),
  ([(yEM_0, true), (yEM_1, false), (yEM_3, false), (.app 22 [.var 1], true)], some [(.again 0 [], [(.var 110, yEM_4)])]),
  ([(yEM_0, false), (yEM_1, false), (yEM_3, false), (.app 22 [.var 1], true)], some [(.again 1 [(112, 115)], [(yEM_5, .num 1), (.var 110, yEM_4), (.var 111, .snoc .nil [.op1 (.kind .i64) (.var 110), .op1 (.kind .i64) (.app 116 [.var 1, .var 110])])])])]
theorem rMer0_w (r : Rho) : rMer_D.ways rMer_run E0 r 0 rMer0_F rMer0_t = some rMer0_l := by kernel_rfl
noncomputable def rMer1_t : FTree := (.fork yEM_1 (.leaf [.leave 1 [(112, 112)]]) (.fork yEM_0 (.leaf [.again 1 [(112, 112)]]) (.fork (.op2 .lt (.num 1000000000) (.op2 .add yEM_5 (.num 1))) .bad (.leaf [.again 1 [(112, 115)]]))))
noncomputable def rMer1_l : List (List (X × Bool) × Option (List (Tgt × Pairs))) := [([(yEM_1, true), (yEM_3, false), (.app 22 [.var 1], true)], some [(.leave 1 [(112, 112)], [(yEM_2, yEM_5), (.app 120 [.var 1], .var 111), (.op1 .not (.op2 .eq yEM_2 (.num 0)), .boo true)])]),
  ([(yEM_0, true), (yEM_1, false), (yEM_3, false), (.app 22 [.var 1], true)], some [(.again 1 [(112, 112)], [(yEM_5, yEM_5), (.var 110, yEM_4), (.var 111, .var 111)])]),
  ([(.op2 .lt (.num 1000000000) (.op2 .add yEM_5 (.num 1)), true), (yEM_0, false), (yEM_1, false), (yEM_3, false), (.app 22 [.var 1], true)], none),
  ([(.op2 .lt (.num 1000000000) (.op2 .add yEM_5 (.num 1)), false), (yEM_0, false), (yEM_1, false), (yEM_3, false), (.app 22 [.var 1], true)], some [(.again 1 [(112, 115)], [(yEM_5, .op2 .add yEM_5 (.num 1)), (.var 110, yEM_4), (.var 111, .snoc (.var 111) [.op1 (.kind .i64) (.var 110), .op1 (.kind .i64) (.app 116 [.var 1, .var 110])])])])]
theorem rMer1_w (r : Rho) : rMer_D.ways rMer_run E0 r 1 rMer1_F rMer1_t = some rMer1_l := by kernel_rfl
theorem rMer_ok : rMer_D.ok = true := by kernel_rfl
def rMer_Inv (l : List Shr) (j : Nat) (vals : List Value) : Prop :=
  ∃ n : Nat, n ≤ 41 ∧ ((j = 0 ∧ vals = [.int .i64 (n : Int)] ∧ mrgTo l n = []) ∨ (j = 1 ∧ vals = [.int .i64 (n : Int), shrsR (mrgTo l n)] ∧ mrgTo l n ≠ []))
def rMer_mu (_ : Nat) (vals : List Value) : Nat := 41 - (vI (vals.getD 0 default)).toNat
set_option maxHeartbeats 1000000 in
theorem rMer_step0 {ρ : Rho} {l : List Shr} (h1 : ρ.val 1 = some (shrsR l)) (hsy : ρ.sym = sy) (hbig : bigB l = true) {n : Nat} (hn : n ≤ 41) (hc : mrgTo l n = []) :
    StepOk rMer_D rMer_run E0 ρ (rMer_Inv l) rMer_mu 0 [.int .i64 (n : Int)] := by
  have hN : rMer_D.N = 110 := rfl
  have v1 : (ρ.ext rMer_D.N [.int .i64 (n : Int)]).val 1 = some (shrsR l) := by rw [ext_low _ _ _ _ (by rw [hN]; omega)]; exact h1
  have v110 : (ρ.ext rMer_D.N [.int .i64 (n : Int)]).val 110 = some (.int .i64 (n : Int)) := by rw [ext_high _ _ _ _ (by rw [hN]; omega)]; rfl
  have vs : (ρ.ext rMer_D.N [.int .i64 (n : Int)]).sym = sy := hsy
  have hlen : (mrgTo l n).length ≤ n := by unfold mrgTo; rw [List.length_map]; exact Nat.le_trans (List.length_filter_le _ _) (by simp)
  have hF : FactsIn (ρ.ext rMer_D.N [.int .i64 (n : Int)]) rMer0_F := by
    simp only [rMer0_F, FactsIn, X.bool, X.den, denL, dX, denSub, denIte, asB, dY, v1, v110, vs, sym22, sym116, sym120, hbig, Option.some.injEq, Value.bool.injEq, decide_eq_false_iff_not, and_true]
    omega
  suffices both : AsksL (ρ.ext rMer_D.N [.int .i64 (n : Int)]) (rMer0_t.asks rMer0_F) ∧ WaysOk rMer_D ρ (rMer_Inv l) rMer_mu 0 [.int .i64 (n : Int)] rMer0_l from step_of_ways (rMer0_w _) hF both.1.ok both.2
  by_cases hlt : (40 : Int) < n
  · have h41 : n = 41 := by omega
    have hl : mrgTo l n = mrgR l := by rw [h41]; rfl
    rw [hl] at hc
    refine ⟨?_, ?_⟩
    · simp only [rMer0_t, yEM_5, yEM_4, yEM_3, yEM_2, yEM_1, yEM_0, rMer0_F, AsksL, GTree.asks, FTree.asks, FactsIn, List.append_nil, List.nil_append, List.cons_append, Option.some.injEq, exists_eq', implies_true, and_self, X.bool, X.den, denL, dX, denSub, denIte, asB, dY, v1, v110, vs, sym22, sym116, sym120, hbig, hlt]
      try simp
    · simp only [rMer0_l, yEM_5, yEM_4, yEM_3, yEM_2, yEM_1, yEM_0, EndsOk, WaysOk, forall_cons, forall_nil, TgtOk, gpair, FactsIn, hold_cons, hold_nil, Option.some.injEq, dZ, X.bool, X.den, denL, dX, denSub, denIte, asB, dY, v1, v110, vs, h1, hsy, sym22, sym116, sym120, hbig, hlt]
      simp [hl, hc]
  · have hw : IntKind.i64.wrap ((n : Int) + 1) = ((n + 1 : Nat) : Int) := by rw [IntWalk.i64_in _ (by omega)]; rfl
    have go0 : sumK l n = 0 → mrgTo l (n + 1) = mrgTo l n := fun h => by rw [mrgTo_next, if_pos h]
    have go1 : ¬ sumK l n = 0 → mrgTo l (n + 1) = mrgTo l n ++ [⟨(n : Int), sumK l n⟩] := fun h => by rw [mrgTo_next, if_neg h]
    have st : sumK l n = 0 → ∃ vals', (ρ.ext rMer_D.N vals').val 110 = some (.int .i64 ((n + 1 : Nat) : Int)) ∧ rMer_Inv l 0 vals' ∧ rMer_mu 0 vals' < rMer_mu 0 [.int .i64 (n : Int)] := fun h =>
      ⟨[.int .i64 ((n + 1 : Nat) : Int)], (by rw [ext_high _ _ _ _ (by rw [hN]; omega)]; rfl), ⟨n + 1, by omega, .inl ⟨rfl, rfl, by rw [go0 h]; exact hc⟩⟩, by simp [rMer_mu, vI]; omega⟩
    have ad : ¬ sumK l n = 0 → ∃ vals', ((match (ρ.ext rMer_D.N vals').val 111 with | some v => den1 .len v | none => none) = some (.int .i64 (1)) ∧ (ρ.ext rMer_D.N vals').val 110 = some (.int .i64 ((n + 1 : Nat) : Int)) ∧ (ρ.ext rMer_D.N vals').val 111 = some (shrsR [⟨(n : Int), sumK l n⟩])) ∧ rMer_Inv l 1 vals' ∧ rMer_mu 1 vals' < rMer_mu 0 [.int .i64 (n : Int)] := fun h => by
      have e111 : (ρ.ext rMer_D.N [.int .i64 ((n + 1 : Nat) : Int), shrsR (mrgTo l (n + 1))]).val 111 = some (shrsR (mrgTo l (n + 1))) := by rw [ext_high _ _ _ _ (by rw [hN]; omega)]; rfl
      have e110 : (ρ.ext rMer_D.N [.int .i64 ((n + 1 : Nat) : Int), shrsR (mrgTo l (n + 1))]).val 110 = some (.int .i64 ((n + 1 : Nat) : Int)) := by rw [ext_high _ _ _ _ (by rw [hN]; omega)]; rfl
      have e : mrgTo l (n + 1) = [⟨(n : Int), sumK l n⟩] := by rw [go1 h, hc]; rfl
      refine ⟨[.int .i64 ((n + 1 : Nat) : Int), shrsR (mrgTo l (n + 1))], ⟨?_, e110, ?_⟩, ⟨n + 1, by omega, .inr ⟨rfl, rfl, by rw [e]; simp⟩⟩, by simp [rMer_mu, vI]; omega⟩
      · rw [e111, e]; exact shrs_len _
      · rw [e111, e]
    refine ⟨?_, ?_⟩
    all_goals (simp only [rMer0_t, yEM_5, yEM_4, yEM_3, yEM_2, yEM_1, yEM_0, rMer0_F, rMer0_l, AsksL, GTree.asks, FTree.asks, FactsIn, List.append_nil, List.nil_append, List.cons_append, Option.some.injEq, exists_eq', implies_true, and_self, X.bool, X.den, denL, dX, denSub, denIte, asB, dY, EndsOk, WaysOk, forall_cons, forall_nil, TgtOk, gpair, FactsIn, hold_cons, hold_nil, Option.some.injEq, dZ, X.bool, X.den, denL, dX, denSub, denIte, asB, dY, beq_iff_eq, beq_eq_false_iff_ne, ne_eq, v1, v110, vs, h1, hsy, sym22, sym116, sym120, hbig, hlt, hw, reduceCtorEq, false_implies, implies_true, true_implies, and_self])
    all_goals (clear v1 v110 vs h1 hsy hF)
    all_goals ((repeat' apply And.intro) <;> intros <;> first
      | trivial
      | (exfalso; omega)
      | (exact absurd trivial (by assumption))
      | (exact st (by assumption))
      | (exact ad (by assumption)))
set_option maxHeartbeats 1000000 in
theorem rMer_step1 {ρ : Rho} {l : List Shr} (h1 : ρ.val 1 = some (shrsR l)) (hsy : ρ.sym = sy) (hbig : bigB l = true) {n : Nat} (hn : n ≤ 41) (hc : mrgTo l n ≠ []) :
    StepOk rMer_D rMer_run E0 ρ (rMer_Inv l) rMer_mu 1 [.int .i64 (n : Int), shrsR (mrgTo l n)] := by
  have hN : rMer_D.N = 110 := rfl
  have v1 : (ρ.ext rMer_D.N [.int .i64 (n : Int), shrsR (mrgTo l n)]).val 1 = some (shrsR l) := by rw [ext_low _ _ _ _ (by rw [hN]; omega)]; exact h1
  have v110 : (ρ.ext rMer_D.N [.int .i64 (n : Int), shrsR (mrgTo l n)]).val 110 = some (.int .i64 (n : Int)) := by rw [ext_high _ _ _ _ (by rw [hN]; omega)]; rfl
  have v111 : (ρ.ext rMer_D.N [.int .i64 (n : Int), shrsR (mrgTo l n)]).val 111 = some (shrsR (mrgTo l n)) := by rw [ext_high _ _ _ _ (by rw [hN]; omega)]; rfl
  have vs : (ρ.ext rMer_D.N [.int .i64 (n : Int), shrsR (mrgTo l n)]).sym = sy := hsy
  have hlen : (mrgTo l n).length ≤ n := by unfold mrgTo; rw [List.length_map]; exact Nat.le_trans (List.length_filter_le _ _) (by simp)
  have hF : FactsIn (ρ.ext rMer_D.N [.int .i64 (n : Int), shrsR (mrgTo l n)]) rMer1_F := by
    simp only [rMer1_F, FactsIn, X.bool, X.den, denL, dX, denSub, denIte, asB, dY, v1, v110, vs, sym22, sym116, sym120, hbig, Option.some.injEq, Value.bool.injEq, decide_eq_false_iff_not, and_true]
    omega
  suffices both : AsksL (ρ.ext rMer_D.N [.int .i64 (n : Int), shrsR (mrgTo l n)]) (rMer1_t.asks rMer1_F) ∧ WaysOk rMer_D ρ (rMer_Inv l) rMer_mu 1 [.int .i64 (n : Int), shrsR (mrgTo l n)] rMer1_l from step_of_ways (rMer1_w _) hF both.1.ok both.2
  by_cases hlt : (40 : Int) < n
  · have h41 : n = 41 := by omega
    have hl : mrgTo l n = mrgR l := by rw [h41]; rfl
    rw [hl] at hc
    refine ⟨?_, ?_⟩
    · simp only [rMer1_t, yEM_5, yEM_4, yEM_3, yEM_2, yEM_1, yEM_0, rMer1_F, AsksL, GTree.asks, FTree.asks, FactsIn, List.append_nil, List.nil_append, List.cons_append, Option.some.injEq, exists_eq', implies_true, and_self, X.bool, X.den, denL, dX, denSub, denIte, asB, dY, v1, v110, v111, vs, sym22, sym116, sym120, hbig, hlt]
      try simp
    · simp only [rMer1_l, yEM_5, yEM_4, yEM_3, yEM_2, yEM_1, yEM_0, EndsOk, WaysOk, forall_cons, forall_nil, TgtOk, gpair, FactsIn, hold_cons, hold_nil, Option.some.injEq, dZ, X.bool, X.den, denL, dX, denSub, denIte, asB, dY, v1, v110, v111, vs, h1, hsy, sym22, sym116, sym120, hbig, hlt]
      simp [hl, hc]
  · have hw : IntKind.i64.wrap ((n : Int) + 1) = ((n + 1 : Nat) : Int) := by rw [IntWalk.i64_in _ (by omega)]; rfl
    have go0 : sumK l n = 0 → mrgTo l (n + 1) = mrgTo l n := fun h => by rw [mrgTo_next, if_pos h]
    have go1 : ¬ sumK l n = 0 → mrgTo l (n + 1) = mrgTo l n ++ [⟨(n : Int), sumK l n⟩] := fun h => by rw [mrgTo_next, if_neg h]
    have st : sumK l n = 0 → ∃ vals', ((match (ρ.ext rMer_D.N vals').val 111 with | some v => den1 .len v | none => none) = some (.int .i64 (((mrgTo l n).length : Int))) ∧ (ρ.ext rMer_D.N vals').val 110 = some (.int .i64 ((n + 1 : Nat) : Int)) ∧ (ρ.ext rMer_D.N vals').val 111 = some (shrsR (mrgTo l n))) ∧ rMer_Inv l 1 vals' ∧ rMer_mu 1 vals' < rMer_mu 1 [.int .i64 (n : Int), shrsR (mrgTo l n)] := fun h => by
      have e111 : (ρ.ext rMer_D.N [.int .i64 ((n + 1 : Nat) : Int), shrsR (mrgTo l (n + 1))]).val 111 = some (shrsR (mrgTo l (n + 1))) := by rw [ext_high _ _ _ _ (by rw [hN]; omega)]; rfl
      have e110 : (ρ.ext rMer_D.N [.int .i64 ((n + 1 : Nat) : Int), shrsR (mrgTo l (n + 1))]).val 110 = some (.int .i64 ((n + 1 : Nat) : Int)) := by rw [ext_high _ _ _ _ (by rw [hN]; omega)]; rfl
      refine ⟨[.int .i64 ((n + 1 : Nat) : Int), shrsR (mrgTo l (n + 1))], ⟨?_, e110, ?_⟩, ⟨n + 1, by omega, .inr ⟨rfl, rfl, by rw [go0 h]; exact hc⟩⟩, by simp [rMer_mu, vI]; omega⟩
      · rw [e111, go0 h]; exact shrs_len _
      · rw [e111, go0 h]
    have ad : ¬ sumK l n = 0 → ∃ vals', ((match (ρ.ext rMer_D.N vals').val 111 with | some v => den1 .len v | none => none) = some (.int .i64 (((mrgTo l n).length : Int) + 1)) ∧ (ρ.ext rMer_D.N vals').val 110 = some (.int .i64 ((n + 1 : Nat) : Int)) ∧ (ρ.ext rMer_D.N vals').val 111 = some (shrsR (mrgTo l n ++ [⟨(n : Int), sumK l n⟩]))) ∧ rMer_Inv l 1 vals' ∧ rMer_mu 1 vals' < rMer_mu 1 [.int .i64 (n : Int), shrsR (mrgTo l n)] := fun h => by
      have e111 : (ρ.ext rMer_D.N [.int .i64 ((n + 1 : Nat) : Int), shrsR (mrgTo l (n + 1))]).val 111 = some (shrsR (mrgTo l (n + 1))) := by rw [ext_high _ _ _ _ (by rw [hN]; omega)]; rfl
      have e110 : (ρ.ext rMer_D.N [.int .i64 ((n + 1 : Nat) : Int), shrsR (mrgTo l (n + 1))]).val 110 = some (.int .i64 ((n + 1 : Nat) : Int)) := by rw [ext_high _ _ _ _ (by rw [hN]; omega)]; rfl
      refine ⟨[.int .i64 ((n + 1 : Nat) : Int), shrsR (mrgTo l (n + 1))], ⟨?_, e110, ?_⟩, ⟨n + 1, by omega, .inr ⟨rfl, rfl, by rw [go1 h]; simp⟩⟩, by simp [rMer_mu, vI]; omega⟩
      · rw [e111, go1 h]; refine (shrs_len _).trans ?_; simp
      · rw [e111, go1 h]
    refine ⟨?_, ?_⟩
    all_goals (simp only [rMer1_t, yEM_5, yEM_4, yEM_3, yEM_2, yEM_1, yEM_0, rMer1_F, rMer1_l, AsksL, GTree.asks, FTree.asks, FactsIn, List.append_nil, List.nil_append, List.cons_append, Option.some.injEq, exists_eq', implies_true, and_self, X.bool, X.den, denL, dX, denSub, denIte, asB, dY, EndsOk, WaysOk, forall_cons, forall_nil, TgtOk, gpair, FactsIn, hold_cons, hold_nil, Option.some.injEq, dZ, X.bool, X.den, denL, dX, denSub, denIte, asB, dY, beq_iff_eq, beq_eq_false_iff_ne, ne_eq, v1, v110, v111, vs, h1, hsy, sym22, sym116, sym120, hbig, hlt, hw, reduceCtorEq, false_implies, implies_true, true_implies, and_self])
    all_goals (clear v1 v110 v111 vs h1 hsy hF)
    all_goals ((repeat' apply And.intro) <;> intros <;> first
      | trivial
      | (exfalso; omega)
      | (exact absurd trivial (by assumption))
      | (exact st (by assumption))
      | (exact ad (by assumption)))
theorem rMer_step {ρ : Rho} {l : List Shr} (h1 : ρ.val 1 = some (shrsR l)) (hsy : ρ.sym = sy) (hbig : bigB l = true) (j : Nat) (vals : List Value) (hI : rMer_Inv l j vals) :
    StepOk rMer_D rMer_run E0 ρ (rMer_Inv l) rMer_mu j vals := by
  obtain ⟨n, hn, ⟨rfl, rfl, hc⟩ | ⟨rfl, rfl, hc⟩⟩ := hI
  · exact rMer_step0 h1 hsy hbig hn hc
  · exact rMer_step1 h1 hsy hbig hn hc
noncomputable def rMrgN_con : Con := { f := 24, args := [shrsArg 0 0], N := 1, M := 1, pre := [(.app 22 [.var 1], true), (.op2 .eq (.op1 .len (.app 120 [.var 1])) (.num 0), true)], out := .nilslice, news := [] }
noncomputable def rMrgN_call : Env → CallL := fun E => acallAll E (evH E (LM E) ((fun E => oneH 24 (hooks [(3, rMer_D.hook E.facts rmer_vs)])) E) 6)
noncomputable def rMrgN_t : GTree := (.leaf [[]])
noncomputable def rMrgN_l : List (List (X × Bool) × Option Pairs) := [([(.app 22 [.var 1], true), (.op2 .eq yEM_2 (.num 0), true)], some [])]
theorem rMrgN_w (r : Rho) : rMrgN_con.fn.ways rMrgN_call E0 r rMrgN_con.pre rMrgN_t = some rMrgN_l := by kernel_rfl
theorem rMer_H {r : Rho} {l : List Shr} (h1 : r.val 1 = some (shrsR l)) (hsy : r.sym = sy) (F : List (X × Bool)) : LoopsOk (E0.with F r) (oneH 24 (hooks [(3, rMer_D.hook (E0.with F r).facts rmer_vs)])) := by
  refine loops_all (n := 1) (fun f fn h => h) (by kernel_rfl) fun i hi => ?_
  obtain rfl : i = 0 := by omega
  rw [hooks_hit (show keyOf (loopAt (E0.with F r).P 24 0) = 3 by kernel_rfl)]
  refine hook_ok (E₀ := E0) (run := rMer_run) (ρ := r) (Inv := rMer_Inv l) (μ := rMer_mu) E0_ok rMer_ok (fun F r' h => ?_) (fun hp => ⟨rMer_step h1 hsy ?_, [.int .i64 0], ?_, 0, Nat.zero_le _, .inl ⟨rfl, rfl, rfl⟩⟩)
  · exact bodyRun_ok E0_ok (LM_ok F (h.trans hsy)) fun _ _ => noLoop_ok
  · simpa only [rMer_D, FactsIn, X.bool, X.den, denL, dX, denSub, denIte, asB, dY, h1, hsy, sym22, sym116, sym120, Option.some.injEq, Value.bool.injEq, and_true] using hp
  · simp only [rmer_vs, X.bool, X.den, denL, dX, denSub, denIte, asB, dY]
theorem rMrgN_cok : rMrgN_con.Ok Tryz.prog sy := by
  intro r σ w us hsy hρ hpre hrel hins
  obtain ⟨l, h1⟩ := shrs_at hrel (i := 0) rfl
  rw [hρ] at h1
  have h1 : r.val 1 = some (shrsR l) := h1
  refine con_of (E := E0) E0_ok E0_glob (sy := sy) (fun F => LM_ok F hsy) (fun F => rMer_H h1 hsy F) (rMrgN_w r) hρ hpre hrel hins ?_ ?_
  · simp only [rMrgN_con, rMrgN_t, yEM_5, yEM_4, yEM_3, yEM_2, yEM_1, yEM_0, AsksL, GTree.asks, FTree.asks, FactsIn, List.append_nil, List.nil_append, List.cons_append, Option.some.injEq, exists_eq', implies_true, and_self, X.bool, X.den, denL, dX, denSub, denIte, asB, dY, h1, hsy, sym22, sym116, sym120]
    try simp
  · simp only [rMrgN_l, yEM_5, yEM_4, yEM_3, yEM_2, yEM_1, yEM_0, EndsOk, WaysOk, forall_cons, forall_nil, TgtOk, gpair, FactsIn, hold_cons, hold_nil, Option.some.injEq, dZ, X.bool, X.den, denL, dX, denSub, denIte, asB, dY, beq_iff_eq, beq_eq_false_iff_ne, ne_eq, h1, hsy, sym22, sym116, sym120]
    clear hsy hρ hpre hrel hins h1
    (repeat' apply And.intro) <;> intros <;> first
      | trivial
      | (exfalso; omega)
      | (simp_all; done)
      | (exfalso; simp_all; done)
noncomputable def rMrgY_con : Con := { f := 24, args := [shrsArg 0 0], N := 1, M := 2, pre := [(.app 22 [.var 1], true), (.op2 .eq (.op1 .len (.app 120 [.var 1])) (.num 0), false)], out := .slo 1 2 (.op1 .len (.app 120 [.var 1])), news := [(1, .rows 2 shrSch (.num 0) (.app 120 [.var 1]) true 25)] }
noncomputable def rMrgY_call : Env → CallL := fun E => acallAll E (evH E (LM E) ((fun E => oneH 24 (hooks [(3, rMer_D.hook E.facts rmer_vs)])) E) 6)
noncomputable def rMrgY_t : GTree := (.leaf [[(1, 112)]])
noncomputable def rMrgY_l : List (List (X × Bool) × Option Pairs) := [([(.app 22 [.var 1], true), (.op2 .eq yEM_2 (.num 0), false)], some [(yEM_2, yEM_2), (.app 120 [.var 1], .app 120 [.var 1])])]
theorem rMrgY_w (r : Rho) : rMrgY_con.fn.ways rMrgY_call E0 r rMrgY_con.pre rMrgY_t = some rMrgY_l := by kernel_rfl
theorem rMrgY_cok : rMrgY_con.Ok Tryz.prog sy := by
  intro r σ w us hsy hρ hpre hrel hins
  obtain ⟨l, h1⟩ := shrs_at hrel (i := 0) rfl
  rw [hρ] at h1
  have h1 : r.val 1 = some (shrsR l) := h1
  refine con_of (E := E0) E0_ok E0_glob (sy := sy) (fun F => LM_ok F hsy) (fun F => rMer_H h1 hsy F) (rMrgY_w r) hρ hpre hrel hins ?_ ?_
  · simp only [rMrgY_con, rMrgY_t, yEM_5, yEM_4, yEM_3, yEM_2, yEM_1, yEM_0, AsksL, GTree.asks, FTree.asks, FactsIn, List.append_nil, List.nil_append, List.cons_append, Option.some.injEq, exists_eq', implies_true, and_self, X.bool, X.den, denL, dX, denSub, denIte, asB, dY, h1, hsy, sym22, sym116, sym120]
    try simp
  · simp only [rMrgY_l, yEM_5, yEM_4, yEM_3, yEM_2, yEM_1, yEM_0, EndsOk, WaysOk, forall_cons, forall_nil, TgtOk, gpair, FactsIn, hold_cons, hold_nil, Option.some.injEq, dZ, X.bool, X.den, denL, dX, denSub, denIte, asB, dY, beq_iff_eq, beq_eq_false_iff_ne, ne_eq, h1, hsy, sym22, sym116, sym120]
    clear hsy hρ hpre hrel hins h1
    (repeat' apply And.intro) <;> intros <;> first
      | trivial
      | (exfalso; omega)
      | (simp_all; done)
      | (exfalso; simp_all; done)
end Go.Proofs.YtpdemfamfmeemacGreatDoor.Zs
