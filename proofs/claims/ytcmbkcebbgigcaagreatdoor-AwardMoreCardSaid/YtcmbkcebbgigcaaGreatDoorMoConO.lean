/-
  A contract: the pence of a party in an award.
-/
import Derived.Test.YtcmbkcebbgigcaaGreatDoorMoConA
import Derived.Test.YtcmbkcebbgigcaaGreatDoorMoAcc
import Derived.KernelRfl
set_option linter.unusedSimpArgs false
set_option linter.unusedVariables false
namespace Go.Proofs.YtcmbkcebbgigcaaGreatDoor.Zs
open Go
def of_vs : List X := [.num 0, .num 0]
noncomputable def lOf_D : LoopD := { N := 100, M := 102, size := sizeOfF 6, reads := [(0, .rows 2 shrSch (.var 0) (.var 1) false 57)], pats := [{ slots := [(1, .sint .i64 (.var 3)), (5, .sint .i64 (.var 101)), (9, .slx 0 2 (.var 0) (.num 0) (.op1 .len (.var 1)) (.var 2)), (10, .sint .i64 (.op1 .len (.var 1))), (11, .sint .i64 (.var 100))], heap := [] }], exits := [(.exit 0, { slots := [(5, .sint .i64 (.app 116 [.var 1, .var 3]))], heap := [] })], own := [], pre := [] }
noncomputable def lOf_run : Env → AF → ASt → Option (List Out) := bodyRun noL 6 (fun _ => noLoop) (loopAt Tryz.prog 6 0)
def lOf0_F : List (X × Bool) := [(.op2 .lt (.var 100) (.num 0), false)]
noncomputable def lOf0_t : FTree := (.fork (.op2 .lt (.var 100) (.op1 .len (.var 1))) (.fork (.op2 .eq (.cell 0 (.var 1) (.var 100)) (.var 3)) (.leaf [.again 0 []]) (.leaf [.again 0 []])) (.leaf [.leave 0 []]))
noncomputable def lOf0_l : List (List (X × Bool) × Option (List (Tgt × Pairs))) := [([(.op2 .eq (.cell 0 (.var 1) (.var 100)) (.var 3), true), (.op2 .lt (.var 100) (.op1 .len (.var 1)), true), (.op2 .lt (.var 100) (.num 0), false)], some [(.again 0 [], [(.var 101, .op1 (.wrap .i64) (.op2 .add (.var 101) (.cell 1 (.var 1) (.var 100)))), (.var 100, .op1 (.wrap .i64) (.op2 .add (.var 100) (.num 1)))])]),
  ([(.op2 .eq (.cell 0 (.var 1) (.var 100)) (.var 3), false), (.op2 .lt (.var 100) (.op1 .len (.var 1)), true), (.op2 .lt (.var 100) (.num 0), false)], some [(.again 0 [], [(.var 101, .var 101), (.var 100, .op1 (.wrap .i64) (.op2 .add (.var 100) (.num 1)))])]),
  ([(.op2 .lt (.var 100) (.op1 .len (.var 1)), false), (.op2 .lt (.var 100) (.num 0), false)], some [(.leave 0 [], [(.app 116 [.var 1, .var 3], .var 101)])])]
theorem lOf0_w (r : Rho) : lOf_D.ways lOf_run E0 r 0 lOf0_F lOf0_t = some lOf0_l := by kernel_rfl
theorem lOf_ok : lOf_D.ok = true := by kernel_rfl
def lOf_Inv (l : List Shr) (k : Int) (j : Nat) (vals : List Value) : Prop :=
  j = 0 ∧ ∃ i : Nat, i ≤ l.length ∧ vals = [.int .i64 i, .int .i64 (sumK (l.take i) k)]
def lOf_mu (l : List Shr) (_ : Nat) (vals : List Value) : Nat := l.length - (vI (vals.getD 0 default)).toNat
theorem lOf_step {ρ : Rho} {l : List Shr} {k : Int} {k3 : IntKind} (h1 : ρ.val 1 = some (shrsR l)) (h3 : ρ.val 3 = some (.int k3 k)) (hsy : ρ.sym = sy) (hmax : (l.length : Int) ≤ 9223372036854775807) (j : Nat) (vals : List Value) (hI : lOf_Inv l k j vals) :
    StepOk lOf_D lOf_run E0 ρ (lOf_Inv l k) (lOf_mu l) j vals := by
  obtain ⟨rfl, i, hi, rfl⟩ := hI
  have hN : lOf_D.N = 100 := rfl
  have v1 : (ρ.ext lOf_D.N [.int .i64 i, .int .i64 (sumK (l.take i) k)]).val 1 = some (shrsR l) := by rw [ext_low _ _ _ _ (by rw [hN]; omega)]; exact h1
  have v3 : (ρ.ext lOf_D.N [.int .i64 i, .int .i64 (sumK (l.take i) k)]).val 3 = some (.int k3 k) := by rw [ext_low _ _ _ _ (by rw [hN]; omega)]; exact h3
  have v100 : (ρ.ext lOf_D.N [.int .i64 i, .int .i64 (sumK (l.take i) k)]).val 100 = some (.int .i64 i) := by rw [ext_high _ _ _ _ (by rw [hN]; omega)]; rfl
  have v101 : (ρ.ext lOf_D.N [.int .i64 i, .int .i64 (sumK (l.take i) k)]).val 101 = some (.int .i64 (sumK (l.take i) k)) := by rw [ext_high _ _ _ _ (by rw [hN]; omega)]; rfl
  have vs : (ρ.ext lOf_D.N [.int .i64 i, .int .i64 (sumK (l.take i) k)]).sym = sy := hsy
  have hF : FactsIn (ρ.ext lOf_D.N [.int .i64 i, .int .i64 (sumK (l.take i) k)]) lOf0_F := by
    simp only [lOf0_F, FactsIn, X.bool, X.den, denL, dX, denSub, denIte, asB, dY, whos_snocN, whos_snoc0N, shrs_snocN, shrs_snoc0N, v100, Option.some.injEq, Value.bool.injEq, decide_eq_false_iff_not, and_true]
    omega
  suffices both : AsksL (ρ.ext lOf_D.N [.int .i64 i, .int .i64 (sumK (l.take i) k)]) (lOf0_t.asks lOf0_F) ∧ WaysOk lOf_D ρ (lOf_Inv l k) (lOf_mu l) 0 [.int .i64 i, .int .i64 (sumK (l.take i) k)] lOf0_l from step_of_ways (lOf0_w _) hF both.1.ok both.2
  cases hp : l[i]? with
  | none =>
    have hge := List.getElem?_eq_none_iff.1 hp
    have hge' : ¬ (i : Int) < l.length := by omega
    have hl : l.take i = l := List.take_of_length_le hge
    refine ⟨?_, ?_⟩
    · simp only [lOf0_t, lOf0_F, AsksL, GTree.asks, FTree.asks, FactsIn, List.append_nil, List.nil_append, List.cons_append, Option.some.injEq, exists_eq', implies_true, and_self, X.bool, X.den, denL, dX, denSub, denIte, asB, dY, whos_snocN, whos_snoc0N, shrs_snocN, shrs_snoc0N, v1, v3, v100, v101, vs, sym21, sym116, Int.toNat_natCast, hp, hge']
      try simp
    · simp only [lOf0_l, EndsOk, WaysOk, forall_cons, forall_nil, TgtOk, gpair, FactsIn, hold_cons, hold_nil, Option.some.injEq, dZ, X.bool, X.den, denL, dX, denSub, denIte, asB, dY, whos_snocN, whos_snoc0N, shrs_snocN, shrs_snoc0N, beq_iff_eq, beq_eq_false_iff_ne, ne_eq, v1, v3, v100, v101, vs, h1, h3, hsy, sym21, sym116, Int.toNat_natCast, hp, hge']
      simp [hl]
  | some p =>
    have hlt : i < l.length := (List.getElem?_eq_some_iff.1 hp).1
    have hlt1 : (i : Int) < l.length := by omega
    have hw : IntKind.i64.wrap ((i : Int) + 1) = ((i + 1 : Nat) : Int) := by rw [IntWalk.i64_in _ (by omega)]; rfl
    have hnext : sumK (l.take (i + 1)) k = if p.party = k then IntKind.i64.wrap (sumK (l.take i) k + p.pence) else sumK (l.take i) k := by
      rw [List.take_add_one, hp]; exact sumK_snoc _ k p
    have go : ∀ s, s = sumK (l.take (i + 1)) k → ∃ vals', ((ρ.ext lOf_D.N vals').val 101 = some (.int .i64 s) ∧ (ρ.ext lOf_D.N vals').val 100 = some (.int .i64 ((i + 1 : Nat) : Int))) ∧ lOf_Inv l k 0 vals' ∧ lOf_mu l 0 vals' < lOf_mu l 0 [.int .i64 i, .int .i64 (sumK (l.take i) k)] := by
      rintro s rfl
      refine ⟨[.int .i64 ((i + 1 : Nat) : Int), .int .i64 (sumK (l.take (i + 1)) k)], ⟨?_, ?_⟩, ⟨rfl, i + 1, by omega, rfl⟩, ?_⟩
      · rw [ext_high _ _ _ _ (by rw [hN]; omega)]; rfl
      · rw [ext_high _ _ _ _ (by rw [hN]; omega)]; rfl
      · simp [lOf_mu, vI]; omega
    have hy : p.party = k → IntKind.i64.wrap (sumK (l.take i) k + p.pence) = sumK (l.take (i + 1)) k := fun h => by rw [hnext, if_pos h]
    have hn : ¬ p.party = k → sumK (l.take i) k = sumK (l.take (i + 1)) k := fun h => by rw [hnext, if_neg h]
    refine ⟨?_, ?_⟩
    all_goals (simp only [lOf0_t, lOf0_F, lOf0_l, AsksL, GTree.asks, FTree.asks, FactsIn, List.append_nil, List.nil_append, List.cons_append, Option.some.injEq, exists_eq', implies_true, and_self, X.bool, X.den, denL, dX, denSub, denIte, asB, dY, whos_snocN, whos_snoc0N, shrs_snocN, shrs_snoc0N, EndsOk, WaysOk, forall_cons, forall_nil, TgtOk, gpair, FactsIn, hold_cons, hold_nil, Option.some.injEq, dZ, X.bool, X.den, denL, dX, denSub, denIte, asB, dY, whos_snocN, whos_snoc0N, shrs_snocN, shrs_snoc0N, beq_iff_eq, beq_eq_false_iff_ne, ne_eq, v1, v3, v100, v101, vs, h1, h3, hsy, sym21, sym116, Int.toNat_natCast, hp, Option.bind_some, shr0, shr1, hlt1, hw, reduceCtorEq, false_implies, implies_true, true_implies, and_self])
    all_goals (clear v1 v3 v100 v101 vs h1 h3 hsy hp hF)
    all_goals ((repeat' apply And.intro) <;> intros <;> first
      | trivial
      | (exfalso; omega)
      | (exact absurd trivial (by assumption))
      | (exact go _ (hy (by assumption)))
      | (exact go _ (hn (by assumption)))
      | (exact (And.comm.1 (go _ (hy (by assumption))).2.1))
      | (obtain ⟨vs', ⟨a1, a2⟩, a3⟩ := go _ (hy (by assumption)); exact ⟨vs', ⟨a2, a1⟩, a3⟩)
      | (obtain ⟨vs', ⟨a1, a2⟩, a3⟩ := go _ (hn (by assumption)); exact ⟨vs', ⟨a2, a1⟩, a3⟩))
noncomputable def cOf_con : Con := { f := 6, args := [.tup 6, .one (.int .i64 10), .one (.int .i64 11), .one (.int .i64 12), .one (.int .i64 13), .one (.int .i64 14), shrsArg 0 0, .one (.int .i64 3)], N := 1, M := 1, pre := [(.app 21 [.var 1], true)], out := .sint .i64 (.app 116 [.var 1, .var 3]), news := [] }
noncomputable def cOf_call : Env → CallL := fun E => acallAll E (evH E (noL E) ((fun E => oneH 6 (hooks [(3, lOf_D.hook E.facts of_vs)])) E) 6)
noncomputable def cOf_t : GTree := (.leaf [[]])
noncomputable def cOf_l : List (List (X × Bool) × Option Pairs) := [([(.app 21 [.var 1], true)], some [(.app 116 [.var 1, .var 3], .app 116 [.var 1, .var 3])])]
theorem cOf_w (r : Rho) : cOf_con.fn.ways cOf_call E0 r cOf_con.pre cOf_t = some cOf_l := by kernel_rfl
theorem cOf_H {r : Rho} {l : List Shr} {k : Int} {k3 : IntKind} (h1 : r.val 1 = some (shrsR l)) (h3 : r.val 3 = some (.int k3 k)) (hsy : r.sym = sy) (hmax : (l.length : Int) ≤ 9223372036854775807) (F : List (X × Bool)) : LoopsOk (E0.with F r) (oneH 6 (hooks [(3, lOf_D.hook (E0.with F r).facts of_vs)])) := by
  refine loops_all (n := 1) (fun f fn h => h) (by kernel_rfl) fun i hi => ?_
  obtain rfl : i = 0 := by omega
  rw [hooks_hit (show keyOf (loopAt (E0.with F r).P 6 0) = 3 by kernel_rfl)]
  refine hook_ok (E₀ := E0) (run := lOf_run) (ρ := r) (Inv := lOf_Inv l k) (μ := lOf_mu l) E0_ok lOf_ok (fun F r' h => ?_) (fun hp => ⟨lOf_step h1 h3 hsy hmax, [.int .i64 0, .int .i64 0], ?_, rfl, 0, Nat.zero_le _, rfl⟩)
  · exact bodyRun_ok E0_ok (noL_ok F (h.trans hsy)) fun _ _ => noLoop_ok
  · simp only [of_vs, X.bool, X.den, denL, dX, denSub, denIte, asB, dY, whos_snocN, whos_snoc0N, shrs_snocN, shrs_snoc0N]
theorem cOf_cok : cOf_con.Ok Tryz.prog sy := by
  intro r σ w us hsy hρ hpre hrel hins
  obtain ⟨l, h1⟩ := shrs_at hrel (i := 0) rfl
  obtain ⟨u0, us, rfl, g0, hi⟩ := ins_cons hins
  obtain ⟨u1, us, rfl, g1, hi⟩ := ins_cons hi
  obtain ⟨k, k3, rfl, h3⟩ := one_int g1
  rw [hρ] at h1 h3
  have h1 : r.val 1 = some (shrsR l) := h1
  have hsh : shortB l = true := by
    have := hpre.1
    simpa only [X.bool, X.den, denL, dX, denSub, denIte, asB, dY, whos_snocN, whos_snoc0N, shrs_snocN, shrs_snoc0N, h1, hsy, sym21, Option.some.injEq, Value.bool.injEq] using this
  have hmax : (l.length : Int) ≤ 9223372036854775807 := by have := short_len hsh; omega
  refine con_of (E := E0) E0_ok E0_glob (sy := sy) (fun F => noL_ok F hsy) (fun F => cOf_H h1 h3 hsy hmax F) (cOf_w r) hρ hpre hrel hins ?_ ?_
  · simp only [cOf_con, cOf_t, AsksL, GTree.asks, FTree.asks, FactsIn, List.append_nil, List.nil_append, List.cons_append, Option.some.injEq, exists_eq', implies_true, and_self, X.bool, X.den, denL, dX, denSub, denIte, asB, dY, whos_snocN, whos_snoc0N, shrs_snocN, shrs_snoc0N, h1, h3, hsy, sym21, sym116]
    try simp
  · simp only [cOf_l, EndsOk, WaysOk, forall_cons, forall_nil, TgtOk, gpair, FactsIn, hold_cons, hold_nil, Option.some.injEq, dZ, X.bool, X.den, denL, dX, denSub, denIte, asB, dY, whos_snocN, whos_snoc0N, shrs_snocN, shrs_snoc0N, h1, h3, hsy, sym21, sym116]
    try simp
end Go.Proofs.YtcmbkcebbgigcaaGreatDoor.Zs
