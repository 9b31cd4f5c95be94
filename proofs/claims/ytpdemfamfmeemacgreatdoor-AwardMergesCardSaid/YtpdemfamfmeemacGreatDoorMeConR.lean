/-
  Contracts of the reference: sums, lists of shares, equal lists.
-/
import Derived.Test.YtpdemfamfmeemacGreatDoorMeConV
import Derived.Test.YtpdemfamfmeemacGreatDoorMeConO
import Derived.KernelRfl
set_option linter.unusedSimpArgs false
set_option linter.unusedVariables false
namespace Go.Proofs.YtpdemfamfmeemacGreatDoor.Zs
open Go
noncomputable def rwithin_con : Con := { f := 46, args := [.one (.int .i64 0), .one (.int .i64 1), .one (.int .i64 2)], N := 0, M := 0, pre := [], out := .sbool (.app 10 [.var 0, .var 1, .var 2]), news := [] }
noncomputable def rwithin_call : Env → CallL := fun E => acallAll E (evH E (noL E) ((fun _ => noLoops) E) 4)
def yER_0 : X := .op2 .lt (.var 100) (.op1 .len (.var 1))
def yER_1 : X := .app 110 [(.var 1)]
def yER_2 : X := .op2 .lt (.var 100) (.num 0)
def yER_3 : X := .cell 0 (.var 1) (.var 100)
def yER_4 : X := .app 119 [(.var 1), (.var 4)]
def yER_5 : X := .op2 .lt (.num 1000) (.op1 .len (.var 1))
def yER_6 : X := .app 10 [(.cell 1 (.var 1) (.var 100)), (.num (-1000000000)), (.num 1000000000)]
def yER_7 : X := .op2 .lt (.var 100) (.op1 .len (.var 4))
def yER_8 : X := .op2 .eq (.op1 .len (.var 1)) (.op1 .len (.var 4))
def yER_9 : X := .op2 .eq yER_1 (.num 1)
def yER_10 : X := .op1 (.wrap .i64) (.op2 .add (.var 100) (.num 1))
def yER_11 : X := .op2 .eq (.cell 1 (.var 1) (.var 100)) (.cell 1 (.var 4) (.var 100))
noncomputable def rwithin_t : GTree := (.fork (.op2 .lt (.var 0) (.var 1)) (.leaf [[]]) (.leaf [[]]))
noncomputable def rwithin_l : List (List (X × Bool) × Option Pairs) := [([(.op2 .lt (.var 0) (.var 1), true)], some [(.app 10 [.var 0, .var 1, .var 2], .boo false)]),
  ([(.op2 .lt (.var 0) (.var 1), false)], some [(.app 10 [.var 0, .var 1, .var 2], .op1 .not (.op2 .lt (.var 2) (.var 0)))])]
theorem rwithin_w (r : Rho) : rwithin_con.fn.ways rwithin_call E0 r rwithin_con.pre rwithin_t = some rwithin_l := by kernel_rfl
theorem rwithin_cok : rwithin_con.Ok Tryz.prog sy := by
  intro r σ w us hsy hρ hpre hrel hins
  obtain ⟨u0, us, rfl, g0, hins⟩ := ins_cons hins
  obtain ⟨u1, us, rfl, g1, hins⟩ := ins_cons hins
  obtain ⟨u2, us, rfl, g2, hins⟩ := ins_cons hins
  obtain ⟨a, k0, rfl, h0⟩ := one_int g0
  obtain ⟨b, k1, rfl, h1⟩ := one_int g1
  obtain ⟨c, k2, rfl, h2⟩ := one_int g2
  rw [hρ] at h0 h1 h2
  have hs : r.sym 10 [.int k0 a, .int k1 b, .int k2 c] = some (.bool (withinB a b c)) := by rw [hsy]; rfl
  refine con_of (E := E0) E0_ok E0_glob (sy := sy) (fun F => noL_ok F hsy) (fun F => noH_ok) (rwithin_w r) hρ hpre hrel hins ?_ ?_
  · simp only [rwithin_con, rwithin_t, yER_11, yER_10, yER_9, yER_8, yER_7, yER_6, yER_5, yER_4, yER_3, yER_2, yER_1, yER_0, AsksL, GTree.asks, FTree.asks, FactsIn, List.append_nil, List.nil_append, List.cons_append, Option.some.injEq, exists_eq', implies_true, and_self, X.bool, X.den, denL, dX, denSub, denIte, asB, dY, h0, h1, h2, hs]
  · simp only [rwithin_l, yER_11, yER_10, yER_9, yER_8, yER_7, yER_6, yER_5, yER_4, yER_3, yER_2, yER_1, yER_0, EndsOk, WaysOk, forall_cons, forall_nil, TgtOk, gpair, FactsIn, hold_cons, hold_nil, Option.some.injEq, dZ, X.bool, X.den, denL, dX, denSub, denIte, asB, dY, h0, h1, h2, hs]
    (repeat' apply And.intro) <;> intros <;> first | trivial | (simp [withinB]; omega) | (rw [Bool.eq_iff_iff]; simp [withinB]; omega)
noncomputable def LX : Env → CallE := libs [cLib rwithin_con]
theorem LX_ok (F : List (X × Bool)) {r : Rho} (h : r.sym = sy) : CallsOk (E0.with F r) (LX (E0.with F r)) := libs_ok fun c hc => by
  simp only [List.mem_cons, List.not_mem_nil, or_false] at hc
  subst hc; exact lib_ok (E := E0) rwithin_cok F h
def rsum_vs : List X := [.num 0, .num 0]
def rsha_vs : List X := [.num 0]
def rsam_vs : List X := [.num 0]
noncomputable def rSum_D : LoopD := { N := 100, M := 102, size := sizeOfF 28, reads := [(0, .rows 2 shrSch (.var 0) (.var 1) false 25)], pats := [{ slots := [(0, .slx 0 2 (.var 0) (.num 0) (.op1 .len (.var 1)) (.var 2)), (1, .sint .i64 (.var 3)), (5, .sint .i64 (.var 101)), (6, .sint .i64 (.var 100))], heap := [] }], exits := [(.exit 0, { slots := [(5, .sint .i64 (.app 116 [.var 1, .var 3]))], heap := [] })], own := [], pre := [] }
noncomputable def rSum_run : Env → AF → ASt → Option (List Out) := bodyRun noL 6 (fun _ => noLoop) (loopAt Tryz.prog 28 0)
def rSum0_F : List (X × Bool) := [(.op2 .lt (.var 100) (.num 0), false)]
noncomputable def rSum0_t : FTree := (.fork yER_0 (.fork (.op2 .eq yER_3 (.var 3)) (.leaf [.again 0 []]) (.leaf [.again 0 []])) (.leaf [.leave 0 []]))
noncomputable def rSum0_l : List (List (X × Bool) × Option (List (Tgt × Pairs))) := [([(.op2 .eq yER_3 (.var 3), true), (yER_0, true), (yER_2, false)], some [(.again 0 [], [(.var 101, .op1 (.wrap .i64) (.op2 .add (.var 101) (.cell 1 (.var 1) (.var 100)))), (.var 100, yER_10)])]),
  ([(.op2 .eq yER_3 (.var 3), false), (yER_0, true), (yER_2, false)], some [(.again 0 [], [(.var 101, .var 101), (.var 100, yER_10)])]),
  ([(yER_0, false), (yER_2, false)], some [(.leave 0 [], [(.app 116 [.var 1, .var 3], .var 101)])])]
theorem rSum0_w (r : Rho) : rSum_D.ways rSum_run E0 r 0 rSum0_F rSum0_t = some rSum0_l := by kernel_rfl
theorem rSum_ok : rSum_D.ok = true := by kernel_rfl
def rSum_Inv (l : List Shr) (k : Int) (j : Nat) (vals : List Value) : Prop :=
  j = 0 ∧ ∃ i : Nat, i ≤ l.length ∧ vals = [.int .i64 i, .int .i64 (sumK (l.take i) k)]
def rSum_mu (l : List Shr) (_ : Nat) (vals : List Value) : Nat := l.length - (vI (vals.getD 0 default)).toNat
theorem rSum_step {ρ : Rho} {l : List Shr} {k : Int} {k3 : IntKind} (h1 : ρ.val 1 = some (shrsR l)) (h3 : ρ.val 3 = some (.int k3 k)) (hsy : ρ.sym = sy) (hmax : (l.length : Int) ≤ 9223372036854775807) (j : Nat) (vals : List Value) (hI : rSum_Inv l k j vals) :
    StepOk rSum_D rSum_run E0 ρ (rSum_Inv l k) (rSum_mu l) j vals := by
  obtain ⟨rfl, i, hi, rfl⟩ := hI
  have hN : rSum_D.N = 100 := rfl
  have v1 : (ρ.ext rSum_D.N [.int .i64 i, .int .i64 (sumK (l.take i) k)]).val 1 = some (shrsR l) := by rw [ext_low _ _ _ _ (by rw [hN]; omega)]; exact h1
  have v3 : (ρ.ext rSum_D.N [.int .i64 i, .int .i64 (sumK (l.take i) k)]).val 3 = some (.int k3 k) := by rw [ext_low _ _ _ _ (by rw [hN]; omega)]; exact h3
  have v100 : (ρ.ext rSum_D.N [.int .i64 i, .int .i64 (sumK (l.take i) k)]).val 100 = some (.int .i64 i) := by rw [ext_high _ _ _ _ (by rw [hN]; omega)]; rfl
  have v101 : (ρ.ext rSum_D.N [.int .i64 i, .int .i64 (sumK (l.take i) k)]).val 101 = some (.int .i64 (sumK (l.take i) k)) := by rw [ext_high _ _ _ _ (by rw [hN]; omega)]; rfl
  have vs : (ρ.ext rSum_D.N [.int .i64 i, .int .i64 (sumK (l.take i) k)]).sym = sy := hsy
  have hF : FactsIn (ρ.ext rSum_D.N [.int .i64 i, .int .i64 (sumK (l.take i) k)]) rSum0_F := by
    simp only [rSum0_F, FactsIn, X.bool, X.den, denL, dX, denSub, denIte, asB, dY, v100, Option.some.injEq, Value.bool.injEq, decide_eq_false_iff_not, and_true]
    omega
  suffices both : AsksL (ρ.ext rSum_D.N [.int .i64 i, .int .i64 (sumK (l.take i) k)]) (rSum0_t.asks rSum0_F) ∧ WaysOk rSum_D ρ (rSum_Inv l k) (rSum_mu l) 0 [.int .i64 i, .int .i64 (sumK (l.take i) k)] rSum0_l from step_of_ways (rSum0_w _) hF both.1.ok both.2
  cases hp : l[i]? with
  | none =>
    have hge := List.getElem?_eq_none_iff.1 hp
    have hge' : ¬ (i : Int) < l.length := by omega
    have hl : l.take i = l := List.take_of_length_le hge
    refine ⟨?_, ?_⟩
    · simp only [rSum0_t, yER_11, yER_10, yER_9, yER_8, yER_7, yER_6, yER_5, yER_4, yER_3, yER_2, yER_1, yER_0, rSum0_F, AsksL, GTree.asks, FTree.asks, FactsIn, List.append_nil, List.nil_append, List.cons_append, Option.some.injEq, exists_eq', implies_true, and_self, X.bool, X.den, denL, dX, denSub, denIte, asB, dY, v1, v3, v100, v101, vs, sym10, sym22, sym110, sym116, sym119, Int.toNat_natCast, hp, hge']
      try simp
    · simp only [rSum0_l, yER_11, yER_10, yER_9, yER_8, yER_7, yER_6, yER_5, yER_4, yER_3, yER_2, yER_1, yER_0, EndsOk, WaysOk, forall_cons, forall_nil, TgtOk, gpair, FactsIn, hold_cons, hold_nil, Option.some.injEq, dZ, X.bool, X.den, denL, dX, denSub, denIte, asB, dY, beq_iff_eq, beq_eq_false_iff_ne, ne_eq, v1, v3, v100, v101, vs, h1, h3, hsy, sym10, sym22, sym110, sym116, sym119, Int.toNat_natCast, hp, hge']
      simp [hl]
  | some p =>
    have hlt : i < l.length := (List.getElem?_eq_some_iff.1 hp).1
    have hlt1 : (i : Int) < l.length := by omega
    have hw : IntKind.i64.wrap ((i : Int) + 1) = ((i + 1 : Nat) : Int) := by rw [IntWalk.i64_in _ (by omega)]; rfl
    have hnext : sumK (l.take (i + 1)) k = if p.party = k then IntKind.i64.wrap (sumK (l.take i) k + p.pence) else sumK (l.take i) k := by
      rw [List.take_add_one, hp]; exact sumK_snoc _ k p
    have go : ∀ s, s = sumK (l.take (i + 1)) k → ∃ vals', ((ρ.ext rSum_D.N vals').val 101 = some (.int .i64 s) ∧ (ρ.ext rSum_D.N vals').val 100 = some (.int .i64 ((i + 1 : Nat) : Int))) ∧ rSum_Inv l k 0 vals' ∧ rSum_mu l 0 vals' < rSum_mu l 0 [.int .i64 i, .int .i64 (sumK (l.take i) k)] := by
      rintro s rfl
      refine ⟨[.int .i64 ((i + 1 : Nat) : Int), .int .i64 (sumK (l.take (i + 1)) k)], ⟨?_, ?_⟩, ⟨rfl, i + 1, by omega, rfl⟩, ?_⟩
      · rw [ext_high _ _ _ _ (by rw [hN]; omega)]; rfl
      · rw [ext_high _ _ _ _ (by rw [hN]; omega)]; rfl
      · simp [rSum_mu, vI]; omega
    have hy : p.party = k → IntKind.i64.wrap (sumK (l.take i) k + p.pence) = sumK (l.take (i + 1)) k := fun h => by rw [hnext, if_pos h]
    have hn : ¬ p.party = k → sumK (l.take i) k = sumK (l.take (i + 1)) k := fun h => by rw [hnext, if_neg h]
    refine ⟨?_, ?_⟩
    all_goals (simp only [rSum0_t, yER_11, yER_10, yER_9, yER_8, yER_7, yER_6, yER_5, yER_4, yER_3, yER_2, yER_1, yER_0, rSum0_F, rSum0_l, AsksL, GTree.asks, FTree.asks, FactsIn, List.append_nil, List.nil_append, List.cons_append, Option.some.injEq, exists_eq', implies_true, and_self, X.bool, X.den, denL, dX, denSub, denIte, asB, dY, EndsOk, WaysOk, forall_cons, forall_nil, TgtOk, gpair, FactsIn, hold_cons, hold_nil, Option.some.injEq, dZ, X.bool, X.den, denL, dX, denSub, denIte, asB, dY, beq_iff_eq, beq_eq_false_iff_ne, ne_eq, v1, v3, v100, v101, vs, h1, h3, hsy, sym10, sym22, sym110, sym116, sym119, Int.toNat_natCast, hp, Option.bind_some, shr0, shr1, hlt1, hw, reduceCtorEq, false_implies, implies_true, true_implies, and_self])
    all_goals (clear v1 v3 v100 v101 vs h1 h3 hsy hp hF)
    all_goals ((repeat' apply And.intro) <;> intros <;> first
      | trivial
      | (exfalso; omega)
      | (exact absurd trivial (by assumption))
      | (exact go _ (hy (by assumption)))
      | (exact go _ (hn (by assumption)))
      | (exact (And.comm.1 (go _ (hy (by assumption))).2.1))
      | (obtain ⟨vs', ⟨a1, a2⟩, a3⟩ := go _ (hy (by assumption)); exact ⟨vs', ⟨a2, a1⟩, a3⟩)
      | (obtain ⟨vs', ⟨a1, a2⟩, a3⟩ := go _ (hn (by assumption)); exact ⟨vs', ⟨a2, a1⟩, a3⟩))
noncomputable def rSum_con : Con := { f := 28, args := [shrsArg 0 0, .one (.int .i64 3)], N := 1, M := 1, pre := [(.app 22 [.var 1], true)], out := .sint .i64 (.app 116 [.var 1, .var 3]), news := [] }
noncomputable def rSum_call : Env → CallL := fun E => acallAll E (evH E (noL E) ((fun E => oneH 28 (hooks [(3, rSum_D.hook E.facts rsum_vs)])) E) 6)
noncomputable def rSum_t : GTree := (.leaf [[]])
noncomputable def rSum_l : List (List (X × Bool) × Option Pairs) := [([(.app 22 [.var 1], true)], some [(.app 116 [.var 1, .var 3], .app 116 [.var 1, .var 3])])]
theorem rSum_w (r : Rho) : rSum_con.fn.ways rSum_call E0 r rSum_con.pre rSum_t = some rSum_l := by kernel_rfl
theorem big_len {α : Type} {l : List α} (h : bigB l = true) : (l.length : Int) ≤ 5000 := by simpa [bigB] using h
theorem len_big {α : Type} {l : List α} (h : (l.length : Int) ≤ 5000) : bigB l = true := by simpa [bigB] using h
theorem rSum_H {r : Rho} {l : List Shr} {k : Int} {k3 : IntKind} (h1 : r.val 1 = some (shrsR l)) (h3 : r.val 3 = some (.int k3 k)) (hsy : r.sym = sy) (hmax : (l.length : Int) ≤ 9223372036854775807) (F : List (X × Bool)) : LoopsOk (E0.with F r) (oneH 28 (hooks [(3, rSum_D.hook (E0.with F r).facts rsum_vs)])) := by
  refine loops_all (n := 1) (fun f fn h => h) (by kernel_rfl) fun i hi => ?_
  obtain rfl : i = 0 := by omega
  rw [hooks_hit (show keyOf (loopAt (E0.with F r).P 28 0) = 3 by kernel_rfl)]
  refine hook_ok (E₀ := E0) (run := rSum_run) (ρ := r) (Inv := rSum_Inv l k) (μ := rSum_mu l) E0_ok rSum_ok (fun F r' h => ?_) (fun hp => ⟨rSum_step h1 h3 hsy hmax, [.int .i64 0, .int .i64 0], ?_, rfl, 0, Nat.zero_le _, rfl⟩)
  · exact bodyRun_ok E0_ok (noL_ok F (h.trans hsy)) fun _ _ => noLoop_ok
  · simp only [rsum_vs, X.bool, X.den, denL, dX, denSub, denIte, asB, dY]
theorem rSum_cok : rSum_con.Ok Tryz.prog sy := by
  intro r σ w us hsy hρ hpre hrel hins
  obtain ⟨l, h1⟩ := shrs_at hrel (i := 0) rfl
  obtain ⟨u0, us, rfl, g0, hi⟩ := ins_cons hins
  obtain ⟨u1, us, rfl, g1, hi⟩ := ins_cons hi
  obtain ⟨k, k3, rfl, h3⟩ := one_int g1
  rw [hρ] at h1 h3
  have h1 : r.val 1 = some (shrsR l) := h1
  have hsh : bigB l = true := by
    have := hpre.1
    simpa only [X.bool, X.den, denL, dX, denSub, denIte, asB, dY, h1, hsy, sym22, Option.some.injEq, Value.bool.injEq] using this
  have hmax : (l.length : Int) ≤ 9223372036854775807 := by have := big_len hsh; omega
  refine con_of (E := E0) E0_ok E0_glob (sy := sy) (fun F => noL_ok F hsy) (fun F => rSum_H h1 h3 hsy hmax F) (rSum_w r) hρ hpre hrel hins ?_ ?_
  · simp only [rSum_con, rSum_t, yER_11, yER_10, yER_9, yER_8, yER_7, yER_6, yER_5, yER_4, yER_3, yER_2, yER_1, yER_0, AsksL, GTree.asks, FTree.asks, FactsIn, List.append_nil, List.nil_append, List.cons_append, Option.some.injEq, exists_eq', implies_true, and_self, X.bool, X.den, denL, dX, denSub, denIte, asB, dY, h1, h3, hsy, sym10, sym22, sym110, sym116, sym119]
    try simp
  · simp only [rSum_l, yER_11, yER_10, yER_9, yER_8, yER_7, yER_6, yER_5, yER_4, yER_3, yER_2, yER_1, yER_0, EndsOk, WaysOk, forall_cons, forall_nil, TgtOk, gpair, FactsIn, hold_cons, hold_nil, Option.some.injEq, dZ, X.bool, X.den, denL, dX, denSub, denIte, asB, dY, h1, h3, hsy, sym10, sym22, sym110, sym116, sym119]
    try simp
noncomputable def rSha_D : LoopD := { N := 100, M := 101, size := sizeOfF 23, reads := [(0, .rows 2 shrSch (.var 0) (.var 1) false 25)], pats := [{ slots := [(0, .slx 0 2 (.var 0) (.num 0) (.op1 .len (.var 1)) (.var 2)), (3, .sint .i64 (.var 100))], heap := [] }], exits := [(.exit 0, { slots := [], heap := [], guard := .op2 .eq (.app 110 [.var 1]) (.num 0) }), (.ret, { slots := [(2, .int .i64 1)], heap := [], guard := .op2 .eq (.app 110 [.var 1]) (.num 1) })], own := [], pre := [(.op2 .lt (.num 1000) (.op1 .len (.var 1)), false)] }
noncomputable def rSha_run : Env → AF → ASt → Option (List Out) := bodyRun LX 6 (fun _ => noLoop) (loopAt Tryz.prog 23 0)
def rSha0_F : List (X × Bool) := [(.op2 .lt (.var 100) (.num 0), false)]
noncomputable def rSha0_t : FTree := (.fork yER_0 (.fork (.app 10 [yER_3, .num 0, .num 40]) (.fork yER_6 (.leaf [.again 0 []]) (.leaf [.leave 1 []])) (.leaf [.leave 1 []])) (.leaf [.leave 0 []]))
noncomputable def rSha0_l : List (List (X × Bool) × Option (List (Tgt × Pairs))) := [([(yER_6, true), (.app 10 [yER_3, .num 0, .num 40], true), (yER_0, true), (yER_2, false)], some [(.again 0 [], [(.var 100, yER_10)])]),
  ([(yER_6, false), (.app 10 [yER_3, .num 0, .num 40], true), (yER_0, true), (yER_2, false)], some [(.leave 1 [], [(yER_9, .boo true)])]),
  ([(.app 10 [yER_3, .num 0, .num 40], false), (yER_0, true), (yER_2, false)], some [(.leave 1 [], [(yER_9, .boo true)])]),
  ([(yER_0, false), (yER_2, false)], some [(.leave 0 [], [(.op2 .eq yER_1 (.num 0), .boo true)])])]
theorem rSha0_w (r : Rho) : rSha_D.ways rSha_run E0 r 0 rSha0_F rSha0_t = some rSha0_l := by kernel_rfl
theorem rSha_ok : rSha_D.ok = true := by kernel_rfl
theorem chk1_alt (x : Shr) : chk1 x = (withinB x.party 0 40 && withinB x.pence (-1000000000) 1000000000) := by
  rw [Bool.eq_iff_iff]; simp [chk1, withinB]; omega
def rSha_Inv (l : List Shr) (j : Nat) (vals : List Value) : Prop :=
  j = 0 ∧ ∃ i : Nat, i ≤ l.length ∧ vals = [.int .i64 i] ∧ ∀ x ∈ l.take i, chk1 x = true
def rSha_mu (l : List Shr) (_ : Nat) (vals : List Value) : Nat := l.length - (vI (vals.getD 0 default)).toNat
theorem rSha_step {ρ : Rho} {l : List Shr} (h1 : ρ.val 1 = some (shrsR l)) (hsy : ρ.sym = sy) (hmax : (l.length : Int) ≤ 1000) (j : Nat) (vals : List Value) (hI : rSha_Inv l j vals) :
    StepOk rSha_D rSha_run E0 ρ (rSha_Inv l) (rSha_mu l) j vals := by
  obtain ⟨rfl, i, hi, rfl, hall⟩ := hI
  have hN : rSha_D.N = 100 := rfl
  have v1 : (ρ.ext rSha_D.N [.int .i64 i]).val 1 = some (shrsR l) := by rw [ext_low _ _ _ _ (by rw [hN]; omega)]; exact h1
  have v100 : (ρ.ext rSha_D.N [.int .i64 i]).val 100 = some (.int .i64 i) := by rw [ext_high _ _ _ _ (by rw [hN]; omega)]; rfl
  have vs : (ρ.ext rSha_D.N [.int .i64 i]).sym = sy := hsy
  refine step_of_ways (rSha0_w _) (F := rSha0_F) ?_ (AsksL.ok ?_) ?_
  · simp only [rSha0_F, FactsIn, X.bool, X.den, denL, dX, denSub, denIte, asB, dY, v100, Option.some.injEq, Value.bool.injEq, decide_eq_false_iff_not, and_true]
    omega
  · cases hp : l[i]? with
    | none =>
      have hge : ¬ (i : Int) < l.length := by have := List.getElem?_eq_none_iff.1 hp; omega
      simp only [rSha0_t, yER_11, yER_10, yER_9, yER_8, yER_7, yER_6, yER_5, yER_4, yER_3, yER_2, yER_1, yER_0, rSha0_F, AsksL, GTree.asks, FTree.asks, FactsIn, List.append_nil, List.nil_append, List.cons_append, Option.some.injEq, exists_eq', implies_true, and_self, X.bool, X.den, denL, dX, denSub, denIte, asB, dY, v1, v100, vs, sym10, sym22, sym110, sym116, sym119, Int.toNat_natCast, hp, hge]
      simp
    | some p => simp only [rSha0_t, yER_11, yER_10, yER_9, yER_8, yER_7, yER_6, yER_5, yER_4, yER_3, yER_2, yER_1, yER_0, rSha0_F, AsksL, GTree.asks, FTree.asks, FactsIn, List.append_nil, List.nil_append, List.cons_append, Option.some.injEq, exists_eq', implies_true, and_self, X.bool, X.den, denL, dX, denSub, denIte, asB, dY, v1, v100, vs, sym10, sym22, sym110, sym116, sym119, Int.toNat_natCast, hp, Option.bind_some, shr0, shr1]
  · cases hp : l[i]? with
    | none =>
      have hge := List.getElem?_eq_none_iff.1 hp
      have hge' : ¬ (i : Int) < l.length := by omega
      have hi' : i = l.length := by omega
      have hz : chkS l = 0 := (chkS_iff l).2 ⟨hmax, fun x hx => hall x (by rw [hi', List.take_length]; exact hx)⟩
      simp only [rSha0_l, yER_11, yER_10, yER_9, yER_8, yER_7, yER_6, yER_5, yER_4, yER_3, yER_2, yER_1, yER_0, EndsOk, WaysOk, forall_cons, forall_nil, TgtOk, gpair, FactsIn, hold_cons, hold_nil, Option.some.injEq, dZ, X.bool, X.den, denL, dX, denSub, denIte, asB, dY, v1, v100, vs, h1, hsy, sym10, sym22, sym110, sym116, sym119, Int.toNat_natCast, hp, hge']
      simp [hz]
    | some p =>
      have hlt : i < l.length := (List.getElem?_eq_some_iff.1 hp).1
      have hlt1 : (i : Int) < l.length := by omega
      have go : chk1 p = true → ∃ vals', ((ρ.ext rSha_D.N vals').val 100 = some (.int .i64 (IntKind.i64.wrap ((i : Int) + 1)))) ∧ rSha_Inv l 0 vals' ∧ rSha_mu l 0 vals' < rSha_mu l 0 [.int .i64 i] := by
        intro e
        refine ⟨[.int .i64 ((i + 1 : Nat) : Int)], ?_, ⟨rfl, i + 1, by omega, rfl, chk_next hp hall e⟩, ?_⟩
        · rw [ext_high _ _ _ _ (by rw [hN]; omega), IntWalk.i64_in _ (by omega)]; rfl
        · simp [rSha_mu, vI]; omega
      have no := chkS_bad hmax hp
      simp only [rSha0_l, yER_11, yER_10, yER_9, yER_8, yER_7, yER_6, yER_5, yER_4, yER_3, yER_2, yER_1, yER_0, EndsOk, WaysOk, forall_cons, forall_nil, TgtOk, gpair, FactsIn, hold_cons, hold_nil, Option.some.injEq, dZ, X.bool, X.den, denL, dX, denSub, denIte, asB, dY, v1, v100, vs, h1, hsy, sym10, sym22, sym110, sym116, sym119, Int.toNat_natCast, hp, Option.bind_some, shr0, shr1, hlt1]
      clear v1 v100 vs h1 hsy hp
      (repeat' apply And.intro) <;> intros <;> first
        | trivial
        | (exfalso; omega)
        | (exact go (by simp_all [chk1_alt]))
        | (rw [no (by simp_all [chk1_alt])]; rfl)
        | (simp_all; done)
noncomputable def rSha_con : Con := { f := 23, args := [shrsArg 0 0], N := 1, M := 1, pre := [], out := .sint .i64 (.app 110 [.var 1]), news := [] }
noncomputable def rSha_call : Env → CallL := fun E => acallAll E (evH E (LX E) ((fun E => oneH 23 (hooks [(4, rSha_D.hook E.facts rsha_vs)])) E) 6)
noncomputable def rSha_t : GTree := (.fork yER_5 (.leaf [[]]) (.fork (.op2 .eq yER_1 (.num 0)) (.fork yER_9 (.leaf [[], []]) (.leaf [[]])) (.fork yER_9 (.leaf [[]]) (.leaf []))))
noncomputable def rSha_l : List (List (X × Bool) × Option Pairs) := [([(yER_5, true)], some [(yER_1, .num 2)]),
  ([(yER_9, true), (.op2 .eq yER_1 (.num 0), true), (yER_5, false)], some [(yER_1, .num 0), (yER_1, .num 1)]),
  ([(yER_9, false), (.op2 .eq yER_1 (.num 0), true), (yER_5, false)], some [(yER_1, .num 0)]),
  ([(yER_9, true), (.op2 .eq yER_1 (.num 0), false), (yER_5, false)], some [(yER_1, .num 1)]),
  ([(yER_9, false), (.op2 .eq yER_1 (.num 0), false), (yER_5, false)], some [])]
theorem rSha_w (r : Rho) : rSha_con.fn.ways rSha_call E0 r rSha_con.pre rSha_t = some rSha_l := by kernel_rfl
theorem rSha_H {r : Rho} {l : List Shr} (h1 : r.val 1 = some (shrsR l)) (hsy : r.sym = sy) (F : List (X × Bool)) : LoopsOk (E0.with F r) (oneH 23 (hooks [(4, rSha_D.hook (E0.with F r).facts rsha_vs)])) := by
  refine loops_all (n := 1) (fun f fn h => h) (by kernel_rfl) fun i hi => ?_
  obtain rfl : i = 0 := by omega
  rw [hooks_hit (show keyOf (loopAt (E0.with F r).P 23 0) = 4 by kernel_rfl)]
  refine hook_ok (E₀ := E0) (run := rSha_run) (ρ := r) (Inv := rSha_Inv l) (μ := rSha_mu l) E0_ok rSha_ok (fun F r' h => ?_) (fun hp => ⟨rSha_step h1 hsy ?_, [.int .i64 0], ?_, rfl, 0, Nat.zero_le _, rfl, fun x hx => by cases hx⟩)
  · exact bodyRun_ok E0_ok (LX_ok F (h.trans hsy)) fun _ _ => noLoop_ok
  · simp only [rSha_D, FactsIn, X.bool, X.den, denL, dX, denSub, denIte, asB, dY, h1, Option.some.injEq, Value.bool.injEq, decide_eq_false_iff_not, and_true] at hp
    omega
  · simp only [rsha_vs, X.bool, X.den, denL, dX, denSub, denIte, asB, dY]
theorem rSha_cok : rSha_con.Ok Tryz.prog sy := by
  intro r σ w us hsy hρ hpre hrel hins
  obtain ⟨l, h1⟩ := shrs_at hrel (i := 0) rfl
  rw [hρ] at h1
  have h1 : r.val 1 = some (shrsR l) := h1
  refine con_of (E := E0) E0_ok E0_glob (sy := sy) (fun F => LX_ok F hsy) (fun F => rSha_H h1 hsy F) (rSha_w r) hρ hpre hrel hins ?_ ?_
  · simp only [rSha_con, rSha_t, yER_11, yER_10, yER_9, yER_8, yER_7, yER_6, yER_5, yER_4, yER_3, yER_2, yER_1, yER_0, AsksL, GTree.asks, FTree.asks, FactsIn, List.append_nil, List.nil_append, List.cons_append, Option.some.injEq, exists_eq', implies_true, and_self, X.bool, X.den, denL, dX, denSub, denIte, asB, dY, h1, hsy, sym10, sym22, sym110, sym116, sym119]
  · simp only [rSha_l, yER_11, yER_10, yER_9, yER_8, yER_7, yER_6, yER_5, yER_4, yER_3, yER_2, yER_1, yER_0, EndsOk, WaysOk, forall_cons, forall_nil, TgtOk, gpair, FactsIn, hold_cons, hold_nil, Option.some.injEq, dZ, X.bool, X.den, denL, dX, denSub, denIte, asB, dY, h1, hsy, sym10, sym22, sym110, sym116, sym119]
    have h2 := @chkS_two l
    clear hsy hρ hpre hrel hins h1
    (repeat' apply And.intro) <;> intros <;> first
      | trivial
      | (exfalso; omega)
      | (simp_all; done)
      | (exfalso; simp_all; omega)
      | (have := h2.2 (by assumption); simp_all; done)
noncomputable def rSam_D : LoopD := { N := 100, M := 101, size := sizeOfF 10, reads := [(0, .rows 2 shrSch (.var 0) (.var 1) false 25), (1, .rows 2 shrSch (.var 3) (.var 4) false 25)], pats := [{ slots := [(0, .slx 0 2 (.var 0) (.num 0) (.op1 .len (.var 1)) (.var 2)), (1, .slx 1 2 (.var 3) (.num 0) (.op1 .len (.var 4)) (.var 5)), (5, .sint .i64 (.var 100))], heap := [] }], exits := [(.exit 0, { slots := [], heap := [], guard := .app 119 [.var 1, .var 4] }), (.ret, { slots := [(4, .bool false)], heap := [], guard := .op1 .not (.app 119 [.var 1, .var 4]) })], own := [], pre := [(.app 22 [.var 1], true), (.op2 .eq (.op1 .len (.var 1)) (.op1 .len (.var 4)), true)] }
noncomputable def rSam_run : Env → AF → ASt → Option (List Out) := bodyRun noL 6 (fun _ => noLoop) (loopAt Tryz.prog 10 0)
def rSam0_F : List (X × Bool) := [(.op2 .lt (.var 100) (.num 0), false)]
noncomputable def rSam0_t : FTree := (.fork yER_0 (.fork yER_7 (.fork (.op2 .eq yER_3 (.cell 0 (.var 4) (.var 100))) (.fork yER_11 (.leaf [.again 0 []]) (.leaf [.leave 1 []])) (.leaf [.leave 1 []])) .bad) (.leaf [.leave 0 []]))
noncomputable def rSam0_l : List (List (X × Bool) × Option (List (Tgt × Pairs))) := [([(yER_11, true), (.op2 .eq yER_3 (.cell 0 (.var 4) (.var 100)), true), (yER_7, true), (yER_0, true), (yER_2, false)], some [(.again 0 [], [(.var 100, yER_10)])]),
  ([(yER_11, false), (.op2 .eq yER_3 (.cell 0 (.var 4) (.var 100)), true), (yER_7, true), (yER_0, true), (yER_2, false)], some [(.leave 1 [], [(.op1 .not yER_4, .boo true)])]),
  ([(.op2 .eq yER_3 (.cell 0 (.var 4) (.var 100)), false), (yER_7, true), (yER_0, true), (yER_2, false)], some [(.leave 1 [], [(.op1 .not yER_4, .boo true)])]),
  ([(yER_7, false), (yER_0, true), (yER_2, false)], none),
  ([(yER_0, false), (yER_2, false)], some [(.leave 0 [], [(yER_4, .boo true)])])]
theorem rSam0_w (r : Rho) : rSam_D.ways rSam_run E0 r 0 rSam0_F rSam0_t = some rSam0_l := by kernel_rfl
theorem rSam_ok : rSam_D.ok = true := by kernel_rfl
def rSam_Inv (a b : List Shr) (j : Nat) (vals : List Value) : Prop :=
  j = 0 ∧ ∃ i : Nat, i ≤ a.length ∧ vals = [.int .i64 i] ∧ a.take i = b.take i
def rSam_mu (a : List Shr) (_ : Nat) (vals : List Value) : Nat := a.length - (vI (vals.getD 0 default)).toNat
set_option maxHeartbeats 1000000 in
theorem rSam_step {ρ : Rho} {a b : List Shr} (h1 : ρ.val 1 = some (shrsR a)) (h4 : ρ.val 4 = some (shrsR b)) (hsy : ρ.sym = sy) (hmax : (a.length : Int) ≤ 5000) (hlen : a.length = b.length) (j : Nat) (vals : List Value) (hI : rSam_Inv a b j vals) :
    StepOk rSam_D rSam_run E0 ρ (rSam_Inv a b) (rSam_mu a) j vals := by
  obtain ⟨rfl, i, hi, rfl, hall⟩ := hI
  have hN : rSam_D.N = 100 := rfl
  have v1 : (ρ.ext rSam_D.N [.int .i64 i]).val 1 = some (shrsR a) := by rw [ext_low _ _ _ _ (by rw [hN]; omega)]; exact h1
  have v4 : (ρ.ext rSam_D.N [.int .i64 i]).val 4 = some (shrsR b) := by rw [ext_low _ _ _ _ (by rw [hN]; omega)]; exact h4
  have v100 : (ρ.ext rSam_D.N [.int .i64 i]).val 100 = some (.int .i64 i) := by rw [ext_high _ _ _ _ (by rw [hN]; omega)]; rfl
  have vs : (ρ.ext rSam_D.N [.int .i64 i]).sym = sy := hsy
  have hF : FactsIn (ρ.ext rSam_D.N [.int .i64 i]) rSam0_F := by
    simp only [rSam0_F, FactsIn, X.bool, X.den, denL, dX, denSub, denIte, asB, dY, v100, Option.some.injEq, Value.bool.injEq, decide_eq_false_iff_not, and_true]
    omega
  suffices both : AsksL (ρ.ext rSam_D.N [.int .i64 i]) (rSam0_t.asks rSam0_F) ∧ WaysOk rSam_D ρ (rSam_Inv a b) (rSam_mu a) 0 [.int .i64 i] rSam0_l from step_of_ways (rSam0_w _) hF both.1.ok both.2
  cases hp : a[i]? with
  | none =>
    have hge := List.getElem?_eq_none_iff.1 hp
    have hge' : ¬ (i : Int) < a.length := by omega
    have hge2 : ¬ (i : Int) < b.length := by omega
    have hq : b[i]? = none := List.getElem?_eq_none_iff.2 (by omega)
    have hab : a = b := by rw [List.take_of_length_le hge, List.take_of_length_le (by omega)] at hall; exact hall
    refine ⟨?_, ?_⟩
    · simp only [rSam0_t, yER_11, yER_10, yER_9, yER_8, yER_7, yER_6, yER_5, yER_4, yER_3, yER_2, yER_1, yER_0, rSam0_F, AsksL, GTree.asks, FTree.asks, FactsIn, List.append_nil, List.nil_append, List.cons_append, Option.some.injEq, exists_eq', implies_true, and_self, X.bool, X.den, denL, dX, denSub, denIte, asB, dY, v1, v4, v100, vs, sym10, sym22, sym110, sym116, sym119, Int.toNat_natCast, hp, hq, hge', hge2]
      try simp
    · simp only [rSam0_l, yER_11, yER_10, yER_9, yER_8, yER_7, yER_6, yER_5, yER_4, yER_3, yER_2, yER_1, yER_0, EndsOk, WaysOk, forall_cons, forall_nil, TgtOk, gpair, FactsIn, hold_cons, hold_nil, Option.some.injEq, dZ, X.bool, X.den, denL, dX, denSub, denIte, asB, dY, beq_iff_eq, beq_eq_false_iff_ne, ne_eq, v1, v4, v100, vs, h1, h4, hsy, sym10, sym22, sym110, sym116, sym119, Int.toNat_natCast, hp, hq, hge', hge2]
      simp [hab]
  | some p =>
    have hlt : i < a.length := (List.getElem?_eq_some_iff.1 hp).1
    have hlt1 : (i : Int) < a.length := by omega
    have hlt2 : (i : Int) < b.length := by omega
    have hw : IntKind.i64.wrap ((i : Int) + 1) = ((i + 1 : Nat) : Int) := by rw [IntWalk.i64_in _ (by omega)]; rfl
    have hq : b[i]? = some b[i] := List.getElem?_eq_getElem (by omega)
    generalize b[i] = q at hq
    have go : p = q → ∃ vals', (ρ.ext rSam_D.N vals').val 100 = some (.int .i64 ((i + 1 : Nat) : Int)) ∧ rSam_Inv a b 0 vals' ∧ rSam_mu a 0 vals' < rSam_mu a 0 [.int .i64 i] := by
      intro e
      refine ⟨[.int .i64 ((i + 1 : Nat) : Int)], ?_, ⟨rfl, i + 1, by omega, rfl, by rw [List.take_add_one, List.take_add_one, hp, hq, hall, e]⟩, ?_⟩
      · rw [ext_high _ _ _ _ (by rw [hN]; omega)]; rfl
      · simp [rSam_mu, vI]; omega
    have no : p ≠ q → a ≠ b := fun hne e => hne (by rw [e, hq] at hp; exact (Option.some.inj hp).symm)
    refine ⟨?_, ?_⟩
    all_goals (simp only [rSam0_t, yER_11, yER_10, yER_9, yER_8, yER_7, yER_6, yER_5, yER_4, yER_3, yER_2, yER_1, yER_0, rSam0_F, rSam0_l, AsksL, GTree.asks, FTree.asks, FactsIn, List.append_nil, List.nil_append, List.cons_append, Option.some.injEq, exists_eq', implies_true, and_self, X.bool, X.den, denL, dX, denSub, denIte, asB, dY, EndsOk, WaysOk, forall_cons, forall_nil, TgtOk, gpair, FactsIn, hold_cons, hold_nil, Option.some.injEq, dZ, X.bool, X.den, denL, dX, denSub, denIte, asB, dY, beq_iff_eq, beq_eq_false_iff_ne, ne_eq, v1, v4, v100, vs, h1, h4, hsy, sym10, sym22, sym110, sym116, sym119, Int.toNat_natCast, hp, hq, Option.bind_some, shr0, shr1, hlt1, hlt2, hw, reduceCtorEq, false_implies, implies_true, true_implies, and_self])
    all_goals (clear v1 v4 v100 vs h1 h4 hsy hp hq hF)
    all_goals ((repeat' apply And.intro) <;> intros <;> first
      | trivial
      | (exfalso; omega)
      | (exact absurd trivial (by assumption))
      | (exact go (shr_eq (by assumption) (by assumption)))
      | (have := no (fun e => by simp_all); simp_all; done)
      | (simp_all; done))
noncomputable def rSam_con : Con := { f := 10, args := [shrsArg 0 0, shrsArg 1 3], N := 2, M := 2, pre := [(.app 22 [.var 1], true)], out := .sbool (.app 119 [.var 1, .var 4]), news := [] }
noncomputable def rSam_call : Env → CallL := fun E => acallAll E (evH E (noL E) ((fun E => oneH 10 (hooks [(4, rSam_D.hook E.facts rsam_vs)])) E) 6)
noncomputable def rSam_t : GTree := (.fork yER_8 (.fork yER_4 (.leaf [[]]) (.leaf [[]])) (.leaf [[]]))
noncomputable def rSam_l : List (List (X × Bool) × Option Pairs) := [([(yER_4, true), (yER_8, true), (.app 22 [.var 1], true)], some [(yER_4, .boo true)]),
  ([(yER_4, false), (yER_8, true), (.app 22 [.var 1], true)], some [(yER_4, .boo false)]),
  ([(yER_8, false), (.app 22 [.var 1], true)], some [(yER_4, .boo false)])]
theorem rSam_w (r : Rho) : rSam_con.fn.ways rSam_call E0 r rSam_con.pre rSam_t = some rSam_l := by kernel_rfl
theorem rSam_H {r : Rho} {a b : List Shr} (h1 : r.val 1 = some (shrsR a)) (h4 : r.val 4 = some (shrsR b)) (hsy : r.sym = sy) (hmax : (a.length : Int) ≤ 5000) (F : List (X × Bool)) : LoopsOk (E0.with F r) (oneH 10 (hooks [(4, rSam_D.hook (E0.with F r).facts rsam_vs)])) := by
  refine loops_all (n := 1) (fun f fn h => h) (by kernel_rfl) fun i hi => ?_
  obtain rfl : i = 0 := by omega
  rw [hooks_hit (show keyOf (loopAt (E0.with F r).P 10 0) = 4 by kernel_rfl)]
  refine hook_ok (E₀ := E0) (run := rSam_run) (ρ := r) (Inv := rSam_Inv a b) (μ := rSam_mu a) E0_ok rSam_ok (fun F r' h => ?_) (fun hp => ⟨rSam_step h1 h4 hsy hmax ?_, [.int .i64 0], ?_, rfl, 0, Nat.zero_le _, rfl, rfl⟩)
  · exact bodyRun_ok E0_ok (noL_ok F (h.trans hsy)) fun _ _ => noLoop_ok
  · simp only [rSam_D, FactsIn, X.bool, X.den, denL, dX, denSub, denIte, asB, dY, h1, h4, hsy, sym10, sym22, sym110, sym116, sym119, Option.some.injEq, Value.bool.injEq, and_true, beq_iff_eq, beq_eq_false_iff_ne, ne_eq] at hp
    omega
  · simp only [rsam_vs, X.bool, X.den, denL, dX, denSub, denIte, asB, dY]
theorem rSam_cok : rSam_con.Ok Tryz.prog sy := by
  intro r σ w us hsy hρ hpre hrel hins
  obtain ⟨a, h1⟩ := shrs_at hrel (i := 0) rfl
  obtain ⟨b, h4⟩ := shrs_at hrel (i := 1) rfl
  rw [hρ] at h1 h4
  have h1 : r.val 1 = some (shrsR a) := h1
  have h4 : r.val 4 = some (shrsR b) := h4
  have hsh : bigB a = true := by
    have := hpre.1
    simpa only [X.bool, X.den, denL, dX, denSub, denIte, asB, dY, h1, hsy, sym22, Option.some.injEq, Value.bool.injEq] using this
  refine con_of (E := E0) E0_ok E0_glob (sy := sy) (fun F => noL_ok F hsy) (fun F => rSam_H h1 h4 hsy (big_len hsh) F) (rSam_w r) hρ hpre hrel hins ?_ ?_
  · simp only [rSam_con, rSam_t, yER_11, yER_10, yER_9, yER_8, yER_7, yER_6, yER_5, yER_4, yER_3, yER_2, yER_1, yER_0, AsksL, GTree.asks, FTree.asks, FactsIn, List.append_nil, List.nil_append, List.cons_append, Option.some.injEq, exists_eq', implies_true, and_self, X.bool, X.den, denL, dX, denSub, denIte, asB, dY, h1, h4, hsy, sym10, sym22, sym110, sym116, sym119]
    try simp
  · simp only [rSam_l, yER_11, yER_10, yER_9, yER_8, yER_7, yER_6, yER_5, yER_4, yER_3, yER_2, yER_1, yER_0, EndsOk, WaysOk, forall_cons, forall_nil, TgtOk, gpair, FactsIn, hold_cons, hold_nil, Option.some.injEq, dZ, X.bool, X.den, denL, dX, denSub, denIte, asB, dY, beq_iff_eq, beq_eq_false_iff_ne, ne_eq, h1, h4, hsy, sym10, sym22, sym110, sym116, sym119]
    clear hsy hρ hpre hrel hins h1 h4
    (repeat' apply And.intro) <;> intros <;> first
      | trivial
      | (simp_all; done)
      | (have hne : a ≠ b := fun e => by subst e; simp_all
         simp_all; done)
end Go.Proofs.YtpdemfamfmeemacGreatDoor.Zs
