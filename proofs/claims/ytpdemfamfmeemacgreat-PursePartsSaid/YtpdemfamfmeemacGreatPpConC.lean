/-
  Contracts of the reference: what is refused, Check and Append.
-/
import Derived.Test.YtpdemfamfmeemacGreatPpConB
import Derived.Test.YtpdemfamfmeemacGreatPpData
import Derived.KernelRfl
set_option linter.unusedSimpArgs false
set_option linter.unusedVariables false
namespace Go.Proofs.YtpdemfamfmeemacGreat.Zs
open Go
theorem lastH_at {l : List Ptg} {q : Ptg} (h0 : 0 < l.length) (hq : l[((l.length : Int) - 1).toNat]? = some q) : lastH l = q.hour := by
  have e : ((l.length : Int) - 1).toNat = l.length - 1 := by omega
  rw [e] at hq
  obtain ⟨l', x, rfl⟩ : ∃ l' x, l = l' ++ [x] := ⟨l.dropLast, l.getLast (by intro h; subst h; simp at h0), (List.dropLast_concat_getLast _).symm⟩
  simp at hq
  subst hq
  simp [lastH]
theorem there_next {l : List Ptg} {i : Nat} {p : Ptg} {n : Int} (h : l[i]? = some p) (hn : thereB (l.take i) n = false) (he : ¬ p.id = n) : thereB (l.take (i + 1)) n = false := by
  unfold thereB at *
  rw [List.take_add_one, h, List.any_append, hn]
  simp [he]
theorem there_at {l : List Ptg} {i : Nat} {p : Ptg} {n : Int} (h : l[i]? = some p) (he : p.id = n) : thereB l n = true := by
  unfold thereB
  exact List.any_eq_true.2 ⟨p, List.mem_of_getElem? h, by simpa using he⟩
noncomputable def L1 : Env → CallE := libs [cLib rPost_con, cLib rHas_con, cLib rSold_con, cLib rHeld_con, cLib rLast_con]
theorem L1_ok (F : List (X × Bool)) {r : Rho} (h : r.sym = sy) : CallsOk (E0.with F r) (L1 (E0.with F r)) := libs_ok fun c hc => by
  simp only [List.mem_cons, List.not_mem_nil, or_false] at hc
  rcases hc with rfl | rfl | rfl | rfl | rfl
  · exact lib_ok (E := E0) rPost_cok F h
  · exact lib_ok (E := E0) rHas_cok F h
  · exact lib_ok (E := E0) rSold_cok F h
  · exact lib_ok (E := E0) rHeld_cok F h
  · exact lib_ok (E := E0) rLast_cok F h
def ref_vs : List X := [.num 0]
noncomputable def lId_D : LoopD := { N := 100, M := 101, size := sizeOfF 59, reads := [(0, .rows 8 ptgSch (.var 0) (.var 1) false 36), (1, .cells [.sint .i64 (.var 3), .sint .i64 (.var 4), .sint .u8 (.var 5), .sint .i64 (.var 6), .sint .i64 (.var 7), .sint .i64 (.var 8), .sint .i64 (.var 9), .sint .i64 (.var 10)] 36)], pats := [{ slots := [(0, .slx 0 8 (.var 0) (.num 0) (.op1 .len (.var 1)) (.var 2)), (3, .ptr 1 0), (5, .sint .i64 (.var 100))], heap := [] }], exits := [(.exit 0, { slots := [(0, .slx 0 8 (.var 0) (.num 0) (.op1 .len (.var 1)) (.var 2)), (3, .ptr 1 0)], heap := [], guard := .op1 .not (.app 46 [.var 1, .var 3]) }), (.ret, { slots := [(4, .int .i64 6)], heap := [], guard := .app 46 [.var 1, .var 3] })], own := [], pre := [(.app 20 [.var 1], true)] }
noncomputable def lId_run : Env → AF → ASt → Option (List Out) := bodyRun noL 6 (fun _ => noLoop) (loopAt Tryz.prog 59 0)
def lId0_F : List (X × Bool) := [(.op2 .lt (.var 100) (.num 0), false)]
def yPC_0 : X := .op2 .eq (.ite (.app 63 [(.var 3), (.var 4), (.var 5), (.var 6), (.var 7), (.var 8), (.var 9), (.var 10)]) (.num 0) (.num 1)) (.num 0)
def yPC_1 : X := .app 4 [(.var 1), (.var 3), (.var 4), (.var 5), (.var 6), (.var 7), (.var 8), (.var 9), (.var 10)]
def yPC_2 : X := .op1 (.wrap .i64) (.op2 .sub (.op1 .len (.var 1)) (.num 1))
def yPC_3 : X := .op1 .len (.var 1)
def yPC_4 : X := .app 4 [(.lsub (.var 1) (.num 0) (.var 100)), (.cell 0 (.var 1) (.var 100)), (.cell 1 (.var 1) (.var 100)), (.cell 2 (.var 1) (.var 100)), (.cell 3 (.var 1) (.var 100)), (.cell 4 (.var 1) (.var 100)), (.cell 5 (.var 1) (.var 100)), (.cell 6 (.var 1) (.var 100)), (.cell 7 (.var 1) (.var 100))]
def yPC_5 : X := .op2 .eq (.app 41 [(.var 1), (.var 7)]) (.num 0)
def yPC_6 : X := .app 46 [(.var 1), (.var 3)]
def yPC_7 : X := .op2 .lt yPC_3 (.num 400)
def yPC_8 : X := .op2 .eq (.var 5) (.num 1)
def yPC_9 : X := .op2 .lt (.app 40 [(.var 1), (.var 6), (.var 7)]) (.var 8)
def yPC_10 : X := .op2 .lt (.num 0) yPC_3
def yPC_11 : X := .op2 .lt (.var 4) (.cell 1 (.var 1) yPC_2)
def yPC_12 : X := .op2 .lt (.app 43 [(.var 1), (.var 6), (.var 7), (.num 7)]) (.var 10)
def yPC_13 : X := .app 20 [(.var 1)]
def yPC_14 : X := .op2 .eq (.var 5) (.num 2)
def yPC_15 : X := .op2 .lt (.var 100) yPC_3
def yPC_16 : X := .op2 .lt (.num 0) (.app 41 [(.var 1), (.var 7)])
def yPC_17 : X := .op2 .lt (.app 42 [(.var 1), (.var 7)]) (.var 8)
def yPC_18 : X := .op2 .lt (.var 100) (.num 0)
def yPC_19 : X := .op2 .lt yPC_2 (.num 0)
def yPC_20 : X := .op2 .lt yPC_2 yPC_3
def yPC_21 : X := .op2 .lt (.var 100) (.var 100)
def yPC_22 : X := .op2 .eq (.app 6 [(.var 1)]) (.num 0)
noncomputable def lId0_t : FTree := (.fork yPC_15 (.fork (.op2 .eq (.cell 0 (.var 1) (.var 100)) (.var 3)) (.leaf [.leave 1 []]) (.leaf [.again 0 []])) (.leaf [.leave 0 []]))
noncomputable def lId0_l : List (List (X × Bool) × Option (List (Tgt × Pairs))) := [([(.op2 .eq (.cell 0 (.var 1) (.var 100)) (.var 3), true), (yPC_15, true), (yPC_18, false)], some [(.leave 1 [], [(yPC_6, .boo true)])]),
  ([(.op2 .eq (.cell 0 (.var 1) (.var 100)) (.var 3), false), (yPC_15, true), (yPC_18, false)], some [(.again 0 [], [(.var 100, .op1 (.wrap .i64) (.op2 .add (.var 100) (.num 1)))])]),
  ([(yPC_15, false), (yPC_18, false)], some [(.leave 0 [], [(.op1 .not yPC_6, .boo true)])])]
theorem lId0_w (r : Rho) : lId_D.ways lId_run E0 r 0 lId0_F lId0_t = some lId0_l := by kernel_rfl
theorem lId_ok : lId_D.ok = true := by kernel_rfl
def lId_Inv (l : List Ptg) (n : Int) (j : Nat) (vals : List Value) : Prop :=
  j = 0 ∧ ∃ i : Nat, i ≤ l.length ∧ vals = [.int .i64 i] ∧ thereB (l.take i) n = false
def lId_mu (l : List Ptg) (_ : Nat) (vals : List Value) : Nat := l.length - (vI (vals.getD 0 default)).toNat
theorem lId_step {ρ : Rho} {l : List Ptg} {n : Int} {k3 : IntKind} (h1 : ρ.val 1 = some (ptgsR l)) (h3 : ρ.val 3 = some (.int k3 n)) (hsy : ρ.sym = sy) (hmax : (l.length : Int) ≤ 1010) (j : Nat) (vals : List Value) (hI : lId_Inv l n j vals) :
    StepOk lId_D lId_run E0 ρ (lId_Inv l n) (lId_mu l) j vals := by
  obtain ⟨rfl, i, hi, rfl, hall⟩ := hI
  have hN : lId_D.N = 100 := rfl
  have v1 : (ρ.ext lId_D.N [.int .i64 i]).val 1 = some (ptgsR l) := by rw [ext_low _ _ _ _ (by rw [hN]; omega)]; exact h1
  have v3 : (ρ.ext lId_D.N [.int .i64 i]).val 3 = some (.int k3 n) := by rw [ext_low _ _ _ _ (by rw [hN]; omega)]; exact h3
  have v100 : (ρ.ext lId_D.N [.int .i64 i]).val 100 = some (.int .i64 i) := by rw [ext_high _ _ _ _ (by rw [hN]; omega)]; rfl
  have vs : (ρ.ext lId_D.N [.int .i64 i]).sym = sy := hsy
  have hF : FactsIn (ρ.ext lId_D.N [.int .i64 i]) lId0_F := by
    simp only [lId0_F, FactsIn, X.bool, X.den, denL, dX, denSub, denIte, asB, dY, v100, Option.some.injEq, Value.bool.injEq, decide_eq_false_iff_not, and_true]
    omega
  suffices both : AsksL (ρ.ext lId_D.N [.int .i64 i]) (lId0_t.asks lId0_F) ∧ WaysOk lId_D ρ (lId_Inv l n) (lId_mu l) 0 [.int .i64 i] lId0_l from step_of_ways (lId0_w _) hF both.1.ok both.2
  cases hp : l[i]? with
  | none =>
    have hge := List.getElem?_eq_none_iff.1 hp
    have hge' : ¬ (i : Int) < l.length := by omega
    have hl : l.take i = l := List.take_of_length_le hge
    rw [hl] at hall
    refine ⟨?_, ?_⟩
    · simp only [lId0_t, yPC_22, yPC_21, yPC_20, yPC_19, yPC_18, yPC_17, yPC_16, yPC_15, yPC_14, yPC_13, yPC_12, yPC_11, yPC_10, yPC_9, yPC_8, yPC_7, yPC_6, yPC_5, yPC_4, yPC_3, yPC_2, yPC_1, yPC_0, lId0_F, AsksL, GTree.asks, FTree.asks, FactsIn, List.append_nil, List.nil_append, List.cons_append, Option.some.injEq, exists_eq', implies_true, and_self, X.bool, X.den, denL, dX, denSub, denIte, asB, dY, v1, v3, v100, vs, sym4, sym5, sym6, sym20, sym40, sym41, sym42, sym43, sym44, sym46, sym63, Int.reduceToNat, Int.toNat_natCast, hp, hge']
      try simp
    · simp only [lId0_l, yPC_22, yPC_21, yPC_20, yPC_19, yPC_18, yPC_17, yPC_16, yPC_15, yPC_14, yPC_13, yPC_12, yPC_11, yPC_10, yPC_9, yPC_8, yPC_7, yPC_6, yPC_5, yPC_4, yPC_3, yPC_2, yPC_1, yPC_0, EndsOk, WaysOk, forall_cons, forall_nil, TgtOk, gpair, FactsIn, hold_cons, hold_nil, Option.some.injEq, dZ, X.bool, X.den, denL, dX, denSub, denIte, asB, dY, beq_iff_eq, beq_eq_false_iff_ne, ne_eq, v1, v3, v100, vs, h1, h3, hsy, sym4, sym5, sym6, sym20, sym40, sym41, sym42, sym43, sym44, sym46, sym63, Int.reduceToNat, Int.toNat_natCast, hp, hge']
      simp [hall]
  | some p =>
    have hlt : i < l.length := (List.getElem?_eq_some_iff.1 hp).1
    have hlt1 : (i : Int) < l.length := by omega
    have hw : IntKind.i64.wrap ((i : Int) + 1) = ((i + 1 : Nat) : Int) := by rw [IntWalk.i64_in _ (by omega)]; rfl
    refine ⟨?_, ?_⟩
    · simp only [lId0_t, yPC_22, yPC_21, yPC_20, yPC_19, yPC_18, yPC_17, yPC_16, yPC_15, yPC_14, yPC_13, yPC_12, yPC_11, yPC_10, yPC_9, yPC_8, yPC_7, yPC_6, yPC_5, yPC_4, yPC_3, yPC_2, yPC_1, yPC_0, lId0_F, AsksL, GTree.asks, FTree.asks, FactsIn, List.append_nil, List.nil_append, List.cons_append, Option.some.injEq, exists_eq', implies_true, and_self, X.bool, X.den, denL, dX, denSub, denIte, asB, dY, v1, v3, v100, vs, sym4, sym5, sym6, sym20, sym40, sym41, sym42, sym43, sym44, sym46, sym63, Int.reduceToNat, Int.toNat_natCast, hp, Option.bind_some, ptg0, ptg1, ptg2, ptg3, ptg4, ptg5, ptg6, ptg7]
    · simp only [lId0_l, yPC_22, yPC_21, yPC_20, yPC_19, yPC_18, yPC_17, yPC_16, yPC_15, yPC_14, yPC_13, yPC_12, yPC_11, yPC_10, yPC_9, yPC_8, yPC_7, yPC_6, yPC_5, yPC_4, yPC_3, yPC_2, yPC_1, yPC_0, EndsOk, WaysOk, forall_cons, forall_nil, TgtOk, gpair, FactsIn, hold_cons, hold_nil, Option.some.injEq, dZ, X.bool, X.den, denL, dX, denSub, denIte, asB, dY, beq_iff_eq, beq_eq_false_iff_ne, ne_eq, v1, v3, v100, vs, h1, h3, hsy, sym4, sym5, sym6, sym20, sym40, sym41, sym42, sym43, sym44, sym46, sym63, Int.reduceToNat, Int.toNat_natCast, hp, Option.bind_some, ptg0, ptg1, ptg2, ptg3, ptg4, ptg5, ptg6, ptg7, hlt1, hw]
      have go : ¬ p.id = n → ∃ vals', ((ρ.ext lId_D.N vals').val 100 = some (.int .i64 ((i + 1 : Nat) : Int))) ∧ lId_Inv l n 0 vals' ∧ lId_mu l 0 vals' < lId_mu l 0 [.int .i64 i] := by
        intro e
        refine ⟨[.int .i64 ((i + 1 : Nat) : Int)], ?_, ⟨rfl, i + 1, by omega, rfl, there_next hp hall e⟩, ?_⟩
        · rw [ext_high _ _ _ _ (by rw [hN]; omega)]; rfl
        · simp [lId_mu, vI]; omega
      have yes := @there_at l i p n hp
      clear v1 v3 v100 vs h1 h3 hsy hF hall
      (repeat' apply And.intro) <;> intros <;> first
        | (exact True.intro)
        | (exfalso; omega)
        | (exact go (by assumption))
        | (exact yes (by assumption))
        | (simp_all; done)
noncomputable def refused_con : Con := { f := 59, args := [ptgsArg 0 0, .agg (ptgLeaves 3)], N := 1, M := 1, pre := [(.app 20 [.var 1], true)], out := .sint .i64 (.app 4 [.var 1, .var 3, .var 4, .var 5, .var 6, .var 7, .var 8, .var 9, .var 10]), news := [] }
noncomputable def refused_call : Env → CallL := fun E => acallAll E (evH E (L1 E) ((fun E => oneH 59 (hooks [(6, lId_D.hook E.facts ref_vs)])) E) 6)
noncomputable def refused_t : GTree := (.fork yPC_7 (.fork yPC_0 (.fork yPC_6 (.leaf [[]]) (.fork yPC_10 (.fork yPC_19 .bad (.fork yPC_20 (.fork yPC_11 (.leaf [[]]) (.fork yPC_8 (.fork yPC_16 (.leaf [[]]) (.leaf [[]])) (.fork yPC_5 (.leaf [[]]) (.fork yPC_14 (.fork yPC_17 (.leaf [[]]) (.leaf [[]])) (.fork yPC_9 (.leaf [[]]) (.fork yPC_12 (.leaf [[]]) (.leaf [[]]))))))) .bad)) (.fork yPC_8 (.fork yPC_16 (.leaf [[]]) (.leaf [[]])) (.fork yPC_5 (.leaf [[]]) (.fork yPC_14 (.fork yPC_17 (.leaf [[]]) (.leaf [[]])) (.fork yPC_9 (.leaf [[]]) (.fork yPC_12 (.leaf [[]]) (.leaf [[]])))))))) (.leaf [[]])) (.leaf [[]]))
noncomputable def refused_l : List (List (X × Bool) × Option Pairs) := [([(yPC_6, true), (yPC_0, true), (yPC_7, true), (yPC_13, true)], some [(yPC_1, .num 6)]),
  ([(yPC_19, true), (yPC_10, true), (yPC_6, false), (yPC_0, true), (yPC_7, true), (yPC_13, true)], none),
  ([(yPC_11, true), (yPC_20, true), (yPC_19, false), (yPC_10, true), (yPC_6, false), (yPC_0, true), (yPC_7, true), (yPC_13, true)], some [(yPC_1, .num 7)]),
  ([(yPC_16, true), (yPC_8, true), (yPC_11, false), (yPC_20, true), (yPC_19, false), (yPC_10, true), (yPC_6, false), (yPC_0, true), (yPC_7, true), (yPC_13, true)], some [(yPC_1, .num 6)]),
  ([(yPC_16, false), (yPC_8, true), (yPC_11, false), (yPC_20, true), (yPC_19, false), (yPC_10, true), (yPC_6, false), (yPC_0, true), (yPC_7, true), (yPC_13, true)], some [(yPC_1, .num 0)]),
  ([(yPC_5, true), (yPC_8, false), (yPC_11, false), (yPC_20, true), (yPC_19, false), (yPC_10, true), (yPC_6, false), (yPC_0, true), (yPC_7, true), (yPC_13, true)], some [(yPC_1, .num 5)]),
  ([(yPC_17, true), (yPC_14, true), (yPC_5, false), (yPC_8, false), (yPC_11, false), (yPC_20, true), (yPC_19, false), (yPC_10, true), (yPC_6, false), (yPC_0, true), (yPC_7, true), (yPC_13, true)], some [(yPC_1, .num 70)]),
  ([(yPC_17, false), (yPC_14, true), (yPC_5, false), (yPC_8, false), (yPC_11, false), (yPC_20, true), (yPC_19, false), (yPC_10, true), (yPC_6, false), (yPC_0, true), (yPC_7, true), (yPC_13, true)], some [(yPC_1, .num 0)]),
  ([(yPC_9, true), (yPC_14, false), (yPC_5, false), (yPC_8, false), (yPC_11, false), (yPC_20, true), (yPC_19, false), (yPC_10, true), (yPC_6, false), (yPC_0, true), (yPC_7, true), (yPC_13, true)], some [(yPC_1, .num 70)]),
  ([(yPC_12, true), (yPC_9, false), (yPC_14, false), (yPC_5, false), (yPC_8, false), (yPC_11, false), (yPC_20, true), (yPC_19, false), (yPC_10, true), (yPC_6, false), (yPC_0, true), (yPC_7, true), (yPC_13, true)], some [(yPC_1, .num 0)]),
  ([(yPC_12, false), (yPC_9, false), (yPC_14, false), (yPC_5, false), (yPC_8, false), (yPC_11, false), (yPC_20, true), (yPC_19, false), (yPC_10, true), (yPC_6, false), (yPC_0, true), (yPC_7, true), (yPC_13, true)], some [(yPC_1, .num 71)]),
  ([(yPC_20, false), (yPC_19, false), (yPC_10, true), (yPC_6, false), (yPC_0, true), (yPC_7, true), (yPC_13, true)], none),
  ([(yPC_16, true), (yPC_8, true), (yPC_10, false), (yPC_6, false), (yPC_0, true), (yPC_7, true), (yPC_13, true)], some [(yPC_1, .num 6)]),
  ([(yPC_16, false), (yPC_8, true), (yPC_10, false), (yPC_6, false), (yPC_0, true), (yPC_7, true), (yPC_13, true)], some [(yPC_1, .num 0)]),
  ([(yPC_5, true), (yPC_8, false), (yPC_10, false), (yPC_6, false), (yPC_0, true), (yPC_7, true), (yPC_13, true)], some [(yPC_1, .num 5)]),
  ([(yPC_17, true), (yPC_14, true), (yPC_5, false), (yPC_8, false), (yPC_10, false), (yPC_6, false), (yPC_0, true), (yPC_7, true), (yPC_13, true)], some [(yPC_1, .num 70)]),
  ([(yPC_17, false), (yPC_14, true), (yPC_5, false), (yPC_8, false), (yPC_10, false), (yPC_6, false), (yPC_0, true), (yPC_7, true), (yPC_13, true)], some [(yPC_1, .num 0)]),
  ([(yPC_9, true), (yPC_14, false), (yPC_5, false), (yPC_8, false), (yPC_10, false), (yPC_6, false), (yPC_0, true), (yPC_7, true), (yPC_13, true)], some [(yPC_1, .num 70)]),
  ([(yPC_12, true), (yPC_9, false), (yPC_14, false), (yPC_5, false), (yPC_8, false), (yPC_10, false), (yPC_6, false), (yPC_0, true), (yPC_7, true), (yPC_13, true)], some [(yPC_1, .num 0)]),
  ([(yPC_12, false), (yPC_9, false), (yPC_14, false), (yPC_5, false), (yPC_8, false), (yPC_10, false), (yPC_6, false), (yPC_0, true), (yPC_7, true), (yPC_13, true)], some [(yPC_1, .num 71)]),
  ([(yPC_0, false), (yPC_7, true), (yPC_13, true)], some [(yPC_1, .num 1)]),
  ([(yPC_7, false), (yPC_13, true)], some [(yPC_1, .num 2)])]
theorem refused_w (r : Rho) : refused_con.fn.ways refused_call E0 r refused_con.pre refused_t = some refused_l := by kernel_rfl
theorem lId_H {r : Rho} {l : List Ptg} {n : Int} {k3 : IntKind} (h1 : r.val 1 = some (ptgsR l)) (h3 : r.val 3 = some (.int k3 n)) (hmax : (l.length : Int) ≤ 1010) (hsy : r.sym = sy) (F : List (X × Bool)) :
    LoopsOk (E0.with F r) (oneH 59 (hooks [(6, lId_D.hook (E0.with F r).facts ref_vs)])) := by
  refine loops_all (n := 1) (fun f fn h => h) (by kernel_rfl) fun i hi => ?_
  obtain rfl : i = 0 := by omega
  rw [hooks_hit (show keyOf (loopAt (E0.with F r).P 59 0) = 6 by kernel_rfl)]
  refine hook_ok (E₀ := E0) (run := lId_run) (ρ := r) (Inv := lId_Inv l n) (μ := lId_mu l) E0_ok lId_ok (fun F r' h => ?_) (fun _ => ⟨lId_step h1 h3 hsy hmax, [.int .i64 0], ?_, rfl, 0, Nat.zero_le _, rfl, rfl⟩)
  · exact bodyRun_ok E0_ok (noL_ok F (h.trans hsy)) fun _ _ => noLoop_ok
  · simp only [ref_vs, X.bool, X.den, denL, dX, denSub, denIte, asB, dY]
set_option maxRecDepth 100000 in
set_option maxHeartbeats 4000000 in
theorem refused_cok : refused_con.Ok Tryz.prog sy := by
  intro r σ w us hsy hρ hpre hrel hins
  obtain ⟨u0, us, rfl, g0, hi⟩ := ins_cons hins
  obtain ⟨u1, us, rfl, g1, hi⟩ := ins_cons hi
  obtain ⟨x, k, rfl, hp⟩ := ptg_agg g1
  obtain ⟨l, h1⟩ := ptgs_at hrel (i := 0) rfl
  rw [hρ] at hp h1
  have h1 : r.val 1 = some (ptgsR l) := h1
  have a0 := hp.h0
  have a1 := hp.h1
  have a2 := hp.h2
  have a3 := hp.h3
  have a4 := hp.h4
  have a5 := hp.h5
  have a6 := hp.h6
  have a7 := hp.h7
  simp only [Nat.zero_add, Nat.reduceAdd] at a0 a1 a2 a3 a4 a5 a6 a7
  have hmax : (l.length : Int) ≤ 1010 := by
    have := hpre.1
    simp only [X.bool, X.den, denL, dX, denSub, denIte, asB, dY, h1, hsy, sym20, Option.some.injEq, Value.bool.injEq] at this
    exact short_len this
  have hs : shortB l = true := len_short hmax
  have e2 : decide (400 ≤ l.length) = !decide ((l.length : Int) < 400) := by rw [Bool.eq_iff_iff]; simp; omega
  refine con_of (E := E0) E0_ok E0_glob (sy := sy) (fun F => L1_ok F hsy) (fun F => lId_H h1 a0 hmax hsy F) (refused_w r) hρ hpre hrel hins ?_ ?_
  · by_cases h0 : 0 < l.length
    · have hw : IntKind.i64.wrap ((l.length : Int) - 1) = l.length - 1 := IntWalk.i64_in _ (by omega)
      obtain ⟨q, hq⟩ : ∃ q, l[((l.length : Int) - 1).toNat]? = some q := ⟨l[((l.length : Int) - 1).toNat]'(by omega), List.getElem?_eq_getElem (by omega)⟩
      simp only [refused_con, refused_t, yPC_22, yPC_21, yPC_20, yPC_19, yPC_18, yPC_17, yPC_16, yPC_15, yPC_14, yPC_13, yPC_12, yPC_11, yPC_10, yPC_9, yPC_8, yPC_7, yPC_6, yPC_5, yPC_4, yPC_3, yPC_2, yPC_1, yPC_0, AsksL, GTree.asks, FTree.asks, FactsIn, List.append_nil, List.nil_append, List.cons_append, Option.some.injEq, exists_eq', implies_true, and_self, X.bool, X.den, denL, dX, denSub, d_ite2, d_eq_ite2, asB, dY, a0, a1, a2, a3, a4, a5, a6, a7, h1, hsy, sym4, sym5, sym6, sym20, sym40, sym41, sym42, sym43, sym44, sym46, sym63, Int.reduceToNat, hw, hq, Option.bind_some, ptg0, ptg1, ptg2, ptg3, ptg4, ptg5, ptg6, ptg7]
      try simp
    · have h0' : ¬ (0 : Int) < l.length := by omega
      simp only [refused_con, refused_t, yPC_22, yPC_21, yPC_20, yPC_19, yPC_18, yPC_17, yPC_16, yPC_15, yPC_14, yPC_13, yPC_12, yPC_11, yPC_10, yPC_9, yPC_8, yPC_7, yPC_6, yPC_5, yPC_4, yPC_3, yPC_2, yPC_1, yPC_0, AsksL, GTree.asks, FTree.asks, FactsIn, List.append_nil, List.nil_append, List.cons_append, Option.some.injEq, exists_eq', implies_true, and_self, X.bool, X.den, denL, dX, denSub, d_ite2, d_eq_ite2, asB, dY, a0, a1, a2, a3, a4, a5, a6, a7, h1, hsy, sym4, sym5, sym6, sym20, sym40, sym41, sym42, sym43, sym44, sym46, sym63, Int.reduceToNat, h0', ptg0, ptg1, ptg2, ptg3, ptg4, ptg5, ptg6, ptg7]
      simp
  · by_cases h0 : 0 < l.length
    · have hw : IntKind.i64.wrap ((l.length : Int) - 1) = l.length - 1 := IntWalk.i64_in _ (by omega)
      obtain ⟨q, hq⟩ : ∃ q, l[((l.length : Int) - 1).toNat]? = some q := ⟨l[((l.length : Int) - 1).toNat]'(by omega), List.getElem?_eq_getElem (by omega)⟩
      have hlast : lastH l = q.hour := lastH_at h0 hq
      simp only [refused_l, yPC_22, yPC_21, yPC_20, yPC_19, yPC_18, yPC_17, yPC_16, yPC_15, yPC_14, yPC_13, yPC_12, yPC_11, yPC_10, yPC_9, yPC_8, yPC_7, yPC_6, yPC_5, yPC_4, yPC_3, yPC_2, yPC_1, yPC_0, EndsOk, WaysOk, forall_cons, forall_nil, TgtOk, gpair, FactsIn, hold_cons, hold_nil, Option.some.injEq, dZ, X.bool, X.den, denL, dX, denSub, d_ite2, d_eq_ite2, asB, dY, beq_iff_eq, beq_eq_false_iff_ne, ne_eq, cond_acc, a0, a1, a2, a3, a4, a5, a6, a7, h1, hsy, sym4, sym5, sym6, sym20, sym40, sym41, sym42, sym43, sym44, sym46, sym63, Int.reduceToNat, hw, hq, Option.bind_some, ptg0, ptg1, ptg2, ptg3, ptg4, ptg5, ptg6, ptg7]
      clear hsy hρ hpre hrel hi hp hins g0 g1 h1 a0 a1 a2 a3 a4 a5 a6 a7
      simp only [refusedP, e2, hlast, h0, decide_true, Bool.true_and]
      generalize heldW l x.parcel = y1
      generalize soldW l x.parcel = y2
      generalize hasW l x.party x.parcel = y3
      generalize (lastPay l x.party x.parcel).known = y4
      by_cases c7 : x.hour < q.hour <;> simp only [c7, decide_true, decide_false, cond_true, cond_false, not_true_eq_false, not_false_eq_true]
      all_goals ((repeat' apply And.intro) <;> intros <;> first
        | (exact True.intro)
        | (exfalso; omega)
        | contradiction
        | (simp [*]; done)
        | (simp [*, Bool.cond_decide]; done)
        | (simp [*, Bool.cond_decide]; omega)
        | (simp_all; done)
        | (exfalso; simp_all; omega)
        | (simp_all; omega))
    · have h0' : ¬ (0 : Int) < l.length := by omega
      simp only [refused_l, yPC_22, yPC_21, yPC_20, yPC_19, yPC_18, yPC_17, yPC_16, yPC_15, yPC_14, yPC_13, yPC_12, yPC_11, yPC_10, yPC_9, yPC_8, yPC_7, yPC_6, yPC_5, yPC_4, yPC_3, yPC_2, yPC_1, yPC_0, EndsOk, WaysOk, forall_cons, forall_nil, TgtOk, gpair, FactsIn, hold_cons, hold_nil, Option.some.injEq, dZ, X.bool, X.den, denL, dX, denSub, d_ite2, d_eq_ite2, asB, dY, beq_iff_eq, beq_eq_false_iff_ne, ne_eq, cond_acc, a0, a1, a2, a3, a4, a5, a6, a7, h1, hsy, sym4, sym5, sym6, sym20, sym40, sym41, sym42, sym43, sym44, sym46, sym63, Int.reduceToNat, h0', ptg0, ptg1, ptg2, ptg3, ptg4, ptg5, ptg6, ptg7]
      clear hsy hρ hpre hrel hi hp hins g0 g1 h1 a0 a1 a2 a3 a4 a5 a6 a7
      simp only [refusedP, e2, h0, decide_false, Bool.false_and, cond_false]
      generalize heldW l x.parcel = y1
      generalize soldW l x.parcel = y2
      generalize hasW l x.party x.parcel = y3
      generalize (lastPay l x.party x.parcel).known = y4
      (repeat' apply And.intro) <;> intros <;> first
        | (exact True.intro)
        | (exfalso; omega)
        | (simp [*]; done)
        | (simp [*, Bool.cond_decide]; done)
        | (simp [*, Bool.cond_decide]; omega)
        | (simp_all; done)
        | (exfalso; simp_all; omega)
        | (simp_all; omega)
noncomputable def L2 : Env → CallE := libs [cLib refused_con]
theorem L2_ok (F : List (X × Bool)) {r : Rho} (h : r.sym = sy) : CallsOk (E0.with F r) (L2 (E0.with F r)) := libs_ok fun c hc => by
  simp only [List.mem_cons, List.not_mem_nil, or_false] at hc
  subst hc; exact lib_ok (E := E0) refused_cok F h
noncomputable def lChk_D : LoopD := { N := 100, M := 101, size := sizeOfF 32, reads := [(0, .rows 8 ptgSch (.var 0) (.var 1) false 36)], pats := [{ slots := [(0, .slx 0 8 (.var 0) (.num 0) (.op1 .len (.var 1)) (.var 2)), (4, .sint .i64 (.var 100))], heap := [] }], exits := [(.exit 0, { slots := [], heap := [], guard := .op2 .eq (.app 6 [.var 1]) (.num 0) }), (.ret, { slots := [(2, .sint .i64 (.app 5 [.var 1])), (3, .sint .i64 (.app 6 [.var 1]))], heap := [], guard := .op1 .not (.op2 .eq (.app 6 [.var 1]) (.num 0)) })], own := [], pre := [(.app 20 [.var 1], true)] }
noncomputable def lChk_run : Env → AF → ASt → Option (List Out) := bodyRun L2 3 (fun _ => noLoop) (loopAt Tryz.prog 32 0)
def lChk0_F : List (X × Bool) := [(.op2 .lt (.var 100) (.num 0), false)]
noncomputable def lChk0_t : FTree := (.fork yPC_15 (.fork yPC_21 .bad (.fork (.op2 .lt (.var 2) (.var 100)) .bad (.fork (.op2 .lt yPC_3 (.var 100)) .bad (.fork (.app 20 [.lsub (.var 1) (.num 0) (.var 100)]) (.fork (.op2 .eq yPC_4 (.num 0)) (.leaf [.again 0 []]) (.leaf [.leave 1 []])) .bad)))) (.leaf [.leave 0 []]))
noncomputable def lChk0_l : List (List (X × Bool) × Option (List (Tgt × Pairs))) := [([(yPC_21, true), (yPC_15, true), (yPC_18, false)], none),
  ([(.op2 .lt (.var 2) (.var 100), true), (yPC_21, false), (yPC_15, true), (yPC_18, false)], none),
  ([(.op2 .lt yPC_3 (.var 100), true), (.op2 .lt (.var 2) (.var 100), false), (yPC_21, false), (yPC_15, true), (yPC_18, false)], none),
  ([(.op2 .eq yPC_4 (.num 0), true), (.app 20 [.lsub (.var 1) (.num 0) (.var 100)], true), (.op2 .lt yPC_3 (.var 100), false), (.op2 .lt (.var 2) (.var 100), false), (yPC_21, false), (yPC_15, true), (yPC_18, false)], some [(.again 0 [], [(.var 100, .op1 (.wrap .i64) (.op2 .add (.var 100) (.num 1)))])]),
  ([(.op2 .eq yPC_4 (.num 0), false), (.app 20 [.lsub (.var 1) (.num 0) (.var 100)], true), (.op2 .lt yPC_3 (.var 100), false), (.op2 .lt (.var 2) (.var 100), false), (yPC_21, false), (yPC_15, true), (yPC_18, false)], some [(.leave 1 [], [(.app 5 [.var 1], .var 100), (.app 6 [.var 1], yPC_4), (.op1 .not yPC_22, .boo true)])]),
  ([(.app 20 [.lsub (.var 1) (.num 0) (.var 100)], false), (.op2 .lt yPC_3 (.var 100), false), (.op2 .lt (.var 2) (.var 100), false), (yPC_21, false), (yPC_15, true), (yPC_18, false)], none),
  ([(yPC_15, false), (yPC_18, false)], some [(.leave 0 [], [(yPC_22, .boo true)])])]
theorem lChk0_w (r : Rho) : lChk_D.ways lChk_run E0 r 0 lChk0_F lChk0_t = some lChk0_l := by kernel_rfl
theorem lChk_ok : lChk_D.ok = true := by kernel_rfl
def lChk_Inv (l : List Ptg) (j : Nat) (vals : List Value) : Prop :=
  j = 0 ∧ ∃ i : Nat, i ≤ l.length ∧ vals = [.int .i64 i] ∧ checkP l = chkP (l.take i) (l.drop i)
def lChk_mu (l : List Ptg) (_ : Nat) (vals : List Value) : Nat := l.length - (vI (vals.getD 0 default)).toNat
theorem lChk_step {ρ : Rho} {l : List Ptg} {kc : IntKind} {cap : Int} (h1 : ρ.val 1 = some (ptgsR l)) (h2 : ρ.val 2 = some (.int kc cap)) (hcap : (l.length : Int) ≤ cap) (hsy : ρ.sym = sy) (hsh : shortB l = true) (j : Nat) (vals : List Value) (hI : lChk_Inv l j vals) :
    StepOk lChk_D lChk_run E0 ρ (lChk_Inv l) (lChk_mu l) j vals := by
  obtain ⟨rfl, i, hi, rfl, hall⟩ := hI
  have hN : lChk_D.N = 100 := rfl
  have hmax := short_len hsh
  have v1 : (ρ.ext lChk_D.N [.int .i64 i]).val 1 = some (ptgsR l) := by rw [ext_low _ _ _ _ (by rw [hN]; omega)]; exact h1
  have v2 : (ρ.ext lChk_D.N [.int .i64 i]).val 2 = some (.int kc cap) := by rw [ext_low _ _ _ _ (by rw [hN]; omega)]; exact h2
  have v100 : (ρ.ext lChk_D.N [.int .i64 i]).val 100 = some (.int .i64 i) := by rw [ext_high _ _ _ _ (by rw [hN]; omega)]; rfl
  have vs : (ρ.ext lChk_D.N [.int .i64 i]).sym = sy := hsy
  have hl20 : shortB (l.take i) = true := short_take hsh i
  refine step_of_ways (lChk0_w _) (F := lChk0_F) ?_ (AsksL.ok ?_) ?_
  · simp only [lChk0_F, FactsIn, X.bool, X.den, denL, dX, denSub, denIte, asB, dY, v100, Option.some.injEq, Value.bool.injEq, decide_eq_false_iff_not, and_true]
    omega
  · cases hp : l[i]? with
    | none =>
      have hge : ¬ (i : Int) < l.length := by have := List.getElem?_eq_none_iff.1 hp; omega
      simp only [lChk0_t, yPC_22, yPC_21, yPC_20, yPC_19, yPC_18, yPC_17, yPC_16, yPC_15, yPC_14, yPC_13, yPC_12, yPC_11, yPC_10, yPC_9, yPC_8, yPC_7, yPC_6, yPC_5, yPC_4, yPC_3, yPC_2, yPC_1, yPC_0, lChk0_F, AsksL, GTree.asks, FTree.asks, FactsIn, List.append_nil, List.nil_append, List.cons_append, Option.some.injEq, exists_eq', implies_true, and_self, X.bool, X.den, denL, dX, denSub, denIte, asB, dY, v1, v2, v100, vs, sym4, sym5, sym6, sym20, Int.toNat_natCast, Int.toNat_zero, List.drop_zero, hp, hge]
      simp
    | some p => simp only [lChk0_t, yPC_22, yPC_21, yPC_20, yPC_19, yPC_18, yPC_17, yPC_16, yPC_15, yPC_14, yPC_13, yPC_12, yPC_11, yPC_10, yPC_9, yPC_8, yPC_7, yPC_6, yPC_5, yPC_4, yPC_3, yPC_2, yPC_1, yPC_0, lChk0_F, AsksL, GTree.asks, FTree.asks, FactsIn, List.append_nil, List.nil_append, List.cons_append, Option.some.injEq, exists_eq', implies_true, and_self, X.bool, X.den, denL, dX, denSub, denIte, asB, dY, v1, v2, v100, vs, sym4, sym5, sym6, sym20, Int.toNat_natCast, Int.toNat_zero, List.drop_zero, hp, Option.bind_some, ptg0, ptg1, ptg2, ptg3, ptg4, ptg5, ptg6, ptg7]
  · cases hp : l[i]? with
    | none =>
      have hge := List.getElem?_eq_none_iff.1 hp
      have hge' : ¬ (i : Int) < l.length := by omega
      simp only [lChk0_l, yPC_22, yPC_21, yPC_20, yPC_19, yPC_18, yPC_17, yPC_16, yPC_15, yPC_14, yPC_13, yPC_12, yPC_11, yPC_10, yPC_9, yPC_8, yPC_7, yPC_6, yPC_5, yPC_4, yPC_3, yPC_2, yPC_1, yPC_0, EndsOk, WaysOk, forall_cons, forall_nil, TgtOk, gpair, FactsIn, hold_cons, hold_nil, Option.some.injEq, dZ, X.bool, X.den, denL, dX, denSub, denIte, asB, dY, v1, v2, v100, vs, h1, h2, hsy, sym4, sym5, sym6, sym20, Int.toNat_natCast, Int.toNat_zero, List.drop_zero, hp, hge']
      have hi' : i = l.length := by omega
      subst hi'
      rw [List.drop_length] at hall
      simp [hall, chkP]
    | some p =>
      have hlt : i < l.length := (List.getElem?_eq_some_iff.1 hp).1
      have hlt1 : (i : Int) < l.length := by omega
      rw [chkP_step hp] at hall
      simp only [lChk0_l, yPC_22, yPC_21, yPC_20, yPC_19, yPC_18, yPC_17, yPC_16, yPC_15, yPC_14, yPC_13, yPC_12, yPC_11, yPC_10, yPC_9, yPC_8, yPC_7, yPC_6, yPC_5, yPC_4, yPC_3, yPC_2, yPC_1, yPC_0, EndsOk, WaysOk, forall_cons, forall_nil, TgtOk, gpair, FactsIn, hold_cons, hold_nil, Option.some.injEq, dZ, X.bool, X.den, denL, dX, denSub, denIte, asB, dY, v1, v2, v100, vs, h1, h2, hsy, sym4, sym5, sym6, sym20, Int.toNat_natCast, Int.toNat_zero, List.drop_zero, hp, Option.bind_some, ptg0, ptg1, ptg2, ptg3, ptg4, ptg5, ptg6, ptg7, hlt1, hl20]
      have go : refusedP (l.take i) p = 0 →
          ∃ vals', ((ρ.ext lChk_D.N vals').val 100 = some (.int .i64 (IntKind.i64.wrap ((i : Int) + 1)))) ∧
            lChk_Inv l 0 vals' ∧ lChk_mu l 0 vals' < lChk_mu l 0 [.int .i64 i] := by
        intro e
        refine ⟨[.int .i64 ((i + 1 : Nat) : Int)], ?_, ⟨rfl, i + 1, by omega, rfl, ?_⟩, ?_⟩
        · rw [ext_high _ _ _ _ (by rw [hN]; omega), IntWalk.i64_in _ (by omega)]; rfl
        · rw [hall, if_pos e]
        · simp [lChk_mu, vI]; omega
      (repeat' apply And.intro) <;> intros <;> first
        | (exfalso; omega)
        | (exact go (by assumption))
        | (rename_i e _ _ _ _ _ _; rw [if_neg e] at hall; simp [hall, e]; done)
        | (rename_i e _ _ _ _ _; rw [if_neg e] at hall; simp [hall, e]; done)
        | (rename_i e _ _ _ _; rw [if_neg e] at hall; simp [hall, e]; done)
        | (simp_all; done)
noncomputable def rChk_con : Con := { f := 32, args := [ptgsArg 0 0], N := 1, M := 1, pre := [(.app 20 [.var 1], true)], out := .tuple [.sint .i64 (.app 5 [.var 1]), .sint .i64 (.app 6 [.var 1])], news := [] }
noncomputable def rChk_call : Env → CallL := fun E => acallAll E (evH E (L2 E) ((fun E => oneH 32 (hooks [(2, lChk_D.hook E.facts ref_vs)])) E) 6)
noncomputable def rChk_t : GTree := (.fork yPC_22 (.leaf [[]]) (.leaf [[]]))
noncomputable def rChk_l : List (List (X × Bool) × Option Pairs) := [([(yPC_22, true), (yPC_13, true)], some [(.app 5 [.var 1], .num 0), (.app 6 [.var 1], .num 0)]),
  ([(yPC_22, false), (yPC_13, true)], some [(.app 5 [.var 1], .app 5 [.var 1]), (.app 6 [.var 1], .app 6 [.var 1])])]
theorem rChk_w (r : Rho) : rChk_con.fn.ways rChk_call E0 r rChk_con.pre rChk_t = some rChk_l := by kernel_rfl
theorem lChk_H {r : Rho} {l : List Ptg} {kc : IntKind} {cap : Int} (h1 : r.val 1 = some (ptgsR l)) (h2 : r.val 2 = some (.int kc cap)) (hcap : (l.length : Int) ≤ cap) (hsy : r.sym = sy) (F : List (X × Bool)) :
    LoopsOk (E0.with F r) (oneH 32 (hooks [(2, lChk_D.hook (E0.with F r).facts ref_vs)])) := by
  refine loops_all (n := 1) (fun f fn h => h) (by kernel_rfl) fun i hi => ?_
  obtain rfl : i = 0 := by omega
  rw [hooks_hit (show keyOf (loopAt (E0.with F r).P 32 0) = 2 by kernel_rfl)]
  refine hook_ok (E₀ := E0) (run := lChk_run) (ρ := r) (Inv := lChk_Inv l) (μ := lChk_mu l) E0_ok lChk_ok (fun F r' h => ?_) (fun hpre => ⟨lChk_step h1 h2 hcap hsy (by have := hpre; simp only [lChk_D, FactsIn, X.bool, X.den, denL, dX, denSub, denIte, asB, dY, h1, hsy, sym20, Option.some.injEq, Value.bool.injEq, and_true] at this; exact this), [.int .i64 0], ?_, rfl, 0, Nat.zero_le _, rfl, rfl⟩)
  · exact bodyRun_ok E0_ok (L2_ok F (h.trans hsy)) fun _ _ => noLoop_ok
  · simp only [ref_vs, X.bool, X.den, denL, dX, denSub, denIte, asB, dY]
theorem rChk_cok : rChk_con.Ok Tryz.prog sy := by
  intro r σ w us hsy hρ hpre hrel hins
  obtain ⟨u0, us, rfl, g0, hi⟩ := ins_cons hins
  obtain ⟨l, h1⟩ := ptgs_at hrel (i := 0) rfl
  have h1 : σ.rho.val 1 = some (ptgsR l) := h1
  obtain ⟨kc, cap, h2, hcap⟩ := ptgs_cap g0 h1
  rw [hρ] at h1 h2
  have h2 : r.val 2 = some (.int kc cap) := h2
  refine con_of (E := E0) E0_ok E0_glob (sy := sy) (fun F => L2_ok F hsy) (fun F => lChk_H h1 h2 hcap hsy F) (rChk_w r) hρ hpre hrel hins ?_ ?_
  · simp only [rChk_con, rChk_t, yPC_22, yPC_21, yPC_20, yPC_19, yPC_18, yPC_17, yPC_16, yPC_15, yPC_14, yPC_13, yPC_12, yPC_11, yPC_10, yPC_9, yPC_8, yPC_7, yPC_6, yPC_5, yPC_4, yPC_3, yPC_2, yPC_1, yPC_0, AsksL, GTree.asks, FTree.asks, FactsIn, List.append_nil, List.nil_append, List.cons_append, Option.some.injEq, exists_eq', implies_true, and_self, X.bool, X.den, denL, dX, denSub, denIte, asB, dY, h1, hsy, sym5, sym6, sym20]
  · simp only [rChk_l, yPC_22, yPC_21, yPC_20, yPC_19, yPC_18, yPC_17, yPC_16, yPC_15, yPC_14, yPC_13, yPC_12, yPC_11, yPC_10, yPC_9, yPC_8, yPC_7, yPC_6, yPC_5, yPC_4, yPC_3, yPC_2, yPC_1, yPC_0, EndsOk, WaysOk, forall_cons, forall_nil, TgtOk, gpair, FactsIn, hold_cons, hold_nil, Option.some.injEq, dZ, X.bool, X.den, denL, dX, denSub, denIte, asB, dY, h1, hsy, sym5, sym6, sym20]
    have h00 : (checkP l).2 = 0 → (checkP l).1 = 0 := check00 l
    (repeat' apply And.intro) <;> intros <;> simp_all
end Go.Proofs.YtpdemfamfmeemacGreat.Zs
