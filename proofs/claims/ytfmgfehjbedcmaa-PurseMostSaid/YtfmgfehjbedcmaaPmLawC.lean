/-
  The law PurseMost.
-/
import Derived.Test.YtfmgfehjbedcmaaPmConV
import Derived.Test.YtfmgfehjbedcmaaPmRunZ
import Derived.KernelRfl
set_option linter.unusedSimpArgs false
set_option linter.unusedVariables false
namespace Go.Proofs.Ytfmgfehjbedcmaa.Zs
open Go
set_option linter.unusedSimpArgs false
set_option linter.unusedVariables false

def nxX : X := .op1 (.wrap .i64) (.op2 .add (.num 395) (.op1 (.wrap .i64) (.op1 (.kind .u64) (.op2 .mod (.op1 (.wrap .u64) (.var 3)) (.num 10)))))
def nxN (m : Int) : Nat := (395 + IntKind.u64.wrap m % 10).toNat
theorem nxN_in (m : Int) : 395 ≤ nxN m ∧ nxN m ≤ 404 := by
  unfold nxN
  rw [IntKind.wrap_u64]
  omega
theorem nx_den {ρ : Rho} {k : IntKind} {m : Int} (h : ρ.val 3 = some (.int k m)) : X.den ρ nxX = some (.int .i64 ((nxN m : Nat) : Int)) := by
  have hb := nxN_in m
  have hm : (IntKind.u64.wrap m).tmod 10 = IntKind.u64.wrap m % 10 := Int.tmod_eq_emod_of_nonneg (by rw [IntKind.wrap_u64]; omega)
  have e : IntKind.i64.wrap (395 + IntKind.i64.wrap ((IntKind.u64.wrap m).tmod 10)) = ((nxN m : Nat) : Int) := by
    rw [hm]
    unfold nxN
    rw [IntKind.wrap_u64, IntKind.wrap_i64, IntKind.wrap_i64]
    omega
  simp only [nxX, X.bool, X.den, denL, d_wrap, d_kind, d_not, d_neg, d_slen, d_add, d_sub, d_mul, d_div, d_mod, d_lt, d_le, d_eq, d_eqb, d_eqs, d_lts, d_cat, d_sat, d_and, d_or, denSub, denIte, asB, ptgs_len, ptgs_cell, ptgs_lsub, h]
  first
    | (rw [e]; done)
    | (simp; rw [e]; done)
    | (simp [e]; done)
theorem genL_succ (n : Nat) : genL (n + 1) = genL n ++ [genP n] := by simp [genL, List.range_succ]
theorem genL_len (n : Nat) : (genL n).length = n := by simp [genL]
theorem genL_at {n i : Nat} (h : i < n) : (genL n)[i]? = some (genP i) := by simp [genL, h]
theorem genL_take {n i : Nat} (h : i ≤ n) : (genL n).take i = genL i := by
  unfold genL
  rw [← List.map_take, List.take_range, Nat.min_eq_left h]
theorem gen_there (n : Nat) (k : Int) (h : (n : Int) < k) : thereB (genL n) k = false := by
  unfold thereB
  rw [List.any_eq_false]
  intro p hp
  obtain ⟨i, hi, rfl⟩ := List.mem_map.1 hp
  have := List.mem_range.1 hi
  have e : (genP i).id = (i : Int) + 1 := rfl
  simp only [e, decide_eq_true_eq]
  omega
theorem gen_sold : ∀ (n : Nat) (c : Int), 10 * (n : Int) < c → soldW (genL n) c = 0
  | 0, c, _ => rfl
  | n + 1, c, h => by
    rw [genL_succ, soldW_snoc', gen_sold n c (by omega)]
    have : (decide ((genP n).kind = 1) && decide ((genP n).parcel = c)) = false := by
      have e : (genP n).parcel = 10 * ((n : Int) + 1) := rfl
      simp only [e, Bool.and_eq_false_iff, decide_eq_false_iff_not]
      right; omega
    simp only [soldStep, this, cond_false]
theorem gen_form {n : Nat} (h : n ≤ 400) : formB (genP n) = true := by
  have e1 : withinB ((n : Int) + 1) 1 1000000 = true := by simp only [withinB, Bool.and_eq_true, decide_eq_true_eq]; omega
  have e2 : withinB (n : Int) 0 1000000 = true := by simp only [withinB, Bool.and_eq_true, decide_eq_true_eq]; omega
  have e3 : withinB 0 0 (n : Int) = true := by simp only [withinB, Bool.and_eq_true, decide_eq_true_eq]; omega
  have e4 : withinB (10 * ((n : Int) + 1)) 10 10000007 = true := by simp only [withinB, Bool.and_eq_true, decide_eq_true_eq]; omega
  have e5 : withinB (1 + (n : Int)) 1 1000000000 = true := by simp only [withinB, Bool.and_eq_true, decide_eq_true_eq]; omega
  show (withinB ((n : Int) + 1) 1 1000000 && (withinB 1 1 1000000 && (withinB (n : Int) 0 1000000 && (withinB 0 0 (n : Int) && (withinB (10 * ((n : Int) + 1)) 10 10000007 && (withinB (1 + (n : Int)) 1 1000000000 && kindB 0 1)))))) = true
  rw [e1, e2, e3, e4, e5]
  rfl
theorem gen_last (n : Nat) : lastH (genL n) ≤ n := by
  cases n with
  | zero => simp [genL, lastH]
  | succ n =>
    have e : (genP n).hour = (n : Int) := rfl
    rw [genL_succ, lastH_snoc, e]; omega
theorem gen_refused {n : Nat} (h : n < 400) : refusedP (genL n) (genP n) = 0 := by
  have h1 := gen_last n
  have h2 : (decide (0 < (genL n).length) && decide ((genP n).hour < lastH (genL n))) = false := by
    have e : (genP n).hour = (n : Int) := rfl
    simp only [e, Bool.and_eq_false_iff, decide_eq_false_iff_not]
    right; omega
  have h3 : soldW (genL n) (genP n).parcel = 0 := gen_sold n _ (show 10 * (n : Int) < 10 * ((n : Int) + 1) by omega)
  have h4 : thereB (genL n) (genP n).id = false := gen_there n _ (show (n : Int) < (n : Int) + 1 by omega)
  have h5 : ¬ 400 ≤ (genL n).length := by rw [genL_len]; omega
  unfold refusedP
  rw [decide_eq_false h5, gen_form (by omega), h4, h2, h3]
  rfl
theorem gen_good : ∀ n : Nat, n ≤ 400 → GoodL (genL n)
  | 0, _ => goodL_nil
  | n + 1, h => by rw [genL_succ]; exact (gen_good n (by omega)).snoc (gen_refused (by omega))
theorem gen_chk {n : Nat} : ∀ i : Nat, i ≤ n → i ≤ 400 → checkP (genL n) = chkP (genL i) ((genL n).drop i)
  | 0, _, _ => rfl
  | i + 1, h, h4 => by
    have := chkP_step (genL_at (show i < n by omega))
    rw [genL_take (show i ≤ n by omega), genL_take h, if_pos (gen_refused (by omega))] at this
    rw [gen_chk i (by omega) (by omega), this]
theorem gen_few {n : Nat} (h : n ≤ 400) : checkP (genL n) = (0, 0) := by
  rw [gen_chk n (Nat.le_refl _) h, List.drop_of_length_le (by rw [genL_len]; exact Nat.le_refl _)]
  rfl
theorem gen_many {n : Nat} (h : 400 < n) : checkP (genL n) = (400, 2) := by
  have h2 : refusedP (genL 400) (genP 400) = 2 := refused_full (by rw [genL_len]; omega)
  have := chkP_step (genL_at h)
  rw [genL_take (show 400 ≤ n by omega), h2, if_neg (by decide)] at this
  rw [gen_chk 400 (by omega) (Nat.le_refl _), this]
  rfl
def genH (n : Nat) : List (List Value) := (List.range n).map fun (i : Nat) => [.int .i64 (10 * ((i : Int) + 1)), .int .i64 (1 + (i : Int))]
theorem gen_held : ∀ n : Nat, n ≤ 400 → heldV (genL n) = genH n
  | 0, _ => rfl
  | n + 1, h => by
    have g := gen_good n (by omega)
    have hm : mapHas (heldV (genL n)) (kI (genP n).parcel) = false := by
      rcases g.held (genP n).parcel with ⟨a, _⟩ | ⟨_, _, a⟩
      · exact a
      · have z : soldW (genL n) (genP n).parcel = 0 := gen_sold n _ (show 10 * (n : Int) < 10 * ((n : Int) + 1) by omega)
        rw [z] at a; omega
    have h1 : decide ((genP n).kind = 1) = true := rfl
    rw [genL_succ, heldV_snoc, h1, cond_true, putRow_new hm, gen_held n (by omega)]
    unfold genH
    rw [List.range_succ, List.map_append]
    rfl
theorem gen_sum : ∀ n : Nat, 2 * ((genH n).map valZ).sum = (n : Int) * ((n : Int) + 1)
  | 0 => rfl
  | n + 1 => by
    have ih := gen_sum n
    have e : (genH (n + 1)).map valZ = (genH n).map valZ ++ [1 + (n : Int)] := by
      unfold genH
      rw [List.range_succ, List.map_append, List.map_append]
      rfl
    rw [e, sum_snoc]
    have h1 : (((n + 1 : Nat) : Int)) = (n : Int) + 1 := rfl
    rw [h1, Int.mul_add ((n : Int) + 1) ((n : Int) + 1) 1, Int.add_mul (n : Int) 1 ((n : Int) + 1)]
    omega
theorem gen_words {n : Nat} (h : n ≤ 400) : wordsZ (genH n) = true := by
  unfold wordsZ
  rw [List.all_eq_true]
  intro r hr
  obtain ⟨i, hi, rfl⟩ := List.mem_map.1 hr
  have := List.mem_range.1 hi
  show (wz (10 * ((i : Int) + 1)) && wz (1 + (i : Int))) = true
  simp only [wz, Bool.and_eq_true, decide_eq_true_eq]
  omega
theorem genH_len (n : Nat) : (genH n).length = n := by simp [genH]
theorem gen_snoc (i : Nat) : denSnoc (ptgsR (genL i)) [.int .i64 ((i + 1 : Nat) : Int), .int .i64 i, .int .u8 1, .int .i64 0, .int .i64 (10 * ((i + 1 : Nat) : Int)), .int .i64 (1 + (i : Int)), .int .i64 1, .int .i64 0] = some (ptgsR (genL (i + 1))) := by
  rw [genL_succ]; exact ptgs_snoc (genL i) (genP i)
theorem noL1_ok (F : List (X × Bool)) {r : Rho} (h : r.sym = sy) : CallsOk (E1.with F r) (noL (E1.with F r)) := libs_ok fun c hc => by
  cases hc

noncomputable def LM : Env → CallE := libs [cLib cChk_con, cLib cHeldA_con, fun _ => aliveL]
theorem LM_ok (F : List (X × Bool)) {r : Rho} (h : r.sym = sy) : CallsOk (E1.with F r) (LM (E1.with F r)) := libs_ok fun c hc => by
  simp only [List.mem_cons, List.not_mem_nil, or_false] at hc
  rcases hc with rfl | rfl | rfl
  · exact lib_ok (E := E1) cChk_cok F h
  · exact lib_ok (E := E1) cHeldA_cok F h
  · exact alive_ok F r

def pq_vs : List X := [.num 0]

noncomputable def lPq_D : LoopD := { N := 100, M := 111, size := sizeOfF 4, reads := [], pats := [{ slots := [(3, .sint .i64 nxX), (4, .nilslice), (5, .sint .i64 (.var 100))], heap := [] }, { slots := [(3, .sint .i64 nxX), (4, .slo 110 8 (.op1 .len (.var 101))), (5, .sint .i64 (.var 100))], heap := [(110, .rows 8 ptgSch (.num 0) (.var 101) true 24)] }], exits := [(.exit 0, { slots := [(3, .sint .i64 nxX), (4, .slo 110 8 (.op1 .len (.app 36 [nxX])))], heap := [(110, .rows 8 ptgSch (.num 0) ((.app 36 [nxX])) true 24)] })], own := [], pre := [] }
noncomputable def lPq_run : Env → AF → ASt → Option (List Out) := bodyRun noL 4 (fun _ => noLoop) (loopAt Try.prog 4 0)
def lPq0_F : List (X × Bool) := [(.op2 .lt (.var 100) nxX, true)]
def lPq1_F : List (X × Bool) := []
noncomputable def lPq0_t : FTree := (.leaf [(.again 1 [(110, 112)])])
noncomputable def lPq0_l : List (List (X × Bool) × Option (List (Tgt × Pairs))) := [([((.op2 .lt (.var 100) nxX), true)], some [((.again 1 [(110, 112)]), [((.op1 .len (.var 101)), (.num 1)), ((.var 100), (.op1 (.wrap .i64) (.op2 .add (.var 100) (.num 1)))), ((.var 101), (.snoc .nil [(.op1 (.kind .i64) (.op1 (.wrap .i64) (.op2 .add (.var 100) (.num 1)))), (.op1 (.kind .i64) (.var 100)), (.op1 (.kind .u8) (.num 1)), (.op1 (.kind .i64) (.num 0)), (.op1 (.kind .i64) (.op1 (.wrap .i64) (.op2 .mul (.num 10) (.op1 (.wrap .i64) (.op2 .add (.var 100) (.num 1)))))), (.op1 (.kind .i64) (.op1 (.wrap .i64) (.op2 .add (.num 1) (.var 100)))), (.op1 (.kind .i64) (.num 1)), (.op1 (.kind .i64) (.num 0))]))])])]
theorem lPq0_w (r : Rho) : lPq_D.ways lPq_run E1 r 0 lPq0_F lPq0_t = some lPq0_l := by kernel_rfl
noncomputable def lPq1_t : FTree := (.fork (.op2 .lt (.var 100) nxX) (.fork (.op2 .lt (.num 1000000000) (.op2 .add (.op1 .len (.var 101)) (.num 1))) .bad (.leaf [(.again 1 [(110, 112)])])) (.leaf [(.leave 0 [(110, 110)])]))
noncomputable def lPq1_l : List (List (X × Bool) × Option (List (Tgt × Pairs))) := [([((.op2 .lt (.num 1000000000) (.op2 .add (.op1 .len (.var 101)) (.num 1))), true), ((.op2 .lt (.var 100) nxX), true)], none),
  ([((.op2 .lt (.num 1000000000) (.op2 .add (.op1 .len (.var 101)) (.num 1))), false), ((.op2 .lt (.var 100) nxX), true)], some [((.again 1 [(110, 112)]), [((.op1 .len (.var 101)), (.op2 .add (.op1 .len (.var 101)) (.num 1))), ((.var 100), (.op1 (.wrap .i64) (.op2 .add (.var 100) (.num 1)))), ((.var 101), (.snoc (.var 101) [(.op1 (.kind .i64) (.op1 (.wrap .i64) (.op2 .add (.var 100) (.num 1)))), (.op1 (.kind .i64) (.var 100)), (.op1 (.kind .u8) (.num 1)), (.op1 (.kind .i64) (.num 0)), (.op1 (.kind .i64) (.op1 (.wrap .i64) (.op2 .mul (.num 10) (.op1 (.wrap .i64) (.op2 .add (.var 100) (.num 1)))))), (.op1 (.kind .i64) (.op1 (.wrap .i64) (.op2 .add (.num 1) (.var 100)))), (.op1 (.kind .i64) (.num 1)), (.op1 (.kind .i64) (.num 0))]))])]),
  ([((.op2 .lt (.var 100) nxX), false)], some [((.leave 0 [(110, 110)]), [((.op1 .len (.app 36 [nxX])), (.op1 .len (.var 101))), ((.app 36 [nxX]), (.var 101))])])]
theorem lPq1_w (r : Rho) : lPq_D.ways lPq_run E1 r 1 lPq1_F lPq1_t = some lPq1_l := by kernel_rfl
theorem lPq_ok : lPq_D.ok = true := by kernel_rfl
def lPq_Inv (m : Int) (j : Nat) (vals : List Value) : Prop :=
  (j = 0 ∧ vals = [.int .i64 0]) ∨ (j = 1 ∧ ∃ i : Nat, 1 ≤ i ∧ i ≤ nxN m ∧ vals = [.int .i64 i, ptgsR (genL i)])
def lPq_mu (m : Int) (j : Nat) (vals : List Value) : Nat := 1000 - (vI (vals.getD 0 default)).toNat
set_option maxHeartbeats 1000000 in
theorem lPq_step0 {ρ : Rho} {m : Int} {k3 : IntKind} (h3 : ρ.val 3 = some (.int k3 m)) (hsy : ρ.sym = sy) :
    StepOk lPq_D lPq_run E1 ρ (lPq_Inv m) (lPq_mu m) 0 [.int .i64 0] := by
  have hN : lPq_D.N = 100 := rfl
  have hb := nxN_in m
  have v3 : (ρ.ext lPq_D.N [.int .i64 0]).val 3 = some (.int k3 m) := by rw [ext_low _ _ _ _ (by rw [hN]; omega)]; exact h3
  have v100 : (ρ.ext lPq_D.N [.int .i64 0]).val 100 = some (.int .i64 0) := by rw [ext_high _ _ _ _ (by rw [hN]; omega)]; rfl
  have vs : (ρ.ext lPq_D.N [.int .i64 0]).sym = sy := hsy

  have hx : X.den (ρ.ext lPq_D.N [.int .i64 0]) nxX = some (.int .i64 ((nxN m : Nat) : Int)) := nx_den v3
  have hx0 : X.den ρ nxX = some (.int .i64 ((nxN m : Nat) : Int)) := nx_den h3
  have hF : FactsIn (ρ.ext lPq_D.N [.int .i64 0]) lPq0_F := by
    simp only [lPq0_F, FactsIn, X.bool, X.den, denL, d_wrap, d_kind, d_not, d_neg, d_slen, d_add, d_sub, d_mul, d_div, d_mod, d_lt, d_le, d_eq, d_eqb, d_eqs, d_lts, d_cat, d_sat, d_and, d_or, denSub, denIte, asB, ptgs_len, ptgs_cell, ptgs_lsub, v100, hx, Option.some.injEq, Value.bool.injEq, decide_eq_true_eq, and_true]
    omega
  suffices both : AsksL (ρ.ext lPq_D.N [.int .i64 0]) (lPq0_t.asks lPq0_F) ∧ WaysOk lPq_D ρ (lPq_Inv m) (lPq_mu m) 0 [.int .i64 0] lPq0_l from step_of_ways (lPq0_w _) hF both.1.ok both.2
  have go : ∃ vals', ((match (ρ.ext lPq_D.N vals').val 101 with | some v => den1 .len v | none => none) = some (.int .i64 (1)) ∧ (ρ.ext lPq_D.N vals').val 100 = some (.int .i64 1) ∧ (ρ.ext lPq_D.N vals').val 101 = some (ptgsR (genL 1))) ∧ lPq_Inv m 1 vals' ∧ lPq_mu m 1 vals' < lPq_mu m 0 [.int .i64 0] := by
    have e101 : (ρ.ext lPq_D.N [.int .i64 1, ptgsR (genL 1)]).val 101 = some (ptgsR (genL 1)) := by rw [ext_high _ _ _ _ (by rw [hN]; omega)]; rfl
    refine ⟨[.int .i64 1, ptgsR (genL 1)], ⟨?_, ?_, ?_⟩, .inr ⟨rfl, 1, by omega, by omega, rfl⟩, ?_⟩
    · rw [e101]
      refine (ptgs_len _).trans ?_
      rw [genL_len]; try rfl
    · rw [ext_high _ _ _ _ (by rw [hN]; omega)]; rfl
    · exact e101
    · first | (simp [lPq_mu, vI]; done) | (simp [lPq_mu, vI]; omega)
  refine ⟨?_, ?_⟩
  · simp only [lPq0_t, lPq0_F, AsksL, GTree.asks, FTree.asks, FactsIn, List.append_nil, List.nil_append, List.cons_append, Option.some.injEq, exists_eq', implies_true, and_self, X.bool, X.den, denL, d_wrap, d_kind, d_not, d_neg, d_slen, d_add, d_sub, d_mul, d_div, d_mod, d_lt, d_le, d_eq, d_eqb, d_eqs, d_lts, d_cat, d_sat, d_and, d_or, denSub, d_ite2, d_eq_ite2, asB, ptgs_len, ptgs_cell, ptgs_lsub, ptgs_snoc, ptgs_snoc0, snoc_nil, rows_len, valRows_len, v3, v100, hx, vs, sym5, sym6, sym20, sym32, sym33v, sym35, sym36, sym52]
    try simp
  · simp only [lPq0_l, EndsOk, WaysOk, forall_cons, forall_nil, TgtOk, gpair, FactsIn, hold_cons, hold_nil, Option.some.injEq, Value.bool.injEq, Value.int.injEq, decide_eq_true_eq, decide_eq_false_iff_not, and_true, true_and, and_imp, X.bool, X.den, denL, d_wrap, d_kind, d_not, d_neg, d_slen, d_add, d_sub, d_mul, d_div, d_mod, d_lt, d_le, d_eq, d_eqb, d_eqs, d_lts, d_cat, d_sat, d_and, d_or, denSub, d_ite2, d_eq_ite2, asB, ptgs_len, ptgs_cell, ptgs_lsub, beq_iff_eq, beq_eq_false_iff_ne, ne_eq, ptgs_snoc, ptgs_snoc0, snoc_nil, rows_len, valRows_len, v3, v100, hx, vs, h3, hsy, sym5, sym6, sym20, sym32, sym33v, sym35, sym36, sym52]
    intro _
    exact go
set_option maxHeartbeats 1000000 in
theorem lPq_step1 {ρ : Rho} {m : Int} {k3 : IntKind} (h3 : ρ.val 3 = some (.int k3 m)) (hsy : ρ.sym = sy) {i : Nat} (h1i : 1 ≤ i) (hin : i ≤ nxN m) :
    StepOk lPq_D lPq_run E1 ρ (lPq_Inv m) (lPq_mu m) 1 [.int .i64 i, ptgsR (genL i)] := by
  have hN : lPq_D.N = 100 := rfl
  have hb := nxN_in m
  have v3 : (ρ.ext lPq_D.N [.int .i64 i, ptgsR (genL i)]).val 3 = some (.int k3 m) := by rw [ext_low _ _ _ _ (by rw [hN]; omega)]; exact h3
  have v100 : (ρ.ext lPq_D.N [.int .i64 i, ptgsR (genL i)]).val 100 = some (.int .i64 i) := by rw [ext_high _ _ _ _ (by rw [hN]; omega)]; rfl
  have v101 : (ρ.ext lPq_D.N [.int .i64 i, ptgsR (genL i)]).val 101 = some (ptgsR (genL i)) := by rw [ext_high _ _ _ _ (by rw [hN]; omega)]; rfl
  have vs : (ρ.ext lPq_D.N [.int .i64 i, ptgsR (genL i)]).sym = sy := hsy

  have hx : X.den (ρ.ext lPq_D.N [.int .i64 i, ptgsR (genL i)]) nxX = some (.int .i64 ((nxN m : Nat) : Int)) := nx_den v3
  have hx0 : X.den ρ nxX = some (.int .i64 ((nxN m : Nat) : Int)) := nx_den h3
  have hw : IntKind.i64.wrap ((i : Int) + 1) = ((i + 1 : Nat) : Int) := by rw [IntWalk.i64_in _ (by omega)]; rfl
  have hw2 : IntKind.i64.wrap (10 * ((i + 1 : Nat) : Int)) = 10 * ((i + 1 : Nat) : Int) := IntWalk.i64_in _ (by omega)
  have hw3 : IntKind.i64.wrap (1 + (i : Int)) = 1 + (i : Int) := IntWalk.i64_in _ (by omega)
  have hl := genL_len i
  have hF : FactsIn (ρ.ext lPq_D.N [.int .i64 i, ptgsR (genL i)]) lPq1_F := by simp only [lPq1_F, FactsIn]
  suffices both : AsksL (ρ.ext lPq_D.N [.int .i64 i, ptgsR (genL i)]) (lPq1_t.asks lPq1_F) ∧ WaysOk lPq_D ρ (lPq_Inv m) (lPq_mu m) 1 [.int .i64 i, ptgsR (genL i)] lPq1_l from step_of_ways (lPq1_w _) hF both.1.ok both.2
  by_cases hc : i < nxN m
  · have hc1 : (i : Int) < ((nxN m : Nat) : Int) := by omega
    have hc2 : ¬ (1000000000 : Int) < (i : Int) + 1 := by omega
    have go : ∃ vals', ((match (ρ.ext lPq_D.N vals').val 101 with | some v => den1 .len v | none => none) = some (.int .i64 ((i : Int) + 1)) ∧ (ρ.ext lPq_D.N vals').val 100 = some (.int .i64 ((i + 1 : Nat) : Int)) ∧ (ρ.ext lPq_D.N vals').val 101 = some (ptgsR (genL (i + 1)))) ∧ lPq_Inv m 1 vals' ∧ lPq_mu m 1 vals' < lPq_mu m 1 [.int .i64 i, ptgsR (genL i)] := by
      have e101 : (ρ.ext lPq_D.N [.int .i64 ((i + 1 : Nat) : Int), ptgsR (genL (i + 1))]).val 101 = some (ptgsR (genL (i + 1))) := by rw [ext_high _ _ _ _ (by rw [hN]; omega)]; rfl
      refine ⟨[.int .i64 ((i + 1 : Nat) : Int), ptgsR (genL (i + 1))], ⟨?_, ?_, ?_⟩, .inr ⟨rfl, (i + 1), by omega, by omega, rfl⟩, ?_⟩
      · rw [e101]
        refine (ptgs_len _).trans ?_
        rw [genL_len]; try rfl
      · rw [ext_high _ _ _ _ (by rw [hN]; omega)]; rfl
      · exact e101
      · first | (simp [lPq_mu, vI]; done) | (simp [lPq_mu, vI]; omega)
    refine ⟨?_, ?_⟩
    · simp only [lPq1_t, lPq1_F, AsksL, GTree.asks, FTree.asks, FactsIn, List.append_nil, List.nil_append, List.cons_append, Option.some.injEq, exists_eq', implies_true, and_self, X.bool, X.den, denL, d_wrap, d_kind, d_not, d_neg, d_slen, d_add, d_sub, d_mul, d_div, d_mod, d_lt, d_le, d_eq, d_eqb, d_eqs, d_lts, d_cat, d_sat, d_and, d_or, denSub, d_ite2, d_eq_ite2, asB, ptgs_len, ptgs_cell, ptgs_lsub, ptgs_snoc, ptgs_snoc0, snoc_nil, rows_len, valRows_len, v3, v100, v101, hx, vs, sym5, sym6, sym20, sym32, sym33v, sym35, sym36, sym52, hl]
      try simp
    · simp only [lPq1_l, EndsOk, WaysOk, forall_cons, forall_nil, TgtOk, gpair, FactsIn, hold_cons, hold_nil, Option.some.injEq, Value.bool.injEq, Value.int.injEq, decide_eq_true_eq, decide_eq_false_iff_not, and_true, true_and, and_imp, X.bool, X.den, denL, d_wrap, d_kind, d_not, d_neg, d_slen, d_add, d_sub, d_mul, d_div, d_mod, d_lt, d_le, d_eq, d_eqb, d_eqs, d_lts, d_cat, d_sat, d_and, d_or, denSub, d_ite2, d_eq_ite2, asB, ptgs_len, ptgs_cell, ptgs_lsub, beq_iff_eq, beq_eq_false_iff_ne, ne_eq, ptgs_snoc, ptgs_snoc0, snoc_nil, rows_len, valRows_len, v3, v100, v101, hx, vs, h3, hsy, sym5, sym6, sym20, sym32, sym33v, sym35, sym36, sym52, hw, hw2, hw3, hl, gen_snoc]
      clear v3 v100 v101 vs h3 hsy hx
      (repeat' apply And.intro) <;> intros <;> first
        | trivial
        | (exact go)
        | contradiction
        | (exfalso; omega)
  · have hc1 : ¬ (i : Int) < ((nxN m : Nat) : Int) := by omega
    have he : i = nxN m := by omega
    refine ⟨?_, ?_⟩
    · simp only [lPq1_t, lPq1_F, AsksL, GTree.asks, FTree.asks, FactsIn, List.append_nil, List.nil_append, List.cons_append, Option.some.injEq, exists_eq', implies_true, and_self, X.bool, X.den, denL, d_wrap, d_kind, d_not, d_neg, d_slen, d_add, d_sub, d_mul, d_div, d_mod, d_lt, d_le, d_eq, d_eqb, d_eqs, d_lts, d_cat, d_sat, d_and, d_or, denSub, d_ite2, d_eq_ite2, asB, ptgs_len, ptgs_cell, ptgs_lsub, ptgs_snoc, ptgs_snoc0, snoc_nil, rows_len, valRows_len, v3, v100, v101, hx, vs, sym5, sym6, sym20, sym32, sym33v, sym35, sym36, sym52, hl]
      try simp
    · simp only [lPq1_l, EndsOk, WaysOk, forall_cons, forall_nil, TgtOk, gpair, FactsIn, hold_cons, hold_nil, Option.some.injEq, Value.bool.injEq, Value.int.injEq, decide_eq_true_eq, decide_eq_false_iff_not, and_true, true_and, and_imp, X.bool, X.den, denL, d_wrap, d_kind, d_not, d_neg, d_slen, d_add, d_sub, d_mul, d_div, d_mod, d_lt, d_le, d_eq, d_eqb, d_eqs, d_lts, d_cat, d_sat, d_and, d_or, denSub, d_ite2, d_eq_ite2, asB, ptgs_len, ptgs_cell, ptgs_lsub, beq_iff_eq, beq_eq_false_iff_ne, ne_eq, ptgs_snoc, ptgs_snoc0, snoc_nil, rows_len, valRows_len, v3, v100, v101, hx, hx0, vs, h3, hsy, sym5, sym6, sym20, sym32, sym33v, sym35, sym36, sym52, hw, hw2, hw3, hl, genL_len, Int.toNat_natCast, hc1]
      clear v3 v100 v101 vs h3 hsy hx hx0
      rw [he]
      (repeat' apply And.intro) <;> intros <;> first
        | trivial
        | rfl
        | contradiction
        | (exfalso; omega)
        | (refine ⟨?_, ?_⟩ <;> rfl)
theorem lPq_step {ρ : Rho} {m : Int} {k3 : IntKind} (h3 : ρ.val 3 = some (.int k3 m)) (hsy : ρ.sym = sy) (j : Nat) (vals : List Value) (hI : lPq_Inv m j vals) :
    StepOk lPq_D lPq_run E1 ρ (lPq_Inv m) (lPq_mu m) j vals := by
  rcases hI with ⟨rfl, rfl⟩ | ⟨rfl, i, h1, h2, rfl⟩
  · exact lPq_step0 h3 hsy
  · exact lPq_step1 h3 hsy h1 h2
theorem lPq_H {r : Rho} {m : Int} {k3 : IntKind} (h3 : r.val 3 = some (.int k3 m)) (hsy : r.sym = sy) (F : List (X × Bool)) :
    LoopsOk (E1.with F r) (oneH 4 (hooks [(4, lPq_D.hook (E1.with F r).facts pq_vs)])) := by
  refine loops_all (n := 1) (fun f fn h => h) (by kernel_rfl) fun i hi => ?_
  obtain rfl : i = 0 := by omega
  rw [hooks_hit (show keyOf (loopAt (E1.with F r).P 4 0) = 4 by kernel_rfl)]
  refine hook_ok (E₀ := E1) (run := lPq_run) (ρ := r) (Inv := lPq_Inv m) (μ := lPq_mu m) E1_ok lPq_ok (fun F r' h => ?_) (fun _ => ⟨lPq_step h3 hsy, [.int .i64 0], by simp only [pq_vs, X.bool, X.den, denL, d_wrap, d_kind, d_not, d_neg, d_slen, d_add, d_sub, d_mul, d_div, d_mod, d_lt, d_le, d_eq, d_eqb, d_eqs, d_lts, d_cat, d_sat, d_and, d_or, denSub, denIte, asB, ptgs_len, ptgs_cell, ptgs_lsub], .inl ⟨rfl, rfl⟩⟩)
  exact bodyRun_ok E1_ok (noL1_ok F (h.trans hsy)) fun _ _ => noLoop_ok

noncomputable def pq_fn : FnD := { f := 4, args := argsAV [.one (.int .i64 3)], heap := hRoot ++ argsBlk [.one (.int .i64 3)], N := 100, M := 100, out := .sbool (.boo true), news := [] }
noncomputable def pq_call : Env → CallL := fun E => acallAll E (evH E (LM E) ((fun E => oneH 4 (hooks [(4, lPq_D.hook E.facts pq_vs)])) E) 6)
noncomputable def pq_pre : List (X × Bool) := []
noncomputable def pq_t : GTree := (.fork (.app 20 [(.app 36 [nxX])]) (.fork (.op2 .lt (.num 400) nxX) (.fork (.op2 .eq (.app 5 [(.app 36 [nxX])]) (.num 400)) (.leaf [[]]) .bad) (.fork (.op2 .eq (.app 6 [(.app 36 [nxX])]) (.num 0)) (.fork (.app 35 [(.app 52 [(.app 36 [nxX])])]) (.fork (.op2 .lt (.num 1000000000) (.op1 .len (.app 52 [(.app 36 [nxX])]))) .bad (.fork (.op2 .eq (.app 5 [(.app 36 [nxX])]) (.num 0)) (.leaf [[]]) .bad)) .bad) .bad)) .bad)
noncomputable def pq_l : List (List (X × Bool) × Option Pairs) := [([((.op2 .eq (.app 5 [(.app 36 [nxX])]) (.num 400)), true), ((.op2 .lt (.num 400) nxX), true), ((.app 20 [(.app 36 [nxX])]), true)], some [((.boo true), (.op2 .eq (.app 6 [(.app 36 [nxX])]) (.num 2)))]),
  ([((.op2 .eq (.app 5 [(.app 36 [nxX])]) (.num 400)), false), ((.op2 .lt (.num 400) nxX), true), ((.app 20 [(.app 36 [nxX])]), true)], none),
  ([((.op2 .lt (.num 1000000000) (.op1 .len (.app 52 [(.app 36 [nxX])]))), true), ((.app 35 [(.app 52 [(.app 36 [nxX])])]), true), ((.op2 .eq (.app 6 [(.app 36 [nxX])]) (.num 0)), true), ((.op2 .lt (.num 400) nxX), false), ((.app 20 [(.app 36 [nxX])]), true)], none),
  ([((.op2 .eq (.app 5 [(.app 36 [nxX])]) (.num 0)), true), ((.op2 .lt (.num 1000000000) (.op1 .len (.app 52 [(.app 36 [nxX])]))), false), ((.app 35 [(.app 52 [(.app 36 [nxX])])]), true), ((.op2 .eq (.app 6 [(.app 36 [nxX])]) (.num 0)), true), ((.op2 .lt (.num 400) nxX), false), ((.app 20 [(.app 36 [nxX])]), true)], some [((.boo true), (.op2 .eq (.app 33 [(.app 32 [(.app 52 [(.app 36 [nxX])])])]) (.op1 (.wrap .i64) (.op2 .div (.op1 (.wrap .i64) (.op2 .mul nxX (.op1 (.wrap .i64) (.op2 .add nxX (.num 1))))) (.num 2)))))]),
  ([((.op2 .eq (.app 5 [(.app 36 [nxX])]) (.num 0)), false), ((.op2 .lt (.num 1000000000) (.op1 .len (.app 52 [(.app 36 [nxX])]))), false), ((.app 35 [(.app 52 [(.app 36 [nxX])])]), true), ((.op2 .eq (.app 6 [(.app 36 [nxX])]) (.num 0)), true), ((.op2 .lt (.num 400) nxX), false), ((.app 20 [(.app 36 [nxX])]), true)], none),
  ([((.app 35 [(.app 52 [(.app 36 [nxX])])]), false), ((.op2 .eq (.app 6 [(.app 36 [nxX])]) (.num 0)), true), ((.op2 .lt (.num 400) nxX), false), ((.app 20 [(.app 36 [nxX])]), true)], none),
  ([((.op2 .eq (.app 6 [(.app 36 [nxX])]) (.num 0)), false), ((.op2 .lt (.num 400) nxX), false), ((.app 20 [(.app 36 [nxX])]), true)], none),
  ([((.app 20 [(.app 36 [nxX])]), false)], none)]
theorem pq_w (r : Rho) : pq_fn.ways pq_call E1 r pq_pre pq_t = some pq_l := by kernel_rfl
theorem pq_out (σ : Sig) : pq_fn.out.inst σ = some (.bool true) := rfl
theorem gen_eq {n : Nat} (h : n ≤ 404) : (IntKind.i64.wrap ((genH n).map valZ).sum == IntKind.i64.wrap ((IntKind.i64.wrap ((n : Int) * IntKind.i64.wrap ((n : Int) + 1))).tdiv 2)) = true := by
  have h1 := gen_sum n
  have hq : (n : Int) * ((n : Int) + 1) ≤ 404 * 405 := Int.mul_le_mul (by omega) (by omega) (by omega) (by omega)
  have hq0 : 0 ≤ (n : Int) * ((n : Int) + 1) := Int.mul_nonneg (by omega) (by omega)
  rw [IntWalk.i64_in ((n : Int) + 1) (by omega), IntWalk.i64_in ((n : Int) * ((n : Int) + 1)) (by omega)]
  generalize ((genH n).map valZ).sum = s at h1
  rw [← h1] at hq hq0 ⊢
  have e : (2 * s).tdiv 2 = s := by rw [Int.tdiv_eq_ediv_of_nonneg (by omega)]; omega
  rw [e]
  exact beq_self_eq_true _
set_option maxRecDepth 100000 in
set_option maxHeartbeats 4000000 in
theorem pq_true {r : Rho} {σ : Sig} {w : World} {us : List Value} (hsy : r.sym = sy) (hρ : σ.rho = r) (hA : ∀ g id, E1.glob g = some id → ∃ κ, σ id = some (g, κ)) (hrel : (memOf pq_fn.heap 100).rel Try.prog σ w (fun b => w.heap.size ≤ b)) (hins : Ins σ pq_fn.args us) :
    Calls Try.prog 4 us.toArray w fun e w' => e = .returned (.bool true) ∧ Kept (fun b => w.heap.size ≤ b) w w' := by
  obtain ⟨u1, us, rfl, g1, hi⟩ := ins_cons hins
  obtain ⟨m, k3, rfl, h3⟩ := one_int g1
  rw [hρ] at h3
  suffices both : AsksL r (pq_t.asks pq_pre) ∧ EndsOk r pq_l from law_of (E := E1) (D := pq_fn) E1_ok (fun F => LM_ok F hsy) (fun F => lPq_H h3 hsy F) (pq_w r) hρ hA trivial hrel hins both.1 both.2 pq_out
  have hx : X.den r nxX = some (.int .i64 ((nxN m : Nat) : Int)) := nx_den h3
  have hb := nxN_in m
  generalize nxN m = n at hx hb
  have hsh : shortB (genL n) = true := len_short (by rw [genL_len]; omega)
  by_cases hc : 400 < n
  · have hc1 : (400 : Int) < (n : Int) := by omega
    have hk := gen_many hc
    refine ⟨?_, ?_⟩
    · simp only [pq_pre, pq_t, AsksL, GTree.asks, FTree.asks, FactsIn, List.append_nil, List.nil_append, List.cons_append, Option.some.injEq, exists_eq', implies_true, and_self, X.bool, X.den, denL, d_wrap, d_kind, d_not, d_neg, d_slen, d_add, d_sub, d_mul, d_div, d_mod, d_lt, d_le, d_eq, d_eqb, d_eqs, d_lts, d_cat, d_sat, d_and, d_or, denSub, d_ite2, d_eq_ite2, asB, ptgs_len, ptgs_cell, ptgs_lsub, ptgs_snoc, ptgs_snoc0, snoc_nil, rows_len, valRows_len, h3, hx, hsy, sym5, sym6, sym20, sym32, sym33v, sym35, sym36, sym52, Int.toNat_natCast, hsh, hk, hc1]
      try simp
    · simp only [pq_l, EndsOk, WaysOk, forall_cons, forall_nil, TgtOk, gpair, FactsIn, hold_cons, hold_nil, Option.some.injEq, Value.bool.injEq, Value.int.injEq, decide_eq_true_eq, decide_eq_false_iff_not, and_true, true_and, and_imp, X.bool, X.den, denL, d_wrap, d_kind, d_not, d_neg, d_slen, d_add, d_sub, d_mul, d_div, d_mod, d_lt, d_le, d_eq, d_eqb, d_eqs, d_lts, d_cat, d_sat, d_and, d_or, denSub, d_ite2, d_eq_ite2, asB, ptgs_len, ptgs_cell, ptgs_lsub, beq_iff_eq, beq_eq_false_iff_ne, ne_eq, ptgs_snoc, ptgs_snoc0, snoc_nil, rows_len, valRows_len, h3, hx, hsy, sym5, sym6, sym20, sym32, sym33v, sym35, sym36, sym52, Int.toNat_natCast, hsh, hk, hc1]
      try simp
  · have hc1 : ¬ (400 : Int) < (n : Int) := by omega
    have hk := gen_few (show n ≤ 400 by omega)
    have hu : uptoP (genL n) = genL n := upto_full (by rw [hk])
    have hv := gen_held n (by omega)
    have hwd := gen_words (show n ≤ 400 by omega)
    have hl := genH_len n
    have hq := gen_eq (show n ≤ 404 by omega)
    have hbig : ¬ (1000000000 : Int) < (n : Int) := by omega
    refine ⟨?_, ?_⟩
    · simp only [pq_pre, pq_t, AsksL, GTree.asks, FTree.asks, FactsIn, List.append_nil, List.nil_append, List.cons_append, Option.some.injEq, exists_eq', implies_true, and_self, X.bool, X.den, denL, d_wrap, d_kind, d_not, d_neg, d_slen, d_add, d_sub, d_mul, d_div, d_mod, d_lt, d_le, d_eq, d_eqb, d_eqs, d_lts, d_cat, d_sat, d_and, d_or, denSub, d_ite2, d_eq_ite2, asB, ptgs_len, ptgs_cell, ptgs_lsub, ptgs_snoc, ptgs_snoc0, snoc_nil, rows_len, valRows_len, h3, hx, hsy, sym5, sym6, sym20, sym32, sym33v, sym35, sym36, sym52, Int.toNat_natCast, hsh, hk, hu, hv, hwd, hl, hc1, hbig]
      try simp
    · simp only [pq_l, EndsOk, WaysOk, forall_cons, forall_nil, TgtOk, gpair, FactsIn, hold_cons, hold_nil, Option.some.injEq, Value.bool.injEq, Value.int.injEq, decide_eq_true_eq, decide_eq_false_iff_not, and_true, true_and, and_imp, X.bool, X.den, denL, d_wrap, d_kind, d_not, d_neg, d_slen, d_add, d_sub, d_mul, d_div, d_mod, d_lt, d_le, d_eq, d_eqb, d_eqs, d_lts, d_cat, d_sat, d_and, d_or, denSub, d_ite2, d_eq_ite2, asB, ptgs_len, ptgs_cell, ptgs_lsub, beq_iff_eq, beq_eq_false_iff_ne, ne_eq, ptgs_snoc, ptgs_snoc0, snoc_nil, rows_len, valRows_len, h3, hx, hsy, sym5, sym6, sym20, sym32, sym33v, sym35, sym36, sym52, Int.toNat_natCast, hsh, hk, hu, hv, hwd, hl, hc1, hbig, hq]
      try simp

end Go.Proofs.Ytfmgfehjbedcmaa.Zs
