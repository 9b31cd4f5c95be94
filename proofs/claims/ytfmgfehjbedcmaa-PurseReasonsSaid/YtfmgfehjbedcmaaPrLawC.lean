/-
  The law PurseReasons for a list and for nil.
-/
import Derived.Test.YtfmgfehjbedcmaaPrConR
import Derived.Test.YtfmgfehjbedcmaaPrRunZ
import Derived.KernelRfl
set_option linter.unusedSimpArgs false
set_option linter.unusedVariables false
namespace Go.Proofs.Ytfmgfehjbedcmaa.Zs
open Go
set_option linter.unusedSimpArgs false
set_option linter.unusedVariables false

theorem acc_known {pre : List Ptg} {p : Ptg} (h : refusedP pre p = 0) (k : p.kind = 3) : (lastPay pre p.party p.parcel).known < p.known := by
  have a := accepted h
  rcases Int.lt_or_le (lastPay pre p.party p.parcel).known p.known with hk | hk
  · exact hk
  exfalso
  have c0 : ¬ 400 ≤ pre.length := by have := a.len; omega
  have c2 := a.kind3 k
  have c3 : (decide (0 < pre.length) && decide (p.hour < lastH pre)) = false := by
    have := a.hour
    simp only [Bool.and_eq_false_iff, decide_eq_false_iff_not]
    right; omega
  have c4 : ¬ hasW pre p.party p.parcel < p.amount := by omega
  unfold refusedP at h
  rw [decide_eq_false c0, a.formB, a.new, c3, decide_eq_false (show ¬ p.kind = 1 by omega), decide_eq_false c2.1, decide_eq_false (show ¬ p.kind = 2 by omega), decide_eq_false c4, decide_eq_true hk] at h
  simp at h
theorem acc_paid {pre : List Ptg} {p : Ptg} (g : GoodL pre) (h : refusedP pre p = 0) (k : p.kind = 3) : paidB pre p.party p.parcel = true := by
  have a := accepted h
  have c2 := a.kind3 k
  have := a.form.amount
  rcases g.has p.party p.parcel with ⟨_, b2, _⟩ | ⟨_, _, b3⟩
  · omega
  · exact b3
theorem acc_party {pre : List Ptg} {p : Ptg} (h : refusedP pre p = 0) : partyB p.party = true := by
  have a := (accepted h).form.party
  simp only [partyB, withinB, Bool.or_eq_true, Bool.and_eq_true, decide_eq_true_eq]
  omega
theorem acc_parcel {pre : List Ptg} {p : Ptg} (h : refusedP pre p = 0) : withinB p.parcel 10 10000007 = true := by
  have a := (accepted h).form.parcel
  simp only [withinB, Bool.and_eq_true, decide_eq_true_eq]
  omega

noncomputable def LM : Env → CallE := libs [cLib cChk_con, cLib cLast_con, cLib cHas_con, fun _ => aliveL]
theorem LM_ok (F : List (X × Bool)) {r : Rho} (h : r.sym = sy) : CallsOk (E1.with F r) (LM (E1.with F r)) := libs_ok fun c hc => by
  simp only [List.mem_cons, List.not_mem_nil, or_false] at hc
  rcases hc with rfl | rfl | rfl | rfl
  · exact lib_ok (E := E1) cChk_cok F h
  · exact lib_ok (E := E1) cLast_cok F h
  · exact lib_ok (E := E1) cHas_cok F h
  · exact alive_ok F r

def pm_vs : List X := [.num 0]

noncomputable def lPm_D : LoopD := { N := 100, M := 101, size := sizeOfF 5, reads := [(60, .rows 8 ptgSch (.var 0) (.var 1) false 24)], pats := [{ slots := [(0, .slx 60 8 (.var 0) (.num 0) (.op1 .len (.var 1)) (.var 2)), (3, .sint .i64 (.var 100))], heap := [] }], exits := [(.exit 0, { slots := [], heap := [] })], own := [], pre := [(.app 20 [.var 1], true), (.op2 .eq (.app 6 [.var 1]) (.num 0), true)] }
noncomputable def lPm_run : Env → AF → ASt → Option (List Out) := bodyRun LM 9 (fun _ => noLoop) (loopAt Try.prog 5 0)
def lPm0_F : List (X × Bool) := [(.op2 .lt (.var 100) (.num 0), false)]
noncomputable def lPm0_t : FTree := (.fork (.op2 .lt (.var 100) (.op1 .len (.var 1))) (.fork (.op2 .eq (.cell 2 (.var 1) (.var 100)) (.num 3)) (.fork (.op2 .lt (.var 100) (.var 100)) .bad (.fork (.op2 .lt (.var 2) (.var 100)) .bad (.fork (.op2 .lt (.op1 .len (.var 1)) (.var 100)) .bad (.fork (.app 20 [(.lsub (.var 1) (.num 0) (.var 100))]) (.fork (.op2 .eq (.app 6 [(.lsub (.var 1) (.num 0) (.var 100))]) (.num 0)) (.fork (.app 31 [(.cell 3 (.var 1) (.var 100))]) (.fork (.app 10 [(.cell 4 (.var 1) (.var 100)), (.num 10), (.num 10000007)]) (.fork (.app 44 [(.lsub (.var 1) (.num 0) (.var 100)), (.cell 3 (.var 1) (.var 100)), (.cell 4 (.var 1) (.var 100))]) (.fork (.op2 .lt (.app 43 [(.lsub (.var 1) (.num 0) (.var 100)), (.cell 3 (.var 1) (.var 100)), (.cell 4 (.var 1) (.var 100)), (.num 7)]) (.cell 7 (.var 1) (.var 100))) (.fork (.op2 .lt (.app 40 [(.lsub (.var 1) (.num 0) (.var 100)), (.cell 3 (.var 1) (.var 100)), (.cell 4 (.var 1) (.var 100))]) (.cell 5 (.var 1) (.var 100))) .bad (.leaf [(.again 0 [])])) .bad) .bad) .bad) .bad) .bad) .bad)))) (.leaf [(.again 0 [])])) (.leaf [(.leave 0 [])]))
noncomputable def lPm0_l : List (List (X × Bool) × Option (List (Tgt × Pairs))) := [([((.op2 .lt (.var 100) (.var 100)), true), ((.op2 .eq (.cell 2 (.var 1) (.var 100)) (.num 3)), true), ((.op2 .lt (.var 100) (.op1 .len (.var 1))), true), ((.op2 .lt (.var 100) (.num 0)), false)], none),
  ([((.op2 .lt (.var 2) (.var 100)), true), ((.op2 .lt (.var 100) (.var 100)), false), ((.op2 .eq (.cell 2 (.var 1) (.var 100)) (.num 3)), true), ((.op2 .lt (.var 100) (.op1 .len (.var 1))), true), ((.op2 .lt (.var 100) (.num 0)), false)], none),
  ([((.op2 .lt (.op1 .len (.var 1)) (.var 100)), true), ((.op2 .lt (.var 2) (.var 100)), false), ((.op2 .lt (.var 100) (.var 100)), false), ((.op2 .eq (.cell 2 (.var 1) (.var 100)) (.num 3)), true), ((.op2 .lt (.var 100) (.op1 .len (.var 1))), true), ((.op2 .lt (.var 100) (.num 0)), false)], none),
  ([((.op2 .lt (.app 40 [(.lsub (.var 1) (.num 0) (.var 100)), (.cell 3 (.var 1) (.var 100)), (.cell 4 (.var 1) (.var 100))]) (.cell 5 (.var 1) (.var 100))), true), ((.op2 .lt (.app 43 [(.lsub (.var 1) (.num 0) (.var 100)), (.cell 3 (.var 1) (.var 100)), (.cell 4 (.var 1) (.var 100)), (.num 7)]) (.cell 7 (.var 1) (.var 100))), true), ((.app 44 [(.lsub (.var 1) (.num 0) (.var 100)), (.cell 3 (.var 1) (.var 100)), (.cell 4 (.var 1) (.var 100))]), true), ((.app 10 [(.cell 4 (.var 1) (.var 100)), (.num 10), (.num 10000007)]), true), ((.app 31 [(.cell 3 (.var 1) (.var 100))]), true), ((.op2 .eq (.app 6 [(.lsub (.var 1) (.num 0) (.var 100))]) (.num 0)), true), ((.app 20 [(.lsub (.var 1) (.num 0) (.var 100))]), true), ((.op2 .lt (.op1 .len (.var 1)) (.var 100)), false), ((.op2 .lt (.var 2) (.var 100)), false), ((.op2 .lt (.var 100) (.var 100)), false), ((.op2 .eq (.cell 2 (.var 1) (.var 100)) (.num 3)), true), ((.op2 .lt (.var 100) (.op1 .len (.var 1))), true), ((.op2 .lt (.var 100) (.num 0)), false)], none),
  ([((.op2 .lt (.app 40 [(.lsub (.var 1) (.num 0) (.var 100)), (.cell 3 (.var 1) (.var 100)), (.cell 4 (.var 1) (.var 100))]) (.cell 5 (.var 1) (.var 100))), false), ((.op2 .lt (.app 43 [(.lsub (.var 1) (.num 0) (.var 100)), (.cell 3 (.var 1) (.var 100)), (.cell 4 (.var 1) (.var 100)), (.num 7)]) (.cell 7 (.var 1) (.var 100))), true), ((.app 44 [(.lsub (.var 1) (.num 0) (.var 100)), (.cell 3 (.var 1) (.var 100)), (.cell 4 (.var 1) (.var 100))]), true), ((.app 10 [(.cell 4 (.var 1) (.var 100)), (.num 10), (.num 10000007)]), true), ((.app 31 [(.cell 3 (.var 1) (.var 100))]), true), ((.op2 .eq (.app 6 [(.lsub (.var 1) (.num 0) (.var 100))]) (.num 0)), true), ((.app 20 [(.lsub (.var 1) (.num 0) (.var 100))]), true), ((.op2 .lt (.op1 .len (.var 1)) (.var 100)), false), ((.op2 .lt (.var 2) (.var 100)), false), ((.op2 .lt (.var 100) (.var 100)), false), ((.op2 .eq (.cell 2 (.var 1) (.var 100)) (.num 3)), true), ((.op2 .lt (.var 100) (.op1 .len (.var 1))), true), ((.op2 .lt (.var 100) (.num 0)), false)], some [((.again 0 []), [((.var 100), (.op1 (.wrap .i64) (.op2 .add (.var 100) (.num 1))))])]),
  ([((.op2 .lt (.app 43 [(.lsub (.var 1) (.num 0) (.var 100)), (.cell 3 (.var 1) (.var 100)), (.cell 4 (.var 1) (.var 100)), (.num 7)]) (.cell 7 (.var 1) (.var 100))), false), ((.app 44 [(.lsub (.var 1) (.num 0) (.var 100)), (.cell 3 (.var 1) (.var 100)), (.cell 4 (.var 1) (.var 100))]), true), ((.app 10 [(.cell 4 (.var 1) (.var 100)), (.num 10), (.num 10000007)]), true), ((.app 31 [(.cell 3 (.var 1) (.var 100))]), true), ((.op2 .eq (.app 6 [(.lsub (.var 1) (.num 0) (.var 100))]) (.num 0)), true), ((.app 20 [(.lsub (.var 1) (.num 0) (.var 100))]), true), ((.op2 .lt (.op1 .len (.var 1)) (.var 100)), false), ((.op2 .lt (.var 2) (.var 100)), false), ((.op2 .lt (.var 100) (.var 100)), false), ((.op2 .eq (.cell 2 (.var 1) (.var 100)) (.num 3)), true), ((.op2 .lt (.var 100) (.op1 .len (.var 1))), true), ((.op2 .lt (.var 100) (.num 0)), false)], none),
  ([((.app 44 [(.lsub (.var 1) (.num 0) (.var 100)), (.cell 3 (.var 1) (.var 100)), (.cell 4 (.var 1) (.var 100))]), false), ((.app 10 [(.cell 4 (.var 1) (.var 100)), (.num 10), (.num 10000007)]), true), ((.app 31 [(.cell 3 (.var 1) (.var 100))]), true), ((.op2 .eq (.app 6 [(.lsub (.var 1) (.num 0) (.var 100))]) (.num 0)), true), ((.app 20 [(.lsub (.var 1) (.num 0) (.var 100))]), true), ((.op2 .lt (.op1 .len (.var 1)) (.var 100)), false), ((.op2 .lt (.var 2) (.var 100)), false), ((.op2 .lt (.var 100) (.var 100)), false), ((.op2 .eq (.cell 2 (.var 1) (.var 100)) (.num 3)), true), ((.op2 .lt (.var 100) (.op1 .len (.var 1))), true), ((.op2 .lt (.var 100) (.num 0)), false)], none),
  ([((.app 10 [(.cell 4 (.var 1) (.var 100)), (.num 10), (.num 10000007)]), false), ((.app 31 [(.cell 3 (.var 1) (.var 100))]), true), ((.op2 .eq (.app 6 [(.lsub (.var 1) (.num 0) (.var 100))]) (.num 0)), true), ((.app 20 [(.lsub (.var 1) (.num 0) (.var 100))]), true), ((.op2 .lt (.op1 .len (.var 1)) (.var 100)), false), ((.op2 .lt (.var 2) (.var 100)), false), ((.op2 .lt (.var 100) (.var 100)), false), ((.op2 .eq (.cell 2 (.var 1) (.var 100)) (.num 3)), true), ((.op2 .lt (.var 100) (.op1 .len (.var 1))), true), ((.op2 .lt (.var 100) (.num 0)), false)], none),
  ([((.app 31 [(.cell 3 (.var 1) (.var 100))]), false), ((.op2 .eq (.app 6 [(.lsub (.var 1) (.num 0) (.var 100))]) (.num 0)), true), ((.app 20 [(.lsub (.var 1) (.num 0) (.var 100))]), true), ((.op2 .lt (.op1 .len (.var 1)) (.var 100)), false), ((.op2 .lt (.var 2) (.var 100)), false), ((.op2 .lt (.var 100) (.var 100)), false), ((.op2 .eq (.cell 2 (.var 1) (.var 100)) (.num 3)), true), ((.op2 .lt (.var 100) (.op1 .len (.var 1))), true), ((.op2 .lt (.var 100) (.num 0)), false)], none),
  ([((.op2 .eq (.app 6 [(.lsub (.var 1) (.num 0) (.var 100))]) (.num 0)), false), ((.app 20 [(.lsub (.var 1) (.num 0) (.var 100))]), true), ((.op2 .lt (.op1 .len (.var 1)) (.var 100)), false), ((.op2 .lt (.var 2) (.var 100)), false), ((.op2 .lt (.var 100) (.var 100)), false), ((.op2 .eq (.cell 2 (.var 1) (.var 100)) (.num 3)), true), ((.op2 .lt (.var 100) (.op1 .len (.var 1))), true), ((.op2 .lt (.var 100) (.num 0)), false)], none),
  ([((.app 20 [(.lsub (.var 1) (.num 0) (.var 100))]), false), ((.op2 .lt (.op1 .len (.var 1)) (.var 100)), false), ((.op2 .lt (.var 2) (.var 100)), false), ((.op2 .lt (.var 100) (.var 100)), false), ((.op2 .eq (.cell 2 (.var 1) (.var 100)) (.num 3)), true), ((.op2 .lt (.var 100) (.op1 .len (.var 1))), true), ((.op2 .lt (.var 100) (.num 0)), false)], none),
  ([((.op2 .eq (.cell 2 (.var 1) (.var 100)) (.num 3)), false), ((.op2 .lt (.var 100) (.op1 .len (.var 1))), true), ((.op2 .lt (.var 100) (.num 0)), false)], some [((.again 0 []), [((.var 100), (.op1 (.wrap .i64) (.op2 .add (.var 100) (.num 1))))])]),
  ([((.op2 .lt (.var 100) (.op1 .len (.var 1))), false), ((.op2 .lt (.var 100) (.num 0)), false)], some [((.leave 0 []), [])])]
theorem lPm0_w (r : Rho) : lPm_D.ways lPm_run E1 r 0 lPm0_F lPm0_t = some lPm0_l := by kernel_rfl
theorem lPm_ok : lPm_D.ok = true := by kernel_rfl
def lPm_Inv (l : List Ptg) (j : Nat) (vals : List Value) : Prop :=
  j = 0 ∧ ∃ i : Nat, i ≤ l.length ∧ vals = [.int .i64 i]
def lPm_mu (l : List Ptg) (_ : Nat) (vals : List Value) : Nat := l.length - (vI (vals.getD 0 default)).toNat
set_option maxHeartbeats 2000000 in
theorem lPm_step {ρ : Rho} {l : List Ptg} {cap : Int} {k2 : IntKind} (h1 : ρ.val 1 = some (ptgsR l)) (h2 : ρ.val 2 = some (.int k2 cap)) (hcap : (l.length : Int) ≤ cap) (hsy : ρ.sym = sy) (hmax : (l.length : Int) ≤ 1010) (h0 : (checkP l).2 = 0) (j : Nat) (vals : List Value) (hI : lPm_Inv l j vals) :
    StepOk lPm_D lPm_run E1 ρ (lPm_Inv l) (lPm_mu l) j vals := by
  obtain ⟨rfl, i, hi, rfl⟩ := hI
  have hN : lPm_D.N = 100 := rfl
  have v1 : (ρ.ext lPm_D.N [.int .i64 i]).val 1 = some (ptgsR l) := by rw [ext_low _ _ _ _ (by rw [hN]; omega)]; exact h1
  have v2 : (ρ.ext lPm_D.N [.int .i64 i]).val 2 = some (.int k2 cap) := by rw [ext_low _ _ _ _ (by rw [hN]; omega)]; exact h2
  have v100 : (ρ.ext lPm_D.N [.int .i64 i]).val 100 = some (.int .i64 i) := by rw [ext_high _ _ _ _ (by rw [hN]; omega)]; rfl
  have vs : (ρ.ext lPm_D.N [.int .i64 i]).sym = sy := hsy

  have hF : FactsIn (ρ.ext lPm_D.N [.int .i64 i]) lPm0_F := by
    simp only [lPm0_F, FactsIn, X.bool, X.den, denL, d_wrap, d_kind, d_not, d_neg, d_slen, d_add, d_sub, d_mul, d_div, d_mod, d_lt, d_le, d_eq, d_eqb, d_eqs, d_lts, d_cat, d_sat, d_and, d_or, denSub, denIte, asB, ptgs_len, ptgs_cell, ptgs_lsub, v100, Option.some.injEq, Value.bool.injEq, decide_eq_false_iff_not, and_true]
    omega
  suffices both : AsksL (ρ.ext lPm_D.N [.int .i64 i]) (lPm0_t.asks lPm0_F) ∧ WaysOk lPm_D ρ (lPm_Inv l) (lPm_mu l) 0 [.int .i64 i] lPm0_l from step_of_ways (lPm0_w _) hF both.1.ok both.2
  have hsub : ((l.take (i : Int).toNat).drop (0 : Int).toNat) = l.take i := by simp
  have hsh : shortB (l.take i) = true := len_short (by simp; omega)
  have hch : (checkP (l.take i)).2 = 0 := check_take h0 i
  have c1 : ¬ cap < (i : Int) := by omega
  have c2 : ¬ (l.length : Int) < (i : Int) := by omega
  have c3 : ¬ (i : Int) < (i : Int) := by omega
  cases hp : l[i]? with
  | none =>
    have hge := List.getElem?_eq_none_iff.1 hp
    have hge' : ¬ (i : Int) < l.length := by omega
    refine ⟨?_, ?_⟩
    · simp only [lPm0_t, lPm0_F, AsksL, GTree.asks, FTree.asks, FactsIn, List.append_nil, List.nil_append, List.cons_append, Option.some.injEq, exists_eq', implies_true, and_self, X.bool, X.den, denL, d_wrap, d_kind, d_not, d_neg, d_slen, d_add, d_sub, d_mul, d_div, d_mod, d_lt, d_le, d_eq, d_eqb, d_eqs, d_lts, d_cat, d_sat, d_and, d_or, denSub, denIte, asB, ptgs_len, ptgs_cell, ptgs_lsub, v1, v2, v100, vs, sym6, sym10, sym20, sym31, sym40, sym43, sym44, Int.toNat_natCast, hp, hge']
      try simp
    · simp only [lPm0_l, EndsOk, WaysOk, forall_cons, forall_nil, TgtOk, gpair, FactsIn, hold_cons, hold_nil, Option.some.injEq, Value.bool.injEq, Value.int.injEq, decide_eq_true_eq, decide_eq_false_iff_not, and_true, true_and, and_imp, X.bool, X.den, denL, d_wrap, d_kind, d_not, d_neg, d_slen, d_add, d_sub, d_mul, d_div, d_mod, d_lt, d_le, d_eq, d_eqb, d_eqs, d_lts, d_cat, d_sat, d_and, d_or, denSub, denIte, asB, ptgs_len, ptgs_cell, ptgs_lsub, beq_iff_eq, beq_eq_false_iff_ne, ne_eq, v1, v2, v100, vs, h1, h2, hsy, sym6, sym10, sym20, sym31, sym40, sym43, sym44, Int.toNat_natCast, hp, hge']
      try simp
  | some p =>
    have hlt : i < l.length := (List.getElem?_eq_some_iff.1 hp).1
    have hlt1 : (i : Int) < l.length := by omega
    have hw : IntKind.i64.wrap ((i : Int) + 1) = ((i + 1 : Nat) : Int) := by rw [IntWalk.i64_in _ (by omega)]; rfl
    have hr := check_at h0 hp
    have e1 := acc_party hr
    have e2 := acc_parcel hr
    have go : ∃ vals', ((ρ.ext lPm_D.N vals').val 100 = some (.int .i64 ((i + 1 : Nat) : Int))) ∧ lPm_Inv l 0 vals' ∧ lPm_mu l 0 vals' < lPm_mu l 0 [.int .i64 i] := by
      refine ⟨[.int .i64 ((i + 1 : Nat) : Int)], ?_, ⟨rfl, i + 1, by omega, rfl⟩, ?_⟩
      · rw [ext_high _ _ _ _ (by rw [hN]; omega)]; rfl
      · simp [lPm_mu, vI]; omega
    by_cases k3 : p.kind = 3
    · have e3 := acc_known hr k3
      have e4 := acc_paid (check_good hch) hr k3
      have e5 : ¬ hasW (l.take i) p.party p.parcel < p.amount := by have := ((accepted hr).kind3 k3).2; omega
      refine ⟨?_, ?_⟩
      · simp only [lPm0_t, lPm0_F, AsksL, GTree.asks, FTree.asks, FactsIn, List.append_nil, List.nil_append, List.cons_append, Option.some.injEq, exists_eq', implies_true, and_self, X.bool, X.den, denL, d_wrap, d_kind, d_not, d_neg, d_slen, d_add, d_sub, d_mul, d_div, d_mod, d_lt, d_le, d_eq, d_eqb, d_eqs, d_lts, d_cat, d_sat, d_and, d_or, denSub, denIte, asB, ptgs_len, ptgs_cell, ptgs_lsub, v1, v2, v100, vs, sym6, sym10, sym20, sym31, sym40, sym43, sym44, Int.toNat_natCast, hp, Option.bind_some, ptg0, ptg1, ptg2, ptg3, ptg4, ptg5, ptg6, ptg7, hsub, hsh, hch, e1, e2, e4, Int.toNat_zero, Int.reduceToNat, hlt1, k3]
        try simp [e3, e5, c1, c2]
      · simp only [lPm0_l, EndsOk, WaysOk, forall_cons, forall_nil, TgtOk, gpair, FactsIn, hold_cons, hold_nil, Option.some.injEq, Value.bool.injEq, Value.int.injEq, decide_eq_true_eq, decide_eq_false_iff_not, and_true, true_and, and_imp, X.bool, X.den, denL, d_wrap, d_kind, d_not, d_neg, d_slen, d_add, d_sub, d_mul, d_div, d_mod, d_lt, d_le, d_eq, d_eqb, d_eqs, d_lts, d_cat, d_sat, d_and, d_or, denSub, denIte, asB, ptgs_len, ptgs_cell, ptgs_lsub, beq_iff_eq, beq_eq_false_iff_ne, ne_eq, v1, v2, v100, vs, h1, h2, hsy, sym6, sym10, sym20, sym31, sym40, sym43, sym44, Int.toNat_natCast, hp, Option.bind_some, ptg0, ptg1, ptg2, ptg3, ptg4, ptg5, ptg6, ptg7, hsub, hsh, hch, e1, e2, e3, e4, e5, c1, c2, c3, Int.toNat_zero, Int.reduceToNat, hlt1, hw, k3]
        clear v1 v2 v100 vs h1 h2 hsy hp hF
        (repeat' apply And.intro) <;> intros <;> first
          | trivial
          | (exact go)
          | (exfalso; omega)
          | (exfalso; simp_all; done)
    · refine ⟨?_, ?_⟩
      · simp only [lPm0_t, lPm0_F, AsksL, GTree.asks, FTree.asks, FactsIn, List.append_nil, List.nil_append, List.cons_append, Option.some.injEq, exists_eq', implies_true, and_self, X.bool, X.den, denL, d_wrap, d_kind, d_not, d_neg, d_slen, d_add, d_sub, d_mul, d_div, d_mod, d_lt, d_le, d_eq, d_eqb, d_eqs, d_lts, d_cat, d_sat, d_and, d_or, denSub, denIte, asB, ptgs_len, ptgs_cell, ptgs_lsub, v1, v2, v100, vs, sym6, sym10, sym20, sym31, sym40, sym43, sym44, Int.toNat_natCast, hp, Option.bind_some, ptg0, ptg1, ptg2, ptg3, ptg4, ptg5, ptg6, ptg7, hsub, hsh, hch, e1, e2, Int.toNat_zero, Int.reduceToNat, hlt1]
        try simp [k3, c1, c2]
      · simp only [lPm0_l, EndsOk, WaysOk, forall_cons, forall_nil, TgtOk, gpair, FactsIn, hold_cons, hold_nil, Option.some.injEq, Value.bool.injEq, Value.int.injEq, decide_eq_true_eq, decide_eq_false_iff_not, and_true, true_and, and_imp, X.bool, X.den, denL, d_wrap, d_kind, d_not, d_neg, d_slen, d_add, d_sub, d_mul, d_div, d_mod, d_lt, d_le, d_eq, d_eqb, d_eqs, d_lts, d_cat, d_sat, d_and, d_or, denSub, denIte, asB, ptgs_len, ptgs_cell, ptgs_lsub, beq_iff_eq, beq_eq_false_iff_ne, ne_eq, v1, v2, v100, vs, h1, h2, hsy, sym6, sym10, sym20, sym31, sym40, sym43, sym44, Int.toNat_natCast, hp, Option.bind_some, ptg0, ptg1, ptg2, ptg3, ptg4, ptg5, ptg6, ptg7, hsub, hsh, hch, e1, e2, k3, c1, c2, c3, Int.toNat_zero, Int.reduceToNat, hlt1, hw]
        clear v1 v2 v100 vs h1 h2 hsy hp hF
        (repeat' apply And.intro) <;> intros <;> first
          | trivial
          | (exact go)
          | (exfalso; omega)
          | (exfalso; simp_all; done)

noncomputable def pm_fn : FnD := { f := 5, args := argsAV [ptgsArg 60 0], heap := hRoot ++ argsBlk [ptgsArg 60 0], N := 100, M := 100, out := .sbool (.boo true), news := [] }
noncomputable def pm_call : Env → CallL := fun E => acallAll E (evH E (LM E) ((fun E => oneH 5 (hooks [(4, lPm_D.hook E.facts pm_vs)])) E) 9)
noncomputable def pm_pre : List (X × Bool) := []
noncomputable def pm_t : GTree := (.fork (.op2 .lt (.num 24) (.op1 .len (.var 1))) (.leaf [[]]) (.fork (.app 20 [(.var 1)]) (.fork (.op2 .eq (.app 6 [(.var 1)]) (.num 0)) (.leaf [[]]) (.leaf [[]])) .bad))
noncomputable def pm_l : List (List (X × Bool) × Option Pairs) := [([((.op2 .lt (.num 24) (.op1 .len (.var 1))), true)], some []),
  ([((.op2 .eq (.app 6 [(.var 1)]) (.num 0)), true), ((.app 20 [(.var 1)]), true), ((.op2 .lt (.num 24) (.op1 .len (.var 1))), false)], some []),
  ([((.op2 .eq (.app 6 [(.var 1)]) (.num 0)), false), ((.app 20 [(.var 1)]), true), ((.op2 .lt (.num 24) (.op1 .len (.var 1))), false)], some []),
  ([((.app 20 [(.var 1)]), false), ((.op2 .lt (.num 24) (.op1 .len (.var 1))), false)], none)]
theorem pm_w (r : Rho) : pm_fn.ways pm_call E1 r pm_pre pm_t = some pm_l := by kernel_rfl
theorem pm_60 : (buildH pm_fn.heap).get 60 = some (.rows 8 ptgSch (.var 0) (.var 1) false 24) := by kernel_rfl
theorem lPm_H {r : Rho} {l : List Ptg} {cap : Int} {k2 : IntKind} (h1 : r.val 1 = some (ptgsR l)) (h2 : r.val 2 = some (.int k2 cap)) (hcap : (l.length : Int) ≤ cap) (hsy : r.sym = sy) (F : List (X × Bool)) :
    LoopsOk (E1.with F r) (oneH 5 (hooks [(4, lPm_D.hook (E1.with F r).facts pm_vs)])) := by
  refine loops_all (n := 1) (fun f fn h => h) (by kernel_rfl) fun i hi => ?_
  obtain rfl : i = 0 := by omega
  rw [hooks_hit (show keyOf (loopAt (E1.with F r).P 5 0) = 4 by kernel_rfl)]
  refine hook_ok (E₀ := E1) (run := lPm_run) (ρ := r) (Inv := lPm_Inv l) (μ := lPm_mu l) E1_ok lPm_ok (fun F r' h => ?_) (fun hp => ?_)
  · exact bodyRun_ok E1_ok (LM_ok F (h.trans hsy)) fun _ _ => noLoop_ok
  · have hmax : (l.length : Int) ≤ 1010 := by
      have := hp.1
      simp only [X.bool, X.den, denL, d_wrap, d_kind, d_not, d_neg, d_slen, d_add, d_sub, d_mul, d_div, d_mod, d_lt, d_le, d_eq, d_eqb, d_eqs, d_lts, d_cat, d_sat, d_and, d_or, denSub, denIte, asB, ptgs_len, ptgs_cell, ptgs_lsub, h1, hsy, sym20, Option.some.injEq, Value.bool.injEq] at this
      exact short_len this
    have h0 : (checkP l).2 = 0 := by
      have := hp.2.1
      simpa only [X.bool, X.den, denL, d_wrap, d_kind, d_not, d_neg, d_slen, d_add, d_sub, d_mul, d_div, d_mod, d_lt, d_le, d_eq, d_eqb, d_eqs, d_lts, d_cat, d_sat, d_and, d_or, denSub, denIte, asB, ptgs_len, ptgs_cell, ptgs_lsub, h1, hsy, sym6, Option.some.injEq, Value.bool.injEq, decide_eq_true_eq, beq_iff_eq] using this
    exact ⟨lPm_step h1 h2 hcap hsy hmax h0, [.int .i64 0], by simp only [pm_vs, X.bool, X.den, denL, d_wrap, d_kind, d_not, d_neg, d_slen, d_add, d_sub, d_mul, d_div, d_mod, d_lt, d_le, d_eq, d_eqb, d_eqs, d_lts, d_cat, d_sat, d_and, d_or, denSub, denIte, asB, ptgs_len, ptgs_cell, ptgs_lsub], rfl, 0, Nat.zero_le _, rfl⟩
theorem pm_out (σ : Sig) : pm_fn.out.inst σ = some (.bool true) := rfl
set_option maxRecDepth 100000 in
set_option maxHeartbeats 4000000 in
theorem pm_true {r : Rho} {σ : Sig} {w : World} {us : List Value} (hsy : r.sym = sy) (hρ : σ.rho = r) (hA : ∀ g id, E1.glob g = some id → ∃ κ, σ id = some (g, κ)) (hrel : (memOf pm_fn.heap 100).rel Try.prog σ w (fun b => w.heap.size ≤ b)) (hins : Ins σ pm_fn.args us) :
    Calls Try.prog 5 us.toArray w fun e w' => e = .returned (.bool true) ∧ Kept (fun b => w.heap.size ≤ b) w w' := by
  obtain ⟨u0, us, rfl, g0, hi⟩ := ins_cons hins
  obtain ⟨l, h1⟩ := ptgs_at hrel (i := 60) pm_60
  obtain ⟨k2, cap, h2, hcap⟩ := ptgs_cap (i := 60) (b := 0) g0 h1
  rw [hρ] at h1 h2
  have h1 : r.val 1 = some (ptgsR l) := h1
  have h2 : r.val 2 = some (.int k2 cap) := h2
  refine law_of (E := E1) (D := pm_fn) E1_ok (fun F => LM_ok F hsy) (fun F => lPm_H h1 h2 hcap hsy F) (pm_w r) hρ hA trivial hrel hins ?_ ?_ pm_out
  · simp only [pm_pre, pm_t, AsksL, GTree.asks, FTree.asks, FactsIn, List.append_nil, List.nil_append, List.cons_append, Option.some.injEq, exists_eq', implies_true, and_self, X.bool, X.den, denL, d_wrap, d_kind, d_not, d_neg, d_slen, d_add, d_sub, d_mul, d_div, d_mod, d_lt, d_le, d_eq, d_eqb, d_eqs, d_lts, d_cat, d_sat, d_and, d_or, denSub, denIte, asB, ptgs_len, ptgs_cell, ptgs_lsub, h1, hsy, sym6, sym20]
    try simp
  · simp only [pm_l, EndsOk, WaysOk, forall_cons, forall_nil, TgtOk, gpair, FactsIn, hold_cons, hold_nil, Option.some.injEq, Value.bool.injEq, Value.int.injEq, decide_eq_true_eq, decide_eq_false_iff_not, and_true, true_and, and_imp, X.bool, X.den, denL, d_wrap, d_kind, d_not, d_neg, d_slen, d_add, d_sub, d_mul, d_div, d_mod, d_lt, d_le, d_eq, d_eqb, d_eqs, d_lts, d_cat, d_sat, d_and, d_or, denSub, denIte, asB, ptgs_len, ptgs_cell, ptgs_lsub, h1, hsy, sym6, sym20]
    clear hρ hrel hi hins g0 h1 h2 hsy hA
    have e1 : ¬ 24 < (l.length : Int) → shortB l = true := fun h => len_short (by omega)
    (repeat' apply And.intro) <;> intros <;> first
      | (exact True.intro)
      | contradiction
      | (exfalso; omega)
      | (exfalso; have g1 := e1 (by assumption); simp_all; done)
      | (simp_all; done)

noncomputable def pmNil_fn : FnD := { f := 5, args := argsAV [.nils], heap := hRoot ++ argsBlk [.nils], N := 100, M := 100, out := .sbool (.boo true), news := [] }
noncomputable def pmNil_call : Env → CallL := fun E => acallAll E (evH E (LM E) ((fun _ => noLoops) E) 9)
noncomputable def pmNil_pre : List (X × Bool) := []
noncomputable def pmNil_t : GTree := (.leaf [[]])
noncomputable def pmNil_l : List (List (X × Bool) × Option Pairs) := [([], some [])]
theorem pmNil_w (r : Rho) : pmNil_fn.ways pmNil_call E1 r pmNil_pre pmNil_t = some pmNil_l := by kernel_rfl
theorem pmNil_out (σ : Sig) : pmNil_fn.out.inst σ = some (.bool true) := rfl
set_option maxRecDepth 100000 in
set_option maxHeartbeats 4000000 in
theorem pmNil_true {r : Rho} {σ : Sig} {w : World} {us : List Value} (hsy : r.sym = sy) (hρ : σ.rho = r) (hA : ∀ g id, E1.glob g = some id → ∃ κ, σ id = some (g, κ)) (hrel : (memOf pmNil_fn.heap 100).rel Try.prog σ w (fun b => w.heap.size ≤ b)) (hins : Ins σ pmNil_fn.args us) :
    Calls Try.prog 5 us.toArray w fun e w' => e = .returned (.bool true) ∧ Kept (fun b => w.heap.size ≤ b) w w' := by

  refine law_of (E := E1) (D := pmNil_fn) E1_ok (fun F => LM_ok F hsy) (fun F => noH_ok) (pmNil_w r) hρ hA trivial hrel hins ?_ ?_ pmNil_out
  · simp only [pmNil_pre, pmNil_t, AsksL, GTree.asks, FTree.asks, FactsIn, List.append_nil, List.nil_append, List.cons_append, Option.some.injEq, exists_eq', implies_true, and_self, X.bool, X.den, denL, d_wrap, d_kind, d_not, d_neg, d_slen, d_add, d_sub, d_mul, d_div, d_mod, d_lt, d_le, d_eq, d_eqb, d_eqs, d_lts, d_cat, d_sat, d_and, d_or, denSub, denIte, asB, ptgs_len, ptgs_cell, ptgs_lsub, hsy, sym6, sym20]
    try simp
  · simp only [pmNil_l, EndsOk, WaysOk, forall_cons, forall_nil, TgtOk, gpair, FactsIn, hold_cons, hold_nil, Option.some.injEq, Value.bool.injEq, Value.int.injEq, decide_eq_true_eq, decide_eq_false_iff_not, and_true, true_and, and_imp, X.bool, X.den, denL, d_wrap, d_kind, d_not, d_neg, d_slen, d_add, d_sub, d_mul, d_div, d_mod, d_lt, d_le, d_eq, d_eqb, d_eqs, d_lts, d_cat, d_sat, d_and, d_or, denSub, denIte, asB, ptgs_len, ptgs_cell, ptgs_lsub, hsy, sym6, sym20]
    try simp

end Go.Proofs.Ytfmgfehjbedcmaa.Zs
