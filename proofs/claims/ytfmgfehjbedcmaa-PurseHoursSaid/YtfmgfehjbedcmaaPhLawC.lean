/-
  The law PurseHours for a list and for nil.
-/
import Derived.Test.YtfmgfehjbedcmaaPhConU
import Derived.Test.YtfmgfehjbedcmaaPhConS
import Derived.Test.YtfmgfehjbedcmaaPhRunZ
import Derived.KernelRfl
set_option linter.unusedSimpArgs false
set_option linter.unusedVariables false
namespace Go.Proofs.Ytfmgfehjbedcmaa.Zs
open Go
set_option linter.unusedSimpArgs false
set_option linter.unusedVariables false

structure Asc (pre : List Ptg) : Prop where
  pw : pre.Pairwise fun p q => p.hour ≤ q.hour
  top : ∀ q ∈ pre, q.hour ≤ lastH pre
theorem Asc.snoc {pre : List Ptg} {p : Ptg} (h : Asc pre) (hr : refusedP pre p = 0) : Asc (pre ++ [p]) := by
  have hh := (accepted hr).hour
  refine ⟨List.pairwise_append.2 ⟨h.pw, List.pairwise_singleton _ _, fun a ha b hb => ?_⟩, fun q hq => ?_⟩
  · rw [List.mem_singleton.1 hb]
    exact Int.le_trans (h.top a ha) hh
  · rw [lastH_snoc]
    rcases List.mem_append.1 hq with hq | hq
    · exact Int.le_trans (h.top q hq) hh
    · rw [List.mem_singleton.1 hq]; exact Int.le_refl _
theorem chk_asc : ∀ (l pre : List Ptg), Asc pre → (chkP pre l).2 = 0 → Asc (pre ++ l)
  | [], pre, h, _ => by rwa [List.append_nil]
  | p :: r, pre, h, hc => by
    by_cases e : refusedP pre p = 0
    · simp only [chkP, if_pos e] at hc
      have := chk_asc r (pre ++ [p]) (h.snoc e) hc
      rwa [List.append_assoc] at this
    · simp only [chkP, if_neg e] at hc
      exact absurd hc e
theorem hour_part (h : Int) : ∀ l : List Ptg, (l.Pairwise fun p q => p.hour ≤ q.hour) → l.take (hourP l h).length = hourP l h ∧ ∀ p, l[(hourP l h).length]? = some p → h < p.hour
  | [], _ => ⟨rfl, fun p hp => by cases hp⟩
  | q :: r, hw => by
    obtain ⟨h1, h2⟩ := List.pairwise_cons.1 hw
    obtain ⟨i1, i2⟩ := hour_part h r h2
    by_cases c : q.hour ≤ h
    · have e : hourP (q :: r) h = q :: hourP r h := by simp [hourP, c]
      rw [e, List.length_cons, List.take_succ_cons, i1]
      refine ⟨rfl, fun p hp => i2 p ?_⟩
      simpa using hp
    · have e : hourP (q :: r) h = [] := by
        unfold hourP
        rw [List.filter_eq_nil_iff]
        intro a ha
        simp only [decide_eq_true_eq]
        rcases List.mem_cons.1 ha with rfl | ha
        · exact c
        · have := h1 a ha; omega
      rw [e]
      refine ⟨rfl, fun p hp => ?_⟩
      simp only [List.length_nil, List.getElem?_cons_zero, Option.some.injEq] at hp
      subst hp
      omega
theorem check_hours {l : List Ptg} (h0 : (checkP l).2 = 0) (h : Int) : l.take (hourP l h).length = hourP l h ∧ ∀ p, l[(hourP l h).length]? = some p → h < p.hour :=
  hour_part h l (chk_asc l [] ⟨.nil, fun q hq => by cases hq⟩ h0).pw

noncomputable def LM : Env → CallE := libs [cLib Same_con, cLib cChk_con, cLib cUpN_con, cLib cUpY_con, fun _ => aliveL]
theorem LM_ok (F : List (X × Bool)) {r : Rho} (h : r.sym = sy) : CallsOk (E1.with F r) (LM (E1.with F r)) := libs_ok fun c hc => by
  simp only [List.mem_cons, List.not_mem_nil, or_false] at hc
  rcases hc with rfl | rfl | rfl | rfl | rfl
  · exact lib_ok (E := E1) Same_cok F h
  · exact lib_ok (E := E1) cChk_cok F h
  · exact lib_ok (E := E1) cUpN_cok F h
  · exact lib_ok (E := E1) cUpY_cok F h
  · exact alive_ok F r

def ph_vs : List X := [.num 0]

noncomputable def lPh_D : LoopD := { N := 200, M := 201, size := sizeOfF 7, reads := [(60, .rows 8 ptgSch (.var 0) (.var 1) false 24)], pats := [{ slots := [(0, .slx 60 8 (.var 0) (.num 0) (.op1 .len (.var 1)) (.var 2)), (6, .sint .i64 (.var 200))], heap := [] }], exits := [(.exit 0, { slots := [], heap := [] })], own := [], pre := [(.app 20 [.var 1], true), (.op2 .eq (.app 6 [.var 1]) (.num 0), true)] }
noncomputable def lPh_run : Env → AF → ASt → Option (List Out) := bodyRun LM 9 (fun _ => noLoop) (loopAt Try.prog 7 0)
def lPh0_F : List (X × Bool) := [(.op2 .lt (.var 200) (.num 0), false)]
noncomputable def lPh0_t : FTree := (.fork (.op2 .lt (.op1 .len (.var 1)) (.var 200)) (.leaf [(.leave 0 [])]) (.fork (.op2 .lt (.var 200) (.var 200)) .bad (.fork (.op2 .lt (.var 2) (.var 200)) .bad (.fork (.app 20 [(.lsub (.var 1) (.num 0) (.var 200))]) (.fork (.op2 .eq (.app 6 [(.lsub (.var 1) (.num 0) (.var 200))]) (.num 0)) (.leaf [(.again 0 [])]) .bad) .bad))))
noncomputable def lPh0_l : List (List (X × Bool) × Option (List (Tgt × Pairs))) := [([((.op2 .lt (.op1 .len (.var 1)) (.var 200)), true), ((.op2 .lt (.var 200) (.num 0)), false)], some [((.leave 0 []), [])]),
  ([((.op2 .lt (.var 200) (.var 200)), true), ((.op2 .lt (.op1 .len (.var 1)) (.var 200)), false), ((.op2 .lt (.var 200) (.num 0)), false)], none),
  ([((.op2 .lt (.var 2) (.var 200)), true), ((.op2 .lt (.var 200) (.var 200)), false), ((.op2 .lt (.op1 .len (.var 1)) (.var 200)), false), ((.op2 .lt (.var 200) (.num 0)), false)], none),
  ([((.op2 .eq (.app 6 [(.lsub (.var 1) (.num 0) (.var 200))]) (.num 0)), true), ((.app 20 [(.lsub (.var 1) (.num 0) (.var 200))]), true), ((.op2 .lt (.var 2) (.var 200)), false), ((.op2 .lt (.var 200) (.var 200)), false), ((.op2 .lt (.op1 .len (.var 1)) (.var 200)), false), ((.op2 .lt (.var 200) (.num 0)), false)], some [((.again 0 []), [((.var 200), (.op1 (.wrap .i64) (.op2 .add (.var 200) (.num 1))))])]),
  ([((.op2 .eq (.app 6 [(.lsub (.var 1) (.num 0) (.var 200))]) (.num 0)), false), ((.app 20 [(.lsub (.var 1) (.num 0) (.var 200))]), true), ((.op2 .lt (.var 2) (.var 200)), false), ((.op2 .lt (.var 200) (.var 200)), false), ((.op2 .lt (.op1 .len (.var 1)) (.var 200)), false), ((.op2 .lt (.var 200) (.num 0)), false)], none),
  ([((.app 20 [(.lsub (.var 1) (.num 0) (.var 200))]), false), ((.op2 .lt (.var 2) (.var 200)), false), ((.op2 .lt (.var 200) (.var 200)), false), ((.op2 .lt (.op1 .len (.var 1)) (.var 200)), false), ((.op2 .lt (.var 200) (.num 0)), false)], none)]
theorem lPh0_w (r : Rho) : lPh_D.ways lPh_run E1 r 0 lPh0_F lPh0_t = some lPh0_l := by kernel_rfl
theorem lPh_ok : lPh_D.ok = true := by kernel_rfl
def lPh_Inv (l : List Ptg) (j : Nat) (vals : List Value) : Prop :=
  j = 0 ∧ ∃ i : Nat, i ≤ l.length + 1 ∧ vals = [.int .i64 i]
def lPh_mu (l : List Ptg) (_ : Nat) (vals : List Value) : Nat := l.length + 1 - (vI (vals.getD 0 default)).toNat
set_option maxHeartbeats 2000000 in
theorem lPh_step {ρ : Rho} {l : List Ptg} {cap : Int} {k2 : IntKind} (h1 : ρ.val 1 = some (ptgsR l)) (h2 : ρ.val 2 = some (.int k2 cap)) (hcap : (l.length : Int) ≤ cap) (hsy : ρ.sym = sy) (hmax : (l.length : Int) ≤ 1010) (h0 : (checkP l).2 = 0) (j : Nat) (vals : List Value) (hI : lPh_Inv l j vals) :
    StepOk lPh_D lPh_run E1 ρ (lPh_Inv l) (lPh_mu l) j vals := by
  obtain ⟨rfl, i, hi, rfl⟩ := hI
  have hN : lPh_D.N = 200 := rfl
  have v1 : (ρ.ext lPh_D.N [.int .i64 i]).val 1 = some (ptgsR l) := by rw [ext_low _ _ _ _ (by rw [hN]; omega)]; exact h1
  have v2 : (ρ.ext lPh_D.N [.int .i64 i]).val 2 = some (.int k2 cap) := by rw [ext_low _ _ _ _ (by rw [hN]; omega)]; exact h2
  have v200 : (ρ.ext lPh_D.N [.int .i64 i]).val 200 = some (.int .i64 i) := by rw [ext_high _ _ _ _ (by rw [hN]; omega)]; rfl
  have vs : (ρ.ext lPh_D.N [.int .i64 i]).sym = sy := hsy

  have hF : FactsIn (ρ.ext lPh_D.N [.int .i64 i]) lPh0_F := by
    simp only [lPh0_F, FactsIn, X.bool, X.den, denL, d_wrap, d_kind, d_not, d_neg, d_slen, d_add, d_sub, d_mul, d_div, d_mod, d_lt, d_le, d_eq, d_eqb, d_eqs, d_lts, d_cat, d_sat, d_and, d_or, denSub, denIte, asB, ptgs_len, ptgs_cell, ptgs_lsub, v200, Option.some.injEq, Value.bool.injEq, decide_eq_false_iff_not, and_true]
    omega
  suffices both : AsksL (ρ.ext lPh_D.N [.int .i64 i]) (lPh0_t.asks lPh0_F) ∧ WaysOk lPh_D ρ (lPh_Inv l) (lPh_mu l) 0 [.int .i64 i] lPh0_l from step_of_ways (lPh0_w _) hF both.1.ok both.2
  have hsub : ((l.take (i : Int).toNat).drop (0 : Int).toNat) = l.take i := by simp
  have hsh : shortB (l.take i) = true := len_short (by simp; omega)
  have hch : (checkP (l.take i)).2 = 0 := check_take h0 i
  have hw : IntKind.i64.wrap ((i : Int) + 1) = ((i + 1 : Nat) : Int) := by rw [IntWalk.i64_in _ (by omega)]; rfl
  have go : i ≤ l.length → ∃ vals', ((ρ.ext lPh_D.N vals').val 200 = some (.int .i64 ((i + 1 : Nat) : Int))) ∧ lPh_Inv l 0 vals' ∧ lPh_mu l 0 vals' < lPh_mu l 0 [.int .i64 i] := by
    intro hle
    refine ⟨[.int .i64 ((i + 1 : Nat) : Int)], ?_, ⟨rfl, i + 1, by omega, rfl⟩, ?_⟩
    · rw [ext_high _ _ _ _ (by rw [hN]; omega)]; rfl
    · simp [lPh_mu, vI]; omega
  have c3 : ¬ (i : Int) < (i : Int) := by omega
  by_cases hle : i ≤ l.length
  · have c1 : ¬ cap < (i : Int) := by omega
    have c2 : ¬ (l.length : Int) < (i : Int) := by omega
    refine ⟨?_, ?_⟩
    · simp only [lPh0_t, lPh0_F, AsksL, GTree.asks, FTree.asks, FactsIn, List.append_nil, List.nil_append, List.cons_append, Option.some.injEq, exists_eq', implies_true, and_self, X.bool, X.den, denL, d_wrap, d_kind, d_not, d_neg, d_slen, d_add, d_sub, d_mul, d_div, d_mod, d_lt, d_le, d_eq, d_eqb, d_eqs, d_lts, d_cat, d_sat, d_and, d_or, denSub, denIte, asB, ptgs_len, ptgs_cell, ptgs_lsub, v1, v2, v200, vs, sym6, sym7, sym20, sym58, Int.toNat_natCast, hsub, hsh, hch, Int.toNat_zero, Int.reduceToNat]
      try simp [c1, c2]
    · simp only [lPh0_l, EndsOk, WaysOk, forall_cons, forall_nil, TgtOk, gpair, FactsIn, hold_cons, hold_nil, Option.some.injEq, Value.bool.injEq, Value.int.injEq, decide_eq_true_eq, decide_eq_false_iff_not, and_true, true_and, and_imp, X.bool, X.den, denL, d_wrap, d_kind, d_not, d_neg, d_slen, d_add, d_sub, d_mul, d_div, d_mod, d_lt, d_le, d_eq, d_eqb, d_eqs, d_lts, d_cat, d_sat, d_and, d_or, denSub, denIte, asB, ptgs_len, ptgs_cell, ptgs_lsub, beq_iff_eq, beq_eq_false_iff_ne, ne_eq, v1, v2, v200, vs, h1, h2, hsy, sym6, sym7, sym20, sym58, Int.toNat_natCast, hsub, hsh, hch, c1, c2, c3, Int.toNat_zero, Int.reduceToNat, hw]
      clear v1 v2 v200 vs h1 h2 hsy hF
      (repeat' apply And.intro) <;> intros <;> first
        | trivial
        | (exact go hle)
        | (exfalso; omega)
        | (exfalso; simp_all; done)
  · have c2 : (l.length : Int) < (i : Int) := by omega
    refine ⟨?_, ?_⟩
    · simp only [lPh0_t, lPh0_F, AsksL, GTree.asks, FTree.asks, FactsIn, List.append_nil, List.nil_append, List.cons_append, Option.some.injEq, exists_eq', implies_true, and_self, X.bool, X.den, denL, d_wrap, d_kind, d_not, d_neg, d_slen, d_add, d_sub, d_mul, d_div, d_mod, d_lt, d_le, d_eq, d_eqb, d_eqs, d_lts, d_cat, d_sat, d_and, d_or, denSub, denIte, asB, ptgs_len, ptgs_cell, ptgs_lsub, v1, v2, v200, vs, sym6, sym7, sym20, sym58, Int.toNat_natCast, hsub, hsh, hch, Int.toNat_zero, Int.reduceToNat]
      try simp [c2]
    · simp only [lPh0_l, EndsOk, WaysOk, forall_cons, forall_nil, TgtOk, gpair, FactsIn, hold_cons, hold_nil, Option.some.injEq, Value.bool.injEq, Value.int.injEq, decide_eq_true_eq, decide_eq_false_iff_not, and_true, true_and, and_imp, X.bool, X.den, denL, d_wrap, d_kind, d_not, d_neg, d_slen, d_add, d_sub, d_mul, d_div, d_mod, d_lt, d_le, d_eq, d_eqb, d_eqs, d_lts, d_cat, d_sat, d_and, d_or, denSub, denIte, asB, ptgs_len, ptgs_cell, ptgs_lsub, beq_iff_eq, beq_eq_false_iff_ne, ne_eq, v1, v2, v200, vs, h1, h2, hsy, sym6, sym7, sym20, sym58, Int.toNat_natCast, hsub, hsh, hch, c2, c3, Int.toNat_zero, Int.reduceToNat, hw]
      clear v1 v2 v200 vs h1 h2 hsy hF
      (repeat' apply And.intro) <;> intros <;> first
        | trivial
        | (exfalso; omega)
        | (exfalso; simp_all; done)

noncomputable def ph_fn : FnD := { f := 7, args := argsAV [ptgsArg 60 0, .one (.int .i64 3)], heap := hRoot ++ argsBlk [ptgsArg 60 0, .one (.int .i64 3)], N := 100, M := 100, out := .sbool (.boo true), news := [] }
noncomputable def ph_call : Env → CallL := fun E => acallAll E (evH E (LM E) ((fun E => oneH 7 (hooks [(7, lPh_D.hook E.facts ph_vs)])) E) 6)
noncomputable def ph_pre : List (X × Bool) := []
noncomputable def ph_t : GTree := (.fork (.op2 .lt (.num 24) (.op1 .len (.var 1))) (.leaf [[]]) (.fork (.app 20 [(.var 1)]) (.fork (.op2 .eq (.app 6 [(.var 1)]) (.num 0)) (.fork (.op2 .eq (.op1 .len (.app 58 [(.var 1), (.var 3)])) (.num 0)) (.fork (.op2 .lt (.op1 .len (.var 1)) (.num 0)) .bad (.fork (.op2 .lt (.var 2) (.num 0)) .bad (.fork (.op2 .lt (.num 0) (.op1 .len (.var 1))) (.fork (.op2 .lt (.var 3) (.cell 1 (.var 1) (.num 0))) (.leaf [[]]) .bad) (.leaf [[]])))) (.fork (.op2 .lt (.op1 .len (.var 1)) (.op1 .len (.app 58 [(.var 1), (.var 3)]))) .bad (.fork (.op2 .lt (.op1 .len (.app 58 [(.var 1), (.var 3)])) (.num 0)) .bad (.fork (.op2 .lt (.var 2) (.op1 .len (.app 58 [(.var 1), (.var 3)]))) .bad (.fork (.app 20 [(.app 58 [(.var 1), (.var 3)])]) (.fork (.app 7 [(.app 58 [(.var 1), (.var 3)]), (.lsub (.var 1) (.num 0) (.op1 .len (.app 58 [(.var 1), (.var 3)])))]) (.fork (.op2 .lt (.op1 .len (.app 58 [(.var 1), (.var 3)])) (.op1 .len (.var 1))) (.fork (.op2 .lt (.var 3) (.cell 1 (.var 1) (.op1 .len (.app 58 [(.var 1), (.var 3)])))) (.leaf [[]]) .bad) (.leaf [[]])) .bad) .bad))))) (.leaf [[]])) .bad))
noncomputable def ph_l : List (List (X × Bool) × Option Pairs) := [([((.op2 .lt (.num 24) (.op1 .len (.var 1))), true)], some []),
  ([((.op2 .lt (.op1 .len (.var 1)) (.num 0)), true), ((.op2 .eq (.op1 .len (.app 58 [(.var 1), (.var 3)])) (.num 0)), true), ((.op2 .eq (.app 6 [(.var 1)]) (.num 0)), true), ((.app 20 [(.var 1)]), true), ((.op2 .lt (.num 24) (.op1 .len (.var 1))), false)], none),
  ([((.op2 .lt (.var 2) (.num 0)), true), ((.op2 .lt (.op1 .len (.var 1)) (.num 0)), false), ((.op2 .eq (.op1 .len (.app 58 [(.var 1), (.var 3)])) (.num 0)), true), ((.op2 .eq (.app 6 [(.var 1)]) (.num 0)), true), ((.app 20 [(.var 1)]), true), ((.op2 .lt (.num 24) (.op1 .len (.var 1))), false)], none),
  ([((.op2 .lt (.var 3) (.cell 1 (.var 1) (.num 0))), true), ((.op2 .lt (.num 0) (.op1 .len (.var 1))), true), ((.op2 .lt (.var 2) (.num 0)), false), ((.op2 .lt (.op1 .len (.var 1)) (.num 0)), false), ((.op2 .eq (.op1 .len (.app 58 [(.var 1), (.var 3)])) (.num 0)), true), ((.op2 .eq (.app 6 [(.var 1)]) (.num 0)), true), ((.app 20 [(.var 1)]), true), ((.op2 .lt (.num 24) (.op1 .len (.var 1))), false)], some []),
  ([((.op2 .lt (.var 3) (.cell 1 (.var 1) (.num 0))), false), ((.op2 .lt (.num 0) (.op1 .len (.var 1))), true), ((.op2 .lt (.var 2) (.num 0)), false), ((.op2 .lt (.op1 .len (.var 1)) (.num 0)), false), ((.op2 .eq (.op1 .len (.app 58 [(.var 1), (.var 3)])) (.num 0)), true), ((.op2 .eq (.app 6 [(.var 1)]) (.num 0)), true), ((.app 20 [(.var 1)]), true), ((.op2 .lt (.num 24) (.op1 .len (.var 1))), false)], none),
  ([((.op2 .lt (.num 0) (.op1 .len (.var 1))), false), ((.op2 .lt (.var 2) (.num 0)), false), ((.op2 .lt (.op1 .len (.var 1)) (.num 0)), false), ((.op2 .eq (.op1 .len (.app 58 [(.var 1), (.var 3)])) (.num 0)), true), ((.op2 .eq (.app 6 [(.var 1)]) (.num 0)), true), ((.app 20 [(.var 1)]), true), ((.op2 .lt (.num 24) (.op1 .len (.var 1))), false)], some []),
  ([((.op2 .lt (.op1 .len (.var 1)) (.op1 .len (.app 58 [(.var 1), (.var 3)]))), true), ((.op2 .eq (.op1 .len (.app 58 [(.var 1), (.var 3)])) (.num 0)), false), ((.op2 .eq (.app 6 [(.var 1)]) (.num 0)), true), ((.app 20 [(.var 1)]), true), ((.op2 .lt (.num 24) (.op1 .len (.var 1))), false)], none),
  ([((.op2 .lt (.op1 .len (.app 58 [(.var 1), (.var 3)])) (.num 0)), true), ((.op2 .lt (.op1 .len (.var 1)) (.op1 .len (.app 58 [(.var 1), (.var 3)]))), false), ((.op2 .eq (.op1 .len (.app 58 [(.var 1), (.var 3)])) (.num 0)), false), ((.op2 .eq (.app 6 [(.var 1)]) (.num 0)), true), ((.app 20 [(.var 1)]), true), ((.op2 .lt (.num 24) (.op1 .len (.var 1))), false)], none),
  ([((.op2 .lt (.var 2) (.op1 .len (.app 58 [(.var 1), (.var 3)]))), true), ((.op2 .lt (.op1 .len (.app 58 [(.var 1), (.var 3)])) (.num 0)), false), ((.op2 .lt (.op1 .len (.var 1)) (.op1 .len (.app 58 [(.var 1), (.var 3)]))), false), ((.op2 .eq (.op1 .len (.app 58 [(.var 1), (.var 3)])) (.num 0)), false), ((.op2 .eq (.app 6 [(.var 1)]) (.num 0)), true), ((.app 20 [(.var 1)]), true), ((.op2 .lt (.num 24) (.op1 .len (.var 1))), false)], none),
  ([((.op2 .lt (.var 3) (.cell 1 (.var 1) (.op1 .len (.app 58 [(.var 1), (.var 3)])))), true), ((.op2 .lt (.op1 .len (.app 58 [(.var 1), (.var 3)])) (.op1 .len (.var 1))), true), ((.app 7 [(.app 58 [(.var 1), (.var 3)]), (.lsub (.var 1) (.num 0) (.op1 .len (.app 58 [(.var 1), (.var 3)])))]), true), ((.app 20 [(.app 58 [(.var 1), (.var 3)])]), true), ((.op2 .lt (.var 2) (.op1 .len (.app 58 [(.var 1), (.var 3)]))), false), ((.op2 .lt (.op1 .len (.app 58 [(.var 1), (.var 3)])) (.num 0)), false), ((.op2 .lt (.op1 .len (.var 1)) (.op1 .len (.app 58 [(.var 1), (.var 3)]))), false), ((.op2 .eq (.op1 .len (.app 58 [(.var 1), (.var 3)])) (.num 0)), false), ((.op2 .eq (.app 6 [(.var 1)]) (.num 0)), true), ((.app 20 [(.var 1)]), true), ((.op2 .lt (.num 24) (.op1 .len (.var 1))), false)], some []),
  ([((.op2 .lt (.var 3) (.cell 1 (.var 1) (.op1 .len (.app 58 [(.var 1), (.var 3)])))), false), ((.op2 .lt (.op1 .len (.app 58 [(.var 1), (.var 3)])) (.op1 .len (.var 1))), true), ((.app 7 [(.app 58 [(.var 1), (.var 3)]), (.lsub (.var 1) (.num 0) (.op1 .len (.app 58 [(.var 1), (.var 3)])))]), true), ((.app 20 [(.app 58 [(.var 1), (.var 3)])]), true), ((.op2 .lt (.var 2) (.op1 .len (.app 58 [(.var 1), (.var 3)]))), false), ((.op2 .lt (.op1 .len (.app 58 [(.var 1), (.var 3)])) (.num 0)), false), ((.op2 .lt (.op1 .len (.var 1)) (.op1 .len (.app 58 [(.var 1), (.var 3)]))), false), ((.op2 .eq (.op1 .len (.app 58 [(.var 1), (.var 3)])) (.num 0)), false), ((.op2 .eq (.app 6 [(.var 1)]) (.num 0)), true), ((.app 20 [(.var 1)]), true), ((.op2 .lt (.num 24) (.op1 .len (.var 1))), false)], none),
  ([((.op2 .lt (.op1 .len (.app 58 [(.var 1), (.var 3)])) (.op1 .len (.var 1))), false), ((.app 7 [(.app 58 [(.var 1), (.var 3)]), (.lsub (.var 1) (.num 0) (.op1 .len (.app 58 [(.var 1), (.var 3)])))]), true), ((.app 20 [(.app 58 [(.var 1), (.var 3)])]), true), ((.op2 .lt (.var 2) (.op1 .len (.app 58 [(.var 1), (.var 3)]))), false), ((.op2 .lt (.op1 .len (.app 58 [(.var 1), (.var 3)])) (.num 0)), false), ((.op2 .lt (.op1 .len (.var 1)) (.op1 .len (.app 58 [(.var 1), (.var 3)]))), false), ((.op2 .eq (.op1 .len (.app 58 [(.var 1), (.var 3)])) (.num 0)), false), ((.op2 .eq (.app 6 [(.var 1)]) (.num 0)), true), ((.app 20 [(.var 1)]), true), ((.op2 .lt (.num 24) (.op1 .len (.var 1))), false)], some []),
  ([((.app 7 [(.app 58 [(.var 1), (.var 3)]), (.lsub (.var 1) (.num 0) (.op1 .len (.app 58 [(.var 1), (.var 3)])))]), false), ((.app 20 [(.app 58 [(.var 1), (.var 3)])]), true), ((.op2 .lt (.var 2) (.op1 .len (.app 58 [(.var 1), (.var 3)]))), false), ((.op2 .lt (.op1 .len (.app 58 [(.var 1), (.var 3)])) (.num 0)), false), ((.op2 .lt (.op1 .len (.var 1)) (.op1 .len (.app 58 [(.var 1), (.var 3)]))), false), ((.op2 .eq (.op1 .len (.app 58 [(.var 1), (.var 3)])) (.num 0)), false), ((.op2 .eq (.app 6 [(.var 1)]) (.num 0)), true), ((.app 20 [(.var 1)]), true), ((.op2 .lt (.num 24) (.op1 .len (.var 1))), false)], none),
  ([((.app 20 [(.app 58 [(.var 1), (.var 3)])]), false), ((.op2 .lt (.var 2) (.op1 .len (.app 58 [(.var 1), (.var 3)]))), false), ((.op2 .lt (.op1 .len (.app 58 [(.var 1), (.var 3)])) (.num 0)), false), ((.op2 .lt (.op1 .len (.var 1)) (.op1 .len (.app 58 [(.var 1), (.var 3)]))), false), ((.op2 .eq (.op1 .len (.app 58 [(.var 1), (.var 3)])) (.num 0)), false), ((.op2 .eq (.app 6 [(.var 1)]) (.num 0)), true), ((.app 20 [(.var 1)]), true), ((.op2 .lt (.num 24) (.op1 .len (.var 1))), false)], none),
  ([((.op2 .eq (.app 6 [(.var 1)]) (.num 0)), false), ((.app 20 [(.var 1)]), true), ((.op2 .lt (.num 24) (.op1 .len (.var 1))), false)], some []),
  ([((.app 20 [(.var 1)]), false), ((.op2 .lt (.num 24) (.op1 .len (.var 1))), false)], none)]
theorem ph_w (r : Rho) : ph_fn.ways ph_call E1 r ph_pre ph_t = some ph_l := by kernel_rfl
theorem ph_60 : (buildH ph_fn.heap).get 60 = some (.rows 8 ptgSch (.var 0) (.var 1) false 24) := by kernel_rfl
theorem lPh_H {r : Rho} {l : List Ptg} {cap : Int} {k2 : IntKind} (h1 : r.val 1 = some (ptgsR l)) (h2 : r.val 2 = some (.int k2 cap)) (hcap : (l.length : Int) ≤ cap) (hsy : r.sym = sy) (F : List (X × Bool)) :
    LoopsOk (E1.with F r) (oneH 7 (hooks [(7, lPh_D.hook (E1.with F r).facts ph_vs)])) := by
  refine loops_all (n := 1) (fun f fn h => h) (by kernel_rfl) fun i hi => ?_
  obtain rfl : i = 0 := by omega
  rw [hooks_hit (show keyOf (loopAt (E1.with F r).P 7 0) = 7 by kernel_rfl)]
  refine hook_ok (E₀ := E1) (run := lPh_run) (ρ := r) (Inv := lPh_Inv l) (μ := lPh_mu l) E1_ok lPh_ok (fun F r' h => ?_) (fun hp => ?_)
  · exact bodyRun_ok E1_ok (LM_ok F (h.trans hsy)) fun _ _ => noLoop_ok
  · have hmax : (l.length : Int) ≤ 1010 := by
      have := hp.1
      simp only [X.bool, X.den, denL, d_wrap, d_kind, d_not, d_neg, d_slen, d_add, d_sub, d_mul, d_div, d_mod, d_lt, d_le, d_eq, d_eqb, d_eqs, d_lts, d_cat, d_sat, d_and, d_or, denSub, denIte, asB, ptgs_len, ptgs_cell, ptgs_lsub, h1, hsy, sym20, Option.some.injEq, Value.bool.injEq] at this
      exact short_len this
    have h0 : (checkP l).2 = 0 := by
      have := hp.2.1
      simpa only [X.bool, X.den, denL, d_wrap, d_kind, d_not, d_neg, d_slen, d_add, d_sub, d_mul, d_div, d_mod, d_lt, d_le, d_eq, d_eqb, d_eqs, d_lts, d_cat, d_sat, d_and, d_or, denSub, denIte, asB, ptgs_len, ptgs_cell, ptgs_lsub, h1, hsy, sym6, Option.some.injEq, Value.bool.injEq, decide_eq_true_eq, beq_iff_eq] using this
    exact ⟨lPh_step h1 h2 hcap hsy hmax h0, [.int .i64 0], by simp only [ph_vs, X.bool, X.den, denL, d_wrap, d_kind, d_not, d_neg, d_slen, d_add, d_sub, d_mul, d_div, d_mod, d_lt, d_le, d_eq, d_eqb, d_eqs, d_lts, d_cat, d_sat, d_and, d_or, denSub, denIte, asB, ptgs_len, ptgs_cell, ptgs_lsub], rfl, 0, Nat.zero_le _, rfl⟩
theorem ph_out (σ : Sig) : ph_fn.out.inst σ = some (.bool true) := rfl
set_option maxRecDepth 100000 in
set_option maxHeartbeats 4000000 in
theorem ph_true {r : Rho} {σ : Sig} {w : World} {us : List Value} (hsy : r.sym = sy) (hρ : σ.rho = r) (hA : ∀ g id, E1.glob g = some id → ∃ κ, σ id = some (g, κ)) (hrel : (memOf ph_fn.heap 100).rel Try.prog σ w (fun b => w.heap.size ≤ b)) (hins : Ins σ ph_fn.args us) :
    Calls Try.prog 7 us.toArray w fun e w' => e = .returned (.bool true) ∧ Kept (fun b => w.heap.size ≤ b) w w' := by
  obtain ⟨u0, us, rfl, g0, hi⟩ := ins_cons hins
  obtain ⟨u1, us, rfl, g1, hi⟩ := ins_cons hi
  obtain ⟨h, k3, rfl, h3⟩ := one_int g1
  obtain ⟨l, h1⟩ := ptgs_at hrel (i := 60) ph_60
  obtain ⟨k2, cap, h2, hcap⟩ := ptgs_cap (i := 60) (b := 0) g0 h1
  rw [hρ] at h1 h2 h3
  have h1 : r.val 1 = some (ptgsR l) := h1
  have h2 : r.val 2 = some (.int k2 cap) := h2
  suffices both : AsksL r (ph_t.asks ph_pre) ∧ EndsOk r ph_l from law_of (E := E1) (D := ph_fn) E1_ok (fun F => LM_ok F hsy) (fun F => lPh_H h1 h2 hcap hsy F) (ph_w r) hρ hA trivial hrel hins both.1 both.2 ph_out
  by_cases h24 : 24 < (l.length : Int)
  · refine ⟨?_, ?_⟩
    · simp only [ph_pre, ph_t, AsksL, GTree.asks, FTree.asks, FactsIn, List.append_nil, List.nil_append, List.cons_append, Option.some.injEq, exists_eq', implies_true, and_self, X.bool, X.den, denL, d_wrap, d_kind, d_not, d_neg, d_slen, d_add, d_sub, d_mul, d_div, d_mod, d_lt, d_le, d_eq, d_eqb, d_eqs, d_lts, d_cat, d_sat, d_and, d_or, denSub, denIte, asB, ptgs_len, ptgs_cell, ptgs_lsub, h1, h2, h3, hsy, sym6, sym7, sym20, sym58, h24]
      try simp [h24]
    · simp only [ph_l, EndsOk, WaysOk, forall_cons, forall_nil, TgtOk, gpair, FactsIn, hold_cons, hold_nil, Option.some.injEq, Value.bool.injEq, Value.int.injEq, decide_eq_true_eq, decide_eq_false_iff_not, and_true, true_and, and_imp, X.bool, X.den, denL, d_wrap, d_kind, d_not, d_neg, d_slen, d_add, d_sub, d_mul, d_div, d_mod, d_lt, d_le, d_eq, d_eqb, d_eqs, d_lts, d_cat, d_sat, d_and, d_or, denSub, denIte, asB, ptgs_len, ptgs_cell, ptgs_lsub, beq_iff_eq, beq_eq_false_iff_ne, ne_eq, h1, h2, h3, hsy, sym6, sym7, sym20, sym58, h24]
      clear hρ hrel hi hins g0 g1 h1 h2 h3 hsy hA
      (repeat' apply And.intro) <;> intros <;> first
        | (exact True.intro)
        | contradiction
        | (exfalso; omega)
        | (exfalso; simp_all; done)
        | (exfalso; simp_all; omega)
        | (simp_all; done)
  have hmax : (l.length : Int) ≤ 1010 := by omega
  have hsl : shortB l = true := len_short hmax
  by_cases h0 : (checkP l).2 = 0
  · obtain ⟨hG1, hG2⟩ := check_hours h0 h
    have hle := hour_len l h
    have hsg : shortB (hourP l h) = true := len_short (by omega)
    have hsub : ((l.take (((hourP l h).length : Nat) : Int).toNat).drop (0 : Int).toNat) = hourP l h := by rw [Int.toNat_natCast, hG1]; rfl
    have c1 : ¬ cap < ((hourP l h).length : Int) := by omega
    have c2 : ¬ (l.length : Int) < ((hourP l h).length : Int) := by omega
    have c3 : ¬ cap < 0 := by omega
    have c4 : ¬ (l.length : Int) < 0 := by omega
    have c5 : ¬ ((hourP l h).length : Int) < 0 := by omega
    cases hz : (hourP l h).length with
    | zero =>
      rw [hz] at hG2 hsub c1 c2 c5
      cases hp : l[0]? with
      | none =>
        have hge : ¬ (0 : Int) < l.length := by have := List.getElem?_eq_none_iff.1 hp; omega
        refine ⟨?_, ?_⟩
        · simp only [ph_pre, ph_t, AsksL, GTree.asks, FTree.asks, FactsIn, List.append_nil, List.nil_append, List.cons_append, Option.some.injEq, exists_eq', implies_true, and_self, X.bool, X.den, denL, d_wrap, d_kind, d_not, d_neg, d_slen, d_add, d_sub, d_mul, d_div, d_mod, d_lt, d_le, d_eq, d_eqb, d_eqs, d_lts, d_cat, d_sat, d_and, d_or, denSub, denIte, asB, ptgs_len, ptgs_cell, ptgs_lsub, h1, h2, h3, hsy, sym6, sym7, sym20, sym58, h24, h0, hsl, hsg, hz, hp, hge, c1, c2, c3, c4, c5, Int.toNat_zero, Int.reduceToNat, Option.bind_some]
          try simp
        · simp only [ph_l, EndsOk, WaysOk, forall_cons, forall_nil, TgtOk, gpair, FactsIn, hold_cons, hold_nil, Option.some.injEq, Value.bool.injEq, Value.int.injEq, decide_eq_true_eq, decide_eq_false_iff_not, and_true, true_and, and_imp, X.bool, X.den, denL, d_wrap, d_kind, d_not, d_neg, d_slen, d_add, d_sub, d_mul, d_div, d_mod, d_lt, d_le, d_eq, d_eqb, d_eqs, d_lts, d_cat, d_sat, d_and, d_or, denSub, denIte, asB, ptgs_len, ptgs_cell, ptgs_lsub, beq_iff_eq, beq_eq_false_iff_ne, ne_eq, h1, h2, h3, hsy, sym6, sym7, sym20, sym58, h24, h0, hsl, hsg, hz, hp, hge, c1, c2, c3, c4, c5, Int.toNat_zero, Int.reduceToNat, Option.bind_some]
          clear hρ hrel hi hins g0 g1 h1 h2 h3 hsy hA
          (repeat' apply And.intro) <;> intros <;> first
            | (exact True.intro)
            | contradiction
            | (exfalso; omega)
            | (exfalso; simp_all; done)
            | (exfalso; simp_all; omega)
            | (simp_all; done)
      | some p =>
        have hlt : (0 : Int) < l.length := by have := (List.getElem?_eq_some_iff.1 hp).1; omega
        have hh := hG2 p hp
        refine ⟨?_, ?_⟩
        · simp only [ph_pre, ph_t, AsksL, GTree.asks, FTree.asks, FactsIn, List.append_nil, List.nil_append, List.cons_append, Option.some.injEq, exists_eq', implies_true, and_self, X.bool, X.den, denL, d_wrap, d_kind, d_not, d_neg, d_slen, d_add, d_sub, d_mul, d_div, d_mod, d_lt, d_le, d_eq, d_eqb, d_eqs, d_lts, d_cat, d_sat, d_and, d_or, denSub, denIte, asB, ptgs_len, ptgs_cell, ptgs_lsub, h1, h2, h3, hsy, sym6, sym7, sym20, sym58, h24, h0, hsl, hsg, hz, hp, hlt, c1, c2, c3, c4, c5, Int.toNat_zero, Int.reduceToNat, Option.bind_some, hh, ptg0, ptg1, ptg2, ptg3, ptg4, ptg5, ptg6, ptg7]
          try simp
        · simp only [ph_l, EndsOk, WaysOk, forall_cons, forall_nil, TgtOk, gpair, FactsIn, hold_cons, hold_nil, Option.some.injEq, Value.bool.injEq, Value.int.injEq, decide_eq_true_eq, decide_eq_false_iff_not, and_true, true_and, and_imp, X.bool, X.den, denL, d_wrap, d_kind, d_not, d_neg, d_slen, d_add, d_sub, d_mul, d_div, d_mod, d_lt, d_le, d_eq, d_eqb, d_eqs, d_lts, d_cat, d_sat, d_and, d_or, denSub, denIte, asB, ptgs_len, ptgs_cell, ptgs_lsub, beq_iff_eq, beq_eq_false_iff_ne, ne_eq, h1, h2, h3, hsy, sym6, sym7, sym20, sym58, h24, h0, hsl, hsg, hz, hp, hlt, c1, c2, c3, c4, c5, Int.toNat_zero, Int.reduceToNat, Option.bind_some, hh, ptg0, ptg1, ptg2, ptg3, ptg4, ptg5, ptg6, ptg7]
          clear hρ hrel hi hins g0 g1 h1 h2 h3 hsy hA
          (repeat' apply And.intro) <;> intros <;> first
            | (exact True.intro)
            | contradiction
            | (exfalso; omega)
            | (exfalso; simp_all; done)
            | (exfalso; simp_all; omega)
            | (simp_all; done)
    | succ m =>
      have hnz : ¬ ((hourP l h).length : Int) = 0 := by omega
      have hne : hourP l h ≠ [] := fun e => by rw [e] at hz; cases hz
      clear hz
      cases hp : l[(hourP l h).length]? with
      | none =>
        have hge : ¬ ((hourP l h).length : Int) < l.length := by have := List.getElem?_eq_none_iff.1 hp; omega
        refine ⟨?_, ?_⟩
        · simp only [ph_pre, ph_t, AsksL, GTree.asks, FTree.asks, FactsIn, List.append_nil, List.nil_append, List.cons_append, Option.some.injEq, exists_eq', implies_true, and_self, X.bool, X.den, denL, d_wrap, d_kind, d_not, d_neg, d_slen, d_add, d_sub, d_mul, d_div, d_mod, d_lt, d_le, d_eq, d_eqb, d_eqs, d_lts, d_cat, d_sat, d_and, d_or, denSub, denIte, asB, ptgs_len, ptgs_cell, ptgs_lsub, h1, h2, h3, hsy, sym6, sym7, sym20, sym58, h24, h0, hsl, hsg, hG1, List.drop_zero, hsub, hnz, hp, hge, c1, c2, c3, c4, c5, Int.toNat_natCast, Int.toNat_zero, Int.reduceToNat, Option.bind_some]
          try simp [hne]
        · simp only [ph_l, EndsOk, WaysOk, forall_cons, forall_nil, TgtOk, gpair, FactsIn, hold_cons, hold_nil, Option.some.injEq, Value.bool.injEq, Value.int.injEq, decide_eq_true_eq, decide_eq_false_iff_not, and_true, true_and, and_imp, X.bool, X.den, denL, d_wrap, d_kind, d_not, d_neg, d_slen, d_add, d_sub, d_mul, d_div, d_mod, d_lt, d_le, d_eq, d_eqb, d_eqs, d_lts, d_cat, d_sat, d_and, d_or, denSub, denIte, asB, ptgs_len, ptgs_cell, ptgs_lsub, beq_iff_eq, beq_eq_false_iff_ne, ne_eq, h1, h2, h3, hsy, sym6, sym7, sym20, sym58, h24, h0, hsl, hsg, hG1, List.drop_zero, hsub, hnz, hp, hge, c1, c2, c3, c4, c5, Int.toNat_natCast, Int.toNat_zero, Int.reduceToNat, Option.bind_some]
          clear hρ hrel hi hins g0 g1 h1 h2 h3 hsy hA
          (repeat' apply And.intro) <;> intros <;> first
            | (exact True.intro)
            | contradiction
            | (exfalso; omega)
            | (exfalso; simp_all; done)
            | (exfalso; simp_all; omega)
            | (simp_all; done)
      | some p =>
        have hlt : ((hourP l h).length : Int) < l.length := by have := (List.getElem?_eq_some_iff.1 hp).1; omega
        have hh := hG2 p hp
        refine ⟨?_, ?_⟩
        · simp only [ph_pre, ph_t, AsksL, GTree.asks, FTree.asks, FactsIn, List.append_nil, List.nil_append, List.cons_append, Option.some.injEq, exists_eq', implies_true, and_self, X.bool, X.den, denL, d_wrap, d_kind, d_not, d_neg, d_slen, d_add, d_sub, d_mul, d_div, d_mod, d_lt, d_le, d_eq, d_eqb, d_eqs, d_lts, d_cat, d_sat, d_and, d_or, denSub, denIte, asB, ptgs_len, ptgs_cell, ptgs_lsub, h1, h2, h3, hsy, sym6, sym7, sym20, sym58, h24, h0, hsl, hsg, hG1, List.drop_zero, hsub, hnz, hp, hlt, c1, c2, c3, c4, c5, Int.toNat_natCast, Int.toNat_zero, Int.reduceToNat, Option.bind_some, hh, ptg0, ptg1, ptg2, ptg3, ptg4, ptg5, ptg6, ptg7]
          try simp [hne]
        · simp only [ph_l, EndsOk, WaysOk, forall_cons, forall_nil, TgtOk, gpair, FactsIn, hold_cons, hold_nil, Option.some.injEq, Value.bool.injEq, Value.int.injEq, decide_eq_true_eq, decide_eq_false_iff_not, and_true, true_and, and_imp, X.bool, X.den, denL, d_wrap, d_kind, d_not, d_neg, d_slen, d_add, d_sub, d_mul, d_div, d_mod, d_lt, d_le, d_eq, d_eqb, d_eqs, d_lts, d_cat, d_sat, d_and, d_or, denSub, denIte, asB, ptgs_len, ptgs_cell, ptgs_lsub, beq_iff_eq, beq_eq_false_iff_ne, ne_eq, h1, h2, h3, hsy, sym6, sym7, sym20, sym58, h24, h0, hsl, hsg, hG1, List.drop_zero, hsub, hnz, hp, hlt, c1, c2, c3, c4, c5, Int.toNat_natCast, Int.toNat_zero, Int.reduceToNat, Option.bind_some, hh, ptg0, ptg1, ptg2, ptg3, ptg4, ptg5, ptg6, ptg7]
          clear hρ hrel hi hins g0 g1 h1 h2 h3 hsy hA
          (repeat' apply And.intro) <;> intros <;> first
            | (exact True.intro)
            | contradiction
            | (exfalso; omega)
            | (exfalso; simp_all; done)
            | (exfalso; simp_all; omega)
            | (simp_all; done)
  · refine ⟨?_, ?_⟩
    · simp only [ph_pre, ph_t, AsksL, GTree.asks, FTree.asks, FactsIn, List.append_nil, List.nil_append, List.cons_append, Option.some.injEq, exists_eq', implies_true, and_self, X.bool, X.den, denL, d_wrap, d_kind, d_not, d_neg, d_slen, d_add, d_sub, d_mul, d_div, d_mod, d_lt, d_le, d_eq, d_eqb, d_eqs, d_lts, d_cat, d_sat, d_and, d_or, denSub, denIte, asB, ptgs_len, ptgs_cell, ptgs_lsub, h1, h2, h3, hsy, sym6, sym7, sym20, sym58, h24, h0, hsl]
      try simp [h0]
    · simp only [ph_l, EndsOk, WaysOk, forall_cons, forall_nil, TgtOk, gpair, FactsIn, hold_cons, hold_nil, Option.some.injEq, Value.bool.injEq, Value.int.injEq, decide_eq_true_eq, decide_eq_false_iff_not, and_true, true_and, and_imp, X.bool, X.den, denL, d_wrap, d_kind, d_not, d_neg, d_slen, d_add, d_sub, d_mul, d_div, d_mod, d_lt, d_le, d_eq, d_eqb, d_eqs, d_lts, d_cat, d_sat, d_and, d_or, denSub, denIte, asB, ptgs_len, ptgs_cell, ptgs_lsub, beq_iff_eq, beq_eq_false_iff_ne, ne_eq, h1, h2, h3, hsy, sym6, sym7, sym20, sym58, h24, h0, hsl]
      clear hρ hrel hi hins g0 g1 h1 h2 h3 hsy hA
      (repeat' apply And.intro) <;> intros <;> first
        | (exact True.intro)
        | contradiction
        | (exfalso; omega)
        | (exfalso; simp_all; done)
        | (exfalso; simp_all; omega)
        | (simp_all; done)

noncomputable def phNil_fn : FnD := { f := 7, args := argsAV [.nils, .one (.int .i64 3)], heap := hRoot ++ argsBlk [.nils, .one (.int .i64 3)], N := 100, M := 100, out := .sbool (.boo true), news := [] }
noncomputable def phNil_call : Env → CallL := fun E => acallAll E (evH E (LM E) ((fun _ => noLoops) E) 9)
noncomputable def phNil_pre : List (X × Bool) := []
noncomputable def phNil_t : GTree := (.leaf [[]])
noncomputable def phNil_l : List (List (X × Bool) × Option Pairs) := [([], some [])]
theorem phNil_w (r : Rho) : phNil_fn.ways phNil_call E1 r phNil_pre phNil_t = some phNil_l := by kernel_rfl
theorem phNil_out (σ : Sig) : phNil_fn.out.inst σ = some (.bool true) := rfl
set_option maxRecDepth 100000 in
set_option maxHeartbeats 4000000 in
theorem phNil_true {r : Rho} {σ : Sig} {w : World} {us : List Value} (hsy : r.sym = sy) (hρ : σ.rho = r) (hA : ∀ g id, E1.glob g = some id → ∃ κ, σ id = some (g, κ)) (hrel : (memOf phNil_fn.heap 100).rel Try.prog σ w (fun b => w.heap.size ≤ b)) (hins : Ins σ phNil_fn.args us) :
    Calls Try.prog 7 us.toArray w fun e w' => e = .returned (.bool true) ∧ Kept (fun b => w.heap.size ≤ b) w w' := by
  obtain ⟨u0, us, rfl, g0, hi⟩ := ins_cons hins
  obtain ⟨u1, us, rfl, g1, hi⟩ := ins_cons hi
  obtain ⟨h, k3, rfl, h3⟩ := one_int g1
  rw [hρ] at h3
  suffices both : AsksL r (phNil_t.asks phNil_pre) ∧ EndsOk r phNil_l from law_of (E := E1) (D := phNil_fn) E1_ok (fun F => LM_ok F hsy) (fun F => noH_ok) (phNil_w r) hρ hA trivial hrel hins both.1 both.2 phNil_out
  refine ⟨?_, ?_⟩
  · simp only [phNil_pre, phNil_t, AsksL, GTree.asks, FTree.asks, FactsIn, List.append_nil, List.nil_append, List.cons_append, Option.some.injEq, exists_eq', implies_true, and_self, X.bool, X.den, denL, d_wrap, d_kind, d_not, d_neg, d_slen, d_add, d_sub, d_mul, d_div, d_mod, d_lt, d_le, d_eq, d_eqb, d_eqs, d_lts, d_cat, d_sat, d_and, d_or, denSub, denIte, asB, ptgs_len, ptgs_cell, ptgs_lsub, h3, hsy]
    try simp
  · simp only [phNil_l, EndsOk, WaysOk, forall_cons, forall_nil, TgtOk, gpair, FactsIn, hold_cons, hold_nil, Option.some.injEq, Value.bool.injEq, Value.int.injEq, decide_eq_true_eq, decide_eq_false_iff_not, and_true, true_and, and_imp, X.bool, X.den, denL, d_wrap, d_kind, d_not, d_neg, d_slen, d_add, d_sub, d_mul, d_div, d_mod, d_lt, d_le, d_eq, d_eqb, d_eqs, d_lts, d_cat, d_sat, d_and, d_or, denSub, denIte, asB, ptgs_len, ptgs_cell, ptgs_lsub, h3, hsy]
    try simp

end Go.Proofs.Ytfmgfehjbedcmaa.Zs
