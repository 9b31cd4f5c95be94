/-
  A contract: the pence of a party in an award; and the mathematics of accounts.
-/
import Derived.Test.YthjndglmpgljaaaGreatDoorChConC
import Derived.KernelRfl
import Derived.Test.YthjndglmpgljaaaGreatDoorChConV
set_option linter.unusedSimpArgs false
set_option linter.unusedVariables false
namespace Go.Proofs.YthjndglmpgljaaaGreatDoor.Zs
open Go
set_option linter.unusedSimpArgs false
set_option linter.unusedVariables false

def of_vs : List X := [.num 0, .num 0]

noncomputable def lOf_D : LoopD := { N := 100, M := 102, size := sizeOfF 43, reads := [(0, .rows 2 shrSch (.var 0) (.var 1) false 67)], pats := [{ slots := [(1, .sint .i64 (.var 3)), (5, .sint .i64 (.var 101)), (9, .slx 0 2 (.var 0) (.num 0) (.op1 .len (.var 1)) (.var 2)), (10, .sint .i64 (.op1 .len (.var 1))), (11, .sint .i64 (.var 100))], heap := [] }], exits := [(.exit 0, { slots := [(5, .sint .i64 (.app 116 [.var 1, .var 3]))], heap := [] })], own := [], pre := [] }
noncomputable def lOf_run : Env → AF → ASt → Option (List Out) := bodyRun noL 6 (fun _ => noLoop) (loopAt Tryz.prog 43 0)
def lOf0_F : List (X × Bool) := [(.op2 .lt (.var 100) (.num 0), false)]
noncomputable def lOf0_t : FTree := (.fork (.op2 .lt (.var 100) (.op1 .len (.var 1))) (.fork (.op2 .eq (.cell 0 (.var 1) (.var 100)) (.var 3)) (.leaf [(.again 0 [])]) (.leaf [(.again 0 [])])) (.leaf [(.leave 0 [])]))
noncomputable def lOf0_l : List (List (X × Bool) × Option (List (Tgt × Pairs))) := [([((.op2 .eq (.cell 0 (.var 1) (.var 100)) (.var 3)), true), ((.op2 .lt (.var 100) (.op1 .len (.var 1))), true), ((.op2 .lt (.var 100) (.num 0)), false)], some [((.again 0 []), [((.var 101), (.op1 (.wrap .i64) (.op2 .add (.var 101) (.cell 1 (.var 1) (.var 100))))), ((.var 100), (.op1 (.wrap .i64) (.op2 .add (.var 100) (.num 1))))])]),
  ([((.op2 .eq (.cell 0 (.var 1) (.var 100)) (.var 3)), false), ((.op2 .lt (.var 100) (.op1 .len (.var 1))), true), ((.op2 .lt (.var 100) (.num 0)), false)], some [((.again 0 []), [((.var 101), (.var 101)), ((.var 100), (.op1 (.wrap .i64) (.op2 .add (.var 100) (.num 1))))])]),
  ([((.op2 .lt (.var 100) (.op1 .len (.var 1))), false), ((.op2 .lt (.var 100) (.num 0)), false)], some [((.leave 0 []), [((.app 116 [(.var 1), (.var 3)]), (.var 101))])])]
theorem lOf0_w (r : Rho) : lOf_D.ways lOf_run E0 r 0 lOf0_F lOf0_t = some lOf0_l := by kernel_rfl
theorem lOf_ok : lOf_D.ok = true := by kernel_rfl
def lOf_Inv (l : List Shr) (k : Int) (j : Nat) (vals : List Value) : Prop :=
  j = 0 ∧ ∃ i : Nat, i ≤ l.length ∧ vals = [.int .i64 i, .int .i64 (sumK (l.take i) k)]
def lOf_mu (l : List Shr) (_ : Nat) (vals : List Value) : Nat := l.length - (vI (vals.getD 0 default)).toNat
theorem lOf_step {ρ : Rho} {l : List Shr} {k : Int} {k3 : IntKind} (h1 : ρ.val 1 = some (shrsR l)) (h3 : ρ.val 3 = some (.int k3 k)) (hsy : ρ.sym = sy) (hmax : (l.length : Int) ≤ 9223372036854775807) (j : Nat) (vals : List Value) (hI : lOf_Inv l k j vals) :
    StepOk lOf_D lOf_run E0 ρ (lOf_Inv l k) (lOf_mu l) j vals := by
  obtain ⟨rfl, i, hi, rfl⟩ := hI
  have hN : lOf_D.N = 100 := rfl
  have v1 : (ρ.ext lOf_D.N [.int .i64 i, .int .i64 (sumK (l.take i) k)]).val 1 = some (shrsR l) := by rw [ext_low _ _ _ _ (by rw [hN]; omega)]; exact h1
  have v3 : (ρ.ext lOf_D.N [.int .i64 i, .int .i64 (sumK (l.take i) k)]).val 3 = some (.int k3 k) := by rw [ext_low _ _ _ _ (by rw [hN]; omega)]; exact h3
  have v100 : (ρ.ext lOf_D.N [.int .i64 i, .int .i64 (sumK (l.take i) k)]).val 100 = some (.int .i64 i) := by rw [ext_high _ _ _ _ (by rw [hN]; omega)]; rfl
  have v101 : (ρ.ext lOf_D.N [.int .i64 i, .int .i64 (sumK (l.take i) k)]).val 101 = some (.int .i64 (sumK (l.take i) k)) := by rw [ext_high _ _ _ _ (by rw [hN]; omega)]; rfl
  have vs : (ρ.ext lOf_D.N [.int .i64 i, .int .i64 (sumK (l.take i) k)]).sym = sy := hsy

  have hF : FactsIn (ρ.ext lOf_D.N [.int .i64 i, .int .i64 (sumK (l.take i) k)]) lOf0_F := by
    simp only [lOf0_F, FactsIn, X.bool, X.den, denL, d_wrap, d_kind, d_not, d_neg, d_slen, d_add, d_sub, d_mul, d_div, d_mod, d_lt, d_le, d_eq, d_eqb, d_eqs, d_lts, d_cat, d_sat, d_and, d_or, denSub, denIte, asB, whos_len, whos_cell, whos_lsub, whos_lcat, whos_rep, shrs_len, shrs_cell, shrs_lsub, shrs_lcat, whos_snocN, whos_snoc0N, shrs_snocN, shrs_snoc0N, v100, Option.some.injEq, Value.bool.injEq, decide_eq_false_iff_not, and_true]
    omega
  suffices both : AsksL (ρ.ext lOf_D.N [.int .i64 i, .int .i64 (sumK (l.take i) k)]) (lOf0_t.asks lOf0_F) ∧ WaysOk lOf_D ρ (lOf_Inv l k) (lOf_mu l) 0 [.int .i64 i, .int .i64 (sumK (l.take i) k)] lOf0_l from step_of_ways (lOf0_w _) hF both.1.ok both.2
  cases hp : l[i]? with
  | none =>
    have hge := List.getElem?_eq_none_iff.1 hp
    have hge' : ¬ (i : Int) < l.length := by omega
    have hl : l.take i = l := List.take_of_length_le hge
    refine ⟨?_, ?_⟩
    · simp only [lOf0_t, lOf0_F, AsksL, GTree.asks, FTree.asks, FactsIn, List.append_nil, List.nil_append, List.cons_append, Option.some.injEq, exists_eq', implies_true, and_self, X.bool, X.den, denL, d_wrap, d_kind, d_not, d_neg, d_slen, d_add, d_sub, d_mul, d_div, d_mod, d_lt, d_le, d_eq, d_eqb, d_eqs, d_lts, d_cat, d_sat, d_and, d_or, denSub, denIte, asB, whos_len, whos_cell, whos_lsub, whos_lcat, whos_rep, shrs_len, shrs_cell, shrs_lsub, shrs_lcat, whos_snocN, whos_snoc0N, shrs_snocN, shrs_snoc0N, v1, v3, v100, v101, vs, sym21, sym116, Int.toNat_natCast, hp, hge']
      try simp
    · simp only [lOf0_l, EndsOk, WaysOk, forall_cons, forall_nil, TgtOk, gpair, FactsIn, hold_cons, hold_nil, Option.some.injEq, Value.bool.injEq, Value.int.injEq, decide_eq_true_eq, decide_eq_false_iff_not, and_true, true_and, and_imp, X.bool, X.den, denL, d_wrap, d_kind, d_not, d_neg, d_slen, d_add, d_sub, d_mul, d_div, d_mod, d_lt, d_le, d_eq, d_eqb, d_eqs, d_lts, d_cat, d_sat, d_and, d_or, denSub, denIte, asB, whos_len, whos_cell, whos_lsub, whos_lcat, whos_rep, shrs_len, shrs_cell, shrs_lsub, shrs_lcat, whos_snocN, whos_snoc0N, shrs_snocN, shrs_snoc0N, beq_iff_eq, beq_eq_false_iff_ne, ne_eq, v1, v3, v100, v101, vs, h1, h3, hsy, sym21, sym116, Int.toNat_natCast, hp, hge']
      simp [hl]
  | some p =>
    have hlt : i < l.length := (List.getElem?_eq_some_iff.1 hp).1
    have hlt1 : (i : Int) < l.length := by omega
    have hw : IntKind.i64.wrap ((i : Int) + 1) = ((i + 1 : Nat) : Int) := by rw [IntWalk.i64_in _ (by omega)]; rfl
    have hnext : sumK (l.take (i + 1)) k = if p.party = k then IntKind.i64.wrap (sumK (l.take i) k + p.pence) else sumK (l.take i) k := by
      rw [List.take_add_one, hp]; exact sumK_snoc _ k p
    have go : ∀ s, s = sumK (l.take (i + 1)) k → ∃ vals', ((ρ.ext lOf_D.N vals').val 101 = some (.int .i64 s) ∧ (ρ.ext lOf_D.N vals').val 100 = some (.int .i64 ((i + 1 : Nat) : Int))) ∧ lOf_Inv l k 0 vals' ∧ lOf_mu l 0 vals' < lOf_mu l 0 [.int .i64 i, .int .i64 (sumK (l.take i) k)] := by
      rintro s rfl
      refine ⟨[.int .i64 ((i + 1 : Nat) : Int), .int .i64 (sumK (l.take (i + 1)) k)], ⟨?_, ?_⟩, ⟨rfl, i + 1, by omega, rfl⟩, ?_⟩
      · rw [ext_high _ _ _ _ (by rw [hN]; omega)]; rfl
      · rw [ext_high _ _ _ _ (by rw [hN]; omega)]; rfl
      · simp [lOf_mu, vI]; omega
    have hy : p.party = k → IntKind.i64.wrap (sumK (l.take i) k + p.pence) = sumK (l.take (i + 1)) k := fun h => by rw [hnext, if_pos h]
    have hn : ¬ p.party = k → sumK (l.take i) k = sumK (l.take (i + 1)) k := fun h => by rw [hnext, if_neg h]
    refine ⟨?_, ?_⟩
    all_goals (simp only [lOf0_t, lOf0_F, lOf0_l, AsksL, GTree.asks, FTree.asks, FactsIn, List.append_nil, List.nil_append, List.cons_append, Option.some.injEq, exists_eq', implies_true, and_self, X.bool, X.den, denL, d_wrap, d_kind, d_not, d_neg, d_slen, d_add, d_sub, d_mul, d_div, d_mod, d_lt, d_le, d_eq, d_eqb, d_eqs, d_lts, d_cat, d_sat, d_and, d_or, denSub, denIte, asB, whos_len, whos_cell, whos_lsub, whos_lcat, whos_rep, shrs_len, shrs_cell, shrs_lsub, shrs_lcat, whos_snocN, whos_snoc0N, shrs_snocN, shrs_snoc0N, EndsOk, WaysOk, forall_cons, forall_nil, TgtOk, gpair, FactsIn, hold_cons, hold_nil, Option.some.injEq, Value.bool.injEq, Value.int.injEq, decide_eq_true_eq, decide_eq_false_iff_not, and_true, true_and, and_imp, X.bool, X.den, denL, d_wrap, d_kind, d_not, d_neg, d_slen, d_add, d_sub, d_mul, d_div, d_mod, d_lt, d_le, d_eq, d_eqb, d_eqs, d_lts, d_cat, d_sat, d_and, d_or, denSub, denIte, asB, whos_len, whos_cell, whos_lsub, whos_lcat, whos_rep, shrs_len, shrs_cell, shrs_lsub, shrs_lcat, whos_snocN, whos_snoc0N, shrs_snocN, shrs_snoc0N, beq_iff_eq, beq_eq_false_iff_ne, ne_eq, v1, v3, v100, v101, vs, h1, h3, hsy, sym21, sym116, Int.toNat_natCast, hp, Option.bind_some, shr0, shr1, hlt1, hw, reduceCtorEq, false_implies, implies_true, true_implies, and_self])
    all_goals (clear v1 v3 v100 v101 vs h1 h3 hsy hp hF)
    all_goals ((repeat' apply And.intro) <;> intros <;> first
      | trivial
      | (exfalso; omega)
      | (exact absurd trivial (by assumption))
      | (exact go _ (hy (by assumption)))
      | (exact go _ (hn (by assumption)))
      | (exact (And.comm.1 (go _ (hy (by assumption))).2.1))
      | (obtain ⟨vs', ⟨a1, a2⟩, a3⟩ := go _ (hy (by assumption)); exact ⟨vs', ⟨a2, a1⟩, a3⟩)
      | (obtain ⟨vs', ⟨a1, a2⟩, a3⟩ := go _ (hn (by assumption)); exact ⟨vs', ⟨a2, a1⟩, a3⟩))

noncomputable def cOf_con : Con := { f := 43, args := [.tup 6, .one (.int .i64 10), .one (.int .i64 11), .one (.int .i64 12), .one (.int .i64 13), .one (.int .i64 14), shrsArg 0 0, .one (.int .i64 3)], N := 1, M := 1, pre := [(.app 21 [.var 1], true)], out := .sint .i64 (.app 116 [.var 1, .var 3]), news := [] }
noncomputable def cOf_call : Env → CallL := fun E => acallAll E (evH E (noL E) ((fun E => oneH 43 (hooks [(3, lOf_D.hook E.facts of_vs)])) E) 6)
noncomputable def cOf_t : GTree := (.leaf [[]])
noncomputable def cOf_l : List (List (X × Bool) × Option Pairs) := [([((.app 21 [(.var 1)]), true)], some [((.app 116 [(.var 1), (.var 3)]), (.app 116 [(.var 1), (.var 3)]))])]
theorem cOf_w (r : Rho) : cOf_con.fn.ways cOf_call E0 r cOf_con.pre cOf_t = some cOf_l := by kernel_rfl
theorem cOf_H {r : Rho} {l : List Shr} {k : Int} {k3 : IntKind} (h1 : r.val 1 = some (shrsR l)) (h3 : r.val 3 = some (.int k3 k)) (hsy : r.sym = sy) (hmax : (l.length : Int) ≤ 9223372036854775807) (F : List (X × Bool)) : LoopsOk (E0.with F r) (oneH 43 (hooks [(3, lOf_D.hook (E0.with F r).facts of_vs)])) := by
  refine loops_all (n := 1) (fun f fn h => h) (by kernel_rfl) fun i hi => ?_
  obtain rfl : i = 0 := by omega
  rw [hooks_hit (show keyOf (loopAt (E0.with F r).P 43 0) = 3 by kernel_rfl)]
  refine hook_ok (E₀ := E0) (run := lOf_run) (ρ := r) (Inv := lOf_Inv l k) (μ := lOf_mu l) E0_ok lOf_ok (fun F r' h => ?_) (fun hp => ⟨lOf_step h1 h3 hsy hmax, [.int .i64 0, .int .i64 0], ?_, rfl, 0, Nat.zero_le _, rfl⟩)
  · exact bodyRun_ok E0_ok (noL_ok F (h.trans hsy)) fun _ _ => noLoop_ok
  · simp only [of_vs, X.bool, X.den, denL, d_wrap, d_kind, d_not, d_neg, d_slen, d_add, d_sub, d_mul, d_div, d_mod, d_lt, d_le, d_eq, d_eqb, d_eqs, d_lts, d_cat, d_sat, d_and, d_or, denSub, denIte, asB, whos_len, whos_cell, whos_lsub, whos_lcat, whos_rep, shrs_len, shrs_cell, shrs_lsub, shrs_lcat, whos_snocN, whos_snoc0N, shrs_snocN, shrs_snoc0N]
theorem cOf_cok : cOf_con.Ok Tryz.prog sy := by
  intro r σ w us hsy hρ hpre hrel hins
  obtain ⟨l, h1⟩ := shrs_at hrel (i := 0) rfl
  obtain ⟨u0, us, rfl, g0, hi⟩ := ins_cons hins
  obtain ⟨u1, us, rfl, g1, hi⟩ := ins_cons hi
  obtain ⟨k, k3, rfl, h3⟩ := one_int g1
  rw [hρ] at h1 h3
  have h1 : r.val 1 = some (shrsR l) := h1
  have hsh : shortB l = true := by
    have := hpre.1
    simpa only [X.bool, X.den, denL, d_wrap, d_kind, d_not, d_neg, d_slen, d_add, d_sub, d_mul, d_div, d_mod, d_lt, d_le, d_eq, d_eqb, d_eqs, d_lts, d_cat, d_sat, d_and, d_or, denSub, denIte, asB, whos_len, whos_cell, whos_lsub, whos_lcat, whos_rep, shrs_len, shrs_cell, shrs_lsub, shrs_lcat, whos_snocN, whos_snoc0N, shrs_snocN, shrs_snoc0N, h1, hsy, sym21, Option.some.injEq, Value.bool.injEq] using this
  have hmax : (l.length : Int) ≤ 9223372036854775807 := by have := short_len hsh; omega
  refine con_of (E := E0) E0_ok E0_glob (sy := sy) (fun F => noL_ok F hsy) (fun F => cOf_H h1 h3 hsy hmax F) (cOf_w r) hρ hpre hrel hins ?_ ?_
  · simp only [cOf_con, cOf_t, AsksL, GTree.asks, FTree.asks, FactsIn, List.append_nil, List.nil_append, List.cons_append, Option.some.injEq, exists_eq', implies_true, and_self, X.bool, X.den, denL, d_wrap, d_kind, d_not, d_neg, d_slen, d_add, d_sub, d_mul, d_div, d_mod, d_lt, d_le, d_eq, d_eqb, d_eqs, d_lts, d_cat, d_sat, d_and, d_or, denSub, denIte, asB, whos_len, whos_cell, whos_lsub, whos_lcat, whos_rep, shrs_len, shrs_cell, shrs_lsub, shrs_lcat, whos_snocN, whos_snoc0N, shrs_snocN, shrs_snoc0N, h1, h3, hsy, sym21, sym116]
    try simp
  · simp only [cOf_l, EndsOk, WaysOk, forall_cons, forall_nil, TgtOk, gpair, FactsIn, hold_cons, hold_nil, Option.some.injEq, Value.bool.injEq, Value.int.injEq, decide_eq_true_eq, decide_eq_false_iff_not, and_true, true_and, and_imp, X.bool, X.den, denL, d_wrap, d_kind, d_not, d_neg, d_slen, d_add, d_sub, d_mul, d_div, d_mod, d_lt, d_le, d_eq, d_eqb, d_eqs, d_lts, d_cat, d_sat, d_and, d_or, denSub, denIte, asB, whos_len, whos_cell, whos_lsub, whos_lcat, whos_rep, shrs_len, shrs_cell, shrs_lsub, shrs_lcat, whos_snocN, whos_snoc0N, shrs_snocN, shrs_snoc0N, h1, h3, hsy, sym21, sym116]
    try simp
end Go.Proofs.YthjndglmpgljaaaGreatDoor.Zs

/-
  The mathematics of accounts: no model.
-/
namespace Go.Proofs.YthjndglmpgljaaaGreatDoor.Zs
open Go

def sumP (l : List Shr) (k : Int) : Int := (l.map fun x => if x.party = k then x.pence else 0).sum
def NoD (m : List Shr) : Prop := (m.map Shr.party).Nodup ∧ ∀ x ∈ m, x.pence ≠ 0
theorem at_cons (x : Shr) (m : List Shr) (k : Int) : atK (x :: m) k = if x.party = k then x.pence else atK m k := by
  unfold atK
  rw [List.find?_cons]
  by_cases h : x.party = k
  · simp [h]
  · rw [beq_eq_false_iff_ne.2 h, if_neg h]
theorem at_put_ne {k j : Int} (h : j ≠ k) (v : Int) : ∀ m : List Shr, atK (putK k v m) j = atK m j
  | [] => by rw [putK, at_cons, if_neg (fun e => h e.symm)]
  | x :: m => by
    rw [putK]
    split
    · rename_i hx
      rw [at_cons, at_cons, if_neg (fun e => h e.symm), if_neg (fun e => h (by rw [← e, hx]))]
    · rw [at_cons, at_cons, at_put_ne h v m]
theorem at_del_ne {k j : Int} (h : j ≠ k) : ∀ m : List Shr, atK (delK k m) j = atK m j
  | [] => rfl
  | x :: m => by
    rw [delK]
    split
    · rename_i hx
      rw [at_cons, if_neg (fun e => h (by rw [← e, hx]))]
    · rw [at_cons, at_cons, at_del_ne h m]
theorem put_keys (k v : Int) : ∀ m : List Shr, (putK k v m).map Shr.party = if k ∈ m.map Shr.party then m.map Shr.party else m.map Shr.party ++ [k]
  | [] => rfl
  | x :: m => by
    rw [putK]
    split
    · rename_i hx; simp [hx]
    · rename_i hx
      have := put_keys k v m
      rw [List.map_cons, this]
      by_cases hk : k ∈ m.map Shr.party
      · rw [if_pos hk, if_pos (by simp only [List.map_cons, List.mem_cons]; exact .inr hk)]
        rfl
      · rw [if_neg hk, if_neg (by simp only [List.map_cons, List.mem_cons]; rintro (e | e); exact hx e.symm; exact hk e)]
        rfl
theorem put_nodup {k v : Int} {m : List Shr} (h : (m.map Shr.party).Nodup) : ((putK k v m).map Shr.party).Nodup := by
  rw [put_keys]
  split
  · exact h
  · rename_i hk
    rw [List.nodup_append]
    refine ⟨h, by simp, fun a ha b hb => ?_⟩
    rw [List.mem_singleton] at hb
    rintro rfl
    exact hk (hb ▸ ha)
theorem del_keys (k : Int) : ∀ m : List Shr, (delK k m).map Shr.party = (m.map Shr.party).erase k
  | [] => rfl
  | x :: m => by
    rw [delK, List.map_cons, List.erase_cons]
    split
    · rename_i hx; simp [hx]
    · rename_i hx
      rw [beq_eq_false_iff_ne.2 hx]
      simp [del_keys k m]
theorem at_no {m : List Shr} {k : Int} (h : k ∉ m.map Shr.party) : atK m k = 0 := at_none (by
  cases hh : hasK m k with
  | false => rfl
  | true =>
    obtain ⟨x, hx, hk⟩ := List.any_eq_true.1 hh
    exact absurd (List.mem_map.2 ⟨x, hx, by simpa using hk⟩) h)
theorem at_mem {m : List Shr} (h : NoD m) (k : Int) : k ∈ m.map Shr.party ↔ atK m k ≠ 0 := by
  constructor
  · intro hk
    obtain ⟨x, hx, hxk⟩ := List.mem_map.1 hk
    unfold atK
    cases hf : m.find? fun y => y.party == k with
    | none => exact absurd hxk (by simpa using List.find?_eq_none.1 hf x hx)
    | some y => simpa using h.2 y (List.mem_of_find?_eq_some hf)
  · intro hne
    by_cases hk : k ∈ m.map Shr.party
    · exact hk
    · exact absurd (at_no hk) hne
theorem add_good {m : List Shr} (h : NoD m) (k v : Int) : NoD (addK m k v) ∧ ∀ j, atK (addK m k v) j = atK m j + if k = j then v else 0 := by
  unfold addK
  have hp := put_nodup (k := k) (v := atK m k + v) h.1
  split
  · rename_i hz
    have hd : k ∉ (delK k (putK k (atK m k + v) m)).map Shr.party := by rw [del_keys]; exact hp.not_mem_erase
    refine ⟨⟨by rw [del_keys]; exact hp.erase k, fun x hx => ?_⟩, fun j => ?_⟩
    · have hne : x.party ≠ k := fun e => hd (List.mem_map.2 ⟨x, hx, e⟩)
      rcases put_mem (del_mem hx) with hm | rfl
      · exact h.2 x hm
      · exact absurd rfl hne
    · by_cases hj : k = j
      · subst hj; rw [at_no hd, if_pos rfl]; omega
      · rw [at_del_ne (fun e => hj e.symm), at_put_ne (fun e => hj e.symm), if_neg hj]; omega
  · rename_i hz
    refine ⟨⟨hp, fun x hx => ?_⟩, fun j => ?_⟩
    · rcases put_mem hx with hm | rfl
      · exact h.2 x hm
      · exact hz
    · by_cases hj : k = j
      · subst hj; rw [at_put, if_pos rfl]
      · rw [at_put_ne (fun e => hj e.symm), if_neg hj]; omega
theorem sumP_cons (x : Shr) (l : List Shr) (k : Int) : sumP (x :: l) k = (if x.party = k then x.pence else 0) + sumP l k := by simp [sumP]
theorem accB_good : ∀ (l m : List Shr), NoD m → NoD (accB m l) ∧ ∀ k, atK (accB m l) k = atK m k + sumP l k
  | [], m, h => ⟨h, fun k => by simp [accB, sumP]⟩
  | x :: l, m, h => by
    obtain ⟨h1, h2⟩ := add_good h x.party x.pence
    obtain ⟨h3, h4⟩ := accB_good l (addK m x.party x.pence) h1
    refine ⟨h3, fun k => ?_⟩
    show atK (accB (addK m x.party x.pence) l) k = _
    rw [h4 k, h2 k, sumP_cons]; omega
theorem accA_goes : ∀ (l m : List Shr), NoD m → NoD (l.foldl (fun m x => addK m x.party (-x.pence)) m) ∧ ∀ k, atK (l.foldl (fun m x => addK m x.party (-x.pence)) m) k = atK m k - sumP l k
  | [], m, h => ⟨h, fun k => by simp [sumP]⟩
  | x :: l, m, h => by
    obtain ⟨h1, h2⟩ := add_good h x.party (-x.pence)
    obtain ⟨h3, h4⟩ := accA_goes l (addK m x.party (-x.pence)) h1
    refine ⟨h3, fun k => ?_⟩
    rw [List.foldl_cons, h4 k, h2 k, sumP_cons]
    split <;> omega
theorem nod_nil : NoD [] := ⟨.nil, fun x hx => by cases hx⟩
theorem chg_good (a b : List Shr) : NoD (accB (accA a) b) ∧ ∀ k, atK (accB (accA a) b) k = sumP b k - sumP a k := by
  obtain ⟨h1, h2⟩ := accA_goes a [] nod_nil
  obtain ⟨h3, h4⟩ := accB_good b (accA a) h1
  refine ⟨h3, fun k => ?_⟩
  have := h2 k
  rw [h4 k, show accA a = a.foldl (fun m x => addK m x.party (-x.pence)) [] from rfl, this]
  simp [atK]; omega
theorem keys_same (a b : List Shr) : keysS (accB (accA b) a) = keysS (accB (accA a) b) := by
  obtain ⟨h1, h2⟩ := chg_good a b
  obtain ⟨h3, h4⟩ := chg_good b a
  unfold keysS
  refine mergeSort_of_perm_i ((List.perm_ext_iff_of_nodup h3.1 h1.1).2 fun k => ?_)
  rw [at_mem h3, at_mem h1, h2, h4]
  omega
def negS (x : Shr) : Shr := ⟨x.party, -x.pence⟩
theorem chg_neg (a b : List Shr) : chgOf (accB (accA b) a) = (chgOf (accB (accA a) b)).map negS := by
  unfold chgOf
  rw [keys_same, List.map_map]
  refine List.map_congr_left fun k _ => ?_
  simp only [Function.comp, negS, (chg_good a b).2, (chg_good b a).2, Shr.mk.injEq, true_and]
  omega
theorem chg_len2 (a b : List Shr) : (accB (accA b) a).length = (accB (accA a) b).length := by
  have := congrArg List.length (chg_neg a b)
  rw [List.length_map, chg_len, chg_len] at this
  exact this
theorem chg_mem {m : List Shr} (h : NoD m) {x : Shr} (hx : x ∈ chgOf m) : x.pence ≠ 0 ∧ x.pence = atK m x.party := by
  obtain ⟨k, hk, rfl⟩ := List.mem_map.1 hx
  unfold keysS at hk
  rw [List.mem_mergeSort] at hk
  exact ⟨(at_mem h k).1 hk, rfl⟩
theorem sum_one (f : Int → Int) (k : Int) : ∀ l : List Int, l.Nodup → (l.map fun x => if x = k then f x else 0).sum = if k ∈ l then f k else 0
  | [], _ => rfl
  | x :: l, h => by
    have hn := List.nodup_cons.1 h
    rw [List.map_cons, List.sum_cons, sum_one f k l hn.2]
    by_cases e : x = k
    · subst e; simp [hn.1]
    · have : (k ∈ x :: l) ↔ k ∈ l := by rw [List.mem_cons]; exact ⟨fun h => h.elim (fun h => absurd h.symm e) id, .inr⟩
      simp only [if_neg e, this]; omega
theorem sumP_chg {m : List Shr} (h : NoD m) (k : Int) : sumP (chgOf m) k = atK m k := by
  unfold sumP chgOf
  rw [List.map_map]
  have hk : (keysS m).Nodup := (List.mergeSort_perm _ _).nodup_iff.2 h.1
  have := sum_one (atK m) k (keysS m) hk
  refine Eq.trans ?_ (this.trans ?_)
  · rfl
  · by_cases hm : k ∈ keysS m
    · rw [if_pos hm]
    · rw [if_neg hm]
      unfold keysS at hm
      rw [List.mem_mergeSort] at hm
      exact (at_no hm).symm
theorem sumK_is {l : List Shr} {B : Int} (hB : 0 ≤ B) (h : ∀ x ∈ l, -B ≤ x.pence ∧ x.pence ≤ B) (hl : (l.length : Int) * B ≤ 9223372036854775807) (k : Int) (i : Nat) (hi : i ≤ l.length) :
    sumK (l.take i) k = sumP (l.take i) k ∧ -(i * B) ≤ sumP (l.take i) k ∧ sumP (l.take i) k ≤ i * B := by
  induction i with
  | zero => exact ⟨rfl, by simp [sumP], by simp [sumP]⟩
  | succ i ih =>
    obtain ⟨h1, h2, h3⟩ := ih (by omega)
    have hx : l[i]? = some l[i] := List.getElem?_eq_getElem (by omega)
    have hb := h l[i] (List.getElem_mem _)
    have hs : sumP (l.take i ++ [l[i]]) k = sumP (l.take i) k + if l[i].party = k then l[i].pence else 0 := by simp only [sumP, List.map_append, List.map_cons, List.map_nil, List.sum_append, List.sum_cons, List.sum_nil, Int.add_zero]
    have hm : ((i + 1 : Nat) : Int) * B = i * B + B := by rw [Int.natCast_add, Int.add_mul]; simp
    have hm2 : ((i + 1 : Nat) : Int) * B ≤ l.length * B := Int.mul_le_mul_of_nonneg_right (by omega) hB
    rw [List.take_add_one, hx]
    show sumK (_ ++ [l[i]]) k = sumP (_ ++ [l[i]]) k ∧ _
    rw [sumK_snoc, hs, h1]
    by_cases hp : l[i].party = k
    · simp only [if_pos hp]
      refine ⟨IntWalk.i64_in _ (by omega), ?_, ?_⟩
      · show -(_ * B) ≤ sumP (_ ++ [l[i]]) k; rw [hs, if_pos hp]; omega
      · show sumP (_ ++ [l[i]]) k ≤ _; rw [hs, if_pos hp]; omega
    · simp only [if_neg hp]
      refine ⟨by omega, ?_, ?_⟩
      · show -(_ * B) ≤ sumP (_ ++ [l[i]]) k; rw [hs, if_neg hp]; omega
      · show sumP (_ ++ [l[i]]) k ≤ _; rw [hs, if_neg hp]; omega
theorem sumK_chk {l : List Shr} (h : chkS l = 0) (k : Int) : sumK l k = sumP l k ∧ -1000000000000 ≤ sumP l k ∧ sumP l k ≤ 1000000000000 := by
  obtain ⟨h1, h2⟩ := (chkS_iff l).1 h
  have := sumK_is (B := 1000000000) (by omega) (fun x hx => ((chk1_iff x).1 (h2 x hx)).2) (by omega) k l.length (Nat.le_refl _)
  rw [List.take_length] at this
  exact ⟨this.1, by omega, by omega⟩
theorem of_sum {a b : List Shr} (ha : chkS a = 0) (hb : chkS b = 0) (k : Int) : sumK (chgOf (accB (accA a) b)) k = sumP b k - sumP a k ∧ IntKind.i64.wrap (sumK a k + sumK (chgOf (accB (accA a) b)) k) = sumK b k := by
  obtain ⟨hg, hat⟩ := chg_good a b
  have hacc := acc_all ha hb
  obtain ⟨la, _⟩ := (chkS_iff a).1 ha
  obtain ⟨lb, _⟩ := (chkS_iff b).1 hb
  have hmax := acc_max ha hb
  have hlen := chg_len (accB (accA a) b)
  have := sumK_is (l := chgOf (accB (accA a) b)) (B := 2000000000000) (by omega) (fun x hx => by
    have h1 := (chg_mem hg hx).2
    have h2 := acc_at hacc x.party
    omega) (by omega) k _ (Nat.le_refl _)
  rw [List.take_length] at this
  have e : sumK (chgOf (accB (accA a) b)) k = sumP b k - sumP a k := by rw [this.1, sumP_chg hg, hat]
  obtain ⟨a1, a2, a3⟩ := sumK_chk ha k
  obtain ⟨b1, b2, b3⟩ := sumK_chk hb k
  refine ⟨e, ?_⟩
  rw [e, a1, b1, IntWalk.i64_in _ (by omega)]
  omega
end Go.Proofs.YthjndglmpgljaaaGreatDoor.Zs
