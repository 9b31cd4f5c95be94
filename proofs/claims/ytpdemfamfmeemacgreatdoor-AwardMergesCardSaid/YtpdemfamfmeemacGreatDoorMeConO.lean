/-
  A contract: the pence of a party in an award; and the mathematics of accounts.
-/
import Derived.Test.YtpdemfamfmeemacGreatDoorMeConC
import Derived.KernelRfl
import Derived.Test.YtpdemfamfmeemacGreatDoorMeConV
set_option linter.unusedSimpArgs false
set_option linter.unusedVariables false
namespace Go.Proofs.YtpdemfamfmeemacGreatDoor.Zs
open Go
def of_vs : List X := [.num 0, .num 0]
noncomputable def lOf_D : LoopD := { N := 100, M := 102, size := sizeOfF 11, reads := [(0, .rows 2 shrSch (.var 0) (.var 1) false 25)], pats := [{ slots := [(1, .sint .i64 (.var 3)), (5, .sint .i64 (.var 101)), (9, .slx 0 2 (.var 0) (.num 0) (.op1 .len (.var 1)) (.var 2)), (10, .sint .i64 (.op1 .len (.var 1))), (11, .sint .i64 (.var 100))], heap := [] }], exits := [(.exit 0, { slots := [(5, .sint .i64 (.app 116 [.var 1, .var 3]))], heap := [] })], own := [], pre := [] }
noncomputable def lOf_run : Env → AF → ASt → Option (List Out) := bodyRun noL 6 (fun _ => noLoop) (loopAt Tryz.prog 11 0)
def lOf0_F : List (X × Bool) := [(.op2 .lt (.var 100) (.num 0), false)]
noncomputable def lOf0_t : FTree := (.fork (.op2 .lt (.var 100) (.op1 .len (.var 1))) (.fork (.op2 .eq (.cell 0 (.var 1) (.var 100)) (.var 3)) (.leaf [.again 0 []]) (.leaf [.again 0 []])) (.leaf [.leave 0 []]))
noncomputable def lOf0_l : List (List (X × Bool) × Option (List (Tgt × Pairs))) := [([(.op2 .eq (.cell 0 (.var 1) (.var 100)) (.var 3), true), (.op2 .lt (.var 100) (.op1 .len (.var 1)), true), (.op2 .lt (.var 100) (.num 0), false)], some [(.again 0 [], [(.var 101, .op1 (.wrap .i64) (.op2 .add (.var 101) (.cell 1 (.var 1) (.var 100)))), (.var 100, .op1 (.wrap .i64) (.op2 .add (.var 100) (.num 1)))])]),
  ([(.op2 .eq (.cell 0 (.var 1) (.var 100)) (.var 3), false), (.op2 .lt (.var 100) (.op1 .len (.var 1)), true), (.op2 .lt (.var 100) (.num 0), false)], some [(.again 0 [], [(.var 101, .var 101), (.var 100, .op1 (.wrap .i64) (.op2 .add (.var 100) (.num 1)))])]),
  ([(.op2 .lt (.var 100) (.op1 .len (.var 1)), false), (.op2 .lt (.var 100) (.num 0), false)], some [(.leave 0 [], [(.app 116 [.var 1, .var 3], .var 101)])])]
theorem lOf0_w (r : Rho) : lOf_D.ways lOf_run E0 r 0 lOf0_F lOf0_t = some lOf0_l := by kernel_rfl
theorem lOf_ok : lOf_D.ok = true := by kernel_rfl
def lOf_Inv (l : List Shr) (k : Int) (j : Nat) (vals : List Value) : Prop :=
  j = 0 ∧ ∃ i : Nat, i ≤ l.length ∧ vals = [.int .i64 i, .int .i64 (sumK (l.take i) k)]
def lOf_mu (l : List Shr) (_ : Nat) (vals : List Value) : Nat := l.length - (vI (vals.getD 0 default)).toNat
theorem lOf_step {ρ : Rho} {l : List Shr} {k : Int} {k3 : IntKind} (h1 : ρ.val 1 = some (shrsR l)) (h3 : ρ.val 3 = some (.int k3 k)) (hsy : ρ.sym = sy) (hmax : (l.length : Int) ≤ 9223372036854775807) (j : Nat) (vals : List Value) (hI : lOf_Inv l k j vals) :
    StepOk lOf_D lOf_run E0 ρ (lOf_Inv l k) (lOf_mu l) j vals := by
  obtain ⟨rfl, i, hi, rfl⟩ := hI
  have hN : lOf_D.N = 100 := rfl
  have v1 : (ρ.ext lOf_D.N [.int .i64 i, .int .i64 (sumK (l.take i) k)]).val 1 = some (shrsR l) := by rw [ext_low _ _ _ _ (by rw [hN]; omega)]; exact h1
  have v3 : (ρ.ext lOf_D.N [.int .i64 i, .int .i64 (sumK (l.take i) k)]).val 3 = some (.int k3 k) := by rw [ext_low _ _ _ _ (by rw [hN]; omega)]; exact h3
  have v100 : (ρ.ext lOf_D.N [.int .i64 i, .int .i64 (sumK (l.take i) k)]).val 100 = some (.int .i64 i) := by rw [ext_high _ _ _ _ (by rw [hN]; omega)]; rfl
  have v101 : (ρ.ext lOf_D.N [.int .i64 i, .int .i64 (sumK (l.take i) k)]).val 101 = some (.int .i64 (sumK (l.take i) k)) := by rw [ext_high _ _ _ _ (by rw [hN]; omega)]; rfl
  have vs : (ρ.ext lOf_D.N [.int .i64 i, .int .i64 (sumK (l.take i) k)]).sym = sy := hsy
  have hF : FactsIn (ρ.ext lOf_D.N [.int .i64 i, .int .i64 (sumK (l.take i) k)]) lOf0_F := by
    simp only [lOf0_F, FactsIn, X.bool, X.den, denL, dX, denSub, denIte, asB, dY, v100, Option.some.injEq, Value.bool.injEq, decide_eq_false_iff_not, and_true]
    omega
  suffices both : AsksL (ρ.ext lOf_D.N [.int .i64 i, .int .i64 (sumK (l.take i) k)]) (lOf0_t.asks lOf0_F) ∧ WaysOk lOf_D ρ (lOf_Inv l k) (lOf_mu l) 0 [.int .i64 i, .int .i64 (sumK (l.take i) k)] lOf0_l from step_of_ways (lOf0_w _) hF both.1.ok both.2
  cases hp : l[i]? with
  | none =>
    have hge := List.getElem?_eq_none_iff.1 hp
    have hge' : ¬ (i : Int) < l.length := by omega
    have hl : l.take i = l := List.take_of_length_le hge
    refine ⟨?_, ?_⟩
    · simp only [lOf0_t, lOf0_F, AsksL, GTree.asks, FTree.asks, FactsIn, List.append_nil, List.nil_append, List.cons_append, Option.some.injEq, exists_eq', implies_true, and_self, X.bool, X.den, denL, dX, denSub, denIte, asB, dY, v1, v3, v100, v101, vs, sym21, sym116, Int.toNat_natCast, hp, hge']
      try simp
    · simp only [lOf0_l, EndsOk, WaysOk, forall_cons, forall_nil, TgtOk, gpair, FactsIn, hold_cons, hold_nil, Option.some.injEq, dZ, X.bool, X.den, denL, dX, denSub, denIte, asB, dY, beq_iff_eq, beq_eq_false_iff_ne, ne_eq, v1, v3, v100, v101, vs, h1, h3, hsy, sym21, sym116, Int.toNat_natCast, hp, hge']
      simp [hl]
  | some p =>
    have hlt : i < l.length := (List.getElem?_eq_some_iff.1 hp).1
    have hlt1 : (i : Int) < l.length := by omega
    have hw : IntKind.i64.wrap ((i : Int) + 1) = ((i + 1 : Nat) : Int) := by rw [IntWalk.i64_in _ (by omega)]; rfl
    have hnext : sumK (l.take (i + 1)) k = if p.party = k then IntKind.i64.wrap (sumK (l.take i) k + p.pence) else sumK (l.take i) k := by
      rw [List.take_add_one, hp]; exact sumK_snoc _ k p
    have go : ∀ s, s = sumK (l.take (i + 1)) k → ∃ vals', ((ρ.ext lOf_D.N vals').val 101 = some (.int .i64 s) ∧ (ρ.ext lOf_D.N vals').val 100 = some (.int .i64 ((i + 1 : Nat) : Int))) ∧ lOf_Inv l k 0 vals' ∧ lOf_mu l 0 vals' < lOf_mu l 0 [.int .i64 i, .int .i64 (sumK (l.take i) k)] := by
      rintro s rfl
      refine ⟨[.int .i64 ((i + 1 : Nat) : Int), .int .i64 (sumK (l.take (i + 1)) k)], ⟨?_, ?_⟩, ⟨rfl, i + 1, by omega, rfl⟩, ?_⟩
      · rw [ext_high _ _ _ _ (by rw [hN]; omega)]; rfl
      · rw [ext_high _ _ _ _ (by rw [hN]; omega)]; rfl
      · simp [lOf_mu, vI]; omega
    have hy : p.party = k → IntKind.i64.wrap (sumK (l.take i) k + p.pence) = sumK (l.take (i + 1)) k := fun h => by rw [hnext, if_pos h]
    have hn : ¬ p.party = k → sumK (l.take i) k = sumK (l.take (i + 1)) k := fun h => by rw [hnext, if_neg h]
    refine ⟨?_, ?_⟩
    all_goals (simp only [lOf0_t, lOf0_F, lOf0_l, AsksL, GTree.asks, FTree.asks, FactsIn, List.append_nil, List.nil_append, List.cons_append, Option.some.injEq, exists_eq', implies_true, and_self, X.bool, X.den, denL, dX, denSub, denIte, asB, dY, EndsOk, WaysOk, forall_cons, forall_nil, TgtOk, gpair, FactsIn, hold_cons, hold_nil, Option.some.injEq, dZ, X.bool, X.den, denL, dX, denSub, denIte, asB, dY, beq_iff_eq, beq_eq_false_iff_ne, ne_eq, v1, v3, v100, v101, vs, h1, h3, hsy, sym21, sym116, Int.toNat_natCast, hp, Option.bind_some, shr0, shr1, hlt1, hw, reduceCtorEq, false_implies, implies_true, true_implies, and_self])
    all_goals (clear v1 v3 v100 v101 vs h1 h3 hsy hp hF)
    all_goals ((repeat' apply And.intro) <;> intros <;> first
      | trivial
      | (exfalso; omega)
      | (exact absurd trivial (by assumption))
      | (exact go _ (hy (by assumption)))
      | (exact go _ (hn (by assumption)))
      | (exact (And.comm.1 (go _ (hy (by assumption))).2.1))
      | (obtain ⟨vs', ⟨a1, a2⟩, a3⟩ := go _ (hy (by assumption)); exact ⟨vs', ⟨a2, a1⟩, a3⟩)
      | (obtain ⟨vs', ⟨a1, a2⟩, a3⟩ := go _ (hn (by assumption)); exact ⟨vs', ⟨a2, a1⟩, a3⟩))
noncomputable def cOf_con : Con := { f := 11, args := [.tup 6, .one (.int .i64 10), .one (.int .i64 11), .one (.int .i64 12), .one (.int .i64 13), .one (.int .i64 14), shrsArg 0 0, .one (.int .i64 3)], N := 1, M := 1, pre := [(.app 21 [.var 1], true)], out := .sint .i64 (.app 116 [.var 1, .var 3]), news := [] }
noncomputable def cOf_call : Env → CallL := fun E => acallAll E (evH E (noL E) ((fun E => oneH 11 (hooks [(3, lOf_D.hook E.facts of_vs)])) E) 6)
noncomputable def cOf_t : GTree := (.leaf [[]])
noncomputable def cOf_l : List (List (X × Bool) × Option Pairs) := [([(.app 21 [.var 1], true)], some [(.app 116 [.var 1, .var 3], .app 116 [.var 1, .var 3])])]
theorem cOf_w (r : Rho) : cOf_con.fn.ways cOf_call E0 r cOf_con.pre cOf_t = some cOf_l := by kernel_rfl
theorem cOf_H {r : Rho} {l : List Shr} {k : Int} {k3 : IntKind} (h1 : r.val 1 = some (shrsR l)) (h3 : r.val 3 = some (.int k3 k)) (hsy : r.sym = sy) (hmax : (l.length : Int) ≤ 9223372036854775807) (F : List (X × Bool)) : LoopsOk (E0.with F r) (oneH 11 (hooks [(3, lOf_D.hook (E0.with F r).facts of_vs)])) := by
  refine loops_all (n := 1) (fun f fn h => h) (by kernel_rfl) fun i hi => ?_
  obtain rfl : i = 0 := by omega
  rw [hooks_hit (show keyOf (loopAt (E0.with F r).P 11 0) = 3 by kernel_rfl)]
  refine hook_ok (E₀ := E0) (run := lOf_run) (ρ := r) (Inv := lOf_Inv l k) (μ := lOf_mu l) E0_ok lOf_ok (fun F r' h => ?_) (fun hp => ⟨lOf_step h1 h3 hsy hmax, [.int .i64 0, .int .i64 0], ?_, rfl, 0, Nat.zero_le _, rfl⟩)
  · exact bodyRun_ok E0_ok (noL_ok F (h.trans hsy)) fun _ _ => noLoop_ok
  · simp only [of_vs, X.bool, X.den, denL, dX, denSub, denIte, asB, dY]
theorem cOf_cok : cOf_con.Ok Tryz.prog sy := by
  intro r σ w us hsy hρ hpre hrel hins
  obtain ⟨l, h1⟩ := shrs_at hrel (i := 0) rfl
  obtain ⟨u0, us, rfl, g0, hi⟩ := ins_cons hins
  obtain ⟨u1, us, rfl, g1, hi⟩ := ins_cons hi
  obtain ⟨k, k3, rfl, h3⟩ := one_int g1
  rw [hρ] at h1 h3
  have h1 : r.val 1 = some (shrsR l) := h1
  have hsh : shortB l = true := by
    have := hpre.1
    simpa only [X.bool, X.den, denL, dX, denSub, denIte, asB, dY, h1, hsy, sym21, Option.some.injEq, Value.bool.injEq] using this
  have hmax : (l.length : Int) ≤ 9223372036854775807 := by have := short_len hsh; omega
  refine con_of (E := E0) E0_ok E0_glob (sy := sy) (fun F => noL_ok F hsy) (fun F => cOf_H h1 h3 hsy hmax F) (cOf_w r) hρ hpre hrel hins ?_ ?_
  · simp only [cOf_con, cOf_t, AsksL, GTree.asks, FTree.asks, FactsIn, List.append_nil, List.nil_append, List.cons_append, Option.some.injEq, exists_eq', implies_true, and_self, X.bool, X.den, denL, dX, denSub, denIte, asB, dY, h1, h3, hsy, sym21, sym116]
    try simp
  · simp only [cOf_l, EndsOk, WaysOk, forall_cons, forall_nil, TgtOk, gpair, FactsIn, hold_cons, hold_nil, Option.some.injEq, dZ, X.bool, X.den, denL, dX, denSub, denIte, asB, dY, h1, h3, hsy, sym21, sym116]
    try simp
open Go
def sumP (l : List Shr) (k : Int) : Int := (l.map fun x => if x.party = k then x.pence else 0).sum
def NoD (m : List Shr) : Prop := (m.map Shr.party).Nodup ∧ ∀ x ∈ m, x.pence ≠ 0
theorem at_cons (x : Shr) (m : List Shr) (k : Int) : atK (x :: m) k = if x.party = k then x.pence else atK m k := by
  unfold atK
  rw [List.find?_cons]
  by_cases h : x.party = k
  · simp [h]
  · rw [beq_eq_false_iff_ne.2 h, if_neg h]
theorem at_put_ne {k j : Int} (h : j ≠ k) (v : Int) : ∀ m : List Shr, atK (putK k v m) j = atK m j
  | [] => by rw [putK, at_cons, if_neg (fun e => h e.symm)]
  | x :: m => by
    rw [putK]
    split
    · rename_i hx
      rw [at_cons, at_cons, if_neg (fun e => h e.symm), if_neg (fun e => h (by rw [← e, hx]))]
    · rw [at_cons, at_cons, at_put_ne h v m]
theorem at_del_ne {k j : Int} (h : j ≠ k) : ∀ m : List Shr, atK (delK k m) j = atK m j
  | [] => rfl
  | x :: m => by
    rw [delK]
    split
    · rename_i hx
      rw [at_cons, if_neg (fun e => h (by rw [← e, hx]))]
    · rw [at_cons, at_cons, at_del_ne h m]
theorem put_keys (k v : Int) : ∀ m : List Shr, (putK k v m).map Shr.party = if k ∈ m.map Shr.party then m.map Shr.party else m.map Shr.party ++ [k]
  | [] => rfl
  | x :: m => by
    rw [putK]
    split
    · rename_i hx; simp [hx]
    · rename_i hx
      have := put_keys k v m
      rw [List.map_cons, this]
      by_cases hk : k ∈ m.map Shr.party
      · rw [if_pos hk, if_pos (by simp only [List.map_cons, List.mem_cons]; exact .inr hk)]
        rfl
      · rw [if_neg hk, if_neg (by simp only [List.map_cons, List.mem_cons]; rintro (e | e); exact hx e.symm; exact hk e)]
        rfl
theorem put_nodup {k v : Int} {m : List Shr} (h : (m.map Shr.party).Nodup) : ((putK k v m).map Shr.party).Nodup := by
  rw [put_keys]
  split
  · exact h
  · rename_i hk
    rw [List.nodup_append]
    refine ⟨h, by simp, fun a ha b hb => ?_⟩
    rw [List.mem_singleton] at hb
    rintro rfl
    exact hk (hb ▸ ha)
theorem del_keys (k : Int) : ∀ m : List Shr, (delK k m).map Shr.party = (m.map Shr.party).erase k
  | [] => rfl
  | x :: m => by
    rw [delK, List.map_cons, List.erase_cons]
    split
    · rename_i hx; simp [hx]
    · rename_i hx
      rw [beq_eq_false_iff_ne.2 hx]
      simp [del_keys k m]
theorem at_no {m : List Shr} {k : Int} (h : k ∉ m.map Shr.party) : atK m k = 0 := at_none (by
  cases hh : hasK m k with
  | false => rfl
  | true =>
    obtain ⟨x, hx, hk⟩ := List.any_eq_true.1 hh
    exact absurd (List.mem_map.2 ⟨x, hx, by simpa using hk⟩) h)
theorem at_mem {m : List Shr} (h : NoD m) (k : Int) : k ∈ m.map Shr.party ↔ atK m k ≠ 0 := by
  constructor
  · intro hk
    obtain ⟨x, hx, hxk⟩ := List.mem_map.1 hk
    unfold atK
    cases hf : m.find? fun y => y.party == k with
    | none => exact absurd hxk (by simpa using List.find?_eq_none.1 hf x hx)
    | some y => simpa using h.2 y (List.mem_of_find?_eq_some hf)
  · intro hne
    by_cases hk : k ∈ m.map Shr.party
    · exact hk
    · exact absurd (at_no hk) hne
theorem add_good {m : List Shr} (h : NoD m) (k v : Int) : NoD (addK m k v) ∧ ∀ j, atK (addK m k v) j = atK m j + if k = j then v else 0 := by
  unfold addK
  have hp := put_nodup (k := k) (v := atK m k + v) h.1
  split
  · rename_i hz
    have hd : k ∉ (delK k (putK k (atK m k + v) m)).map Shr.party := by rw [del_keys]; exact hp.not_mem_erase
    refine ⟨⟨by rw [del_keys]; exact hp.erase k, fun x hx => ?_⟩, fun j => ?_⟩
    · have hne : x.party ≠ k := fun e => hd (List.mem_map.2 ⟨x, hx, e⟩)
      rcases put_mem (del_mem hx) with hm | rfl
      · exact h.2 x hm
      · exact absurd rfl hne
    · by_cases hj : k = j
      · subst hj; rw [at_no hd, if_pos rfl]; omega
      · rw [at_del_ne (fun e => hj e.symm), at_put_ne (fun e => hj e.symm), if_neg hj]; omega
  · rename_i hz
    refine ⟨⟨hp, fun x hx => ?_⟩, fun j => ?_⟩
    · rcases put_mem hx with hm | rfl
      · exact h.2 x hm
      · exact hz
    · by_cases hj : k = j
      · subst hj; rw [at_put, if_pos rfl]
      · rw [at_put_ne (fun e => hj e.symm), if_neg hj]; omega
theorem sumP_cons (x : Shr) (l : List Shr) (k : Int) : sumP (x :: l) k = (if x.party = k then x.pence else 0) + sumP l k := by simp [sumP]
theorem accB_good : ∀ (l m : List Shr), NoD m → NoD (accB m l) ∧ ∀ k, atK (accB m l) k = atK m k + sumP l k
  | [], m, h => ⟨h, fun k => by simp [accB, sumP]⟩
  | x :: l, m, h => by
    obtain ⟨h1, h2⟩ := add_good h x.party x.pence
    obtain ⟨h3, h4⟩ := accB_good l (addK m x.party x.pence) h1
    refine ⟨h3, fun k => ?_⟩
    show atK (accB (addK m x.party x.pence) l) k = _
    rw [h4 k, h2 k, sumP_cons]; omega
theorem accA_goes : ∀ (l m : List Shr), NoD m → NoD (l.foldl (fun m x => addK m x.party (-x.pence)) m) ∧ ∀ k, atK (l.foldl (fun m x => addK m x.party (-x.pence)) m) k = atK m k - sumP l k
  | [], m, h => ⟨h, fun k => by simp [sumP]⟩
  | x :: l, m, h => by
    obtain ⟨h1, h2⟩ := add_good h x.party (-x.pence)
    obtain ⟨h3, h4⟩ := accA_goes l (addK m x.party (-x.pence)) h1
    refine ⟨h3, fun k => ?_⟩
    rw [List.foldl_cons, h4 k, h2 k, sumP_cons]
    split <;> omega
theorem nod_nil : NoD [] := ⟨.nil, fun x hx => by cases hx⟩
theorem chg_good (a b : List Shr) : NoD (accB (accA a) b) ∧ ∀ k, atK (accB (accA a) b) k = sumP b k - sumP a k := by
  obtain ⟨h1, h2⟩ := accA_goes a [] nod_nil
  obtain ⟨h3, h4⟩ := accB_good b (accA a) h1
  refine ⟨h3, fun k => ?_⟩
  have := h2 k
  rw [h4 k, show accA a = a.foldl (fun m x => addK m x.party (-x.pence)) [] from rfl, this]
  simp [atK]; omega
theorem sumK_is {l : List Shr} {B : Int} (hB : 0 ≤ B) (h : ∀ x ∈ l, -B ≤ x.pence ∧ x.pence ≤ B) (hl : (l.length : Int) * B ≤ 9223372036854775807) (k : Int) (i : Nat) (hi : i ≤ l.length) :
    sumK (l.take i) k = sumP (l.take i) k ∧ -(i * B) ≤ sumP (l.take i) k ∧ sumP (l.take i) k ≤ i * B := by
  induction i with
  | zero => exact ⟨rfl, by simp [sumP], by simp [sumP]⟩
  | succ i ih =>
    obtain ⟨h1, h2, h3⟩ := ih (by omega)
    have hx : l[i]? = some l[i] := List.getElem?_eq_getElem (by omega)
    have hb := h l[i] (List.getElem_mem _)
    have hs : sumP (l.take i ++ [l[i]]) k = sumP (l.take i) k + if l[i].party = k then l[i].pence else 0 := by simp only [sumP, List.map_append, List.map_cons, List.map_nil, List.sum_append, List.sum_cons, List.sum_nil, Int.add_zero]
    have hm : ((i + 1 : Nat) : Int) * B = i * B + B := by rw [Int.natCast_add, Int.add_mul]; simp
    have hm2 : ((i + 1 : Nat) : Int) * B ≤ l.length * B := Int.mul_le_mul_of_nonneg_right (by omega) hB
    rw [List.take_add_one, hx]
    show sumK (_ ++ [l[i]]) k = sumP (_ ++ [l[i]]) k ∧ _
    rw [sumK_snoc, hs, h1]
    by_cases hp : l[i].party = k
    · simp only [if_pos hp]
      refine ⟨IntWalk.i64_in _ (by omega), ?_, ?_⟩
      · show -(_ * B) ≤ sumP (_ ++ [l[i]]) k; rw [hs, if_pos hp]; omega
      · show sumP (_ ++ [l[i]]) k ≤ _; rw [hs, if_pos hp]; omega
    · simp only [if_neg hp]
      refine ⟨by omega, ?_, ?_⟩
      · show -(_ * B) ≤ sumP (_ ++ [l[i]]) k; rw [hs, if_neg hp]; omega
      · show sumP (_ ++ [l[i]]) k ≤ _; rw [hs, if_neg hp]; omega
open Go
theorem neg_wrap {x : Int} (h : -1000000000 ≤ x ∧ x ≤ 1000000000) : IntKind.i64.wrap (0 - x) = -x := by
  rw [IntWalk.i64_in _ (by omega)]; omega
theorem sumP_neg (k : Int) : ∀ a : List Shr, (∀ x ∈ a, -1000000000 ≤ x.pence ∧ x.pence ≤ 1000000000) → sumP (negAll a) k = - sumP a k
  | [], _ => by simp [sumP, negAll]
  | x :: a, h => by
    have hx := h x List.mem_cons_self
    have ih := sumP_neg k a fun y hy => h y (List.mem_cons_of_mem _ hy)
    show sumP (⟨x.party, IntKind.i64.wrap (0 - x.pence)⟩ :: negAll a) k = _
    rw [sumP_cons, sumP_cons, ih, neg_wrap hx]
    show (if x.party = k then -x.pence else 0) + _ = _
    split <;> omega
theorem sumP_app (k : Int) : ∀ a b : List Shr, sumP (a ++ b) k = sumP a k + sumP b k
  | [], b => by simp [sumP]
  | x :: a, b => by
    rw [List.cons_append, sumP_cons, sumP_cons, sumP_app k a b]; omega
theorem sumK_both {a b : List Shr} (ha : chkS a = 0) (hb : chkS b = 0) (k : Int) : sumK (b ++ negAll a) k = sumP b k - sumP a k := by
  obtain ⟨la, ha⟩ := (chkS_iff a).1 ha
  obtain ⟨lb, hb⟩ := (chkS_iff b).1 hb
  have hpa : ∀ x ∈ a, -1000000000 ≤ x.pence ∧ x.pence ≤ 1000000000 := fun x hx => ((chk1_iff x).1 (ha x hx)).2
  have hlen : (b ++ negAll a).length = b.length + a.length := by simp [negAll]
  have := sumK_is (l := b ++ negAll a) (B := 1000000000) (by omega) (fun x hx => by
    rcases List.mem_append.1 hx with hx | hx
    · exact ((chk1_iff x).1 (hb x hx)).2
    · obtain ⟨y, hy, rfl⟩ := List.mem_map.1 hx
      have h1 := hpa y hy
      show -1000000000 ≤ IntKind.i64.wrap (0 - y.pence) ∧ IntKind.i64.wrap (0 - y.pence) ≤ 1000000000
      rw [neg_wrap h1]; omega) (by rw [hlen]; omega) k _ (Nat.le_refl _)
  rw [List.take_length] at this
  rw [this.1, sumP_app, sumP_neg k a hpa]; omega
theorem sumP_out {l : List Shr} (h : ∀ x ∈ l, chk1 x = true) {k : Int} (hk : ¬ (0 ≤ k ∧ k ≤ 40)) : sumP l k = 0 := by
  induction l with
  | nil => rfl
  | cons x l ih =>
    have hx := ((chk1_iff x).1 (h x List.mem_cons_self)).1
    rw [sumP_cons, ih fun y hy => h y (List.mem_cons_of_mem _ hy), if_neg (by omega)]
    omega
theorem chg_mrg {a b : List Shr} (ha : chkS a = 0) (hb : chkS b = 0) : chgOf (accB (accA a) b) = mrgR (b ++ negAll a) := by
  obtain ⟨hg, hat⟩ := chg_good a b
  have hs := fun k => sumK_both ha hb k
  have la := ((chkS_iff a).1 ha).2
  have lb := ((chkS_iff b).1 hb).2
  have hkey : keysS (accB (accA a) b) = ((List.range 41).filter fun (p : Nat) => !(sumK (b ++ negAll a) (p : Int) == 0)).map fun (p : Nat) => (p : Int) := by
    have hpw : (((List.range 41).filter fun (p : Nat) => !(sumK (b ++ negAll a) (p : Int) == 0)).map fun (p : Nat) => (p : Int)).Pairwise (· < ·) := by
      rw [List.pairwise_map]
      exact (List.Pairwise.filter _ List.pairwise_lt_range).imp fun {a b} h => by omega
    have hnd : (((List.range 41).filter fun (p : Nat) => !(sumK (b ++ negAll a) (p : Int) == 0)).map fun (p : Nat) => (p : Int)).Nodup := hpw.imp fun {a b} h => by omega
    unfold keysS
    refine (mergeSort_of_perm_i ((List.perm_ext_iff_of_nodup hg.1 hnd).2 fun k => ?_)).trans ?_
    · rw [at_mem hg, hat, List.mem_map]
      constructor
      · intro h
        have hr : 0 ≤ k ∧ k ≤ 40 := by
          by_cases hr : 0 ≤ k ∧ k ≤ 40
          · exact hr
          · rw [sumP_out la hr, sumP_out lb hr] at h; exact absurd rfl h
        refine ⟨k.toNat, List.mem_filter.2 ⟨List.mem_range.2 (by omega), ?_⟩, by omega⟩
        rw [show ((k.toNat : Nat) : Int) = k by omega, hs k]
        simpa using h
      · rintro ⟨n, hn, rfl⟩
        have h2 := (List.mem_filter.1 hn).2
        rw [hs] at h2
        simpa using h2
    · exact List.mergeSort_of_pairwise (hpw.imp fun {a b} h => by simp; omega)
  unfold chgOf mrgR mrgTo
  rw [hkey, List.map_map]
  refine List.map_congr_left fun p _ => ?_
  simp only [Function.comp, hat, hs]
end Go.Proofs.YtpdemfamfmeemacGreatDoor.Zs
