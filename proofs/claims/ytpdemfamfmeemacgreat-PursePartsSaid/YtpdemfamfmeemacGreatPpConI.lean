/-
  Contracts of the reference: a number put into a list, the parcels of postings.
-/
import Derived.Test.YtpdemfamfmeemacGreatPpConC
import Derived.Test.YtpdemfamfmeemacGreatPpDataK
import Derived.Test.YtpdemfamfmeemacGreatPpConR
import Derived.KernelRfl
set_option linter.unusedSimpArgs false
set_option linter.unusedVariables false
namespace Go.Proofs.YtpdemfamfmeemacGreat.Zs
open Go
theorem zs_lsub (l : List Int) (k k' : IntKind) (a b : Int) : denLsub (rowsV (l.map fun n => [Value.int .i64 n])) (.int k a) (.int k' b) = some (rowsV (((l.take b.toNat).drop a.toNat).map fun n => [Value.int .i64 n])) := by
  simp only [rowsV, denLsub]
  congr 2
  apply Array.ext'
  simp [List.map_take, List.map_drop, List.extract_eq_take_drop, List.drop_take]
theorem zs_snoc (l : List Int) (n : Int) : denSnoc (rowsV (l.map fun n => [Value.int .i64 n])) [.int .i64 n] = some (rowsV ((l ++ [n]).map fun n => [Value.int .i64 n])) := by
  simp [denSnoc, rowsV]
theorem zs_snoc0 (n : Int) : denSnoc (.tuple #[]) [.int .i64 n] = some (rowsV ([n].map fun n => [Value.int .i64 n])) := zs_snoc [] n
theorem zs_cat (a b : List Int) : den2 .lcat (rowsV (a.map fun n => [Value.int .i64 n])) (rowsV (b.map fun n => [Value.int .i64 n])) = some (rowsV ((a ++ b).map fun n => [Value.int .i64 n])) := by
  simp [den2, rowsV]
theorem zs_cell (l : List Int) (k : IntKind) (i : Int) : denCell 0 (rowsV (l.map fun n => [Value.int .i64 n])) (.int k i) = (l[i.toNat]?).bind fun n => some (.int .i64 n) := by
  simp only [denCell, rowsV, List.getElem?_toArray, List.getElem?_map]
  cases l[i.toNat]? <;> rfl
theorem zs_len (l : List Int) : den1 .len (rowsV (l.map fun n => [Value.int .i64 n])) = some (.int .i64 l.length) := by simp [den1, rowsV]
theorem int_of_lt {ρ : Rho} {n : Nat} {b : Bool} (h : (X.op2 .lt (.var n) (.num 0)).bool ρ = some b) : ∃ k m, ρ.val n = some (.int k m) := by
  simp only [X.bool, X.den] at h
  cases hv : ρ.val n with
  | none => rw [hv] at h; cases h
  | some v =>
    rw [hv] at h
    cases v with
    | int k m => exact ⟨k, m, rfl⟩
    | _ => cases h
theorem at_take {m : List Int} {c : Int} {a : Nat} {x : Int} (hx : m[a - 1]? = some x) (ha : 0 < a) : atZ (m.take a) c = if c < x then atZ (m.take (a - 1)) c else a := by
  obtain ⟨b, rfl⟩ : ∃ b, a = b + 1 := ⟨a - 1, by omega⟩
  rw [Nat.add_sub_cancel] at hx ⊢
  obtain ⟨hb, rfl⟩ := List.getElem?_eq_some_iff.1 hx
  rw [List.take_add_one, hx, Option.toList_some, atZ_snoc, List.length_take, Nat.min_eq_left (by omega)]
noncomputable def bodyRunH (L : Env → CallE) (H : Env → LoopE) (d : Nat) (lp : Env → Code → AF → ASt → Option (List Out)) (c : Code) (E : Env) : AF → ASt → Option (List Out) :=
  acode E (evH E (L E) (H E) d).call (evH E (L E) (H E) d).round false (mkOthers E (evH E (L E) (H E) d) false none (lp E)) c
theorem bodyRunH_ok {E₀ : Env} (hE : E₀.Ok) {L : Env → CallE} {H : Env → LoopE} {d : Nat} {lp : Env → Code → AF → ASt → Option (List Out)} {c : Code} {F : List (X × Bool)} {r : Rho} (hL : CallsOk (E₀.with F r) (L (E₀.with F r))) (hH : LoopsOk (E₀.with F r) (H (E₀.with F r)))
    (hlp : ∀ c' ∈ loopsOf c, CodeOk (E₀.with F r) none (.loop c') (lp (E₀.with F r) c')) : CodeOk (E₀.with F r) none c (bodyRunH L H d lp c (E₀.with F r)) := by
  have hV := evH_ok (Env.with_ok hE F r) hL hH d
  exact acode_ok (Env.with_ok hE F r) hV.1 hV.2.1 (ro := none) c (mkOthers_ok (Env.with_ok hE F r) hV none none (lp (E₀.with F r)) c (fun _ h => by cases h)) hlp
def put_vs : List X := [.op1 .len (.var 101)]
def pcs_vs : List X := [.num 0]
noncomputable def lPut_D : LoopD := { N := 200, M := 201, size := sizeOfF 60, reads := [(0, .rows 8 ptgSch (.var 0) (.var 1) false 36), (110, .rows 1 [.int .i64] (.num 0) (.var 101) true 3)], pats := [{ slots := [(0, .slo 110 1 (.op1 .len (.var 101))), (1, .sint .i64 (.cell 4 (.var 1) (.var 100))), (5, .sint .i64 (.var 200))], heap := [] }], exits := [(.exit 0, { slots := [(0, .slo 110 1 (.op1 .len (.var 101))), (1, .sint .i64 (.cell 4 (.var 1) (.var 100))), (5, .sint .i64 (.app 62 [.var 101, .cell 4 (.var 1) (.var 100)]))], heap := [] })], own := [], pre := [(.app 72 [.var 101], true), (.op2 .lt (.num 2000) (.op1 .len (.var 101)), false), (.op2 .lt (.var 100) (.num 0), false), (.op2 .lt (.var 100) (.op1 .len (.var 1)), true)] }
noncomputable def lPut_run : Env → AF → ASt → Option (List Out) := bodyRun noL 6 (fun _ => noLoop) (loopAt Tryz.prog 60 0)
def lPut0_F : List (X × Bool) := [(.op2 .lt (.var 200) (.num 0), false), (.op2 .lt (.op1 .len (.var 101)) (.var 200), false), (.app 72 [.var 101], true), (.op2 .lt (.num 2000) (.op1 .len (.var 101)), false), (.op2 .lt (.var 100) (.num 0), false), (.op2 .lt (.var 100) (.op1 .len (.var 1)), true)]
def yPI_0 : X := .app 62 [(.var 101), (.cell 4 (.var 1) (.var 100))]
def yPI_1 : X := .op1 .len (.var 101)
def yPI_2 : X := .op1 (.wrap .i64) (.op2 .sub yPI_0 (.num 1))
def yPI_3 : X := .op2 .lcat (.snoc (.lsub (.var 101) (.num 0) yPI_0) [(.op1 (.kind .i64) (.cell 4 (.var 1) (.var 100)))]) (.lsub (.var 101) yPI_0 yPI_1)
def yPI_4 : X := .op2 .lt (.var 100) (.op1 .len (.var 1))
def yPI_5 : X := .op1 .len (.lsub (.var 101) (.num 0) yPI_0)
def yPI_6 : X := .op2 .lt (.var 100) (.num 0)
def yPI_7 : X := .op1 (.wrap .i64) (.op2 .sub (.var 200) (.num 1))
def yPI_8 : X := .op2 .lt (.num 2000) yPI_1
def yPI_9 : X := .op2 .eq (.cell 0 (.var 101) yPI_2) (.cell 4 (.var 1) (.var 100))
def yPI_10 : X := .op2 .lt (.num 1000000000) (.op2 .add yPI_5 (.num 1))
def yPI_11 : X := .app 72 [(.var 101)]
def yPI_12 : X := .op2 .lt (.num 0) yPI_0
def yPI_13 : X := .op2 .lt (.num 1000000000) yPI_5
def yPI_14 : X := .op2 .lt yPI_0 (.num 0)
def yPI_15 : X := .op2 .lt yPI_1 yPI_0
def yPI_16 : X := .op2 .lt (.num 1000000000) (.op1 .len yPI_3)
def yPI_17 : X := .op2 .lt yPI_2 (.num 0)
def yPI_18 : X := .op2 .lt yPI_2 yPI_1
def yPI_19 : X := .op1 (.wrap .i64) (.op2 .add (.var 100) (.num 1))
noncomputable def lPut0_t : FTree := (.fork (.op2 .lt (.num 0) (.var 200)) (.fork (.op2 .lt yPI_7 (.num 0)) .bad (.fork (.op2 .lt yPI_7 yPI_1) (.fork (.op2 .lt (.cell 4 (.var 1) (.var 100)) (.cell 0 (.var 101) yPI_7)) (.leaf [.again 0 []]) (.leaf [.leave 0 []])) .bad)) (.leaf [.leave 0 []]))
noncomputable def lPut0_l : List (List (X × Bool) × Option (List (Tgt × Pairs))) := [([(.op2 .lt yPI_7 (.num 0), true), (.op2 .lt (.num 0) (.var 200), true), (.op2 .lt (.var 200) (.num 0), false), (.op2 .lt yPI_1 (.var 200), false), (yPI_11, true), (yPI_8, false), (yPI_6, false), (yPI_4, true)], none),
  ([(.op2 .lt (.cell 4 (.var 1) (.var 100)) (.cell 0 (.var 101) yPI_7), true), (.op2 .lt yPI_7 yPI_1, true), (.op2 .lt yPI_7 (.num 0), false), (.op2 .lt (.num 0) (.var 200), true), (.op2 .lt (.var 200) (.num 0), false), (.op2 .lt yPI_1 (.var 200), false), (yPI_11, true), (yPI_8, false), (yPI_6, false), (yPI_4, true)], some [(.again 0 [], [(.var 200, yPI_7)])]),
  ([(.op2 .lt (.cell 4 (.var 1) (.var 100)) (.cell 0 (.var 101) yPI_7), false), (.op2 .lt yPI_7 yPI_1, true), (.op2 .lt yPI_7 (.num 0), false), (.op2 .lt (.num 0) (.var 200), true), (.op2 .lt (.var 200) (.num 0), false), (.op2 .lt yPI_1 (.var 200), false), (yPI_11, true), (yPI_8, false), (yPI_6, false), (yPI_4, true)], some [(.leave 0 [], [(yPI_0, .var 200)])]),
  ([(.op2 .lt yPI_7 yPI_1, false), (.op2 .lt yPI_7 (.num 0), false), (.op2 .lt (.num 0) (.var 200), true), (.op2 .lt (.var 200) (.num 0), false), (.op2 .lt yPI_1 (.var 200), false), (yPI_11, true), (yPI_8, false), (yPI_6, false), (yPI_4, true)], none),
  ([(.op2 .lt (.num 0) (.var 200), false), (.op2 .lt (.var 200) (.num 0), false), (.op2 .lt yPI_1 (.var 200), false), (yPI_11, true), (yPI_8, false), (yPI_6, false), (yPI_4, true)], some [(.leave 0 [], [(yPI_0, .var 200)])])]
theorem lPut0_w (r : Rho) : lPut_D.ways lPut_run E0 r 0 lPut0_F lPut0_t = some lPut0_l := by kernel_rfl
theorem lPut_ok : lPut_D.ok = true := by kernel_rfl
def lPut_Inv (m : List Int) (c : Int) (j : Nat) (vals : List Value) : Prop :=
  j = 0 ∧ ∃ a : Nat, a ≤ m.length ∧ vals = [.int .i64 (a : Int)] ∧ atZ m c = atZ (m.take a) c
def lPut_mu (_ : Nat) (vals : List Value) : Nat := (vI (vals.getD 0 default)).toNat
set_option maxHeartbeats 1000000 in
theorem lPut_step {ρ : Rho} {l : List Ptg} {m : List Int} {kk : IntKind} {n : Int} {p : Ptg} (h1 : ρ.val 1 = some (ptgsR l)) (h100 : ρ.val 100 = some (.int kk n)) (h101 : ρ.val 101 = some (rowsV (m.map fun n => [Value.int .i64 n]))) (hsy : ρ.sym = sy) (hn0 : 0 ≤ n) (hnl : n < l.length) (hp : l[n.toNat]? = some p) (hm : m.length ≤ 2000) (j : Nat) (vals : List Value) (hI : lPut_Inv m p.parcel j vals) :
    StepOk lPut_D lPut_run E0 ρ (lPut_Inv m p.parcel) lPut_mu j vals := by
  obtain ⟨rfl, a, ha, rfl, hat⟩ := hI
  have hN : lPut_D.N = 200 := rfl
  have v1 : (ρ.ext lPut_D.N [.int .i64 (a : Int)]).val 1 = some (ptgsR l) := by rw [ext_low _ _ _ _ (by rw [hN]; omega)]; exact h1
  have v100 : (ρ.ext lPut_D.N [.int .i64 (a : Int)]).val 100 = some (.int kk n) := by rw [ext_low _ _ _ _ (by rw [hN]; omega)]; exact h100
  have v101 : (ρ.ext lPut_D.N [.int .i64 (a : Int)]).val 101 = some (rowsV (m.map fun n => [Value.int .i64 n])) := by rw [ext_low _ _ _ _ (by rw [hN]; omega)]; exact h101
  have v200 : (ρ.ext lPut_D.N [.int .i64 (a : Int)]).val 200 = some (.int .i64 (a : Int)) := by rw [ext_high _ _ _ _ (by rw [hN]; omega)]; rfl
  have vs : (ρ.ext lPut_D.N [.int .i64 (a : Int)]).sym = sy := hsy
  have g1 : ¬ (m.length : Int) < a := by omega
  have g2 : ¬ (2000 : Int) < m.length := by omega
  have g3 : ¬ n < 0 := by omega
  have g4 : ¬ (a : Int) < 0 := by omega
  have hF : FactsIn (ρ.ext lPut_D.N [.int .i64 (a : Int)]) lPut0_F := by
    simp only [lPut0_F, FactsIn, X.bool, X.den, denL, dX, denSub, denIte, asB, dY, v1, v100, v101, v200, vs, sym5, sym6, sym20, sym59, sym62, sym72, zs_cell, zs_len, zs_lsub, zs_snoc, zs_snoc0, zs_cat, snoc_nil, g1, g2, g3, g4, hnl, decide_true, decide_false, and_true, and_self]
  suffices both : AsksL (ρ.ext lPut_D.N [.int .i64 (a : Int)]) (lPut0_t.asks lPut0_F) ∧ WaysOk lPut_D ρ (lPut_Inv m p.parcel) lPut_mu 0 [.int .i64 (a : Int)] lPut0_l from step_of_ways (lPut0_w _) hF both.1.ok both.2
  have hw : 0 < a → IntKind.i64.wrap ((a : Int) - 1) = ((a - 1 : Nat) : Int) := fun h => by rw [IntWalk.i64_in _ (by omega)]; omega
  have go : ∀ x, 0 < a → m[a - 1]? = some x → p.parcel < x → ∃ vals', (ρ.ext lPut_D.N vals').val 200 = some (.int .i64 ((a - 1 : Nat) : Int)) ∧ lPut_Inv m p.parcel 0 vals' ∧ lPut_mu 0 vals' < lPut_mu 0 [.int .i64 (a : Int)] := by
    intro x h0 hx hc
    refine ⟨[.int .i64 ((a - 1 : Nat) : Int)], ?_, ⟨rfl, a - 1, by omega, rfl, ?_⟩, ?_⟩
    · rw [ext_high _ _ _ _ (by rw [hN]; omega)]; rfl
    · rw [hat, at_take hx h0, if_pos hc]
    · simp [lPut_mu, vI]; omega
  by_cases h0 : 0 < a
  · have hx : m[a - 1]? = some (m[a - 1]) := List.getElem?_eq_getElem (by omega)
    generalize m[a - 1] = x at hx
    have h0i : (0 : Int) < a := by omega
    have hfin : ¬ p.parcel < x → atZ m p.parcel = a := fun h => by rw [hat, at_take hx h0, if_neg h]
    have hlt : ((a - 1 : Nat) : Int) < m.length := by omega
    have hge : ¬ ((a - 1 : Nat) : Int) < 0 := by omega
    refine ⟨?_, ?_⟩
    · simp only [lPut0_t, yPI_19, yPI_18, yPI_17, yPI_16, yPI_15, yPI_14, yPI_13, yPI_12, yPI_11, yPI_10, yPI_9, yPI_8, yPI_7, yPI_6, yPI_5, yPI_4, yPI_3, yPI_2, yPI_1, yPI_0, lPut0_F, AsksL, GTree.asks, FTree.asks, FactsIn, List.append_nil, List.nil_append, List.cons_append, Option.some.injEq, exists_eq', implies_true, and_self, X.bool, X.den, denL, dX, denSub, denIte, asB, dY, v1, v100, v101, v200, vs, sym5, sym6, sym20, sym59, sym62, sym72, zs_cell, zs_len, zs_lsub, zs_snoc, zs_snoc0, zs_cat, snoc_nil, hp, Option.bind_some, ptg0, ptg1, ptg2, ptg3, ptg4, ptg5, ptg6, ptg7, hw h0, Int.toNat_natCast, hx, h0i, hlt, hge]
      try simp
    · simp only [lPut0_l, yPI_19, yPI_18, yPI_17, yPI_16, yPI_15, yPI_14, yPI_13, yPI_12, yPI_11, yPI_10, yPI_9, yPI_8, yPI_7, yPI_6, yPI_5, yPI_4, yPI_3, yPI_2, yPI_1, yPI_0, EndsOk, WaysOk, forall_cons, forall_nil, TgtOk, gpair, FactsIn, hold_cons, hold_nil, Option.some.injEq, dZ, X.bool, X.den, denL, dX, denSub, denIte, asB, dY, beq_iff_eq, beq_eq_false_iff_ne, ne_eq, v1, v100, v101, v200, vs, h1, h100, h101, hsy, sym5, sym6, sym20, sym59, sym62, sym72, zs_cell, zs_len, zs_lsub, zs_snoc, zs_snoc0, zs_cat, snoc_nil, hp, Option.bind_some, ptg0, ptg1, ptg2, ptg3, ptg4, ptg5, ptg6, ptg7, hw h0, Int.toNat_natCast, hx, h0i, hlt, hge]
      clear v1 v100 v101 v200 vs h1 h100 h101 hsy hF
      (repeat' apply And.intro) <;> intros <;> first
        | trivial
        | contradiction
        | (exfalso; omega)
        | (exact go x h0 hx (by assumption))
        | (rw [hfin (by assumption)]; done)
        | (simp [hfin (by assumption)]; done)
        | (simp_all; done)
  · obtain rfl : a = 0 := by omega
    have hz : atZ m p.parcel = 0 := by rw [hat]; rfl
    refine ⟨?_, ?_⟩
    · simp only [lPut0_t, yPI_19, yPI_18, yPI_17, yPI_16, yPI_15, yPI_14, yPI_13, yPI_12, yPI_11, yPI_10, yPI_9, yPI_8, yPI_7, yPI_6, yPI_5, yPI_4, yPI_3, yPI_2, yPI_1, yPI_0, lPut0_F, AsksL, GTree.asks, FTree.asks, FactsIn, List.append_nil, List.nil_append, List.cons_append, Option.some.injEq, exists_eq', implies_true, and_self, X.bool, X.den, denL, dX, denSub, denIte, asB, dY, v1, v100, v101, v200, vs, sym5, sym6, sym20, sym59, sym62, sym72, zs_cell, zs_len, zs_lsub, zs_snoc, zs_snoc0, zs_cat, snoc_nil, hp, Option.bind_some, ptg0, ptg1, ptg2, ptg3, ptg4, ptg5, ptg6, ptg7]
      try simp
    · simp only [lPut0_l, yPI_19, yPI_18, yPI_17, yPI_16, yPI_15, yPI_14, yPI_13, yPI_12, yPI_11, yPI_10, yPI_9, yPI_8, yPI_7, yPI_6, yPI_5, yPI_4, yPI_3, yPI_2, yPI_1, yPI_0, EndsOk, WaysOk, forall_cons, forall_nil, TgtOk, gpair, FactsIn, hold_cons, hold_nil, Option.some.injEq, dZ, X.bool, X.den, denL, dX, denSub, denIte, asB, dY, beq_iff_eq, beq_eq_false_iff_ne, ne_eq, v1, v100, v101, v200, vs, h1, h100, h101, hsy, sym5, sym6, sym20, sym59, sym62, sym72, zs_cell, zs_len, zs_lsub, zs_snoc, zs_snoc0, zs_cat, snoc_nil, hp, Option.bind_some, ptg0, ptg1, ptg2, ptg3, ptg4, ptg5, ptg6, ptg7, hz]
      try simp
theorem lPut_H {r : Rho} {l : List Ptg} (h1 : r.val 1 = some (ptgsR l)) (hsy : r.sym = sy) (F : List (X × Bool)) :
    LoopsOk (E0.with F r) (oneH 60 (hooks [(2, lPut_D.hook (E0.with F r).facts put_vs)])) := by
  refine loops_all (n := 1) (fun f fn h => h) (by kernel_rfl) fun i hi => ?_
  obtain rfl : i = 0 := by omega
  rw [hooks_hit (show keyOf (loopAt (E0.with F r).P 60 0) = 2 by kernel_rfl)]
  let mOf : List Int := match r.val 101 with | some (.tuple a) => (rowsOf a).map keyZ | _ => []
  let cOf : Int := match r.val 100 with | some (.int _ n) => ((l[n.toNat]?).map Ptg.parcel).getD 0 | _ => 0
  refine hook_ok (E₀ := E0) (run := lPut_run) (ρ := r) (Inv := lPut_Inv mOf cOf) (μ := lPut_mu) E0_ok lPut_ok (fun F r' h => ?_) (fun hq => ?_)
  · exact bodyRun_ok E0_ok (noL_ok F (h.trans hsy)) fun _ _ => noLoop_ok
  · have q1 := hq.1
    have q2 := hq.2.1
    have q3 := hq.2.2.1
    have q4 := hq.2.2.2.1
    obtain ⟨kk, n, h100⟩ := int_of_lt q3
    obtain ⟨m, h101⟩ : ∃ m : List Int, r.val 101 = some (rowsV (m.map fun n => [Value.int .i64 n])) := by
      simp only [X.bool, X.den, denL, hsy] at q1
      cases hv : r.val 101 with
      | none => rw [hv] at q1; cases q1
      | some v =>
        rw [hv] at q1
        have q1 : (match sy 72 [v] with | some (.bool b) => some b | _ => none) = some true := q1
        have : sy 72 [v] = some (.bool true) := by
          split at q1
          · rename_i b e
            rw [e]; rw [Option.some.inj q1]
          · cases q1
        obtain ⟨m, rfl⟩ := ints_at this
        exact ⟨m, rfl⟩
    simp only [X.bool, X.den, denL, dX, denSub, denIte, asB, dY, h1, h100, h101, zs_cell, zs_len, zs_lsub, zs_snoc, zs_snoc0, zs_cat, snoc_nil, Option.some.injEq, Value.bool.injEq, decide_eq_false_iff_not, decide_eq_true_eq] at q2 q3 q4
    have hp : l[n.toNat]? = some l[n.toNat] := List.getElem?_eq_getElem (by omega)
    generalize l[n.toNat] = p at hp
    have e1 : mOf = m := by
      show (match r.val 101 with | some (.tuple a) => (rowsOf a).map keyZ | _ => []) = m
      rw [h101]
      show (rowsOf _).map keyZ = m
      rw [rowsOf_V, keyZ_ints]
    have e2 : cOf = p.parcel := by
      show (match r.val 100 with | some (.int _ n) => ((l[n.toNat]?).map Ptg.parcel).getD 0 | _ => 0) = p.parcel
      rw [h100]
      show ((l[n.toNat]?).map Ptg.parcel).getD 0 = _
      rw [hp]; rfl
    rw [e1, e2]
    refine ⟨lPut_step h1 h100 h101 hsy (by omega) (by omega) hp (by omega), [.int .i64 (m.length : Int)], ?_, rfl, m.length, Nat.le_refl _, rfl, by rw [List.take_length]⟩
    simp only [put_vs, X.bool, X.den, denL, dX, denSub, denIte, asB, dY, h101, zs_cell, zs_len, zs_lsub, zs_snoc, zs_snoc0, zs_cat, snoc_nil]
noncomputable def rPut0_con : Con := { f := 60, args := [.nils, .one (.int .i64 3)], N := 1, M := 2, pre := [], out := .slo 1 1 (.num 1), news := [(1, .rows 1 [.int .i64] (.num 0) (.snoc .nil [.op1 (.kind .i64) (.var 3)]) true 3)] }
noncomputable def rPut0_call : Env → CallL := fun E => acallAll E (evH E (noL E) ((fun _ => noLoops) E) 6)
noncomputable def rPut0_t : GTree := (.leaf [[(1, 3)]])
noncomputable def rPut0_l : List (List (X × Bool) × Option Pairs) := [([], some [(.snoc .nil [.op1 (.kind .i64) (.var 3)], .snoc .nil [.op1 (.kind .i64) (.var 3)])])]
theorem rPut0_w (r : Rho) : rPut0_con.fn.ways rPut0_call E0 r rPut0_con.pre rPut0_t = some rPut0_l := by kernel_rfl
theorem rPut0_cok : rPut0_con.Ok Tryz.prog sy := by
  intro r σ w us hsy hρ hpre hrel hins
  obtain ⟨u0, us, rfl, g0, hi⟩ := ins_cons hins
  obtain ⟨u1, us, rfl, g1, hi⟩ := ins_cons hi
  obtain ⟨c, k3, rfl, h3⟩ := one_int g1
  rw [hρ] at h3
  refine con_of (E := E0) E0_ok E0_glob (sy := sy) (fun F => noL_ok F hsy) (fun F => noH_ok) (rPut0_w r) hρ hpre hrel hins ?_ ?_
  · simp only [rPut0_con, rPut0_t, yPI_19, yPI_18, yPI_17, yPI_16, yPI_15, yPI_14, yPI_13, yPI_12, yPI_11, yPI_10, yPI_9, yPI_8, yPI_7, yPI_6, yPI_5, yPI_4, yPI_3, yPI_2, yPI_1, yPI_0, AsksL, GTree.asks, FTree.asks, FactsIn, List.append_nil, List.nil_append, List.cons_append, Option.some.injEq, exists_eq', implies_true, and_self, X.bool, X.den, denL, dX, denSub, denIte, asB, dY, h3, hsy, zs_cell, zs_len, zs_lsub, zs_snoc, zs_snoc0, zs_cat, snoc_nil]
    try simp
  · simp only [rPut0_l, yPI_19, yPI_18, yPI_17, yPI_16, yPI_15, yPI_14, yPI_13, yPI_12, yPI_11, yPI_10, yPI_9, yPI_8, yPI_7, yPI_6, yPI_5, yPI_4, yPI_3, yPI_2, yPI_1, yPI_0, EndsOk, WaysOk, forall_cons, forall_nil, TgtOk, gpair, FactsIn, hold_cons, hold_nil, Option.some.injEq, dZ, X.bool, X.den, denL, dX, denSub, denIte, asB, dY, h3, hsy, zs_cell, zs_len, zs_lsub, zs_snoc, zs_snoc0, zs_cat, snoc_nil]
    try simp
noncomputable def LPT : Env → CallE := libs [cLib rPut0_con]
theorem LPT_ok (F : List (X × Bool)) {r : Rho} (h : r.sym = sy) : CallsOk (E0.with F r) (LPT (E0.with F r)) := libs_ok fun c hc => by
  simp only [List.mem_cons, List.not_mem_nil, or_false] at hc
  subst hc; exact lib_ok (E := E0) rPut0_cok F h
noncomputable def lPcs_D : LoopD := { N := 100, M := 111, size := sizeOfF 33, reads := [(0, .rows 8 ptgSch (.var 0) (.var 1) false 36)], pats := [{ slots := [(0, .slx 0 8 (.var 0) (.num 0) (.op1 .len (.var 1)) (.var 2)), (3, .nilslice), (4, .sint .i64 (.var 100))], heap := [] }, { slots := [(0, .slx 0 8 (.var 0) (.num 0) (.op1 .len (.var 1)) (.var 2)), (3, .slo 110 1 (.op1 .len (.var 101))), (4, .sint .i64 (.var 100))], heap := [(110, .rows 1 [.int .i64] (.num 0) (.var 101) true 3)] }], exits := [(.exit 0, { slots := [(3, .nilslice)], heap := [], guard := .op2 .eq (.op1 .len (.var 1)) (.num 0) }), (.exit 0, { slots := [(3, .slo 110 1 (.op1 .len (.app 59 [.var 1])))], heap := [(110, .rows 1 [.int .i64] (.num 0) (.app 59 [.var 1]) true 3)], guard := .op1 .not (.op2 .eq (.op1 .len (.var 1)) (.num 0)) })], own := [], pre := [(.app 20 [.var 1], true)] }
noncomputable def lPcs_run : Env → AF → ASt → Option (List Out) := bodyRunH LPT (fun E => oneH 60 (hooks [(2, lPut_D.hook E.facts put_vs)])) 9 (fun _ => noLoop) (loopAt Tryz.prog 33 0)
def lPcs0_F : List (X × Bool) := [(.op2 .lt (.var 100) (.num 0), false)]
def lPcs1_F : List (X × Bool) := [(.app 72 [.var 101], true), (.op2 .lt (.num 2000) (.op1 .len (.var 101)), false), (.op2 .lt (.var 100) (.num 0), false)]
noncomputable def lPcs0_t : FTree := (.fork yPI_4 (.leaf [.again 1 [(110, 111)]]) (.leaf [.leave 0 []]))
noncomputable def lPcs0_l : List (List (X × Bool) × Option (List (Tgt × Pairs))) := [([(yPI_4, true), (yPI_6, false)], some [(.again 1 [(110, 111)], [(yPI_1, .num 1), (.var 100, yPI_19), (.var 101, .snoc .nil [.op1 (.kind .i64) (.cell 4 (.var 1) (.var 100))])])]),
  ([(yPI_4, false), (yPI_6, false)], some [(.leave 0 [], [(.op2 .eq (.op1 .len (.var 1)) (.num 0), .boo true)])])]
theorem lPcs0_w (r : Rho) : lPcs_D.ways lPcs_run E0 r 0 lPcs0_F lPcs0_t = some lPcs0_l := by kernel_rfl
noncomputable def lPcs1_t : FTree := (.fork yPI_4 (.fork yPI_12 (.fork yPI_17 .bad (.fork yPI_18 (.fork yPI_9 (.leaf [.again 1 [(110, 110)]]) (.fork yPI_14 .bad (.fork yPI_15 .bad (.fork yPI_13 .bad (.fork yPI_10 .bad (.fork (.op2 .lt yPI_1 yPI_1) .bad (.fork yPI_16 .bad (.leaf [.again 1 [(110, 205)]])))))))) .bad)) (.fork yPI_14 .bad (.fork yPI_15 .bad (.fork yPI_13 .bad (.fork yPI_10 .bad (.fork (.op2 .lt yPI_1 yPI_1) .bad (.fork yPI_16 .bad (.leaf [.again 1 [(110, 205)]])))))))) (.leaf [.leave 1 [(110, 110)]]))
noncomputable def lPcs1_l : List (List (X × Bool) × Option (List (Tgt × Pairs))) := [([(yPI_17, true), (yPI_12, true), (yPI_4, true), (yPI_11, true), (yPI_8, false), (yPI_6, false)], none),
  ([(yPI_9, true), (yPI_18, true), (yPI_17, false), (yPI_12, true), (yPI_4, true), (yPI_11, true), (yPI_8, false), (yPI_6, false)], some [(.again 1 [(110, 110)], [(yPI_1, yPI_1), (.var 100, yPI_19), (.var 101, .var 101)])]),
  ([(yPI_14, true), (yPI_9, false), (yPI_18, true), (yPI_17, false), (yPI_12, true), (yPI_4, true), (yPI_11, true), (yPI_8, false), (yPI_6, false)], none),
  ([(yPI_15, true), (yPI_14, false), (yPI_9, false), (yPI_18, true), (yPI_17, false), (yPI_12, true), (yPI_4, true), (yPI_11, true), (yPI_8, false), (yPI_6, false)], none),
  ([(yPI_13, true), (yPI_15, false), (yPI_14, false), (yPI_9, false), (yPI_18, true), (yPI_17, false), (yPI_12, true), (yPI_4, true), (yPI_11, true), (yPI_8, false), (yPI_6, false)], none),
  ([(yPI_10, true), (yPI_13, false), (yPI_15, false), (yPI_14, false), (yPI_9, false), (yPI_18, true), (yPI_17, false), (yPI_12, true), (yPI_4, true), (yPI_11, true), (yPI_8, false), (yPI_6, false)], none),
  ([(.op2 .lt yPI_1 yPI_1, true), (yPI_10, false), (yPI_13, false), (yPI_15, false), (yPI_14, false), (yPI_9, false), (yPI_18, true), (yPI_17, false), (yPI_12, true), (yPI_4, true), (yPI_11, true), (yPI_8, false), (yPI_6, false)], none),
  ([(yPI_16, true), (.op2 .lt yPI_1 yPI_1, false), (yPI_10, false), (yPI_13, false), (yPI_15, false), (yPI_14, false), (yPI_9, false), (yPI_18, true), (yPI_17, false), (yPI_12, true), (yPI_4, true), (yPI_11, true), (yPI_8, false), (yPI_6, false)], none),
  ([(yPI_16, false), (.op2 .lt yPI_1 yPI_1, false), (yPI_10, false), (yPI_13, false), (yPI_15, false), (yPI_14, false), (yPI_9, false), (yPI_18, true), (yPI_17, false), (yPI_12, true), (yPI_4, true), (yPI_11, true), (yPI_8, false), (yPI_6, false)], some [(.again 1 [(110, 205)], [(yPI_1, .op1 .len yPI_3), (.var 100, yPI_19), (.var 101, yPI_3)])]),
  ([(yPI_18, false), (yPI_17, false), (yPI_12, true), (yPI_4, true), (yPI_11, true), (yPI_8, false), (yPI_6, false)], none),
  ([(yPI_14, true), (yPI_12, false), (yPI_4, true), (yPI_11, true), (yPI_8, false), (yPI_6, false)], none),
  ([(yPI_15, true), (yPI_14, false), (yPI_12, false), (yPI_4, true), (yPI_11, true), (yPI_8, false), (yPI_6, false)], none),
  ([(yPI_13, true), (yPI_15, false), (yPI_14, false), (yPI_12, false), (yPI_4, true), (yPI_11, true), (yPI_8, false), (yPI_6, false)], none),
  ([(yPI_10, true), (yPI_13, false), (yPI_15, false), (yPI_14, false), (yPI_12, false), (yPI_4, true), (yPI_11, true), (yPI_8, false), (yPI_6, false)], none),
  ([(.op2 .lt yPI_1 yPI_1, true), (yPI_10, false), (yPI_13, false), (yPI_15, false), (yPI_14, false), (yPI_12, false), (yPI_4, true), (yPI_11, true), (yPI_8, false), (yPI_6, false)], none),
  ([(yPI_16, true), (.op2 .lt yPI_1 yPI_1, false), (yPI_10, false), (yPI_13, false), (yPI_15, false), (yPI_14, false), (yPI_12, false), (yPI_4, true), (yPI_11, true), (yPI_8, false), (yPI_6, false)], none),
  ([(yPI_16, false), (.op2 .lt yPI_1 yPI_1, false), (yPI_10, false), (yPI_13, false), (yPI_15, false), (yPI_14, false), (yPI_12, false), (yPI_4, true), (yPI_11, true), (yPI_8, false), (yPI_6, false)], some [(.again 1 [(110, 205)], [(yPI_1, .op1 .len yPI_3), (.var 100, yPI_19), (.var 101, yPI_3)])]),
  ([(yPI_4, false), (yPI_11, true), (yPI_8, false), (yPI_6, false)], some [(.leave 1 [(110, 110)], [(.op1 .len (.app 59 [.var 1]), yPI_1), (.app 59 [.var 1], .var 101), (.op1 .not (.op2 .eq (.op1 .len (.var 1)) (.num 0)), .boo true)])])]
theorem lPcs1_w (r : Rho) : lPcs_D.ways lPcs_run E0 r 1 lPcs1_F lPcs1_t = some lPcs1_l := by kernel_rfl
theorem lPcs_ok : lPcs_D.ok = true := by kernel_rfl
def lPcs_Inv (l : List Ptg) (j : Nat) (vals : List Value) : Prop :=
  ∃ i : Nat, i ≤ l.length ∧ ((j = 0 ∧ vals = [.int .i64 (i : Int)] ∧ i = 0) ∨ (j = 1 ∧ vals = [.int .i64 (i : Int), rowsV ((parcZ (l.take i)).map fun n => [Value.int .i64 n])] ∧ 0 < i))
def lPcs_mu (l : List Ptg) (_ : Nat) (vals : List Value) : Nat := l.length - (vI (vals.getD 0 default)).toNat
set_option maxHeartbeats 2000000 in
theorem lPcs_step0 {ρ : Rho} {l : List Ptg} (h1 : ρ.val 1 = some (ptgsR l)) (hsy : ρ.sym = sy) (hmax : (l.length : Int) ≤ 1010) {i : Nat} (hi : i ≤ l.length) (h0 : i = 0) :
    StepOk lPcs_D lPcs_run E0 ρ (lPcs_Inv l) (lPcs_mu l) 0 [.int .i64 (i : Int)] := by
  have hN : lPcs_D.N = 100 := rfl
  have v1 : (ρ.ext lPcs_D.N [.int .i64 (i : Int)]).val 1 = some (ptgsR l) := by rw [ext_low _ _ _ _ (by rw [hN]; omega)]; exact h1
  have v100 : (ρ.ext lPcs_D.N [.int .i64 (i : Int)]).val 100 = some (.int .i64 (i : Int)) := by rw [ext_high _ _ _ _ (by rw [hN]; omega)]; rfl
  have vs : (ρ.ext lPcs_D.N [.int .i64 (i : Int)]).sym = sy := hsy
  have hlen := parcZ_le (l.take i)
  have hti : (l.take i).length = i := by simp; omega
  have g2 : ¬ (2000 : Int) < (parcZ (l.take i)).length := by omega
  have g3 : ¬ (i : Int) < 0 := by omega
  have hF : FactsIn (ρ.ext lPcs_D.N [.int .i64 (i : Int)]) lPcs0_F := by
    simp only [lPcs0_F, FactsIn, X.bool, X.den, denL, dX, denSub, denIte, asB, dY, v1, v100, vs, sym5, sym6, sym20, sym59, sym62, sym72, zs_cell, zs_len, zs_lsub, zs_snoc, zs_snoc0, zs_cat, snoc_nil, g2, g3, decide_true, decide_false, and_true, and_self]
  suffices both : AsksL (ρ.ext lPcs_D.N [.int .i64 (i : Int)]) (lPcs0_t.asks lPcs0_F) ∧ WaysOk lPcs_D ρ (lPcs_Inv l) (lPcs_mu l) 0 [.int .i64 (i : Int)] lPcs0_l from step_of_ways (lPcs0_w _) hF both.1.ok both.2
  cases hp : l[i]? with
  | none =>
    have hge := List.getElem?_eq_none_iff.1 hp
    have hge' : ¬ (i : Int) < l.length := by omega
    have hl : l.take i = l := List.take_of_length_le hge
    have hle : i = l.length := by omega
    refine ⟨?_, ?_⟩
    · simp only [lPcs0_t, yPI_19, yPI_18, yPI_17, yPI_16, yPI_15, yPI_14, yPI_13, yPI_12, yPI_11, yPI_10, yPI_9, yPI_8, yPI_7, yPI_6, yPI_5, yPI_4, yPI_3, yPI_2, yPI_1, yPI_0, lPcs0_F, AsksL, GTree.asks, FTree.asks, FactsIn, List.append_nil, List.nil_append, List.cons_append, Option.some.injEq, exists_eq', implies_true, and_self, X.bool, X.den, denL, dX, denSub, denIte, asB, dY, v1, v100, vs, sym5, sym6, sym20, sym59, sym62, sym72, zs_cell, zs_len, zs_lsub, zs_snoc, zs_snoc0, zs_cat, snoc_nil, Int.toNat_natCast, hp, hge']
      try simp
    · simp only [lPcs0_l, yPI_19, yPI_18, yPI_17, yPI_16, yPI_15, yPI_14, yPI_13, yPI_12, yPI_11, yPI_10, yPI_9, yPI_8, yPI_7, yPI_6, yPI_5, yPI_4, yPI_3, yPI_2, yPI_1, yPI_0, EndsOk, WaysOk, forall_cons, forall_nil, TgtOk, gpair, FactsIn, hold_cons, hold_nil, Option.some.injEq, dZ, X.bool, X.den, denL, dX, denSub, denIte, asB, dY, beq_iff_eq, beq_eq_false_iff_ne, ne_eq, v1, v100, vs, h1, hsy, sym5, sym6, sym20, sym59, sym62, sym72, zs_cell, zs_len, zs_lsub, zs_snoc, zs_snoc0, zs_cat, snoc_nil, intRows, Int.toNat_natCast, hp, hge']
      try rw [hl]
      simp
      first
        | (exact List.eq_nil_of_length_eq_zero (by omega))
        | (intro _ e; rw [e] at hle; simp at hle; omega)
        | (intro e; rw [e] at hle; simp at hle; omega)
        | omega
  | some p =>
    have hlt : i < l.length := (List.getElem?_eq_some_iff.1 hp).1
    have hlt1 : (i : Int) < l.length := by omega
    have hw : IntKind.i64.wrap ((i : Int) + 1) = ((i + 1 : Nat) : Int) := by rw [IntWalk.i64_in _ (by omega)]; rfl
    have hnext : parcZ (l.take (i + 1)) = putZ (parcZ (l.take i)) p.parcel := by
      rw [List.take_add_one, hp]; exact parcZ_snoc _ p
    have go : ∀ R : List Int, R = putZ (parcZ (l.take i)) p.parcel → ∃ vals', ((match (ρ.ext lPcs_D.N vals').val 101 with | some v => den1 .len v | none => none) = some (.int .i64 (R.length : Int)) ∧ (ρ.ext lPcs_D.N vals').val 100 = some (.int .i64 ((i + 1 : Nat) : Int)) ∧ (ρ.ext lPcs_D.N vals').val 101 = some (rowsV (R.map fun n => [Value.int .i64 n]))) ∧ lPcs_Inv l 1 vals' ∧ lPcs_mu l 1 vals' < lPcs_mu l 0 [.int .i64 (i : Int)] := by
      rintro R rfl
      have e101 : (ρ.ext lPcs_D.N [.int .i64 ((i + 1 : Nat) : Int), rowsV ((parcZ (l.take (i + 1))).map fun n => [Value.int .i64 n])]).val 101 = some (rowsV ((parcZ (l.take (i + 1))).map fun n => [Value.int .i64 n])) := by rw [ext_high _ _ _ _ (by rw [hN]; omega)]; rfl
      refine ⟨[.int .i64 ((i + 1 : Nat) : Int), rowsV ((parcZ (l.take (i + 1))).map fun n => [Value.int .i64 n])], ⟨?_, ?_, ?_⟩, ⟨i + 1, by omega, .inr ⟨rfl, rfl, by omega⟩⟩, by simp [lPcs_mu, vI]; omega⟩
      · rw [e101, ← hnext]; exact zs_len _
      · rw [ext_high _ _ _ _ (by rw [hN]; omega)]; rfl
      · rw [e101, ← hnext]
    subst h0
    have e0 : putZ (parcZ (l.take 0)) p.parcel = [p.parcel] := rfl
    refine ⟨?_, ?_⟩
    · simp only [lPcs0_t, yPI_19, yPI_18, yPI_17, yPI_16, yPI_15, yPI_14, yPI_13, yPI_12, yPI_11, yPI_10, yPI_9, yPI_8, yPI_7, yPI_6, yPI_5, yPI_4, yPI_3, yPI_2, yPI_1, yPI_0, lPcs0_F, AsksL, GTree.asks, FTree.asks, FactsIn, List.append_nil, List.nil_append, List.cons_append, Option.some.injEq, exists_eq', implies_true, and_self, X.bool, X.den, denL, dX, denSub, denIte, asB, dY, v1, v100, vs, sym5, sym6, sym20, sym59, sym62, sym72, zs_cell, zs_len, zs_lsub, zs_snoc, zs_snoc0, zs_cat, snoc_nil, Int.toNat_natCast, hp, Option.bind_some, ptg0, ptg1, ptg2, ptg3, ptg4, ptg5, ptg6, ptg7]
      try simp
    · simp only [lPcs0_l, yPI_19, yPI_18, yPI_17, yPI_16, yPI_15, yPI_14, yPI_13, yPI_12, yPI_11, yPI_10, yPI_9, yPI_8, yPI_7, yPI_6, yPI_5, yPI_4, yPI_3, yPI_2, yPI_1, yPI_0, EndsOk, WaysOk, forall_cons, forall_nil, TgtOk, gpair, FactsIn, hold_cons, hold_nil, Option.some.injEq, dZ, X.bool, X.den, denL, dX, denSub, denIte, asB, dY, beq_iff_eq, beq_eq_false_iff_ne, ne_eq, v1, v100, vs, h1, hsy, sym5, sym6, sym20, sym59, sym62, sym72, zs_cell, zs_len, zs_lsub, zs_snoc, zs_snoc0, zs_cat, snoc_nil, Int.toNat_natCast, hp, Option.bind_some, ptg0, ptg1, ptg2, ptg3, ptg4, ptg5, ptg6, ptg7, hlt1, hw]
      clear v1 v100 vs h1 hsy hp hF hnext
      (repeat' apply And.intro) <;> intros <;> first
        | trivial
        | (exfalso; omega)
        | (exact go [p.parcel] e0)
set_option maxHeartbeats 2000000 in
theorem lPcs_step1 {ρ : Rho} {l : List Ptg} (h1 : ρ.val 1 = some (ptgsR l)) (hsy : ρ.sym = sy) (hmax : (l.length : Int) ≤ 1010) {i : Nat} (hi : i ≤ l.length) (h0 : 0 < i) :
    StepOk lPcs_D lPcs_run E0 ρ (lPcs_Inv l) (lPcs_mu l) 1 [.int .i64 (i : Int), rowsV ((parcZ (l.take i)).map fun n => [Value.int .i64 n])] := by
  have hN : lPcs_D.N = 100 := rfl
  have v1 : (ρ.ext lPcs_D.N [.int .i64 (i : Int), rowsV ((parcZ (l.take i)).map fun n => [Value.int .i64 n])]).val 1 = some (ptgsR l) := by rw [ext_low _ _ _ _ (by rw [hN]; omega)]; exact h1
  have v100 : (ρ.ext lPcs_D.N [.int .i64 (i : Int), rowsV ((parcZ (l.take i)).map fun n => [Value.int .i64 n])]).val 100 = some (.int .i64 (i : Int)) := by rw [ext_high _ _ _ _ (by rw [hN]; omega)]; rfl
  have v101 : (ρ.ext lPcs_D.N [.int .i64 (i : Int), rowsV ((parcZ (l.take i)).map fun n => [Value.int .i64 n])]).val 101 = some (rowsV ((parcZ (l.take i)).map fun n => [Value.int .i64 n])) := by rw [ext_high _ _ _ _ (by rw [hN]; omega)]; rfl
  have vs : (ρ.ext lPcs_D.N [.int .i64 (i : Int), rowsV ((parcZ (l.take i)).map fun n => [Value.int .i64 n])]).sym = sy := hsy
  have hlen := parcZ_le (l.take i)
  have hti : (l.take i).length = i := by simp; omega
  have g2 : ¬ (2000 : Int) < (parcZ (l.take i)).length := by omega
  have g3 : ¬ (i : Int) < 0 := by omega
  have hF : FactsIn (ρ.ext lPcs_D.N [.int .i64 (i : Int), rowsV ((parcZ (l.take i)).map fun n => [Value.int .i64 n])]) lPcs1_F := by
    simp only [lPcs1_F, FactsIn, X.bool, X.den, denL, dX, denSub, denIte, asB, dY, v1, v100, v101, vs, sym5, sym6, sym20, sym59, sym62, sym72, zs_cell, zs_len, zs_lsub, zs_snoc, zs_snoc0, zs_cat, snoc_nil, g2, g3, decide_true, decide_false, and_true, and_self]
  suffices both : AsksL (ρ.ext lPcs_D.N [.int .i64 (i : Int), rowsV ((parcZ (l.take i)).map fun n => [Value.int .i64 n])]) (lPcs1_t.asks lPcs1_F) ∧ WaysOk lPcs_D ρ (lPcs_Inv l) (lPcs_mu l) 1 [.int .i64 (i : Int), rowsV ((parcZ (l.take i)).map fun n => [Value.int .i64 n])] lPcs1_l from step_of_ways (lPcs1_w _) hF both.1.ok both.2
  cases hp : l[i]? with
  | none =>
    have hge := List.getElem?_eq_none_iff.1 hp
    have hge' : ¬ (i : Int) < l.length := by omega
    have hl : l.take i = l := List.take_of_length_le hge
    have hle : i = l.length := by omega
    refine ⟨?_, ?_⟩
    · simp only [lPcs1_t, yPI_19, yPI_18, yPI_17, yPI_16, yPI_15, yPI_14, yPI_13, yPI_12, yPI_11, yPI_10, yPI_9, yPI_8, yPI_7, yPI_6, yPI_5, yPI_4, yPI_3, yPI_2, yPI_1, yPI_0, lPcs1_F, AsksL, GTree.asks, FTree.asks, FactsIn, List.append_nil, List.nil_append, List.cons_append, Option.some.injEq, exists_eq', implies_true, and_self, X.bool, X.den, denL, dX, denSub, denIte, asB, dY, v1, v100, v101, vs, sym5, sym6, sym20, sym59, sym62, sym72, zs_cell, zs_len, zs_lsub, zs_snoc, zs_snoc0, zs_cat, snoc_nil, Int.toNat_natCast, hp, hge']
      try simp
    · simp only [lPcs1_l, yPI_19, yPI_18, yPI_17, yPI_16, yPI_15, yPI_14, yPI_13, yPI_12, yPI_11, yPI_10, yPI_9, yPI_8, yPI_7, yPI_6, yPI_5, yPI_4, yPI_3, yPI_2, yPI_1, yPI_0, EndsOk, WaysOk, forall_cons, forall_nil, TgtOk, gpair, FactsIn, hold_cons, hold_nil, Option.some.injEq, dZ, X.bool, X.den, denL, dX, denSub, denIte, asB, dY, beq_iff_eq, beq_eq_false_iff_ne, ne_eq, v1, v100, v101, vs, h1, hsy, sym5, sym6, sym20, sym59, sym62, sym72, zs_cell, zs_len, zs_lsub, zs_snoc, zs_snoc0, zs_cat, snoc_nil, intRows, Int.toNat_natCast, hp, hge']
      try rw [hl]
      simp
      first
        | (exact List.eq_nil_of_length_eq_zero (by omega))
        | (intro _ e; rw [e] at hle; simp at hle; omega)
        | (intro e; rw [e] at hle; simp at hle; omega)
        | omega
  | some p =>
    have hlt : i < l.length := (List.getElem?_eq_some_iff.1 hp).1
    have hlt1 : (i : Int) < l.length := by omega
    have hw : IntKind.i64.wrap ((i : Int) + 1) = ((i + 1 : Nat) : Int) := by rw [IntWalk.i64_in _ (by omega)]; rfl
    have hnext : parcZ (l.take (i + 1)) = putZ (parcZ (l.take i)) p.parcel := by
      rw [List.take_add_one, hp]; exact parcZ_snoc _ p
    have go : ∀ R : List Int, R = putZ (parcZ (l.take i)) p.parcel → ∃ vals', ((match (ρ.ext lPcs_D.N vals').val 101 with | some v => den1 .len v | none => none) = some (.int .i64 (R.length : Int)) ∧ (ρ.ext lPcs_D.N vals').val 100 = some (.int .i64 ((i + 1 : Nat) : Int)) ∧ (ρ.ext lPcs_D.N vals').val 101 = some (rowsV (R.map fun n => [Value.int .i64 n]))) ∧ lPcs_Inv l 1 vals' ∧ lPcs_mu l 1 vals' < lPcs_mu l 1 [.int .i64 (i : Int), rowsV ((parcZ (l.take i)).map fun n => [Value.int .i64 n])] := by
      rintro R rfl
      have e101 : (ρ.ext lPcs_D.N [.int .i64 ((i + 1 : Nat) : Int), rowsV ((parcZ (l.take (i + 1))).map fun n => [Value.int .i64 n])]).val 101 = some (rowsV ((parcZ (l.take (i + 1))).map fun n => [Value.int .i64 n])) := by rw [ext_high _ _ _ _ (by rw [hN]; omega)]; rfl
      refine ⟨[.int .i64 ((i + 1 : Nat) : Int), rowsV ((parcZ (l.take (i + 1))).map fun n => [Value.int .i64 n])], ⟨?_, ?_, ?_⟩, ⟨i + 1, by omega, .inr ⟨rfl, rfl, by omega⟩⟩, by simp [lPcs_mu, vI]; omega⟩
      · rw [e101, ← hnext]; exact zs_len _
      · rw [ext_high _ _ _ _ (by rw [hN]; omega)]; rfl
      · rw [e101, ← hnext]
    generalize hm : (parcZ (l.take i)) = m at *
    clear hm
    have ha := atZ_le m p.parcel
    have hw1 : 0 < atZ m p.parcel → IntKind.i64.wrap ((atZ m p.parcel : Int) - 1) = ((atZ m p.parcel - 1 : Nat) : Int) := fun h => by rw [IntWalk.i64_in _ (by omega)]; omega
    have gl : ((List.take (atZ m p.parcel) m).length : Int) ≤ m.length := by simp; omega
    have g5 : ¬ (1000000000 : Int) < ((List.take (atZ m p.parcel) m).length : Int) := by omega
    have g6 : ¬ (1000000000 : Int) < ((List.take (atZ m p.parcel) m).length : Int) + 1 := by omega
    have g7 : ¬ (1000000000 : Int) < ((List.take (atZ m p.parcel) m ++ [p.parcel] ++ List.drop (atZ m p.parcel) m).length : Int) := by simp; omega
    have g8 : ¬ (m.length : Int) < (atZ m p.parcel : Int) := by omega
    have g9 : ¬ (atZ m p.parcel : Int) < 0 := by omega
    by_cases h0a : 0 < atZ m p.parcel
    · have hx : m[atZ m p.parcel - 1]? = some (m[atZ m p.parcel - 1]) := List.getElem?_eq_getElem (by omega)
      generalize m[atZ m p.parcel - 1] = x at hx
      have h0i : (0 : Int) < (atZ m p.parcel : Int) := by omega
      have hl1 : ((atZ m p.parcel - 1 : Nat) : Int) < m.length := by omega
      have hl0 : ¬ ((atZ m p.parcel - 1 : Nat) : Int) < 0 := by omega
      have ePut : ¬ x = p.parcel → List.take (atZ m p.parcel) m ++ [p.parcel] ++ List.drop (atZ m p.parcel) m = putZ m p.parcel := fun hc => by
        unfold putZ; rw [hx]; simp [h0a, hc]
      have eSame : x = p.parcel → m = putZ m p.parcel := fun hc => by
        unfold putZ; rw [hx]; simp [h0a, hc]
      refine ⟨?_, ?_⟩
      · simp only [lPcs1_t, yPI_19, yPI_18, yPI_17, yPI_16, yPI_15, yPI_14, yPI_13, yPI_12, yPI_11, yPI_10, yPI_9, yPI_8, yPI_7, yPI_6, yPI_5, yPI_4, yPI_3, yPI_2, yPI_1, yPI_0, lPcs1_F, AsksL, GTree.asks, FTree.asks, FactsIn, List.append_nil, List.nil_append, List.cons_append, Option.some.injEq, exists_eq', implies_true, and_self, X.bool, X.den, denL, dX, denSub, denIte, asB, dY, v1, v100, v101, vs, sym5, sym6, sym20, sym59, sym62, sym72, zs_cell, zs_len, zs_lsub, zs_snoc, zs_snoc0, zs_cat, snoc_nil, Int.toNat_natCast, Int.toNat_zero, List.drop_zero, List.take_length, hp, Option.bind_some, ptg0, ptg1, ptg2, ptg3, ptg4, ptg5, ptg6, ptg7, hw1 h0a, hx]
        try simp
      · simp only [lPcs1_l, yPI_19, yPI_18, yPI_17, yPI_16, yPI_15, yPI_14, yPI_13, yPI_12, yPI_11, yPI_10, yPI_9, yPI_8, yPI_7, yPI_6, yPI_5, yPI_4, yPI_3, yPI_2, yPI_1, yPI_0, EndsOk, WaysOk, forall_cons, forall_nil, TgtOk, gpair, FactsIn, hold_cons, hold_nil, Option.some.injEq, dZ, X.bool, X.den, denL, dX, denSub, denIte, asB, dY, beq_iff_eq, beq_eq_false_iff_ne, ne_eq, v1, v100, v101, vs, h1, hsy, sym5, sym6, sym20, sym59, sym62, sym72, zs_cell, zs_len, zs_lsub, zs_snoc, zs_snoc0, zs_cat, snoc_nil, Int.toNat_natCast, Int.toNat_zero, List.drop_zero, List.take_length, hp, Option.bind_some, ptg0, ptg1, ptg2, ptg3, ptg4, ptg5, ptg6, ptg7, hlt1, hw, hw1 h0a, hx, h0i, hl1, hl0, g5, g6, g7, g8, g9]
        clear v1 v100 v101 vs h1 hsy hp hF hnext
        (repeat' apply And.intro) <;> intros <;> first
          | trivial
          | contradiction
          | (exfalso; omega)
          | (exact go _ (eSame (by assumption)))
          | (exact go _ (ePut (by assumption)))
          | (exact go _ (eSame (by omega)))
          | (exact go _ (ePut (by omega)))
          | (simp_all; done)
    · have hz : atZ m p.parcel = 0 := by omega
      have h0i : ¬ (0 : Int) < (atZ m p.parcel : Int) := by omega
      have ePut : List.take (atZ m p.parcel) m ++ [p.parcel] ++ List.drop (atZ m p.parcel) m = putZ m p.parcel := by
        unfold putZ; simp [hz]
      refine ⟨?_, ?_⟩
      · simp only [lPcs1_t, yPI_19, yPI_18, yPI_17, yPI_16, yPI_15, yPI_14, yPI_13, yPI_12, yPI_11, yPI_10, yPI_9, yPI_8, yPI_7, yPI_6, yPI_5, yPI_4, yPI_3, yPI_2, yPI_1, yPI_0, lPcs1_F, AsksL, GTree.asks, FTree.asks, FactsIn, List.append_nil, List.nil_append, List.cons_append, Option.some.injEq, exists_eq', implies_true, and_self, X.bool, X.den, denL, dX, denSub, denIte, asB, dY, v1, v100, v101, vs, sym5, sym6, sym20, sym59, sym62, sym72, zs_cell, zs_len, zs_lsub, zs_snoc, zs_snoc0, zs_cat, snoc_nil, Int.toNat_natCast, Int.toNat_zero, List.drop_zero, List.take_length, hp, Option.bind_some, ptg0, ptg1, ptg2, ptg3, ptg4, ptg5, ptg6, ptg7, h0i]
        try simp
      · simp only [lPcs1_l, yPI_19, yPI_18, yPI_17, yPI_16, yPI_15, yPI_14, yPI_13, yPI_12, yPI_11, yPI_10, yPI_9, yPI_8, yPI_7, yPI_6, yPI_5, yPI_4, yPI_3, yPI_2, yPI_1, yPI_0, EndsOk, WaysOk, forall_cons, forall_nil, TgtOk, gpair, FactsIn, hold_cons, hold_nil, Option.some.injEq, dZ, X.bool, X.den, denL, dX, denSub, denIte, asB, dY, beq_iff_eq, beq_eq_false_iff_ne, ne_eq, v1, v100, v101, vs, h1, hsy, sym5, sym6, sym20, sym59, sym62, sym72, zs_cell, zs_len, zs_lsub, zs_snoc, zs_snoc0, zs_cat, snoc_nil, Int.toNat_natCast, Int.toNat_zero, List.drop_zero, List.take_length, hp, Option.bind_some, ptg0, ptg1, ptg2, ptg3, ptg4, ptg5, ptg6, ptg7, hlt1, hw, h0i, g5, g6, g7, g8, g9]
        clear v1 v100 v101 vs h1 hsy hp hF hnext
        (repeat' apply And.intro) <;> intros <;> first
          | trivial
          | contradiction
          | (exfalso; omega)
          | (exact go _ ePut)
          | (simp_all; done)
theorem lPcs_step {ρ : Rho} {l : List Ptg} (h1 : ρ.val 1 = some (ptgsR l)) (hsy : ρ.sym = sy) (hmax : (l.length : Int) ≤ 1010) (j : Nat) (vals : List Value) (hI : lPcs_Inv l j vals) :
    StepOk lPcs_D lPcs_run E0 ρ (lPcs_Inv l) (lPcs_mu l) j vals := by
  obtain ⟨i, hi, ⟨rfl, rfl, hn⟩ | ⟨rfl, rfl, hn⟩⟩ := hI
  · exact lPcs_step0 h1 hsy hmax hi hn
  · exact lPcs_step1 h1 hsy hmax hi hn
theorem lPcs_H {r : Rho} {l : List Ptg} (h1 : r.val 1 = some (ptgsR l)) (hmax : (l.length : Int) ≤ 1010) (hsy : r.sym = sy) (F : List (X × Bool)) :
    LoopsOk (E0.with F r) (oneH 33 (hooks [(3, lPcs_D.hook (E0.with F r).facts pcs_vs)])) := by
  refine loops_all (n := 1) (fun f fn h => h) (by kernel_rfl) fun i hi => ?_
  obtain rfl : i = 0 := by omega
  rw [hooks_hit (show keyOf (loopAt (E0.with F r).P 33 0) = 3 by kernel_rfl)]
  refine hook_in (E₀ := E0) (run := lPcs_run) (ρ := r) (Inv := lPcs_Inv l) (μ := lPcs_mu l) E0_ok lPcs_ok (fun F vals => ?_) (fun _ => ⟨lPcs_step h1 hsy hmax, [.int .i64 0], by simp only [pcs_vs, X.bool, X.den, denL, dX, denSub, denIte, asB, dY], 0, Nat.zero_le _, .inl ⟨rfl, rfl, rfl⟩⟩)
  have hN : lPcs_D.N = 100 := rfl
  exact bodyRunH_ok E0_ok (LPT_ok F (r := r.ext lPcs_D.N vals) hsy) (lPut_H (r := r.ext lPcs_D.N vals) (by rw [ext_low _ _ _ _ (by rw [hN]; omega)]; exact h1) hsy F) fun _ _ => noLoop_ok
noncomputable def rParN_con : Con := { f := 33, args := [ptgsArg 0 0], N := 1, M := 1, pre := [(.app 20 [.var 1], true), (.op2 .eq (.op1 .len (.var 1)) (.num 0), true)], out := .nilslice, news := [] }
noncomputable def rParN_call : Env → CallL := fun E => acallAll E (evH E (LPT E) ((fun E => oneH 33 (hooks [(3, lPcs_D.hook E.facts pcs_vs)])) E) 9)
noncomputable def rParN_t : GTree := (.leaf [[]])
noncomputable def rParN_l : List (List (X × Bool) × Option Pairs) := [([(.app 20 [.var 1], true), (.op2 .eq (.op1 .len (.var 1)) (.num 0), true)], some [])]
theorem rParN_w (r : Rho) : rParN_con.fn.ways rParN_call E0 r rParN_con.pre rParN_t = some rParN_l := by kernel_rfl
theorem rParN_cok : rParN_con.Ok Tryz.prog sy := by
  intro r σ w us hsy hρ hpre hrel hins
  obtain ⟨u0, us, rfl, g0, hi⟩ := ins_cons hins
  obtain ⟨l, h1⟩ := ptgs_at hrel (i := 0) rfl
  rw [hρ] at h1
  have h1 : r.val 1 = some (ptgsR l) := h1
  have hmax : (l.length : Int) ≤ 1010 := by
    have := hpre.1
    simp only [X.bool, X.den, denL, dX, denSub, denIte, asB, dY, h1, hsy, sym20, Option.some.injEq, Value.bool.injEq] at this
    exact short_len this
  refine con_of (E := E0) E0_ok E0_glob (sy := sy) (fun F => LPT_ok F hsy) (fun F => lPcs_H h1 hmax hsy F) (rParN_w r) hρ hpre hrel hins ?_ ?_
  · simp only [rParN_con, rParN_t, yPI_19, yPI_18, yPI_17, yPI_16, yPI_15, yPI_14, yPI_13, yPI_12, yPI_11, yPI_10, yPI_9, yPI_8, yPI_7, yPI_6, yPI_5, yPI_4, yPI_3, yPI_2, yPI_1, yPI_0, AsksL, GTree.asks, FTree.asks, FactsIn, List.append_nil, List.nil_append, List.cons_append, Option.some.injEq, exists_eq', implies_true, and_self, X.bool, X.den, denL, dX, denSub, denIte, asB, dY, h1, hsy, sym5, sym6, sym20, sym59, sym62, sym72, intRows, zs_cell, zs_len, zs_lsub, zs_snoc, zs_snoc0, zs_cat, snoc_nil]
    try simp
  · simp only [rParN_l, yPI_19, yPI_18, yPI_17, yPI_16, yPI_15, yPI_14, yPI_13, yPI_12, yPI_11, yPI_10, yPI_9, yPI_8, yPI_7, yPI_6, yPI_5, yPI_4, yPI_3, yPI_2, yPI_1, yPI_0, EndsOk, WaysOk, forall_cons, forall_nil, TgtOk, gpair, FactsIn, hold_cons, hold_nil, Option.some.injEq, dZ, X.bool, X.den, denL, dX, denSub, denIte, asB, dY, h1, hsy, sym5, sym6, sym20, sym59, sym62, sym72, intRows, zs_cell, zs_len, zs_lsub, zs_snoc, zs_snoc0, zs_cat, snoc_nil]
    try simp
noncomputable def rParY_con : Con := { f := 33, args := [ptgsArg 0 0], N := 1, M := 2, pre := [(.app 20 [.var 1], true), (.op2 .eq (.op1 .len (.var 1)) (.num 0), false)], out := .slo 1 1 (.op1 .len (.app 59 [.var 1])), news := [(1, .rows 1 [.int .i64] (.num 0) (.app 59 [.var 1]) true 3)] }
noncomputable def rParY_call : Env → CallL := fun E => acallAll E (evH E (LPT E) ((fun E => oneH 33 (hooks [(3, lPcs_D.hook E.facts pcs_vs)])) E) 9)
noncomputable def rParY_t : GTree := (.leaf [[(1, 110)]])
noncomputable def rParY_l : List (List (X × Bool) × Option Pairs) := [([(.app 20 [.var 1], true), (.op2 .eq (.op1 .len (.var 1)) (.num 0), false)], some [(.op1 .len (.app 59 [.var 1]), .op1 .len (.app 59 [.var 1])), (.app 59 [.var 1], .app 59 [.var 1])])]
theorem rParY_w (r : Rho) : rParY_con.fn.ways rParY_call E0 r rParY_con.pre rParY_t = some rParY_l := by kernel_rfl
theorem rParY_cok : rParY_con.Ok Tryz.prog sy := by
  intro r σ w us hsy hρ hpre hrel hins
  obtain ⟨u0, us, rfl, g0, hi⟩ := ins_cons hins
  obtain ⟨l, h1⟩ := ptgs_at hrel (i := 0) rfl
  rw [hρ] at h1
  have h1 : r.val 1 = some (ptgsR l) := h1
  have hmax : (l.length : Int) ≤ 1010 := by
    have := hpre.1
    simp only [X.bool, X.den, denL, dX, denSub, denIte, asB, dY, h1, hsy, sym20, Option.some.injEq, Value.bool.injEq] at this
    exact short_len this
  refine con_of (E := E0) E0_ok E0_glob (sy := sy) (fun F => LPT_ok F hsy) (fun F => lPcs_H h1 hmax hsy F) (rParY_w r) hρ hpre hrel hins ?_ ?_
  · simp only [rParY_con, rParY_t, yPI_19, yPI_18, yPI_17, yPI_16, yPI_15, yPI_14, yPI_13, yPI_12, yPI_11, yPI_10, yPI_9, yPI_8, yPI_7, yPI_6, yPI_5, yPI_4, yPI_3, yPI_2, yPI_1, yPI_0, AsksL, GTree.asks, FTree.asks, FactsIn, List.append_nil, List.nil_append, List.cons_append, Option.some.injEq, exists_eq', implies_true, and_self, X.bool, X.den, denL, dX, denSub, denIte, asB, dY, h1, hsy, sym5, sym6, sym20, sym59, sym62, sym72, intRows, zs_cell, zs_len, zs_lsub, zs_snoc, zs_snoc0, zs_cat, snoc_nil]
    try simp
  · simp only [rParY_l, yPI_19, yPI_18, yPI_17, yPI_16, yPI_15, yPI_14, yPI_13, yPI_12, yPI_11, yPI_10, yPI_9, yPI_8, yPI_7, yPI_6, yPI_5, yPI_4, yPI_3, yPI_2, yPI_1, yPI_0, EndsOk, WaysOk, forall_cons, forall_nil, TgtOk, gpair, FactsIn, hold_cons, hold_nil, Option.some.injEq, dZ, X.bool, X.den, denL, dX, denSub, denIte, asB, dY, h1, hsy, sym5, sym6, sym20, sym59, sym62, sym72, intRows, zs_cell, zs_len, zs_lsub, zs_snoc, zs_snoc0, zs_cat, snoc_nil]
    try simp
end Go.Proofs.YtpdemfamfmeemacGreat.Zs
