/-
  The same where one of two lists is nil.
-/
import Derived.Test.YtpdemfamfmeemacGreatDoorMeConC
import Derived.KernelRfl
set_option linter.unusedSimpArgs false
set_option linter.unusedVariables false
namespace Go.Proofs.YtpdemfamfmeemacGreatDoor.Zs
open Go
def chgv_vs : List X := [.num 0, .nil]
noncomputable def lSubLN_D : LoopD := { N := 100, M := 102, size := sizeOfF 8, reads := [(0, .rows 2 shrSch (.var 0) (.var 1) false 25)], pats := [{ slots := [(1, .nilslice), (9, .map 2), (27, .slx 0 2 (.var 0) (.num 0) (.op1 .len (.var 1)) (.var 2)), (28, .sint .i64 (.op1 .len (.var 1))), (29, .sint .i64 (.var 100))], heap := [(2, .smap false [.int .i64] false [.int .i64] (.var 101))] }], exits := [(.exit 2, { slots := [(1, .nilslice), (9, .map 2)], heap := [(2, .smap false [.int .i64] false [.int .i64] (.app 118 [.var 1]))] })], own := [2], pre := [(.op2 .eq (.app 110 [.var 1]) (.num 0), true)] }
noncomputable def lSubLN_run : Env → AF → ASt → Option (List Out) := bodyRun LD 6 (fun _ => noLoop) (loopAt Tryz.prog 8 1)
def lSubLN0_F : List (X × Bool) := [(.op2 .lt (.var 100) (.num 0), false)]
def yEV_0 : X := .op2 (.mput 1) (.var 101) (.snoc .nil [(.op1 (.kind .i64) (.cell 0 (.var 1) (.var 100))), (.op1 (.kind .i64) (.op1 (.wrap .i64) (.op2 .add (.op2 (.mat 1) (.var 101) (.snoc .nil [(.op1 (.kind .i64) (.cell 0 (.var 1) (.var 100)))])) (.op1 (.wrap .i64) (.op2 .sub (.num 0) (.cell 1 (.var 1) (.var 100)))))))])
def yEV_1 : X := .op1 (.kind .i64) (.cell 0 (.var 4) (.var 110))
def yEV_2 : X := .op2 (.mput 1) (.var 101) (.snoc .nil [(.op1 (.kind .i64) (.cell 0 (.var 1) (.var 100))), (.op1 (.kind .i64) (.op1 (.wrap .i64) (.op2 .add (.num 0) (.op1 (.wrap .i64) (.op2 .sub (.num 0) (.cell 1 (.var 1) (.var 100)))))))])
def yEV_3 : X := .op2 (.mput 1) (.var 111) (.snoc .nil [yEV_1, (.op1 (.kind .i64) (.op1 (.wrap .i64) (.op2 .add (.op2 (.mat 1) (.var 111) (.snoc .nil [yEV_1])) (.cell 1 (.var 4) (.var 110)))))])
def yEV_4 : X := .snoc .nil [(.op1 (.kind .i64) (.cell 0 (.var 1) (.var 100)))]
def yEV_5 : X := .op2 (.mput 1) (.var 111) (.snoc .nil [yEV_1, (.op1 (.kind .i64) (.op1 (.wrap .i64) (.op2 .add (.num 0) (.cell 1 (.var 4) (.var 110)))))])
def yEV_6 : X := .app 117 [(.var 4)]
def yEV_7 : X := .app 118 [(.var 1)]
def yEV_8 : X := .op2 .lt (.num 1000000000) (.op2 .add (.op1 .len (.var 121)) (.num 1))
def yEV_9 : X := .op1 (.kind .i64) (.cell 0 (.app 113 [yEV_7]) (.var 120))
def yEV_10 : X := .op1 (.kind .i64) (.cell 0 (.app 113 [yEV_6]) (.var 120))
def yEV_11 : X := .op2 .lt (.var 120) (.op1 .len (.app 113 [yEV_7]))
def yEV_12 : X := .op2 .lt (.var 120) (.op1 .len (.app 113 [yEV_6]))
def yEV_13 : X := .op2 .lt (.var 120) (.num 0)
def yEV_14 : X := .snoc .nil [yEV_1]
def yEV_15 : X := .op1 (.wrap .i64) (.op2 .add (.var 120) (.num 1))
def yEV_16 : X := .op2 .lt (.var 120) (.op1 .len yEV_7)
def yEV_17 : X := .op2 .lt (.var 120) (.op1 .len yEV_6)
def yEV_18 : X := .op2 .lt (.var 100) (.op1 .len (.var 1))
def yEV_19 : X := .op2 .lt (.var 110) (.op1 .len (.var 4))
def yEV_20 : X := .op2 .mhas yEV_6 (.snoc .nil [yEV_10])
def yEV_21 : X := .op2 .mhas yEV_7 (.snoc .nil [yEV_9])
def yEV_22 : X := .op1 (.wrap .i64) (.op2 .add (.var 100) (.num 1))
def yEV_23 : X := .op1 (.wrap .i64) (.op2 .add (.var 110) (.num 1))
def yEV_24 : X := .op2 .eq (.app 110 [(.var 1)]) (.num 0)
def yEV_25 : X := .op2 .eq (.app 110 [(.var 4)]) (.num 0)
def yEV_26 : X := .op1 .len (.var 121)
def yEV_27 : X := .op2 .lt (.num 1000000000) (.op1 .len yEV_7)
def yEV_28 : X := .op2 .lt (.num 1000000000) (.op1 .len yEV_6)
def yEV_29 : X := .op2 .eq (.op1 .len yEV_7) (.num 0)
def yEV_30 : X := .op2 .eq (.op1 .len yEV_6) (.num 0)
def yEV_31 : X := .op2 .lt (.var 100) (.num 0)
def yEV_32 : X := .op2 .mhas (.var 111) yEV_14
def yEV_33 : X := .op2 .lt (.var 110) (.num 0)
def yEV_34 : X := .op2 .mhas (.var 101) yEV_4
noncomputable def lSubLN0_t : FTree := (.fork yEV_18 (.fork yEV_34 (.fork (.op2 .mhas yEV_0 yEV_4) (.fork (.op2 .eq (.op2 (.mat 1) yEV_0 yEV_4) (.num 0)) (.leaf [.again 0 []]) (.leaf [.again 0 []])) (.leaf [.again 0 []])) (.fork (.op2 .mhas yEV_2 yEV_4) (.fork (.op2 .eq (.op2 (.mat 1) yEV_2 yEV_4) (.num 0)) (.leaf [.again 0 []]) (.leaf [.again 0 []])) (.leaf [.again 0 []]))) (.leaf [.leave 0 []]))
noncomputable def lSubLN0_l : List (List (X × Bool) × Option (List (Tgt × Pairs))) := [([(.op2 .eq (.op2 (.mat 1) yEV_0 yEV_4) (.num 0), true), (.op2 .mhas yEV_0 yEV_4, true), (yEV_34, true), (yEV_18, true), (yEV_31, false)], some [(.again 0 [], [(.var 100, yEV_22), (.var 101, .op2 .mdel yEV_0 yEV_4)])]),
  ([(.op2 .eq (.op2 (.mat 1) yEV_0 yEV_4) (.num 0), false), (.op2 .mhas yEV_0 yEV_4, true), (yEV_34, true), (yEV_18, true), (yEV_31, false)], some [(.again 0 [], [(.var 100, yEV_22), (.var 101, yEV_0)])]),
  ([(.op2 .mhas yEV_0 yEV_4, false), (yEV_34, true), (yEV_18, true), (yEV_31, false)], some [(.again 0 [], [(.var 100, yEV_22), (.var 101, .op2 .mdel yEV_0 yEV_4)])]),
  ([(.op2 .eq (.op2 (.mat 1) yEV_2 yEV_4) (.num 0), true), (.op2 .mhas yEV_2 yEV_4, true), (yEV_34, false), (yEV_18, true), (yEV_31, false)], some [(.again 0 [], [(.var 100, yEV_22), (.var 101, .op2 .mdel yEV_2 yEV_4)])]),
  ([(.op2 .eq (.op2 (.mat 1) yEV_2 yEV_4) (.num 0), false), (.op2 .mhas yEV_2 yEV_4, true), (yEV_34, false), (yEV_18, true), (yEV_31, false)], some [(.again 0 [], [(.var 100, yEV_22), (.var 101, yEV_2)])]),
  ([(.op2 .mhas yEV_2 yEV_4, false), (yEV_34, false), (yEV_18, true), (yEV_31, false)], some [(.again 0 [], [(.var 100, yEV_22), (.var 101, .op2 .mdel yEV_2 yEV_4)])]),
  ([(yEV_18, false), (yEV_31, false)], some [(.leave 0 [], [(yEV_7, .var 101)])])]
theorem lSubLN0_w (r : Rho) : lSubLN_D.ways lSubLN_run E0 r 0 lSubLN0_F lSubLN0_t = some lSubLN0_l := by kernel_rfl
theorem lSubLN_ok : lSubLN_D.ok = true := by kernel_rfl
def lSubLN_Inv (l : List Shr) (j : Nat) (vals : List Value) : Prop :=
  j = 0 ∧ ∃ i : Nat, i ≤ l.length ∧ vals = [.int .i64 i, shrsR (accA (l.take i))]
def lSubLN_mu (l : List Shr) (_ : Nat) (vals : List Value) : Nat := l.length - (vI (vals.getD 0 default)).toNat
set_option maxHeartbeats 1000000 in
theorem lSubLN_step {ρ : Rho} {l : List Shr} (hv : ρ.val 1 = some (shrsR l)) (hsy : ρ.sym = sy) (hca : chkS l = 0) (j : Nat) (vals : List Value) (hI : lSubLN_Inv l j vals) :
    StepOk lSubLN_D lSubLN_run E0 ρ (lSubLN_Inv l) (lSubLN_mu l) j vals := by
  obtain ⟨rfl, i, hi, rfl⟩ := hI
  have hN : lSubLN_D.N = 100 := rfl
  obtain ⟨hla, hga⟩ := (chkS_iff l).1 hca
  have v1 : (ρ.ext lSubLN_D.N [.int .i64 i, shrsR (accA (l.take i))]).val 1 = some (shrsR l) := by rw [ext_low _ _ _ _ (by rw [hN]; omega)]; exact hv
  have v100 : (ρ.ext lSubLN_D.N [.int .i64 i, shrsR (accA (l.take i))]).val 100 = some (.int .i64 i) := by rw [ext_high _ _ _ _ (by rw [hN]; omega)]; rfl
  have v101 : (ρ.ext lSubLN_D.N [.int .i64 i, shrsR (accA (l.take i))]).val 101 = some (shrsR (accA (l.take i))) := by rw [ext_high _ _ _ _ (by rw [hN]; omega)]; rfl
  have vs : (ρ.ext lSubLN_D.N [.int .i64 i, shrsR (accA (l.take i))]).sym = sy := hsy
  have hF : FactsIn (ρ.ext lSubLN_D.N [.int .i64 i, shrsR (accA (l.take i))]) lSubLN0_F := by
    simp only [lSubLN0_F, FactsIn, X.bool, X.den, denL, dX, denSub, denIte, asB, dY, v100, Option.some.injEq, Value.bool.injEq, decide_eq_false_iff_not, and_true]
    omega
  suffices both : AsksL (ρ.ext lSubLN_D.N [.int .i64 i, shrsR (accA (l.take i))]) (lSubLN0_t.asks lSubLN0_F) ∧ WaysOk lSubLN_D ρ (lSubLN_Inv l) (lSubLN_mu l) 0 [.int .i64 i, shrsR (accA (l.take i))] lSubLN0_l from step_of_ways (lSubLN0_w _) hF both.1.ok both.2
  have hacc : AccOk i (accA (l.take i)) := accA_ok hga i hi
  cases hp : l[i]? with
  | none =>
    have hge := List.getElem?_eq_none_iff.1 hp
    have hge' : ¬ (i : Int) < l.length := by omega
    have hl : l.take i = l := List.take_of_length_le hge
    refine ⟨?_, ?_⟩
    · simp only [lSubLN0_t, yEV_34, yEV_33, yEV_32, yEV_31, yEV_30, yEV_29, yEV_28, yEV_27, yEV_26, yEV_25, yEV_24, yEV_23, yEV_22, yEV_21, yEV_20, yEV_19, yEV_18, yEV_17, yEV_16, yEV_15, yEV_14, yEV_13, yEV_12, yEV_11, yEV_10, yEV_9, yEV_8, yEV_7, yEV_6, yEV_5, yEV_4, yEV_3, yEV_2, yEV_1, yEV_0, lSubLN0_F, AsksL, GTree.asks, FTree.asks, FactsIn, List.append_nil, List.nil_append, List.cons_append, Option.some.injEq, exists_eq', implies_true, and_self, X.bool, X.den, denL, dX, denSub, denIte, asB, dY, d_hasS, d_putS, d_delS, has_put, v1, v100, v101, vs, sym10, sym110, sym111, sym112, sym113, sym114, sym115, sym117, sym118, Int.toNat_natCast, hp, hge']
      try simp
    · simp only [lSubLN0_l, yEV_34, yEV_33, yEV_32, yEV_31, yEV_30, yEV_29, yEV_28, yEV_27, yEV_26, yEV_25, yEV_24, yEV_23, yEV_22, yEV_21, yEV_20, yEV_19, yEV_18, yEV_17, yEV_16, yEV_15, yEV_14, yEV_13, yEV_12, yEV_11, yEV_10, yEV_9, yEV_8, yEV_7, yEV_6, yEV_5, yEV_4, yEV_3, yEV_2, yEV_1, yEV_0, EndsOk, WaysOk, forall_cons, forall_nil, TgtOk, gpair, FactsIn, hold_cons, hold_nil, Option.some.injEq, dZ, X.bool, X.den, denL, dX, denSub, denIte, asB, dY, d_hasS, d_putS, d_delS, has_put, beq_iff_eq, beq_eq_false_iff_ne, ne_eq, v1, v100, v101, vs, hv, hsy, sym10, sym110, sym111, sym112, sym113, sym114, sym115, sym117, sym118, Int.toNat_natCast, hp, hge']
      simp [hl, accB_nil]
  | some p =>
    have hlt : i < l.length := (List.getElem?_eq_some_iff.1 hp).1
    have hlt1 : (i : Int) < l.length := by omega
    have hc := (chk1_iff p).1 (hga p (List.mem_of_getElem? hp))
    have hnext : accA (l.take (i + 1)) = addK (accA (l.take i)) p.party (-p.pence) := by
      rw [List.take_add_one, hp]; exact accA_snoc _ p
    have hw : IntKind.i64.wrap ((i : Int) + 1) = ((i + 1 : Nat) : Int) := by rw [IntWalk.i64_in _ (by omega)]; rfl
    generalize hm : accA (l.take i) = m at hacc hnext v1 v100 v101 vs hF ⊢
    have hat := acc_at hacc p.party
    have w1 : IntKind.i64.wrap (0 - p.pence) = -p.pence := by rw [IntWalk.i64_in _ (by omega)]; omega
    have w2 : IntKind.i64.wrap (atK m p.party + -p.pence) = atK m p.party + -p.pence := IntWalk.i64_in _ (by omega)
    have go : ∀ mm, mm = accA (l.take (i + 1)) → ∃ vals', ((ρ.ext lSubLN_D.N vals').val 100 = some (.int .i64 ((i + 1 : Nat) : Int)) ∧ (ρ.ext lSubLN_D.N vals').val 101 = some (shrsR mm)) ∧ lSubLN_Inv l 0 vals' ∧ lSubLN_mu l 0 vals' < lSubLN_mu l 0 [.int .i64 i, shrsR m] := by
      rintro mm rfl
      refine ⟨[.int .i64 ((i + 1 : Nat) : Int), shrsR (accA (l.take (i + 1)))], ⟨?_, ?_⟩, ⟨rfl, i + 1, by omega, rfl⟩, ?_⟩
      · rw [ext_high _ _ _ _ (by rw [hN]; omega)]; rfl
      · rw [ext_high _ _ _ _ (by rw [hN]; omega)]; rfl
      · simp [lSubLN_mu, vI]; omega
    have hz : atK m p.party + -p.pence = 0 → delK p.party (putK p.party (atK m p.party + -p.pence) m) = accA (l.take (i + 1)) := fun h => by rw [hnext]; unfold addK; rw [if_pos h]
    have hnz : ¬ atK m p.party + -p.pence = 0 → putK p.party (atK m p.party + -p.pence) m = accA (l.take (i + 1)) := fun h => by rw [hnext]; unfold addK; rw [if_neg h]
    have hgp : ∀ v, den2 (.mat 1) (shrsR (putK p.party v m)) (whosR [⟨p.party⟩]) = some (.int .i64 v) := fun v => by rw [d_atS, has_put, at_put]; rfl
    cases hh : hasK m p.party with
    | true =>
      have hgm : den2 (.mat 1) (shrsR m) (whosR [⟨p.party⟩]) = some (.int .i64 (atK m p.party)) := by rw [d_atS, hh]; rfl
      refine ⟨?_, ?_⟩
      all_goals (simp only [lSubLN0_t, yEV_34, yEV_33, yEV_32, yEV_31, yEV_30, yEV_29, yEV_28, yEV_27, yEV_26, yEV_25, yEV_24, yEV_23, yEV_22, yEV_21, yEV_20, yEV_19, yEV_18, yEV_17, yEV_16, yEV_15, yEV_14, yEV_13, yEV_12, yEV_11, yEV_10, yEV_9, yEV_8, yEV_7, yEV_6, yEV_5, yEV_4, yEV_3, yEV_2, yEV_1, yEV_0, lSubLN0_F, lSubLN0_l, AsksL, GTree.asks, FTree.asks, FactsIn, List.append_nil, List.nil_append, List.cons_append, Option.some.injEq, exists_eq', implies_true, and_self, X.bool, X.den, denL, dX, denSub, denIte, asB, dY, d_hasS, d_putS, d_delS, has_put, EndsOk, WaysOk, forall_cons, forall_nil, TgtOk, gpair, FactsIn, hold_cons, hold_nil, Option.some.injEq, dZ, X.bool, X.den, denL, dX, denSub, denIte, asB, dY, d_hasS, d_putS, d_delS, has_put, beq_iff_eq, beq_eq_false_iff_ne, ne_eq, v1, v100, v101, vs, hv, hsy, sym10, sym110, sym111, sym112, sym113, sym114, sym115, sym117, sym118, Int.toNat_natCast, hp, Option.bind_some, shr0, shr1, hlt1, hh, hgm, hgp, hw, w2, w1, reduceCtorEq, false_implies, implies_true, true_implies, and_self])
      all_goals (clear v1 v100 v101 vs hv hsy hp hF hgm hgp)
      all_goals ((repeat' apply And.intro) <;> intros <;> first
        | trivial
        | (exfalso; omega)
        | (exact absurd trivial (by assumption))
        | (exact go _ (hz (by assumption)))
        | (exact go _ (hnz (by assumption))))
    | false =>
      have h0 := at_none hh
      have w3 : IntKind.i64.wrap (0 + -p.pence) = -p.pence := by rw [IntWalk.i64_in _ (by omega)]; omega
      rw [h0, Int.zero_add] at hz hnz
      refine ⟨?_, ?_⟩
      all_goals (simp only [lSubLN0_t, yEV_34, yEV_33, yEV_32, yEV_31, yEV_30, yEV_29, yEV_28, yEV_27, yEV_26, yEV_25, yEV_24, yEV_23, yEV_22, yEV_21, yEV_20, yEV_19, yEV_18, yEV_17, yEV_16, yEV_15, yEV_14, yEV_13, yEV_12, yEV_11, yEV_10, yEV_9, yEV_8, yEV_7, yEV_6, yEV_5, yEV_4, yEV_3, yEV_2, yEV_1, yEV_0, lSubLN0_F, lSubLN0_l, AsksL, GTree.asks, FTree.asks, FactsIn, List.append_nil, List.nil_append, List.cons_append, Option.some.injEq, exists_eq', implies_true, and_self, X.bool, X.den, denL, dX, denSub, denIte, asB, dY, d_hasS, d_putS, d_delS, has_put, EndsOk, WaysOk, forall_cons, forall_nil, TgtOk, gpair, FactsIn, hold_cons, hold_nil, Option.some.injEq, dZ, X.bool, X.den, denL, dX, denSub, denIte, asB, dY, d_hasS, d_putS, d_delS, has_put, beq_iff_eq, beq_eq_false_iff_ne, ne_eq, v1, v100, v101, vs, hv, hsy, sym10, sym110, sym111, sym112, sym113, sym114, sym115, sym117, sym118, Int.toNat_natCast, hp, Option.bind_some, shr0, shr1, hlt1, hh, hgp, hw, w3, w1, reduceCtorEq, false_implies, implies_true, true_implies, and_self])
      all_goals (clear v1 v100 v101 vs hv hsy hp hF hgp)
      all_goals ((repeat' apply And.intro) <;> intros <;> first
        | trivial
        | (exfalso; omega)
        | (exact absurd trivial (by assumption))
        | (exact go _ (hz (by assumption)))
        | (exact go _ (hnz (by assumption))))
noncomputable def lShrLN_D : LoopD := { N := 120, M := 124, size := sizeOfF 27, reads := [(2, .smap false [.int .i64] false [.int .i64] (.app 118 [.var 1])), (103, .rows 1 [.int .i64] (.num 0) (.app 113 [.app 118 [.var 1]]) true 3)], pats := [{ slots := [(0, .map 2), (3, .nilslice), (8, .slo 103 1 (.op1 .len (.app 118 [.var 1]))), (9, .sint .i64 (.op1 .len (.app 118 [.var 1]))), (10, .sint .i64 (.var 120))], heap := [] }, { slots := [(0, .map 2), (3, .slo 122 2 (.op1 .len (.var 121))), (8, .slo 103 1 (.op1 .len (.app 118 [.var 1]))), (9, .sint .i64 (.op1 .len (.app 118 [.var 1]))), (10, .sint .i64 (.var 120))], heap := [(122, .rows 2 shrSch (.num 0) (.var 121) true 25)] }], exits := [(.exit 0, { slots := [(3, .slo 122 2 (.op1 .len (.app 115 [.app 118 [.var 1]])))], heap := [(122, .rows 2 shrSch (.num 0) (.app 115 [.app 118 [.var 1]]) true 25)] })], own := [], pre := [(.op2 .eq (.app 110 [.var 1]) (.num 0), true), (.op2 .eq (.op1 .len (.app 118 [.var 1])) (.num 0), false)] }
noncomputable def lShrLN_run : Env → AF → ASt → Option (List Out) := bodyRun LD 6 (fun _ => noLoop) (loopAt Tryz.prog 27 0)
def lShrLN0_F : List (X × Bool) := [(.op2 .lt (.var 120) (.num 0), false), (.op2 .lt (.var 120) (.op1 .len (.app 118 [.var 1])), true)]
def lShrLN1_F : List (X × Bool) := [(.op2 .lt (.var 120) (.num 0), false)]
noncomputable def lShrLN0_t : FTree := (.fork yEV_11 (.fork yEV_21 (.leaf [.again 1 [(122, 125)]]) (.leaf [.again 1 [(122, 125)]])) .bad)
noncomputable def lShrLN0_l : List (List (X × Bool) × Option (List (Tgt × Pairs))) := [([(yEV_21, true), (yEV_11, true), (yEV_13, false), (yEV_16, true)], some [(.again 1 [(122, 125)], [(yEV_26, .num 1), (.var 120, yEV_15), (.var 121, .snoc .nil [yEV_9, .op1 (.kind .i64) (.op2 (.mat 1) yEV_7 (.snoc .nil [yEV_9]))])])]),
  ([(yEV_21, false), (yEV_11, true), (yEV_13, false), (yEV_16, true)], some [(.again 1 [(122, 125)], [(yEV_26, .num 1), (.var 120, yEV_15), (.var 121, .snoc .nil [yEV_9, .op1 (.kind .i64) (.num 0)])])]),
  ([(yEV_11, false), (yEV_13, false), (yEV_16, true)], none)]
theorem lShrLN0_w (r : Rho) : lShrLN_D.ways lShrLN_run E0 r 0 lShrLN0_F lShrLN0_t = some lShrLN0_l := by kernel_rfl
noncomputable def lShrLN1_t : FTree := (.fork yEV_16 (.fork yEV_11 (.fork yEV_21 (.fork yEV_8 .bad (.leaf [.again 1 [(122, 125)]])) (.fork yEV_8 .bad (.leaf [.again 1 [(122, 125)]]))) .bad) (.leaf [.leave 0 [(122, 122)]]))
noncomputable def lShrLN1_l : List (List (X × Bool) × Option (List (Tgt × Pairs))) := [([(yEV_8, true), (yEV_21, true), (yEV_11, true), (yEV_16, true), (yEV_13, false)], none),
  ([(yEV_8, false), (yEV_21, true), (yEV_11, true), (yEV_16, true), (yEV_13, false)], some [(.again 1 [(122, 125)], [(yEV_26, .op2 .add yEV_26 (.num 1)), (.var 120, yEV_15), (.var 121, .snoc (.var 121) [yEV_9, .op1 (.kind .i64) (.op2 (.mat 1) yEV_7 (.snoc .nil [yEV_9]))])])]),
  ([(yEV_8, true), (yEV_21, false), (yEV_11, true), (yEV_16, true), (yEV_13, false)], none),
  ([(yEV_8, false), (yEV_21, false), (yEV_11, true), (yEV_16, true), (yEV_13, false)], some [(.again 1 [(122, 125)], [(yEV_26, .op2 .add yEV_26 (.num 1)), (.var 120, yEV_15), (.var 121, .snoc (.var 121) [yEV_9, .op1 (.kind .i64) (.num 0)])])]),
  ([(yEV_11, false), (yEV_16, true), (yEV_13, false)], none),
  ([(yEV_16, false), (yEV_13, false)], some [(.leave 0 [(122, 122)], [(.op1 .len (.app 115 [yEV_7]), yEV_26), (.app 115 [yEV_7], .var 121)])])]
theorem lShrLN1_w (r : Rho) : lShrLN_D.ways lShrLN_run E0 r 1 lShrLN1_F lShrLN1_t = some lShrLN1_l := by kernel_rfl
theorem lShrLN_ok : lShrLN_D.ok = true := by kernel_rfl
def lShrLN_Inv (m : List Shr) (j : Nat) (vals : List Value) : Prop :=
  ∃ i : Nat, i ≤ m.length ∧ ((j = 0 ∧ vals = [.int .i64 i] ∧ i = 0) ∨ (j = 1 ∧ vals = [.int .i64 i, shrsR ((chgOf m).take i)] ∧ i ≠ 0))
def lShrLN_mu (m : List Shr) (_ : Nat) (vals : List Value) : Nat := m.length - (vI (vals.getD 0 default)).toNat
set_option maxHeartbeats 1000000 in
theorem lShrLN_step0 {ρ : Rho} {l m : List Shr} (hv : ρ.val 1 = some (shrsR l)) (hsy : ρ.sym = sy) (hm : accB (accA l) ([] : List Shr) = m) (hne : m.length ≠ 0) (hmax : m.length ≤ 2000) {i : Nat} (hi : i ≤ m.length) (hi0 : i = 0) :
    StepOk lShrLN_D lShrLN_run E0 ρ (lShrLN_Inv m) (lShrLN_mu m) 0 [.int .i64 i] := by
  have hN : lShrLN_D.N = 120 := rfl
  have v1 : (ρ.ext lShrLN_D.N [.int .i64 i]).val 1 = some (shrsR l) := by rw [ext_low _ _ _ _ (by rw [hN]; omega)]; exact hv
  have v120 : (ρ.ext lShrLN_D.N [.int .i64 i]).val 120 = some (.int .i64 i) := by rw [ext_high _ _ _ _ (by rw [hN]; omega)]; rfl
  have vs : (ρ.ext lShrLN_D.N [.int .i64 i]).sym = sy := hsy
  have kl := keys_len m
  have hF : FactsIn (ρ.ext lShrLN_D.N [.int .i64 i]) lShrLN0_F := by
    simp only [lShrLN0_F, FactsIn, X.bool, X.den, denL, dX, denSub, denIte, asB, dY, v1, v120, vs, sym10, sym110, sym111, sym112, sym113, sym114, sym115, sym117, sym118, hm, Option.some.injEq, Value.bool.injEq, decide_eq_false_iff_not, decide_eq_true_eq, and_true]
    omega
  suffices both : AsksL (ρ.ext lShrLN_D.N [.int .i64 i]) (lShrLN0_t.asks lShrLN0_F) ∧ WaysOk lShrLN_D ρ (lShrLN_Inv m) (lShrLN_mu m) 0 [.int .i64 i] lShrLN0_l from step_of_ways (lShrLN0_w _) hF both.1.ok both.2
  cases hp : ((keysS m).map Who.mk)[i]? with
    | none =>
      have hge := List.getElem?_eq_none_iff.1 hp
      rw [keys_len] at hge
      exact absurd hge (by omega)
    | some k =>
      have hlt : i < m.length := by have := (List.getElem?_eq_some_iff.1 hp).1; omega
      have hlt1 : (i : Int) < m.length := by omega
      have hw : IntKind.i64.wrap ((i : Int) + 1) = ((i + 1 : Nat) : Int) := by rw [IntWalk.i64_in _ (by omega)]; rfl
      obtain ⟨hk, hc⟩ := keys_at hp
      have hh := keys_has hk
      have hgm : den2 (.mat 1) (shrsR m) (whosR [⟨k.n⟩]) = some (.int .i64 (atK m k.n)) := by rw [d_atS, hh]; rfl
      have hnext : (chgOf m).take (i + 1) = (chgOf m).take i ++ [⟨k.n, atK m k.n⟩] := by rw [List.take_add_one, hc]; rfl
      have hcl := chg_len m
      have hil : ((chgOf m).take i).length = i := by rw [List.length_take]; omega
      have go : ∃ vals', ((match (ρ.ext lShrLN_D.N vals').val 121 with | some v => den1 .len v | none => none) = some (.int .i64 (1)) ∧ (ρ.ext lShrLN_D.N vals').val 120 = some (.int .i64 ((i + 1 : Nat) : Int)) ∧ (ρ.ext lShrLN_D.N vals').val 121 = some (shrsR [⟨k.n, atK m k.n⟩])) ∧ lShrLN_Inv m 1 vals' ∧ lShrLN_mu m 1 vals' < lShrLN_mu m 0 [.int .i64 i] := by
        have e121 : (ρ.ext lShrLN_D.N [.int .i64 ((i + 1 : Nat) : Int), shrsR ((chgOf m).take (i + 1))]).val 121 = some (shrsR ((chgOf m).take (i + 1))) := by rw [ext_high _ _ _ _ (by rw [hN]; omega)]; rfl
        refine ⟨[.int .i64 ((i + 1 : Nat) : Int), shrsR ((chgOf m).take (i + 1))], ⟨?_, ?_, ?_⟩, ⟨i + 1, by omega, .inr ⟨rfl, rfl, by omega⟩⟩, by simp [lShrLN_mu, vI]; omega⟩
        · rw [e121]
          refine (shrs_len _).trans ?_
          rw [hnext, List.length_append]
          subst hi0; rfl
        · rw [ext_high _ _ _ _ (by rw [hN]; omega)]; rfl
        · rw [e121, hnext]; subst hi0; rfl
      refine ⟨?_, ?_⟩
      all_goals (simp only [lShrLN0_t, yEV_34, yEV_33, yEV_32, yEV_31, yEV_30, yEV_29, yEV_28, yEV_27, yEV_26, yEV_25, yEV_24, yEV_23, yEV_22, yEV_21, yEV_20, yEV_19, yEV_18, yEV_17, yEV_16, yEV_15, yEV_14, yEV_13, yEV_12, yEV_11, yEV_10, yEV_9, yEV_8, yEV_7, yEV_6, yEV_5, yEV_4, yEV_3, yEV_2, yEV_1, yEV_0, lShrLN0_F, lShrLN0_l, AsksL, GTree.asks, FTree.asks, FactsIn, List.append_nil, List.nil_append, List.cons_append, Option.some.injEq, exists_eq', implies_true, and_self, X.bool, X.den, denL, dX, denSub, denIte, asB, dY, d_hasS, d_putS, d_delS, has_put, EndsOk, WaysOk, forall_cons, forall_nil, TgtOk, gpair, FactsIn, hold_cons, hold_nil, Option.some.injEq, dZ, X.bool, X.den, denL, dX, denSub, denIte, asB, dY, d_hasS, d_putS, d_delS, has_put, beq_iff_eq, beq_eq_false_iff_ne, ne_eq, v1, v120, vs, hv, hsy, sym10, sym110, sym111, sym112, sym113, sym114, sym115, sym117, sym118, hm, kl, Int.toNat_natCast, hp, Option.bind_some, who0, hlt1, hh, hgm, hw, hil, reduceCtorEq, false_implies, implies_true, true_implies, and_self])
      all_goals (clear v1 v120 vs hv hsy hp hF hgm)
      all_goals ((repeat' apply And.intro) <;> intros <;> first
        | trivial
        | (exfalso; omega)
        | (exact absurd trivial (by assumption))
        | (exact go)
        | (rw [hil] at go; exact go))
set_option maxHeartbeats 1000000 in
theorem lShrLN_step1 {ρ : Rho} {l m : List Shr} (hv : ρ.val 1 = some (shrsR l)) (hsy : ρ.sym = sy) (hm : accB (accA l) ([] : List Shr) = m) (hne : m.length ≠ 0) (hmax : m.length ≤ 2000) {i : Nat} (hi : i ≤ m.length) (hi0 : i ≠ 0) :
    StepOk lShrLN_D lShrLN_run E0 ρ (lShrLN_Inv m) (lShrLN_mu m) 1 [.int .i64 i, shrsR ((chgOf m).take i)] := by
  have hN : lShrLN_D.N = 120 := rfl
  have v1 : (ρ.ext lShrLN_D.N [.int .i64 i, shrsR ((chgOf m).take i)]).val 1 = some (shrsR l) := by rw [ext_low _ _ _ _ (by rw [hN]; omega)]; exact hv
  have v120 : (ρ.ext lShrLN_D.N [.int .i64 i, shrsR ((chgOf m).take i)]).val 120 = some (.int .i64 i) := by rw [ext_high _ _ _ _ (by rw [hN]; omega)]; rfl
  have v121 : (ρ.ext lShrLN_D.N [.int .i64 i, shrsR ((chgOf m).take i)]).val 121 = some (shrsR ((chgOf m).take i)) := by rw [ext_high _ _ _ _ (by rw [hN]; omega)]; rfl
  have vs : (ρ.ext lShrLN_D.N [.int .i64 i, shrsR ((chgOf m).take i)]).sym = sy := hsy
  have kl := keys_len m
  have hF : FactsIn (ρ.ext lShrLN_D.N [.int .i64 i, shrsR ((chgOf m).take i)]) lShrLN1_F := by
    simp only [lShrLN1_F, FactsIn, X.bool, X.den, denL, dX, denSub, denIte, asB, dY, v1, v120, v121, vs, sym10, sym110, sym111, sym112, sym113, sym114, sym115, sym117, sym118, hm, Option.some.injEq, Value.bool.injEq, decide_eq_false_iff_not, decide_eq_true_eq, and_true]
    omega
  suffices both : AsksL (ρ.ext lShrLN_D.N [.int .i64 i, shrsR ((chgOf m).take i)]) (lShrLN1_t.asks lShrLN1_F) ∧ WaysOk lShrLN_D ρ (lShrLN_Inv m) (lShrLN_mu m) 1 [.int .i64 i, shrsR ((chgOf m).take i)] lShrLN1_l from step_of_ways (lShrLN1_w _) hF both.1.ok both.2
  cases hp : ((keysS m).map Who.mk)[i]? with
    | none =>
      have hge := List.getElem?_eq_none_iff.1 hp
      rw [keys_len] at hge
      have hge' : ¬ (i : Int) < m.length := by omega
      have hl : (chgOf m).take i = chgOf m := List.take_of_length_le (by rw [chg_len]; omega)
      refine ⟨?_, ?_⟩
      · simp only [lShrLN1_t, yEV_34, yEV_33, yEV_32, yEV_31, yEV_30, yEV_29, yEV_28, yEV_27, yEV_26, yEV_25, yEV_24, yEV_23, yEV_22, yEV_21, yEV_20, yEV_19, yEV_18, yEV_17, yEV_16, yEV_15, yEV_14, yEV_13, yEV_12, yEV_11, yEV_10, yEV_9, yEV_8, yEV_7, yEV_6, yEV_5, yEV_4, yEV_3, yEV_2, yEV_1, yEV_0, lShrLN1_F, AsksL, GTree.asks, FTree.asks, FactsIn, List.append_nil, List.nil_append, List.cons_append, Option.some.injEq, exists_eq', implies_true, and_self, X.bool, X.den, denL, dX, denSub, denIte, asB, dY, d_hasS, d_putS, d_delS, has_put, v1, v120, v121, vs, sym10, sym110, sym111, sym112, sym113, sym114, sym115, sym117, sym118, hm, kl, Int.toNat_natCast, hp, hge']
        try simp
      · simp only [lShrLN1_l, yEV_34, yEV_33, yEV_32, yEV_31, yEV_30, yEV_29, yEV_28, yEV_27, yEV_26, yEV_25, yEV_24, yEV_23, yEV_22, yEV_21, yEV_20, yEV_19, yEV_18, yEV_17, yEV_16, yEV_15, yEV_14, yEV_13, yEV_12, yEV_11, yEV_10, yEV_9, yEV_8, yEV_7, yEV_6, yEV_5, yEV_4, yEV_3, yEV_2, yEV_1, yEV_0, EndsOk, WaysOk, forall_cons, forall_nil, TgtOk, gpair, FactsIn, hold_cons, hold_nil, Option.some.injEq, dZ, X.bool, X.den, denL, dX, denSub, denIte, asB, dY, d_hasS, d_putS, d_delS, has_put, beq_iff_eq, beq_eq_false_iff_ne, ne_eq, v1, v120, v121, vs, hv, hsy, sym10, sym110, sym111, sym112, sym113, sym114, sym115, sym117, sym118, hm, kl, Int.toNat_natCast, hp, hge']
        simp [hl]
    | some k =>
      have hlt : i < m.length := by have := (List.getElem?_eq_some_iff.1 hp).1; omega
      have hlt1 : (i : Int) < m.length := by omega
      have hw : IntKind.i64.wrap ((i : Int) + 1) = ((i + 1 : Nat) : Int) := by rw [IntWalk.i64_in _ (by omega)]; rfl
      obtain ⟨hk, hc⟩ := keys_at hp
      have hh := keys_has hk
      have hgm : den2 (.mat 1) (shrsR m) (whosR [⟨k.n⟩]) = some (.int .i64 (atK m k.n)) := by rw [d_atS, hh]; rfl
      have hnext : (chgOf m).take (i + 1) = (chgOf m).take i ++ [⟨k.n, atK m k.n⟩] := by rw [List.take_add_one, hc]; rfl
      have hcl := chg_len m
      have hil : ((chgOf m).take i).length = i := by rw [List.length_take]; omega
      have go : ∃ vals', ((match (ρ.ext lShrLN_D.N vals').val 121 with | some v => den1 .len v | none => none) = some (.int .i64 ((((chgOf m).take i).length : Int) + 1)) ∧ (ρ.ext lShrLN_D.N vals').val 120 = some (.int .i64 ((i + 1 : Nat) : Int)) ∧ (ρ.ext lShrLN_D.N vals').val 121 = some (shrsR ((chgOf m).take i ++ [⟨k.n, atK m k.n⟩]))) ∧ lShrLN_Inv m 1 vals' ∧ lShrLN_mu m 1 vals' < lShrLN_mu m 1 [.int .i64 i, shrsR ((chgOf m).take i)] := by
        have e121 : (ρ.ext lShrLN_D.N [.int .i64 ((i + 1 : Nat) : Int), shrsR ((chgOf m).take (i + 1))]).val 121 = some (shrsR ((chgOf m).take (i + 1))) := by rw [ext_high _ _ _ _ (by rw [hN]; omega)]; rfl
        refine ⟨[.int .i64 ((i + 1 : Nat) : Int), shrsR ((chgOf m).take (i + 1))], ⟨?_, ?_, ?_⟩, ⟨i + 1, by omega, .inr ⟨rfl, rfl, by omega⟩⟩, by simp [lShrLN_mu, vI]; omega⟩
        · rw [e121]
          refine (shrs_len _).trans ?_
          rw [hnext, List.length_append]
          rfl
        · rw [ext_high _ _ _ _ (by rw [hN]; omega)]; rfl
        · rw [e121, hnext]
      refine ⟨?_, ?_⟩
      all_goals (simp only [lShrLN1_t, yEV_34, yEV_33, yEV_32, yEV_31, yEV_30, yEV_29, yEV_28, yEV_27, yEV_26, yEV_25, yEV_24, yEV_23, yEV_22, yEV_21, yEV_20, yEV_19, yEV_18, yEV_17, yEV_16, yEV_15, yEV_14, yEV_13, yEV_12, yEV_11, yEV_10, yEV_9, yEV_8, yEV_7, yEV_6, yEV_5, yEV_4, yEV_3, yEV_2, yEV_1, yEV_0, lShrLN1_F, lShrLN1_l, AsksL, GTree.asks, FTree.asks, FactsIn, List.append_nil, List.nil_append, List.cons_append, Option.some.injEq, exists_eq', implies_true, and_self, X.bool, X.den, denL, dX, denSub, denIte, asB, dY, d_hasS, d_putS, d_delS, has_put, EndsOk, WaysOk, forall_cons, forall_nil, TgtOk, gpair, FactsIn, hold_cons, hold_nil, Option.some.injEq, dZ, X.bool, X.den, denL, dX, denSub, denIte, asB, dY, d_hasS, d_putS, d_delS, has_put, beq_iff_eq, beq_eq_false_iff_ne, ne_eq, v1, v120, v121, vs, hv, hsy, sym10, sym110, sym111, sym112, sym113, sym114, sym115, sym117, sym118, hm, kl, Int.toNat_natCast, hp, Option.bind_some, who0, hlt1, hh, hgm, hw, hil, reduceCtorEq, false_implies, implies_true, true_implies, and_self])
      all_goals (clear v1 v120 v121 vs hv hsy hp hF hgm)
      all_goals ((repeat' apply And.intro) <;> intros <;> first
        | trivial
        | (exfalso; omega)
        | (exact absurd trivial (by assumption))
        | (exact go)
        | (rw [hil] at go; exact go))
theorem lShrLN_step {ρ : Rho} {l m : List Shr} (hv : ρ.val 1 = some (shrsR l)) (hsy : ρ.sym = sy) (hm : accB (accA l) ([] : List Shr) = m) (hne : m.length ≠ 0) (hmax : m.length ≤ 2000) (j : Nat) (vals : List Value) (hI : lShrLN_Inv m j vals) :
    StepOk lShrLN_D lShrLN_run E0 ρ (lShrLN_Inv m) (lShrLN_mu m) j vals := by
  obtain ⟨i, hi, ⟨rfl, rfl, hi0⟩ | ⟨rfl, rfl, hi0⟩⟩ := hI
  · exact lShrLN_step0 hv hsy hm hne hmax hi hi0
  · exact lShrLN_step1 hv hsy hm hne hmax hi hi0
noncomputable def cChgELN_con : Con := { f := 8, args := [shrsArg 0 0, .nils], N := 2, M := 2, pre := [(.op2 .eq (.app 110 [.var 1]) (.num 0), false)], out := .tuple [.nilslice, .sint .i64 (.app 110 [.var 1])], news := [] }
noncomputable def cChgELN_call : Env → CallL := fun E => acallAll E (evH E (LD E) ((fun E => orLoop (oneH 8 (hooks [(10, lSubLN_D.hook E.facts chgv_vs)])) (oneH 27 (hooks [(3, lShrLN_D.hook E.facts shr_vs)]))) E) 8)
noncomputable def cChgELN_t : GTree := (.leaf [[]])
noncomputable def cChgELN_l : List (List (X × Bool) × Option Pairs) := [([(yEV_24, false)], some [])]
theorem cChgELN_w (r : Rho) : cChgELN_con.fn.ways cChgELN_call E0 r cChgELN_con.pre cChgELN_t = some cChgELN_l := by kernel_rfl
theorem chg_HLN {r : Rho} {l : List Shr} (hv : r.val 1 = some (shrsR l)) (hsy : r.sym = sy) (F : List (X × Bool)) :
    LoopsOk (E0.with F r) (orLoop (oneH 8 (hooks [(10, lSubLN_D.hook (E0.with F r).facts chgv_vs)])) (oneH 27 (hooks [(3, lShrLN_D.hook (E0.with F r).facts shr_vs)]))) := by
  have chk_nil : chkS ([] : List Shr) = 0 := rfl
  refine orLoop_ok (loops_all (n := 3) (fun f fn h => h) (by kernel_rfl) fun i hi => ?_) (loops_all (n := 1) (fun f fn h => h) (by kernel_rfl) fun i hi => ?_)
  · have h012 : i = 0 ∨ i = 1 ∨ i = 2 := by omega
    rcases h012 with rfl | rfl | rfl
    · rw [hooks_miss (show Nat.beq (keyOf (loopAt (E0.with F r).P 8 0)) 10 = false by kernel_rfl)]
      exact noLoop_ok
    · rw [hooks_hit (show keyOf (loopAt (E0.with F r).P 8 1) = 10 by kernel_rfl)]
      refine hook_ok (E₀ := E0) (run := lSubLN_run) (ρ := r) (Inv := lSubLN_Inv l) (μ := lSubLN_mu l) E0_ok lSubLN_ok (fun F r' h => ?_) (fun hp => ?_)
      · exact bodyRun_ok E0_ok (LD_ok F (h.trans hsy)) fun _ _ => noLoop_ok
      · simp only [lSubLN_D, FactsIn, X.bool, X.den, denL, dX, denSub, denIte, asB, dY, hv, hsy, sym10, sym110, sym111, sym112, sym113, sym114, sym115, sym117, sym118, Option.some.injEq, Value.bool.injEq, and_true, beq_iff_eq, beq_eq_false_iff_ne, ne_eq] at hp
        have hca := hp
        refine ⟨lSubLN_step hv hsy hca, [.int .i64 0, .tuple #[]], ?_, rfl, 0, Nat.zero_le _, rfl⟩
        simp only [chgv_vs, X.bool, X.den, denL, dX, denSub, denIte, asB, dY, hv, hsy, sym10, sym110, sym111, sym112, sym113, sym114, sym115, sym117, sym118]
    · rw [hooks_miss (show Nat.beq (keyOf (loopAt (E0.with F r).P 8 2)) 10 = false by kernel_rfl)]
      exact noLoop_ok
  · obtain rfl : i = 0 := by omega
    rw [hooks_hit (show keyOf (loopAt (E0.with F r).P 27 0) = 3 by kernel_rfl)]
    refine hook_ok (E₀ := E0) (run := lShrLN_run) (ρ := r) (Inv := lShrLN_Inv (accB (accA l) ([] : List Shr))) (μ := lShrLN_mu (accB (accA l) ([] : List Shr))) E0_ok lShrLN_ok (fun F r' h => ?_) (fun hp => ?_)
    · exact bodyRun_ok E0_ok (LD_ok F (h.trans hsy)) fun _ _ => noLoop_ok
    · simp only [lShrLN_D, FactsIn, X.bool, X.den, denL, dX, denSub, denIte, asB, dY, hv, hsy, sym10, sym110, sym111, sym112, sym113, sym114, sym115, sym117, sym118, Option.some.injEq, Value.bool.injEq, and_true, beq_iff_eq, beq_eq_false_iff_ne, ne_eq] at hp
      obtain ⟨hca, hne⟩ := hp
      refine ⟨lShrLN_step hv hsy rfl (by omega) (acc_max hca chk_nil), [.int .i64 0], ?_, 0, Nat.zero_le _, .inl ⟨rfl, rfl, rfl⟩⟩
      simp only [shr_vs, X.bool, X.den, denL, dX, denSub, denIte, asB, dY, hv, hsy, sym10, sym110, sym111, sym112, sym113, sym114, sym115, sym117, sym118]
theorem cChgELN_cok : cChgELN_con.Ok Tryz.prog sy := by
  intro r σ w us hsy hρ hpre hrel hins
  obtain ⟨l, hv⟩ := shrs_at hrel (i := 0) rfl
  rw [hρ] at hv
  have hv : r.val 1 = some (shrsR l) := hv
  have hp := hpre
  simp only [cChgELN_con, FactsIn, X.bool, X.den, denL, dX, denSub, denIte, asB, dY, hv, hsy, sym10, sym110, sym111, sym112, sym113, sym114, sym115, sym117, sym118, Option.some.injEq, Value.bool.injEq, and_true, beq_iff_eq, beq_eq_false_iff_ne, ne_eq] at hp
  obtain hca := hp
  refine con_of (E := E0) E0_ok E0_glob (sy := sy) (fun F => LD_ok F hsy) (fun F => chg_HLN hv hsy F) (cChgELN_w r) hρ hpre hrel hins ?_ ?_
  · simp only [cChgELN_con, cChgELN_t, yEV_34, yEV_33, yEV_32, yEV_31, yEV_30, yEV_29, yEV_28, yEV_27, yEV_26, yEV_25, yEV_24, yEV_23, yEV_22, yEV_21, yEV_20, yEV_19, yEV_18, yEV_17, yEV_16, yEV_15, yEV_14, yEV_13, yEV_12, yEV_11, yEV_10, yEV_9, yEV_8, yEV_7, yEV_6, yEV_5, yEV_4, yEV_3, yEV_2, yEV_1, yEV_0, AsksL, GTree.asks, FTree.asks, FactsIn, List.append_nil, List.nil_append, List.cons_append, Option.some.injEq, exists_eq', implies_true, and_self, X.bool, X.den, denL, dX, denSub, denIte, asB, dY, d_hasS, d_putS, d_delS, has_put, hv, hsy, sym10, sym110, sym111, sym112, sym113, sym114, sym115, sym117, sym118]
    try simp
  · simp only [cChgELN_l, yEV_34, yEV_33, yEV_32, yEV_31, yEV_30, yEV_29, yEV_28, yEV_27, yEV_26, yEV_25, yEV_24, yEV_23, yEV_22, yEV_21, yEV_20, yEV_19, yEV_18, yEV_17, yEV_16, yEV_15, yEV_14, yEV_13, yEV_12, yEV_11, yEV_10, yEV_9, yEV_8, yEV_7, yEV_6, yEV_5, yEV_4, yEV_3, yEV_2, yEV_1, yEV_0, EndsOk, WaysOk, forall_cons, forall_nil, TgtOk, gpair, FactsIn, hold_cons, hold_nil, Option.some.injEq, dZ, X.bool, X.den, denL, dX, denSub, denIte, asB, dY, d_hasS, d_putS, d_delS, has_put, beq_iff_eq, beq_eq_false_iff_ne, ne_eq, hv, hsy, sym10, sym110, sym111, sym112, sym113, sym114, sym115, sym117, sym118]
    clear hsy hρ hpre hrel hins hv
    (repeat' apply And.intro) <;> intros <;> first
      | trivial
      | (exfalso; omega)
      | (simp_all; done)
      | (exfalso; simp_all; omega)
noncomputable def cChg0LN_con : Con := { f := 8, args := [shrsArg 0 0, .nils], N := 2, M := 2, pre := [(.op2 .eq (.app 110 [.var 1]) (.num 0), true), (.op2 .eq (.op1 .len (.app 118 [.var 1])) (.num 0), true)], out := .tuple [.nilslice, .int .i64 0], news := [] }
noncomputable def cChg0LN_call : Env → CallL := fun E => acallAll E (evH E (LD E) ((fun E => orLoop (oneH 8 (hooks [(10, lSubLN_D.hook E.facts chgv_vs)])) (oneH 27 (hooks [(3, lShrLN_D.hook E.facts shr_vs)]))) E) 8)
noncomputable def cChg0LN_t : GTree := (.fork (.app 114 [yEV_7]) (.fork yEV_27 .bad (.leaf [[]])) .bad)
noncomputable def cChg0LN_l : List (List (X × Bool) × Option Pairs) := [([(yEV_27, true), (.app 114 [yEV_7], true), (yEV_24, true), (yEV_29, true)], none),
  ([(yEV_27, false), (.app 114 [yEV_7], true), (yEV_24, true), (yEV_29, true)], some []),
  ([(.app 114 [yEV_7], false), (yEV_24, true), (yEV_29, true)], none)]
theorem cChg0LN_w (r : Rho) : cChg0LN_con.fn.ways cChg0LN_call E0 r cChg0LN_con.pre cChg0LN_t = some cChg0LN_l := by kernel_rfl
theorem cChg0LN_cok : cChg0LN_con.Ok Tryz.prog sy := by
  intro r σ w us hsy hρ hpre hrel hins
  obtain ⟨l, hv⟩ := shrs_at hrel (i := 0) rfl
  rw [hρ] at hv
  have hv : r.val 1 = some (shrsR l) := hv
  have hp := hpre
  simp only [cChg0LN_con, FactsIn, X.bool, X.den, denL, dX, denSub, denIte, asB, dY, hv, hsy, sym10, sym110, sym111, sym112, sym113, sym114, sym115, sym117, sym118, Option.some.injEq, Value.bool.injEq, and_true, beq_iff_eq, beq_eq_false_iff_ne, ne_eq] at hp
  obtain ⟨hca, hne⟩ := hp
  have chk_nil : chkS ([] : List Shr) = 0 := rfl
  have hmax := acc_max hca chk_nil
  have hword := word_ok (acc_all hca chk_nil)
  refine con_of (E := E0) E0_ok E0_glob (sy := sy) (fun F => LD_ok F hsy) (fun F => chg_HLN hv hsy F) (cChg0LN_w r) hρ hpre hrel hins ?_ ?_
  · simp only [cChg0LN_con, cChg0LN_t, yEV_34, yEV_33, yEV_32, yEV_31, yEV_30, yEV_29, yEV_28, yEV_27, yEV_26, yEV_25, yEV_24, yEV_23, yEV_22, yEV_21, yEV_20, yEV_19, yEV_18, yEV_17, yEV_16, yEV_15, yEV_14, yEV_13, yEV_12, yEV_11, yEV_10, yEV_9, yEV_8, yEV_7, yEV_6, yEV_5, yEV_4, yEV_3, yEV_2, yEV_1, yEV_0, AsksL, GTree.asks, FTree.asks, FactsIn, List.append_nil, List.nil_append, List.cons_append, Option.some.injEq, exists_eq', implies_true, and_self, X.bool, X.den, denL, dX, denSub, denIte, asB, dY, d_hasS, d_putS, d_delS, has_put, hv, hsy, sym10, sym110, sym111, sym112, sym113, sym114, sym115, sym117, sym118]
    try simp
  · simp only [cChg0LN_l, yEV_34, yEV_33, yEV_32, yEV_31, yEV_30, yEV_29, yEV_28, yEV_27, yEV_26, yEV_25, yEV_24, yEV_23, yEV_22, yEV_21, yEV_20, yEV_19, yEV_18, yEV_17, yEV_16, yEV_15, yEV_14, yEV_13, yEV_12, yEV_11, yEV_10, yEV_9, yEV_8, yEV_7, yEV_6, yEV_5, yEV_4, yEV_3, yEV_2, yEV_1, yEV_0, EndsOk, WaysOk, forall_cons, forall_nil, TgtOk, gpair, FactsIn, hold_cons, hold_nil, Option.some.injEq, dZ, X.bool, X.den, denL, dX, denSub, denIte, asB, dY, d_hasS, d_putS, d_delS, has_put, beq_iff_eq, beq_eq_false_iff_ne, ne_eq, hv, hsy, sym10, sym110, sym111, sym112, sym113, sym114, sym115, sym117, sym118]
    clear hsy hρ hpre hrel hins hv
    (repeat' apply And.intro) <;> intros <;> first
      | trivial
      | (exfalso; omega)
      | (simp_all; done)
      | (exfalso; simp_all; omega)
noncomputable def cChg1LN_con : Con := { f := 8, args := [shrsArg 0 0, .nils], N := 2, M := 3, pre := [(.op2 .eq (.app 110 [.var 1]) (.num 0), true), (.op2 .eq (.op1 .len (.app 118 [.var 1])) (.num 0), false)], out := .tuple [.slo 2 2 (.op1 .len (.app 115 [.app 118 [.var 1]])), .int .i64 0], news := [(2, .rows 2 shrSch (.num 0) (.app 115 [.app 118 [.var 1]]) true 25)] }
noncomputable def cChg1LN_call : Env → CallL := fun E => acallAll E (evH E (LD E) ((fun E => orLoop (oneH 8 (hooks [(10, lSubLN_D.hook E.facts chgv_vs)])) (oneH 27 (hooks [(3, lShrLN_D.hook E.facts shr_vs)]))) E) 8)
noncomputable def cChg1LN_t : GTree := (.fork (.app 114 [yEV_7]) (.fork yEV_27 .bad (.leaf [[(2, 122)]])) .bad)
noncomputable def cChg1LN_l : List (List (X × Bool) × Option Pairs) := [([(yEV_27, true), (.app 114 [yEV_7], true), (yEV_24, true), (yEV_29, false)], none),
  ([(yEV_27, false), (.app 114 [yEV_7], true), (yEV_24, true), (yEV_29, false)], some []),
  ([(.app 114 [yEV_7], false), (yEV_24, true), (yEV_29, false)], none)]
theorem cChg1LN_w (r : Rho) : cChg1LN_con.fn.ways cChg1LN_call E0 r cChg1LN_con.pre cChg1LN_t = some cChg1LN_l := by kernel_rfl
theorem cChg1LN_cok : cChg1LN_con.Ok Tryz.prog sy := by
  intro r σ w us hsy hρ hpre hrel hins
  obtain ⟨l, hv⟩ := shrs_at hrel (i := 0) rfl
  rw [hρ] at hv
  have hv : r.val 1 = some (shrsR l) := hv
  have hp := hpre
  simp only [cChg1LN_con, FactsIn, X.bool, X.den, denL, dX, denSub, denIte, asB, dY, hv, hsy, sym10, sym110, sym111, sym112, sym113, sym114, sym115, sym117, sym118, Option.some.injEq, Value.bool.injEq, and_true, beq_iff_eq, beq_eq_false_iff_ne, ne_eq] at hp
  obtain ⟨hca, hne⟩ := hp
  have chk_nil : chkS ([] : List Shr) = 0 := rfl
  have hmax := acc_max hca chk_nil
  have hword := word_ok (acc_all hca chk_nil)
  refine con_of (E := E0) E0_ok E0_glob (sy := sy) (fun F => LD_ok F hsy) (fun F => chg_HLN hv hsy F) (cChg1LN_w r) hρ hpre hrel hins ?_ ?_
  · simp only [cChg1LN_con, cChg1LN_t, yEV_34, yEV_33, yEV_32, yEV_31, yEV_30, yEV_29, yEV_28, yEV_27, yEV_26, yEV_25, yEV_24, yEV_23, yEV_22, yEV_21, yEV_20, yEV_19, yEV_18, yEV_17, yEV_16, yEV_15, yEV_14, yEV_13, yEV_12, yEV_11, yEV_10, yEV_9, yEV_8, yEV_7, yEV_6, yEV_5, yEV_4, yEV_3, yEV_2, yEV_1, yEV_0, AsksL, GTree.asks, FTree.asks, FactsIn, List.append_nil, List.nil_append, List.cons_append, Option.some.injEq, exists_eq', implies_true, and_self, X.bool, X.den, denL, dX, denSub, denIte, asB, dY, d_hasS, d_putS, d_delS, has_put, hv, hsy, sym10, sym110, sym111, sym112, sym113, sym114, sym115, sym117, sym118]
    try simp
  · simp only [cChg1LN_l, yEV_34, yEV_33, yEV_32, yEV_31, yEV_30, yEV_29, yEV_28, yEV_27, yEV_26, yEV_25, yEV_24, yEV_23, yEV_22, yEV_21, yEV_20, yEV_19, yEV_18, yEV_17, yEV_16, yEV_15, yEV_14, yEV_13, yEV_12, yEV_11, yEV_10, yEV_9, yEV_8, yEV_7, yEV_6, yEV_5, yEV_4, yEV_3, yEV_2, yEV_1, yEV_0, EndsOk, WaysOk, forall_cons, forall_nil, TgtOk, gpair, FactsIn, hold_cons, hold_nil, Option.some.injEq, dZ, X.bool, X.den, denL, dX, denSub, denIte, asB, dY, d_hasS, d_putS, d_delS, has_put, beq_iff_eq, beq_eq_false_iff_ne, ne_eq, hv, hsy, sym10, sym110, sym111, sym112, sym113, sym114, sym115, sym117, sym118]
    clear hsy hρ hpre hrel hins hv
    (repeat' apply And.intro) <;> intros <;> first
      | trivial
      | (exfalso; omega)
      | (simp_all; done)
      | (exfalso; simp_all; omega)
noncomputable def lAddNL_D : LoopD := { N := 110, M := 112, size := sizeOfF 8, reads := [(1, .rows 2 shrSch (.var 3) (.var 4) false 25)], pats := [{ slots := [(9, .map 2), (41, .slx 1 2 (.var 3) (.num 0) (.op1 .len (.var 4)) (.var 5)), (42, .sint .i64 (.op1 .len (.var 4))), (43, .sint .i64 (.var 110))], heap := [(2, .smap false [.int .i64] false [.int .i64] (.var 111))] }], exits := [(.exit 4, { slots := [(9, .map 2)], heap := [(2, .smap false [.int .i64] false [.int .i64] (.app 117 [.var 4]))] })], own := [2], pre := [(.op2 .eq (.app 110 [.var 4]) (.num 0), true)] }
noncomputable def lAddNL_run : Env → AF → ASt → Option (List Out) := bodyRun LD 6 (fun _ => noLoop) (loopAt Tryz.prog 8 2)
def lAddNL0_F : List (X × Bool) := [(.op2 .lt (.var 110) (.num 0), false)]
noncomputable def lAddNL0_t : FTree := (.fork yEV_19 (.fork yEV_32 (.fork (.op2 .mhas yEV_3 yEV_14) (.fork (.op2 .eq (.op2 (.mat 1) yEV_3 yEV_14) (.num 0)) (.leaf [.again 0 []]) (.leaf [.again 0 []])) (.leaf [.again 0 []])) (.fork (.op2 .mhas yEV_5 yEV_14) (.fork (.op2 .eq (.op2 (.mat 1) yEV_5 yEV_14) (.num 0)) (.leaf [.again 0 []]) (.leaf [.again 0 []])) (.leaf [.again 0 []]))) (.leaf [.leave 0 []]))
noncomputable def lAddNL0_l : List (List (X × Bool) × Option (List (Tgt × Pairs))) := [([(.op2 .eq (.op2 (.mat 1) yEV_3 yEV_14) (.num 0), true), (.op2 .mhas yEV_3 yEV_14, true), (yEV_32, true), (yEV_19, true), (yEV_33, false)], some [(.again 0 [], [(.var 110, yEV_23), (.var 111, .op2 .mdel yEV_3 yEV_14)])]),
  ([(.op2 .eq (.op2 (.mat 1) yEV_3 yEV_14) (.num 0), false), (.op2 .mhas yEV_3 yEV_14, true), (yEV_32, true), (yEV_19, true), (yEV_33, false)], some [(.again 0 [], [(.var 110, yEV_23), (.var 111, yEV_3)])]),
  ([(.op2 .mhas yEV_3 yEV_14, false), (yEV_32, true), (yEV_19, true), (yEV_33, false)], some [(.again 0 [], [(.var 110, yEV_23), (.var 111, .op2 .mdel yEV_3 yEV_14)])]),
  ([(.op2 .eq (.op2 (.mat 1) yEV_5 yEV_14) (.num 0), true), (.op2 .mhas yEV_5 yEV_14, true), (yEV_32, false), (yEV_19, true), (yEV_33, false)], some [(.again 0 [], [(.var 110, yEV_23), (.var 111, .op2 .mdel yEV_5 yEV_14)])]),
  ([(.op2 .eq (.op2 (.mat 1) yEV_5 yEV_14) (.num 0), false), (.op2 .mhas yEV_5 yEV_14, true), (yEV_32, false), (yEV_19, true), (yEV_33, false)], some [(.again 0 [], [(.var 110, yEV_23), (.var 111, yEV_5)])]),
  ([(.op2 .mhas yEV_5 yEV_14, false), (yEV_32, false), (yEV_19, true), (yEV_33, false)], some [(.again 0 [], [(.var 110, yEV_23), (.var 111, .op2 .mdel yEV_5 yEV_14)])]),
  ([(yEV_19, false), (yEV_33, false)], some [(.leave 0 [], [(yEV_6, .var 111)])])]
theorem lAddNL0_w (r : Rho) : lAddNL_D.ways lAddNL_run E0 r 0 lAddNL0_F lAddNL0_t = some lAddNL0_l := by kernel_rfl
theorem lAddNL_ok : lAddNL_D.ok = true := by kernel_rfl
def lAddNL_Inv (l : List Shr) (j : Nat) (vals : List Value) : Prop :=
  j = 0 ∧ ∃ i : Nat, i ≤ l.length ∧ vals = [.int .i64 i, shrsR (accB (accA []) (l.take i))]
def lAddNL_mu (l : List Shr) (_ : Nat) (vals : List Value) : Nat := l.length - (vI (vals.getD 0 default)).toNat
set_option maxHeartbeats 1000000 in
theorem lAddNL_step {ρ : Rho} {l : List Shr} (hv : ρ.val 4 = some (shrsR l)) (hsy : ρ.sym = sy) (hca : chkS l = 0) (j : Nat) (vals : List Value) (hI : lAddNL_Inv l j vals) :
    StepOk lAddNL_D lAddNL_run E0 ρ (lAddNL_Inv l) (lAddNL_mu l) j vals := by
  obtain ⟨rfl, i, hi, rfl⟩ := hI
  have hN : lAddNL_D.N = 110 := rfl
  obtain ⟨hla, hga⟩ := (chkS_iff l).1 hca
  have v4 : (ρ.ext lAddNL_D.N [.int .i64 i, shrsR (accB (accA []) (l.take i))]).val 4 = some (shrsR l) := by rw [ext_low _ _ _ _ (by rw [hN]; omega)]; exact hv
  have v110 : (ρ.ext lAddNL_D.N [.int .i64 i, shrsR (accB (accA []) (l.take i))]).val 110 = some (.int .i64 i) := by rw [ext_high _ _ _ _ (by rw [hN]; omega)]; rfl
  have v111 : (ρ.ext lAddNL_D.N [.int .i64 i, shrsR (accB (accA []) (l.take i))]).val 111 = some (shrsR (accB (accA []) (l.take i))) := by rw [ext_high _ _ _ _ (by rw [hN]; omega)]; rfl
  have vs : (ρ.ext lAddNL_D.N [.int .i64 i, shrsR (accB (accA []) (l.take i))]).sym = sy := hsy
  have hF : FactsIn (ρ.ext lAddNL_D.N [.int .i64 i, shrsR (accB (accA []) (l.take i))]) lAddNL0_F := by
    simp only [lAddNL0_F, FactsIn, X.bool, X.den, denL, dX, denSub, denIte, asB, dY, v110, Option.some.injEq, Value.bool.injEq, decide_eq_false_iff_not, and_true]
    omega
  suffices both : AsksL (ρ.ext lAddNL_D.N [.int .i64 i, shrsR (accB (accA []) (l.take i))]) (lAddNL0_t.asks lAddNL0_F) ∧ WaysOk lAddNL_D ρ (lAddNL_Inv l) (lAddNL_mu l) 0 [.int .i64 i, shrsR (accB (accA []) (l.take i))] lAddNL0_l from step_of_ways (lAddNL0_w _) hF both.1.ok both.2
  have hacc : AccOk (0 + i) (accB (accA []) (l.take i)) := accB_ok (n := 0) (m := accA []) ⟨Nat.le_refl 0, fun x hx => by cases hx⟩ hga i hi
  cases hp : l[i]? with
  | none =>
    have hge := List.getElem?_eq_none_iff.1 hp
    have hge' : ¬ (i : Int) < l.length := by omega
    have hl : l.take i = l := List.take_of_length_le hge
    refine ⟨?_, ?_⟩
    · simp only [lAddNL0_t, yEV_34, yEV_33, yEV_32, yEV_31, yEV_30, yEV_29, yEV_28, yEV_27, yEV_26, yEV_25, yEV_24, yEV_23, yEV_22, yEV_21, yEV_20, yEV_19, yEV_18, yEV_17, yEV_16, yEV_15, yEV_14, yEV_13, yEV_12, yEV_11, yEV_10, yEV_9, yEV_8, yEV_7, yEV_6, yEV_5, yEV_4, yEV_3, yEV_2, yEV_1, yEV_0, lAddNL0_F, AsksL, GTree.asks, FTree.asks, FactsIn, List.append_nil, List.nil_append, List.cons_append, Option.some.injEq, exists_eq', implies_true, and_self, X.bool, X.den, denL, dX, denSub, denIte, asB, dY, d_hasS, d_putS, d_delS, has_put, v4, v110, v111, vs, sym10, sym110, sym111, sym112, sym113, sym114, sym115, sym117, sym118, Int.toNat_natCast, hp, hge']
      try simp
    · simp only [lAddNL0_l, yEV_34, yEV_33, yEV_32, yEV_31, yEV_30, yEV_29, yEV_28, yEV_27, yEV_26, yEV_25, yEV_24, yEV_23, yEV_22, yEV_21, yEV_20, yEV_19, yEV_18, yEV_17, yEV_16, yEV_15, yEV_14, yEV_13, yEV_12, yEV_11, yEV_10, yEV_9, yEV_8, yEV_7, yEV_6, yEV_5, yEV_4, yEV_3, yEV_2, yEV_1, yEV_0, EndsOk, WaysOk, forall_cons, forall_nil, TgtOk, gpair, FactsIn, hold_cons, hold_nil, Option.some.injEq, dZ, X.bool, X.den, denL, dX, denSub, denIte, asB, dY, d_hasS, d_putS, d_delS, has_put, beq_iff_eq, beq_eq_false_iff_ne, ne_eq, v4, v110, v111, vs, hv, hsy, sym10, sym110, sym111, sym112, sym113, sym114, sym115, sym117, sym118, Int.toNat_natCast, hp, hge']
      simp [hl, accB_nil]
  | some p =>
    have hlt : i < l.length := (List.getElem?_eq_some_iff.1 hp).1
    have hlt1 : (i : Int) < l.length := by omega
    have hc := (chk1_iff p).1 (hga p (List.mem_of_getElem? hp))
    have hnext : accB (accA []) (l.take (i + 1)) = addK (accB (accA []) (l.take i)) p.party (p.pence) := by
      rw [List.take_add_one, hp]; exact accB_snoc _ _ p
    have hw : IntKind.i64.wrap ((i : Int) + 1) = ((i + 1 : Nat) : Int) := by rw [IntWalk.i64_in _ (by omega)]; rfl
    generalize hm : accB (accA []) (l.take i) = m at hacc hnext v4 v110 v111 vs hF ⊢
    have hat := acc_at hacc p.party
    have w2 : IntKind.i64.wrap (atK m p.party + p.pence) = atK m p.party + p.pence := IntWalk.i64_in _ (by omega)
    have go : ∀ mm, mm = accB (accA []) (l.take (i + 1)) → ∃ vals', ((ρ.ext lAddNL_D.N vals').val 110 = some (.int .i64 ((i + 1 : Nat) : Int)) ∧ (ρ.ext lAddNL_D.N vals').val 111 = some (shrsR mm)) ∧ lAddNL_Inv l 0 vals' ∧ lAddNL_mu l 0 vals' < lAddNL_mu l 0 [.int .i64 i, shrsR m] := by
      rintro mm rfl
      refine ⟨[.int .i64 ((i + 1 : Nat) : Int), shrsR (accB (accA []) (l.take (i + 1)))], ⟨?_, ?_⟩, ⟨rfl, i + 1, by omega, rfl⟩, ?_⟩
      · rw [ext_high _ _ _ _ (by rw [hN]; omega)]; rfl
      · rw [ext_high _ _ _ _ (by rw [hN]; omega)]; rfl
      · simp [lAddNL_mu, vI]; omega
    have hz : atK m p.party + p.pence = 0 → delK p.party (putK p.party (atK m p.party + p.pence) m) = accB (accA []) (l.take (i + 1)) := fun h => by rw [hnext]; unfold addK; rw [if_pos h]
    have hnz : ¬ atK m p.party + p.pence = 0 → putK p.party (atK m p.party + p.pence) m = accB (accA []) (l.take (i + 1)) := fun h => by rw [hnext]; unfold addK; rw [if_neg h]
    have hgp : ∀ v, den2 (.mat 1) (shrsR (putK p.party v m)) (whosR [⟨p.party⟩]) = some (.int .i64 v) := fun v => by rw [d_atS, has_put, at_put]; rfl
    cases hh : hasK m p.party with
    | true =>
      have hgm : den2 (.mat 1) (shrsR m) (whosR [⟨p.party⟩]) = some (.int .i64 (atK m p.party)) := by rw [d_atS, hh]; rfl
      refine ⟨?_, ?_⟩
      all_goals (simp only [lAddNL0_t, yEV_34, yEV_33, yEV_32, yEV_31, yEV_30, yEV_29, yEV_28, yEV_27, yEV_26, yEV_25, yEV_24, yEV_23, yEV_22, yEV_21, yEV_20, yEV_19, yEV_18, yEV_17, yEV_16, yEV_15, yEV_14, yEV_13, yEV_12, yEV_11, yEV_10, yEV_9, yEV_8, yEV_7, yEV_6, yEV_5, yEV_4, yEV_3, yEV_2, yEV_1, yEV_0, lAddNL0_F, lAddNL0_l, AsksL, GTree.asks, FTree.asks, FactsIn, List.append_nil, List.nil_append, List.cons_append, Option.some.injEq, exists_eq', implies_true, and_self, X.bool, X.den, denL, dX, denSub, denIte, asB, dY, d_hasS, d_putS, d_delS, has_put, EndsOk, WaysOk, forall_cons, forall_nil, TgtOk, gpair, FactsIn, hold_cons, hold_nil, Option.some.injEq, dZ, X.bool, X.den, denL, dX, denSub, denIte, asB, dY, d_hasS, d_putS, d_delS, has_put, beq_iff_eq, beq_eq_false_iff_ne, ne_eq, v4, v110, v111, vs, hv, hsy, sym10, sym110, sym111, sym112, sym113, sym114, sym115, sym117, sym118, Int.toNat_natCast, hp, Option.bind_some, shr0, shr1, hlt1, hh, hgm, hgp, hw, w2, reduceCtorEq, false_implies, implies_true, true_implies, and_self])
      all_goals (clear v4 v110 v111 vs hv hsy hp hF hgm hgp)
      all_goals ((repeat' apply And.intro) <;> intros <;> first
        | trivial
        | (exfalso; omega)
        | (exact absurd trivial (by assumption))
        | (exact go _ (hz (by assumption)))
        | (exact go _ (hnz (by assumption))))
    | false =>
      have h0 := at_none hh
      have w3 : IntKind.i64.wrap (0 + p.pence) = p.pence := by rw [IntWalk.i64_in _ (by omega)]; omega
      rw [h0, Int.zero_add] at hz hnz
      refine ⟨?_, ?_⟩
      all_goals (simp only [lAddNL0_t, yEV_34, yEV_33, yEV_32, yEV_31, yEV_30, yEV_29, yEV_28, yEV_27, yEV_26, yEV_25, yEV_24, yEV_23, yEV_22, yEV_21, yEV_20, yEV_19, yEV_18, yEV_17, yEV_16, yEV_15, yEV_14, yEV_13, yEV_12, yEV_11, yEV_10, yEV_9, yEV_8, yEV_7, yEV_6, yEV_5, yEV_4, yEV_3, yEV_2, yEV_1, yEV_0, lAddNL0_F, lAddNL0_l, AsksL, GTree.asks, FTree.asks, FactsIn, List.append_nil, List.nil_append, List.cons_append, Option.some.injEq, exists_eq', implies_true, and_self, X.bool, X.den, denL, dX, denSub, denIte, asB, dY, d_hasS, d_putS, d_delS, has_put, EndsOk, WaysOk, forall_cons, forall_nil, TgtOk, gpair, FactsIn, hold_cons, hold_nil, Option.some.injEq, dZ, X.bool, X.den, denL, dX, denSub, denIte, asB, dY, d_hasS, d_putS, d_delS, has_put, beq_iff_eq, beq_eq_false_iff_ne, ne_eq, v4, v110, v111, vs, hv, hsy, sym10, sym110, sym111, sym112, sym113, sym114, sym115, sym117, sym118, Int.toNat_natCast, hp, Option.bind_some, shr0, shr1, hlt1, hh, hgp, hw, w3, reduceCtorEq, false_implies, implies_true, true_implies, and_self])
      all_goals (clear v4 v110 v111 vs hv hsy hp hF hgp)
      all_goals ((repeat' apply And.intro) <;> intros <;> first
        | trivial
        | (exfalso; omega)
        | (exact absurd trivial (by assumption))
        | (exact go _ (hz (by assumption)))
        | (exact go _ (hnz (by assumption))))
noncomputable def lShrNL_D : LoopD := { N := 120, M := 124, size := sizeOfF 27, reads := [(2, .smap false [.int .i64] false [.int .i64] (.app 117 [.var 4])), (113, .rows 1 [.int .i64] (.num 0) (.app 113 [.app 117 [.var 4]]) true 3)], pats := [{ slots := [(0, .map 2), (3, .nilslice), (8, .slo 113 1 (.op1 .len (.app 117 [.var 4]))), (9, .sint .i64 (.op1 .len (.app 117 [.var 4]))), (10, .sint .i64 (.var 120))], heap := [] }, { slots := [(0, .map 2), (3, .slo 122 2 (.op1 .len (.var 121))), (8, .slo 113 1 (.op1 .len (.app 117 [.var 4]))), (9, .sint .i64 (.op1 .len (.app 117 [.var 4]))), (10, .sint .i64 (.var 120))], heap := [(122, .rows 2 shrSch (.num 0) (.var 121) true 25)] }], exits := [(.exit 0, { slots := [(3, .slo 122 2 (.op1 .len (.app 115 [.app 117 [.var 4]])))], heap := [(122, .rows 2 shrSch (.num 0) (.app 115 [.app 117 [.var 4]]) true 25)] })], own := [], pre := [(.op2 .eq (.app 110 [.var 4]) (.num 0), true), (.op2 .eq (.op1 .len (.app 117 [.var 4])) (.num 0), false)] }
noncomputable def lShrNL_run : Env → AF → ASt → Option (List Out) := bodyRun LD 6 (fun _ => noLoop) (loopAt Tryz.prog 27 0)
def lShrNL0_F : List (X × Bool) := [(.op2 .lt (.var 120) (.num 0), false), (.op2 .lt (.var 120) (.op1 .len (.app 117 [.var 4])), true)]
def lShrNL1_F : List (X × Bool) := [(.op2 .lt (.var 120) (.num 0), false)]
noncomputable def lShrNL0_t : FTree := (.fork yEV_12 (.fork yEV_20 (.leaf [.again 1 [(122, 125)]]) (.leaf [.again 1 [(122, 125)]])) .bad)
noncomputable def lShrNL0_l : List (List (X × Bool) × Option (List (Tgt × Pairs))) := [([(yEV_20, true), (yEV_12, true), (yEV_13, false), (yEV_17, true)], some [(.again 1 [(122, 125)], [(yEV_26, .num 1), (.var 120, yEV_15), (.var 121, .snoc .nil [yEV_10, .op1 (.kind .i64) (.op2 (.mat 1) yEV_6 (.snoc .nil [yEV_10]))])])]),
  ([(yEV_20, false), (yEV_12, true), (yEV_13, false), (yEV_17, true)], some [(.again 1 [(122, 125)], [(yEV_26, .num 1), (.var 120, yEV_15), (.var 121, .snoc .nil [yEV_10, .op1 (.kind .i64) (.num 0)])])]),
  ([(yEV_12, false), (yEV_13, false), (yEV_17, true)], none)]
theorem lShrNL0_w (r : Rho) : lShrNL_D.ways lShrNL_run E0 r 0 lShrNL0_F lShrNL0_t = some lShrNL0_l := by kernel_rfl
noncomputable def lShrNL1_t : FTree := (.fork yEV_17 (.fork yEV_12 (.fork yEV_20 (.fork yEV_8 .bad (.leaf [.again 1 [(122, 125)]])) (.fork yEV_8 .bad (.leaf [.again 1 [(122, 125)]]))) .bad) (.leaf [.leave 0 [(122, 122)]]))
noncomputable def lShrNL1_l : List (List (X × Bool) × Option (List (Tgt × Pairs))) := [([(yEV_8, true), (yEV_20, true), (yEV_12, true), (yEV_17, true), (yEV_13, false)], none),
  ([(yEV_8, false), (yEV_20, true), (yEV_12, true), (yEV_17, true), (yEV_13, false)], some [(.again 1 [(122, 125)], [(yEV_26, .op2 .add yEV_26 (.num 1)), (.var 120, yEV_15), (.var 121, .snoc (.var 121) [yEV_10, .op1 (.kind .i64) (.op2 (.mat 1) yEV_6 (.snoc .nil [yEV_10]))])])]),
  ([(yEV_8, true), (yEV_20, false), (yEV_12, true), (yEV_17, true), (yEV_13, false)], none),
  ([(yEV_8, false), (yEV_20, false), (yEV_12, true), (yEV_17, true), (yEV_13, false)], some [(.again 1 [(122, 125)], [(yEV_26, .op2 .add yEV_26 (.num 1)), (.var 120, yEV_15), (.var 121, .snoc (.var 121) [yEV_10, .op1 (.kind .i64) (.num 0)])])]),
  ([(yEV_12, false), (yEV_17, true), (yEV_13, false)], none),
  ([(yEV_17, false), (yEV_13, false)], some [(.leave 0 [(122, 122)], [(.op1 .len (.app 115 [yEV_6]), yEV_26), (.app 115 [yEV_6], .var 121)])])]
theorem lShrNL1_w (r : Rho) : lShrNL_D.ways lShrNL_run E0 r 1 lShrNL1_F lShrNL1_t = some lShrNL1_l := by kernel_rfl
theorem lShrNL_ok : lShrNL_D.ok = true := by kernel_rfl
def lShrNL_Inv (m : List Shr) (j : Nat) (vals : List Value) : Prop :=
  ∃ i : Nat, i ≤ m.length ∧ ((j = 0 ∧ vals = [.int .i64 i] ∧ i = 0) ∨ (j = 1 ∧ vals = [.int .i64 i, shrsR ((chgOf m).take i)] ∧ i ≠ 0))
def lShrNL_mu (m : List Shr) (_ : Nat) (vals : List Value) : Nat := m.length - (vI (vals.getD 0 default)).toNat
set_option maxHeartbeats 1000000 in
theorem lShrNL_step0 {ρ : Rho} {l m : List Shr} (hv : ρ.val 4 = some (shrsR l)) (hsy : ρ.sym = sy) (hm : accB (accA ([] : List Shr)) l = m) (hne : m.length ≠ 0) (hmax : m.length ≤ 2000) {i : Nat} (hi : i ≤ m.length) (hi0 : i = 0) :
    StepOk lShrNL_D lShrNL_run E0 ρ (lShrNL_Inv m) (lShrNL_mu m) 0 [.int .i64 i] := by
  have hN : lShrNL_D.N = 120 := rfl
  have v4 : (ρ.ext lShrNL_D.N [.int .i64 i]).val 4 = some (shrsR l) := by rw [ext_low _ _ _ _ (by rw [hN]; omega)]; exact hv
  have v120 : (ρ.ext lShrNL_D.N [.int .i64 i]).val 120 = some (.int .i64 i) := by rw [ext_high _ _ _ _ (by rw [hN]; omega)]; rfl
  have vs : (ρ.ext lShrNL_D.N [.int .i64 i]).sym = sy := hsy
  have kl := keys_len m
  have hF : FactsIn (ρ.ext lShrNL_D.N [.int .i64 i]) lShrNL0_F := by
    simp only [lShrNL0_F, FactsIn, X.bool, X.den, denL, dX, denSub, denIte, asB, dY, v4, v120, vs, sym10, sym110, sym111, sym112, sym113, sym114, sym115, sym117, sym118, hm, Option.some.injEq, Value.bool.injEq, decide_eq_false_iff_not, decide_eq_true_eq, and_true]
    omega
  suffices both : AsksL (ρ.ext lShrNL_D.N [.int .i64 i]) (lShrNL0_t.asks lShrNL0_F) ∧ WaysOk lShrNL_D ρ (lShrNL_Inv m) (lShrNL_mu m) 0 [.int .i64 i] lShrNL0_l from step_of_ways (lShrNL0_w _) hF both.1.ok both.2
  cases hp : ((keysS m).map Who.mk)[i]? with
    | none =>
      have hge := List.getElem?_eq_none_iff.1 hp
      rw [keys_len] at hge
      exact absurd hge (by omega)
    | some k =>
      have hlt : i < m.length := by have := (List.getElem?_eq_some_iff.1 hp).1; omega
      have hlt1 : (i : Int) < m.length := by omega
      have hw : IntKind.i64.wrap ((i : Int) + 1) = ((i + 1 : Nat) : Int) := by rw [IntWalk.i64_in _ (by omega)]; rfl
      obtain ⟨hk, hc⟩ := keys_at hp
      have hh := keys_has hk
      have hgm : den2 (.mat 1) (shrsR m) (whosR [⟨k.n⟩]) = some (.int .i64 (atK m k.n)) := by rw [d_atS, hh]; rfl
      have hnext : (chgOf m).take (i + 1) = (chgOf m).take i ++ [⟨k.n, atK m k.n⟩] := by rw [List.take_add_one, hc]; rfl
      have hcl := chg_len m
      have hil : ((chgOf m).take i).length = i := by rw [List.length_take]; omega
      have go : ∃ vals', ((match (ρ.ext lShrNL_D.N vals').val 121 with | some v => den1 .len v | none => none) = some (.int .i64 (1)) ∧ (ρ.ext lShrNL_D.N vals').val 120 = some (.int .i64 ((i + 1 : Nat) : Int)) ∧ (ρ.ext lShrNL_D.N vals').val 121 = some (shrsR [⟨k.n, atK m k.n⟩])) ∧ lShrNL_Inv m 1 vals' ∧ lShrNL_mu m 1 vals' < lShrNL_mu m 0 [.int .i64 i] := by
        have e121 : (ρ.ext lShrNL_D.N [.int .i64 ((i + 1 : Nat) : Int), shrsR ((chgOf m).take (i + 1))]).val 121 = some (shrsR ((chgOf m).take (i + 1))) := by rw [ext_high _ _ _ _ (by rw [hN]; omega)]; rfl
        refine ⟨[.int .i64 ((i + 1 : Nat) : Int), shrsR ((chgOf m).take (i + 1))], ⟨?_, ?_, ?_⟩, ⟨i + 1, by omega, .inr ⟨rfl, rfl, by omega⟩⟩, by simp [lShrNL_mu, vI]; omega⟩
        · rw [e121]
          refine (shrs_len _).trans ?_
          rw [hnext, List.length_append]
          subst hi0; rfl
        · rw [ext_high _ _ _ _ (by rw [hN]; omega)]; rfl
        · rw [e121, hnext]; subst hi0; rfl
      refine ⟨?_, ?_⟩
      all_goals (simp only [lShrNL0_t, yEV_34, yEV_33, yEV_32, yEV_31, yEV_30, yEV_29, yEV_28, yEV_27, yEV_26, yEV_25, yEV_24, yEV_23, yEV_22, yEV_21, yEV_20, yEV_19, yEV_18, yEV_17, yEV_16, yEV_15, yEV_14, yEV_13, yEV_12, yEV_11, yEV_10, yEV_9, yEV_8, yEV_7, yEV_6, yEV_5, yEV_4, yEV_3, yEV_2, yEV_1, yEV_0, lShrNL0_F, lShrNL0_l, AsksL, GTree.asks, FTree.asks, FactsIn, List.append_nil, List.nil_append, List.cons_append, Option.some.injEq, exists_eq', implies_true, and_self, X.bool, X.den, denL, dX, denSub, denIte, asB, dY, d_hasS, d_putS, d_delS, has_put, EndsOk, WaysOk, forall_cons, forall_nil, TgtOk, gpair, FactsIn, hold_cons, hold_nil, Option.some.injEq, dZ, X.bool, X.den, denL, dX, denSub, denIte, asB, dY, d_hasS, d_putS, d_delS, has_put, beq_iff_eq, beq_eq_false_iff_ne, ne_eq, v4, v120, vs, hv, hsy, sym10, sym110, sym111, sym112, sym113, sym114, sym115, sym117, sym118, hm, kl, Int.toNat_natCast, hp, Option.bind_some, who0, hlt1, hh, hgm, hw, hil, reduceCtorEq, false_implies, implies_true, true_implies, and_self])
      all_goals (clear v4 v120 vs hv hsy hp hF hgm)
      all_goals ((repeat' apply And.intro) <;> intros <;> first
        | trivial
        | (exfalso; omega)
        | (exact absurd trivial (by assumption))
        | (exact go)
        | (rw [hil] at go; exact go))
set_option maxHeartbeats 1000000 in
theorem lShrNL_step1 {ρ : Rho} {l m : List Shr} (hv : ρ.val 4 = some (shrsR l)) (hsy : ρ.sym = sy) (hm : accB (accA ([] : List Shr)) l = m) (hne : m.length ≠ 0) (hmax : m.length ≤ 2000) {i : Nat} (hi : i ≤ m.length) (hi0 : i ≠ 0) :
    StepOk lShrNL_D lShrNL_run E0 ρ (lShrNL_Inv m) (lShrNL_mu m) 1 [.int .i64 i, shrsR ((chgOf m).take i)] := by
  have hN : lShrNL_D.N = 120 := rfl
  have v4 : (ρ.ext lShrNL_D.N [.int .i64 i, shrsR ((chgOf m).take i)]).val 4 = some (shrsR l) := by rw [ext_low _ _ _ _ (by rw [hN]; omega)]; exact hv
  have v120 : (ρ.ext lShrNL_D.N [.int .i64 i, shrsR ((chgOf m).take i)]).val 120 = some (.int .i64 i) := by rw [ext_high _ _ _ _ (by rw [hN]; omega)]; rfl
  have v121 : (ρ.ext lShrNL_D.N [.int .i64 i, shrsR ((chgOf m).take i)]).val 121 = some (shrsR ((chgOf m).take i)) := by rw [ext_high _ _ _ _ (by rw [hN]; omega)]; rfl
  have vs : (ρ.ext lShrNL_D.N [.int .i64 i, shrsR ((chgOf m).take i)]).sym = sy := hsy
  have kl := keys_len m
  have hF : FactsIn (ρ.ext lShrNL_D.N [.int .i64 i, shrsR ((chgOf m).take i)]) lShrNL1_F := by
    simp only [lShrNL1_F, FactsIn, X.bool, X.den, denL, dX, denSub, denIte, asB, dY, v4, v120, v121, vs, sym10, sym110, sym111, sym112, sym113, sym114, sym115, sym117, sym118, hm, Option.some.injEq, Value.bool.injEq, decide_eq_false_iff_not, decide_eq_true_eq, and_true]
    omega
  suffices both : AsksL (ρ.ext lShrNL_D.N [.int .i64 i, shrsR ((chgOf m).take i)]) (lShrNL1_t.asks lShrNL1_F) ∧ WaysOk lShrNL_D ρ (lShrNL_Inv m) (lShrNL_mu m) 1 [.int .i64 i, shrsR ((chgOf m).take i)] lShrNL1_l from step_of_ways (lShrNL1_w _) hF both.1.ok both.2
  cases hp : ((keysS m).map Who.mk)[i]? with
    | none =>
      have hge := List.getElem?_eq_none_iff.1 hp
      rw [keys_len] at hge
      have hge' : ¬ (i : Int) < m.length := by omega
      have hl : (chgOf m).take i = chgOf m := List.take_of_length_le (by rw [chg_len]; omega)
      refine ⟨?_, ?_⟩
      · simp only [lShrNL1_t, yEV_34, yEV_33, yEV_32, yEV_31, yEV_30, yEV_29, yEV_28, yEV_27, yEV_26, yEV_25, yEV_24, yEV_23, yEV_22, yEV_21, yEV_20, yEV_19, yEV_18, yEV_17, yEV_16, yEV_15, yEV_14, yEV_13, yEV_12, yEV_11, yEV_10, yEV_9, yEV_8, yEV_7, yEV_6, yEV_5, yEV_4, yEV_3, yEV_2, yEV_1, yEV_0, lShrNL1_F, AsksL, GTree.asks, FTree.asks, FactsIn, List.append_nil, List.nil_append, List.cons_append, Option.some.injEq, exists_eq', implies_true, and_self, X.bool, X.den, denL, dX, denSub, denIte, asB, dY, d_hasS, d_putS, d_delS, has_put, v4, v120, v121, vs, sym10, sym110, sym111, sym112, sym113, sym114, sym115, sym117, sym118, hm, kl, Int.toNat_natCast, hp, hge']
        try simp
      · simp only [lShrNL1_l, yEV_34, yEV_33, yEV_32, yEV_31, yEV_30, yEV_29, yEV_28, yEV_27, yEV_26, yEV_25, yEV_24, yEV_23, yEV_22, yEV_21, yEV_20, yEV_19, yEV_18, yEV_17, yEV_16, yEV_15, yEV_14, yEV_13, yEV_12, yEV_11, yEV_10, yEV_9, yEV_8, yEV_7, yEV_6, yEV_5, yEV_4, yEV_3, yEV_2, yEV_1, yEV_0, EndsOk, WaysOk, forall_cons, forall_nil, TgtOk, gpair, FactsIn, hold_cons, hold_nil, Option.some.injEq, dZ, X.bool, X.den, denL, dX, denSub, denIte, asB, dY, d_hasS, d_putS, d_delS, has_put, beq_iff_eq, beq_eq_false_iff_ne, ne_eq, v4, v120, v121, vs, hv, hsy, sym10, sym110, sym111, sym112, sym113, sym114, sym115, sym117, sym118, hm, kl, Int.toNat_natCast, hp, hge']
        simp [hl]
    | some k =>
      have hlt : i < m.length := by have := (List.getElem?_eq_some_iff.1 hp).1; omega
      have hlt1 : (i : Int) < m.length := by omega
      have hw : IntKind.i64.wrap ((i : Int) + 1) = ((i + 1 : Nat) : Int) := by rw [IntWalk.i64_in _ (by omega)]; rfl
      obtain ⟨hk, hc⟩ := keys_at hp
      have hh := keys_has hk
      have hgm : den2 (.mat 1) (shrsR m) (whosR [⟨k.n⟩]) = some (.int .i64 (atK m k.n)) := by rw [d_atS, hh]; rfl
      have hnext : (chgOf m).take (i + 1) = (chgOf m).take i ++ [⟨k.n, atK m k.n⟩] := by rw [List.take_add_one, hc]; rfl
      have hcl := chg_len m
      have hil : ((chgOf m).take i).length = i := by rw [List.length_take]; omega
      have go : ∃ vals', ((match (ρ.ext lShrNL_D.N vals').val 121 with | some v => den1 .len v | none => none) = some (.int .i64 ((((chgOf m).take i).length : Int) + 1)) ∧ (ρ.ext lShrNL_D.N vals').val 120 = some (.int .i64 ((i + 1 : Nat) : Int)) ∧ (ρ.ext lShrNL_D.N vals').val 121 = some (shrsR ((chgOf m).take i ++ [⟨k.n, atK m k.n⟩]))) ∧ lShrNL_Inv m 1 vals' ∧ lShrNL_mu m 1 vals' < lShrNL_mu m 1 [.int .i64 i, shrsR ((chgOf m).take i)] := by
        have e121 : (ρ.ext lShrNL_D.N [.int .i64 ((i + 1 : Nat) : Int), shrsR ((chgOf m).take (i + 1))]).val 121 = some (shrsR ((chgOf m).take (i + 1))) := by rw [ext_high _ _ _ _ (by rw [hN]; omega)]; rfl
        refine ⟨[.int .i64 ((i + 1 : Nat) : Int), shrsR ((chgOf m).take (i + 1))], ⟨?_, ?_, ?_⟩, ⟨i + 1, by omega, .inr ⟨rfl, rfl, by omega⟩⟩, by simp [lShrNL_mu, vI]; omega⟩
        · rw [e121]
          refine (shrs_len _).trans ?_
          rw [hnext, List.length_append]
          rfl
        · rw [ext_high _ _ _ _ (by rw [hN]; omega)]; rfl
        · rw [e121, hnext]
      refine ⟨?_, ?_⟩
      all_goals (simp only [lShrNL1_t, yEV_34, yEV_33, yEV_32, yEV_31, yEV_30, yEV_29, yEV_28, yEV_27, yEV_26, yEV_25, yEV_24, yEV_23, yEV_22, yEV_21, yEV_20, yEV_19, yEV_18, yEV_17, yEV_16, yEV_15, yEV_14, yEV_13, yEV_12, yEV_11, yEV_10, yEV_9, yEV_8, yEV_7, yEV_6, yEV_5, yEV_4, yEV_3, yEV_2, yEV_1, yEV_0, lShrNL1_F, lShrNL1_l, AsksL, GTree.asks, FTree.asks, FactsIn, List.append_nil, List.nil_append, List.cons_append, Option.some.injEq, exists_eq', implies_true, and_self, X.bool, X.den, denL, dX, denSub, denIte, asB, dY, d_hasS, d_putS, d_delS, has_put, EndsOk, WaysOk, forall_cons, forall_nil, TgtOk, gpair, FactsIn, hold_cons, hold_nil, Option.some.injEq, dZ, X.bool, X.den, denL, dX, denSub, denIte, asB, dY, d_hasS, d_putS, d_delS, has_put, beq_iff_eq, beq_eq_false_iff_ne, ne_eq, v4, v120, v121, vs, hv, hsy, sym10, sym110, sym111, sym112, sym113, sym114, sym115, sym117, sym118, hm, kl, Int.toNat_natCast, hp, Option.bind_some, who0, hlt1, hh, hgm, hw, hil, reduceCtorEq, false_implies, implies_true, true_implies, and_self])
      all_goals (clear v4 v120 v121 vs hv hsy hp hF hgm)
      all_goals ((repeat' apply And.intro) <;> intros <;> first
        | trivial
        | (exfalso; omega)
        | (exact absurd trivial (by assumption))
        | (exact go)
        | (rw [hil] at go; exact go))
theorem lShrNL_step {ρ : Rho} {l m : List Shr} (hv : ρ.val 4 = some (shrsR l)) (hsy : ρ.sym = sy) (hm : accB (accA ([] : List Shr)) l = m) (hne : m.length ≠ 0) (hmax : m.length ≤ 2000) (j : Nat) (vals : List Value) (hI : lShrNL_Inv m j vals) :
    StepOk lShrNL_D lShrNL_run E0 ρ (lShrNL_Inv m) (lShrNL_mu m) j vals := by
  obtain ⟨i, hi, ⟨rfl, rfl, hi0⟩ | ⟨rfl, rfl, hi0⟩⟩ := hI
  · exact lShrNL_step0 hv hsy hm hne hmax hi hi0
  · exact lShrNL_step1 hv hsy hm hne hmax hi hi0
noncomputable def cChgENL_con : Con := { f := 8, args := [.nils, shrsArg 1 3], N := 2, M := 2, pre := [(.op2 .eq (.app 110 [.var 4]) (.num 0), false)], out := .tuple [.nilslice, .sint .i64 (.app 110 [.var 4])], news := [] }
noncomputable def cChgENL_call : Env → CallL := fun E => acallAll E (evH E (LD E) ((fun E => orLoop (oneH 8 (hooks [(15, lAddNL_D.hook E.facts chgv_vs)])) (oneH 27 (hooks [(3, lShrNL_D.hook E.facts shr_vs)]))) E) 8)
noncomputable def cChgENL_t : GTree := (.leaf [[]])
noncomputable def cChgENL_l : List (List (X × Bool) × Option Pairs) := [([(yEV_25, false)], some [(.app 110 [.var 4], .app 110 [.var 4])])]
theorem cChgENL_w (r : Rho) : cChgENL_con.fn.ways cChgENL_call E0 r cChgENL_con.pre cChgENL_t = some cChgENL_l := by kernel_rfl
theorem chg_HNL {r : Rho} {l : List Shr} (hv : r.val 4 = some (shrsR l)) (hsy : r.sym = sy) (F : List (X × Bool)) :
    LoopsOk (E0.with F r) (orLoop (oneH 8 (hooks [(15, lAddNL_D.hook (E0.with F r).facts chgv_vs)])) (oneH 27 (hooks [(3, lShrNL_D.hook (E0.with F r).facts shr_vs)]))) := by
  have chk_nil : chkS ([] : List Shr) = 0 := rfl
  refine orLoop_ok (loops_all (n := 3) (fun f fn h => h) (by kernel_rfl) fun i hi => ?_) (loops_all (n := 1) (fun f fn h => h) (by kernel_rfl) fun i hi => ?_)
  · have h012 : i = 0 ∨ i = 1 ∨ i = 2 := by omega
    rcases h012 with rfl | rfl | rfl
    · rw [hooks_miss (show Nat.beq (keyOf (loopAt (E0.with F r).P 8 0)) 15 = false by kernel_rfl)]
      exact noLoop_ok
    · rw [hooks_miss (show Nat.beq (keyOf (loopAt (E0.with F r).P 8 1)) 15 = false by kernel_rfl)]
      exact noLoop_ok
    · rw [hooks_hit (show keyOf (loopAt (E0.with F r).P 8 2) = 15 by kernel_rfl)]
      refine hook_ok (E₀ := E0) (run := lAddNL_run) (ρ := r) (Inv := lAddNL_Inv l) (μ := lAddNL_mu l) E0_ok lAddNL_ok (fun F r' h => ?_) (fun hp => ?_)
      · exact bodyRun_ok E0_ok (LD_ok F (h.trans hsy)) fun _ _ => noLoop_ok
      · simp only [lAddNL_D, FactsIn, X.bool, X.den, denL, dX, denSub, denIte, asB, dY, hv, hsy, sym10, sym110, sym111, sym112, sym113, sym114, sym115, sym117, sym118, Option.some.injEq, Value.bool.injEq, and_true, beq_iff_eq, beq_eq_false_iff_ne, ne_eq] at hp
        have hca := hp
        refine ⟨lAddNL_step hv hsy hca, [.int .i64 0, .tuple #[]], ?_, rfl, 0, Nat.zero_le _, rfl⟩
        simp only [chgv_vs, X.bool, X.den, denL, dX, denSub, denIte, asB, dY, hv, hsy, sym10, sym110, sym111, sym112, sym113, sym114, sym115, sym117, sym118]
  · obtain rfl : i = 0 := by omega
    rw [hooks_hit (show keyOf (loopAt (E0.with F r).P 27 0) = 3 by kernel_rfl)]
    refine hook_ok (E₀ := E0) (run := lShrNL_run) (ρ := r) (Inv := lShrNL_Inv (accB (accA ([] : List Shr)) l)) (μ := lShrNL_mu (accB (accA ([] : List Shr)) l)) E0_ok lShrNL_ok (fun F r' h => ?_) (fun hp => ?_)
    · exact bodyRun_ok E0_ok (LD_ok F (h.trans hsy)) fun _ _ => noLoop_ok
    · simp only [lShrNL_D, FactsIn, X.bool, X.den, denL, dX, denSub, denIte, asB, dY, hv, hsy, sym10, sym110, sym111, sym112, sym113, sym114, sym115, sym117, sym118, Option.some.injEq, Value.bool.injEq, and_true, beq_iff_eq, beq_eq_false_iff_ne, ne_eq] at hp
      obtain ⟨hca, hne⟩ := hp
      refine ⟨lShrNL_step hv hsy rfl (by omega) (acc_max chk_nil hca), [.int .i64 0], ?_, 0, Nat.zero_le _, .inl ⟨rfl, rfl, rfl⟩⟩
      simp only [shr_vs, X.bool, X.den, denL, dX, denSub, denIte, asB, dY, hv, hsy, sym10, sym110, sym111, sym112, sym113, sym114, sym115, sym117, sym118]
theorem cChgENL_cok : cChgENL_con.Ok Tryz.prog sy := by
  intro r σ w us hsy hρ hpre hrel hins
  obtain ⟨l, hv⟩ := shrs_at hrel (i := 1) rfl
  rw [hρ] at hv
  have hv : r.val 4 = some (shrsR l) := hv
  have hp := hpre
  simp only [cChgENL_con, FactsIn, X.bool, X.den, denL, dX, denSub, denIte, asB, dY, hv, hsy, sym10, sym110, sym111, sym112, sym113, sym114, sym115, sym117, sym118, Option.some.injEq, Value.bool.injEq, and_true, beq_iff_eq, beq_eq_false_iff_ne, ne_eq] at hp
  obtain hca := hp
  refine con_of (E := E0) E0_ok E0_glob (sy := sy) (fun F => LD_ok F hsy) (fun F => chg_HNL hv hsy F) (cChgENL_w r) hρ hpre hrel hins ?_ ?_
  · simp only [cChgENL_con, cChgENL_t, yEV_34, yEV_33, yEV_32, yEV_31, yEV_30, yEV_29, yEV_28, yEV_27, yEV_26, yEV_25, yEV_24, yEV_23, yEV_22, yEV_21, yEV_20, yEV_19, yEV_18, yEV_17, yEV_16, yEV_15, yEV_14, yEV_13, yEV_12, yEV_11, yEV_10, yEV_9, yEV_8, yEV_7, yEV_6, yEV_5, yEV_4, yEV_3, yEV_2, yEV_1, yEV_0, AsksL, GTree.asks, FTree.asks, FactsIn, List.append_nil, List.nil_append, List.cons_append, Option.some.injEq, exists_eq', implies_true, and_self, X.bool, X.den, denL, dX, denSub, denIte, asB, dY, d_hasS, d_putS, d_delS, has_put, hv, hsy, sym10, sym110, sym111, sym112, sym113, sym114, sym115, sym117, sym118]
    try simp
  · simp only [cChgENL_l, yEV_34, yEV_33, yEV_32, yEV_31, yEV_30, yEV_29, yEV_28, yEV_27, yEV_26, yEV_25, yEV_24, yEV_23, yEV_22, yEV_21, yEV_20, yEV_19, yEV_18, yEV_17, yEV_16, yEV_15, yEV_14, yEV_13, yEV_12, yEV_11, yEV_10, yEV_9, yEV_8, yEV_7, yEV_6, yEV_5, yEV_4, yEV_3, yEV_2, yEV_1, yEV_0, EndsOk, WaysOk, forall_cons, forall_nil, TgtOk, gpair, FactsIn, hold_cons, hold_nil, Option.some.injEq, dZ, X.bool, X.den, denL, dX, denSub, denIte, asB, dY, d_hasS, d_putS, d_delS, has_put, beq_iff_eq, beq_eq_false_iff_ne, ne_eq, hv, hsy, sym10, sym110, sym111, sym112, sym113, sym114, sym115, sym117, sym118]
    clear hsy hρ hpre hrel hins hv
    (repeat' apply And.intro) <;> intros <;> first
      | trivial
      | (exfalso; omega)
      | (simp_all; done)
      | (exfalso; simp_all; omega)
noncomputable def cChg0NL_con : Con := { f := 8, args := [.nils, shrsArg 1 3], N := 2, M := 2, pre := [(.op2 .eq (.app 110 [.var 4]) (.num 0), true), (.op2 .eq (.op1 .len (.app 117 [.var 4])) (.num 0), true)], out := .tuple [.nilslice, .int .i64 0], news := [] }
noncomputable def cChg0NL_call : Env → CallL := fun E => acallAll E (evH E (LD E) ((fun E => orLoop (oneH 8 (hooks [(15, lAddNL_D.hook E.facts chgv_vs)])) (oneH 27 (hooks [(3, lShrNL_D.hook E.facts shr_vs)]))) E) 8)
noncomputable def cChg0NL_t : GTree := (.fork (.app 114 [yEV_6]) (.fork yEV_28 .bad (.leaf [[]])) .bad)
noncomputable def cChg0NL_l : List (List (X × Bool) × Option Pairs) := [([(yEV_28, true), (.app 114 [yEV_6], true), (yEV_25, true), (yEV_30, true)], none),
  ([(yEV_28, false), (.app 114 [yEV_6], true), (yEV_25, true), (yEV_30, true)], some []),
  ([(.app 114 [yEV_6], false), (yEV_25, true), (yEV_30, true)], none)]
theorem cChg0NL_w (r : Rho) : cChg0NL_con.fn.ways cChg0NL_call E0 r cChg0NL_con.pre cChg0NL_t = some cChg0NL_l := by kernel_rfl
theorem cChg0NL_cok : cChg0NL_con.Ok Tryz.prog sy := by
  intro r σ w us hsy hρ hpre hrel hins
  obtain ⟨l, hv⟩ := shrs_at hrel (i := 1) rfl
  rw [hρ] at hv
  have hv : r.val 4 = some (shrsR l) := hv
  have hp := hpre
  simp only [cChg0NL_con, FactsIn, X.bool, X.den, denL, dX, denSub, denIte, asB, dY, hv, hsy, sym10, sym110, sym111, sym112, sym113, sym114, sym115, sym117, sym118, Option.some.injEq, Value.bool.injEq, and_true, beq_iff_eq, beq_eq_false_iff_ne, ne_eq] at hp
  obtain ⟨hca, hne⟩ := hp
  have chk_nil : chkS ([] : List Shr) = 0 := rfl
  have hmax := acc_max chk_nil hca
  have hword := word_ok (acc_all chk_nil hca)
  refine con_of (E := E0) E0_ok E0_glob (sy := sy) (fun F => LD_ok F hsy) (fun F => chg_HNL hv hsy F) (cChg0NL_w r) hρ hpre hrel hins ?_ ?_
  · simp only [cChg0NL_con, cChg0NL_t, yEV_34, yEV_33, yEV_32, yEV_31, yEV_30, yEV_29, yEV_28, yEV_27, yEV_26, yEV_25, yEV_24, yEV_23, yEV_22, yEV_21, yEV_20, yEV_19, yEV_18, yEV_17, yEV_16, yEV_15, yEV_14, yEV_13, yEV_12, yEV_11, yEV_10, yEV_9, yEV_8, yEV_7, yEV_6, yEV_5, yEV_4, yEV_3, yEV_2, yEV_1, yEV_0, AsksL, GTree.asks, FTree.asks, FactsIn, List.append_nil, List.nil_append, List.cons_append, Option.some.injEq, exists_eq', implies_true, and_self, X.bool, X.den, denL, dX, denSub, denIte, asB, dY, d_hasS, d_putS, d_delS, has_put, hv, hsy, sym10, sym110, sym111, sym112, sym113, sym114, sym115, sym117, sym118]
    try simp
  · simp only [cChg0NL_l, yEV_34, yEV_33, yEV_32, yEV_31, yEV_30, yEV_29, yEV_28, yEV_27, yEV_26, yEV_25, yEV_24, yEV_23, yEV_22, yEV_21, yEV_20, yEV_19, yEV_18, yEV_17, yEV_16, yEV_15, yEV_14, yEV_13, yEV_12, yEV_11, yEV_10, yEV_9, yEV_8, yEV_7, yEV_6, yEV_5, yEV_4, yEV_3, yEV_2, yEV_1, yEV_0, EndsOk, WaysOk, forall_cons, forall_nil, TgtOk, gpair, FactsIn, hold_cons, hold_nil, Option.some.injEq, dZ, X.bool, X.den, denL, dX, denSub, denIte, asB, dY, d_hasS, d_putS, d_delS, has_put, beq_iff_eq, beq_eq_false_iff_ne, ne_eq, hv, hsy, sym10, sym110, sym111, sym112, sym113, sym114, sym115, sym117, sym118]
    clear hsy hρ hpre hrel hins hv
    (repeat' apply And.intro) <;> intros <;> first
      | trivial
      | (exfalso; omega)
      | (simp_all; done)
      | (exfalso; simp_all; omega)
noncomputable def cChg1NL_con : Con := { f := 8, args := [.nils, shrsArg 1 3], N := 2, M := 3, pre := [(.op2 .eq (.app 110 [.var 4]) (.num 0), true), (.op2 .eq (.op1 .len (.app 117 [.var 4])) (.num 0), false)], out := .tuple [.slo 2 2 (.op1 .len (.app 115 [.app 117 [.var 4]])), .int .i64 0], news := [(2, .rows 2 shrSch (.num 0) (.app 115 [.app 117 [.var 4]]) true 25)] }
noncomputable def cChg1NL_call : Env → CallL := fun E => acallAll E (evH E (LD E) ((fun E => orLoop (oneH 8 (hooks [(15, lAddNL_D.hook E.facts chgv_vs)])) (oneH 27 (hooks [(3, lShrNL_D.hook E.facts shr_vs)]))) E) 8)
noncomputable def cChg1NL_t : GTree := (.fork (.app 114 [yEV_6]) (.fork yEV_28 .bad (.leaf [[(2, 122)]])) .bad)
noncomputable def cChg1NL_l : List (List (X × Bool) × Option Pairs) := [([(yEV_28, true), (.app 114 [yEV_6], true), (yEV_25, true), (yEV_30, false)], none),
  ([(yEV_28, false), (.app 114 [yEV_6], true), (yEV_25, true), (yEV_30, false)], some [(.op1 .len (.app 115 [yEV_6]), .op1 .len (.app 115 [yEV_6])), (.app 115 [yEV_6], .app 115 [yEV_6])]),
  ([(.app 114 [yEV_6], false), (yEV_25, true), (yEV_30, false)], none)]
theorem cChg1NL_w (r : Rho) : cChg1NL_con.fn.ways cChg1NL_call E0 r cChg1NL_con.pre cChg1NL_t = some cChg1NL_l := by kernel_rfl
theorem cChg1NL_cok : cChg1NL_con.Ok Tryz.prog sy := by
  intro r σ w us hsy hρ hpre hrel hins
  obtain ⟨l, hv⟩ := shrs_at hrel (i := 1) rfl
  rw [hρ] at hv
  have hv : r.val 4 = some (shrsR l) := hv
  have hp := hpre
  simp only [cChg1NL_con, FactsIn, X.bool, X.den, denL, dX, denSub, denIte, asB, dY, hv, hsy, sym10, sym110, sym111, sym112, sym113, sym114, sym115, sym117, sym118, Option.some.injEq, Value.bool.injEq, and_true, beq_iff_eq, beq_eq_false_iff_ne, ne_eq] at hp
  obtain ⟨hca, hne⟩ := hp
  have chk_nil : chkS ([] : List Shr) = 0 := rfl
  have hmax := acc_max chk_nil hca
  have hword := word_ok (acc_all chk_nil hca)
  refine con_of (E := E0) E0_ok E0_glob (sy := sy) (fun F => LD_ok F hsy) (fun F => chg_HNL hv hsy F) (cChg1NL_w r) hρ hpre hrel hins ?_ ?_
  · simp only [cChg1NL_con, cChg1NL_t, yEV_34, yEV_33, yEV_32, yEV_31, yEV_30, yEV_29, yEV_28, yEV_27, yEV_26, yEV_25, yEV_24, yEV_23, yEV_22, yEV_21, yEV_20, yEV_19, yEV_18, yEV_17, yEV_16, yEV_15, yEV_14, yEV_13, yEV_12, yEV_11, yEV_10, yEV_9, yEV_8, yEV_7, yEV_6, yEV_5, yEV_4, yEV_3, yEV_2, yEV_1, yEV_0, AsksL, GTree.asks, FTree.asks, FactsIn, List.append_nil, List.nil_append, List.cons_append, Option.some.injEq, exists_eq', implies_true, and_self, X.bool, X.den, denL, dX, denSub, denIte, asB, dY, d_hasS, d_putS, d_delS, has_put, hv, hsy, sym10, sym110, sym111, sym112, sym113, sym114, sym115, sym117, sym118]
    try simp
  · simp only [cChg1NL_l, yEV_34, yEV_33, yEV_32, yEV_31, yEV_30, yEV_29, yEV_28, yEV_27, yEV_26, yEV_25, yEV_24, yEV_23, yEV_22, yEV_21, yEV_20, yEV_19, yEV_18, yEV_17, yEV_16, yEV_15, yEV_14, yEV_13, yEV_12, yEV_11, yEV_10, yEV_9, yEV_8, yEV_7, yEV_6, yEV_5, yEV_4, yEV_3, yEV_2, yEV_1, yEV_0, EndsOk, WaysOk, forall_cons, forall_nil, TgtOk, gpair, FactsIn, hold_cons, hold_nil, Option.some.injEq, dZ, X.bool, X.den, denL, dX, denSub, denIte, asB, dY, d_hasS, d_putS, d_delS, has_put, beq_iff_eq, beq_eq_false_iff_ne, ne_eq, hv, hsy, sym10, sym110, sym111, sym112, sym113, sym114, sym115, sym117, sym118]
    clear hsy hρ hpre hrel hins hv
    (repeat' apply And.intro) <;> intros <;> first
      | trivial
      | (exfalso; omega)
      | (simp_all; done)
      | (exfalso; simp_all; omega)
end Go.Proofs.YtpdemfamfmeemacGreatDoor.Zs
