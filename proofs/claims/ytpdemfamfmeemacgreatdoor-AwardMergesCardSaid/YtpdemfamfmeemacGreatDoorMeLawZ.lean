/-
  The law AwardMerges for lists and nil.
-/
import Derived.Test.YtpdemfamfmeemacGreatDoorMeConN
import Derived.Test.YtpdemfamfmeemacGreatDoorMeConO
import Derived.Test.YtpdemfamfmeemacGreatDoorMeRunZ
import Derived.KernelRfl
set_option linter.unusedSimpArgs false
set_option linter.unusedVariables false
namespace Go.Proofs.YtpdemfamfmeemacGreatDoor.Zs
open Go
theorem in12_snoc (l : List Shr) (p : Shr) : in12 (l ++ [p]) = (in12 l && (decide (-1000000000000 ≤ p.pence) && decide (p.pence ≤ 1000000000000))) := by simp [in12]
theorem out_chk {l : List Shr} {p : Shr} (hp : p ∈ l) (h : ¬ (-1000000000000 ≤ p.pence ∧ p.pence ≤ 1000000000000)) : ¬ chkS l = 0 := fun hc => by
  have := (chk1_iff p).1 (((chkS_iff l).1 hc).2 p hp)
  omega
theorem out_in12 {l : List Shr} {p : Shr} (hp : p ∈ l) (h : ¬ (-1000000000000 ≤ p.pence ∧ p.pence ≤ 1000000000000)) : in12 l = false := by
  cases hq : in12 l with
  | false => rfl
  | true =>
    unfold in12 at hq
    rw [List.all_eq_true] at hq
    have := hq p hp
    simp at this
    exact absurd this h
theorem big_chg {a b : List Shr} (ha : chkS a = 0) (hb : chkS b = 0) : bigB (chgOf (accB (accA a) b)) = true := by
  refine len_big ?_
  rw [chg_len]
  have := acc_max ha hb
  omega
theorem big_none {b : List Shr} (hb : chkS b = 0) : bigB (chgOf (accB (accA []) b)) = true := big_chg chk_nil hb
theorem big_neg {a : List Shr} (ha : chkS a = 0) : bigB (chgOf (accB (accA a) [])) = true := big_chg ha chk_nil
theorem d_eq_sameZ (k : IntKind) (n : Int) : den2 .eq (.int k n) (.int k n) = some (.bool true) := by simp [den2]
theorem short_ok {α : Type} {l : List α} (h : (l.length : Int) ≤ 1010) : shortB l = true := by simpa [shortB] using h
noncomputable def CZ0 : Env → CallE := libs [cLib cMf_con, fun _ => aliveL]
theorem CZ0_ok (F : List (X × Bool)) {r : Rho} (h : r.sym = sy) : CallsOk (E1.with F r) (CZ0 (E1.with F r)) := libs_ok fun c hc => by
  simp only [List.mem_cons, List.not_mem_nil, or_false] at hc
  rcases hc with rfl | rfl
  · exact lib_ok (E := E1) cMf_cok F h
  · exact alive_ok F r
noncomputable def CZLL : Env → CallE := libs [cLib cMgE_con, cLib cMg0_con, cLib cMg1_con, cLib rMgE_con, cLib rMg0_con, cLib rMg1_con, cLib cChgE_con, cLib cChgF_con, cLib cChg0_con, cLib cChg1_con, cLib rCE_con, cLib rCF_con, cLib rC0_con, cLib rC1_con, cLib rSam_con, cLib cOf_con, cLib rSum_con, fun _ => aliveL]
theorem CZLL_ok (F : List (X × Bool)) {r : Rho} (h : r.sym = sy) : CallsOk (E1.with F r) (CZLL (E1.with F r)) := libs_ok fun c hc => by
  simp only [List.mem_cons, List.not_mem_nil, or_false] at hc
  rcases hc with rfl | rfl | rfl | rfl | rfl | rfl | rfl | rfl | rfl | rfl | rfl | rfl | rfl | rfl | rfl | rfl | rfl | rfl
  · exact lib_ok (E := E1) cMgE_cok F h
  · exact lib_ok (E := E1) cMg0_cok F h
  · exact lib_ok (E := E1) cMg1_cok F h
  · exact lib_ok (E := E1) rMgE_cok F h
  · exact lib_ok (E := E1) rMg0_cok F h
  · exact lib_ok (E := E1) rMg1_cok F h
  · exact lib_ok (E := E1) cChgE_cok F h
  · exact lib_ok (E := E1) cChgF_cok F h
  · exact lib_ok (E := E1) cChg0_cok F h
  · exact lib_ok (E := E1) cChg1_cok F h
  · exact lib_ok (E := E1) rCE_cok F h
  · exact lib_ok (E := E1) rCF_cok F h
  · exact lib_ok (E := E1) rC0_cok F h
  · exact lib_ok (E := E1) rC1_cok F h
  · exact lib_ok (E := E1) rSam_cok F h
  · exact lib_ok (E := E1) cOf_cok F h
  · exact lib_ok (E := E1) rSum_cok F h
  · exact alive_ok F r
noncomputable def CZLN : Env → CallE := libs [cLib cMgE_con, cLib cMg0_con, cLib cMg1_con, cLib rMgE_con, cLib rMg0_con, cLib rMg1_con, cLib cChgELN_con, cLib cChg0LN_con, cLib cChg1LN_con, cLib rCEN_con, cLib rC0N_con, cLib rC1N_con, cLib rSam_con, cLib cOf_con, cLib rSum_con, fun _ => aliveL]
theorem CZLN_ok (F : List (X × Bool)) {r : Rho} (h : r.sym = sy) : CallsOk (E1.with F r) (CZLN (E1.with F r)) := libs_ok fun c hc => by
  simp only [List.mem_cons, List.not_mem_nil, or_false] at hc
  rcases hc with rfl | rfl | rfl | rfl | rfl | rfl | rfl | rfl | rfl | rfl | rfl | rfl | rfl | rfl | rfl | rfl
  · exact lib_ok (E := E1) cMgE_cok F h
  · exact lib_ok (E := E1) cMg0_cok F h
  · exact lib_ok (E := E1) cMg1_cok F h
  · exact lib_ok (E := E1) rMgE_cok F h
  · exact lib_ok (E := E1) rMg0_cok F h
  · exact lib_ok (E := E1) rMg1_cok F h
  · exact lib_ok (E := E1) cChgELN_cok F h
  · exact lib_ok (E := E1) cChg0LN_cok F h
  · exact lib_ok (E := E1) cChg1LN_cok F h
  · exact lib_ok (E := E1) rCEN_cok F h
  · exact lib_ok (E := E1) rC0N_cok F h
  · exact lib_ok (E := E1) rC1N_cok F h
  · exact lib_ok (E := E1) rSam_cok F h
  · exact lib_ok (E := E1) cOf_cok F h
  · exact lib_ok (E := E1) rSum_cok F h
  · exact alive_ok F r
noncomputable def CZNL : Env → CallE := libs [cLib cChgENL_con, cLib cChg0NL_con, cLib cChg1NL_con, cLib rCFB_con, cLib rC0B_con, cLib rC1B_con, cLib rSam_con, fun _ => aliveL]
theorem CZNL_ok (F : List (X × Bool)) {r : Rho} (h : r.sym = sy) : CallsOk (E1.with F r) (CZNL (E1.with F r)) := libs_ok fun c hc => by
  simp only [List.mem_cons, List.not_mem_nil, or_false] at hc
  rcases hc with rfl | rfl | rfl | rfl | rfl | rfl | rfl | rfl
  · exact lib_ok (E := E1) cChgENL_cok F h
  · exact lib_ok (E := E1) cChg0NL_cok F h
  · exact lib_ok (E := E1) cChg1NL_cok F h
  · exact lib_ok (E := E1) rCFB_cok F h
  · exact lib_ok (E := E1) rC0B_cok F h
  · exact lib_ok (E := E1) rC1B_cok F h
  · exact lib_ok (E := E1) rSam_cok F h
  · exact alive_ok F r
noncomputable def CZNN : Env → CallE := libs [cLib rSam_con, fun _ => aliveL]
theorem CZNN_ok (F : List (X × Bool)) {r : Rho} (h : r.sym = sy) : CallsOk (E1.with F r) (CZNN (E1.with F r)) := libs_ok fun c hc => by
  simp only [List.mem_cons, List.not_mem_nil, or_false] at hc
  rcases hc with rfl | rfl
  · exact lib_ok (E := E1) rSam_cok F h
  · exact alive_ok F r
def lam_vs : List X := [.num 0]
noncomputable def lAmL_D : LoopD := { N := 110, M := 111, size := sizeOfF 3, reads := [(60, .rows 2 shrSch (.var 0) (.var 1) false 25), (0, .cells [.int .i64 0, .int .i64 1] 127), (1, .cells [.int .i64 1, .int .i64 1] 127)], pats := [{ slots := [(0, .slx 60 2 (.var 0) (.num 0) (.op1 .len (.var 1)) (.var 2)), (1, .slx 61 2 (.var 3) (.num 0) (.op1 .len (.var 4)) (.var 5)), (2, .sint .i64 (.var 6)), (7, .sint .i64 (.var 110))], heap := [] }], exits := [(.exit 0, { slots := [(0, .slx 60 2 (.var 0) (.num 0) (.op1 .len (.var 1)) (.var 2)), (1, .slx 61 2 (.var 3) (.num 0) (.op1 .len (.var 4)) (.var 5)), (2, .sint .i64 (.var 6))], heap := [], guard := .app 122 [.var 1] }), (.ret, { slots := [(6, .sbool (.boo true))], heap := [], guard := .op1 .not (.app 122 [.var 1]) })], own := [], pre := [(.app 22 [.var 1], true)] }
noncomputable def lAmL_run : Env → AF → ASt → Option (List Out) := bodyRun CZ0 6 (fun _ => noLoop) (loopAt Tryz.prog 3 0)
def lAmL0_F : List (X × Bool) := [(.op2 .lt (.var 110) (.num 0), false), (.app 22 [.var 1], true)]
def yEZ_0 : X := .op1 .len (.var 1)
def yEZ_1 : X := .op2 .eq (.op1 .len (.app 117 [(.var 1)])) (.num 0)
def yEZ_2 : X := .app 111 [(.var 4), (.app 112 [(.var 1)])]
def yEZ_3 : X := .app 115 [(.app 117 [(.var 1)])]
def yEZ_4 : X := .op2 .eq (.app 110 [(.var 1)]) (.num 0)
def yEZ_5 : X := .op2 .lt (.num 1003) (.op1 .len (.var 4))
def yEZ_6 : X := .op2 .lt (.num 60) (.op1 .len (.var 4))
def yEZ_7 : X := .op2 .eq (.app 110 [(.var 4)]) (.num 0)
def yEZ_8 : X := .op2 .lt (.num 1003) yEZ_0
def yEZ_9 : X := .op2 .lt (.num 60) yEZ_0
def yEZ_10 : X := .op2 .lt (.num 1000) (.op1 .len (.var 4))
def yEZ_11 : X := .app 122 [(.var 1)]
def yEZ_12 : X := .app 22 [(.var 1)]
def yEZ_13 : X := .op2 .eq (.op1 .len yEZ_2) (.num 0)
def yEZ_14 : X := .app 22 [(.var 4)]
def yEZ_15 : X := .op2 .eq (.app 116 [(.var 1), (.var 6)]) (.app 116 [(.var 1), (.var 6)])
def yEZ_16 : X := .op2 .lt (.num 1000) yEZ_0
def yEZ_17 : X := .op2 .eq (.app 110 [(.var 4)]) (.app 110 [(.var 4)])
def yEZ_18 : X := .op2 .eq (.op1 .len (.app 118 [(.var 1)])) (.num 0)
def yEZ_19 : X := .app 21 [(.var 1)]
def yEZ_20 : X := .app 119 [yEZ_3, yEZ_3]
def yEZ_21 : X := .app 115 [(.app 118 [(.var 1)])]
def yEZ_22 : X := .app 119 [(.app 115 [yEZ_2]), (.app 115 [yEZ_2])]
def yEZ_23 : X := .op2 .eq (.app 110 [(.var 1)]) (.app 110 [(.var 1)])
def yEZ_24 : X := .app 22 [yEZ_3]
def yEZ_25 : X := .app 22 [(.app 115 [yEZ_2])]
def yEZ_26 : X := .op2 .eq (.op1 .len (.app 117 [(.var 4)])) (.num 0)
def yEZ_27 : X := .op2 .lt (.num 1000000000000) (.cell 1 (.var 1) (.var 110))
def yEZ_28 : X := .app 115 [(.app 117 [(.var 4)])]
def yEZ_29 : X := .op2 .lt (.cell 1 (.var 1) (.var 110)) (.num (-1000000000000))
def yEZ_30 : X := .app 119 [yEZ_21, yEZ_21]
def yEZ_31 : X := .op2 .lt (.var 110) yEZ_0
def yEZ_32 : X := .op2 .lt (.var 110) (.num 0)
def yEZ_33 : X := .app 22 [yEZ_21]
noncomputable def lAmL0_t : FTree := (.fork yEZ_31 (.fork yEZ_27 (.fork yEZ_4 .bad (.leaf [.leave 1 []])) (.fork yEZ_29 (.fork yEZ_4 .bad (.leaf [.leave 1 []])) (.leaf [.again 0 []]))) (.leaf [.leave 0 []]))
noncomputable def lAmL0_l : List (List (X × Bool) × Option (List (Tgt × Pairs))) := [([(yEZ_4, true), (yEZ_27, true), (yEZ_31, true), (yEZ_32, false), (yEZ_12, true)], none),
  ([(yEZ_4, false), (yEZ_27, true), (yEZ_31, true), (yEZ_32, false), (yEZ_12, true)], some [(.leave 1 [], [(.op1 .not yEZ_11, .boo true)])]),
  ([(yEZ_4, true), (yEZ_29, true), (yEZ_27, false), (yEZ_31, true), (yEZ_32, false), (yEZ_12, true)], none),
  ([(yEZ_4, false), (yEZ_29, true), (yEZ_27, false), (yEZ_31, true), (yEZ_32, false), (yEZ_12, true)], some [(.leave 1 [], [(.op1 .not yEZ_11, .boo true)])]),
  ([(yEZ_29, false), (yEZ_27, false), (yEZ_31, true), (yEZ_32, false), (yEZ_12, true)], some [(.again 0 [], [(.var 110, .op1 (.wrap .i64) (.op2 .add (.var 110) (.num 1)))])]),
  ([(yEZ_31, false), (yEZ_32, false), (yEZ_12, true)], some [(.leave 0 [], [(yEZ_11, .boo true)])])]
theorem lAmL0_w (r : Rho) : lAmL_D.ways lAmL_run E1 r 0 lAmL0_F lAmL0_t = some lAmL0_l := by kernel_rfl
theorem lAmL_ok : lAmL_D.ok = true := by kernel_rfl
def lAmL_Inv (l : List Shr) (j : Nat) (vals : List Value) : Prop :=
  j = 0 ∧ ∃ i : Nat, i ≤ l.length ∧ vals = [.int .i64 (i : Int)] ∧ in12 (l.take i) = true
def lAmL_mu (l : List Shr) (_ : Nat) (vals : List Value) : Nat := l.length - (vI (vals.getD 0 default)).toNat
set_option maxHeartbeats 1000000 in
theorem lAmL_step {ρ : Rho} {l : List Shr} (h1 : ρ.val 1 = some (shrsR l)) (hsy : ρ.sym = sy) (hmax : (l.length : Int) ≤ 5000) (j : Nat) (vals : List Value) (hI : lAmL_Inv l j vals) :
    StepOk lAmL_D lAmL_run E1 ρ (lAmL_Inv l) (lAmL_mu l) j vals := by
  obtain ⟨rfl, i, hi, rfl, hin⟩ := hI
  have hN : lAmL_D.N = 110 := rfl
  have v1 : (ρ.ext lAmL_D.N [.int .i64 (i : Int)]).val 1 = some (shrsR l) := by rw [ext_low _ _ _ _ (by rw [hN]; omega)]; exact h1
  have v110 : (ρ.ext lAmL_D.N [.int .i64 (i : Int)]).val 110 = some (.int .i64 (i : Int)) := by rw [ext_high _ _ _ _ (by rw [hN]; omega)]; rfl
  have vs : (ρ.ext lAmL_D.N [.int .i64 (i : Int)]).sym = sy := hsy
  have hbl : bigB l = true := len_big hmax
  have g3 : ¬ (i : Int) < 0 := by omega
  have hF : FactsIn (ρ.ext lAmL_D.N [.int .i64 (i : Int)]) lAmL0_F := by
    simp only [lAmL0_F, FactsIn, X.bool, X.den, denL, dX, denSub, denIte, asB, dY, v1, v110, vs, sym10, sym21, sym22, sym110, sym111, sym112, sym115, sym116, sym117, sym118, sym119, sym122, g3, hbl, decide_true, decide_false, and_true, and_self]
  suffices both : AsksL (ρ.ext lAmL_D.N [.int .i64 (i : Int)]) (lAmL0_t.asks lAmL0_F) ∧ WaysOk lAmL_D ρ (lAmL_Inv l) (lAmL_mu l) 0 [.int .i64 (i : Int)] lAmL0_l from step_of_ways (lAmL0_w _) hF both.1.ok both.2
  cases hp : l[i]? with
  | none =>
    have hge := List.getElem?_eq_none_iff.1 hp
    have hge' : ¬ (i : Int) < l.length := by omega
    have hl : l.take i = l := List.take_of_length_le hge
    rw [hl] at hin
    refine ⟨?_, ?_⟩
    · simp only [lAmL0_t, yEZ_33, yEZ_32, yEZ_31, yEZ_30, yEZ_29, yEZ_28, yEZ_27, yEZ_26, yEZ_25, yEZ_24, yEZ_23, yEZ_22, yEZ_21, yEZ_20, yEZ_19, yEZ_18, yEZ_17, yEZ_16, yEZ_15, yEZ_14, yEZ_13, yEZ_12, yEZ_11, yEZ_10, yEZ_9, yEZ_8, yEZ_7, yEZ_6, yEZ_5, yEZ_4, yEZ_3, yEZ_2, yEZ_1, yEZ_0, lAmL0_F, AsksL, GTree.asks, FTree.asks, FactsIn, List.append_nil, List.nil_append, List.cons_append, Option.some.injEq, exists_eq', implies_true, and_self, X.bool, X.den, denL, dX, denSub, denIte, asB, dY, v1, v110, vs, sym10, sym21, sym22, sym110, sym111, sym112, sym115, sym116, sym117, sym118, sym119, sym122, Int.toNat_natCast, hp, hge']
      try simp
    · simp only [lAmL0_l, yEZ_33, yEZ_32, yEZ_31, yEZ_30, yEZ_29, yEZ_28, yEZ_27, yEZ_26, yEZ_25, yEZ_24, yEZ_23, yEZ_22, yEZ_21, yEZ_20, yEZ_19, yEZ_18, yEZ_17, yEZ_16, yEZ_15, yEZ_14, yEZ_13, yEZ_12, yEZ_11, yEZ_10, yEZ_9, yEZ_8, yEZ_7, yEZ_6, yEZ_5, yEZ_4, yEZ_3, yEZ_2, yEZ_1, yEZ_0, EndsOk, WaysOk, forall_cons, forall_nil, TgtOk, gpair, FactsIn, hold_cons, hold_nil, Option.some.injEq, dZ, X.bool, X.den, denL, dX, denSub, denIte, asB, dY, beq_iff_eq, beq_eq_false_iff_ne, ne_eq, v1, v110, vs, h1, hsy, sym10, sym21, sym22, sym110, sym111, sym112, sym115, sym116, sym117, sym118, sym119, sym122, Int.toNat_natCast, hp, hge', hin]
      try simp
  | some p =>
    have hlt : i < l.length := (List.getElem?_eq_some_iff.1 hp).1
    have hlt1 : (i : Int) < l.length := by omega
    have hmem : p ∈ l := List.mem_of_getElem? hp
    have hw : IntKind.i64.wrap ((i : Int) + 1) = ((i + 1 : Nat) : Int) := by rw [IntWalk.i64_in _ (by omega)]; rfl
    have go : -1000000000000 ≤ p.pence → p.pence ≤ 1000000000000 → ∃ vals', (ρ.ext lAmL_D.N vals').val 110 = some (.int .i64 ((i + 1 : Nat) : Int)) ∧ lAmL_Inv l 0 vals' ∧ lAmL_mu l 0 vals' < lAmL_mu l 0 [.int .i64 (i : Int)] := by
      intro a b
      refine ⟨[.int .i64 ((i + 1 : Nat) : Int)], ?_, ⟨rfl, i + 1, by omega, rfl, ?_⟩, ?_⟩
      · rw [ext_high _ _ _ _ (by rw [hN]; omega)]; rfl
      · rw [List.take_add_one, hp, Option.toList_some, in12_snoc, hin, decide_eq_true a, decide_eq_true b]; rfl
      · simp [lAmL_mu, vI]; omega
    have o1 : 1000000000000 < p.pence → ¬ chkS l = 0 ∧ in12 l = false := fun h => ⟨out_chk hmem (by omega), out_in12 hmem (by omega)⟩
    have o2 : p.pence < -1000000000000 → ¬ chkS l = 0 ∧ in12 l = false := fun h => ⟨out_chk hmem (by omega), out_in12 hmem (by omega)⟩
    refine ⟨?_, ?_⟩
    · simp only [lAmL0_t, yEZ_33, yEZ_32, yEZ_31, yEZ_30, yEZ_29, yEZ_28, yEZ_27, yEZ_26, yEZ_25, yEZ_24, yEZ_23, yEZ_22, yEZ_21, yEZ_20, yEZ_19, yEZ_18, yEZ_17, yEZ_16, yEZ_15, yEZ_14, yEZ_13, yEZ_12, yEZ_11, yEZ_10, yEZ_9, yEZ_8, yEZ_7, yEZ_6, yEZ_5, yEZ_4, yEZ_3, yEZ_2, yEZ_1, yEZ_0, lAmL0_F, AsksL, GTree.asks, FTree.asks, FactsIn, List.append_nil, List.nil_append, List.cons_append, Option.some.injEq, exists_eq', implies_true, and_self, X.bool, X.den, denL, dX, denSub, denIte, asB, dY, v1, v110, vs, sym10, sym21, sym22, sym110, sym111, sym112, sym115, sym116, sym117, sym118, sym119, sym122, Int.toNat_natCast, hp, Option.bind_some, shr0, shr1]
      try simp
    · simp only [lAmL0_l, yEZ_33, yEZ_32, yEZ_31, yEZ_30, yEZ_29, yEZ_28, yEZ_27, yEZ_26, yEZ_25, yEZ_24, yEZ_23, yEZ_22, yEZ_21, yEZ_20, yEZ_19, yEZ_18, yEZ_17, yEZ_16, yEZ_15, yEZ_14, yEZ_13, yEZ_12, yEZ_11, yEZ_10, yEZ_9, yEZ_8, yEZ_7, yEZ_6, yEZ_5, yEZ_4, yEZ_3, yEZ_2, yEZ_1, yEZ_0, EndsOk, WaysOk, forall_cons, forall_nil, TgtOk, gpair, FactsIn, hold_cons, hold_nil, Option.some.injEq, dZ, X.bool, X.den, denL, dX, denSub, denIte, asB, dY, beq_iff_eq, beq_eq_false_iff_ne, ne_eq, v1, v110, vs, h1, hsy, sym10, sym21, sym22, sym110, sym111, sym112, sym115, sym116, sym117, sym118, sym119, sym122, Int.toNat_natCast, hp, Option.bind_some, shr0, shr1, hlt1, hw]
      clear v1 v110 vs h1 hsy hp hF
      (repeat' apply And.intro) <;> intros <;> first
        | trivial
        | contradiction
        | (exfalso; omega)
        | (exact go (by omega) (by omega))
        | (rw [(o1 (by assumption)).2]; rfl)
        | (rw [(o2 (by assumption)).2]; rfl)
        | (exact absurd (by assumption) (o1 (by assumption)).1)
        | (exact absurd (by assumption) (o2 (by assumption)).1)
        | (exfalso; have := (o1 (by assumption)).1; simp_all; done)
        | (exfalso; have := (o2 (by assumption)).1; simp_all; done)
        | (have := (o1 (by assumption)).2; simp_all; done)
        | (have := (o2 (by assumption)).2; simp_all; done)
theorem lAmL_H {r : Rho} {l : List Shr} (h1 : r.val 1 = some (shrsR l)) (hsy : r.sym = sy) (F : List (X × Bool)) :
    LoopsOk (E1.with F r) (oneH 3 (hooks [(4, lAmL_D.hook (E1.with F r).facts lam_vs)])) := by
  refine loops_all (n := 1) (fun f fn h => h) (by kernel_rfl) fun i hi => ?_
  obtain rfl : i = 0 := by omega
  rw [hooks_hit (show keyOf (loopAt (E1.with F r).P 3 0) = 4 by kernel_rfl)]
  refine hook_ok (E₀ := E1) (run := lAmL_run) (ρ := r) (Inv := lAmL_Inv l) (μ := lAmL_mu l) E1_ok lAmL_ok (fun F r' h => ?_) (fun hp => ⟨lAmL_step h1 hsy ?_, [.int .i64 0], ?_, rfl, 0, Nat.zero_le _, rfl, rfl⟩)
  · exact bodyRun_ok E1_ok (CZ0_ok F (h.trans hsy)) fun _ _ => noLoop_ok
  · have := hp.1
    simp only [X.bool, X.den, denL, dX, denSub, denIte, asB, dY, h1, hsy, sym22, Option.some.injEq, Value.bool.injEq] at this
    exact big_len this
  · simp only [lam_vs, X.bool, X.den, denL, dX, denSub, denIte, asB, dY]
noncomputable def lAmN_D : LoopD := { N := 110, M := 111, size := sizeOfF 3, reads := [(60, .rows 2 shrSch (.var 0) (.var 1) false 25), (0, .cells [.int .i64 0, .int .i64 1] 127), (1, .cells [.int .i64 1, .int .i64 1] 127)], pats := [{ slots := [(0, .slx 60 2 (.var 0) (.num 0) (.op1 .len (.var 1)) (.var 2)), (1, .nilslice), (2, .sint .i64 (.var 6)), (7, .sint .i64 (.var 110))], heap := [] }], exits := [(.exit 0, { slots := [(0, .slx 60 2 (.var 0) (.num 0) (.op1 .len (.var 1)) (.var 2)), (1, .nilslice), (2, .sint .i64 (.var 6))], heap := [], guard := .app 122 [.var 1] }), (.ret, { slots := [(6, .sbool (.boo true))], heap := [], guard := .op1 .not (.app 122 [.var 1]) })], own := [], pre := [(.app 22 [.var 1], true)] }
noncomputable def lAmN_run : Env → AF → ASt → Option (List Out) := bodyRun CZ0 6 (fun _ => noLoop) (loopAt Tryz.prog 3 0)
def lAmN0_F : List (X × Bool) := [(.op2 .lt (.var 110) (.num 0), false), (.app 22 [.var 1], true)]
noncomputable def lAmN0_t : FTree := (.fork yEZ_31 (.fork yEZ_27 (.fork yEZ_4 .bad (.leaf [.leave 1 []])) (.fork yEZ_29 (.fork yEZ_4 .bad (.leaf [.leave 1 []])) (.leaf [.again 0 []]))) (.leaf [.leave 0 []]))
noncomputable def lAmN0_l : List (List (X × Bool) × Option (List (Tgt × Pairs))) := [([(yEZ_4, true), (yEZ_27, true), (yEZ_31, true), (yEZ_32, false), (yEZ_12, true)], none),
  ([(yEZ_4, false), (yEZ_27, true), (yEZ_31, true), (yEZ_32, false), (yEZ_12, true)], some [(.leave 1 [], [(.op1 .not yEZ_11, .boo true)])]),
  ([(yEZ_4, true), (yEZ_29, true), (yEZ_27, false), (yEZ_31, true), (yEZ_32, false), (yEZ_12, true)], none),
  ([(yEZ_4, false), (yEZ_29, true), (yEZ_27, false), (yEZ_31, true), (yEZ_32, false), (yEZ_12, true)], some [(.leave 1 [], [(.op1 .not yEZ_11, .boo true)])]),
  ([(yEZ_29, false), (yEZ_27, false), (yEZ_31, true), (yEZ_32, false), (yEZ_12, true)], some [(.again 0 [], [(.var 110, .op1 (.wrap .i64) (.op2 .add (.var 110) (.num 1)))])]),
  ([(yEZ_31, false), (yEZ_32, false), (yEZ_12, true)], some [(.leave 0 [], [(yEZ_11, .boo true)])])]
theorem lAmN0_w (r : Rho) : lAmN_D.ways lAmN_run E1 r 0 lAmN0_F lAmN0_t = some lAmN0_l := by kernel_rfl
theorem lAmN_ok : lAmN_D.ok = true := by kernel_rfl
def lAmN_Inv (l : List Shr) (j : Nat) (vals : List Value) : Prop :=
  j = 0 ∧ ∃ i : Nat, i ≤ l.length ∧ vals = [.int .i64 (i : Int)] ∧ in12 (l.take i) = true
def lAmN_mu (l : List Shr) (_ : Nat) (vals : List Value) : Nat := l.length - (vI (vals.getD 0 default)).toNat
set_option maxHeartbeats 1000000 in
theorem lAmN_step {ρ : Rho} {l : List Shr} (h1 : ρ.val 1 = some (shrsR l)) (hsy : ρ.sym = sy) (hmax : (l.length : Int) ≤ 5000) (j : Nat) (vals : List Value) (hI : lAmN_Inv l j vals) :
    StepOk lAmN_D lAmN_run E1 ρ (lAmN_Inv l) (lAmN_mu l) j vals := by
  obtain ⟨rfl, i, hi, rfl, hin⟩ := hI
  have hN : lAmN_D.N = 110 := rfl
  have v1 : (ρ.ext lAmN_D.N [.int .i64 (i : Int)]).val 1 = some (shrsR l) := by rw [ext_low _ _ _ _ (by rw [hN]; omega)]; exact h1
  have v110 : (ρ.ext lAmN_D.N [.int .i64 (i : Int)]).val 110 = some (.int .i64 (i : Int)) := by rw [ext_high _ _ _ _ (by rw [hN]; omega)]; rfl
  have vs : (ρ.ext lAmN_D.N [.int .i64 (i : Int)]).sym = sy := hsy
  have hbl : bigB l = true := len_big hmax
  have g3 : ¬ (i : Int) < 0 := by omega
  have hF : FactsIn (ρ.ext lAmN_D.N [.int .i64 (i : Int)]) lAmN0_F := by
    simp only [lAmN0_F, FactsIn, X.bool, X.den, denL, dX, denSub, denIte, asB, dY, v1, v110, vs, sym10, sym21, sym22, sym110, sym111, sym112, sym115, sym116, sym117, sym118, sym119, sym122, g3, hbl, decide_true, decide_false, and_true, and_self]
  suffices both : AsksL (ρ.ext lAmN_D.N [.int .i64 (i : Int)]) (lAmN0_t.asks lAmN0_F) ∧ WaysOk lAmN_D ρ (lAmN_Inv l) (lAmN_mu l) 0 [.int .i64 (i : Int)] lAmN0_l from step_of_ways (lAmN0_w _) hF both.1.ok both.2
  cases hp : l[i]? with
  | none =>
    have hge := List.getElem?_eq_none_iff.1 hp
    have hge' : ¬ (i : Int) < l.length := by omega
    have hl : l.take i = l := List.take_of_length_le hge
    rw [hl] at hin
    refine ⟨?_, ?_⟩
    · simp only [lAmN0_t, yEZ_33, yEZ_32, yEZ_31, yEZ_30, yEZ_29, yEZ_28, yEZ_27, yEZ_26, yEZ_25, yEZ_24, yEZ_23, yEZ_22, yEZ_21, yEZ_20, yEZ_19, yEZ_18, yEZ_17, yEZ_16, yEZ_15, yEZ_14, yEZ_13, yEZ_12, yEZ_11, yEZ_10, yEZ_9, yEZ_8, yEZ_7, yEZ_6, yEZ_5, yEZ_4, yEZ_3, yEZ_2, yEZ_1, yEZ_0, lAmN0_F, AsksL, GTree.asks, FTree.asks, FactsIn, List.append_nil, List.nil_append, List.cons_append, Option.some.injEq, exists_eq', implies_true, and_self, X.bool, X.den, denL, dX, denSub, denIte, asB, dY, v1, v110, vs, sym10, sym21, sym22, sym110, sym111, sym112, sym115, sym116, sym117, sym118, sym119, sym122, Int.toNat_natCast, hp, hge']
      try simp
    · simp only [lAmN0_l, yEZ_33, yEZ_32, yEZ_31, yEZ_30, yEZ_29, yEZ_28, yEZ_27, yEZ_26, yEZ_25, yEZ_24, yEZ_23, yEZ_22, yEZ_21, yEZ_20, yEZ_19, yEZ_18, yEZ_17, yEZ_16, yEZ_15, yEZ_14, yEZ_13, yEZ_12, yEZ_11, yEZ_10, yEZ_9, yEZ_8, yEZ_7, yEZ_6, yEZ_5, yEZ_4, yEZ_3, yEZ_2, yEZ_1, yEZ_0, EndsOk, WaysOk, forall_cons, forall_nil, TgtOk, gpair, FactsIn, hold_cons, hold_nil, Option.some.injEq, dZ, X.bool, X.den, denL, dX, denSub, denIte, asB, dY, beq_iff_eq, beq_eq_false_iff_ne, ne_eq, v1, v110, vs, h1, hsy, sym10, sym21, sym22, sym110, sym111, sym112, sym115, sym116, sym117, sym118, sym119, sym122, Int.toNat_natCast, hp, hge', hin]
      try simp
  | some p =>
    have hlt : i < l.length := (List.getElem?_eq_some_iff.1 hp).1
    have hlt1 : (i : Int) < l.length := by omega
    have hmem : p ∈ l := List.mem_of_getElem? hp
    have hw : IntKind.i64.wrap ((i : Int) + 1) = ((i + 1 : Nat) : Int) := by rw [IntWalk.i64_in _ (by omega)]; rfl
    have go : -1000000000000 ≤ p.pence → p.pence ≤ 1000000000000 → ∃ vals', (ρ.ext lAmN_D.N vals').val 110 = some (.int .i64 ((i + 1 : Nat) : Int)) ∧ lAmN_Inv l 0 vals' ∧ lAmN_mu l 0 vals' < lAmN_mu l 0 [.int .i64 (i : Int)] := by
      intro a b
      refine ⟨[.int .i64 ((i + 1 : Nat) : Int)], ?_, ⟨rfl, i + 1, by omega, rfl, ?_⟩, ?_⟩
      · rw [ext_high _ _ _ _ (by rw [hN]; omega)]; rfl
      · rw [List.take_add_one, hp, Option.toList_some, in12_snoc, hin, decide_eq_true a, decide_eq_true b]; rfl
      · simp [lAmN_mu, vI]; omega
    have o1 : 1000000000000 < p.pence → ¬ chkS l = 0 ∧ in12 l = false := fun h => ⟨out_chk hmem (by omega), out_in12 hmem (by omega)⟩
    have o2 : p.pence < -1000000000000 → ¬ chkS l = 0 ∧ in12 l = false := fun h => ⟨out_chk hmem (by omega), out_in12 hmem (by omega)⟩
    refine ⟨?_, ?_⟩
    · simp only [lAmN0_t, yEZ_33, yEZ_32, yEZ_31, yEZ_30, yEZ_29, yEZ_28, yEZ_27, yEZ_26, yEZ_25, yEZ_24, yEZ_23, yEZ_22, yEZ_21, yEZ_20, yEZ_19, yEZ_18, yEZ_17, yEZ_16, yEZ_15, yEZ_14, yEZ_13, yEZ_12, yEZ_11, yEZ_10, yEZ_9, yEZ_8, yEZ_7, yEZ_6, yEZ_5, yEZ_4, yEZ_3, yEZ_2, yEZ_1, yEZ_0, lAmN0_F, AsksL, GTree.asks, FTree.asks, FactsIn, List.append_nil, List.nil_append, List.cons_append, Option.some.injEq, exists_eq', implies_true, and_self, X.bool, X.den, denL, dX, denSub, denIte, asB, dY, v1, v110, vs, sym10, sym21, sym22, sym110, sym111, sym112, sym115, sym116, sym117, sym118, sym119, sym122, Int.toNat_natCast, hp, Option.bind_some, shr0, shr1]
      try simp
    · simp only [lAmN0_l, yEZ_33, yEZ_32, yEZ_31, yEZ_30, yEZ_29, yEZ_28, yEZ_27, yEZ_26, yEZ_25, yEZ_24, yEZ_23, yEZ_22, yEZ_21, yEZ_20, yEZ_19, yEZ_18, yEZ_17, yEZ_16, yEZ_15, yEZ_14, yEZ_13, yEZ_12, yEZ_11, yEZ_10, yEZ_9, yEZ_8, yEZ_7, yEZ_6, yEZ_5, yEZ_4, yEZ_3, yEZ_2, yEZ_1, yEZ_0, EndsOk, WaysOk, forall_cons, forall_nil, TgtOk, gpair, FactsIn, hold_cons, hold_nil, Option.some.injEq, dZ, X.bool, X.den, denL, dX, denSub, denIte, asB, dY, beq_iff_eq, beq_eq_false_iff_ne, ne_eq, v1, v110, vs, h1, hsy, sym10, sym21, sym22, sym110, sym111, sym112, sym115, sym116, sym117, sym118, sym119, sym122, Int.toNat_natCast, hp, Option.bind_some, shr0, shr1, hlt1, hw]
      clear v1 v110 vs h1 hsy hp hF
      (repeat' apply And.intro) <;> intros <;> first
        | trivial
        | contradiction
        | (exfalso; omega)
        | (exact go (by omega) (by omega))
        | (rw [(o1 (by assumption)).2]; rfl)
        | (rw [(o2 (by assumption)).2]; rfl)
        | (exact absurd (by assumption) (o1 (by assumption)).1)
        | (exact absurd (by assumption) (o2 (by assumption)).1)
        | (exfalso; have := (o1 (by assumption)).1; simp_all; done)
        | (exfalso; have := (o2 (by assumption)).1; simp_all; done)
        | (have := (o1 (by assumption)).2; simp_all; done)
        | (have := (o2 (by assumption)).2; simp_all; done)
theorem lAmN_H {r : Rho} {l : List Shr} (h1 : r.val 1 = some (shrsR l)) (hsy : r.sym = sy) (F : List (X × Bool)) :
    LoopsOk (E1.with F r) (oneH 3 (hooks [(4, lAmN_D.hook (E1.with F r).facts lam_vs)])) := by
  refine loops_all (n := 1) (fun f fn h => h) (by kernel_rfl) fun i hi => ?_
  obtain rfl : i = 0 := by omega
  rw [hooks_hit (show keyOf (loopAt (E1.with F r).P 3 0) = 4 by kernel_rfl)]
  refine hook_ok (E₀ := E1) (run := lAmN_run) (ρ := r) (Inv := lAmN_Inv l) (μ := lAmN_mu l) E1_ok lAmN_ok (fun F r' h => ?_) (fun hp => ⟨lAmN_step h1 hsy ?_, [.int .i64 0], ?_, rfl, 0, Nat.zero_le _, rfl, rfl⟩)
  · exact bodyRun_ok E1_ok (CZ0_ok F (h.trans hsy)) fun _ _ => noLoop_ok
  · have := hp.1
    simp only [X.bool, X.den, denL, dX, denSub, denIte, asB, dY, h1, hsy, sym22, Option.some.injEq, Value.bool.injEq] at this
    exact big_len this
  · simp only [lam_vs, X.bool, X.den, denL, dX, denSub, denIte, asB, dY]
noncomputable def mgLL_fn : FnD := { f := 3, args := argsAV [shrsArg 60 0, shrsArg 61 3, .one (.int .i64 6)], heap := hRoot ++ argsBlk [shrsArg 60 0, shrsArg 61 3, .one (.int .i64 6)], N := 100, M := 100, out := .sbool (.boo true), news := [] }
noncomputable def mgLL_call : Env → CallL := fun E => acallAll E (evH E (CZLL E) ((fun E => oneH 3 (hooks [(4, lAmL_D.hook E.facts lam_vs)])) E) 9)
noncomputable def mgLL_pre : List (X × Bool) := []
noncomputable def mgLL_t : GTree := (.fork yEZ_9 (.fork yEZ_16 (.fork yEZ_8 (.leaf [[]]) (.fork yEZ_6 (.fork yEZ_10 (.fork yEZ_5 (.leaf [[]]) (.fork yEZ_12 (.fork yEZ_11 (.fork yEZ_4 (.fork yEZ_1 (.fork yEZ_7 (.fork yEZ_13 (.fork yEZ_14 (.fork yEZ_19 (.leaf [[]]) .bad) .bad) (.fork yEZ_14 (.fork yEZ_25 (.fork yEZ_22 (.fork yEZ_19 (.leaf [[]]) .bad) .bad) .bad) .bad)) (.fork yEZ_14 (.fork yEZ_17 (.fork yEZ_19 (.leaf [[]]) .bad) .bad) .bad)) (.fork yEZ_7 (.fork yEZ_13 (.fork yEZ_14 (.fork yEZ_24 (.fork yEZ_20 (.fork yEZ_19 (.leaf [[]]) .bad) .bad) .bad) .bad) (.fork yEZ_14 (.fork yEZ_24 (.fork yEZ_20 (.fork yEZ_25 (.fork yEZ_22 (.fork yEZ_19 (.leaf [[]]) .bad) .bad) .bad) .bad) .bad) .bad)) (.fork yEZ_14 (.fork yEZ_24 (.fork yEZ_20 (.fork yEZ_17 (.fork yEZ_19 (.leaf [[]]) .bad) .bad) .bad) .bad) .bad))) (.fork yEZ_14 (.fork yEZ_23 (.fork yEZ_19 (.leaf [[]]) .bad) .bad) .bad)) (.leaf [[]])) .bad)) (.leaf [[]])) (.fork yEZ_5 (.leaf [[]]) (.fork yEZ_12 (.fork yEZ_11 (.fork yEZ_4 (.fork yEZ_1 (.fork yEZ_7 (.fork yEZ_13 (.fork yEZ_14 (.fork yEZ_19 (.leaf [[]]) .bad) .bad) (.fork yEZ_14 (.fork yEZ_25 (.fork yEZ_22 (.fork yEZ_19 (.leaf [[]]) .bad) .bad) .bad) .bad)) (.fork yEZ_14 (.fork yEZ_17 (.fork yEZ_19 (.leaf [[]]) .bad) .bad) .bad)) (.fork yEZ_7 (.fork yEZ_13 (.fork yEZ_14 (.fork yEZ_24 (.fork yEZ_20 (.fork yEZ_19 (.leaf [[]]) .bad) .bad) .bad) .bad) (.fork yEZ_14 (.fork yEZ_24 (.fork yEZ_20 (.fork yEZ_25 (.fork yEZ_22 (.fork yEZ_19 (.leaf [[]]) .bad) .bad) .bad) .bad) .bad) .bad)) (.fork yEZ_14 (.fork yEZ_24 (.fork yEZ_20 (.fork yEZ_17 (.fork yEZ_19 (.leaf [[]]) .bad) .bad) .bad) .bad) .bad))) (.fork yEZ_14 (.fork yEZ_23 (.fork yEZ_19 (.leaf [[]]) .bad) .bad) .bad)) (.leaf [[]])) .bad)))) (.leaf [[]])) (.fork yEZ_8 (.leaf [[]]) (.fork yEZ_6 (.fork yEZ_10 (.fork yEZ_5 (.leaf [[]]) (.fork yEZ_12 (.fork yEZ_11 (.fork yEZ_4 (.fork yEZ_1 (.fork yEZ_7 (.fork yEZ_13 (.fork yEZ_14 (.fork yEZ_19 (.leaf [[]]) .bad) .bad) (.fork yEZ_14 (.fork yEZ_25 (.fork yEZ_22 (.fork yEZ_19 (.leaf [[]]) .bad) .bad) .bad) .bad)) (.fork yEZ_14 (.fork yEZ_17 (.fork yEZ_19 (.leaf [[]]) .bad) .bad) .bad)) (.fork yEZ_7 (.fork yEZ_13 (.fork yEZ_14 (.fork yEZ_24 (.fork yEZ_20 (.fork yEZ_19 (.leaf [[]]) .bad) .bad) .bad) .bad) (.fork yEZ_14 (.fork yEZ_24 (.fork yEZ_20 (.fork yEZ_25 (.fork yEZ_22 (.fork yEZ_19 (.leaf [[]]) .bad) .bad) .bad) .bad) .bad) .bad)) (.fork yEZ_14 (.fork yEZ_24 (.fork yEZ_20 (.fork yEZ_17 (.fork yEZ_19 (.leaf [[]]) .bad) .bad) .bad) .bad) .bad))) (.fork yEZ_14 (.fork yEZ_23 (.fork yEZ_19 (.leaf [[]]) .bad) .bad) .bad)) (.leaf [[]])) .bad)) (.leaf [[]])) (.fork yEZ_5 (.leaf [[]]) (.fork yEZ_12 (.fork yEZ_11 (.fork yEZ_4 (.fork yEZ_1 (.fork yEZ_7 (.fork yEZ_13 (.fork yEZ_14 (.fork yEZ_19 (.leaf [[]]) .bad) .bad) (.fork yEZ_14 (.fork yEZ_25 (.fork yEZ_22 (.fork yEZ_19 (.leaf [[]]) .bad) .bad) .bad) .bad)) (.fork yEZ_14 (.fork yEZ_17 (.fork yEZ_19 (.leaf [[]]) .bad) .bad) .bad)) (.fork yEZ_7 (.fork yEZ_13 (.fork yEZ_14 (.fork yEZ_24 (.fork yEZ_20 (.fork yEZ_19 (.leaf [[]]) .bad) .bad) .bad) .bad) (.fork yEZ_14 (.fork yEZ_24 (.fork yEZ_20 (.fork yEZ_25 (.fork yEZ_22 (.fork yEZ_19 (.leaf [[]]) .bad) .bad) .bad) .bad) .bad) .bad)) (.fork yEZ_14 (.fork yEZ_24 (.fork yEZ_20 (.fork yEZ_17 (.fork yEZ_19 (.leaf [[]]) .bad) .bad) .bad) .bad) .bad))) (.fork yEZ_14 (.fork yEZ_23 (.fork yEZ_19 (.leaf [[]]) .bad) .bad) .bad)) (.leaf [[]])) .bad)))))
noncomputable def mgLL_l : List (List (X × Bool) × Option Pairs) := [([(yEZ_8, true), (yEZ_16, true), (yEZ_9, true)], some []),
  ([(yEZ_5, true), (yEZ_10, true), (yEZ_6, true), (yEZ_8, false), (yEZ_16, true), (yEZ_9, true)], some []),
  ([(yEZ_19, true), (yEZ_14, true), (yEZ_13, true), (yEZ_7, true), (yEZ_1, true), (yEZ_4, true), (yEZ_11, true), (yEZ_12, true), (yEZ_5, false), (yEZ_10, true), (yEZ_6, true), (yEZ_8, false), (yEZ_16, true), (yEZ_9, true)], some [(.boo true, yEZ_15)]),
  ([(yEZ_19, false), (yEZ_14, true), (yEZ_13, true), (yEZ_7, true), (yEZ_1, true), (yEZ_4, true), (yEZ_11, true), (yEZ_12, true), (yEZ_5, false), (yEZ_10, true), (yEZ_6, true), (yEZ_8, false), (yEZ_16, true), (yEZ_9, true)], none),
  ([(yEZ_14, false), (yEZ_13, true), (yEZ_7, true), (yEZ_1, true), (yEZ_4, true), (yEZ_11, true), (yEZ_12, true), (yEZ_5, false), (yEZ_10, true), (yEZ_6, true), (yEZ_8, false), (yEZ_16, true), (yEZ_9, true)], none),
  ([(yEZ_19, true), (yEZ_22, true), (yEZ_25, true), (yEZ_14, true), (yEZ_13, false), (yEZ_7, true), (yEZ_1, true), (yEZ_4, true), (yEZ_11, true), (yEZ_12, true), (yEZ_5, false), (yEZ_10, true), (yEZ_6, true), (yEZ_8, false), (yEZ_16, true), (yEZ_9, true)], some [(.boo true, yEZ_15)]),
  ([(yEZ_19, false), (yEZ_22, true), (yEZ_25, true), (yEZ_14, true), (yEZ_13, false), (yEZ_7, true), (yEZ_1, true), (yEZ_4, true), (yEZ_11, true), (yEZ_12, true), (yEZ_5, false), (yEZ_10, true), (yEZ_6, true), (yEZ_8, false), (yEZ_16, true), (yEZ_9, true)], none),
  ([(yEZ_22, false), (yEZ_25, true), (yEZ_14, true), (yEZ_13, false), (yEZ_7, true), (yEZ_1, true), (yEZ_4, true), (yEZ_11, true), (yEZ_12, true), (yEZ_5, false), (yEZ_10, true), (yEZ_6, true), (yEZ_8, false), (yEZ_16, true), (yEZ_9, true)], none),
  ([(yEZ_25, false), (yEZ_14, true), (yEZ_13, false), (yEZ_7, true), (yEZ_1, true), (yEZ_4, true), (yEZ_11, true), (yEZ_12, true), (yEZ_5, false), (yEZ_10, true), (yEZ_6, true), (yEZ_8, false), (yEZ_16, true), (yEZ_9, true)], none),
  ([(yEZ_14, false), (yEZ_13, false), (yEZ_7, true), (yEZ_1, true), (yEZ_4, true), (yEZ_11, true), (yEZ_12, true), (yEZ_5, false), (yEZ_10, true), (yEZ_6, true), (yEZ_8, false), (yEZ_16, true), (yEZ_9, true)], none),
  ([(yEZ_19, true), (yEZ_17, true), (yEZ_14, true), (yEZ_7, false), (yEZ_1, true), (yEZ_4, true), (yEZ_11, true), (yEZ_12, true), (yEZ_5, false), (yEZ_10, true), (yEZ_6, true), (yEZ_8, false), (yEZ_16, true), (yEZ_9, true)], some [(.boo true, yEZ_15)]),
  ([(yEZ_19, false), (yEZ_17, true), (yEZ_14, true), (yEZ_7, false), (yEZ_1, true), (yEZ_4, true), (yEZ_11, true), (yEZ_12, true), (yEZ_5, false), (yEZ_10, true), (yEZ_6, true), (yEZ_8, false), (yEZ_16, true), (yEZ_9, true)], none),
  ([(yEZ_17, false), (yEZ_14, true), (yEZ_7, false), (yEZ_1, true), (yEZ_4, true), (yEZ_11, true), (yEZ_12, true), (yEZ_5, false), (yEZ_10, true), (yEZ_6, true), (yEZ_8, false), (yEZ_16, true), (yEZ_9, true)], none),
  ([(yEZ_14, false), (yEZ_7, false), (yEZ_1, true), (yEZ_4, true), (yEZ_11, true), (yEZ_12, true), (yEZ_5, false), (yEZ_10, true), (yEZ_6, true), (yEZ_8, false), (yEZ_16, true), (yEZ_9, true)], none),
  ([(yEZ_19, true), (yEZ_20, true), (yEZ_24, true), (yEZ_14, true), (yEZ_13, true), (yEZ_7, true), (yEZ_1, false), (yEZ_4, true), (yEZ_11, true), (yEZ_12, true), (yEZ_5, false), (yEZ_10, true), (yEZ_6, true), (yEZ_8, false), (yEZ_16, true), (yEZ_9, true)], some [(.boo true, yEZ_15)]),
  ([(yEZ_19, false), (yEZ_20, true), (yEZ_24, true), (yEZ_14, true), (yEZ_13, true), (yEZ_7, true), (yEZ_1, false), (yEZ_4, true), (yEZ_11, true), (yEZ_12, true), (yEZ_5, false), (yEZ_10, true), (yEZ_6, true), (yEZ_8, false), (yEZ_16, true), (yEZ_9, true)], none),
  ([(yEZ_20, false), (yEZ_24, true), (yEZ_14, true), (yEZ_13, true), (yEZ_7, true), (yEZ_1, false), (yEZ_4, true), (yEZ_11, true), (yEZ_12, true), (yEZ_5, false), (yEZ_10, true), (yEZ_6, true), (yEZ_8, false), (yEZ_16, true), (yEZ_9, true)], none),
  ([(yEZ_24, false), (yEZ_14, true), (yEZ_13, true), (yEZ_7, true), (yEZ_1, false), (yEZ_4, true), (yEZ_11, true), (yEZ_12, true), (yEZ_5, false), (yEZ_10, true), (yEZ_6, true), (yEZ_8, false), (yEZ_16, true), (yEZ_9, true)], none),
  ([(yEZ_14, false), (yEZ_13, true), (yEZ_7, true), (yEZ_1, false), (yEZ_4, true), (yEZ_11, true), (yEZ_12, true), (yEZ_5, false), (yEZ_10, true), (yEZ_6, true), (yEZ_8, false), (yEZ_16, true), (yEZ_9, true)], none),
  ([(yEZ_19, true), (yEZ_22, true), (yEZ_25, true), (yEZ_20, true), (yEZ_24, true), (yEZ_14, true), (yEZ_13, false), (yEZ_7, true), (yEZ_1, false), (yEZ_4, true), (yEZ_11, true), (yEZ_12, true), (yEZ_5, false), (yEZ_10, true), (yEZ_6, true), (yEZ_8, false), (yEZ_16, true), (yEZ_9, true)], some [(.boo true, yEZ_15)]),
  ([(yEZ_19, false), (yEZ_22, true), (yEZ_25, true), (yEZ_20, true), (yEZ_24, true), (yEZ_14, true), (yEZ_13, false), (yEZ_7, true), (yEZ_1, false), (yEZ_4, true), (yEZ_11, true), (yEZ_12, true), (yEZ_5, false), (yEZ_10, true), (yEZ_6, true), (yEZ_8, false), (yEZ_16, true), (yEZ_9, true)], none),
  ([(yEZ_22, false), (yEZ_25, true), (yEZ_20, true), (yEZ_24, true), (yEZ_14, true), (yEZ_13, false), (yEZ_7, true), (yEZ_1, false), (yEZ_4, true), (yEZ_11, true), (yEZ_12, true), (yEZ_5, false), (yEZ_10, true), (yEZ_6, true), (yEZ_8, false), (yEZ_16, true), (yEZ_9, true)], none),
  ([(yEZ_25, false), (yEZ_20, true), (yEZ_24, true), (yEZ_14, true), (yEZ_13, false), (yEZ_7, true), (yEZ_1, false), (yEZ_4, true), (yEZ_11, true), (yEZ_12, true), (yEZ_5, false), (yEZ_10, true), (yEZ_6, true), (yEZ_8, false), (yEZ_16, true), (yEZ_9, true)], none),
  ([(yEZ_20, false), (yEZ_24, true), (yEZ_14, true), (yEZ_13, false), (yEZ_7, true), (yEZ_1, false), (yEZ_4, true), (yEZ_11, true), (yEZ_12, true), (yEZ_5, false), (yEZ_10, true), (yEZ_6, true), (yEZ_8, false), (yEZ_16, true), (yEZ_9, true)], none),
  ([(yEZ_24, false), (yEZ_14, true), (yEZ_13, false), (yEZ_7, true), (yEZ_1, false), (yEZ_4, true), (yEZ_11, true), (yEZ_12, true), (yEZ_5, false), (yEZ_10, true), (yEZ_6, true), (yEZ_8, false), (yEZ_16, true), (yEZ_9, true)], none),
  ([(yEZ_14, false), (yEZ_13, false), (yEZ_7, true), (yEZ_1, false), (yEZ_4, true), (yEZ_11, true), (yEZ_12, true), (yEZ_5, false), (yEZ_10, true), (yEZ_6, true), (yEZ_8, false), (yEZ_16, true), (yEZ_9, true)], none),
  ([(yEZ_19, true), (yEZ_17, true), (yEZ_20, true), (yEZ_24, true), (yEZ_14, true), (yEZ_7, false), (yEZ_1, false), (yEZ_4, true), (yEZ_11, true), (yEZ_12, true), (yEZ_5, false), (yEZ_10, true), (yEZ_6, true), (yEZ_8, false), (yEZ_16, true), (yEZ_9, true)], some [(.boo true, yEZ_15)]),
  ([(yEZ_19, false), (yEZ_17, true), (yEZ_20, true), (yEZ_24, true), (yEZ_14, true), (yEZ_7, false), (yEZ_1, false), (yEZ_4, true), (yEZ_11, true), (yEZ_12, true), (yEZ_5, false), (yEZ_10, true), (yEZ_6, true), (yEZ_8, false), (yEZ_16, true), (yEZ_9, true)], none),
  ([(yEZ_17, false), (yEZ_20, true), (yEZ_24, true), (yEZ_14, true), (yEZ_7, false), (yEZ_1, false), (yEZ_4, true), (yEZ_11, true), (yEZ_12, true), (yEZ_5, false), (yEZ_10, true), (yEZ_6, true), (yEZ_8, false), (yEZ_16, true), (yEZ_9, true)], none),
  ([(yEZ_20, false), (yEZ_24, true), (yEZ_14, true), (yEZ_7, false), (yEZ_1, false), (yEZ_4, true), (yEZ_11, true), (yEZ_12, true), (yEZ_5, false), (yEZ_10, true), (yEZ_6, true), (yEZ_8, false), (yEZ_16, true), (yEZ_9, true)], none),
  ([(yEZ_24, false), (yEZ_14, true), (yEZ_7, false), (yEZ_1, false), (yEZ_4, true), (yEZ_11, true), (yEZ_12, true), (yEZ_5, false), (yEZ_10, true), (yEZ_6, true), (yEZ_8, false), (yEZ_16, true), (yEZ_9, true)], none),
  ([(yEZ_14, false), (yEZ_7, false), (yEZ_1, false), (yEZ_4, true), (yEZ_11, true), (yEZ_12, true), (yEZ_5, false), (yEZ_10, true), (yEZ_6, true), (yEZ_8, false), (yEZ_16, true), (yEZ_9, true)], none),
  ([(yEZ_19, true), (yEZ_23, true), (yEZ_14, true), (yEZ_4, false), (yEZ_11, true), (yEZ_12, true), (yEZ_5, false), (yEZ_10, true), (yEZ_6, true), (yEZ_8, false), (yEZ_16, true), (yEZ_9, true)], some [(.boo true, yEZ_15)]),
  ([(yEZ_19, false), (yEZ_23, true), (yEZ_14, true), (yEZ_4, false), (yEZ_11, true), (yEZ_12, true), (yEZ_5, false), (yEZ_10, true), (yEZ_6, true), (yEZ_8, false), (yEZ_16, true), (yEZ_9, true)], none),
  ([(yEZ_23, false), (yEZ_14, true), (yEZ_4, false), (yEZ_11, true), (yEZ_12, true), (yEZ_5, false), (yEZ_10, true), (yEZ_6, true), (yEZ_8, false), (yEZ_16, true), (yEZ_9, true)], none),
  ([(yEZ_14, false), (yEZ_4, false), (yEZ_11, true), (yEZ_12, true), (yEZ_5, false), (yEZ_10, true), (yEZ_6, true), (yEZ_8, false), (yEZ_16, true), (yEZ_9, true)], none),
  ([(yEZ_11, false), (yEZ_12, true), (yEZ_5, false), (yEZ_10, true), (yEZ_6, true), (yEZ_8, false), (yEZ_16, true), (yEZ_9, true)], some []),
  ([(yEZ_12, false), (yEZ_5, false), (yEZ_10, true), (yEZ_6, true), (yEZ_8, false), (yEZ_16, true), (yEZ_9, true)], none),
  ([(yEZ_10, false), (yEZ_6, true), (yEZ_8, false), (yEZ_16, true), (yEZ_9, true)], some []),
  ([(yEZ_5, true), (yEZ_6, false), (yEZ_8, false), (yEZ_16, true), (yEZ_9, true)], some []),
  ([(yEZ_19, true), (yEZ_14, true), (yEZ_13, true), (yEZ_7, true), (yEZ_1, true), (yEZ_4, true), (yEZ_11, true), (yEZ_12, true), (yEZ_5, false), (yEZ_6, false), (yEZ_8, false), (yEZ_16, true), (yEZ_9, true)], some [(.boo true, yEZ_15)]),
  ([(yEZ_19, false), (yEZ_14, true), (yEZ_13, true), (yEZ_7, true), (yEZ_1, true), (yEZ_4, true), (yEZ_11, true), (yEZ_12, true), (yEZ_5, false), (yEZ_6, false), (yEZ_8, false), (yEZ_16, true), (yEZ_9, true)], none),
  ([(yEZ_14, false), (yEZ_13, true), (yEZ_7, true), (yEZ_1, true), (yEZ_4, true), (yEZ_11, true), (yEZ_12, true), (yEZ_5, false), (yEZ_6, false), (yEZ_8, false), (yEZ_16, true), (yEZ_9, true)], none),
  ([(yEZ_19, true), (yEZ_22, true), (yEZ_25, true), (yEZ_14, true), (yEZ_13, false), (yEZ_7, true), (yEZ_1, true), (yEZ_4, true), (yEZ_11, true), (yEZ_12, true), (yEZ_5, false), (yEZ_6, false), (yEZ_8, false), (yEZ_16, true), (yEZ_9, true)], some [(.boo true, yEZ_15)]),
  ([(yEZ_19, false), (yEZ_22, true), (yEZ_25, true), (yEZ_14, true), (yEZ_13, false), (yEZ_7, true), (yEZ_1, true), (yEZ_4, true), (yEZ_11, true), (yEZ_12, true), (yEZ_5, false), (yEZ_6, false), (yEZ_8, false), (yEZ_16, true), (yEZ_9, true)], none),
  ([(yEZ_22, false), (yEZ_25, true), (yEZ_14, true), (yEZ_13, false), (yEZ_7, true), (yEZ_1, true), (yEZ_4, true), (yEZ_11, true), (yEZ_12, true), (yEZ_5, false), (yEZ_6, false), (yEZ_8, false), (yEZ_16, true), (yEZ_9, true)], none),
  ([(yEZ_25, false), (yEZ_14, true), (yEZ_13, false), (yEZ_7, true), (yEZ_1, true), (yEZ_4, true), (yEZ_11, true), (yEZ_12, true), (yEZ_5, false), (yEZ_6, false), (yEZ_8, false), (yEZ_16, true), (yEZ_9, true)], none),
  ([(yEZ_14, false), (yEZ_13, false), (yEZ_7, true), (yEZ_1, true), (yEZ_4, true), (yEZ_11, true), (yEZ_12, true), (yEZ_5, false), (yEZ_6, false), (yEZ_8, false), (yEZ_16, true), (yEZ_9, true)], none),
  ([(yEZ_19, true), (yEZ_17, true), (yEZ_14, true), (yEZ_7, false), (yEZ_1, true), (yEZ_4, true), (yEZ_11, true), (yEZ_12, true), (yEZ_5, false), (yEZ_6, false), (yEZ_8, false), (yEZ_16, true), (yEZ_9, true)], some [(.boo true, yEZ_15)]),
  ([(yEZ_19, false), (yEZ_17, true), (yEZ_14, true), (yEZ_7, false), (yEZ_1, true), (yEZ_4, true), (yEZ_11, true), (yEZ_12, true), (yEZ_5, false), (yEZ_6, false), (yEZ_8, false), (yEZ_16, true), (yEZ_9, true)], none),
  ([(yEZ_17, false), (yEZ_14, true), (yEZ_7, false), (yEZ_1, true), (yEZ_4, true), (yEZ_11, true), (yEZ_12, true), (yEZ_5, false), (yEZ_6, false), (yEZ_8, false), (yEZ_16, true), (yEZ_9, true)], none),
  ([(yEZ_14, false), (yEZ_7, false), (yEZ_1, true), (yEZ_4, true), (yEZ_11, true), (yEZ_12, true), (yEZ_5, false), (yEZ_6, false), (yEZ_8, false), (yEZ_16, true), (yEZ_9, true)], none),
  ([(yEZ_19, true), (yEZ_20, true), (yEZ_24, true), (yEZ_14, true), (yEZ_13, true), (yEZ_7, true), (yEZ_1, false), (yEZ_4, true), (yEZ_11, true), (yEZ_12, true), (yEZ_5, false), (yEZ_6, false), (yEZ_8, false), (yEZ_16, true), (yEZ_9, true)], some [(.boo true, yEZ_15)]),
  ([(yEZ_19, false), (yEZ_20, true), (yEZ_24, true), (yEZ_14, true), (yEZ_13, true), (yEZ_7, true), (yEZ_1, false), (yEZ_4, true), (yEZ_11, true), (yEZ_12, true), (yEZ_5, false), (yEZ_6, false), (yEZ_8, false), (yEZ_16, true), (yEZ_9, true)], none),
  ([(yEZ_20, false), (yEZ_24, true), (yEZ_14, true), (yEZ_13, true), (yEZ_7, true), (yEZ_1, false), (yEZ_4, true), (yEZ_11, true), (yEZ_12, true), (yEZ_5, false), (yEZ_6, false), (yEZ_8, false), (yEZ_16, true), (yEZ_9, true)], none),
  ([(yEZ_24, false), (yEZ_14, true), (yEZ_13, true), (yEZ_7, true), (yEZ_1, false), (yEZ_4, true), (yEZ_11, true), (yEZ_12, true), (yEZ_5, false), (yEZ_6, false), (yEZ_8, false), (yEZ_16, true), (yEZ_9, true)], none),
  ([(yEZ_14, false), (yEZ_13, true), (yEZ_7, true), (yEZ_1, false), (yEZ_4, true), (yEZ_11, true), (yEZ_12, true), (yEZ_5, false), (yEZ_6, false), (yEZ_8, false), (yEZ_16, true), (yEZ_9, true)], none),
  ([(yEZ_19, true), (yEZ_22, true), (yEZ_25, true), (yEZ_20, true), (yEZ_24, true), (yEZ_14, true), (yEZ_13, false), (yEZ_7, true), (yEZ_1, false), (yEZ_4, true), (yEZ_11, true), (yEZ_12, true), (yEZ_5, false), (yEZ_6, false), (yEZ_8, false), (yEZ_16, true), (yEZ_9, true)], some [(.boo true, yEZ_15)]),
  ([(yEZ_19, false), (yEZ_22, true), (yEZ_25, true), (yEZ_20, true), (yEZ_24, true), (yEZ_14, true), (yEZ_13, false), (yEZ_7, true), (yEZ_1, false), (yEZ_4, true), (yEZ_11, true), (yEZ_12, true), (yEZ_5, false), (yEZ_6, false), (yEZ_8, false), (yEZ_16, true), (yEZ_9, true)], none),
  ([(yEZ_22, false), (yEZ_25, true), (yEZ_20, true), (yEZ_24, true), (yEZ_14, true), (yEZ_13, false), (yEZ_7, true), (yEZ_1, false), (yEZ_4, true), (yEZ_11, true), (yEZ_12, true), (yEZ_5, false), (yEZ_6, false), (yEZ_8, false), (yEZ_16, true), (yEZ_9, true)], none),
  ([(yEZ_25, false), (yEZ_20, true), (yEZ_24, true), (yEZ_14, true), (yEZ_13, false), (yEZ_7, true), (yEZ_1, false), (yEZ_4, true), (yEZ_11, true), (yEZ_12, true), (yEZ_5, false), (yEZ_6, false), (yEZ_8, false), (yEZ_16, true), (yEZ_9, true)], none),
  ([(yEZ_20, false), (yEZ_24, true), (yEZ_14, true), (yEZ_13, false), (yEZ_7, true), (yEZ_1, false), (yEZ_4, true), (yEZ_11, true), (yEZ_12, true), (yEZ_5, false), (yEZ_6, false), (yEZ_8, false), (yEZ_16, true), (yEZ_9, true)], none),
  ([(yEZ_24, false), (yEZ_14, true), (yEZ_13, false), (yEZ_7, true), (yEZ_1, false), (yEZ_4, true), (yEZ_11, true), (yEZ_12, true), (yEZ_5, false), (yEZ_6, false), (yEZ_8, false), (yEZ_16, true), (yEZ_9, true)], none),
  ([(yEZ_14, false), (yEZ_13, false), (yEZ_7, true), (yEZ_1, false), (yEZ_4, true), (yEZ_11, true), (yEZ_12, true), (yEZ_5, false), (yEZ_6, false), (yEZ_8, false), (yEZ_16, true), (yEZ_9, true)], none),
  ([(yEZ_19, true), (yEZ_17, true), (yEZ_20, true), (yEZ_24, true), (yEZ_14, true), (yEZ_7, false), (yEZ_1, false), (yEZ_4, true), (yEZ_11, true), (yEZ_12, true), (yEZ_5, false), (yEZ_6, false), (yEZ_8, false), (yEZ_16, true), (yEZ_9, true)], some [(.boo true, yEZ_15)]),
  ([(yEZ_19, false), (yEZ_17, true), (yEZ_20, true), (yEZ_24, true), (yEZ_14, true), (yEZ_7, false), (yEZ_1, false), (yEZ_4, true), (yEZ_11, true), (yEZ_12, true), (yEZ_5, false), (yEZ_6, false), (yEZ_8, false), (yEZ_16, true), (yEZ_9, true)], none),
  ([(yEZ_17, false), (yEZ_20, true), (yEZ_24, true), (yEZ_14, true), (yEZ_7, false), (yEZ_1, false), (yEZ_4, true), (yEZ_11, true), (yEZ_12, true), (yEZ_5, false), (yEZ_6, false), (yEZ_8, false), (yEZ_16, true), (yEZ_9, true)], none),
  ([(yEZ_20, false), (yEZ_24, true), (yEZ_14, true), (yEZ_7, false), (yEZ_1, false), (yEZ_4, true), (yEZ_11, true), (yEZ_12, true), (yEZ_5, false), (yEZ_6, false), (yEZ_8, false), (yEZ_16, true), (yEZ_9, true)], none),
  ([(yEZ_24, false), (yEZ_14, true), (yEZ_7, false), (yEZ_1, false), (yEZ_4, true), (yEZ_11, true), (yEZ_12, true), (yEZ_5, false), (yEZ_6, false), (yEZ_8, false), (yEZ_16, true), (yEZ_9, true)], none),
  ([(yEZ_14, false), (yEZ_7, false), (yEZ_1, false), (yEZ_4, true), (yEZ_11, true), (yEZ_12, true), (yEZ_5, false), (yEZ_6, false), (yEZ_8, false), (yEZ_16, true), (yEZ_9, true)], none),
  ([(yEZ_19, true), (yEZ_23, true), (yEZ_14, true), (yEZ_4, false), (yEZ_11, true), (yEZ_12, true), (yEZ_5, false), (yEZ_6, false), (yEZ_8, false), (yEZ_16, true), (yEZ_9, true)], some [(.boo true, yEZ_15)]),
  ([(yEZ_19, false), (yEZ_23, true), (yEZ_14, true), (yEZ_4, false), (yEZ_11, true), (yEZ_12, true), (yEZ_5, false), (yEZ_6, false), (yEZ_8, false), (yEZ_16, true), (yEZ_9, true)], none),
  ([(yEZ_23, false), (yEZ_14, true), (yEZ_4, false), (yEZ_11, true), (yEZ_12, true), (yEZ_5, false), (yEZ_6, false), (yEZ_8, false), (yEZ_16, true), (yEZ_9, true)], none),
  ([(yEZ_14, false), (yEZ_4, false), (yEZ_11, true), (yEZ_12, true), (yEZ_5, false), (yEZ_6, false), (yEZ_8, false), (yEZ_16, true), (yEZ_9, true)], none),
  ([(yEZ_11, false), (yEZ_12, true), (yEZ_5, false), (yEZ_6, false), (yEZ_8, false), (yEZ_16, true), (yEZ_9, true)], some []),
  ([(yEZ_12, false), (yEZ_5, false), (yEZ_6, false), (yEZ_8, false), (yEZ_16, true), (yEZ_9, true)], none),
  ([(yEZ_16, false), (yEZ_9, true)], some []),
  ([(yEZ_8, true), (yEZ_9, false)], some []),
  ([(yEZ_5, true), (yEZ_10, true), (yEZ_6, true), (yEZ_8, false), (yEZ_9, false)], some []),
  ([(yEZ_19, true), (yEZ_14, true), (yEZ_13, true), (yEZ_7, true), (yEZ_1, true), (yEZ_4, true), (yEZ_11, true), (yEZ_12, true), (yEZ_5, false), (yEZ_10, true), (yEZ_6, true), (yEZ_8, false), (yEZ_9, false)], some [(.boo true, yEZ_15)]),
  ([(yEZ_19, false), (yEZ_14, true), (yEZ_13, true), (yEZ_7, true), (yEZ_1, true), (yEZ_4, true), (yEZ_11, true), (yEZ_12, true), (yEZ_5, false), (yEZ_10, true), (yEZ_6, true), (yEZ_8, false), (yEZ_9, false)], none),
  ([(yEZ_14, false), (yEZ_13, true), (yEZ_7, true), (yEZ_1, true), (yEZ_4, true), (yEZ_11, true), (yEZ_12, true), (yEZ_5, false), (yEZ_10, true), (yEZ_6, true), (yEZ_8, false), (yEZ_9, false)], none),
  ([(yEZ_19, true), (yEZ_22, true), (yEZ_25, true), (yEZ_14, true), (yEZ_13, false), (yEZ_7, true), (yEZ_1, true), (yEZ_4, true), (yEZ_11, true), (yEZ_12, true), (yEZ_5, false), (yEZ_10, true), (yEZ_6, true), (yEZ_8, false), (yEZ_9, false)], some [(.boo true, yEZ_15)]),
  ([(yEZ_19, false), (yEZ_22, true), (yEZ_25, true), (yEZ_14, true), (yEZ_13, false), (yEZ_7, true), (yEZ_1, true), (yEZ_4, true), (yEZ_11, true), (yEZ_12, true), (yEZ_5, false), (yEZ_10, true), (yEZ_6, true), (yEZ_8, false), (yEZ_9, false)], none),
  ([(yEZ_22, false), (yEZ_25, true), (yEZ_14, true), (yEZ_13, false), (yEZ_7, true), (yEZ_1, true), (yEZ_4, true), (yEZ_11, true), (yEZ_12, true), (yEZ_5, false), (yEZ_10, true), (yEZ_6, true), (yEZ_8, false), (yEZ_9, false)], none),
  ([(yEZ_25, false), (yEZ_14, true), (yEZ_13, false), (yEZ_7, true), (yEZ_1, true), (yEZ_4, true), (yEZ_11, true), (yEZ_12, true), (yEZ_5, false), (yEZ_10, true), (yEZ_6, true), (yEZ_8, false), (yEZ_9, false)], none),
  ([(yEZ_14, false), (yEZ_13, false), (yEZ_7, true), (yEZ_1, true), (yEZ_4, true), (yEZ_11, true), (yEZ_12, true), (yEZ_5, false), (yEZ_10, true), (yEZ_6, true), (yEZ_8, false), (yEZ_9, false)], none),
  ([(yEZ_19, true), (yEZ_17, true), (yEZ_14, true), (yEZ_7, false), (yEZ_1, true), (yEZ_4, true), (yEZ_11, true), (yEZ_12, true), (yEZ_5, false), (yEZ_10, true), (yEZ_6, true), (yEZ_8, false), (yEZ_9, false)], some [(.boo true, yEZ_15)]),
  ([(yEZ_19, false), (yEZ_17, true), (yEZ_14, true), (yEZ_7, false), (yEZ_1, true), (yEZ_4, true), (yEZ_11, true), (yEZ_12, true), (yEZ_5, false), (yEZ_10, true), (yEZ_6, true), (yEZ_8, false), (yEZ_9, false)], none),
  ([(yEZ_17, false), (yEZ_14, true), (yEZ_7, false), (yEZ_1, true), (yEZ_4, true), (yEZ_11, true), (yEZ_12, true), (yEZ_5, false), (yEZ_10, true), (yEZ_6, true), (yEZ_8, false), (yEZ_9, false)], none),
  ([(yEZ_14, false), (yEZ_7, false), (yEZ_1, true), (yEZ_4, true), (yEZ_11, true), (yEZ_12, true), (yEZ_5, false), (yEZ_10, true), (yEZ_6, true), (yEZ_8, false), (yEZ_9, false)], none),
  ([(yEZ_19, true), (yEZ_20, true), (yEZ_24, true), (yEZ_14, true), (yEZ_13, true), (yEZ_7, true), (yEZ_1, false), (yEZ_4, true), (yEZ_11, true), (yEZ_12, true), (yEZ_5, false), (yEZ_10, true), (yEZ_6, true), (yEZ_8, false), (yEZ_9, false)], some [(.boo true, yEZ_15)]),
  ([(yEZ_19, false), (yEZ_20, true), (yEZ_24, true), (yEZ_14, true), (yEZ_13, true), (yEZ_7, true), (yEZ_1, false), (yEZ_4, true), (yEZ_11, true), (yEZ_12, true), (yEZ_5, false), (yEZ_10, true), (yEZ_6, true), (yEZ_8, false), (yEZ_9, false)], none),
  ([(yEZ_20, false), (yEZ_24, true), (yEZ_14, true), (yEZ_13, true), (yEZ_7, true), (yEZ_1, false), (yEZ_4, true), (yEZ_11, true), (yEZ_12, true), (yEZ_5, false), (yEZ_10, true), (yEZ_6, true), (yEZ_8, false), (yEZ_9, false)], none),
  ([(yEZ_24, false), (yEZ_14, true), (yEZ_13, true), (yEZ_7, true), (yEZ_1, false), (yEZ_4, true), (yEZ_11, true), (yEZ_12, true), (yEZ_5, false), (yEZ_10, true), (yEZ_6, true), (yEZ_8, false), (yEZ_9, false)], none),
  ([(yEZ_14, false), (yEZ_13, true), (yEZ_7, true), (yEZ_1, false), (yEZ_4, true), (yEZ_11, true), (yEZ_12, true), (yEZ_5, false), (yEZ_10, true), (yEZ_6, true), (yEZ_8, false), (yEZ_9, false)], none),
  ([(yEZ_19, true), (yEZ_22, true), (yEZ_25, true), (yEZ_20, true), (yEZ_24, true), (yEZ_14, true), (yEZ_13, false), (yEZ_7, true), (yEZ_1, false), (yEZ_4, true), (yEZ_11, true), (yEZ_12, true), (yEZ_5, false), (yEZ_10, true), (yEZ_6, true), (yEZ_8, false), (yEZ_9, false)], some [(.boo true, yEZ_15)]),
  ([(yEZ_19, false), (yEZ_22, true), (yEZ_25, true), (yEZ_20, true), (yEZ_24, true), (yEZ_14, true), (yEZ_13, false), (yEZ_7, true), (yEZ_1, false), (yEZ_4, true), (yEZ_11, true), (yEZ_12, true), (yEZ_5, false), (yEZ_10, true), (yEZ_6, true), (yEZ_8, false), (yEZ_9, false)], none),
  ([(yEZ_22, false), (yEZ_25, true), (yEZ_20, true), (yEZ_24, true), (yEZ_14, true), (yEZ_13, false), (yEZ_7, true), (yEZ_1, false), (yEZ_4, true), (yEZ_11, true), (yEZ_12, true), (yEZ_5, false), (yEZ_10, true), (yEZ_6, true), (yEZ_8, false), (yEZ_9, false)], none),
  ([(yEZ_25, false), (yEZ_20, true), (yEZ_24, true), (yEZ_14, true), (yEZ_13, false), (yEZ_7, true), (yEZ_1, false), (yEZ_4, true), (yEZ_11, true), (yEZ_12, true), (yEZ_5, false), (yEZ_10, true), (yEZ_6, true), (yEZ_8, false), (yEZ_9, false)], none),
  ([(yEZ_20, false), (yEZ_24, true), (yEZ_14, true), (yEZ_13, false), (yEZ_7, true), (yEZ_1, false), (yEZ_4, true), (yEZ_11, true), (yEZ_12, true), (yEZ_5, false), (yEZ_10, true), (yEZ_6, true), (yEZ_8, false), (yEZ_9, false)], none),
  ([(yEZ_24, false), (yEZ_14, true), (yEZ_13, false), (yEZ_7, true), (yEZ_1, false), (yEZ_4, true), (yEZ_11, true), (yEZ_12, true), (yEZ_5, false), (yEZ_10, true), (yEZ_6, true), (yEZ_8, false), (yEZ_9, false)], none),
  ([(yEZ_14, false), (yEZ_13, false), (yEZ_7, true), (yEZ_1, false), (yEZ_4, true), (yEZ_11, true), (yEZ_12, true), (yEZ_5, false), (yEZ_10, true), (yEZ_6, true), (yEZ_8, false), (yEZ_9, false)], none),
  ([(yEZ_19, true), (yEZ_17, true), (yEZ_20, true), (yEZ_24, true), (yEZ_14, true), (yEZ_7, false), (yEZ_1, false), (yEZ_4, true), (yEZ_11, true), (yEZ_12, true), (yEZ_5, false), (yEZ_10, true), (yEZ_6, true), (yEZ_8, false), (yEZ_9, false)], some [(.boo true, yEZ_15)]),
  ([(yEZ_19, false), (yEZ_17, true), (yEZ_20, true), (yEZ_24, true), (yEZ_14, true), (yEZ_7, false), (yEZ_1, false), (yEZ_4, true), (yEZ_11, true), (yEZ_12, true), (yEZ_5, false), (yEZ_10, true), (yEZ_6, true), (yEZ_8, false), (yEZ_9, false)], none),
  ([(yEZ_17, false), (yEZ_20, true), (yEZ_24, true), (yEZ_14, true), (yEZ_7, false), (yEZ_1, false), (yEZ_4, true), (yEZ_11, true), (yEZ_12, true), (yEZ_5, false), (yEZ_10, true), (yEZ_6, true), (yEZ_8, false), (yEZ_9, false)], none),
  ([(yEZ_20, false), (yEZ_24, true), (yEZ_14, true), (yEZ_7, false), (yEZ_1, false), (yEZ_4, true), (yEZ_11, true), (yEZ_12, true), (yEZ_5, false), (yEZ_10, true), (yEZ_6, true), (yEZ_8, false), (yEZ_9, false)], none),
  ([(yEZ_24, false), (yEZ_14, true), (yEZ_7, false), (yEZ_1, false), (yEZ_4, true), (yEZ_11, true), (yEZ_12, true), (yEZ_5, false), (yEZ_10, true), (yEZ_6, true), (yEZ_8, false), (yEZ_9, false)], none),
  ([(yEZ_14, false), (yEZ_7, false), (yEZ_1, false), (yEZ_4, true), (yEZ_11, true), (yEZ_12, true), (yEZ_5, false), (yEZ_10, true), (yEZ_6, true), (yEZ_8, false), (yEZ_9, false)], none),
  ([(yEZ_19, true), (yEZ_23, true), (yEZ_14, true), (yEZ_4, false), (yEZ_11, true), (yEZ_12, true), (yEZ_5, false), (yEZ_10, true), (yEZ_6, true), (yEZ_8, false), (yEZ_9, false)], some [(.boo true, yEZ_15)]),
  ([(yEZ_19, false), (yEZ_23, true), (yEZ_14, true), (yEZ_4, false), (yEZ_11, true), (yEZ_12, true), (yEZ_5, false), (yEZ_10, true), (yEZ_6, true), (yEZ_8, false), (yEZ_9, false)], none),
  ([(yEZ_23, false), (yEZ_14, true), (yEZ_4, false), (yEZ_11, true), (yEZ_12, true), (yEZ_5, false), (yEZ_10, true), (yEZ_6, true), (yEZ_8, false), (yEZ_9, false)], none),
  ([(yEZ_14, false), (yEZ_4, false), (yEZ_11, true), (yEZ_12, true), (yEZ_5, false), (yEZ_10, true), (yEZ_6, true), (yEZ_8, false), (yEZ_9, false)], none),
  ([(yEZ_11, false), (yEZ_12, true), (yEZ_5, false), (yEZ_10, true), (yEZ_6, true), (yEZ_8, false), (yEZ_9, false)], some []),
  ([(yEZ_12, false), (yEZ_5, false), (yEZ_10, true), (yEZ_6, true), (yEZ_8, false), (yEZ_9, false)], none),
  ([(yEZ_10, false), (yEZ_6, true), (yEZ_8, false), (yEZ_9, false)], some []),
  ([(yEZ_5, true), (yEZ_6, false), (yEZ_8, false), (yEZ_9, false)], some []),
  ([(yEZ_19, true), (yEZ_14, true), (yEZ_13, true), (yEZ_7, true), (yEZ_1, true), (yEZ_4, true), (yEZ_11, true), (yEZ_12, true), (yEZ_5, false), (yEZ_6, false), (yEZ_8, false), (yEZ_9, false)], some [(.boo true, yEZ_15)]),
  ([(yEZ_19, false), (yEZ_14, true), (yEZ_13, true), (yEZ_7, true), (yEZ_1, true), (yEZ_4, true), (yEZ_11, true), (yEZ_12, true), (yEZ_5, false), (yEZ_6, false), (yEZ_8, false), (yEZ_9, false)], none),
  ([(yEZ_14, false), (yEZ_13, true), (yEZ_7, true), (yEZ_1, true), (yEZ_4, true), (yEZ_11, true), (yEZ_12, true), (yEZ_5, false), (yEZ_6, false), (yEZ_8, false), (yEZ_9, false)], none),
  ([(yEZ_19, true), (yEZ_22, true), (yEZ_25, true), (yEZ_14, true), (yEZ_13, false), (yEZ_7, true), (yEZ_1, true), (yEZ_4, true), (yEZ_11, true), (yEZ_12, true), (yEZ_5, false), (yEZ_6, false), (yEZ_8, false), (yEZ_9, false)], some [(.boo true, yEZ_15)]),
  ([(yEZ_19, false), (yEZ_22, true), (yEZ_25, true), (yEZ_14, true), (yEZ_13, false), (yEZ_7, true), (yEZ_1, true), (yEZ_4, true), (yEZ_11, true), (yEZ_12, true), (yEZ_5, false), (yEZ_6, false), (yEZ_8, false), (yEZ_9, false)], none),
  ([(yEZ_22, false), (yEZ_25, true), (yEZ_14, true), (yEZ_13, false), (yEZ_7, true), (yEZ_1, true), (yEZ_4, true), (yEZ_11, true), (yEZ_12, true), (yEZ_5, false), (yEZ_6, false), (yEZ_8, false), (yEZ_9, false)], none),
  ([(yEZ_25, false), (yEZ_14, true), (yEZ_13, false), (yEZ_7, true), (yEZ_1, true), (yEZ_4, true), (yEZ_11, true), (yEZ_12, true), (yEZ_5, false), (yEZ_6, false), (yEZ_8, false), (yEZ_9, false)], none),
  ([(yEZ_14, false), (yEZ_13, false), (yEZ_7, true), (yEZ_1, true), (yEZ_4, true), (yEZ_11, true), (yEZ_12, true), (yEZ_5, false), (yEZ_6, false), (yEZ_8, false), (yEZ_9, false)], none),
  ([(yEZ_19, true), (yEZ_17, true), (yEZ_14, true), (yEZ_7, false), (yEZ_1, true), (yEZ_4, true), (yEZ_11, true), (yEZ_12, true), (yEZ_5, false), (yEZ_6, false), (yEZ_8, false), (yEZ_9, false)], some [(.boo true, yEZ_15)]),
  ([(yEZ_19, false), (yEZ_17, true), (yEZ_14, true), (yEZ_7, false), (yEZ_1, true), (yEZ_4, true), (yEZ_11, true), (yEZ_12, true), (yEZ_5, false), (yEZ_6, false), (yEZ_8, false), (yEZ_9, false)], none),
  ([(yEZ_17, false), (yEZ_14, true), (yEZ_7, false), (yEZ_1, true), (yEZ_4, true), (yEZ_11, true), (yEZ_12, true), (yEZ_5, false), (yEZ_6, false), (yEZ_8, false), (yEZ_9, false)], none),
  ([(yEZ_14, false), (yEZ_7, false), (yEZ_1, true), (yEZ_4, true), (yEZ_11, true), (yEZ_12, true), (yEZ_5, false), (yEZ_6, false), (yEZ_8, false), (yEZ_9, false)], none),
  ([(yEZ_19, true), (yEZ_20, true), (yEZ_24, true), (yEZ_14, true), (yEZ_13, true), (yEZ_7, true), (yEZ_1, false), (yEZ_4, true), (yEZ_11, true), (yEZ_12, true), (yEZ_5, false), (yEZ_6, false), (yEZ_8, false), (yEZ_9, false)], some [(.boo true, yEZ_15)]),
  ([(yEZ_19, false), (yEZ_20, true), (yEZ_24, true), (yEZ_14, true), (yEZ_13, true), (yEZ_7, true), (yEZ_1, false), (yEZ_4, true), (yEZ_11, true), (yEZ_12, true), (yEZ_5, false), (yEZ_6, false), (yEZ_8, false), (yEZ_9, false)], none),
  ([(yEZ_20, false), (yEZ_24, true), (yEZ_14, true), (yEZ_13, true), (yEZ_7, true), (yEZ_1, false), (yEZ_4, true), (yEZ_11, true), (yEZ_12, true), (yEZ_5, false), (yEZ_6, false), (yEZ_8, false), (yEZ_9, false)], none),
  ([(yEZ_24, false), (yEZ_14, true), (yEZ_13, true), (yEZ_7, true), (yEZ_1, false), (yEZ_4, true), (yEZ_11, true), (yEZ_12, true), (yEZ_5, false), (yEZ_6, false), (yEZ_8, false), (yEZ_9, false)], none),
  ([(yEZ_14, false), (yEZ_13, true), (yEZ_7, true), (yEZ_1, false), (yEZ_4, true), (yEZ_11, true), (yEZ_12, true), (yEZ_5, false), (yEZ_6, false), (yEZ_8, false), (yEZ_9, false)], none),
  ([(yEZ_19, true), (yEZ_22, true), (yEZ_25, true), (yEZ_20, true), (yEZ_24, true), (yEZ_14, true), (yEZ_13, false), (yEZ_7, true), (yEZ_1, false), (yEZ_4, true), (yEZ_11, true), (yEZ_12, true), (yEZ_5, false), (yEZ_6, false), (yEZ_8, false), (yEZ_9, false)], some [(.boo true, yEZ_15)]),
  ([(yEZ_19, false), (yEZ_22, true), (yEZ_25, true), (yEZ_20, true), (yEZ_24, true), (yEZ_14, true), (yEZ_13, false), (yEZ_7, true), (yEZ_1, false), (yEZ_4, true), (yEZ_11, true), (yEZ_12, true), (yEZ_5, false), (yEZ_6, false), (yEZ_8, false), (yEZ_9, false)], none),
  ([(yEZ_22, false), (yEZ_25, true), (yEZ_20, true), (yEZ_24, true), (yEZ_14, true), (yEZ_13, false), (yEZ_7, true), (yEZ_1, false), (yEZ_4, true), (yEZ_11, true), (yEZ_12, true), (yEZ_5, false), (yEZ_6, false), (yEZ_8, false), (yEZ_9, false)], none),
  ([(yEZ_25, false), (yEZ_20, true), (yEZ_24, true), (yEZ_14, true), (yEZ_13, false), (yEZ_7, true), (yEZ_1, false), (yEZ_4, true), (yEZ_11, true), (yEZ_12, true), (yEZ_5, false), (yEZ_6, false), (yEZ_8, false), (yEZ_9, false)], none),
  ([(yEZ_20, false), (yEZ_24, true), (yEZ_14, true), (yEZ_13, false), (yEZ_7, true), (yEZ_1, false), (yEZ_4, true), (yEZ_11, true), (yEZ_12, true), (yEZ_5, false), (yEZ_6, false), (yEZ_8, false), (yEZ_9, false)], none),
  ([(yEZ_24, false), (yEZ_14, true), (yEZ_13, false), (yEZ_7, true), (yEZ_1, false), (yEZ_4, true), (yEZ_11, true), (yEZ_12, true), (yEZ_5, false), (yEZ_6, false), (yEZ_8, false), (yEZ_9, false)], none),
  ([(yEZ_14, false), (yEZ_13, false), (yEZ_7, true), (yEZ_1, false), (yEZ_4, true), (yEZ_11, true), (yEZ_12, true), (yEZ_5, false), (yEZ_6, false), (yEZ_8, false), (yEZ_9, false)], none),
  ([(yEZ_19, true), (yEZ_17, true), (yEZ_20, true), (yEZ_24, true), (yEZ_14, true), (yEZ_7, false), (yEZ_1, false), (yEZ_4, true), (yEZ_11, true), (yEZ_12, true), (yEZ_5, false), (yEZ_6, false), (yEZ_8, false), (yEZ_9, false)], some [(.boo true, yEZ_15)]),
  ([(yEZ_19, false), (yEZ_17, true), (yEZ_20, true), (yEZ_24, true), (yEZ_14, true), (yEZ_7, false), (yEZ_1, false), (yEZ_4, true), (yEZ_11, true), (yEZ_12, true), (yEZ_5, false), (yEZ_6, false), (yEZ_8, false), (yEZ_9, false)], none),
  ([(yEZ_17, false), (yEZ_20, true), (yEZ_24, true), (yEZ_14, true), (yEZ_7, false), (yEZ_1, false), (yEZ_4, true), (yEZ_11, true), (yEZ_12, true), (yEZ_5, false), (yEZ_6, false), (yEZ_8, false), (yEZ_9, false)], none),
  ([(yEZ_20, false), (yEZ_24, true), (yEZ_14, true), (yEZ_7, false), (yEZ_1, false), (yEZ_4, true), (yEZ_11, true), (yEZ_12, true), (yEZ_5, false), (yEZ_6, false), (yEZ_8, false), (yEZ_9, false)], none),
  ([(yEZ_24, false), (yEZ_14, true), (yEZ_7, false), (yEZ_1, false), (yEZ_4, true), (yEZ_11, true), (yEZ_12, true), (yEZ_5, false), (yEZ_6, false), (yEZ_8, false), (yEZ_9, false)], none),
  ([(yEZ_14, false), (yEZ_7, false), (yEZ_1, false), (yEZ_4, true), (yEZ_11, true), (yEZ_12, true), (yEZ_5, false), (yEZ_6, false), (yEZ_8, false), (yEZ_9, false)], none),
  ([(yEZ_19, true), (yEZ_23, true), (yEZ_14, true), (yEZ_4, false), (yEZ_11, true), (yEZ_12, true), (yEZ_5, false), (yEZ_6, false), (yEZ_8, false), (yEZ_9, false)], some [(.boo true, yEZ_15)]),
  ([(yEZ_19, false), (yEZ_23, true), (yEZ_14, true), (yEZ_4, false), (yEZ_11, true), (yEZ_12, true), (yEZ_5, false), (yEZ_6, false), (yEZ_8, false), (yEZ_9, false)], none),
  ([(yEZ_23, false), (yEZ_14, true), (yEZ_4, false), (yEZ_11, true), (yEZ_12, true), (yEZ_5, false), (yEZ_6, false), (yEZ_8, false), (yEZ_9, false)], none),
  ([(yEZ_14, false), (yEZ_4, false), (yEZ_11, true), (yEZ_12, true), (yEZ_5, false), (yEZ_6, false), (yEZ_8, false), (yEZ_9, false)], none),
  ([(yEZ_11, false), (yEZ_12, true), (yEZ_5, false), (yEZ_6, false), (yEZ_8, false), (yEZ_9, false)], some []),
  ([(yEZ_12, false), (yEZ_5, false), (yEZ_6, false), (yEZ_8, false), (yEZ_9, false)], none)]
theorem mgLL_w (r : Rho) : mgLL_fn.ways mgLL_call E1 r mgLL_pre mgLL_t = some mgLL_l := by kernel_rfl
theorem mgLL_60 : (buildH mgLL_fn.heap).get 60 = some (.rows 2 shrSch (.var 0) (.var 1) false 25) := by kernel_rfl
theorem mgLL_61 : (buildH mgLL_fn.heap).get 61 = some (.rows 2 shrSch (.var 3) (.var 4) false 25) := by kernel_rfl
theorem mgLL_out (σ : Sig) : mgLL_fn.out.inst σ = some (.bool true) := rfl
set_option maxRecDepth 100000 in
set_option maxHeartbeats 16000000 in
theorem mgLL_true {r : Rho} {σ : Sig} {w : World} {us : List Value} (hsy : r.sym = sy) (hρ : σ.rho = r) (hA : ∀ g id, E1.glob g = some id → ∃ κ, σ id = some (g, κ)) (hrel : (memOf mgLL_fn.heap 100).rel Tryz.prog σ w (fun b => w.heap.size ≤ b)) (hins : Ins σ mgLL_fn.args us) :
    Calls Tryz.prog 3 us.toArray w fun e w' => e = .returned (.bool true) ∧ Kept (fun b => w.heap.size ≤ b) w w' := by
  obtain ⟨u0, us, rfl, g0, hi⟩ := ins_cons hins
  obtain ⟨u1, us, rfl, g1, hi⟩ := ins_cons hi
  obtain ⟨u2, us, rfl, g2, hi⟩ := ins_cons hi
  obtain ⟨w_, k6, rfl, h6⟩ := one_int g2
  obtain ⟨l, h1⟩ := shrs_at hrel (i := 60) mgLL_60
  obtain ⟨m, h4⟩ := shrs_at hrel (i := 61) mgLL_61
  rw [hρ] at h1 h4 h6
  have h1 : r.val 1 = some (shrsR l) := h1
  have h4 : r.val 4 = some (shrsR m) := h4
  have n0 := chg_len (accB (accA []) l)
  have n1 := chg_len (accB (accA l) m)
  refine law_of (E := E1) (D := mgLL_fn) E1_ok (fun F => CZLL_ok F hsy) (fun F => lAmL_H h1 hsy F) (mgLL_w r) hρ hA trivial hrel hins ?_ ?_ mgLL_out
  · simp only [mgLL_pre, mgLL_t, yEZ_33, yEZ_32, yEZ_31, yEZ_30, yEZ_29, yEZ_28, yEZ_27, yEZ_26, yEZ_25, yEZ_24, yEZ_23, yEZ_22, yEZ_21, yEZ_20, yEZ_19, yEZ_18, yEZ_17, yEZ_16, yEZ_15, yEZ_14, yEZ_13, yEZ_12, yEZ_11, yEZ_10, yEZ_9, yEZ_8, yEZ_7, yEZ_6, yEZ_5, yEZ_4, yEZ_3, yEZ_2, yEZ_1, yEZ_0, AsksL, GTree.asks, FTree.asks, FactsIn, List.append_nil, List.nil_append, List.cons_append, Option.some.injEq, exists_eq', implies_true, and_self, X.bool, X.den, denL, dX, denSub, denIte, asB, dY, d_eq_sameZ, h1, h4, h6, hsy, sym10, sym21, sym22, sym110, sym111, sym112, sym115, sym116, sym117, sym118, sym119, sym122, n0, n1]
    try simp
  · simp only [mgLL_l, yEZ_33, yEZ_32, yEZ_31, yEZ_30, yEZ_29, yEZ_28, yEZ_27, yEZ_26, yEZ_25, yEZ_24, yEZ_23, yEZ_22, yEZ_21, yEZ_20, yEZ_19, yEZ_18, yEZ_17, yEZ_16, yEZ_15, yEZ_14, yEZ_13, yEZ_12, yEZ_11, yEZ_10, yEZ_9, yEZ_8, yEZ_7, yEZ_6, yEZ_5, yEZ_4, yEZ_3, yEZ_2, yEZ_1, yEZ_0, EndsOk, WaysOk, forall_cons, forall_nil, TgtOk, gpair, FactsIn, hold_cons, hold_nil, Option.some.injEq, dZ, X.bool, X.den, denL, dX, denSub, denIte, asB, dY, beq_iff_eq, beq_eq_false_iff_ne, ne_eq, d_eq_sameZ, h1, h4, h6, hsy, sym10, sym21, sym22, sym110, sym111, sym112, sym115, sym116, sym117, sym118, sym119, sym122, n0, n1]
    have a1 : (l.length : Int) ≤ 1003 → bigB l = true := fun h => len_big (by omega)
    have a2 : (l.length : Int) ≤ 1003 → shortB l = true := fun h => short_ok (by omega)
    have a3 : chkS l = 0 → bigB (chgOf (accB (accA []) l)) = true := big_none
    have a4 : chkS l = 0 → bigB (chgOf (accB (accA l) [])) = true := big_neg
    have b1 : (m.length : Int) ≤ 1003 → bigB m = true := fun h => len_big (by omega)
    have b3 : chkS m = 0 → bigB (chgOf (accB (accA []) m)) = true := big_none
    have c3 : chkS l = 0 → chkS m = 0 → bigB (chgOf (accB (accA l) m)) = true := big_chg
    clear hρ hrel hi hins g0 g1 g2 h1 h4 h6 hsy hA
    (repeat' apply And.intro) <;> intros <;> first
      | (exact True.intro)
      | rfl
      | contradiction
      | (exfalso; omega)
      | (exfalso; have q := a1 (by omega); simp_all; done)
      | (exfalso; have q := a2 (by omega); simp_all; done)
      | (exfalso; have q := a3 (by assumption); simp_all; done)
      | (exfalso; have q := a4 (by assumption); simp_all; done)
      | (exfalso; have q := b1 (by omega); simp_all; done)
      | (exfalso; have q := b3 (by assumption); simp_all; done)
      | (exfalso; have q := c3 (by assumption) (by assumption); simp_all; done)
      | (simp_all; done)
      | (exfalso; simp_all; done)
      | (exfalso; simp_all; omega)
noncomputable def mgLN_fn : FnD := { f := 3, args := argsAV [shrsArg 60 0, .nils, .one (.int .i64 6)], heap := hRoot ++ argsBlk [shrsArg 60 0, .nils, .one (.int .i64 6)], N := 100, M := 100, out := .sbool (.boo true), news := [] }
noncomputable def mgLN_call : Env → CallL := fun E => acallAll E (evH E (CZLN E) ((fun E => oneH 3 (hooks [(4, lAmN_D.hook E.facts lam_vs)])) E) 9)
noncomputable def mgLN_pre : List (X × Bool) := []
noncomputable def mgLN_t : GTree := (.fork yEZ_9 (.fork yEZ_16 (.fork yEZ_8 (.leaf [[]]) (.fork yEZ_12 (.fork yEZ_11 (.fork yEZ_4 (.fork yEZ_1 (.fork yEZ_18 (.fork yEZ_19 (.leaf [[]]) .bad) (.fork yEZ_33 (.fork yEZ_30 (.fork yEZ_19 (.leaf [[]]) .bad) .bad) .bad)) (.fork yEZ_18 (.fork yEZ_24 (.fork yEZ_20 (.fork yEZ_19 (.leaf [[]]) .bad) .bad) .bad) (.fork yEZ_24 (.fork yEZ_20 (.fork yEZ_33 (.fork yEZ_30 (.fork yEZ_19 (.leaf [[]]) .bad) .bad) .bad) .bad) .bad))) (.fork yEZ_23 (.fork yEZ_19 (.leaf [[]]) .bad) .bad)) (.leaf [[]])) .bad)) (.leaf [[]])) (.fork yEZ_8 (.leaf [[]]) (.fork yEZ_12 (.fork yEZ_11 (.fork yEZ_4 (.fork yEZ_1 (.fork yEZ_18 (.fork yEZ_19 (.leaf [[]]) .bad) (.fork yEZ_33 (.fork yEZ_30 (.fork yEZ_19 (.leaf [[]]) .bad) .bad) .bad)) (.fork yEZ_18 (.fork yEZ_24 (.fork yEZ_20 (.fork yEZ_19 (.leaf [[]]) .bad) .bad) .bad) (.fork yEZ_24 (.fork yEZ_20 (.fork yEZ_33 (.fork yEZ_30 (.fork yEZ_19 (.leaf [[]]) .bad) .bad) .bad) .bad) .bad))) (.fork yEZ_23 (.fork yEZ_19 (.leaf [[]]) .bad) .bad)) (.leaf [[]])) .bad)))
noncomputable def mgLN_l : List (List (X × Bool) × Option Pairs) := [([(yEZ_8, true), (yEZ_16, true), (yEZ_9, true)], some []),
  ([(yEZ_19, true), (yEZ_18, true), (yEZ_1, true), (yEZ_4, true), (yEZ_11, true), (yEZ_12, true), (yEZ_8, false), (yEZ_16, true), (yEZ_9, true)], some [(.boo true, yEZ_15)]),
  ([(yEZ_19, false), (yEZ_18, true), (yEZ_1, true), (yEZ_4, true), (yEZ_11, true), (yEZ_12, true), (yEZ_8, false), (yEZ_16, true), (yEZ_9, true)], none),
  ([(yEZ_19, true), (yEZ_30, true), (yEZ_33, true), (yEZ_18, false), (yEZ_1, true), (yEZ_4, true), (yEZ_11, true), (yEZ_12, true), (yEZ_8, false), (yEZ_16, true), (yEZ_9, true)], some [(.boo true, yEZ_15)]),
  ([(yEZ_19, false), (yEZ_30, true), (yEZ_33, true), (yEZ_18, false), (yEZ_1, true), (yEZ_4, true), (yEZ_11, true), (yEZ_12, true), (yEZ_8, false), (yEZ_16, true), (yEZ_9, true)], none),
  ([(yEZ_30, false), (yEZ_33, true), (yEZ_18, false), (yEZ_1, true), (yEZ_4, true), (yEZ_11, true), (yEZ_12, true), (yEZ_8, false), (yEZ_16, true), (yEZ_9, true)], none),
  ([(yEZ_33, false), (yEZ_18, false), (yEZ_1, true), (yEZ_4, true), (yEZ_11, true), (yEZ_12, true), (yEZ_8, false), (yEZ_16, true), (yEZ_9, true)], none),
  ([(yEZ_19, true), (yEZ_20, true), (yEZ_24, true), (yEZ_18, true), (yEZ_1, false), (yEZ_4, true), (yEZ_11, true), (yEZ_12, true), (yEZ_8, false), (yEZ_16, true), (yEZ_9, true)], some [(.boo true, yEZ_15)]),
  ([(yEZ_19, false), (yEZ_20, true), (yEZ_24, true), (yEZ_18, true), (yEZ_1, false), (yEZ_4, true), (yEZ_11, true), (yEZ_12, true), (yEZ_8, false), (yEZ_16, true), (yEZ_9, true)], none),
  ([(yEZ_20, false), (yEZ_24, true), (yEZ_18, true), (yEZ_1, false), (yEZ_4, true), (yEZ_11, true), (yEZ_12, true), (yEZ_8, false), (yEZ_16, true), (yEZ_9, true)], none),
  ([(yEZ_24, false), (yEZ_18, true), (yEZ_1, false), (yEZ_4, true), (yEZ_11, true), (yEZ_12, true), (yEZ_8, false), (yEZ_16, true), (yEZ_9, true)], none),
  ([(yEZ_19, true), (yEZ_30, true), (yEZ_33, true), (yEZ_20, true), (yEZ_24, true), (yEZ_18, false), (yEZ_1, false), (yEZ_4, true), (yEZ_11, true), (yEZ_12, true), (yEZ_8, false), (yEZ_16, true), (yEZ_9, true)], some [(.boo true, yEZ_15)]),
  ([(yEZ_19, false), (yEZ_30, true), (yEZ_33, true), (yEZ_20, true), (yEZ_24, true), (yEZ_18, false), (yEZ_1, false), (yEZ_4, true), (yEZ_11, true), (yEZ_12, true), (yEZ_8, false), (yEZ_16, true), (yEZ_9, true)], none),
  ([(yEZ_30, false), (yEZ_33, true), (yEZ_20, true), (yEZ_24, true), (yEZ_18, false), (yEZ_1, false), (yEZ_4, true), (yEZ_11, true), (yEZ_12, true), (yEZ_8, false), (yEZ_16, true), (yEZ_9, true)], none),
  ([(yEZ_33, false), (yEZ_20, true), (yEZ_24, true), (yEZ_18, false), (yEZ_1, false), (yEZ_4, true), (yEZ_11, true), (yEZ_12, true), (yEZ_8, false), (yEZ_16, true), (yEZ_9, true)], none),
  ([(yEZ_20, false), (yEZ_24, true), (yEZ_18, false), (yEZ_1, false), (yEZ_4, true), (yEZ_11, true), (yEZ_12, true), (yEZ_8, false), (yEZ_16, true), (yEZ_9, true)], none),
  ([(yEZ_24, false), (yEZ_18, false), (yEZ_1, false), (yEZ_4, true), (yEZ_11, true), (yEZ_12, true), (yEZ_8, false), (yEZ_16, true), (yEZ_9, true)], none),
  ([(yEZ_19, true), (yEZ_23, true), (yEZ_4, false), (yEZ_11, true), (yEZ_12, true), (yEZ_8, false), (yEZ_16, true), (yEZ_9, true)], some [(.boo true, yEZ_15)]),
  ([(yEZ_19, false), (yEZ_23, true), (yEZ_4, false), (yEZ_11, true), (yEZ_12, true), (yEZ_8, false), (yEZ_16, true), (yEZ_9, true)], none),
  ([(yEZ_23, false), (yEZ_4, false), (yEZ_11, true), (yEZ_12, true), (yEZ_8, false), (yEZ_16, true), (yEZ_9, true)], none),
  ([(yEZ_11, false), (yEZ_12, true), (yEZ_8, false), (yEZ_16, true), (yEZ_9, true)], some []),
  ([(yEZ_12, false), (yEZ_8, false), (yEZ_16, true), (yEZ_9, true)], none),
  ([(yEZ_16, false), (yEZ_9, true)], some []),
  ([(yEZ_8, true), (yEZ_9, false)], some []),
  ([(yEZ_19, true), (yEZ_18, true), (yEZ_1, true), (yEZ_4, true), (yEZ_11, true), (yEZ_12, true), (yEZ_8, false), (yEZ_9, false)], some [(.boo true, yEZ_15)]),
  ([(yEZ_19, false), (yEZ_18, true), (yEZ_1, true), (yEZ_4, true), (yEZ_11, true), (yEZ_12, true), (yEZ_8, false), (yEZ_9, false)], none),
  ([(yEZ_19, true), (yEZ_30, true), (yEZ_33, true), (yEZ_18, false), (yEZ_1, true), (yEZ_4, true), (yEZ_11, true), (yEZ_12, true), (yEZ_8, false), (yEZ_9, false)], some [(.boo true, yEZ_15)]),
  ([(yEZ_19, false), (yEZ_30, true), (yEZ_33, true), (yEZ_18, false), (yEZ_1, true), (yEZ_4, true), (yEZ_11, true), (yEZ_12, true), (yEZ_8, false), (yEZ_9, false)], none),
  ([(yEZ_30, false), (yEZ_33, true), (yEZ_18, false), (yEZ_1, true), (yEZ_4, true), (yEZ_11, true), (yEZ_12, true), (yEZ_8, false), (yEZ_9, false)], none),
  ([(yEZ_33, false), (yEZ_18, false), (yEZ_1, true), (yEZ_4, true), (yEZ_11, true), (yEZ_12, true), (yEZ_8, false), (yEZ_9, false)], none),
  ([(yEZ_19, true), (yEZ_20, true), (yEZ_24, true), (yEZ_18, true), (yEZ_1, false), (yEZ_4, true), (yEZ_11, true), (yEZ_12, true), (yEZ_8, false), (yEZ_9, false)], some [(.boo true, yEZ_15)]),
  ([(yEZ_19, false), (yEZ_20, true), (yEZ_24, true), (yEZ_18, true), (yEZ_1, false), (yEZ_4, true), (yEZ_11, true), (yEZ_12, true), (yEZ_8, false), (yEZ_9, false)], none),
  ([(yEZ_20, false), (yEZ_24, true), (yEZ_18, true), (yEZ_1, false), (yEZ_4, true), (yEZ_11, true), (yEZ_12, true), (yEZ_8, false), (yEZ_9, false)], none),
  ([(yEZ_24, false), (yEZ_18, true), (yEZ_1, false), (yEZ_4, true), (yEZ_11, true), (yEZ_12, true), (yEZ_8, false), (yEZ_9, false)], none),
  ([(yEZ_19, true), (yEZ_30, true), (yEZ_33, true), (yEZ_20, true), (yEZ_24, true), (yEZ_18, false), (yEZ_1, false), (yEZ_4, true), (yEZ_11, true), (yEZ_12, true), (yEZ_8, false), (yEZ_9, false)], some [(.boo true, yEZ_15)]),
  ([(yEZ_19, false), (yEZ_30, true), (yEZ_33, true), (yEZ_20, true), (yEZ_24, true), (yEZ_18, false), (yEZ_1, false), (yEZ_4, true), (yEZ_11, true), (yEZ_12, true), (yEZ_8, false), (yEZ_9, false)], none),
  ([(yEZ_30, false), (yEZ_33, true), (yEZ_20, true), (yEZ_24, true), (yEZ_18, false), (yEZ_1, false), (yEZ_4, true), (yEZ_11, true), (yEZ_12, true), (yEZ_8, false), (yEZ_9, false)], none),
  ([(yEZ_33, false), (yEZ_20, true), (yEZ_24, true), (yEZ_18, false), (yEZ_1, false), (yEZ_4, true), (yEZ_11, true), (yEZ_12, true), (yEZ_8, false), (yEZ_9, false)], none),
  ([(yEZ_20, false), (yEZ_24, true), (yEZ_18, false), (yEZ_1, false), (yEZ_4, true), (yEZ_11, true), (yEZ_12, true), (yEZ_8, false), (yEZ_9, false)], none),
  ([(yEZ_24, false), (yEZ_18, false), (yEZ_1, false), (yEZ_4, true), (yEZ_11, true), (yEZ_12, true), (yEZ_8, false), (yEZ_9, false)], none),
  ([(yEZ_19, true), (yEZ_23, true), (yEZ_4, false), (yEZ_11, true), (yEZ_12, true), (yEZ_8, false), (yEZ_9, false)], some [(.boo true, yEZ_15)]),
  ([(yEZ_19, false), (yEZ_23, true), (yEZ_4, false), (yEZ_11, true), (yEZ_12, true), (yEZ_8, false), (yEZ_9, false)], none),
  ([(yEZ_23, false), (yEZ_4, false), (yEZ_11, true), (yEZ_12, true), (yEZ_8, false), (yEZ_9, false)], none),
  ([(yEZ_11, false), (yEZ_12, true), (yEZ_8, false), (yEZ_9, false)], some []),
  ([(yEZ_12, false), (yEZ_8, false), (yEZ_9, false)], none)]
theorem mgLN_w (r : Rho) : mgLN_fn.ways mgLN_call E1 r mgLN_pre mgLN_t = some mgLN_l := by kernel_rfl
theorem mgLN_60 : (buildH mgLN_fn.heap).get 60 = some (.rows 2 shrSch (.var 0) (.var 1) false 25) := by kernel_rfl
theorem mgLN_out (σ : Sig) : mgLN_fn.out.inst σ = some (.bool true) := rfl
set_option maxRecDepth 100000 in
set_option maxHeartbeats 16000000 in
theorem mgLN_true {r : Rho} {σ : Sig} {w : World} {us : List Value} (hsy : r.sym = sy) (hρ : σ.rho = r) (hA : ∀ g id, E1.glob g = some id → ∃ κ, σ id = some (g, κ)) (hrel : (memOf mgLN_fn.heap 100).rel Tryz.prog σ w (fun b => w.heap.size ≤ b)) (hins : Ins σ mgLN_fn.args us) :
    Calls Tryz.prog 3 us.toArray w fun e w' => e = .returned (.bool true) ∧ Kept (fun b => w.heap.size ≤ b) w w' := by
  obtain ⟨u0, us, rfl, g0, hi⟩ := ins_cons hins
  obtain ⟨u1, us, rfl, g1, hi⟩ := ins_cons hi
  obtain ⟨u2, us, rfl, g2, hi⟩ := ins_cons hi
  obtain ⟨w_, k6, rfl, h6⟩ := one_int g2
  obtain ⟨l, h1⟩ := shrs_at hrel (i := 60) mgLN_60
  rw [hρ] at h1 h6
  have h1 : r.val 1 = some (shrsR l) := h1
  have n0 := chg_len (accB (accA []) l)
  have n1 := chg_len (accB (accA l) [])
  refine law_of (E := E1) (D := mgLN_fn) E1_ok (fun F => CZLN_ok F hsy) (fun F => lAmN_H h1 hsy F) (mgLN_w r) hρ hA trivial hrel hins ?_ ?_ mgLN_out
  · simp only [mgLN_pre, mgLN_t, yEZ_33, yEZ_32, yEZ_31, yEZ_30, yEZ_29, yEZ_28, yEZ_27, yEZ_26, yEZ_25, yEZ_24, yEZ_23, yEZ_22, yEZ_21, yEZ_20, yEZ_19, yEZ_18, yEZ_17, yEZ_16, yEZ_15, yEZ_14, yEZ_13, yEZ_12, yEZ_11, yEZ_10, yEZ_9, yEZ_8, yEZ_7, yEZ_6, yEZ_5, yEZ_4, yEZ_3, yEZ_2, yEZ_1, yEZ_0, AsksL, GTree.asks, FTree.asks, FactsIn, List.append_nil, List.nil_append, List.cons_append, Option.some.injEq, exists_eq', implies_true, and_self, X.bool, X.den, denL, dX, denSub, denIte, asB, dY, d_eq_sameZ, h1, h6, hsy, sym10, sym21, sym22, sym110, sym111, sym112, sym115, sym116, sym117, sym118, sym119, sym122, n0, n1]
    try simp
  · simp only [mgLN_l, yEZ_33, yEZ_32, yEZ_31, yEZ_30, yEZ_29, yEZ_28, yEZ_27, yEZ_26, yEZ_25, yEZ_24, yEZ_23, yEZ_22, yEZ_21, yEZ_20, yEZ_19, yEZ_18, yEZ_17, yEZ_16, yEZ_15, yEZ_14, yEZ_13, yEZ_12, yEZ_11, yEZ_10, yEZ_9, yEZ_8, yEZ_7, yEZ_6, yEZ_5, yEZ_4, yEZ_3, yEZ_2, yEZ_1, yEZ_0, EndsOk, WaysOk, forall_cons, forall_nil, TgtOk, gpair, FactsIn, hold_cons, hold_nil, Option.some.injEq, dZ, X.bool, X.den, denL, dX, denSub, denIte, asB, dY, beq_iff_eq, beq_eq_false_iff_ne, ne_eq, d_eq_sameZ, h1, h6, hsy, sym10, sym21, sym22, sym110, sym111, sym112, sym115, sym116, sym117, sym118, sym119, sym122, n0, n1]
    have a1 : (l.length : Int) ≤ 1003 → bigB l = true := fun h => len_big (by omega)
    have a2 : (l.length : Int) ≤ 1003 → shortB l = true := fun h => short_ok (by omega)
    have a3 : chkS l = 0 → bigB (chgOf (accB (accA []) l)) = true := big_none
    have a4 : chkS l = 0 → bigB (chgOf (accB (accA l) [])) = true := big_neg
    clear hρ hrel hi hins g0 g1 g2 h1 h6 hsy hA
    (repeat' apply And.intro) <;> intros <;> first
      | (exact True.intro)
      | rfl
      | contradiction
      | (exfalso; omega)
      | (exfalso; have q := a1 (by omega); simp_all; done)
      | (exfalso; have q := a2 (by omega); simp_all; done)
      | (exfalso; have q := a3 (by assumption); simp_all; done)
      | (exfalso; have q := a4 (by assumption); simp_all; done)
      | (simp_all; done)
      | (exfalso; simp_all; done)
      | (exfalso; simp_all; omega)
noncomputable def mgNL_fn : FnD := { f := 3, args := argsAV [.nils, shrsArg 61 3, .one (.int .i64 6)], heap := hRoot ++ argsBlk [.nils, shrsArg 61 3, .one (.int .i64 6)], N := 100, M := 100, out := .sbool (.boo true), news := [] }
noncomputable def mgNL_call : Env → CallL := fun E => acallAll E (evH E (CZNL E) ((fun _ => noLoops) E) 12)
noncomputable def mgNL_pre : List (X × Bool) := []
noncomputable def mgNL_t : GTree := (.fork yEZ_6 (.fork yEZ_10 (.fork yEZ_5 (.leaf [[]]) (.fork yEZ_7 (.fork yEZ_26 (.fork yEZ_14 (.leaf [[]]) .bad) (.fork yEZ_14 (.fork (.app 22 [yEZ_28]) (.fork (.app 119 [yEZ_28, yEZ_28]) (.leaf [[]]) .bad) .bad) .bad)) (.fork yEZ_14 (.fork yEZ_17 (.leaf [[]]) .bad) .bad))) (.leaf [[]])) (.fork yEZ_5 (.leaf [[]]) (.fork yEZ_7 (.fork yEZ_26 (.fork yEZ_14 (.leaf [[]]) .bad) (.fork yEZ_14 (.fork (.app 22 [yEZ_28]) (.fork (.app 119 [yEZ_28, yEZ_28]) (.leaf [[]]) .bad) .bad) .bad)) (.fork yEZ_14 (.fork yEZ_17 (.leaf [[]]) .bad) .bad))))
noncomputable def mgNL_l : List (List (X × Bool) × Option Pairs) := [([(yEZ_5, true), (yEZ_10, true), (yEZ_6, true)], some []),
  ([(yEZ_14, true), (yEZ_26, true), (yEZ_7, true), (yEZ_5, false), (yEZ_10, true), (yEZ_6, true)], some []),
  ([(yEZ_14, false), (yEZ_26, true), (yEZ_7, true), (yEZ_5, false), (yEZ_10, true), (yEZ_6, true)], none),
  ([(.app 119 [yEZ_28, yEZ_28], true), (.app 22 [yEZ_28], true), (yEZ_14, true), (yEZ_26, false), (yEZ_7, true), (yEZ_5, false), (yEZ_10, true), (yEZ_6, true)], some []),
  ([(.app 119 [yEZ_28, yEZ_28], false), (.app 22 [yEZ_28], true), (yEZ_14, true), (yEZ_26, false), (yEZ_7, true), (yEZ_5, false), (yEZ_10, true), (yEZ_6, true)], none),
  ([(.app 22 [yEZ_28], false), (yEZ_14, true), (yEZ_26, false), (yEZ_7, true), (yEZ_5, false), (yEZ_10, true), (yEZ_6, true)], none),
  ([(yEZ_14, false), (yEZ_26, false), (yEZ_7, true), (yEZ_5, false), (yEZ_10, true), (yEZ_6, true)], none),
  ([(yEZ_17, true), (yEZ_14, true), (yEZ_7, false), (yEZ_5, false), (yEZ_10, true), (yEZ_6, true)], some []),
  ([(yEZ_17, false), (yEZ_14, true), (yEZ_7, false), (yEZ_5, false), (yEZ_10, true), (yEZ_6, true)], none),
  ([(yEZ_14, false), (yEZ_7, false), (yEZ_5, false), (yEZ_10, true), (yEZ_6, true)], none),
  ([(yEZ_10, false), (yEZ_6, true)], some []),
  ([(yEZ_5, true), (yEZ_6, false)], some []),
  ([(yEZ_14, true), (yEZ_26, true), (yEZ_7, true), (yEZ_5, false), (yEZ_6, false)], some []),
  ([(yEZ_14, false), (yEZ_26, true), (yEZ_7, true), (yEZ_5, false), (yEZ_6, false)], none),
  ([(.app 119 [yEZ_28, yEZ_28], true), (.app 22 [yEZ_28], true), (yEZ_14, true), (yEZ_26, false), (yEZ_7, true), (yEZ_5, false), (yEZ_6, false)], some []),
  ([(.app 119 [yEZ_28, yEZ_28], false), (.app 22 [yEZ_28], true), (yEZ_14, true), (yEZ_26, false), (yEZ_7, true), (yEZ_5, false), (yEZ_6, false)], none),
  ([(.app 22 [yEZ_28], false), (yEZ_14, true), (yEZ_26, false), (yEZ_7, true), (yEZ_5, false), (yEZ_6, false)], none),
  ([(yEZ_14, false), (yEZ_26, false), (yEZ_7, true), (yEZ_5, false), (yEZ_6, false)], none),
  ([(yEZ_17, true), (yEZ_14, true), (yEZ_7, false), (yEZ_5, false), (yEZ_6, false)], some []),
  ([(yEZ_17, false), (yEZ_14, true), (yEZ_7, false), (yEZ_5, false), (yEZ_6, false)], none),
  ([(yEZ_14, false), (yEZ_7, false), (yEZ_5, false), (yEZ_6, false)], none)]
theorem mgNL_w (r : Rho) : mgNL_fn.ways mgNL_call E1 r mgNL_pre mgNL_t = some mgNL_l := by kernel_rfl
theorem mgNL_61 : (buildH mgNL_fn.heap).get 61 = some (.rows 2 shrSch (.var 3) (.var 4) false 25) := by kernel_rfl
theorem mgNL_out (σ : Sig) : mgNL_fn.out.inst σ = some (.bool true) := rfl
set_option maxRecDepth 100000 in
set_option maxHeartbeats 16000000 in
theorem mgNL_true {r : Rho} {σ : Sig} {w : World} {us : List Value} (hsy : r.sym = sy) (hρ : σ.rho = r) (hA : ∀ g id, E1.glob g = some id → ∃ κ, σ id = some (g, κ)) (hrel : (memOf mgNL_fn.heap 100).rel Tryz.prog σ w (fun b => w.heap.size ≤ b)) (hins : Ins σ mgNL_fn.args us) :
    Calls Tryz.prog 3 us.toArray w fun e w' => e = .returned (.bool true) ∧ Kept (fun b => w.heap.size ≤ b) w w' := by
  obtain ⟨u0, us, rfl, g0, hi⟩ := ins_cons hins
  obtain ⟨u1, us, rfl, g1, hi⟩ := ins_cons hi
  obtain ⟨u2, us, rfl, g2, hi⟩ := ins_cons hi
  obtain ⟨w_, k6, rfl, h6⟩ := one_int g2
  obtain ⟨m, h4⟩ := shrs_at hrel (i := 61) mgNL_61
  rw [hρ] at h4 h6
  have h4 : r.val 4 = some (shrsR m) := h4
  have n0 := chg_len (accB (accA []) m)
  refine law_of (E := E1) (D := mgNL_fn) E1_ok (fun F => CZNL_ok F hsy) (fun F => noH_ok) (mgNL_w r) hρ hA trivial hrel hins ?_ ?_ mgNL_out
  · simp only [mgNL_pre, mgNL_t, yEZ_33, yEZ_32, yEZ_31, yEZ_30, yEZ_29, yEZ_28, yEZ_27, yEZ_26, yEZ_25, yEZ_24, yEZ_23, yEZ_22, yEZ_21, yEZ_20, yEZ_19, yEZ_18, yEZ_17, yEZ_16, yEZ_15, yEZ_14, yEZ_13, yEZ_12, yEZ_11, yEZ_10, yEZ_9, yEZ_8, yEZ_7, yEZ_6, yEZ_5, yEZ_4, yEZ_3, yEZ_2, yEZ_1, yEZ_0, AsksL, GTree.asks, FTree.asks, FactsIn, List.append_nil, List.nil_append, List.cons_append, Option.some.injEq, exists_eq', implies_true, and_self, X.bool, X.den, denL, dX, denSub, denIte, asB, dY, d_eq_sameZ, h4, h6, hsy, sym10, sym21, sym22, sym110, sym111, sym112, sym115, sym116, sym117, sym118, sym119, sym122, n0]
    try simp
  · simp only [mgNL_l, yEZ_33, yEZ_32, yEZ_31, yEZ_30, yEZ_29, yEZ_28, yEZ_27, yEZ_26, yEZ_25, yEZ_24, yEZ_23, yEZ_22, yEZ_21, yEZ_20, yEZ_19, yEZ_18, yEZ_17, yEZ_16, yEZ_15, yEZ_14, yEZ_13, yEZ_12, yEZ_11, yEZ_10, yEZ_9, yEZ_8, yEZ_7, yEZ_6, yEZ_5, yEZ_4, yEZ_3, yEZ_2, yEZ_1, yEZ_0, EndsOk, WaysOk, forall_cons, forall_nil, TgtOk, gpair, FactsIn, hold_cons, hold_nil, Option.some.injEq, dZ, X.bool, X.den, denL, dX, denSub, denIte, asB, dY, beq_iff_eq, beq_eq_false_iff_ne, ne_eq, d_eq_sameZ, h4, h6, hsy, sym10, sym21, sym22, sym110, sym111, sym112, sym115, sym116, sym117, sym118, sym119, sym122, n0]
    have b1 : (m.length : Int) ≤ 1003 → bigB m = true := fun h => len_big (by omega)
    have b3 : chkS m = 0 → bigB (chgOf (accB (accA []) m)) = true := big_none
    clear hρ hrel hi hins g0 g1 g2 h4 h6 hsy hA
    (repeat' apply And.intro) <;> intros <;> first
      | (exact True.intro)
      | rfl
      | contradiction
      | (exfalso; omega)
      | (exfalso; have q := b1 (by omega); simp_all; done)
      | (exfalso; have q := b3 (by assumption); simp_all; done)
      | (simp_all; done)
      | (exfalso; simp_all; done)
      | (exfalso; simp_all; omega)
noncomputable def mgNN_fn : FnD := { f := 3, args := argsAV [.nils, .nils, .one (.int .i64 6)], heap := hRoot ++ argsBlk [.nils, .nils, .one (.int .i64 6)], N := 100, M := 100, out := .sbool (.boo true), news := [] }
noncomputable def mgNN_call : Env → CallL := fun E => acallAll E (evH E (CZNN E) ((fun _ => noLoops) E) 12)
noncomputable def mgNN_pre : List (X × Bool) := []
noncomputable def mgNN_t : GTree := (.leaf [[]])
noncomputable def mgNN_l : List (List (X × Bool) × Option Pairs) := [([], some [])]
theorem mgNN_w (r : Rho) : mgNN_fn.ways mgNN_call E1 r mgNN_pre mgNN_t = some mgNN_l := by kernel_rfl
theorem mgNN_out (σ : Sig) : mgNN_fn.out.inst σ = some (.bool true) := rfl
set_option maxRecDepth 100000 in
set_option maxHeartbeats 16000000 in
theorem mgNN_true {r : Rho} {σ : Sig} {w : World} {us : List Value} (hsy : r.sym = sy) (hρ : σ.rho = r) (hA : ∀ g id, E1.glob g = some id → ∃ κ, σ id = some (g, κ)) (hrel : (memOf mgNN_fn.heap 100).rel Tryz.prog σ w (fun b => w.heap.size ≤ b)) (hins : Ins σ mgNN_fn.args us) :
    Calls Tryz.prog 3 us.toArray w fun e w' => e = .returned (.bool true) ∧ Kept (fun b => w.heap.size ≤ b) w w' := by
  obtain ⟨u0, us, rfl, g0, hi⟩ := ins_cons hins
  obtain ⟨u1, us, rfl, g1, hi⟩ := ins_cons hi
  obtain ⟨u2, us, rfl, g2, hi⟩ := ins_cons hi
  obtain ⟨w_, k6, rfl, h6⟩ := one_int g2
  rw [hρ] at h6
  refine law_of (E := E1) (D := mgNN_fn) E1_ok (fun F => CZNN_ok F hsy) (fun F => noH_ok) (mgNN_w r) hρ hA trivial hrel hins ?_ ?_ mgNN_out
  · simp only [mgNN_pre, mgNN_t, yEZ_33, yEZ_32, yEZ_31, yEZ_30, yEZ_29, yEZ_28, yEZ_27, yEZ_26, yEZ_25, yEZ_24, yEZ_23, yEZ_22, yEZ_21, yEZ_20, yEZ_19, yEZ_18, yEZ_17, yEZ_16, yEZ_15, yEZ_14, yEZ_13, yEZ_12, yEZ_11, yEZ_10, yEZ_9, yEZ_8, yEZ_7, yEZ_6, yEZ_5, yEZ_4, yEZ_3, yEZ_2, yEZ_1, yEZ_0, AsksL, GTree.asks, FTree.asks, FactsIn, List.append_nil, List.nil_append, List.cons_append, Option.some.injEq, exists_eq', implies_true, and_self, X.bool, X.den, denL, dX, denSub, denIte, asB, dY, d_eq_sameZ, h6, hsy, sym10, sym21, sym22, sym110, sym111, sym112, sym115, sym116, sym117, sym118, sym119, sym122]
    try simp
  · simp only [mgNN_l, yEZ_33, yEZ_32, yEZ_31, yEZ_30, yEZ_29, yEZ_28, yEZ_27, yEZ_26, yEZ_25, yEZ_24, yEZ_23, yEZ_22, yEZ_21, yEZ_20, yEZ_19, yEZ_18, yEZ_17, yEZ_16, yEZ_15, yEZ_14, yEZ_13, yEZ_12, yEZ_11, yEZ_10, yEZ_9, yEZ_8, yEZ_7, yEZ_6, yEZ_5, yEZ_4, yEZ_3, yEZ_2, yEZ_1, yEZ_0, EndsOk, WaysOk, forall_cons, forall_nil, TgtOk, gpair, FactsIn, hold_cons, hold_nil, Option.some.injEq, dZ, X.bool, X.den, denL, dX, denSub, denIte, asB, dY, beq_iff_eq, beq_eq_false_iff_ne, ne_eq, d_eq_sameZ, h6, hsy, sym10, sym21, sym22, sym110, sym111, sym112, sym115, sym116, sym117, sym118, sym119, sym122]
    clear hρ hrel hi hins g0 g1 g2 h6 hsy hA
    (repeat' apply And.intro) <;> intros <;> first
      | (exact True.intro)
      | rfl
      | contradiction
      | (exfalso; omega)
      | (simp_all; done)
      | (exfalso; simp_all; done)
      | (exfalso; simp_all; omega)
end Go.Proofs.YtpdemfamfmeemacGreatDoor.Zs
