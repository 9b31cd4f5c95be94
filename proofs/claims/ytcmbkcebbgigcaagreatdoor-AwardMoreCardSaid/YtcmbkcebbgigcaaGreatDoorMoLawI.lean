/-
  The loop of the law AwardMore.
-/
import Derived.Test.YtcmbkcebbgigcaaGreatDoorMoConH
import Derived.Test.YtcmbkcebbgigcaaGreatDoorMoAcc
import Derived.Test.YtcmbkcebbgigcaaGreatDoorMoConO
import Derived.Test.YtcmbkcebbgigcaaGreatDoorMoRunZ
import Derived.KernelRfl
set_option linter.unusedSimpArgs false
set_option linter.unusedVariables false
namespace Go.Proofs.YtcmbkcebbgigcaaGreatDoor.Zs
open Go
def mV (nu de p : Nat) : List X := [.var 6, .var 7, .var nu, .var de, .var p, .var 11, .var 14, .var 15, .var 16]
def mPay (v : List X) : X := .app 115 [.app 117 [.app 144 (v ++ [.var 19])]]
def mBlk (i p : Nat) (v : List X) (sh : AV) : Nat × ABlock := (i, .cells [.sint .i64 (.var p), .sint .i64 (.app 140 v), .sint .i64 (.app 141 v), .sint .i64 (.app 142 v), .sint .i64 (.app 143 v), sh] 32)
def mRow (i : Nat) (v : List X) : Nat × ABlock := (i, .rows 2 shrSch (.num 0) (mPay v) true 57)
def p_vs : List X := [.num 1]
def orH (h g : AF → ASt → Option (List Out)) (f : AF) (S : ASt) : Option (List Out) := match h f S with
  | some r => some r
  | none => g f S
noncomputable def MO0 : Env → CallE := libs [cLib cOf_con]
theorem MO0_ok (F : List (X × Bool)) {r : Rho} (h : r.sym = sy) : CallsOk (E1.with F r) (MO0 (E1.with F r)) := libs_ok fun c hc => by
  simp only [List.mem_cons, List.not_mem_nil, or_false] at hc
  subst hc; exact lib_ok (E := E1) cOf_cok F h
noncomputable def MO : Env → CallE := libs [cLib cAwE_con, cLib cAw0_con, cLib cAw1_con, cLib cOf_con, fun _ => aliveL]
theorem MO_ok (F : List (X × Bool)) {r : Rho} (h : r.sym = sy) : CallsOk (E1.with F r) (MO (E1.with F r)) := libs_ok fun c hc => by
  simp only [List.mem_cons, List.not_mem_nil, or_false] at hc
  rcases hc with rfl | rfl | rfl | rfl | rfl
  · exact lib_ok (E := E1) cAwE_cok F h
  · exact lib_ok (E := E1) cAw0_cok F h
  · exact lib_ok (E := E1) cAw1_cok F h
  · exact lib_ok (E := E1) cOf_cok F h
  · exact alive_ok F r
def OkA (r : Rat9) (s : Sal9) (l : List Who) : Prop := givesB ⟨r.id, r.known, r.from_, r.goods, r.num, r.den, r.cart, r.store, r.of_⟩ ⟨s.id, s.known, s.hour, s.parcel, s.price, s.carter, s.keeper, s.since, s.of_⟩ l = true
def OkB (r : Rat9) (s : Sal9) (l : List Who) (P : Int) : Prop := givesB ⟨r.id, r.known, r.from_, r.goods, r.num, r.den, r.cart, r.store, r.of_⟩ ⟨s.id, s.known, s.hour, s.parcel, P, s.carter, s.keeper, s.since, s.of_⟩ l = true
theorem mo_facts {r : Rat9} {s : Sal9} {l : List Who} {P : Int} (hga : givesB ⟨r.id, r.known, r.from_, r.goods, r.num, r.den, r.cart, r.store, r.of_⟩ ⟨s.id, s.known, s.hour, s.parcel, s.price, s.carter, s.keeper, s.since, s.of_⟩ l = true) (hgb : givesB ⟨r.id, r.known, r.from_, r.goods, r.num, r.den, r.cart, r.store, r.of_⟩ ⟨s.id, s.known, s.hour, s.parcel, P, s.carter, s.keeper, s.since, s.of_⟩ l = true) (hP : ¬ P < s.price) :
    shortB (chgOf (accB (accA []) (payL ⟨r.cart, r.store, r.num, r.den, s.price, s.hour, s.carter, s.keeper, s.since⟩ l))) = true ∧ shortB (chgOf (accB (accA []) (payL ⟨r.cart, r.store, r.num, r.den, P, s.hour, s.carter, s.keeper, s.since⟩ l))) = true ∧ ∀ k, sumK (chgOf (accB (accA []) (payL ⟨r.cart, r.store, r.num, r.den, s.price, s.hour, s.carter, s.keeper, s.since⟩ l))) k ≤ sumK (chgOf (accB (accA []) (payL ⟨r.cart, r.store, r.num, r.den, P, s.hour, s.carter, s.keeper, s.since⟩ l))) k := by
  have g : GoodV (divOf r s) := gives_good (r := r) (s := s) hga
  have g' : GoodV ((divOf r s).at P) := gives_good (r := r) (s := ⟨s.id, s.known, s.hour, s.parcel, P, s.carter, s.keeper, s.since, s.of_⟩) hgb
  have hf := (gives_all hga).2.2.2.2
  have hp : (divOf r s).p ≤ P := by show s.price ≤ P; omega
  exact ⟨short_had (r := r) (s := s) hga, short_had (r := r) (s := ⟨s.id, s.known, s.hour, s.parcel, P, s.carter, s.keeper, s.since, s.of_⟩) hgb, fun k => had_more g g' hp hf k⟩
theorem mo_price {r : Rat9} {s : Sal9} {l : List Who} {P : Int} (hga : givesB ⟨r.id, r.known, r.from_, r.goods, r.num, r.den, r.cart, r.store, r.of_⟩ ⟨s.id, s.known, s.hour, s.parcel, s.price, s.carter, s.keeper, s.since, s.of_⟩ l = true) (hgb : givesB ⟨r.id, r.known, r.from_, r.goods, r.num, r.den, r.cart, r.store, r.of_⟩ ⟨s.id, s.known, s.hour, s.parcel, P, s.carter, s.keeper, s.since, s.of_⟩ l = true) (hP : ¬ P < s.price) :
    cart9 ⟨r.cart, r.store, r.num, r.den, s.price, s.hour, s.carter, s.keeper, s.since⟩ ≤ cart9 ⟨r.cart, r.store, r.num, r.den, P, s.hour, s.carter, s.keeper, s.since⟩ ∧ stor9 ⟨r.cart, r.store, r.num, r.den, s.price, s.hour, s.carter, s.keeper, s.since⟩ ≤ stor9 ⟨r.cart, r.store, r.num, r.den, P, s.hour, s.carter, s.keeper, s.since⟩ ∧ find9 ⟨r.cart, r.store, r.num, r.den, s.price, s.hour, s.carter, s.keeper, s.since⟩ ≤ find9 ⟨r.cart, r.store, r.num, r.den, P, s.hour, s.carter, s.keeper, s.since⟩ ∧ rest9 ⟨r.cart, r.store, r.num, r.den, s.price, s.hour, s.carter, s.keeper, s.since⟩ ≤ rest9 ⟨r.cart, r.store, r.num, r.den, P, s.hour, s.carter, s.keeper, s.since⟩ := by
  have g : GoodV (divOf r s) := gives_good (r := r) (s := s) hga
  have g' : GoodV ((divOf r s).at P) := gives_good (r := r) (s := ⟨s.id, s.known, s.hour, s.parcel, P, s.carter, s.keeper, s.since, s.of_⟩) hgb
  have hp : (divOf r s).p ≤ P := by show s.price ≤ P; omega
  exact more_price g g' hp
theorem mo_part {r : Rat9} {s : Sal9} {l : List Who} {nu de : Int} (hga : givesB ⟨r.id, r.known, r.from_, r.goods, r.num, r.den, r.cart, r.store, r.of_⟩ ⟨s.id, s.known, s.hour, s.parcel, s.price, s.carter, s.keeper, s.since, s.of_⟩ l = true) (hgc : givesB ⟨r.id, r.known, r.from_, r.goods, nu, de, r.cart, r.store, r.of_⟩ ⟨s.id, s.known, s.hour, s.parcel, s.price, s.carter, s.keeper, s.since, s.of_⟩ l = true) (h : ¬ IntKind.i64.wrap (nu * r.den) < IntKind.i64.wrap (r.num * de)) :
    find9 ⟨r.cart, r.store, r.num, r.den, s.price, s.hour, s.carter, s.keeper, s.since⟩ ≤ find9 ⟨r.cart, r.store, nu, de, s.price, s.hour, s.carter, s.keeper, s.since⟩ ∧ rest9 ⟨r.cart, r.store, nu, de, s.price, s.hour, s.carter, s.keeper, s.since⟩ ≤ rest9 ⟨r.cart, r.store, r.num, r.den, s.price, s.hour, s.carter, s.keeper, s.since⟩ := by
  have g : GoodV (divOf r s) := gives_good (r := r) (s := s) hga
  have g' : GoodV ((divOf r s).by_ nu de) := gives_good (r := ⟨r.id, r.known, r.from_, r.goods, nu, de, r.cart, r.store, r.of_⟩) (s := s) hgc
  have a1 : 0 ≤ r.num ∧ r.num ≤ r.den := g.2.2.1
  have a2 : 1 ≤ r.den ∧ r.den ≤ 1000000 := g.2.2.2.1
  have b1 : 0 ≤ nu ∧ nu ≤ de := g'.2.2.1
  have b2 : 1 ≤ de ∧ de ≤ 1000000 := g'.2.2.2.1
  have c1 : 0 ≤ nu * r.den ∧ nu * r.den ≤ 1000000000000 := by
    refine ⟨Int.mul_nonneg b1.1 (by omega), ?_⟩
    have := Int.mul_le_mul (show nu ≤ 1000000 by omega) a2.2 (by omega) (by omega)
    omega
  have c2 : 0 ≤ r.num * de ∧ r.num * de ≤ 1000000000000 := by
    refine ⟨Int.mul_nonneg a1.1 (by omega), ?_⟩
    have := Int.mul_le_mul (show r.num ≤ 1000000 by omega) b2.2 (by omega) (by omega)
    omega
  rw [IntWalk.i64_in _ (by omega), IntWalk.i64_in _ (by omega)] at h
  exact more_part g g' (by show r.num * de ≤ nu * r.den; omega)
def mo_Inv (j : Nat) (vals : List Value) : Prop := j = 0 ∧ ∃ n : Int, vals = [.int .i64 n] ∧ 1 ≤ n ∧ n ≤ 41
def mo_mu (_ : Nat) (vals : List Value) : Nat := 41 - (vI (vals.getD 0 default)).toNat
noncomputable def lPLLE_D : LoopD := { N := 200, M := 201, size := sizeOfF 3, reads := [mBlk 104 13 (mV 4 5 13) (.slo 103 2 (.op1 .len (mPay (mV 4 5 13)))), mRow 103 (mV 4 5 13), mBlk 107 21 (mV 4 5 21) (.slo 106 2 (.op1 .len (mPay (mV 4 5 21)))), mRow 106 (mV 4 5 21)], pats := [{ slots := [(5, .ptr 100 0), (9, .ptr 102 0), (11, .ptr 104 0), (12, .int .i64 0), (14, .ptr 107 0), (17, .ptr 109 0), (18, .int .i64 1), (19, .sint .i64 (.var 200))], heap := [] }], exits := [(.exit 0, { slots := [(5, .ptr 100 0), (9, .ptr 102 0), (11, .ptr 104 0), (12, .int .i64 0), (14, .ptr 107 0), (17, .ptr 109 0), (18, .int .i64 1)], heap := [] })], own := [], pre := [(.app 146 [.var 0, .var 1, .var 2, .var 3, .var 4, .var 5, .var 6, .var 7, .var 8, .var 9, .var 10, .var 11, .var 12, .var 13, .var 14, .var 15, .var 16, .var 17, .var 19], true), (.app 146 [.var 0, .var 1, .var 2, .var 3, .var 4, .var 5, .var 6, .var 7, .var 8, .var 9, .var 10, .var 11, .var 12, .var 21, .var 14, .var 15, .var 16, .var 17, .var 19], true), (.op2 .lt (.var 21) (.var 13), false), (.op2 .eq (.op1 .len (.app 117 [.app 144 [.var 6, .var 7, .var 4, .var 5, .var 13, .var 11, .var 14, .var 15, .var 16, .var 19]])) (.num 0), false), (.op2 .eq (.op1 .len (.app 117 [.app 144 [.var 6, .var 7, .var 4, .var 5, .var 21, .var 11, .var 14, .var 15, .var 16, .var 19]])) (.num 0), false)] }
noncomputable def lPLLE_run : Env → AF → ASt → Option (List Out) := bodyRun MO0 6 (fun _ => noLoop) (loopAt Tryz.prog 3 0)
def lPLLE0_F : List (X × Bool) := []
def qf0 : X := .app 115 [(.app 117 [(.app 144 [(.var 6), (.var 7), (.var 4), (.var 5), (.var 21), (.var 11), (.var 14), (.var 15), (.var 16), (.var 19)])])]
def qf1 : X := .app 115 [(.app 117 [(.app 144 [(.var 6), (.var 7), (.var 4), (.var 5), (.var 13), (.var 11), (.var 14), (.var 15), (.var 16), (.var 19)])])]
def qf2 : X := .op2 .lt (.num 40) (.var 200)
def qf3 : X := .op1 (.wrap .i64) (.op2 .add (.var 200) (.num 1))
def qf4 : X := .op2 .lt (.app 116 [qf0, (.var 200)]) (.app 116 [qf1, (.var 200)])
def qf5 : X := .op2 .lt (.num 0) (.app 116 [qf1, (.var 200)])
def qf6 : X := .op2 .lt (.app 116 [qf0, (.var 200)]) (.num 0)
noncomputable def lPLLE0_t : FTree := (.fork qf2 (.leaf [.leave 0 []]) (.fork (.app 21 [qf0]) (.fork (.app 21 [qf1]) (.fork qf4 .bad (.leaf [.again 0 []])) .bad) .bad))
noncomputable def lPLLE0_l : List (List (X × Bool) × Option (List (Tgt × Pairs))) := [([(qf2, true)], some [(.leave 0 [], [])]),
  ([(qf4, true), (.app 21 [qf1], true), (.app 21 [qf0], true), (qf2, false)], none),
  ([(qf4, false), (.app 21 [qf1], true), (.app 21 [qf0], true), (qf2, false)], some [(.again 0 [], [(.var 200, qf3)])]),
  ([(.app 21 [qf1], false), (.app 21 [qf0], true), (qf2, false)], none),
  ([(.app 21 [qf0], false), (qf2, false)], none)]
theorem lPLLE0_w (r : Rho) : lPLLE_D.ways lPLLE_run E1 r 0 lPLLE0_F lPLLE0_t = some lPLLE0_l := by kernel_rfl
theorem lPLLE_ok : lPLLE_D.ok = true := by kernel_rfl
theorem lPLLE_step {ρ : Rho} {r : Rat9} {s : Sal9} {l : List Who} {kr ks : Nat → IntKind} {P : Int} {kp : IntKind} (hr : Rat9At ρ 0 kr r) (hs : Sal9At ρ 9 ks s) (h19 : ρ.val 19 = some (whosR l)) (hsy : ρ.sym = sy) (h21 : ρ.val 21 = some (.int kp P)) (hga : OkA r s l) (hgb : OkB r s l P) (hP : ¬ P < s.price) (ha : ¬ ((accB (accA []) (payL ⟨r.cart, r.store, r.num, r.den, s.price, s.hour, s.carter, s.keeper, s.since⟩ l)).length : Int) = 0) (hb : ¬ ((accB (accA []) (payL ⟨r.cart, r.store, r.num, r.den, P, s.hour, s.carter, s.keeper, s.since⟩ l)).length : Int) = 0) (j : Nat) (vals : List Value) (hI : mo_Inv j vals) :
    StepOk lPLLE_D lPLLE_run E1 ρ mo_Inv mo_mu j vals := by
  obtain ⟨rfl, n, rfl, hn0, hn1⟩ := hI
  have hN : lPLLE_D.N = 200 := rfl
  obtain ⟨v0, v1, v2, v3, v4, v5, v6, v7, v8, v9, v10, v11, v12, v13, v14, v15, v16, v17, v19⟩ := ext_all lPLLE_D.N [.int .i64 n] (by rw [hN]; omega) hr hs h19
  have vs : (ρ.ext lPLLE_D.N [.int .i64 n]).sym = sy := hsy
  have v21 : (ρ.ext lPLLE_D.N [.int .i64 n]).val 21 = some (.int kp P) := by rw [ext_low _ _ _ _ (by rw [hN]; omega)]; exact h21
  have v200 : (ρ.ext lPLLE_D.N [.int .i64 n]).val 200 = some (.int .i64 n) := by rw [ext_high _ _ _ _ (by rw [hN]; omega)]; rfl
  obtain ⟨hsa, hsb, hle⟩ := mo_facts hga hgb hP
  have hm : ∀ k, (sumK (chgOf (accB (accA []) (payL ⟨r.cart, r.store, r.num, r.den, P, s.hour, s.carter, s.keeper, s.since⟩ l))) k < sumK (chgOf (accB (accA []) (payL ⟨r.cart, r.store, r.num, r.den, s.price, s.hour, s.carter, s.keeper, s.since⟩ l))) k) = False := fun k => eq_false (by have := hle k; omega)
  have hF : FactsIn (ρ.ext lPLLE_D.N [.int .i64 n]) lPLLE0_F := by simp only [lPLLE0_F, FactsIn]
  suffices both : AsksL (ρ.ext lPLLE_D.N [.int .i64 n]) (lPLLE0_t.asks lPLLE0_F) ∧ WaysOk lPLLE_D ρ mo_Inv mo_mu 0 [.int .i64 n] lPLLE0_l from step_of_ways (lPLLE0_w _) hF both.1.ok both.2
  have hw : n ≤ 40 → IntKind.i64.wrap (n + 1) = n + 1 := fun h => IntWalk.i64_in _ (by omega)
  have go : ¬ 40 < n → ∃ vals', (ρ.ext lPLLE_D.N vals').val 200 = some (.int .i64 (IntKind.i64.wrap (n + 1))) ∧ mo_Inv 0 vals' ∧ mo_mu 0 vals' < mo_mu 0 [.int .i64 n] := fun h => by
    refine ⟨[.int .i64 (n + 1)], ?_, ⟨rfl, n + 1, rfl, by omega, by omega⟩, ?_⟩
    · rw [ext_high _ _ _ _ (by rw [hN]; omega), hw (by omega)]; rfl
    · simp [mo_mu, vI]; omega
  refine ⟨?_, ?_⟩
  · simp only [lPLLE0_t, qf6, qf5, qf4, qf3, qf2, qf1, qf0, lPLLE0_F, AsksL, GTree.asks, FTree.asks, FactsIn, List.append_nil, List.nil_append, List.cons_append, Option.some.injEq, exists_eq', implies_true, and_self, X.bool, X.den, denL, dX, denSub, denIte, asB, dY, v4, v5, v6, v7, v11, v13, v14, v15, v16, v19, v21, v200, vs, sym20, sym21, sym115, sym116, sym117, sym140, sym141, sym142, sym143, sym144, sym146, hsa, hsb, hm]
    try simp
  · simp only [lPLLE0_l, qf6, qf5, qf4, qf3, qf2, qf1, qf0, EndsOk, WaysOk, forall_cons, forall_nil, TgtOk, gpair, FactsIn, hold_cons, hold_nil, Option.some.injEq, dZ, X.bool, X.den, denL, dX, denSub, denIte, asB, dY, beq_iff_eq, beq_eq_false_iff_ne, ne_eq, v4, v5, v6, v7, v11, v13, v14, v15, v16, v19, v21, v200, vs, hsy, sym20, sym21, sym115, sym116, sym117, sym140, sym141, sym142, sym143, sym144, sym146, hsa, hsb, hm]
    clear v4 v5 v6 v7 v11 v13 v14 v15 v16 v19 v21 v200 vs hr hs h19 hsy hF
    (repeat' apply And.intro) <;> intros <;> first
      | trivial
      | contradiction
      | (exfalso; omega)
      | (exact go (by omega))
      | (exact go (by assumption))
noncomputable def lPLLN_D : LoopD := { N := 200, M := 201, size := sizeOfF 3, reads := [mBlk 104 13 (mV 4 5 13) (.slo 103 2 (.op1 .len (mPay (mV 4 5 13)))), mRow 103 (mV 4 5 13), mBlk 107 21 (mV 4 5 21) (.slo 106 2 (.op1 .len (mPay (mV 4 5 21)))), mRow 106 (mV 4 5 21)], pats := [{ slots := [(5, .ptr 100 0), (9, .ptr 102 0), (11, .ptr 104 0), (12, .int .i64 0), (14, .ptr 107 0), (17, .ptr 109 0), (18, .int .i64 0), (19, .sint .i64 (.var 200))], heap := [] }], exits := [(.exit 0, { slots := [(5, .ptr 100 0), (9, .ptr 102 0), (11, .ptr 104 0), (12, .int .i64 0), (14, .ptr 107 0), (17, .ptr 109 0), (18, .int .i64 0)], heap := [] })], own := [], pre := [(.app 146 [.var 0, .var 1, .var 2, .var 3, .var 4, .var 5, .var 6, .var 7, .var 8, .var 9, .var 10, .var 11, .var 12, .var 13, .var 14, .var 15, .var 16, .var 17, .var 19], true), (.app 146 [.var 0, .var 1, .var 2, .var 3, .var 4, .var 5, .var 6, .var 7, .var 8, .var 9, .var 10, .var 11, .var 12, .var 21, .var 14, .var 15, .var 16, .var 17, .var 19], true), (.op2 .lt (.var 21) (.var 13), false), (.op2 .eq (.op1 .len (.app 117 [.app 144 [.var 6, .var 7, .var 4, .var 5, .var 13, .var 11, .var 14, .var 15, .var 16, .var 19]])) (.num 0), false), (.op2 .eq (.op1 .len (.app 117 [.app 144 [.var 6, .var 7, .var 4, .var 5, .var 21, .var 11, .var 14, .var 15, .var 16, .var 19]])) (.num 0), false)] }
noncomputable def lPLLN_run : Env → AF → ASt → Option (List Out) := bodyRun MO0 6 (fun _ => noLoop) (loopAt Tryz.prog 3 0)
def lPLLN0_F : List (X × Bool) := []
noncomputable def lPLLN0_t : FTree := (.fork qf2 (.leaf [.leave 0 []]) (.fork (.app 21 [qf0]) (.fork (.app 21 [qf1]) (.fork qf4 .bad (.leaf [.again 0 []])) .bad) .bad))
noncomputable def lPLLN0_l : List (List (X × Bool) × Option (List (Tgt × Pairs))) := [([(qf2, true)], some [(.leave 0 [], [])]),
  ([(qf4, true), (.app 21 [qf1], true), (.app 21 [qf0], true), (qf2, false)], none),
  ([(qf4, false), (.app 21 [qf1], true), (.app 21 [qf0], true), (qf2, false)], some [(.again 0 [], [(.var 200, qf3)])]),
  ([(.app 21 [qf1], false), (.app 21 [qf0], true), (qf2, false)], none),
  ([(.app 21 [qf0], false), (qf2, false)], none)]
theorem lPLLN0_w (r : Rho) : lPLLN_D.ways lPLLN_run E1 r 0 lPLLN0_F lPLLN0_t = some lPLLN0_l := by kernel_rfl
theorem lPLLN_ok : lPLLN_D.ok = true := by kernel_rfl
theorem lPLLN_step {ρ : Rho} {r : Rat9} {s : Sal9} {l : List Who} {kr ks : Nat → IntKind} {P : Int} {kp : IntKind} (hr : Rat9At ρ 0 kr r) (hs : Sal9At ρ 9 ks s) (h19 : ρ.val 19 = some (whosR l)) (hsy : ρ.sym = sy) (h21 : ρ.val 21 = some (.int kp P)) (hga : OkA r s l) (hgb : OkB r s l P) (hP : ¬ P < s.price) (ha : ¬ ((accB (accA []) (payL ⟨r.cart, r.store, r.num, r.den, s.price, s.hour, s.carter, s.keeper, s.since⟩ l)).length : Int) = 0) (hb : ¬ ((accB (accA []) (payL ⟨r.cart, r.store, r.num, r.den, P, s.hour, s.carter, s.keeper, s.since⟩ l)).length : Int) = 0) (j : Nat) (vals : List Value) (hI : mo_Inv j vals) :
    StepOk lPLLN_D lPLLN_run E1 ρ mo_Inv mo_mu j vals := by
  obtain ⟨rfl, n, rfl, hn0, hn1⟩ := hI
  have hN : lPLLN_D.N = 200 := rfl
  obtain ⟨v0, v1, v2, v3, v4, v5, v6, v7, v8, v9, v10, v11, v12, v13, v14, v15, v16, v17, v19⟩ := ext_all lPLLN_D.N [.int .i64 n] (by rw [hN]; omega) hr hs h19
  have vs : (ρ.ext lPLLN_D.N [.int .i64 n]).sym = sy := hsy
  have v21 : (ρ.ext lPLLN_D.N [.int .i64 n]).val 21 = some (.int kp P) := by rw [ext_low _ _ _ _ (by rw [hN]; omega)]; exact h21
  have v200 : (ρ.ext lPLLN_D.N [.int .i64 n]).val 200 = some (.int .i64 n) := by rw [ext_high _ _ _ _ (by rw [hN]; omega)]; rfl
  obtain ⟨hsa, hsb, hle⟩ := mo_facts hga hgb hP
  have hm : ∀ k, (sumK (chgOf (accB (accA []) (payL ⟨r.cart, r.store, r.num, r.den, P, s.hour, s.carter, s.keeper, s.since⟩ l))) k < sumK (chgOf (accB (accA []) (payL ⟨r.cart, r.store, r.num, r.den, s.price, s.hour, s.carter, s.keeper, s.since⟩ l))) k) = False := fun k => eq_false (by have := hle k; omega)
  have hF : FactsIn (ρ.ext lPLLN_D.N [.int .i64 n]) lPLLN0_F := by simp only [lPLLN0_F, FactsIn]
  suffices both : AsksL (ρ.ext lPLLN_D.N [.int .i64 n]) (lPLLN0_t.asks lPLLN0_F) ∧ WaysOk lPLLN_D ρ mo_Inv mo_mu 0 [.int .i64 n] lPLLN0_l from step_of_ways (lPLLN0_w _) hF both.1.ok both.2
  have hw : n ≤ 40 → IntKind.i64.wrap (n + 1) = n + 1 := fun h => IntWalk.i64_in _ (by omega)
  have go : ¬ 40 < n → ∃ vals', (ρ.ext lPLLN_D.N vals').val 200 = some (.int .i64 (IntKind.i64.wrap (n + 1))) ∧ mo_Inv 0 vals' ∧ mo_mu 0 vals' < mo_mu 0 [.int .i64 n] := fun h => by
    refine ⟨[.int .i64 (n + 1)], ?_, ⟨rfl, n + 1, rfl, by omega, by omega⟩, ?_⟩
    · rw [ext_high _ _ _ _ (by rw [hN]; omega), hw (by omega)]; rfl
    · simp [mo_mu, vI]; omega
  refine ⟨?_, ?_⟩
  · simp only [lPLLN0_t, qf6, qf5, qf4, qf3, qf2, qf1, qf0, lPLLN0_F, AsksL, GTree.asks, FTree.asks, FactsIn, List.append_nil, List.nil_append, List.cons_append, Option.some.injEq, exists_eq', implies_true, and_self, X.bool, X.den, denL, dX, denSub, denIte, asB, dY, v4, v5, v6, v7, v11, v13, v14, v15, v16, v19, v21, v200, vs, sym20, sym21, sym115, sym116, sym117, sym140, sym141, sym142, sym143, sym144, sym146, hsa, hsb, hm]
    try simp
  · simp only [lPLLN0_l, qf6, qf5, qf4, qf3, qf2, qf1, qf0, EndsOk, WaysOk, forall_cons, forall_nil, TgtOk, gpair, FactsIn, hold_cons, hold_nil, Option.some.injEq, dZ, X.bool, X.den, denL, dX, denSub, denIte, asB, dY, beq_iff_eq, beq_eq_false_iff_ne, ne_eq, v4, v5, v6, v7, v11, v13, v14, v15, v16, v19, v21, v200, vs, hsy, sym20, sym21, sym115, sym116, sym117, sym140, sym141, sym142, sym143, sym144, sym146, hsa, hsb, hm]
    clear v4 v5 v6 v7 v11 v13 v14 v15 v16 v19 v21 v200 vs hr hs h19 hsy hF
    (repeat' apply And.intro) <;> intros <;> first
      | trivial
      | contradiction
      | (exfalso; omega)
      | (exact go (by omega))
      | (exact go (by assumption))
noncomputable def lPLLL_D : LoopD := { N := 200, M := 201, size := sizeOfF 3, reads := [mBlk 104 13 (mV 4 5 13) (.slo 103 2 (.op1 .len (mPay (mV 4 5 13)))), mRow 103 (mV 4 5 13), mBlk 107 21 (mV 4 5 21) (.slo 106 2 (.op1 .len (mPay (mV 4 5 21)))), mRow 106 (mV 4 5 21)], pats := [{ slots := [(5, .ptr 100 0), (9, .ptr 102 0), (11, .ptr 104 0), (12, .int .i64 0), (14, .ptr 107 0), (17, .ptr 110 0), (18, .int .i64 0), (19, .sint .i64 (.var 200))], heap := [] }], exits := [(.exit 0, { slots := [(5, .ptr 100 0), (9, .ptr 102 0), (11, .ptr 104 0), (12, .int .i64 0), (14, .ptr 107 0), (17, .ptr 110 0), (18, .int .i64 0)], heap := [] })], own := [], pre := [(.app 146 [.var 0, .var 1, .var 2, .var 3, .var 4, .var 5, .var 6, .var 7, .var 8, .var 9, .var 10, .var 11, .var 12, .var 13, .var 14, .var 15, .var 16, .var 17, .var 19], true), (.app 146 [.var 0, .var 1, .var 2, .var 3, .var 4, .var 5, .var 6, .var 7, .var 8, .var 9, .var 10, .var 11, .var 12, .var 21, .var 14, .var 15, .var 16, .var 17, .var 19], true), (.op2 .lt (.var 21) (.var 13), false), (.op2 .eq (.op1 .len (.app 117 [.app 144 [.var 6, .var 7, .var 4, .var 5, .var 13, .var 11, .var 14, .var 15, .var 16, .var 19]])) (.num 0), false), (.op2 .eq (.op1 .len (.app 117 [.app 144 [.var 6, .var 7, .var 4, .var 5, .var 21, .var 11, .var 14, .var 15, .var 16, .var 19]])) (.num 0), false)] }
noncomputable def lPLLL_run : Env → AF → ASt → Option (List Out) := bodyRun MO0 6 (fun _ => noLoop) (loopAt Tryz.prog 3 0)
def lPLLL0_F : List (X × Bool) := []
noncomputable def lPLLL0_t : FTree := (.fork qf2 (.leaf [.leave 0 []]) (.fork (.app 21 [qf0]) (.fork (.app 21 [qf1]) (.fork qf4 .bad (.leaf [.again 0 []])) .bad) .bad))
noncomputable def lPLLL0_l : List (List (X × Bool) × Option (List (Tgt × Pairs))) := [([(qf2, true)], some [(.leave 0 [], [])]),
  ([(qf4, true), (.app 21 [qf1], true), (.app 21 [qf0], true), (qf2, false)], none),
  ([(qf4, false), (.app 21 [qf1], true), (.app 21 [qf0], true), (qf2, false)], some [(.again 0 [], [(.var 200, qf3)])]),
  ([(.app 21 [qf1], false), (.app 21 [qf0], true), (qf2, false)], none),
  ([(.app 21 [qf0], false), (qf2, false)], none)]
theorem lPLLL0_w (r : Rho) : lPLLL_D.ways lPLLL_run E1 r 0 lPLLL0_F lPLLL0_t = some lPLLL0_l := by kernel_rfl
theorem lPLLL_ok : lPLLL_D.ok = true := by kernel_rfl
theorem lPLLL_step {ρ : Rho} {r : Rat9} {s : Sal9} {l : List Who} {kr ks : Nat → IntKind} {P : Int} {kp : IntKind} (hr : Rat9At ρ 0 kr r) (hs : Sal9At ρ 9 ks s) (h19 : ρ.val 19 = some (whosR l)) (hsy : ρ.sym = sy) (h21 : ρ.val 21 = some (.int kp P)) (hga : OkA r s l) (hgb : OkB r s l P) (hP : ¬ P < s.price) (ha : ¬ ((accB (accA []) (payL ⟨r.cart, r.store, r.num, r.den, s.price, s.hour, s.carter, s.keeper, s.since⟩ l)).length : Int) = 0) (hb : ¬ ((accB (accA []) (payL ⟨r.cart, r.store, r.num, r.den, P, s.hour, s.carter, s.keeper, s.since⟩ l)).length : Int) = 0) (j : Nat) (vals : List Value) (hI : mo_Inv j vals) :
    StepOk lPLLL_D lPLLL_run E1 ρ mo_Inv mo_mu j vals := by
  obtain ⟨rfl, n, rfl, hn0, hn1⟩ := hI
  have hN : lPLLL_D.N = 200 := rfl
  obtain ⟨v0, v1, v2, v3, v4, v5, v6, v7, v8, v9, v10, v11, v12, v13, v14, v15, v16, v17, v19⟩ := ext_all lPLLL_D.N [.int .i64 n] (by rw [hN]; omega) hr hs h19
  have vs : (ρ.ext lPLLL_D.N [.int .i64 n]).sym = sy := hsy
  have v21 : (ρ.ext lPLLL_D.N [.int .i64 n]).val 21 = some (.int kp P) := by rw [ext_low _ _ _ _ (by rw [hN]; omega)]; exact h21
  have v200 : (ρ.ext lPLLL_D.N [.int .i64 n]).val 200 = some (.int .i64 n) := by rw [ext_high _ _ _ _ (by rw [hN]; omega)]; rfl
  obtain ⟨hsa, hsb, hle⟩ := mo_facts hga hgb hP
  have hm : ∀ k, (sumK (chgOf (accB (accA []) (payL ⟨r.cart, r.store, r.num, r.den, P, s.hour, s.carter, s.keeper, s.since⟩ l))) k < sumK (chgOf (accB (accA []) (payL ⟨r.cart, r.store, r.num, r.den, s.price, s.hour, s.carter, s.keeper, s.since⟩ l))) k) = False := fun k => eq_false (by have := hle k; omega)
  have hF : FactsIn (ρ.ext lPLLL_D.N [.int .i64 n]) lPLLL0_F := by simp only [lPLLL0_F, FactsIn]
  suffices both : AsksL (ρ.ext lPLLL_D.N [.int .i64 n]) (lPLLL0_t.asks lPLLL0_F) ∧ WaysOk lPLLL_D ρ mo_Inv mo_mu 0 [.int .i64 n] lPLLL0_l from step_of_ways (lPLLL0_w _) hF both.1.ok both.2
  have hw : n ≤ 40 → IntKind.i64.wrap (n + 1) = n + 1 := fun h => IntWalk.i64_in _ (by omega)
  have go : ¬ 40 < n → ∃ vals', (ρ.ext lPLLL_D.N vals').val 200 = some (.int .i64 (IntKind.i64.wrap (n + 1))) ∧ mo_Inv 0 vals' ∧ mo_mu 0 vals' < mo_mu 0 [.int .i64 n] := fun h => by
    refine ⟨[.int .i64 (n + 1)], ?_, ⟨rfl, n + 1, rfl, by omega, by omega⟩, ?_⟩
    · rw [ext_high _ _ _ _ (by rw [hN]; omega), hw (by omega)]; rfl
    · simp [mo_mu, vI]; omega
  refine ⟨?_, ?_⟩
  · simp only [lPLLL0_t, qf6, qf5, qf4, qf3, qf2, qf1, qf0, lPLLL0_F, AsksL, GTree.asks, FTree.asks, FactsIn, List.append_nil, List.nil_append, List.cons_append, Option.some.injEq, exists_eq', implies_true, and_self, X.bool, X.den, denL, dX, denSub, denIte, asB, dY, v4, v5, v6, v7, v11, v13, v14, v15, v16, v19, v21, v200, vs, sym20, sym21, sym115, sym116, sym117, sym140, sym141, sym142, sym143, sym144, sym146, hsa, hsb, hm]
    try simp
  · simp only [lPLLL0_l, qf6, qf5, qf4, qf3, qf2, qf1, qf0, EndsOk, WaysOk, forall_cons, forall_nil, TgtOk, gpair, FactsIn, hold_cons, hold_nil, Option.some.injEq, dZ, X.bool, X.den, denL, dX, denSub, denIte, asB, dY, beq_iff_eq, beq_eq_false_iff_ne, ne_eq, v4, v5, v6, v7, v11, v13, v14, v15, v16, v19, v21, v200, vs, hsy, sym20, sym21, sym115, sym116, sym117, sym140, sym141, sym142, sym143, sym144, sym146, hsa, hsb, hm]
    clear v4 v5 v6 v7 v11 v13 v14 v15 v16 v19 v21 v200 vs hr hs h19 hsy hF
    (repeat' apply And.intro) <;> intros <;> first
      | trivial
      | contradiction
      | (exfalso; omega)
      | (exact go (by omega))
      | (exact go (by assumption))
noncomputable def lPLNE_D : LoopD := { N := 200, M := 201, size := sizeOfF 3, reads := [mBlk 104 13 (mV 4 5 13) (.slo 103 2 (.op1 .len (mPay (mV 4 5 13)))), mRow 103 (mV 4 5 13), mBlk 106 21 (mV 4 5 21) .nilslice], pats := [{ slots := [(5, .ptr 100 0), (9, .ptr 102 0), (11, .ptr 104 0), (12, .int .i64 0), (14, .ptr 106 0), (17, .ptr 108 0), (18, .int .i64 1), (19, .sint .i64 (.var 200))], heap := [] }], exits := [(.exit 0, { slots := [(5, .ptr 100 0), (9, .ptr 102 0), (11, .ptr 104 0), (12, .int .i64 0), (14, .ptr 106 0), (17, .ptr 108 0), (18, .int .i64 1)], heap := [] })], own := [], pre := [(.app 146 [.var 0, .var 1, .var 2, .var 3, .var 4, .var 5, .var 6, .var 7, .var 8, .var 9, .var 10, .var 11, .var 12, .var 13, .var 14, .var 15, .var 16, .var 17, .var 19], true), (.app 146 [.var 0, .var 1, .var 2, .var 3, .var 4, .var 5, .var 6, .var 7, .var 8, .var 9, .var 10, .var 11, .var 12, .var 21, .var 14, .var 15, .var 16, .var 17, .var 19], true), (.op2 .lt (.var 21) (.var 13), false), (.op2 .eq (.op1 .len (.app 117 [.app 144 [.var 6, .var 7, .var 4, .var 5, .var 13, .var 11, .var 14, .var 15, .var 16, .var 19]])) (.num 0), false), (.op2 .eq (.op1 .len (.app 117 [.app 144 [.var 6, .var 7, .var 4, .var 5, .var 21, .var 11, .var 14, .var 15, .var 16, .var 19]])) (.num 0), true)] }
noncomputable def lPLNE_run : Env → AF → ASt → Option (List Out) := bodyRun MO0 6 (fun _ => noLoop) (loopAt Tryz.prog 3 0)
def lPLNE0_F : List (X × Bool) := []
noncomputable def lPLNE0_t : FTree := (.fork qf2 (.leaf [.leave 0 []]) (.fork (.app 21 [qf1]) (.fork qf5 .bad (.leaf [.again 0 []])) .bad))
noncomputable def lPLNE0_l : List (List (X × Bool) × Option (List (Tgt × Pairs))) := [([(qf2, true)], some [(.leave 0 [], [])]),
  ([(qf5, true), (.app 21 [qf1], true), (qf2, false)], none),
  ([(qf5, false), (.app 21 [qf1], true), (qf2, false)], some [(.again 0 [], [(.var 200, qf3)])]),
  ([(.app 21 [qf1], false), (qf2, false)], none)]
theorem lPLNE0_w (r : Rho) : lPLNE_D.ways lPLNE_run E1 r 0 lPLNE0_F lPLNE0_t = some lPLNE0_l := by kernel_rfl
theorem lPLNE_ok : lPLNE_D.ok = true := by kernel_rfl
theorem lPLNE_step {ρ : Rho} {r : Rat9} {s : Sal9} {l : List Who} {kr ks : Nat → IntKind} {P : Int} {kp : IntKind} (hr : Rat9At ρ 0 kr r) (hs : Sal9At ρ 9 ks s) (h19 : ρ.val 19 = some (whosR l)) (hsy : ρ.sym = sy) (h21 : ρ.val 21 = some (.int kp P)) (hga : OkA r s l) (hgb : OkB r s l P) (hP : ¬ P < s.price) (ha : ¬ ((accB (accA []) (payL ⟨r.cart, r.store, r.num, r.den, s.price, s.hour, s.carter, s.keeper, s.since⟩ l)).length : Int) = 0) (hb : ((accB (accA []) (payL ⟨r.cart, r.store, r.num, r.den, P, s.hour, s.carter, s.keeper, s.since⟩ l)).length : Int) = 0) (j : Nat) (vals : List Value) (hI : mo_Inv j vals) :
    StepOk lPLNE_D lPLNE_run E1 ρ mo_Inv mo_mu j vals := by
  obtain ⟨rfl, n, rfl, hn0, hn1⟩ := hI
  have hN : lPLNE_D.N = 200 := rfl
  obtain ⟨v0, v1, v2, v3, v4, v5, v6, v7, v8, v9, v10, v11, v12, v13, v14, v15, v16, v17, v19⟩ := ext_all lPLNE_D.N [.int .i64 n] (by rw [hN]; omega) hr hs h19
  have vs : (ρ.ext lPLNE_D.N [.int .i64 n]).sym = sy := hsy
  have v21 : (ρ.ext lPLNE_D.N [.int .i64 n]).val 21 = some (.int kp P) := by rw [ext_low _ _ _ _ (by rw [hN]; omega)]; exact h21
  have v200 : (ρ.ext lPLNE_D.N [.int .i64 n]).val 200 = some (.int .i64 n) := by rw [ext_high _ _ _ _ (by rw [hN]; omega)]; rfl
  obtain ⟨hsa, hsb, hle⟩ := mo_facts hga hgb hP
  have hm : ∀ k, ((0 : Int) < sumK (chgOf (accB (accA []) (payL ⟨r.cart, r.store, r.num, r.den, s.price, s.hour, s.carter, s.keeper, s.since⟩ l))) k) = False := fun k => eq_false (by have := hle k; rw [had_none (show (accB (accA []) (payL ⟨r.cart, r.store, r.num, r.den, P, s.hour, s.carter, s.keeper, s.since⟩ l)).length = 0 by omega)] at this; omega)
  have hF : FactsIn (ρ.ext lPLNE_D.N [.int .i64 n]) lPLNE0_F := by simp only [lPLNE0_F, FactsIn]
  suffices both : AsksL (ρ.ext lPLNE_D.N [.int .i64 n]) (lPLNE0_t.asks lPLNE0_F) ∧ WaysOk lPLNE_D ρ mo_Inv mo_mu 0 [.int .i64 n] lPLNE0_l from step_of_ways (lPLNE0_w _) hF both.1.ok both.2
  have hw : n ≤ 40 → IntKind.i64.wrap (n + 1) = n + 1 := fun h => IntWalk.i64_in _ (by omega)
  have go : ¬ 40 < n → ∃ vals', (ρ.ext lPLNE_D.N vals').val 200 = some (.int .i64 (IntKind.i64.wrap (n + 1))) ∧ mo_Inv 0 vals' ∧ mo_mu 0 vals' < mo_mu 0 [.int .i64 n] := fun h => by
    refine ⟨[.int .i64 (n + 1)], ?_, ⟨rfl, n + 1, rfl, by omega, by omega⟩, ?_⟩
    · rw [ext_high _ _ _ _ (by rw [hN]; omega), hw (by omega)]; rfl
    · simp [mo_mu, vI]; omega
  refine ⟨?_, ?_⟩
  · simp only [lPLNE0_t, qf6, qf5, qf4, qf3, qf2, qf1, qf0, lPLNE0_F, AsksL, GTree.asks, FTree.asks, FactsIn, List.append_nil, List.nil_append, List.cons_append, Option.some.injEq, exists_eq', implies_true, and_self, X.bool, X.den, denL, dX, denSub, denIte, asB, dY, v4, v5, v6, v7, v11, v13, v14, v15, v16, v19, v21, v200, vs, sym20, sym21, sym115, sym116, sym117, sym140, sym141, sym142, sym143, sym144, sym146, hsa, hsb, hm]
    try simp
  · simp only [lPLNE0_l, qf6, qf5, qf4, qf3, qf2, qf1, qf0, EndsOk, WaysOk, forall_cons, forall_nil, TgtOk, gpair, FactsIn, hold_cons, hold_nil, Option.some.injEq, dZ, X.bool, X.den, denL, dX, denSub, denIte, asB, dY, beq_iff_eq, beq_eq_false_iff_ne, ne_eq, v4, v5, v6, v7, v11, v13, v14, v15, v16, v19, v21, v200, vs, hsy, sym20, sym21, sym115, sym116, sym117, sym140, sym141, sym142, sym143, sym144, sym146, hsa, hsb, hm]
    clear v4 v5 v6 v7 v11 v13 v14 v15 v16 v19 v21 v200 vs hr hs h19 hsy hF
    (repeat' apply And.intro) <;> intros <;> first
      | trivial
      | contradiction
      | (exfalso; omega)
      | (exact go (by omega))
      | (exact go (by assumption))
noncomputable def lPLNN_D : LoopD := { N := 200, M := 201, size := sizeOfF 3, reads := [mBlk 104 13 (mV 4 5 13) (.slo 103 2 (.op1 .len (mPay (mV 4 5 13)))), mRow 103 (mV 4 5 13), mBlk 106 21 (mV 4 5 21) .nilslice], pats := [{ slots := [(5, .ptr 100 0), (9, .ptr 102 0), (11, .ptr 104 0), (12, .int .i64 0), (14, .ptr 106 0), (17, .ptr 108 0), (18, .int .i64 0), (19, .sint .i64 (.var 200))], heap := [] }], exits := [(.exit 0, { slots := [(5, .ptr 100 0), (9, .ptr 102 0), (11, .ptr 104 0), (12, .int .i64 0), (14, .ptr 106 0), (17, .ptr 108 0), (18, .int .i64 0)], heap := [] })], own := [], pre := [(.app 146 [.var 0, .var 1, .var 2, .var 3, .var 4, .var 5, .var 6, .var 7, .var 8, .var 9, .var 10, .var 11, .var 12, .var 13, .var 14, .var 15, .var 16, .var 17, .var 19], true), (.app 146 [.var 0, .var 1, .var 2, .var 3, .var 4, .var 5, .var 6, .var 7, .var 8, .var 9, .var 10, .var 11, .var 12, .var 21, .var 14, .var 15, .var 16, .var 17, .var 19], true), (.op2 .lt (.var 21) (.var 13), false), (.op2 .eq (.op1 .len (.app 117 [.app 144 [.var 6, .var 7, .var 4, .var 5, .var 13, .var 11, .var 14, .var 15, .var 16, .var 19]])) (.num 0), false), (.op2 .eq (.op1 .len (.app 117 [.app 144 [.var 6, .var 7, .var 4, .var 5, .var 21, .var 11, .var 14, .var 15, .var 16, .var 19]])) (.num 0), true)] }
noncomputable def lPLNN_run : Env → AF → ASt → Option (List Out) := bodyRun MO0 6 (fun _ => noLoop) (loopAt Tryz.prog 3 0)
def lPLNN0_F : List (X × Bool) := []
noncomputable def lPLNN0_t : FTree := (.fork qf2 (.leaf [.leave 0 []]) (.fork (.app 21 [qf1]) (.fork qf5 .bad (.leaf [.again 0 []])) .bad))
noncomputable def lPLNN0_l : List (List (X × Bool) × Option (List (Tgt × Pairs))) := [([(qf2, true)], some [(.leave 0 [], [])]),
  ([(qf5, true), (.app 21 [qf1], true), (qf2, false)], none),
  ([(qf5, false), (.app 21 [qf1], true), (qf2, false)], some [(.again 0 [], [(.var 200, qf3)])]),
  ([(.app 21 [qf1], false), (qf2, false)], none)]
theorem lPLNN0_w (r : Rho) : lPLNN_D.ways lPLNN_run E1 r 0 lPLNN0_F lPLNN0_t = some lPLNN0_l := by kernel_rfl
theorem lPLNN_ok : lPLNN_D.ok = true := by kernel_rfl
theorem lPLNN_step {ρ : Rho} {r : Rat9} {s : Sal9} {l : List Who} {kr ks : Nat → IntKind} {P : Int} {kp : IntKind} (hr : Rat9At ρ 0 kr r) (hs : Sal9At ρ 9 ks s) (h19 : ρ.val 19 = some (whosR l)) (hsy : ρ.sym = sy) (h21 : ρ.val 21 = some (.int kp P)) (hga : OkA r s l) (hgb : OkB r s l P) (hP : ¬ P < s.price) (ha : ¬ ((accB (accA []) (payL ⟨r.cart, r.store, r.num, r.den, s.price, s.hour, s.carter, s.keeper, s.since⟩ l)).length : Int) = 0) (hb : ((accB (accA []) (payL ⟨r.cart, r.store, r.num, r.den, P, s.hour, s.carter, s.keeper, s.since⟩ l)).length : Int) = 0) (j : Nat) (vals : List Value) (hI : mo_Inv j vals) :
    StepOk lPLNN_D lPLNN_run E1 ρ mo_Inv mo_mu j vals := by
  obtain ⟨rfl, n, rfl, hn0, hn1⟩ := hI
  have hN : lPLNN_D.N = 200 := rfl
  obtain ⟨v0, v1, v2, v3, v4, v5, v6, v7, v8, v9, v10, v11, v12, v13, v14, v15, v16, v17, v19⟩ := ext_all lPLNN_D.N [.int .i64 n] (by rw [hN]; omega) hr hs h19
  have vs : (ρ.ext lPLNN_D.N [.int .i64 n]).sym = sy := hsy
  have v21 : (ρ.ext lPLNN_D.N [.int .i64 n]).val 21 = some (.int kp P) := by rw [ext_low _ _ _ _ (by rw [hN]; omega)]; exact h21
  have v200 : (ρ.ext lPLNN_D.N [.int .i64 n]).val 200 = some (.int .i64 n) := by rw [ext_high _ _ _ _ (by rw [hN]; omega)]; rfl
  obtain ⟨hsa, hsb, hle⟩ := mo_facts hga hgb hP
  have hm : ∀ k, ((0 : Int) < sumK (chgOf (accB (accA []) (payL ⟨r.cart, r.store, r.num, r.den, s.price, s.hour, s.carter, s.keeper, s.since⟩ l))) k) = False := fun k => eq_false (by have := hle k; rw [had_none (show (accB (accA []) (payL ⟨r.cart, r.store, r.num, r.den, P, s.hour, s.carter, s.keeper, s.since⟩ l)).length = 0 by omega)] at this; omega)
  have hF : FactsIn (ρ.ext lPLNN_D.N [.int .i64 n]) lPLNN0_F := by simp only [lPLNN0_F, FactsIn]
  suffices both : AsksL (ρ.ext lPLNN_D.N [.int .i64 n]) (lPLNN0_t.asks lPLNN0_F) ∧ WaysOk lPLNN_D ρ mo_Inv mo_mu 0 [.int .i64 n] lPLNN0_l from step_of_ways (lPLNN0_w _) hF both.1.ok both.2
  have hw : n ≤ 40 → IntKind.i64.wrap (n + 1) = n + 1 := fun h => IntWalk.i64_in _ (by omega)
  have go : ¬ 40 < n → ∃ vals', (ρ.ext lPLNN_D.N vals').val 200 = some (.int .i64 (IntKind.i64.wrap (n + 1))) ∧ mo_Inv 0 vals' ∧ mo_mu 0 vals' < mo_mu 0 [.int .i64 n] := fun h => by
    refine ⟨[.int .i64 (n + 1)], ?_, ⟨rfl, n + 1, rfl, by omega, by omega⟩, ?_⟩
    · rw [ext_high _ _ _ _ (by rw [hN]; omega), hw (by omega)]; rfl
    · simp [mo_mu, vI]; omega
  refine ⟨?_, ?_⟩
  · simp only [lPLNN0_t, qf6, qf5, qf4, qf3, qf2, qf1, qf0, lPLNN0_F, AsksL, GTree.asks, FTree.asks, FactsIn, List.append_nil, List.nil_append, List.cons_append, Option.some.injEq, exists_eq', implies_true, and_self, X.bool, X.den, denL, dX, denSub, denIte, asB, dY, v4, v5, v6, v7, v11, v13, v14, v15, v16, v19, v21, v200, vs, sym20, sym21, sym115, sym116, sym117, sym140, sym141, sym142, sym143, sym144, sym146, hsa, hsb, hm]
    try simp
  · simp only [lPLNN0_l, qf6, qf5, qf4, qf3, qf2, qf1, qf0, EndsOk, WaysOk, forall_cons, forall_nil, TgtOk, gpair, FactsIn, hold_cons, hold_nil, Option.some.injEq, dZ, X.bool, X.den, denL, dX, denSub, denIte, asB, dY, beq_iff_eq, beq_eq_false_iff_ne, ne_eq, v4, v5, v6, v7, v11, v13, v14, v15, v16, v19, v21, v200, vs, hsy, sym20, sym21, sym115, sym116, sym117, sym140, sym141, sym142, sym143, sym144, sym146, hsa, hsb, hm]
    clear v4 v5 v6 v7 v11 v13 v14 v15 v16 v19 v21 v200 vs hr hs h19 hsy hF
    (repeat' apply And.intro) <;> intros <;> first
      | trivial
      | contradiction
      | (exfalso; omega)
      | (exact go (by omega))
      | (exact go (by assumption))
noncomputable def lPLNL_D : LoopD := { N := 200, M := 201, size := sizeOfF 3, reads := [mBlk 104 13 (mV 4 5 13) (.slo 103 2 (.op1 .len (mPay (mV 4 5 13)))), mRow 103 (mV 4 5 13), mBlk 106 21 (mV 4 5 21) .nilslice], pats := [{ slots := [(5, .ptr 100 0), (9, .ptr 102 0), (11, .ptr 104 0), (12, .int .i64 0), (14, .ptr 106 0), (17, .ptr 109 0), (18, .int .i64 0), (19, .sint .i64 (.var 200))], heap := [] }], exits := [(.exit 0, { slots := [(5, .ptr 100 0), (9, .ptr 102 0), (11, .ptr 104 0), (12, .int .i64 0), (14, .ptr 106 0), (17, .ptr 109 0), (18, .int .i64 0)], heap := [] })], own := [], pre := [(.app 146 [.var 0, .var 1, .var 2, .var 3, .var 4, .var 5, .var 6, .var 7, .var 8, .var 9, .var 10, .var 11, .var 12, .var 13, .var 14, .var 15, .var 16, .var 17, .var 19], true), (.app 146 [.var 0, .var 1, .var 2, .var 3, .var 4, .var 5, .var 6, .var 7, .var 8, .var 9, .var 10, .var 11, .var 12, .var 21, .var 14, .var 15, .var 16, .var 17, .var 19], true), (.op2 .lt (.var 21) (.var 13), false), (.op2 .eq (.op1 .len (.app 117 [.app 144 [.var 6, .var 7, .var 4, .var 5, .var 13, .var 11, .var 14, .var 15, .var 16, .var 19]])) (.num 0), false), (.op2 .eq (.op1 .len (.app 117 [.app 144 [.var 6, .var 7, .var 4, .var 5, .var 21, .var 11, .var 14, .var 15, .var 16, .var 19]])) (.num 0), true)] }
noncomputable def lPLNL_run : Env → AF → ASt → Option (List Out) := bodyRun MO0 6 (fun _ => noLoop) (loopAt Tryz.prog 3 0)
def lPLNL0_F : List (X × Bool) := []
noncomputable def lPLNL0_t : FTree := (.fork qf2 (.leaf [.leave 0 []]) (.fork (.app 21 [qf1]) (.fork qf5 .bad (.leaf [.again 0 []])) .bad))
noncomputable def lPLNL0_l : List (List (X × Bool) × Option (List (Tgt × Pairs))) := [([(qf2, true)], some [(.leave 0 [], [])]),
  ([(qf5, true), (.app 21 [qf1], true), (qf2, false)], none),
  ([(qf5, false), (.app 21 [qf1], true), (qf2, false)], some [(.again 0 [], [(.var 200, qf3)])]),
  ([(.app 21 [qf1], false), (qf2, false)], none)]
theorem lPLNL0_w (r : Rho) : lPLNL_D.ways lPLNL_run E1 r 0 lPLNL0_F lPLNL0_t = some lPLNL0_l := by kernel_rfl
theorem lPLNL_ok : lPLNL_D.ok = true := by kernel_rfl
theorem lPLNL_step {ρ : Rho} {r : Rat9} {s : Sal9} {l : List Who} {kr ks : Nat → IntKind} {P : Int} {kp : IntKind} (hr : Rat9At ρ 0 kr r) (hs : Sal9At ρ 9 ks s) (h19 : ρ.val 19 = some (whosR l)) (hsy : ρ.sym = sy) (h21 : ρ.val 21 = some (.int kp P)) (hga : OkA r s l) (hgb : OkB r s l P) (hP : ¬ P < s.price) (ha : ¬ ((accB (accA []) (payL ⟨r.cart, r.store, r.num, r.den, s.price, s.hour, s.carter, s.keeper, s.since⟩ l)).length : Int) = 0) (hb : ((accB (accA []) (payL ⟨r.cart, r.store, r.num, r.den, P, s.hour, s.carter, s.keeper, s.since⟩ l)).length : Int) = 0) (j : Nat) (vals : List Value) (hI : mo_Inv j vals) :
    StepOk lPLNL_D lPLNL_run E1 ρ mo_Inv mo_mu j vals := by
  obtain ⟨rfl, n, rfl, hn0, hn1⟩ := hI
  have hN : lPLNL_D.N = 200 := rfl
  obtain ⟨v0, v1, v2, v3, v4, v5, v6, v7, v8, v9, v10, v11, v12, v13, v14, v15, v16, v17, v19⟩ := ext_all lPLNL_D.N [.int .i64 n] (by rw [hN]; omega) hr hs h19
  have vs : (ρ.ext lPLNL_D.N [.int .i64 n]).sym = sy := hsy
  have v21 : (ρ.ext lPLNL_D.N [.int .i64 n]).val 21 = some (.int kp P) := by rw [ext_low _ _ _ _ (by rw [hN]; omega)]; exact h21
  have v200 : (ρ.ext lPLNL_D.N [.int .i64 n]).val 200 = some (.int .i64 n) := by rw [ext_high _ _ _ _ (by rw [hN]; omega)]; rfl
  obtain ⟨hsa, hsb, hle⟩ := mo_facts hga hgb hP
  have hm : ∀ k, ((0 : Int) < sumK (chgOf (accB (accA []) (payL ⟨r.cart, r.store, r.num, r.den, s.price, s.hour, s.carter, s.keeper, s.since⟩ l))) k) = False := fun k => eq_false (by have := hle k; rw [had_none (show (accB (accA []) (payL ⟨r.cart, r.store, r.num, r.den, P, s.hour, s.carter, s.keeper, s.since⟩ l)).length = 0 by omega)] at this; omega)
  have hF : FactsIn (ρ.ext lPLNL_D.N [.int .i64 n]) lPLNL0_F := by simp only [lPLNL0_F, FactsIn]
  suffices both : AsksL (ρ.ext lPLNL_D.N [.int .i64 n]) (lPLNL0_t.asks lPLNL0_F) ∧ WaysOk lPLNL_D ρ mo_Inv mo_mu 0 [.int .i64 n] lPLNL0_l from step_of_ways (lPLNL0_w _) hF both.1.ok both.2
  have hw : n ≤ 40 → IntKind.i64.wrap (n + 1) = n + 1 := fun h => IntWalk.i64_in _ (by omega)
  have go : ¬ 40 < n → ∃ vals', (ρ.ext lPLNL_D.N vals').val 200 = some (.int .i64 (IntKind.i64.wrap (n + 1))) ∧ mo_Inv 0 vals' ∧ mo_mu 0 vals' < mo_mu 0 [.int .i64 n] := fun h => by
    refine ⟨[.int .i64 (n + 1)], ?_, ⟨rfl, n + 1, rfl, by omega, by omega⟩, ?_⟩
    · rw [ext_high _ _ _ _ (by rw [hN]; omega), hw (by omega)]; rfl
    · simp [mo_mu, vI]; omega
  refine ⟨?_, ?_⟩
  · simp only [lPLNL0_t, qf6, qf5, qf4, qf3, qf2, qf1, qf0, lPLNL0_F, AsksL, GTree.asks, FTree.asks, FactsIn, List.append_nil, List.nil_append, List.cons_append, Option.some.injEq, exists_eq', implies_true, and_self, X.bool, X.den, denL, dX, denSub, denIte, asB, dY, v4, v5, v6, v7, v11, v13, v14, v15, v16, v19, v21, v200, vs, sym20, sym21, sym115, sym116, sym117, sym140, sym141, sym142, sym143, sym144, sym146, hsa, hsb, hm]
    try simp
  · simp only [lPLNL0_l, qf6, qf5, qf4, qf3, qf2, qf1, qf0, EndsOk, WaysOk, forall_cons, forall_nil, TgtOk, gpair, FactsIn, hold_cons, hold_nil, Option.some.injEq, dZ, X.bool, X.den, denL, dX, denSub, denIte, asB, dY, beq_iff_eq, beq_eq_false_iff_ne, ne_eq, v4, v5, v6, v7, v11, v13, v14, v15, v16, v19, v21, v200, vs, hsy, sym20, sym21, sym115, sym116, sym117, sym140, sym141, sym142, sym143, sym144, sym146, hsa, hsb, hm]
    clear v4 v5 v6 v7 v11 v13 v14 v15 v16 v19 v21 v200 vs hr hs h19 hsy hF
    (repeat' apply And.intro) <;> intros <;> first
      | trivial
      | contradiction
      | (exfalso; omega)
      | (exact go (by omega))
      | (exact go (by assumption))
noncomputable def lPNLE_D : LoopD := { N := 200, M := 201, size := sizeOfF 3, reads := [mBlk 103 13 (mV 4 5 13) .nilslice, mBlk 106 21 (mV 4 5 21) (.slo 105 2 (.op1 .len (mPay (mV 4 5 21)))), mRow 105 (mV 4 5 21)], pats := [{ slots := [(5, .ptr 100 0), (9, .ptr 102 0), (11, .ptr 103 0), (12, .int .i64 0), (14, .ptr 106 0), (17, .ptr 108 0), (18, .int .i64 1), (19, .sint .i64 (.var 200))], heap := [] }], exits := [(.exit 0, { slots := [(5, .ptr 100 0), (9, .ptr 102 0), (11, .ptr 103 0), (12, .int .i64 0), (14, .ptr 106 0), (17, .ptr 108 0), (18, .int .i64 1)], heap := [] })], own := [], pre := [(.app 146 [.var 0, .var 1, .var 2, .var 3, .var 4, .var 5, .var 6, .var 7, .var 8, .var 9, .var 10, .var 11, .var 12, .var 13, .var 14, .var 15, .var 16, .var 17, .var 19], true), (.app 146 [.var 0, .var 1, .var 2, .var 3, .var 4, .var 5, .var 6, .var 7, .var 8, .var 9, .var 10, .var 11, .var 12, .var 21, .var 14, .var 15, .var 16, .var 17, .var 19], true), (.op2 .lt (.var 21) (.var 13), false), (.op2 .eq (.op1 .len (.app 117 [.app 144 [.var 6, .var 7, .var 4, .var 5, .var 13, .var 11, .var 14, .var 15, .var 16, .var 19]])) (.num 0), true), (.op2 .eq (.op1 .len (.app 117 [.app 144 [.var 6, .var 7, .var 4, .var 5, .var 21, .var 11, .var 14, .var 15, .var 16, .var 19]])) (.num 0), false)] }
noncomputable def lPNLE_run : Env → AF → ASt → Option (List Out) := bodyRun MO0 6 (fun _ => noLoop) (loopAt Tryz.prog 3 0)
def lPNLE0_F : List (X × Bool) := []
noncomputable def lPNLE0_t : FTree := (.fork qf2 (.leaf [.leave 0 []]) (.fork (.app 21 [qf0]) (.fork qf6 .bad (.leaf [.again 0 []])) .bad))
noncomputable def lPNLE0_l : List (List (X × Bool) × Option (List (Tgt × Pairs))) := [([(qf2, true)], some [(.leave 0 [], [])]),
  ([(qf6, true), (.app 21 [qf0], true), (qf2, false)], none),
  ([(qf6, false), (.app 21 [qf0], true), (qf2, false)], some [(.again 0 [], [(.var 200, qf3)])]),
  ([(.app 21 [qf0], false), (qf2, false)], none)]
theorem lPNLE0_w (r : Rho) : lPNLE_D.ways lPNLE_run E1 r 0 lPNLE0_F lPNLE0_t = some lPNLE0_l := by kernel_rfl
theorem lPNLE_ok : lPNLE_D.ok = true := by kernel_rfl
theorem lPNLE_step {ρ : Rho} {r : Rat9} {s : Sal9} {l : List Who} {kr ks : Nat → IntKind} {P : Int} {kp : IntKind} (hr : Rat9At ρ 0 kr r) (hs : Sal9At ρ 9 ks s) (h19 : ρ.val 19 = some (whosR l)) (hsy : ρ.sym = sy) (h21 : ρ.val 21 = some (.int kp P)) (hga : OkA r s l) (hgb : OkB r s l P) (hP : ¬ P < s.price) (ha : ((accB (accA []) (payL ⟨r.cart, r.store, r.num, r.den, s.price, s.hour, s.carter, s.keeper, s.since⟩ l)).length : Int) = 0) (hb : ¬ ((accB (accA []) (payL ⟨r.cart, r.store, r.num, r.den, P, s.hour, s.carter, s.keeper, s.since⟩ l)).length : Int) = 0) (j : Nat) (vals : List Value) (hI : mo_Inv j vals) :
    StepOk lPNLE_D lPNLE_run E1 ρ mo_Inv mo_mu j vals := by
  obtain ⟨rfl, n, rfl, hn0, hn1⟩ := hI
  have hN : lPNLE_D.N = 200 := rfl
  obtain ⟨v0, v1, v2, v3, v4, v5, v6, v7, v8, v9, v10, v11, v12, v13, v14, v15, v16, v17, v19⟩ := ext_all lPNLE_D.N [.int .i64 n] (by rw [hN]; omega) hr hs h19
  have vs : (ρ.ext lPNLE_D.N [.int .i64 n]).sym = sy := hsy
  have v21 : (ρ.ext lPNLE_D.N [.int .i64 n]).val 21 = some (.int kp P) := by rw [ext_low _ _ _ _ (by rw [hN]; omega)]; exact h21
  have v200 : (ρ.ext lPNLE_D.N [.int .i64 n]).val 200 = some (.int .i64 n) := by rw [ext_high _ _ _ _ (by rw [hN]; omega)]; rfl
  obtain ⟨hsa, hsb, hle⟩ := mo_facts hga hgb hP
  have hm : ∀ k, (sumK (chgOf (accB (accA []) (payL ⟨r.cart, r.store, r.num, r.den, P, s.hour, s.carter, s.keeper, s.since⟩ l))) k < 0) = False := fun k => eq_false (by have := hle k; rw [had_none (show (accB (accA []) (payL ⟨r.cart, r.store, r.num, r.den, s.price, s.hour, s.carter, s.keeper, s.since⟩ l)).length = 0 by omega)] at this; omega)
  have hF : FactsIn (ρ.ext lPNLE_D.N [.int .i64 n]) lPNLE0_F := by simp only [lPNLE0_F, FactsIn]
  suffices both : AsksL (ρ.ext lPNLE_D.N [.int .i64 n]) (lPNLE0_t.asks lPNLE0_F) ∧ WaysOk lPNLE_D ρ mo_Inv mo_mu 0 [.int .i64 n] lPNLE0_l from step_of_ways (lPNLE0_w _) hF both.1.ok both.2
  have hw : n ≤ 40 → IntKind.i64.wrap (n + 1) = n + 1 := fun h => IntWalk.i64_in _ (by omega)
  have go : ¬ 40 < n → ∃ vals', (ρ.ext lPNLE_D.N vals').val 200 = some (.int .i64 (IntKind.i64.wrap (n + 1))) ∧ mo_Inv 0 vals' ∧ mo_mu 0 vals' < mo_mu 0 [.int .i64 n] := fun h => by
    refine ⟨[.int .i64 (n + 1)], ?_, ⟨rfl, n + 1, rfl, by omega, by omega⟩, ?_⟩
    · rw [ext_high _ _ _ _ (by rw [hN]; omega), hw (by omega)]; rfl
    · simp [mo_mu, vI]; omega
  refine ⟨?_, ?_⟩
  · simp only [lPNLE0_t, qf6, qf5, qf4, qf3, qf2, qf1, qf0, lPNLE0_F, AsksL, GTree.asks, FTree.asks, FactsIn, List.append_nil, List.nil_append, List.cons_append, Option.some.injEq, exists_eq', implies_true, and_self, X.bool, X.den, denL, dX, denSub, denIte, asB, dY, v4, v5, v6, v7, v11, v13, v14, v15, v16, v19, v21, v200, vs, sym20, sym21, sym115, sym116, sym117, sym140, sym141, sym142, sym143, sym144, sym146, hsa, hsb, hm]
    try simp
  · simp only [lPNLE0_l, qf6, qf5, qf4, qf3, qf2, qf1, qf0, EndsOk, WaysOk, forall_cons, forall_nil, TgtOk, gpair, FactsIn, hold_cons, hold_nil, Option.some.injEq, dZ, X.bool, X.den, denL, dX, denSub, denIte, asB, dY, beq_iff_eq, beq_eq_false_iff_ne, ne_eq, v4, v5, v6, v7, v11, v13, v14, v15, v16, v19, v21, v200, vs, hsy, sym20, sym21, sym115, sym116, sym117, sym140, sym141, sym142, sym143, sym144, sym146, hsa, hsb, hm]
    clear v4 v5 v6 v7 v11 v13 v14 v15 v16 v19 v21 v200 vs hr hs h19 hsy hF
    (repeat' apply And.intro) <;> intros <;> first
      | trivial
      | contradiction
      | (exfalso; omega)
      | (exact go (by omega))
      | (exact go (by assumption))
noncomputable def lPNLN_D : LoopD := { N := 200, M := 201, size := sizeOfF 3, reads := [mBlk 103 13 (mV 4 5 13) .nilslice, mBlk 106 21 (mV 4 5 21) (.slo 105 2 (.op1 .len (mPay (mV 4 5 21)))), mRow 105 (mV 4 5 21)], pats := [{ slots := [(5, .ptr 100 0), (9, .ptr 102 0), (11, .ptr 103 0), (12, .int .i64 0), (14, .ptr 106 0), (17, .ptr 108 0), (18, .int .i64 0), (19, .sint .i64 (.var 200))], heap := [] }], exits := [(.exit 0, { slots := [(5, .ptr 100 0), (9, .ptr 102 0), (11, .ptr 103 0), (12, .int .i64 0), (14, .ptr 106 0), (17, .ptr 108 0), (18, .int .i64 0)], heap := [] })], own := [], pre := [(.app 146 [.var 0, .var 1, .var 2, .var 3, .var 4, .var 5, .var 6, .var 7, .var 8, .var 9, .var 10, .var 11, .var 12, .var 13, .var 14, .var 15, .var 16, .var 17, .var 19], true), (.app 146 [.var 0, .var 1, .var 2, .var 3, .var 4, .var 5, .var 6, .var 7, .var 8, .var 9, .var 10, .var 11, .var 12, .var 21, .var 14, .var 15, .var 16, .var 17, .var 19], true), (.op2 .lt (.var 21) (.var 13), false), (.op2 .eq (.op1 .len (.app 117 [.app 144 [.var 6, .var 7, .var 4, .var 5, .var 13, .var 11, .var 14, .var 15, .var 16, .var 19]])) (.num 0), true), (.op2 .eq (.op1 .len (.app 117 [.app 144 [.var 6, .var 7, .var 4, .var 5, .var 21, .var 11, .var 14, .var 15, .var 16, .var 19]])) (.num 0), false)] }
noncomputable def lPNLN_run : Env → AF → ASt → Option (List Out) := bodyRun MO0 6 (fun _ => noLoop) (loopAt Tryz.prog 3 0)
def lPNLN0_F : List (X × Bool) := []
noncomputable def lPNLN0_t : FTree := (.fork qf2 (.leaf [.leave 0 []]) (.fork (.app 21 [qf0]) (.fork qf6 .bad (.leaf [.again 0 []])) .bad))
noncomputable def lPNLN0_l : List (List (X × Bool) × Option (List (Tgt × Pairs))) := [([(qf2, true)], some [(.leave 0 [], [])]),
  ([(qf6, true), (.app 21 [qf0], true), (qf2, false)], none),
  ([(qf6, false), (.app 21 [qf0], true), (qf2, false)], some [(.again 0 [], [(.var 200, qf3)])]),
  ([(.app 21 [qf0], false), (qf2, false)], none)]
theorem lPNLN0_w (r : Rho) : lPNLN_D.ways lPNLN_run E1 r 0 lPNLN0_F lPNLN0_t = some lPNLN0_l := by kernel_rfl
theorem lPNLN_ok : lPNLN_D.ok = true := by kernel_rfl
theorem lPNLN_step {ρ : Rho} {r : Rat9} {s : Sal9} {l : List Who} {kr ks : Nat → IntKind} {P : Int} {kp : IntKind} (hr : Rat9At ρ 0 kr r) (hs : Sal9At ρ 9 ks s) (h19 : ρ.val 19 = some (whosR l)) (hsy : ρ.sym = sy) (h21 : ρ.val 21 = some (.int kp P)) (hga : OkA r s l) (hgb : OkB r s l P) (hP : ¬ P < s.price) (ha : ((accB (accA []) (payL ⟨r.cart, r.store, r.num, r.den, s.price, s.hour, s.carter, s.keeper, s.since⟩ l)).length : Int) = 0) (hb : ¬ ((accB (accA []) (payL ⟨r.cart, r.store, r.num, r.den, P, s.hour, s.carter, s.keeper, s.since⟩ l)).length : Int) = 0) (j : Nat) (vals : List Value) (hI : mo_Inv j vals) :
    StepOk lPNLN_D lPNLN_run E1 ρ mo_Inv mo_mu j vals := by
  obtain ⟨rfl, n, rfl, hn0, hn1⟩ := hI
  have hN : lPNLN_D.N = 200 := rfl
  obtain ⟨v0, v1, v2, v3, v4, v5, v6, v7, v8, v9, v10, v11, v12, v13, v14, v15, v16, v17, v19⟩ := ext_all lPNLN_D.N [.int .i64 n] (by rw [hN]; omega) hr hs h19
  have vs : (ρ.ext lPNLN_D.N [.int .i64 n]).sym = sy := hsy
  have v21 : (ρ.ext lPNLN_D.N [.int .i64 n]).val 21 = some (.int kp P) := by rw [ext_low _ _ _ _ (by rw [hN]; omega)]; exact h21
  have v200 : (ρ.ext lPNLN_D.N [.int .i64 n]).val 200 = some (.int .i64 n) := by rw [ext_high _ _ _ _ (by rw [hN]; omega)]; rfl
  obtain ⟨hsa, hsb, hle⟩ := mo_facts hga hgb hP
  have hm : ∀ k, (sumK (chgOf (accB (accA []) (payL ⟨r.cart, r.store, r.num, r.den, P, s.hour, s.carter, s.keeper, s.since⟩ l))) k < 0) = False := fun k => eq_false (by have := hle k; rw [had_none (show (accB (accA []) (payL ⟨r.cart, r.store, r.num, r.den, s.price, s.hour, s.carter, s.keeper, s.since⟩ l)).length = 0 by omega)] at this; omega)
  have hF : FactsIn (ρ.ext lPNLN_D.N [.int .i64 n]) lPNLN0_F := by simp only [lPNLN0_F, FactsIn]
  suffices both : AsksL (ρ.ext lPNLN_D.N [.int .i64 n]) (lPNLN0_t.asks lPNLN0_F) ∧ WaysOk lPNLN_D ρ mo_Inv mo_mu 0 [.int .i64 n] lPNLN0_l from step_of_ways (lPNLN0_w _) hF both.1.ok both.2
  have hw : n ≤ 40 → IntKind.i64.wrap (n + 1) = n + 1 := fun h => IntWalk.i64_in _ (by omega)
  have go : ¬ 40 < n → ∃ vals', (ρ.ext lPNLN_D.N vals').val 200 = some (.int .i64 (IntKind.i64.wrap (n + 1))) ∧ mo_Inv 0 vals' ∧ mo_mu 0 vals' < mo_mu 0 [.int .i64 n] := fun h => by
    refine ⟨[.int .i64 (n + 1)], ?_, ⟨rfl, n + 1, rfl, by omega, by omega⟩, ?_⟩
    · rw [ext_high _ _ _ _ (by rw [hN]; omega), hw (by omega)]; rfl
    · simp [mo_mu, vI]; omega
  refine ⟨?_, ?_⟩
  · simp only [lPNLN0_t, qf6, qf5, qf4, qf3, qf2, qf1, qf0, lPNLN0_F, AsksL, GTree.asks, FTree.asks, FactsIn, List.append_nil, List.nil_append, List.cons_append, Option.some.injEq, exists_eq', implies_true, and_self, X.bool, X.den, denL, dX, denSub, denIte, asB, dY, v4, v5, v6, v7, v11, v13, v14, v15, v16, v19, v21, v200, vs, sym20, sym21, sym115, sym116, sym117, sym140, sym141, sym142, sym143, sym144, sym146, hsa, hsb, hm]
    try simp
  · simp only [lPNLN0_l, qf6, qf5, qf4, qf3, qf2, qf1, qf0, EndsOk, WaysOk, forall_cons, forall_nil, TgtOk, gpair, FactsIn, hold_cons, hold_nil, Option.some.injEq, dZ, X.bool, X.den, denL, dX, denSub, denIte, asB, dY, beq_iff_eq, beq_eq_false_iff_ne, ne_eq, v4, v5, v6, v7, v11, v13, v14, v15, v16, v19, v21, v200, vs, hsy, sym20, sym21, sym115, sym116, sym117, sym140, sym141, sym142, sym143, sym144, sym146, hsa, hsb, hm]
    clear v4 v5 v6 v7 v11 v13 v14 v15 v16 v19 v21 v200 vs hr hs h19 hsy hF
    (repeat' apply And.intro) <;> intros <;> first
      | trivial
      | contradiction
      | (exfalso; omega)
      | (exact go (by omega))
      | (exact go (by assumption))
noncomputable def lPNLL_D : LoopD := { N := 200, M := 201, size := sizeOfF 3, reads := [mBlk 103 13 (mV 4 5 13) .nilslice, mBlk 106 21 (mV 4 5 21) (.slo 105 2 (.op1 .len (mPay (mV 4 5 21)))), mRow 105 (mV 4 5 21)], pats := [{ slots := [(5, .ptr 100 0), (9, .ptr 102 0), (11, .ptr 103 0), (12, .int .i64 0), (14, .ptr 106 0), (17, .ptr 109 0), (18, .int .i64 0), (19, .sint .i64 (.var 200))], heap := [] }], exits := [(.exit 0, { slots := [(5, .ptr 100 0), (9, .ptr 102 0), (11, .ptr 103 0), (12, .int .i64 0), (14, .ptr 106 0), (17, .ptr 109 0), (18, .int .i64 0)], heap := [] })], own := [], pre := [(.app 146 [.var 0, .var 1, .var 2, .var 3, .var 4, .var 5, .var 6, .var 7, .var 8, .var 9, .var 10, .var 11, .var 12, .var 13, .var 14, .var 15, .var 16, .var 17, .var 19], true), (.app 146 [.var 0, .var 1, .var 2, .var 3, .var 4, .var 5, .var 6, .var 7, .var 8, .var 9, .var 10, .var 11, .var 12, .var 21, .var 14, .var 15, .var 16, .var 17, .var 19], true), (.op2 .lt (.var 21) (.var 13), false), (.op2 .eq (.op1 .len (.app 117 [.app 144 [.var 6, .var 7, .var 4, .var 5, .var 13, .var 11, .var 14, .var 15, .var 16, .var 19]])) (.num 0), true), (.op2 .eq (.op1 .len (.app 117 [.app 144 [.var 6, .var 7, .var 4, .var 5, .var 21, .var 11, .var 14, .var 15, .var 16, .var 19]])) (.num 0), false)] }
noncomputable def lPNLL_run : Env → AF → ASt → Option (List Out) := bodyRun MO0 6 (fun _ => noLoop) (loopAt Tryz.prog 3 0)
def lPNLL0_F : List (X × Bool) := []
noncomputable def lPNLL0_t : FTree := (.fork qf2 (.leaf [.leave 0 []]) (.fork (.app 21 [qf0]) (.fork qf6 .bad (.leaf [.again 0 []])) .bad))
noncomputable def lPNLL0_l : List (List (X × Bool) × Option (List (Tgt × Pairs))) := [([(qf2, true)], some [(.leave 0 [], [])]),
  ([(qf6, true), (.app 21 [qf0], true), (qf2, false)], none),
  ([(qf6, false), (.app 21 [qf0], true), (qf2, false)], some [(.again 0 [], [(.var 200, qf3)])]),
  ([(.app 21 [qf0], false), (qf2, false)], none)]
theorem lPNLL0_w (r : Rho) : lPNLL_D.ways lPNLL_run E1 r 0 lPNLL0_F lPNLL0_t = some lPNLL0_l := by kernel_rfl
theorem lPNLL_ok : lPNLL_D.ok = true := by kernel_rfl
theorem lPNLL_step {ρ : Rho} {r : Rat9} {s : Sal9} {l : List Who} {kr ks : Nat → IntKind} {P : Int} {kp : IntKind} (hr : Rat9At ρ 0 kr r) (hs : Sal9At ρ 9 ks s) (h19 : ρ.val 19 = some (whosR l)) (hsy : ρ.sym = sy) (h21 : ρ.val 21 = some (.int kp P)) (hga : OkA r s l) (hgb : OkB r s l P) (hP : ¬ P < s.price) (ha : ((accB (accA []) (payL ⟨r.cart, r.store, r.num, r.den, s.price, s.hour, s.carter, s.keeper, s.since⟩ l)).length : Int) = 0) (hb : ¬ ((accB (accA []) (payL ⟨r.cart, r.store, r.num, r.den, P, s.hour, s.carter, s.keeper, s.since⟩ l)).length : Int) = 0) (j : Nat) (vals : List Value) (hI : mo_Inv j vals) :
    StepOk lPNLL_D lPNLL_run E1 ρ mo_Inv mo_mu j vals := by
  obtain ⟨rfl, n, rfl, hn0, hn1⟩ := hI
  have hN : lPNLL_D.N = 200 := rfl
  obtain ⟨v0, v1, v2, v3, v4, v5, v6, v7, v8, v9, v10, v11, v12, v13, v14, v15, v16, v17, v19⟩ := ext_all lPNLL_D.N [.int .i64 n] (by rw [hN]; omega) hr hs h19
  have vs : (ρ.ext lPNLL_D.N [.int .i64 n]).sym = sy := hsy
  have v21 : (ρ.ext lPNLL_D.N [.int .i64 n]).val 21 = some (.int kp P) := by rw [ext_low _ _ _ _ (by rw [hN]; omega)]; exact h21
  have v200 : (ρ.ext lPNLL_D.N [.int .i64 n]).val 200 = some (.int .i64 n) := by rw [ext_high _ _ _ _ (by rw [hN]; omega)]; rfl
  obtain ⟨hsa, hsb, hle⟩ := mo_facts hga hgb hP
  have hm : ∀ k, (sumK (chgOf (accB (accA []) (payL ⟨r.cart, r.store, r.num, r.den, P, s.hour, s.carter, s.keeper, s.since⟩ l))) k < 0) = False := fun k => eq_false (by have := hle k; rw [had_none (show (accB (accA []) (payL ⟨r.cart, r.store, r.num, r.den, s.price, s.hour, s.carter, s.keeper, s.since⟩ l)).length = 0 by omega)] at this; omega)
  have hF : FactsIn (ρ.ext lPNLL_D.N [.int .i64 n]) lPNLL0_F := by simp only [lPNLL0_F, FactsIn]
  suffices both : AsksL (ρ.ext lPNLL_D.N [.int .i64 n]) (lPNLL0_t.asks lPNLL0_F) ∧ WaysOk lPNLL_D ρ mo_Inv mo_mu 0 [.int .i64 n] lPNLL0_l from step_of_ways (lPNLL0_w _) hF both.1.ok both.2
  have hw : n ≤ 40 → IntKind.i64.wrap (n + 1) = n + 1 := fun h => IntWalk.i64_in _ (by omega)
  have go : ¬ 40 < n → ∃ vals', (ρ.ext lPNLL_D.N vals').val 200 = some (.int .i64 (IntKind.i64.wrap (n + 1))) ∧ mo_Inv 0 vals' ∧ mo_mu 0 vals' < mo_mu 0 [.int .i64 n] := fun h => by
    refine ⟨[.int .i64 (n + 1)], ?_, ⟨rfl, n + 1, rfl, by omega, by omega⟩, ?_⟩
    · rw [ext_high _ _ _ _ (by rw [hN]; omega), hw (by omega)]; rfl
    · simp [mo_mu, vI]; omega
  refine ⟨?_, ?_⟩
  · simp only [lPNLL0_t, qf6, qf5, qf4, qf3, qf2, qf1, qf0, lPNLL0_F, AsksL, GTree.asks, FTree.asks, FactsIn, List.append_nil, List.nil_append, List.cons_append, Option.some.injEq, exists_eq', implies_true, and_self, X.bool, X.den, denL, dX, denSub, denIte, asB, dY, v4, v5, v6, v7, v11, v13, v14, v15, v16, v19, v21, v200, vs, sym20, sym21, sym115, sym116, sym117, sym140, sym141, sym142, sym143, sym144, sym146, hsa, hsb, hm]
    try simp
  · simp only [lPNLL0_l, qf6, qf5, qf4, qf3, qf2, qf1, qf0, EndsOk, WaysOk, forall_cons, forall_nil, TgtOk, gpair, FactsIn, hold_cons, hold_nil, Option.some.injEq, dZ, X.bool, X.den, denL, dX, denSub, denIte, asB, dY, beq_iff_eq, beq_eq_false_iff_ne, ne_eq, v4, v5, v6, v7, v11, v13, v14, v15, v16, v19, v21, v200, vs, hsy, sym20, sym21, sym115, sym116, sym117, sym140, sym141, sym142, sym143, sym144, sym146, hsa, hsb, hm]
    clear v4 v5 v6 v7 v11 v13 v14 v15 v16 v19 v21 v200 vs hr hs h19 hsy hF
    (repeat' apply And.intro) <;> intros <;> first
      | trivial
      | contradiction
      | (exfalso; omega)
      | (exact go (by omega))
      | (exact go (by assumption))
noncomputable def lPNNE_D : LoopD := { N := 200, M := 201, size := sizeOfF 3, reads := [mBlk 103 13 (mV 4 5 13) .nilslice, mBlk 105 21 (mV 4 5 21) .nilslice], pats := [{ slots := [(5, .ptr 100 0), (9, .ptr 102 0), (11, .ptr 103 0), (12, .int .i64 0), (14, .ptr 105 0), (17, .ptr 107 0), (18, .int .i64 1), (19, .sint .i64 (.var 200))], heap := [] }], exits := [(.exit 0, { slots := [(5, .ptr 100 0), (9, .ptr 102 0), (11, .ptr 103 0), (12, .int .i64 0), (14, .ptr 105 0), (17, .ptr 107 0), (18, .int .i64 1)], heap := [] })], own := [], pre := [(.app 146 [.var 0, .var 1, .var 2, .var 3, .var 4, .var 5, .var 6, .var 7, .var 8, .var 9, .var 10, .var 11, .var 12, .var 13, .var 14, .var 15, .var 16, .var 17, .var 19], true), (.app 146 [.var 0, .var 1, .var 2, .var 3, .var 4, .var 5, .var 6, .var 7, .var 8, .var 9, .var 10, .var 11, .var 12, .var 21, .var 14, .var 15, .var 16, .var 17, .var 19], true), (.op2 .lt (.var 21) (.var 13), false), (.op2 .eq (.op1 .len (.app 117 [.app 144 [.var 6, .var 7, .var 4, .var 5, .var 13, .var 11, .var 14, .var 15, .var 16, .var 19]])) (.num 0), true), (.op2 .eq (.op1 .len (.app 117 [.app 144 [.var 6, .var 7, .var 4, .var 5, .var 21, .var 11, .var 14, .var 15, .var 16, .var 19]])) (.num 0), true)] }
noncomputable def lPNNE_run : Env → AF → ASt → Option (List Out) := bodyRun MO0 6 (fun _ => noLoop) (loopAt Tryz.prog 3 0)
def lPNNE0_F : List (X × Bool) := []
noncomputable def lPNNE0_t : FTree := (.fork qf2 (.leaf [.leave 0 []]) (.leaf [.again 0 []]))
noncomputable def lPNNE0_l : List (List (X × Bool) × Option (List (Tgt × Pairs))) := [([(qf2, true)], some [(.leave 0 [], [])]),
  ([(qf2, false)], some [(.again 0 [], [(.var 200, qf3)])])]
theorem lPNNE0_w (r : Rho) : lPNNE_D.ways lPNNE_run E1 r 0 lPNNE0_F lPNNE0_t = some lPNNE0_l := by kernel_rfl
theorem lPNNE_ok : lPNNE_D.ok = true := by kernel_rfl
theorem lPNNE_step {ρ : Rho} {r : Rat9} {s : Sal9} {l : List Who} {kr ks : Nat → IntKind} {P : Int} {kp : IntKind} (hr : Rat9At ρ 0 kr r) (hs : Sal9At ρ 9 ks s) (h19 : ρ.val 19 = some (whosR l)) (hsy : ρ.sym = sy) (h21 : ρ.val 21 = some (.int kp P)) (hga : OkA r s l) (hgb : OkB r s l P) (hP : ¬ P < s.price) (ha : ((accB (accA []) (payL ⟨r.cart, r.store, r.num, r.den, s.price, s.hour, s.carter, s.keeper, s.since⟩ l)).length : Int) = 0) (hb : ((accB (accA []) (payL ⟨r.cart, r.store, r.num, r.den, P, s.hour, s.carter, s.keeper, s.since⟩ l)).length : Int) = 0) (j : Nat) (vals : List Value) (hI : mo_Inv j vals) :
    StepOk lPNNE_D lPNNE_run E1 ρ mo_Inv mo_mu j vals := by
  obtain ⟨rfl, n, rfl, hn0, hn1⟩ := hI
  have hN : lPNNE_D.N = 200 := rfl
  obtain ⟨v0, v1, v2, v3, v4, v5, v6, v7, v8, v9, v10, v11, v12, v13, v14, v15, v16, v17, v19⟩ := ext_all lPNNE_D.N [.int .i64 n] (by rw [hN]; omega) hr hs h19
  have vs : (ρ.ext lPNNE_D.N [.int .i64 n]).sym = sy := hsy
  have v21 : (ρ.ext lPNNE_D.N [.int .i64 n]).val 21 = some (.int kp P) := by rw [ext_low _ _ _ _ (by rw [hN]; omega)]; exact h21
  have v200 : (ρ.ext lPNNE_D.N [.int .i64 n]).val 200 = some (.int .i64 n) := by rw [ext_high _ _ _ _ (by rw [hN]; omega)]; rfl
  obtain ⟨hsa, hsb, hle⟩ := mo_facts hga hgb hP
  have hm : True := trivial
  have hF : FactsIn (ρ.ext lPNNE_D.N [.int .i64 n]) lPNNE0_F := by simp only [lPNNE0_F, FactsIn]
  suffices both : AsksL (ρ.ext lPNNE_D.N [.int .i64 n]) (lPNNE0_t.asks lPNNE0_F) ∧ WaysOk lPNNE_D ρ mo_Inv mo_mu 0 [.int .i64 n] lPNNE0_l from step_of_ways (lPNNE0_w _) hF both.1.ok both.2
  have hw : n ≤ 40 → IntKind.i64.wrap (n + 1) = n + 1 := fun h => IntWalk.i64_in _ (by omega)
  have go : ¬ 40 < n → ∃ vals', (ρ.ext lPNNE_D.N vals').val 200 = some (.int .i64 (IntKind.i64.wrap (n + 1))) ∧ mo_Inv 0 vals' ∧ mo_mu 0 vals' < mo_mu 0 [.int .i64 n] := fun h => by
    refine ⟨[.int .i64 (n + 1)], ?_, ⟨rfl, n + 1, rfl, by omega, by omega⟩, ?_⟩
    · rw [ext_high _ _ _ _ (by rw [hN]; omega), hw (by omega)]; rfl
    · simp [mo_mu, vI]; omega
  refine ⟨?_, ?_⟩
  · simp only [lPNNE0_t, qf6, qf5, qf4, qf3, qf2, qf1, qf0, lPNNE0_F, AsksL, GTree.asks, FTree.asks, FactsIn, List.append_nil, List.nil_append, List.cons_append, Option.some.injEq, exists_eq', implies_true, and_self, X.bool, X.den, denL, dX, denSub, denIte, asB, dY, v4, v5, v6, v7, v11, v13, v14, v15, v16, v19, v21, v200, vs, sym20, sym21, sym115, sym116, sym117, sym140, sym141, sym142, sym143, sym144, sym146, hsa, hsb, hm]
    try simp
  · simp only [lPNNE0_l, qf6, qf5, qf4, qf3, qf2, qf1, qf0, EndsOk, WaysOk, forall_cons, forall_nil, TgtOk, gpair, FactsIn, hold_cons, hold_nil, Option.some.injEq, dZ, X.bool, X.den, denL, dX, denSub, denIte, asB, dY, beq_iff_eq, beq_eq_false_iff_ne, ne_eq, v4, v5, v6, v7, v11, v13, v14, v15, v16, v19, v21, v200, vs, hsy, sym20, sym21, sym115, sym116, sym117, sym140, sym141, sym142, sym143, sym144, sym146, hsa, hsb, hm]
    clear v4 v5 v6 v7 v11 v13 v14 v15 v16 v19 v21 v200 vs hr hs h19 hsy hF
    (repeat' apply And.intro) <;> intros <;> first
      | trivial
      | contradiction
      | (exfalso; omega)
      | (exact go (by omega))
      | (exact go (by assumption))
noncomputable def lPNNN_D : LoopD := { N := 200, M := 201, size := sizeOfF 3, reads := [mBlk 103 13 (mV 4 5 13) .nilslice, mBlk 105 21 (mV 4 5 21) .nilslice], pats := [{ slots := [(5, .ptr 100 0), (9, .ptr 102 0), (11, .ptr 103 0), (12, .int .i64 0), (14, .ptr 105 0), (17, .ptr 107 0), (18, .int .i64 0), (19, .sint .i64 (.var 200))], heap := [] }], exits := [(.exit 0, { slots := [(5, .ptr 100 0), (9, .ptr 102 0), (11, .ptr 103 0), (12, .int .i64 0), (14, .ptr 105 0), (17, .ptr 107 0), (18, .int .i64 0)], heap := [] })], own := [], pre := [(.app 146 [.var 0, .var 1, .var 2, .var 3, .var 4, .var 5, .var 6, .var 7, .var 8, .var 9, .var 10, .var 11, .var 12, .var 13, .var 14, .var 15, .var 16, .var 17, .var 19], true), (.app 146 [.var 0, .var 1, .var 2, .var 3, .var 4, .var 5, .var 6, .var 7, .var 8, .var 9, .var 10, .var 11, .var 12, .var 21, .var 14, .var 15, .var 16, .var 17, .var 19], true), (.op2 .lt (.var 21) (.var 13), false), (.op2 .eq (.op1 .len (.app 117 [.app 144 [.var 6, .var 7, .var 4, .var 5, .var 13, .var 11, .var 14, .var 15, .var 16, .var 19]])) (.num 0), true), (.op2 .eq (.op1 .len (.app 117 [.app 144 [.var 6, .var 7, .var 4, .var 5, .var 21, .var 11, .var 14, .var 15, .var 16, .var 19]])) (.num 0), true)] }
noncomputable def lPNNN_run : Env → AF → ASt → Option (List Out) := bodyRun MO0 6 (fun _ => noLoop) (loopAt Tryz.prog 3 0)
def lPNNN0_F : List (X × Bool) := []
noncomputable def lPNNN0_t : FTree := (.fork qf2 (.leaf [.leave 0 []]) (.leaf [.again 0 []]))
noncomputable def lPNNN0_l : List (List (X × Bool) × Option (List (Tgt × Pairs))) := [([(qf2, true)], some [(.leave 0 [], [])]),
  ([(qf2, false)], some [(.again 0 [], [(.var 200, qf3)])])]
theorem lPNNN0_w (r : Rho) : lPNNN_D.ways lPNNN_run E1 r 0 lPNNN0_F lPNNN0_t = some lPNNN0_l := by kernel_rfl
theorem lPNNN_ok : lPNNN_D.ok = true := by kernel_rfl
theorem lPNNN_step {ρ : Rho} {r : Rat9} {s : Sal9} {l : List Who} {kr ks : Nat → IntKind} {P : Int} {kp : IntKind} (hr : Rat9At ρ 0 kr r) (hs : Sal9At ρ 9 ks s) (h19 : ρ.val 19 = some (whosR l)) (hsy : ρ.sym = sy) (h21 : ρ.val 21 = some (.int kp P)) (hga : OkA r s l) (hgb : OkB r s l P) (hP : ¬ P < s.price) (ha : ((accB (accA []) (payL ⟨r.cart, r.store, r.num, r.den, s.price, s.hour, s.carter, s.keeper, s.since⟩ l)).length : Int) = 0) (hb : ((accB (accA []) (payL ⟨r.cart, r.store, r.num, r.den, P, s.hour, s.carter, s.keeper, s.since⟩ l)).length : Int) = 0) (j : Nat) (vals : List Value) (hI : mo_Inv j vals) :
    StepOk lPNNN_D lPNNN_run E1 ρ mo_Inv mo_mu j vals := by
  obtain ⟨rfl, n, rfl, hn0, hn1⟩ := hI
  have hN : lPNNN_D.N = 200 := rfl
  obtain ⟨v0, v1, v2, v3, v4, v5, v6, v7, v8, v9, v10, v11, v12, v13, v14, v15, v16, v17, v19⟩ := ext_all lPNNN_D.N [.int .i64 n] (by rw [hN]; omega) hr hs h19
  have vs : (ρ.ext lPNNN_D.N [.int .i64 n]).sym = sy := hsy
  have v21 : (ρ.ext lPNNN_D.N [.int .i64 n]).val 21 = some (.int kp P) := by rw [ext_low _ _ _ _ (by rw [hN]; omega)]; exact h21
  have v200 : (ρ.ext lPNNN_D.N [.int .i64 n]).val 200 = some (.int .i64 n) := by rw [ext_high _ _ _ _ (by rw [hN]; omega)]; rfl
  obtain ⟨hsa, hsb, hle⟩ := mo_facts hga hgb hP
  have hm : True := trivial
  have hF : FactsIn (ρ.ext lPNNN_D.N [.int .i64 n]) lPNNN0_F := by simp only [lPNNN0_F, FactsIn]
  suffices both : AsksL (ρ.ext lPNNN_D.N [.int .i64 n]) (lPNNN0_t.asks lPNNN0_F) ∧ WaysOk lPNNN_D ρ mo_Inv mo_mu 0 [.int .i64 n] lPNNN0_l from step_of_ways (lPNNN0_w _) hF both.1.ok both.2
  have hw : n ≤ 40 → IntKind.i64.wrap (n + 1) = n + 1 := fun h => IntWalk.i64_in _ (by omega)
  have go : ¬ 40 < n → ∃ vals', (ρ.ext lPNNN_D.N vals').val 200 = some (.int .i64 (IntKind.i64.wrap (n + 1))) ∧ mo_Inv 0 vals' ∧ mo_mu 0 vals' < mo_mu 0 [.int .i64 n] := fun h => by
    refine ⟨[.int .i64 (n + 1)], ?_, ⟨rfl, n + 1, rfl, by omega, by omega⟩, ?_⟩
    · rw [ext_high _ _ _ _ (by rw [hN]; omega), hw (by omega)]; rfl
    · simp [mo_mu, vI]; omega
  refine ⟨?_, ?_⟩
  · simp only [lPNNN0_t, qf6, qf5, qf4, qf3, qf2, qf1, qf0, lPNNN0_F, AsksL, GTree.asks, FTree.asks, FactsIn, List.append_nil, List.nil_append, List.cons_append, Option.some.injEq, exists_eq', implies_true, and_self, X.bool, X.den, denL, dX, denSub, denIte, asB, dY, v4, v5, v6, v7, v11, v13, v14, v15, v16, v19, v21, v200, vs, sym20, sym21, sym115, sym116, sym117, sym140, sym141, sym142, sym143, sym144, sym146, hsa, hsb, hm]
    try simp
  · simp only [lPNNN0_l, qf6, qf5, qf4, qf3, qf2, qf1, qf0, EndsOk, WaysOk, forall_cons, forall_nil, TgtOk, gpair, FactsIn, hold_cons, hold_nil, Option.some.injEq, dZ, X.bool, X.den, denL, dX, denSub, denIte, asB, dY, beq_iff_eq, beq_eq_false_iff_ne, ne_eq, v4, v5, v6, v7, v11, v13, v14, v15, v16, v19, v21, v200, vs, hsy, sym20, sym21, sym115, sym116, sym117, sym140, sym141, sym142, sym143, sym144, sym146, hsa, hsb, hm]
    clear v4 v5 v6 v7 v11 v13 v14 v15 v16 v19 v21 v200 vs hr hs h19 hsy hF
    (repeat' apply And.intro) <;> intros <;> first
      | trivial
      | contradiction
      | (exfalso; omega)
      | (exact go (by omega))
      | (exact go (by assumption))
noncomputable def lPNNL_D : LoopD := { N := 200, M := 201, size := sizeOfF 3, reads := [mBlk 103 13 (mV 4 5 13) .nilslice, mBlk 105 21 (mV 4 5 21) .nilslice], pats := [{ slots := [(5, .ptr 100 0), (9, .ptr 102 0), (11, .ptr 103 0), (12, .int .i64 0), (14, .ptr 105 0), (17, .ptr 108 0), (18, .int .i64 0), (19, .sint .i64 (.var 200))], heap := [] }], exits := [(.exit 0, { slots := [(5, .ptr 100 0), (9, .ptr 102 0), (11, .ptr 103 0), (12, .int .i64 0), (14, .ptr 105 0), (17, .ptr 108 0), (18, .int .i64 0)], heap := [] })], own := [], pre := [(.app 146 [.var 0, .var 1, .var 2, .var 3, .var 4, .var 5, .var 6, .var 7, .var 8, .var 9, .var 10, .var 11, .var 12, .var 13, .var 14, .var 15, .var 16, .var 17, .var 19], true), (.app 146 [.var 0, .var 1, .var 2, .var 3, .var 4, .var 5, .var 6, .var 7, .var 8, .var 9, .var 10, .var 11, .var 12, .var 21, .var 14, .var 15, .var 16, .var 17, .var 19], true), (.op2 .lt (.var 21) (.var 13), false), (.op2 .eq (.op1 .len (.app 117 [.app 144 [.var 6, .var 7, .var 4, .var 5, .var 13, .var 11, .var 14, .var 15, .var 16, .var 19]])) (.num 0), true), (.op2 .eq (.op1 .len (.app 117 [.app 144 [.var 6, .var 7, .var 4, .var 5, .var 21, .var 11, .var 14, .var 15, .var 16, .var 19]])) (.num 0), true)] }
noncomputable def lPNNL_run : Env → AF → ASt → Option (List Out) := bodyRun MO0 6 (fun _ => noLoop) (loopAt Tryz.prog 3 0)
def lPNNL0_F : List (X × Bool) := []
noncomputable def lPNNL0_t : FTree := (.fork qf2 (.leaf [.leave 0 []]) (.leaf [.again 0 []]))
noncomputable def lPNNL0_l : List (List (X × Bool) × Option (List (Tgt × Pairs))) := [([(qf2, true)], some [(.leave 0 [], [])]),
  ([(qf2, false)], some [(.again 0 [], [(.var 200, qf3)])])]
theorem lPNNL0_w (r : Rho) : lPNNL_D.ways lPNNL_run E1 r 0 lPNNL0_F lPNNL0_t = some lPNNL0_l := by kernel_rfl
theorem lPNNL_ok : lPNNL_D.ok = true := by kernel_rfl
theorem lPNNL_step {ρ : Rho} {r : Rat9} {s : Sal9} {l : List Who} {kr ks : Nat → IntKind} {P : Int} {kp : IntKind} (hr : Rat9At ρ 0 kr r) (hs : Sal9At ρ 9 ks s) (h19 : ρ.val 19 = some (whosR l)) (hsy : ρ.sym = sy) (h21 : ρ.val 21 = some (.int kp P)) (hga : OkA r s l) (hgb : OkB r s l P) (hP : ¬ P < s.price) (ha : ((accB (accA []) (payL ⟨r.cart, r.store, r.num, r.den, s.price, s.hour, s.carter, s.keeper, s.since⟩ l)).length : Int) = 0) (hb : ((accB (accA []) (payL ⟨r.cart, r.store, r.num, r.den, P, s.hour, s.carter, s.keeper, s.since⟩ l)).length : Int) = 0) (j : Nat) (vals : List Value) (hI : mo_Inv j vals) :
    StepOk lPNNL_D lPNNL_run E1 ρ mo_Inv mo_mu j vals := by
  obtain ⟨rfl, n, rfl, hn0, hn1⟩ := hI
  have hN : lPNNL_D.N = 200 := rfl
  obtain ⟨v0, v1, v2, v3, v4, v5, v6, v7, v8, v9, v10, v11, v12, v13, v14, v15, v16, v17, v19⟩ := ext_all lPNNL_D.N [.int .i64 n] (by rw [hN]; omega) hr hs h19
  have vs : (ρ.ext lPNNL_D.N [.int .i64 n]).sym = sy := hsy
  have v21 : (ρ.ext lPNNL_D.N [.int .i64 n]).val 21 = some (.int kp P) := by rw [ext_low _ _ _ _ (by rw [hN]; omega)]; exact h21
  have v200 : (ρ.ext lPNNL_D.N [.int .i64 n]).val 200 = some (.int .i64 n) := by rw [ext_high _ _ _ _ (by rw [hN]; omega)]; rfl
  obtain ⟨hsa, hsb, hle⟩ := mo_facts hga hgb hP
  have hm : True := trivial
  have hF : FactsIn (ρ.ext lPNNL_D.N [.int .i64 n]) lPNNL0_F := by simp only [lPNNL0_F, FactsIn]
  suffices both : AsksL (ρ.ext lPNNL_D.N [.int .i64 n]) (lPNNL0_t.asks lPNNL0_F) ∧ WaysOk lPNNL_D ρ mo_Inv mo_mu 0 [.int .i64 n] lPNNL0_l from step_of_ways (lPNNL0_w _) hF both.1.ok both.2
  have hw : n ≤ 40 → IntKind.i64.wrap (n + 1) = n + 1 := fun h => IntWalk.i64_in _ (by omega)
  have go : ¬ 40 < n → ∃ vals', (ρ.ext lPNNL_D.N vals').val 200 = some (.int .i64 (IntKind.i64.wrap (n + 1))) ∧ mo_Inv 0 vals' ∧ mo_mu 0 vals' < mo_mu 0 [.int .i64 n] := fun h => by
    refine ⟨[.int .i64 (n + 1)], ?_, ⟨rfl, n + 1, rfl, by omega, by omega⟩, ?_⟩
    · rw [ext_high _ _ _ _ (by rw [hN]; omega), hw (by omega)]; rfl
    · simp [mo_mu, vI]; omega
  refine ⟨?_, ?_⟩
  · simp only [lPNNL0_t, qf6, qf5, qf4, qf3, qf2, qf1, qf0, lPNNL0_F, AsksL, GTree.asks, FTree.asks, FactsIn, List.append_nil, List.nil_append, List.cons_append, Option.some.injEq, exists_eq', implies_true, and_self, X.bool, X.den, denL, dX, denSub, denIte, asB, dY, v4, v5, v6, v7, v11, v13, v14, v15, v16, v19, v21, v200, vs, sym20, sym21, sym115, sym116, sym117, sym140, sym141, sym142, sym143, sym144, sym146, hsa, hsb, hm]
    try simp
  · simp only [lPNNL0_l, qf6, qf5, qf4, qf3, qf2, qf1, qf0, EndsOk, WaysOk, forall_cons, forall_nil, TgtOk, gpair, FactsIn, hold_cons, hold_nil, Option.some.injEq, dZ, X.bool, X.den, denL, dX, denSub, denIte, asB, dY, beq_iff_eq, beq_eq_false_iff_ne, ne_eq, v4, v5, v6, v7, v11, v13, v14, v15, v16, v19, v21, v200, vs, hsy, sym20, sym21, sym115, sym116, sym117, sym140, sym141, sym142, sym143, sym144, sym146, hsa, hsb, hm]
    clear v4 v5 v6 v7 v11 v13 v14 v15 v16 v19 v21 v200 vs hr hs h19 hsy hF
    (repeat' apply And.intro) <;> intros <;> first
      | trivial
      | contradiction
      | (exfalso; omega)
      | (exact go (by omega))
      | (exact go (by assumption))
end Go.Proofs.YtcmbkcebbgigcaaGreatDoor.Zs
