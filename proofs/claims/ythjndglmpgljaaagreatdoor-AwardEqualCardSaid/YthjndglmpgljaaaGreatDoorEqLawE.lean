/-
  The law AwardEqual: for a list, for nil, and for the lists that lie in a package variable.
-/
import Derived.Test.YthjndglmpgljaaaGreatDoorEqConA
import Derived.Test.YthjndglmpgljaaaGreatDoorEqRunZ
import Derived.KernelRfl
set_option linter.unusedSimpArgs false
set_option linter.unusedVariables false
namespace Go.Proofs.YthjndglmpgljaaaGreatDoor.Zs
open Go
set_option linter.unusedSimpArgs false
set_option linter.unusedVariables false

noncomputable def EQ0 : Env → CallE := libs [cLib cwithin_con]
theorem EQ0_ok (F : List (X × Bool)) {r : Rho} (h : r.sym = sy) : CallsOk (E1.with F r) (EQ0 (E1.with F r)) := libs_ok fun c hc => by
  simp only [List.mem_cons, List.not_mem_nil, or_false] at hc
  subst hc; exact lib_ok (E := E1) cwithin_cok F h
noncomputable def EQ : Env → CallE := libs [cLib cwithin_con, cLib cFind_con, cLib cParts_con, fun _ => aliveL]
theorem EQ_ok (F : List (X × Bool)) {r : Rho} (h : r.sym = sy) : CallsOk (E1.with F r) (EQ (E1.with F r)) := libs_ok fun c hc => by
  simp only [List.mem_cons, List.not_mem_nil, or_false] at hc
  rcases hc with rfl | rfl | rfl | rfl
  · exact lib_ok (E := E1) cwithin_cok F h
  · exact lib_ok (E := E1) cFind_cok F h
  · exact lib_ok (E := E1) cParts_cok F h
  · exact alive_ok F r
def eq_vs : List X := [.num 0, .num 0]

noncomputable def lEq_D : LoopD := { N := 200, M := 202, size := sizeOfF 9, reads := [(100, .rows 1 whoSch (.num 0) (.app 102 [.var 3, .op1 .len (.var 1)]) true 3)], pats := [{ slots := [(0, .sint .i64 (.var 3)), (5, .slo 100 1 (.op1 .len (.var 1))), (7, .sint .i64 (.var 201)), (8, .sint .i64 (.var 200))], heap := [] }], exits := [(.exit 0, { slots := [(0, .sint .i64 (.var 3)), (7, .sint .i64 (.op1 (.kind .i64) (.var 3)))], heap := [] })], own := [], pre := [(.app 10 [.var 3, .num 0, .num 1000000000], true), (.app 100 [.var 1], true)] }
noncomputable def lEq_run : Env → AF → ASt → Option (List Out) := bodyRun EQ0 6 (fun _ => noLoop) (loopAt Tryz.prog 9 0)
def lEq0_F : List (X × Bool) := [(.op2 .lt (.var 200) (.num 0), false)]
noncomputable def lEq0_t : FTree := (.fork (.op2 .lt (.var 200) (.op1 .len (.var 1))) (.fork (.op2 .lt (.var 200) (.op1 .len (.app 102 [(.var 3), (.op1 .len (.var 1))]))) (.fork (.op2 .lt (.cell 0 (.app 102 [(.var 3), (.op1 .len (.var 1))]) (.var 200)) (.num 0)) .bad (.fork (.op2 .lt (.num 0) (.op1 .len (.var 1))) (.fork (.op2 .lt (.num 0) (.op1 .len (.app 102 [(.var 3), (.op1 .len (.var 1))]))) (.fork (.op2 .lt (.cell 0 (.app 102 [(.var 3), (.op1 .len (.var 1))]) (.num 0)) (.cell 0 (.app 102 [(.var 3), (.op1 .len (.var 1))]) (.var 200))) .bad (.fork (.op2 .lt (.num 1) (.op1 (.wrap .i64) (.op2 .sub (.cell 0 (.app 102 [(.var 3), (.op1 .len (.var 1))]) (.num 0)) (.cell 0 (.app 102 [(.var 3), (.op1 .len (.var 1))]) (.var 200))))) .bad (.fork (.op2 .lt (.num 0) (.var 200)) (.fork (.op2 .lt (.op1 (.wrap .i64) (.op2 .sub (.var 200) (.num 1))) (.num 0)) .bad (.fork (.op2 .lt (.op1 (.wrap .i64) (.op2 .sub (.var 200) (.num 1))) (.op1 .len (.var 1))) (.fork (.op2 .lt (.op1 (.wrap .i64) (.op2 .sub (.var 200) (.num 1))) (.op1 .len (.app 102 [(.var 3), (.op1 .len (.var 1))]))) (.fork (.op2 .lt (.cell 0 (.app 102 [(.var 3), (.op1 .len (.var 1))]) (.op1 (.wrap .i64) (.op2 .sub (.var 200) (.num 1)))) (.cell 0 (.app 102 [(.var 3), (.op1 .len (.var 1))]) (.var 200))) .bad (.leaf [(.again 0 [])])) .bad) .bad)) (.leaf [(.again 0 [])])))) .bad) .bad)) .bad) (.leaf [(.leave 0 [])]))
noncomputable def lEq0_l : List (List (X × Bool) × Option (List (Tgt × Pairs))) := [([((.op2 .lt (.cell 0 (.app 102 [(.var 3), (.op1 .len (.var 1))]) (.var 200)) (.num 0)), true), ((.op2 .lt (.var 200) (.op1 .len (.app 102 [(.var 3), (.op1 .len (.var 1))]))), true), ((.op2 .lt (.var 200) (.op1 .len (.var 1))), true), ((.op2 .lt (.var 200) (.num 0)), false)], none),
  ([((.op2 .lt (.cell 0 (.app 102 [(.var 3), (.op1 .len (.var 1))]) (.num 0)) (.cell 0 (.app 102 [(.var 3), (.op1 .len (.var 1))]) (.var 200))), true), ((.op2 .lt (.num 0) (.op1 .len (.app 102 [(.var 3), (.op1 .len (.var 1))]))), true), ((.op2 .lt (.num 0) (.op1 .len (.var 1))), true), ((.op2 .lt (.cell 0 (.app 102 [(.var 3), (.op1 .len (.var 1))]) (.var 200)) (.num 0)), false), ((.op2 .lt (.var 200) (.op1 .len (.app 102 [(.var 3), (.op1 .len (.var 1))]))), true), ((.op2 .lt (.var 200) (.op1 .len (.var 1))), true), ((.op2 .lt (.var 200) (.num 0)), false)], none),
  ([((.op2 .lt (.num 1) (.op1 (.wrap .i64) (.op2 .sub (.cell 0 (.app 102 [(.var 3), (.op1 .len (.var 1))]) (.num 0)) (.cell 0 (.app 102 [(.var 3), (.op1 .len (.var 1))]) (.var 200))))), true), ((.op2 .lt (.cell 0 (.app 102 [(.var 3), (.op1 .len (.var 1))]) (.num 0)) (.cell 0 (.app 102 [(.var 3), (.op1 .len (.var 1))]) (.var 200))), false), ((.op2 .lt (.num 0) (.op1 .len (.app 102 [(.var 3), (.op1 .len (.var 1))]))), true), ((.op2 .lt (.num 0) (.op1 .len (.var 1))), true), ((.op2 .lt (.cell 0 (.app 102 [(.var 3), (.op1 .len (.var 1))]) (.var 200)) (.num 0)), false), ((.op2 .lt (.var 200) (.op1 .len (.app 102 [(.var 3), (.op1 .len (.var 1))]))), true), ((.op2 .lt (.var 200) (.op1 .len (.var 1))), true), ((.op2 .lt (.var 200) (.num 0)), false)], none),
  ([((.op2 .lt (.op1 (.wrap .i64) (.op2 .sub (.var 200) (.num 1))) (.num 0)), true), ((.op2 .lt (.num 0) (.var 200)), true), ((.op2 .lt (.num 1) (.op1 (.wrap .i64) (.op2 .sub (.cell 0 (.app 102 [(.var 3), (.op1 .len (.var 1))]) (.num 0)) (.cell 0 (.app 102 [(.var 3), (.op1 .len (.var 1))]) (.var 200))))), false), ((.op2 .lt (.cell 0 (.app 102 [(.var 3), (.op1 .len (.var 1))]) (.num 0)) (.cell 0 (.app 102 [(.var 3), (.op1 .len (.var 1))]) (.var 200))), false), ((.op2 .lt (.num 0) (.op1 .len (.app 102 [(.var 3), (.op1 .len (.var 1))]))), true), ((.op2 .lt (.num 0) (.op1 .len (.var 1))), true), ((.op2 .lt (.cell 0 (.app 102 [(.var 3), (.op1 .len (.var 1))]) (.var 200)) (.num 0)), false), ((.op2 .lt (.var 200) (.op1 .len (.app 102 [(.var 3), (.op1 .len (.var 1))]))), true), ((.op2 .lt (.var 200) (.op1 .len (.var 1))), true), ((.op2 .lt (.var 200) (.num 0)), false)], none),
  ([((.op2 .lt (.cell 0 (.app 102 [(.var 3), (.op1 .len (.var 1))]) (.op1 (.wrap .i64) (.op2 .sub (.var 200) (.num 1)))) (.cell 0 (.app 102 [(.var 3), (.op1 .len (.var 1))]) (.var 200))), true), ((.op2 .lt (.op1 (.wrap .i64) (.op2 .sub (.var 200) (.num 1))) (.op1 .len (.app 102 [(.var 3), (.op1 .len (.var 1))]))), true), ((.op2 .lt (.op1 (.wrap .i64) (.op2 .sub (.var 200) (.num 1))) (.op1 .len (.var 1))), true), ((.op2 .lt (.op1 (.wrap .i64) (.op2 .sub (.var 200) (.num 1))) (.num 0)), false), ((.op2 .lt (.num 0) (.var 200)), true), ((.op2 .lt (.num 1) (.op1 (.wrap .i64) (.op2 .sub (.cell 0 (.app 102 [(.var 3), (.op1 .len (.var 1))]) (.num 0)) (.cell 0 (.app 102 [(.var 3), (.op1 .len (.var 1))]) (.var 200))))), false), ((.op2 .lt (.cell 0 (.app 102 [(.var 3), (.op1 .len (.var 1))]) (.num 0)) (.cell 0 (.app 102 [(.var 3), (.op1 .len (.var 1))]) (.var 200))), false), ((.op2 .lt (.num 0) (.op1 .len (.app 102 [(.var 3), (.op1 .len (.var 1))]))), true), ((.op2 .lt (.num 0) (.op1 .len (.var 1))), true), ((.op2 .lt (.cell 0 (.app 102 [(.var 3), (.op1 .len (.var 1))]) (.var 200)) (.num 0)), false), ((.op2 .lt (.var 200) (.op1 .len (.app 102 [(.var 3), (.op1 .len (.var 1))]))), true), ((.op2 .lt (.var 200) (.op1 .len (.var 1))), true), ((.op2 .lt (.var 200) (.num 0)), false)], none),
  ([((.op2 .lt (.cell 0 (.app 102 [(.var 3), (.op1 .len (.var 1))]) (.op1 (.wrap .i64) (.op2 .sub (.var 200) (.num 1)))) (.cell 0 (.app 102 [(.var 3), (.op1 .len (.var 1))]) (.var 200))), false), ((.op2 .lt (.op1 (.wrap .i64) (.op2 .sub (.var 200) (.num 1))) (.op1 .len (.app 102 [(.var 3), (.op1 .len (.var 1))]))), true), ((.op2 .lt (.op1 (.wrap .i64) (.op2 .sub (.var 200) (.num 1))) (.op1 .len (.var 1))), true), ((.op2 .lt (.op1 (.wrap .i64) (.op2 .sub (.var 200) (.num 1))) (.num 0)), false), ((.op2 .lt (.num 0) (.var 200)), true), ((.op2 .lt (.num 1) (.op1 (.wrap .i64) (.op2 .sub (.cell 0 (.app 102 [(.var 3), (.op1 .len (.var 1))]) (.num 0)) (.cell 0 (.app 102 [(.var 3), (.op1 .len (.var 1))]) (.var 200))))), false), ((.op2 .lt (.cell 0 (.app 102 [(.var 3), (.op1 .len (.var 1))]) (.num 0)) (.cell 0 (.app 102 [(.var 3), (.op1 .len (.var 1))]) (.var 200))), false), ((.op2 .lt (.num 0) (.op1 .len (.app 102 [(.var 3), (.op1 .len (.var 1))]))), true), ((.op2 .lt (.num 0) (.op1 .len (.var 1))), true), ((.op2 .lt (.cell 0 (.app 102 [(.var 3), (.op1 .len (.var 1))]) (.var 200)) (.num 0)), false), ((.op2 .lt (.var 200) (.op1 .len (.app 102 [(.var 3), (.op1 .len (.var 1))]))), true), ((.op2 .lt (.var 200) (.op1 .len (.var 1))), true), ((.op2 .lt (.var 200) (.num 0)), false)], some [((.again 0 []), [((.var 201), (.op1 (.wrap .i64) (.op2 .add (.var 201) (.cell 0 (.app 102 [(.var 3), (.op1 .len (.var 1))]) (.var 200))))), ((.var 200), (.op1 (.wrap .i64) (.op2 .add (.var 200) (.num 1))))])]),
  ([((.op2 .lt (.op1 (.wrap .i64) (.op2 .sub (.var 200) (.num 1))) (.op1 .len (.app 102 [(.var 3), (.op1 .len (.var 1))]))), false), ((.op2 .lt (.op1 (.wrap .i64) (.op2 .sub (.var 200) (.num 1))) (.op1 .len (.var 1))), true), ((.op2 .lt (.op1 (.wrap .i64) (.op2 .sub (.var 200) (.num 1))) (.num 0)), false), ((.op2 .lt (.num 0) (.var 200)), true), ((.op2 .lt (.num 1) (.op1 (.wrap .i64) (.op2 .sub (.cell 0 (.app 102 [(.var 3), (.op1 .len (.var 1))]) (.num 0)) (.cell 0 (.app 102 [(.var 3), (.op1 .len (.var 1))]) (.var 200))))), false), ((.op2 .lt (.cell 0 (.app 102 [(.var 3), (.op1 .len (.var 1))]) (.num 0)) (.cell 0 (.app 102 [(.var 3), (.op1 .len (.var 1))]) (.var 200))), false), ((.op2 .lt (.num 0) (.op1 .len (.app 102 [(.var 3), (.op1 .len (.var 1))]))), true), ((.op2 .lt (.num 0) (.op1 .len (.var 1))), true), ((.op2 .lt (.cell 0 (.app 102 [(.var 3), (.op1 .len (.var 1))]) (.var 200)) (.num 0)), false), ((.op2 .lt (.var 200) (.op1 .len (.app 102 [(.var 3), (.op1 .len (.var 1))]))), true), ((.op2 .lt (.var 200) (.op1 .len (.var 1))), true), ((.op2 .lt (.var 200) (.num 0)), false)], none),
  ([((.op2 .lt (.op1 (.wrap .i64) (.op2 .sub (.var 200) (.num 1))) (.op1 .len (.var 1))), false), ((.op2 .lt (.op1 (.wrap .i64) (.op2 .sub (.var 200) (.num 1))) (.num 0)), false), ((.op2 .lt (.num 0) (.var 200)), true), ((.op2 .lt (.num 1) (.op1 (.wrap .i64) (.op2 .sub (.cell 0 (.app 102 [(.var 3), (.op1 .len (.var 1))]) (.num 0)) (.cell 0 (.app 102 [(.var 3), (.op1 .len (.var 1))]) (.var 200))))), false), ((.op2 .lt (.cell 0 (.app 102 [(.var 3), (.op1 .len (.var 1))]) (.num 0)) (.cell 0 (.app 102 [(.var 3), (.op1 .len (.var 1))]) (.var 200))), false), ((.op2 .lt (.num 0) (.op1 .len (.app 102 [(.var 3), (.op1 .len (.var 1))]))), true), ((.op2 .lt (.num 0) (.op1 .len (.var 1))), true), ((.op2 .lt (.cell 0 (.app 102 [(.var 3), (.op1 .len (.var 1))]) (.var 200)) (.num 0)), false), ((.op2 .lt (.var 200) (.op1 .len (.app 102 [(.var 3), (.op1 .len (.var 1))]))), true), ((.op2 .lt (.var 200) (.op1 .len (.var 1))), true), ((.op2 .lt (.var 200) (.num 0)), false)], none),
  ([((.op2 .lt (.num 0) (.var 200)), false), ((.op2 .lt (.num 1) (.op1 (.wrap .i64) (.op2 .sub (.cell 0 (.app 102 [(.var 3), (.op1 .len (.var 1))]) (.num 0)) (.cell 0 (.app 102 [(.var 3), (.op1 .len (.var 1))]) (.var 200))))), false), ((.op2 .lt (.cell 0 (.app 102 [(.var 3), (.op1 .len (.var 1))]) (.num 0)) (.cell 0 (.app 102 [(.var 3), (.op1 .len (.var 1))]) (.var 200))), false), ((.op2 .lt (.num 0) (.op1 .len (.app 102 [(.var 3), (.op1 .len (.var 1))]))), true), ((.op2 .lt (.num 0) (.op1 .len (.var 1))), true), ((.op2 .lt (.cell 0 (.app 102 [(.var 3), (.op1 .len (.var 1))]) (.var 200)) (.num 0)), false), ((.op2 .lt (.var 200) (.op1 .len (.app 102 [(.var 3), (.op1 .len (.var 1))]))), true), ((.op2 .lt (.var 200) (.op1 .len (.var 1))), true), ((.op2 .lt (.var 200) (.num 0)), false)], some [((.again 0 []), [((.var 201), (.op1 (.wrap .i64) (.op2 .add (.var 201) (.cell 0 (.app 102 [(.var 3), (.op1 .len (.var 1))]) (.var 200))))), ((.var 200), (.op1 (.wrap .i64) (.op2 .add (.var 200) (.num 1))))])]),
  ([((.op2 .lt (.num 0) (.op1 .len (.app 102 [(.var 3), (.op1 .len (.var 1))]))), false), ((.op2 .lt (.num 0) (.op1 .len (.var 1))), true), ((.op2 .lt (.cell 0 (.app 102 [(.var 3), (.op1 .len (.var 1))]) (.var 200)) (.num 0)), false), ((.op2 .lt (.var 200) (.op1 .len (.app 102 [(.var 3), (.op1 .len (.var 1))]))), true), ((.op2 .lt (.var 200) (.op1 .len (.var 1))), true), ((.op2 .lt (.var 200) (.num 0)), false)], none),
  ([((.op2 .lt (.num 0) (.op1 .len (.var 1))), false), ((.op2 .lt (.cell 0 (.app 102 [(.var 3), (.op1 .len (.var 1))]) (.var 200)) (.num 0)), false), ((.op2 .lt (.var 200) (.op1 .len (.app 102 [(.var 3), (.op1 .len (.var 1))]))), true), ((.op2 .lt (.var 200) (.op1 .len (.var 1))), true), ((.op2 .lt (.var 200) (.num 0)), false)], none),
  ([((.op2 .lt (.var 200) (.op1 .len (.app 102 [(.var 3), (.op1 .len (.var 1))]))), false), ((.op2 .lt (.var 200) (.op1 .len (.var 1))), true), ((.op2 .lt (.var 200) (.num 0)), false)], none),
  ([((.op2 .lt (.var 200) (.op1 .len (.var 1))), false), ((.op2 .lt (.var 200) (.num 0)), false)], some [((.leave 0 []), [((.op1 (.kind .i64) (.var 3)), (.var 201))])])]
theorem lEq0_w (r : Rho) : lEq_D.ways lEq_run E1 r 0 lEq0_F lEq0_t = some lEq0_l := by kernel_rfl
theorem lEq_ok : lEq_D.ok = true := by kernel_rfl
def lEq_Inv (p : Int) (c : Nat) (j : Nat) (vals : List Value) : Prop :=
  j = 0 ∧ ∃ i : Nat, i ≤ c ∧ vals = [.int .i64 i, .int .i64 (sumTo p c i)]
def lEq_mu (c : Nat) (_ : Nat) (vals : List Value) : Nat := c - (vI (vals.getD 0 default)).toNat
set_option maxHeartbeats 1000000 in
theorem lEq_step {ρ : Rho} {p : Int} {l : List Who} {k3 : IntKind} (h1 : ρ.val 1 = some (whosR l)) (h3 : ρ.val 3 = some (.int k3 p)) (hsy : ρ.sym = sy) (hp0 : 0 ≤ p) (hp1 : p ≤ 1000000000) (hc0 : 1 ≤ l.length) (hc1 : l.length ≤ 40) (j : Nat) (vals : List Value) (hI : lEq_Inv p l.length j vals) :
    StepOk lEq_D lEq_run E1 ρ (lEq_Inv p l.length) (lEq_mu l.length) j vals := by
  obtain ⟨rfl, i, hi, rfl⟩ := hI
  have hN : lEq_D.N = 200 := rfl
  have v1 : (ρ.ext lEq_D.N [.int .i64 i, .int .i64 (sumTo p l.length i)]).val 1 = some (whosR l) := by rw [ext_low _ _ _ _ (by rw [hN]; omega)]; exact h1
  have v3 : (ρ.ext lEq_D.N [.int .i64 i, .int .i64 (sumTo p l.length i)]).val 3 = some (.int k3 p) := by rw [ext_low _ _ _ _ (by rw [hN]; omega)]; exact h3
  have v200 : (ρ.ext lEq_D.N [.int .i64 i, .int .i64 (sumTo p l.length i)]).val 200 = some (.int .i64 i) := by rw [ext_high _ _ _ _ (by rw [hN]; omega)]; rfl
  have v201 : (ρ.ext lEq_D.N [.int .i64 i, .int .i64 (sumTo p l.length i)]).val 201 = some (.int .i64 (sumTo p l.length i)) := by rw [ext_high _ _ _ _ (by rw [hN]; omega)]; rfl
  have vs : (ρ.ext lEq_D.N [.int .i64 i, .int .i64 (sumTo p l.length i)]).sym = sy := hsy

  generalize hc : l.length = c at *
  have hcn : ((c : Int)).toNat = c := Int.toNat_natCast c
  have hcp : (0 : Int) < c := by omega
  have hpl : (partsR p c).length = c := by rw [parts_len]; exact hcn
  have w3 : IntKind.i64.wrap ((i : Int) + 1) = ((i + 1 : Nat) : Int) := by rw [IntWalk.i64_in _ (by omega)]; rfl
  have w4 : IntKind.i64.wrap ((i : Int) - 1) = (i : Int) - 1 := IntWalk.i64_in _ (by omega)
  have q0 : (partsR p c)[((0 : Int)).toNat]? = some ⟨partR p c 0⟩ := parts_get p c 0 (by omega)
  refine step_of_ways (lEq0_w _) (F := lEq0_F) ?_ (AsksL.ok ?_) ?_
  · simp only [lEq0_F, FactsIn, X.bool, X.den, denL, d_wrap, d_kind, d_not, d_neg, d_slen, d_add, d_sub, d_mul, d_div, d_mod, d_lt, d_le, d_eq, d_eqb, d_eqs, d_lts, d_cat, d_sat, d_and, d_or, denSub, denIte, asB, whos_len, whos_cell, whos_lsub, whos_lcat, whos_rep, shrs_len, shrs_cell, shrs_lsub, shrs_lcat, whos_snocN, whos_snoc0N, v200, Option.some.injEq, Value.bool.injEq, decide_eq_false_iff_not, and_true]
    omega
  · by_cases hlt : i < c
    · have qi : (partsR p c)[((i : Int)).toNat]? = some ⟨partR p c i⟩ := by rw [Int.toNat_natCast]; exact parts_get p c i (by omega)
      have qj : ∃ x, (partsR p c)[((i : Int) - 1).toNat]? = some x := ⟨_, parts_get p c _ (by omega)⟩
      obtain ⟨x, qj⟩ := qj
      simp only [lEq0_t, lEq0_F, AsksL, GTree.asks, FTree.asks, FactsIn, List.append_nil, List.nil_append, List.cons_append, Option.some.injEq, exists_eq', implies_true, and_self, X.bool, X.den, denL, d_wrap, d_kind, d_not, d_neg, d_slen, d_add, d_sub, d_mul, d_div, d_mod, d_lt, d_le, d_eq, d_eqb, d_eqs, d_lts, d_cat, d_sat, d_and, d_or, denSub, denIte, asB, whos_len, whos_cell, whos_lsub, whos_lcat, whos_rep, shrs_len, shrs_cell, shrs_lsub, shrs_lcat, whos_snocN, whos_snoc0N, v1, v3, v200, v201, vs, sym10, sym20, sym100, sym101, sym102, sym103, hc, q0, qi, qj, w4, Option.bind_some, who0]
      try simp
    · have hci : ¬ (i : Int) < c := by omega
      simp only [lEq0_t, lEq0_F, AsksL, GTree.asks, FTree.asks, FactsIn, List.append_nil, List.nil_append, List.cons_append, Option.some.injEq, exists_eq', implies_true, and_self, X.bool, X.den, denL, d_wrap, d_kind, d_not, d_neg, d_slen, d_add, d_sub, d_mul, d_div, d_mod, d_lt, d_le, d_eq, d_eqb, d_eqs, d_lts, d_cat, d_sat, d_and, d_or, denSub, denIte, asB, whos_len, whos_cell, whos_lsub, whos_lcat, whos_rep, shrs_len, shrs_cell, shrs_lsub, shrs_lcat, whos_snocN, whos_snoc0N, v1, v3, v200, v201, vs, sym10, sym20, sym100, sym101, sym102, sym103, hc, hci]
      try simp
  · by_cases hlt : i < c
    · have qi : (partsR p c)[((i : Int)).toNat]? = some ⟨partR p c i⟩ := by rw [Int.toNat_natCast]; exact parts_get p c i (by omega)
      have qj : (partsR p c)[((i : Int) - 1).toNat]? = some ⟨partR p c (i - 1)⟩ := by
        rw [show ((i : Int) - 1).toNat = i - 1 by omega]; exact parts_get p c (i - 1) (by omega)
      have b1 := part_bounds p c i hp0 hcp
      have b2 := part_anti p c (Nat.zero_le i)
      have b3 := part_anti p c (Nat.sub_le i 1)
      have b4 := part_bounds p c 0 hp0 hcp
      have b5 := sumTo_le p c hp0 hcp (i + 1) (by omega)
      have b6 := tdiv_le p c hp0 hcp
      have w5 : IntKind.i64.wrap (partR p c 0 - partR p c i) = partR p c 0 - partR p c i := IntWalk.i64_in _ (by omega)
      have w6 : IntKind.i64.wrap (sumTo p c i + partR p c i) = sumTo p c (i + 1) := by
        have : sumTo p c i + partR p c i = sumTo p c (i + 1) := rfl
        rw [this]; exact IntWalk.i64_in _ (by omega)
      have hci : (i : Int) < c := by omega
      have go : ∃ vals', ((ρ.ext lEq_D.N vals').val 201 = some (.int .i64 (sumTo p c (i + 1))) ∧ (ρ.ext lEq_D.N vals').val 200 = some (.int .i64 ((i + 1 : Nat) : Int))) ∧ lEq_Inv p c 0 vals' ∧ lEq_mu c 0 vals' < lEq_mu c 0 [.int .i64 i, .int .i64 (sumTo p c i)] := by
        refine ⟨[.int .i64 ((i + 1 : Nat) : Int), .int .i64 (sumTo p c (i + 1))], ⟨?_, ?_⟩, ⟨rfl, i + 1, by omega, rfl⟩, ?_⟩
        · rw [ext_high _ _ _ _ (by rw [hN]; omega)]; rfl
        · rw [ext_high _ _ _ _ (by rw [hN]; omega)]; rfl
        · simp [lEq_mu, vI]; omega
      simp only [lEq0_l, EndsOk, WaysOk, forall_cons, forall_nil, TgtOk, gpair, FactsIn, hold_cons, hold_nil, Option.some.injEq, Value.bool.injEq, Value.int.injEq, decide_eq_true_eq, decide_eq_false_iff_not, and_true, true_and, and_imp, X.bool, X.den, denL, d_wrap, d_kind, d_not, d_neg, d_slen, d_add, d_sub, d_mul, d_div, d_mod, d_lt, d_le, d_eq, d_eqb, d_eqs, d_lts, d_cat, d_sat, d_and, d_or, denSub, denIte, asB, whos_len, whos_cell, whos_lsub, whos_lcat, whos_rep, shrs_len, shrs_cell, shrs_lsub, shrs_lcat, whos_snocN, whos_snoc0N, v1, v3, v200, v201, vs, h1, h3, hsy, sym10, sym20, sym100, sym101, sym102, sym103, hc, q0, qi, qj, Option.bind_some, who0, w3, w4, w5, w6, hpl]
      (repeat' apply And.intro) <;> intros <;> first
        | trivial
        | (exfalso; omega)
        | (exact go)
    · have hi' : i = c := by omega
      subst hi'
      have hci : ¬ ((i : Nat) : Int) < i := by omega
      have hs := sumTo_all p i hp0 hcp
      rw [hcn] at hs
      simp only [lEq0_l, EndsOk, WaysOk, forall_cons, forall_nil, TgtOk, gpair, FactsIn, hold_cons, hold_nil, Option.some.injEq, Value.bool.injEq, Value.int.injEq, decide_eq_true_eq, decide_eq_false_iff_not, and_true, true_and, and_imp, X.bool, X.den, denL, d_wrap, d_kind, d_not, d_neg, d_slen, d_add, d_sub, d_mul, d_div, d_mod, d_lt, d_le, d_eq, d_eqb, d_eqs, d_lts, d_cat, d_sat, d_and, d_or, denSub, denIte, asB, whos_len, whos_cell, whos_lsub, whos_lcat, whos_rep, shrs_len, shrs_cell, shrs_lsub, shrs_lcat, whos_snocN, whos_snoc0N, v1, v3, v200, v201, vs, h1, h3, hsy, sym10, sym20, sym100, sym101, sym102, sym103, hc, hci]
      simp [hs]
noncomputable def el_fn : FnD := { f := 9, args := argsAV [.one (.int .i64 3), whosArg 60 0], heap := hRoot ++ argsBlk [.one (.int .i64 3), whosArg 60 0], N := 100, M := 100, out := .sbool (.boo true), news := [] }
noncomputable def el_call : Env → CallL := fun E => acallAll E (evH E (EQ E) ((fun E => oneH 9 (hooks [(10, lEq_D.hook E.facts eq_vs)])) E) 12)
noncomputable def el_pre : List (X × Bool) := []
noncomputable def el_t : GTree := (.fork (.op2 .lt (.num 60) (.op1 .len (.var 1))) (.leaf [[]]) (.fork (.app 10 [(.var 3), (.num 0), (.num 1000000000)]) (.fork (.app 20 [(.var 1)]) (.fork (.app 100 [(.var 1)]) (.fork (.app 10 [(.op1 .len (.var 1)), (.num 1), (.num 40)]) (.fork (.op2 .eq (.op1 .len (.var 1)) (.op1 .len (.var 1))) (.fork (.op2 .eq (.op1 .len (.var 1)) (.num 0)) (.leaf [[]]) (.leaf [[]])) (.leaf [[]])) .bad) (.leaf [[]])) .bad) (.leaf [[]])))
noncomputable def el_l : List (List (X × Bool) × Option Pairs) := [([((.op2 .lt (.num 60) (.op1 .len (.var 1))), true)], some []),
  ([((.op2 .eq (.op1 .len (.var 1)) (.num 0)), true), ((.op2 .eq (.op1 .len (.var 1)) (.op1 .len (.var 1))), true), ((.app 10 [(.op1 .len (.var 1)), (.num 1), (.num 40)]), true), ((.app 100 [(.var 1)]), true), ((.app 20 [(.var 1)]), true), ((.app 10 [(.var 3), (.num 0), (.num 1000000000)]), true), ((.op2 .lt (.num 60) (.op1 .len (.var 1))), false)], some [((.boo true), (.boo false))]),
  ([((.op2 .eq (.op1 .len (.var 1)) (.num 0)), false), ((.op2 .eq (.op1 .len (.var 1)) (.op1 .len (.var 1))), true), ((.app 10 [(.op1 .len (.var 1)), (.num 1), (.num 40)]), true), ((.app 100 [(.var 1)]), true), ((.app 20 [(.var 1)]), true), ((.app 10 [(.var 3), (.num 0), (.num 1000000000)]), true), ((.op2 .lt (.num 60) (.op1 .len (.var 1))), false)], some [((.boo true), (.op2 .eq (.op1 (.kind .i64) (.var 3)) (.var 3)))]),
  ([((.op2 .eq (.op1 .len (.var 1)) (.op1 .len (.var 1))), false), ((.app 10 [(.op1 .len (.var 1)), (.num 1), (.num 40)]), true), ((.app 100 [(.var 1)]), true), ((.app 20 [(.var 1)]), true), ((.app 10 [(.var 3), (.num 0), (.num 1000000000)]), true), ((.op2 .lt (.num 60) (.op1 .len (.var 1))), false)], some [((.boo true), (.boo false))]),
  ([((.app 10 [(.op1 .len (.var 1)), (.num 1), (.num 40)]), false), ((.app 100 [(.var 1)]), true), ((.app 20 [(.var 1)]), true), ((.app 10 [(.var 3), (.num 0), (.num 1000000000)]), true), ((.op2 .lt (.num 60) (.op1 .len (.var 1))), false)], none),
  ([((.app 100 [(.var 1)]), false), ((.app 20 [(.var 1)]), true), ((.app 10 [(.var 3), (.num 0), (.num 1000000000)]), true), ((.op2 .lt (.num 60) (.op1 .len (.var 1))), false)], some []),
  ([((.app 20 [(.var 1)]), false), ((.app 10 [(.var 3), (.num 0), (.num 1000000000)]), true), ((.op2 .lt (.num 60) (.op1 .len (.var 1))), false)], none),
  ([((.app 10 [(.var 3), (.num 0), (.num 1000000000)]), false), ((.op2 .lt (.num 60) (.op1 .len (.var 1))), false)], some [])]
theorem el_w (r : Rho) : el_fn.ways el_call E1 r el_pre el_t = some el_l := by kernel_rfl
theorem el_H {r : Rho} {p : Int} {l : List Who} {k3 : IntKind} (h1 : r.val 1 = some (whosR l)) (h3 : r.val 3 = some (.int k3 p)) (hsy : r.sym = sy) (F : List (X × Bool)) : LoopsOk (E1.with F r) (oneH 9 (hooks [(10, lEq_D.hook (E1.with F r).facts eq_vs)])) := by
  refine loops_all (n := 1) (fun f fn h => h) (by kernel_rfl) fun i hi => ?_
  obtain rfl : i = 0 := by omega
  rw [hooks_hit (show keyOf (loopAt (E1.with F r).P 9 0) = 10 by kernel_rfl)]
  refine hook_ok (E₀ := E1) (run := lEq_run) (ρ := r) (Inv := lEq_Inv p l.length) (μ := lEq_mu l.length) E1_ok lEq_ok (fun F r' h => ?_) (fun hp => ?_)
  · exact bodyRun_ok E1_ok (EQ0_ok F (h.trans hsy)) fun _ _ => noLoop_ok
  · have hw := hp
    simp only [lEq_D, FactsIn, X.bool, X.den, denL, d_wrap, d_kind, d_not, d_neg, d_slen, d_add, d_sub, d_mul, d_div, d_mod, d_lt, d_le, d_eq, d_eqb, d_eqs, d_lts, d_cat, d_sat, d_and, d_or, denSub, denIte, asB, whos_len, whos_cell, whos_lsub, whos_lcat, whos_rep, shrs_len, shrs_cell, shrs_lsub, shrs_lcat, whos_snocN, whos_snoc0N, h1, h3, hsy, sym10, sym100, Option.some.injEq, Value.bool.injEq, and_true, withinB, finderB, Bool.and_eq_true, decide_eq_true_eq] at hw
    obtain ⟨⟨hp0, hp1⟩, ⟨hc0, hc1⟩, _⟩ := hw
    refine ⟨lEq_step h1 h3 hsy hp0 hp1 (by omega) (by omega), [.int .i64 0, .int .i64 0], ?_, rfl, 0, Nat.zero_le _, rfl⟩
    simp only [eq_vs, X.bool, X.den, denL, d_wrap, d_kind, d_not, d_neg, d_slen, d_add, d_sub, d_mul, d_div, d_mod, d_lt, d_le, d_eq, d_eqb, d_eqs, d_lts, d_cat, d_sat, d_and, d_or, denSub, denIte, asB, whos_len, whos_cell, whos_lsub, whos_lcat, whos_rep, shrs_len, shrs_cell, shrs_lsub, shrs_lcat, whos_snocN, whos_snoc0N]
theorem el_60 : (buildH el_fn.heap).get 60 = some (.rows 1 whoSch (.var 0) (.var 1) false 3) := by kernel_rfl
theorem el_out (σ : Sig) : el_fn.out.inst σ = some (.bool true) := rfl
theorem el_true {r : Rho} {σ : Sig} {w : World} {us : List Value} (hsy : r.sym = sy) (hρ : σ.rho = r) (hA : ∀ g id, E1.glob g = some id → ∃ κ, σ id = some (g, κ)) (hrel : (memOf el_fn.heap 100).rel Tryz.prog σ w (fun b => w.heap.size ≤ b)) (hins : Ins σ el_fn.args us) :
    Calls Tryz.prog 9 us.toArray w fun e w' => e = .returned (.bool true) ∧ Kept (fun b => w.heap.size ≤ b) w w' := by
  obtain ⟨u0, us, rfl, g0, hi⟩ := ins_cons hins
  obtain ⟨p, k3, rfl, h3⟩ := one_int g0
  obtain ⟨l, h1⟩ := whos_at hrel (i := 60) el_60
  rw [hρ] at h1 h3
  have h1 : r.val 1 = some (whosR l) := h1
  refine law_of (E := E1) (D := el_fn) E1_ok (fun F => EQ_ok F hsy) (fun F => el_H h1 h3 hsy F) (el_w r) hρ hA trivial hrel hins ?_ ?_ el_out
  · simp only [el_pre, el_t, AsksL, GTree.asks, FTree.asks, FactsIn, List.append_nil, List.nil_append, List.cons_append, Option.some.injEq, exists_eq', implies_true, and_self, X.bool, X.den, denL, d_wrap, d_kind, d_not, d_neg, d_slen, d_add, d_sub, d_mul, d_div, d_mod, d_lt, d_le, d_eq, d_eqb, d_eqs, d_lts, d_cat, d_sat, d_and, d_or, denSub, denIte, asB, whos_len, whos_cell, whos_lsub, whos_lcat, whos_rep, shrs_len, shrs_cell, shrs_lsub, shrs_lcat, whos_snocN, whos_snoc0N, h1, h3, hsy, sym10, sym20, sym100, sym101, sym102, sym103]
  · simp only [el_l, EndsOk, WaysOk, forall_cons, forall_nil, TgtOk, gpair, FactsIn, hold_cons, hold_nil, Option.some.injEq, Value.bool.injEq, Value.int.injEq, decide_eq_true_eq, decide_eq_false_iff_not, and_true, true_and, and_imp, X.bool, X.den, denL, d_wrap, d_kind, d_not, d_neg, d_slen, d_add, d_sub, d_mul, d_div, d_mod, d_lt, d_le, d_eq, d_eqb, d_eqs, d_lts, d_cat, d_sat, d_and, d_or, denSub, denIte, asB, whos_len, whos_cell, whos_lsub, whos_lcat, whos_rep, shrs_len, shrs_cell, shrs_lsub, shrs_lcat, whos_snocN, whos_snoc0N, h1, h3, hsy, sym10, sym20, sym100, sym101, sym102, sym103]
    clear hsy hρ hA hrel hins h1 h3 hi g0
    have hs : ¬ 60 < (l.length : Int) → shortB l = true := fun h => len_short (by omega)
    have hf : finderB l = true → withinB (l.length : Int) 1 40 = true := fun h => by simp only [finderB, Bool.and_eq_true] at h; exact h.1
    have hz : finderB l = true → ¬ ((l.length : Int) == 0) = true := fun h => by have := hf h; simp [withinB] at this ⊢; intro e; simp [e] at this
    (repeat' apply And.intro) <;> intros <;> first
      | trivial
      | (simp only [beq_self_eq_true]; done)
      | (simp_all; done)

noncomputable def EQN : Env → CallE := libs [fun _ => aliveL]
theorem EQN_ok (F : List (X × Bool)) {r : Rho} (h : r.sym = sy) : CallsOk (E1.with F r) (EQN (E1.with F r)) := libs_ok fun c hc => by
  simp only [List.mem_cons, List.not_mem_nil, or_false] at hc
  subst hc; exact alive_ok F r

noncomputable def en_fn : FnD := { f := 9, args := argsAV [.one (.int .i64 3), .nils], heap := hRoot ++ argsBlk [.one (.int .i64 3), .nils], N := 100, M := 100, out := .sbool (.boo true), news := [] }
noncomputable def en_call : Env → CallL := fun E => acallAll E (evH E (EQN E) ((fun _ => noLoops) E) 14)
noncomputable def en_pre : List (X × Bool) := []
noncomputable def en_t : GTree := (.fork (.op2 .lt (.var 3) (.num 0)) (.leaf [[]]) (.fork (.op2 .lt (.num 1000000000) (.var 3)) (.leaf [[]]) (.leaf [[]])))
noncomputable def en_l : List (List (X × Bool) × Option Pairs) := [([((.op2 .lt (.var 3) (.num 0)), true)], some []),
  ([((.op2 .lt (.num 1000000000) (.var 3)), true), ((.op2 .lt (.var 3) (.num 0)), false)], some []),
  ([((.op2 .lt (.num 1000000000) (.var 3)), false), ((.op2 .lt (.var 3) (.num 0)), false)], some [])]
theorem en_w (r : Rho) : en_fn.ways en_call E1 r en_pre en_t = some en_l := by kernel_rfl
theorem en_out (σ : Sig) : en_fn.out.inst σ = some (.bool true) := rfl
theorem en_true {r : Rho} {σ : Sig} {w : World} {us : List Value} (hsy : r.sym = sy) (hρ : σ.rho = r) (hA : ∀ g id, E1.glob g = some id → ∃ κ, σ id = some (g, κ)) (hrel : (memOf en_fn.heap 100).rel Tryz.prog σ w (fun b => w.heap.size ≤ b)) (hins : Ins σ en_fn.args us) :
    Calls Tryz.prog 9 us.toArray w fun e w' => e = .returned (.bool true) ∧ Kept (fun b => w.heap.size ≤ b) w w' := by
  obtain ⟨u0, us, rfl, g0, hi⟩ := ins_cons hins
  obtain ⟨p, k3, rfl, h3⟩ := one_int g0
  rw [hρ] at h3
  refine law_of (E := E1) (D := en_fn) E1_ok (fun F => EQN_ok F hsy) (fun F => noH_ok) (en_w r) hρ hA trivial hrel hins ?_ ?_ en_out
  · simp only [en_pre, en_t, AsksL, GTree.asks, FTree.asks, FactsIn, List.append_nil, List.nil_append, List.cons_append, Option.some.injEq, exists_eq', implies_true, and_self, X.bool, X.den, denL, d_wrap, d_kind, d_not, d_neg, d_slen, d_add, d_sub, d_mul, d_div, d_mod, d_lt, d_le, d_eq, d_eqb, d_eqs, d_lts, d_cat, d_sat, d_and, d_or, denSub, denIte, asB, whos_len, whos_cell, whos_lsub, whos_lcat, whos_rep, shrs_len, shrs_cell, shrs_lsub, shrs_lcat, whos_snocN, whos_snoc0N, h3, hsy, sym10, sym20, sym100, sym101, sym102, sym103]
  · simp only [en_l, EndsOk, WaysOk, forall_cons, forall_nil, TgtOk, gpair, FactsIn, hold_cons, hold_nil, Option.some.injEq, Value.bool.injEq, Value.int.injEq, decide_eq_true_eq, decide_eq_false_iff_not, and_true, true_and, and_imp, X.bool, X.den, denL, d_wrap, d_kind, d_not, d_neg, d_slen, d_add, d_sub, d_mul, d_div, d_mod, d_lt, d_le, d_eq, d_eqb, d_eqs, d_lts, d_cat, d_sat, d_and, d_or, denSub, denIte, asB, whos_len, whos_cell, whos_lsub, whos_lcat, whos_rep, shrs_len, shrs_cell, shrs_lsub, shrs_lcat, whos_snocN, whos_snoc0N, h3, hsy, sym10, sym20, sym100, sym101, sym102, sym103]
    (repeat' apply And.intro) <;> intros <;> first
      | trivial
      | (simp_all; done)

noncomputable def e0000_fn : FnD := { f := 9, args := argsAV [.one (.int .i64 3)] ++ [.slice 0 0 0 0 true], heap := hRoot ++ argsBlk [.one (.int .i64 3)], N := 100, M := 100, out := .sbool (.boo true), news := [] }
noncomputable def e0000_call : Env → CallL := fun E => acallAll E (evH E (EQN E) ((fun _ => noLoops) E) 14)
noncomputable def e0000_pre : List (X × Bool) := []
noncomputable def e0000_t : GTree := (.fork (.op2 .lt (.var 3) (.num 0)) (.leaf [[]]) (.fork (.op2 .lt (.num 1000000000) (.var 3)) (.leaf [[]]) (.leaf [[]])))
noncomputable def e0000_l : List (List (X × Bool) × Option Pairs) := [([((.op2 .lt (.var 3) (.num 0)), true)], some []),
  ([((.op2 .lt (.num 1000000000) (.var 3)), true), ((.op2 .lt (.var 3) (.num 0)), false)], some []),
  ([((.op2 .lt (.num 1000000000) (.var 3)), false), ((.op2 .lt (.var 3) (.num 0)), false)], some [])]
theorem e0000_w (r : Rho) : e0000_fn.ways e0000_call E1 r e0000_pre e0000_t = some e0000_l := by kernel_rfl
theorem e0000_out (σ : Sig) : e0000_fn.out.inst σ = some (.bool true) := rfl
theorem e0000_true {r : Rho} {σ : Sig} {w : World} {us : List Value} (hsy : r.sym = sy) (hρ : σ.rho = r) (hA : ∀ g id, E1.glob g = some id → ∃ κ, σ id = some (g, κ)) (hrel : (memOf e0000_fn.heap 100).rel Tryz.prog σ w (fun b => w.heap.size ≤ b)) (hins : Ins σ e0000_fn.args us) :
    Calls Tryz.prog 9 us.toArray w fun e w' => e = .returned (.bool true) ∧ Kept (fun b => w.heap.size ≤ b) w w' := by
  obtain ⟨u0, us, rfl, g0, hi⟩ := ins_cons hins
  obtain ⟨p, k3, rfl, h3⟩ := one_int g0
  rw [hρ] at h3
  refine law_of (E := E1) (D := e0000_fn) E1_ok (fun F => EQN_ok F hsy) (fun F => noH_ok) (e0000_w r) hρ hA trivial hrel hins ?_ ?_ e0000_out
  · simp only [e0000_pre, e0000_t, AsksL, GTree.asks, FTree.asks, FactsIn, List.append_nil, List.nil_append, List.cons_append, Option.some.injEq, exists_eq', implies_true, and_self, X.bool, X.den, denL, d_wrap, d_kind, d_not, d_neg, d_slen, d_add, d_sub, d_mul, d_div, d_mod, d_lt, d_le, d_eq, d_eqb, d_eqs, d_lts, d_cat, d_sat, d_and, d_or, denSub, denIte, asB, whos_len, whos_cell, whos_lsub, whos_lcat, whos_rep, shrs_len, shrs_cell, shrs_lsub, shrs_lcat, whos_snocN, whos_snoc0N, h3, hsy, sym10, sym20, sym100, sym101, sym102, sym103]
  · simp only [e0000_l, EndsOk, WaysOk, forall_cons, forall_nil, TgtOk, gpair, FactsIn, hold_cons, hold_nil, Option.some.injEq, Value.bool.injEq, Value.int.injEq, decide_eq_true_eq, decide_eq_false_iff_not, and_true, true_and, and_imp, X.bool, X.den, denL, d_wrap, d_kind, d_not, d_neg, d_slen, d_add, d_sub, d_mul, d_div, d_mod, d_lt, d_le, d_eq, d_eqb, d_eqs, d_lts, d_cat, d_sat, d_and, d_or, denSub, denIte, asB, whos_len, whos_cell, whos_lsub, whos_lcat, whos_rep, shrs_len, shrs_cell, shrs_lsub, shrs_lcat, whos_snocN, whos_snoc0N, h3, hsy, sym10, sym20, sym100, sym101, sym102, sym103]
    (repeat' apply And.intro) <;> intros <;> first
      | trivial
      | (simp_all; done)

noncomputable def e0001_fn : FnD := { f := 9, args := argsAV [.one (.int .i64 3)] ++ [.slice 0 0 0 1 true], heap := hRoot ++ argsBlk [.one (.int .i64 3)], N := 100, M := 100, out := .sbool (.boo true), news := [] }
noncomputable def e0001_call : Env → CallL := fun E => acallAll E (evH E (EQN E) ((fun _ => noLoops) E) 14)
noncomputable def e0001_pre : List (X × Bool) := []
noncomputable def e0001_t : GTree := (.fork (.op2 .lt (.var 3) (.num 0)) (.leaf [[]]) (.fork (.op2 .lt (.num 1000000000) (.var 3)) (.leaf [[]]) (.leaf [[]])))
noncomputable def e0001_l : List (List (X × Bool) × Option Pairs) := [([((.op2 .lt (.var 3) (.num 0)), true)], some []),
  ([((.op2 .lt (.num 1000000000) (.var 3)), true), ((.op2 .lt (.var 3) (.num 0)), false)], some []),
  ([((.op2 .lt (.num 1000000000) (.var 3)), false), ((.op2 .lt (.var 3) (.num 0)), false)], some [])]
theorem e0001_w (r : Rho) : e0001_fn.ways e0001_call E1 r e0001_pre e0001_t = some e0001_l := by kernel_rfl
theorem e0001_out (σ : Sig) : e0001_fn.out.inst σ = some (.bool true) := rfl
theorem e0001_true {r : Rho} {σ : Sig} {w : World} {us : List Value} (hsy : r.sym = sy) (hρ : σ.rho = r) (hA : ∀ g id, E1.glob g = some id → ∃ κ, σ id = some (g, κ)) (hrel : (memOf e0001_fn.heap 100).rel Tryz.prog σ w (fun b => w.heap.size ≤ b)) (hins : Ins σ e0001_fn.args us) :
    Calls Tryz.prog 9 us.toArray w fun e w' => e = .returned (.bool true) ∧ Kept (fun b => w.heap.size ≤ b) w w' := by
  obtain ⟨u0, us, rfl, g0, hi⟩ := ins_cons hins
  obtain ⟨p, k3, rfl, h3⟩ := one_int g0
  rw [hρ] at h3
  refine law_of (E := E1) (D := e0001_fn) E1_ok (fun F => EQN_ok F hsy) (fun F => noH_ok) (e0001_w r) hρ hA trivial hrel hins ?_ ?_ e0001_out
  · simp only [e0001_pre, e0001_t, AsksL, GTree.asks, FTree.asks, FactsIn, List.append_nil, List.nil_append, List.cons_append, Option.some.injEq, exists_eq', implies_true, and_self, X.bool, X.den, denL, d_wrap, d_kind, d_not, d_neg, d_slen, d_add, d_sub, d_mul, d_div, d_mod, d_lt, d_le, d_eq, d_eqb, d_eqs, d_lts, d_cat, d_sat, d_and, d_or, denSub, denIte, asB, whos_len, whos_cell, whos_lsub, whos_lcat, whos_rep, shrs_len, shrs_cell, shrs_lsub, shrs_lcat, whos_snocN, whos_snoc0N, h3, hsy, sym10, sym20, sym100, sym101, sym102, sym103]
  · simp only [e0001_l, EndsOk, WaysOk, forall_cons, forall_nil, TgtOk, gpair, FactsIn, hold_cons, hold_nil, Option.some.injEq, Value.bool.injEq, Value.int.injEq, decide_eq_true_eq, decide_eq_false_iff_not, and_true, true_and, and_imp, X.bool, X.den, denL, d_wrap, d_kind, d_not, d_neg, d_slen, d_add, d_sub, d_mul, d_div, d_mod, d_lt, d_le, d_eq, d_eqb, d_eqs, d_lts, d_cat, d_sat, d_and, d_or, denSub, denIte, asB, whos_len, whos_cell, whos_lsub, whos_lcat, whos_rep, shrs_len, shrs_cell, shrs_lsub, shrs_lcat, whos_snocN, whos_snoc0N, h3, hsy, sym10, sym20, sym100, sym101, sym102, sym103]
    (repeat' apply And.intro) <;> intros <;> first
      | trivial
      | (simp_all; done)

noncomputable def e0011_fn : FnD := { f := 9, args := argsAV [.one (.int .i64 3)] ++ [.slice 0 0 1 1 true], heap := hRoot ++ argsBlk [.one (.int .i64 3)], N := 100, M := 100, out := .sbool (.boo true), news := [] }
noncomputable def e0011_call : Env → CallL := fun E => acallAll E (evH E (EQN E) ((fun _ => noLoops) E) 14)
noncomputable def e0011_pre : List (X × Bool) := []
noncomputable def e0011_t : GTree := (.fork (.op2 .lt (.var 3) (.num 0)) (.leaf [[]]) (.fork (.op2 .lt (.num 1000000000) (.var 3)) (.leaf [[]]) (.leaf [[]])))
noncomputable def e0011_l : List (List (X × Bool) × Option Pairs) := [([((.op2 .lt (.var 3) (.num 0)), true)], some []),
  ([((.op2 .lt (.num 1000000000) (.var 3)), true), ((.op2 .lt (.var 3) (.num 0)), false)], some []),
  ([((.op2 .lt (.num 1000000000) (.var 3)), false), ((.op2 .lt (.var 3) (.num 0)), false)], some [])]
theorem e0011_w (r : Rho) : e0011_fn.ways e0011_call E1 r e0011_pre e0011_t = some e0011_l := by kernel_rfl
theorem e0011_out (σ : Sig) : e0011_fn.out.inst σ = some (.bool true) := rfl
theorem e0011_true {r : Rho} {σ : Sig} {w : World} {us : List Value} (hsy : r.sym = sy) (hρ : σ.rho = r) (hA : ∀ g id, E1.glob g = some id → ∃ κ, σ id = some (g, κ)) (hrel : (memOf e0011_fn.heap 100).rel Tryz.prog σ w (fun b => w.heap.size ≤ b)) (hins : Ins σ e0011_fn.args us) :
    Calls Tryz.prog 9 us.toArray w fun e w' => e = .returned (.bool true) ∧ Kept (fun b => w.heap.size ≤ b) w w' := by
  obtain ⟨u0, us, rfl, g0, hi⟩ := ins_cons hins
  obtain ⟨p, k3, rfl, h3⟩ := one_int g0
  rw [hρ] at h3
  refine law_of (E := E1) (D := e0011_fn) E1_ok (fun F => EQN_ok F hsy) (fun F => noH_ok) (e0011_w r) hρ hA trivial hrel hins ?_ ?_ e0011_out
  · simp only [e0011_pre, e0011_t, AsksL, GTree.asks, FTree.asks, FactsIn, List.append_nil, List.nil_append, List.cons_append, Option.some.injEq, exists_eq', implies_true, and_self, X.bool, X.den, denL, d_wrap, d_kind, d_not, d_neg, d_slen, d_add, d_sub, d_mul, d_div, d_mod, d_lt, d_le, d_eq, d_eqb, d_eqs, d_lts, d_cat, d_sat, d_and, d_or, denSub, denIte, asB, whos_len, whos_cell, whos_lsub, whos_lcat, whos_rep, shrs_len, shrs_cell, shrs_lsub, shrs_lcat, whos_snocN, whos_snoc0N, h3, hsy, sym10, sym20, sym100, sym101, sym102, sym103]
  · simp only [e0011_l, EndsOk, WaysOk, forall_cons, forall_nil, TgtOk, gpair, FactsIn, hold_cons, hold_nil, Option.some.injEq, Value.bool.injEq, Value.int.injEq, decide_eq_true_eq, decide_eq_false_iff_not, and_true, true_and, and_imp, X.bool, X.den, denL, d_wrap, d_kind, d_not, d_neg, d_slen, d_add, d_sub, d_mul, d_div, d_mod, d_lt, d_le, d_eq, d_eqb, d_eqs, d_lts, d_cat, d_sat, d_and, d_or, denSub, denIte, asB, whos_len, whos_cell, whos_lsub, whos_lcat, whos_rep, shrs_len, shrs_cell, shrs_lsub, shrs_lcat, whos_snocN, whos_snoc0N, h3, hsy, sym10, sym20, sym100, sym101, sym102, sym103]
    (repeat' apply And.intro) <;> intros <;> first
      | trivial
      | (simp_all; done)

noncomputable def e0100_fn : FnD := { f := 9, args := argsAV [.one (.int .i64 3)] ++ [.slice 0 1 0 0 true], heap := hRoot ++ argsBlk [.one (.int .i64 3)], N := 100, M := 100, out := .sbool (.boo true), news := [] }
noncomputable def e0100_call : Env → CallL := fun E => acallAll E (evH E (EQN E) ((fun _ => noLoops) E) 14)
noncomputable def e0100_pre : List (X × Bool) := []
noncomputable def e0100_t : GTree := (.fork (.op2 .lt (.var 3) (.num 0)) (.leaf [[]]) (.fork (.op2 .lt (.num 1000000000) (.var 3)) (.leaf [[]]) (.leaf [[]])))
noncomputable def e0100_l : List (List (X × Bool) × Option Pairs) := [([((.op2 .lt (.var 3) (.num 0)), true)], some []),
  ([((.op2 .lt (.num 1000000000) (.var 3)), true), ((.op2 .lt (.var 3) (.num 0)), false)], some []),
  ([((.op2 .lt (.num 1000000000) (.var 3)), false), ((.op2 .lt (.var 3) (.num 0)), false)], some [])]
theorem e0100_w (r : Rho) : e0100_fn.ways e0100_call E1 r e0100_pre e0100_t = some e0100_l := by kernel_rfl
theorem e0100_out (σ : Sig) : e0100_fn.out.inst σ = some (.bool true) := rfl
theorem e0100_true {r : Rho} {σ : Sig} {w : World} {us : List Value} (hsy : r.sym = sy) (hρ : σ.rho = r) (hA : ∀ g id, E1.glob g = some id → ∃ κ, σ id = some (g, κ)) (hrel : (memOf e0100_fn.heap 100).rel Tryz.prog σ w (fun b => w.heap.size ≤ b)) (hins : Ins σ e0100_fn.args us) :
    Calls Tryz.prog 9 us.toArray w fun e w' => e = .returned (.bool true) ∧ Kept (fun b => w.heap.size ≤ b) w w' := by
  obtain ⟨u0, us, rfl, g0, hi⟩ := ins_cons hins
  obtain ⟨p, k3, rfl, h3⟩ := one_int g0
  rw [hρ] at h3
  refine law_of (E := E1) (D := e0100_fn) E1_ok (fun F => EQN_ok F hsy) (fun F => noH_ok) (e0100_w r) hρ hA trivial hrel hins ?_ ?_ e0100_out
  · simp only [e0100_pre, e0100_t, AsksL, GTree.asks, FTree.asks, FactsIn, List.append_nil, List.nil_append, List.cons_append, Option.some.injEq, exists_eq', implies_true, and_self, X.bool, X.den, denL, d_wrap, d_kind, d_not, d_neg, d_slen, d_add, d_sub, d_mul, d_div, d_mod, d_lt, d_le, d_eq, d_eqb, d_eqs, d_lts, d_cat, d_sat, d_and, d_or, denSub, denIte, asB, whos_len, whos_cell, whos_lsub, whos_lcat, whos_rep, shrs_len, shrs_cell, shrs_lsub, shrs_lcat, whos_snocN, whos_snoc0N, h3, hsy, sym10, sym20, sym100, sym101, sym102, sym103]
  · simp only [e0100_l, EndsOk, WaysOk, forall_cons, forall_nil, TgtOk, gpair, FactsIn, hold_cons, hold_nil, Option.some.injEq, Value.bool.injEq, Value.int.injEq, decide_eq_true_eq, decide_eq_false_iff_not, and_true, true_and, and_imp, X.bool, X.den, denL, d_wrap, d_kind, d_not, d_neg, d_slen, d_add, d_sub, d_mul, d_div, d_mod, d_lt, d_le, d_eq, d_eqb, d_eqs, d_lts, d_cat, d_sat, d_and, d_or, denSub, denIte, asB, whos_len, whos_cell, whos_lsub, whos_lcat, whos_rep, shrs_len, shrs_cell, shrs_lsub, shrs_lcat, whos_snocN, whos_snoc0N, h3, hsy, sym10, sym20, sym100, sym101, sym102, sym103]
    (repeat' apply And.intro) <;> intros <;> first
      | trivial
      | (simp_all; done)

noncomputable def e0101_fn : FnD := { f := 9, args := argsAV [.one (.int .i64 3)] ++ [.slice 0 1 0 1 true], heap := hRoot ++ argsBlk [.one (.int .i64 3)], N := 100, M := 100, out := .sbool (.boo true), news := [] }
noncomputable def e0101_call : Env → CallL := fun E => acallAll E (evH E (EQN E) ((fun _ => noLoops) E) 14)
noncomputable def e0101_pre : List (X × Bool) := []
noncomputable def e0101_t : GTree := (.fork (.op2 .lt (.var 3) (.num 0)) (.leaf [[]]) (.fork (.op2 .lt (.num 1000000000) (.var 3)) (.leaf [[]]) (.leaf [[]])))
noncomputable def e0101_l : List (List (X × Bool) × Option Pairs) := [([((.op2 .lt (.var 3) (.num 0)), true)], some []),
  ([((.op2 .lt (.num 1000000000) (.var 3)), true), ((.op2 .lt (.var 3) (.num 0)), false)], some []),
  ([((.op2 .lt (.num 1000000000) (.var 3)), false), ((.op2 .lt (.var 3) (.num 0)), false)], some [])]
theorem e0101_w (r : Rho) : e0101_fn.ways e0101_call E1 r e0101_pre e0101_t = some e0101_l := by kernel_rfl
theorem e0101_out (σ : Sig) : e0101_fn.out.inst σ = some (.bool true) := rfl
theorem e0101_true {r : Rho} {σ : Sig} {w : World} {us : List Value} (hsy : r.sym = sy) (hρ : σ.rho = r) (hA : ∀ g id, E1.glob g = some id → ∃ κ, σ id = some (g, κ)) (hrel : (memOf e0101_fn.heap 100).rel Tryz.prog σ w (fun b => w.heap.size ≤ b)) (hins : Ins σ e0101_fn.args us) :
    Calls Tryz.prog 9 us.toArray w fun e w' => e = .returned (.bool true) ∧ Kept (fun b => w.heap.size ≤ b) w w' := by
  obtain ⟨u0, us, rfl, g0, hi⟩ := ins_cons hins
  obtain ⟨p, k3, rfl, h3⟩ := one_int g0
  rw [hρ] at h3
  refine law_of (E := E1) (D := e0101_fn) E1_ok (fun F => EQN_ok F hsy) (fun F => noH_ok) (e0101_w r) hρ hA trivial hrel hins ?_ ?_ e0101_out
  · simp only [e0101_pre, e0101_t, AsksL, GTree.asks, FTree.asks, FactsIn, List.append_nil, List.nil_append, List.cons_append, Option.some.injEq, exists_eq', implies_true, and_self, X.bool, X.den, denL, d_wrap, d_kind, d_not, d_neg, d_slen, d_add, d_sub, d_mul, d_div, d_mod, d_lt, d_le, d_eq, d_eqb, d_eqs, d_lts, d_cat, d_sat, d_and, d_or, denSub, denIte, asB, whos_len, whos_cell, whos_lsub, whos_lcat, whos_rep, shrs_len, shrs_cell, shrs_lsub, shrs_lcat, whos_snocN, whos_snoc0N, h3, hsy, sym10, sym20, sym100, sym101, sym102, sym103]
  · simp only [e0101_l, EndsOk, WaysOk, forall_cons, forall_nil, TgtOk, gpair, FactsIn, hold_cons, hold_nil, Option.some.injEq, Value.bool.injEq, Value.int.injEq, decide_eq_true_eq, decide_eq_false_iff_not, and_true, true_and, and_imp, X.bool, X.den, denL, d_wrap, d_kind, d_not, d_neg, d_slen, d_add, d_sub, d_mul, d_div, d_mod, d_lt, d_le, d_eq, d_eqb, d_eqs, d_lts, d_cat, d_sat, d_and, d_or, denSub, denIte, asB, whos_len, whos_cell, whos_lsub, whos_lcat, whos_rep, shrs_len, shrs_cell, shrs_lsub, shrs_lcat, whos_snocN, whos_snoc0N, h3, hsy, sym10, sym20, sym100, sym101, sym102, sym103]
    (repeat' apply And.intro) <;> intros <;> first
      | trivial
      | (simp_all; done)

noncomputable def e0111_fn : FnD := { f := 9, args := argsAV [.one (.int .i64 3)] ++ [.slice 0 1 1 1 true], heap := hRoot ++ argsBlk [.one (.int .i64 3)], N := 100, M := 100, out := .sbool (.boo true), news := [] }
noncomputable def e0111_call : Env → CallL := fun E => acallAll E (evH E (EQN E) ((fun _ => noLoops) E) 14)
noncomputable def e0111_pre : List (X × Bool) := []
noncomputable def e0111_t : GTree := (.fork (.op2 .lt (.var 3) (.num 0)) (.leaf [[]]) (.fork (.op2 .lt (.num 1000000000) (.var 3)) (.leaf [[]]) (.fork (.op2 .lt (.num 0) (.op1 (.kind .i64) (.op2 .mod (.var 3) (.num 1)))) (.fork (.op2 .lt (.op1 (.wrap .i64) (.op2 .add (.op1 (.wrap .i64) (.op2 .div (.var 3) (.num 1))) (.num 1))) (.num 0)) (.leaf [[]]) (.fork (.op2 .lt (.op1 (.wrap .i64) (.op2 .add (.op1 (.wrap .i64) (.op2 .div (.var 3) (.num 1))) (.num 1))) (.op1 (.wrap .i64) (.op2 .add (.op1 (.wrap .i64) (.op2 .div (.var 3) (.num 1))) (.num 1)))) (.leaf [[]]) (.fork (.op2 .lt (.num 1) (.op1 (.wrap .i64) (.op2 .sub (.op1 (.wrap .i64) (.op2 .add (.op1 (.wrap .i64) (.op2 .div (.var 3) (.num 1))) (.num 1))) (.op1 (.wrap .i64) (.op2 .add (.op1 (.wrap .i64) (.op2 .div (.var 3) (.num 1))) (.num 1)))))) (.leaf [[]]) (.leaf [[]])))) (.fork (.op2 .lt (.op1 (.wrap .i64) (.op2 .div (.var 3) (.num 1))) (.num 0)) (.leaf [[]]) (.fork (.op2 .lt (.op1 (.wrap .i64) (.op2 .div (.var 3) (.num 1))) (.op1 (.wrap .i64) (.op2 .div (.var 3) (.num 1)))) (.leaf [[]]) (.fork (.op2 .lt (.num 1) (.op1 (.wrap .i64) (.op2 .sub (.op1 (.wrap .i64) (.op2 .div (.var 3) (.num 1))) (.op1 (.wrap .i64) (.op2 .div (.var 3) (.num 1)))))) (.leaf [[]]) (.leaf [[]])))))))
noncomputable def e0111_l : List (List (X × Bool) × Option Pairs) := [([((.op2 .lt (.var 3) (.num 0)), true)], some []),
  ([((.op2 .lt (.num 1000000000) (.var 3)), true), ((.op2 .lt (.var 3) (.num 0)), false)], some []),
  ([((.op2 .lt (.op1 (.wrap .i64) (.op2 .add (.op1 (.wrap .i64) (.op2 .div (.var 3) (.num 1))) (.num 1))) (.num 0)), true), ((.op2 .lt (.num 0) (.op1 (.kind .i64) (.op2 .mod (.var 3) (.num 1)))), true), ((.op2 .lt (.num 1000000000) (.var 3)), false), ((.op2 .lt (.var 3) (.num 0)), false)], some [((.boo true), (.boo false))]),
  ([((.op2 .lt (.op1 (.wrap .i64) (.op2 .add (.op1 (.wrap .i64) (.op2 .div (.var 3) (.num 1))) (.num 1))) (.op1 (.wrap .i64) (.op2 .add (.op1 (.wrap .i64) (.op2 .div (.var 3) (.num 1))) (.num 1)))), true), ((.op2 .lt (.op1 (.wrap .i64) (.op2 .add (.op1 (.wrap .i64) (.op2 .div (.var 3) (.num 1))) (.num 1))) (.num 0)), false), ((.op2 .lt (.num 0) (.op1 (.kind .i64) (.op2 .mod (.var 3) (.num 1)))), true), ((.op2 .lt (.num 1000000000) (.var 3)), false), ((.op2 .lt (.var 3) (.num 0)), false)], some [((.boo true), (.boo false))]),
  ([((.op2 .lt (.num 1) (.op1 (.wrap .i64) (.op2 .sub (.op1 (.wrap .i64) (.op2 .add (.op1 (.wrap .i64) (.op2 .div (.var 3) (.num 1))) (.num 1))) (.op1 (.wrap .i64) (.op2 .add (.op1 (.wrap .i64) (.op2 .div (.var 3) (.num 1))) (.num 1)))))), true), ((.op2 .lt (.op1 (.wrap .i64) (.op2 .add (.op1 (.wrap .i64) (.op2 .div (.var 3) (.num 1))) (.num 1))) (.op1 (.wrap .i64) (.op2 .add (.op1 (.wrap .i64) (.op2 .div (.var 3) (.num 1))) (.num 1)))), false), ((.op2 .lt (.op1 (.wrap .i64) (.op2 .add (.op1 (.wrap .i64) (.op2 .div (.var 3) (.num 1))) (.num 1))) (.num 0)), false), ((.op2 .lt (.num 0) (.op1 (.kind .i64) (.op2 .mod (.var 3) (.num 1)))), true), ((.op2 .lt (.num 1000000000) (.var 3)), false), ((.op2 .lt (.var 3) (.num 0)), false)], some [((.boo true), (.boo false))]),
  ([((.op2 .lt (.num 1) (.op1 (.wrap .i64) (.op2 .sub (.op1 (.wrap .i64) (.op2 .add (.op1 (.wrap .i64) (.op2 .div (.var 3) (.num 1))) (.num 1))) (.op1 (.wrap .i64) (.op2 .add (.op1 (.wrap .i64) (.op2 .div (.var 3) (.num 1))) (.num 1)))))), false), ((.op2 .lt (.op1 (.wrap .i64) (.op2 .add (.op1 (.wrap .i64) (.op2 .div (.var 3) (.num 1))) (.num 1))) (.op1 (.wrap .i64) (.op2 .add (.op1 (.wrap .i64) (.op2 .div (.var 3) (.num 1))) (.num 1)))), false), ((.op2 .lt (.op1 (.wrap .i64) (.op2 .add (.op1 (.wrap .i64) (.op2 .div (.var 3) (.num 1))) (.num 1))) (.num 0)), false), ((.op2 .lt (.num 0) (.op1 (.kind .i64) (.op2 .mod (.var 3) (.num 1)))), true), ((.op2 .lt (.num 1000000000) (.var 3)), false), ((.op2 .lt (.var 3) (.num 0)), false)], some [((.boo true), (.op2 .eq (.op1 (.wrap .i64) (.op2 .add (.num 0) (.op1 (.wrap .i64) (.op2 .add (.op1 (.wrap .i64) (.op2 .div (.var 3) (.num 1))) (.num 1))))) (.var 3)))]),
  ([((.op2 .lt (.op1 (.wrap .i64) (.op2 .div (.var 3) (.num 1))) (.num 0)), true), ((.op2 .lt (.num 0) (.op1 (.kind .i64) (.op2 .mod (.var 3) (.num 1)))), false), ((.op2 .lt (.num 1000000000) (.var 3)), false), ((.op2 .lt (.var 3) (.num 0)), false)], some [((.boo true), (.boo false))]),
  ([((.op2 .lt (.op1 (.wrap .i64) (.op2 .div (.var 3) (.num 1))) (.op1 (.wrap .i64) (.op2 .div (.var 3) (.num 1)))), true), ((.op2 .lt (.op1 (.wrap .i64) (.op2 .div (.var 3) (.num 1))) (.num 0)), false), ((.op2 .lt (.num 0) (.op1 (.kind .i64) (.op2 .mod (.var 3) (.num 1)))), false), ((.op2 .lt (.num 1000000000) (.var 3)), false), ((.op2 .lt (.var 3) (.num 0)), false)], some [((.boo true), (.boo false))]),
  ([((.op2 .lt (.num 1) (.op1 (.wrap .i64) (.op2 .sub (.op1 (.wrap .i64) (.op2 .div (.var 3) (.num 1))) (.op1 (.wrap .i64) (.op2 .div (.var 3) (.num 1)))))), true), ((.op2 .lt (.op1 (.wrap .i64) (.op2 .div (.var 3) (.num 1))) (.op1 (.wrap .i64) (.op2 .div (.var 3) (.num 1)))), false), ((.op2 .lt (.op1 (.wrap .i64) (.op2 .div (.var 3) (.num 1))) (.num 0)), false), ((.op2 .lt (.num 0) (.op1 (.kind .i64) (.op2 .mod (.var 3) (.num 1)))), false), ((.op2 .lt (.num 1000000000) (.var 3)), false), ((.op2 .lt (.var 3) (.num 0)), false)], some [((.boo true), (.boo false))]),
  ([((.op2 .lt (.num 1) (.op1 (.wrap .i64) (.op2 .sub (.op1 (.wrap .i64) (.op2 .div (.var 3) (.num 1))) (.op1 (.wrap .i64) (.op2 .div (.var 3) (.num 1)))))), false), ((.op2 .lt (.op1 (.wrap .i64) (.op2 .div (.var 3) (.num 1))) (.op1 (.wrap .i64) (.op2 .div (.var 3) (.num 1)))), false), ((.op2 .lt (.op1 (.wrap .i64) (.op2 .div (.var 3) (.num 1))) (.num 0)), false), ((.op2 .lt (.num 0) (.op1 (.kind .i64) (.op2 .mod (.var 3) (.num 1)))), false), ((.op2 .lt (.num 1000000000) (.var 3)), false), ((.op2 .lt (.var 3) (.num 0)), false)], some [((.boo true), (.op2 .eq (.op1 (.wrap .i64) (.op2 .add (.num 0) (.op1 (.wrap .i64) (.op2 .div (.var 3) (.num 1))))) (.var 3)))])]
theorem e0111_w (r : Rho) : e0111_fn.ways e0111_call E1 r e0111_pre e0111_t = some e0111_l := by kernel_rfl
theorem e0111_out (σ : Sig) : e0111_fn.out.inst σ = some (.bool true) := rfl
theorem e0111_true {r : Rho} {σ : Sig} {w : World} {us : List Value} (hsy : r.sym = sy) (hρ : σ.rho = r) (hA : ∀ g id, E1.glob g = some id → ∃ κ, σ id = some (g, κ)) (hrel : (memOf e0111_fn.heap 100).rel Tryz.prog σ w (fun b => w.heap.size ≤ b)) (hins : Ins σ e0111_fn.args us) :
    Calls Tryz.prog 9 us.toArray w fun e w' => e = .returned (.bool true) ∧ Kept (fun b => w.heap.size ≤ b) w w' := by
  obtain ⟨u0, us, rfl, g0, hi⟩ := ins_cons hins
  obtain ⟨p, k3, rfl, h3⟩ := one_int g0
  rw [hρ] at h3
  refine law_of (E := E1) (D := e0111_fn) E1_ok (fun F => EQN_ok F hsy) (fun F => noH_ok) (e0111_w r) hρ hA trivial hrel hins ?_ ?_ e0111_out
  · simp only [e0111_pre, e0111_t, AsksL, GTree.asks, FTree.asks, FactsIn, List.append_nil, List.nil_append, List.cons_append, Option.some.injEq, exists_eq', implies_true, and_self, X.bool, X.den, denL, d_wrap, d_kind, d_not, d_neg, d_slen, d_add, d_sub, d_mul, d_div, d_mod, d_lt, d_le, d_eq, d_eqb, d_eqs, d_lts, d_cat, d_sat, d_and, d_or, denSub, denIte, asB, whos_len, whos_cell, whos_lsub, whos_lcat, whos_rep, shrs_len, shrs_cell, shrs_lsub, shrs_lcat, whos_snocN, whos_snoc0N, h3, hsy, sym10, sym20, sym100, sym101, sym102, sym103]
  · simp only [e0111_l, EndsOk, WaysOk, forall_cons, forall_nil, TgtOk, gpair, FactsIn, hold_cons, hold_nil, Option.some.injEq, Value.bool.injEq, Value.int.injEq, decide_eq_true_eq, decide_eq_false_iff_not, and_true, true_and, and_imp, X.bool, X.den, denL, d_wrap, d_kind, d_not, d_neg, d_slen, d_add, d_sub, d_mul, d_div, d_mod, d_lt, d_le, d_eq, d_eqb, d_eqs, d_lts, d_cat, d_sat, d_and, d_or, denSub, denIte, asB, whos_len, whos_cell, whos_lsub, whos_lcat, whos_rep, shrs_len, shrs_cell, shrs_lsub, shrs_lcat, whos_snocN, whos_snoc0N, h3, hsy, sym10, sym20, sym100, sym101, sym102, sym103]
    clear hsy hρ hA hrel hins h3 hi g0
    simp only [Int.tdiv_one, Int.tmod_one]
    by_cases q1 : p < 0
    · simp [q1]
    · by_cases q2 : 1000000000 < p
      · simp [q1, q2]
      · have w1 : IntKind.i64.wrap p = p := IntWalk.i64_in _ (by omega)
        have w0 : IntKind.i64.wrap (p - p) = 0 := by rw [Int.sub_self]; rfl
        have w2 : IntKind.i64.wrap (0 + p) = p := by rw [Int.zero_add]; exact w1
        have w00 : IntKind.i64.wrap 0 = 0 := rfl
        simp [q1, q2, w1, w0, w2, w00]

noncomputable def e1000_fn : FnD := { f := 9, args := argsAV [.one (.int .i64 3)] ++ [.slice 1 0 0 0 true], heap := hRoot ++ argsBlk [.one (.int .i64 3)], N := 100, M := 100, out := .sbool (.boo true), news := [] }
noncomputable def e1000_call : Env → CallL := fun E => acallAll E (evH E (EQN E) ((fun _ => noLoops) E) 14)
noncomputable def e1000_pre : List (X × Bool) := []
noncomputable def e1000_t : GTree := (.fork (.op2 .lt (.var 3) (.num 0)) (.leaf [[]]) (.fork (.op2 .lt (.num 1000000000) (.var 3)) (.leaf [[]]) (.leaf [[]])))
noncomputable def e1000_l : List (List (X × Bool) × Option Pairs) := [([((.op2 .lt (.var 3) (.num 0)), true)], some []),
  ([((.op2 .lt (.num 1000000000) (.var 3)), true), ((.op2 .lt (.var 3) (.num 0)), false)], some []),
  ([((.op2 .lt (.num 1000000000) (.var 3)), false), ((.op2 .lt (.var 3) (.num 0)), false)], some [])]
theorem e1000_w (r : Rho) : e1000_fn.ways e1000_call E1 r e1000_pre e1000_t = some e1000_l := by kernel_rfl
theorem e1000_out (σ : Sig) : e1000_fn.out.inst σ = some (.bool true) := rfl
theorem e1000_true {r : Rho} {σ : Sig} {w : World} {us : List Value} (hsy : r.sym = sy) (hρ : σ.rho = r) (hA : ∀ g id, E1.glob g = some id → ∃ κ, σ id = some (g, κ)) (hrel : (memOf e1000_fn.heap 100).rel Tryz.prog σ w (fun b => w.heap.size ≤ b)) (hins : Ins σ e1000_fn.args us) :
    Calls Tryz.prog 9 us.toArray w fun e w' => e = .returned (.bool true) ∧ Kept (fun b => w.heap.size ≤ b) w w' := by
  obtain ⟨u0, us, rfl, g0, hi⟩ := ins_cons hins
  obtain ⟨p, k3, rfl, h3⟩ := one_int g0
  rw [hρ] at h3
  refine law_of (E := E1) (D := e1000_fn) E1_ok (fun F => EQN_ok F hsy) (fun F => noH_ok) (e1000_w r) hρ hA trivial hrel hins ?_ ?_ e1000_out
  · simp only [e1000_pre, e1000_t, AsksL, GTree.asks, FTree.asks, FactsIn, List.append_nil, List.nil_append, List.cons_append, Option.some.injEq, exists_eq', implies_true, and_self, X.bool, X.den, denL, d_wrap, d_kind, d_not, d_neg, d_slen, d_add, d_sub, d_mul, d_div, d_mod, d_lt, d_le, d_eq, d_eqb, d_eqs, d_lts, d_cat, d_sat, d_and, d_or, denSub, denIte, asB, whos_len, whos_cell, whos_lsub, whos_lcat, whos_rep, shrs_len, shrs_cell, shrs_lsub, shrs_lcat, whos_snocN, whos_snoc0N, h3, hsy, sym10, sym20, sym100, sym101, sym102, sym103]
  · simp only [e1000_l, EndsOk, WaysOk, forall_cons, forall_nil, TgtOk, gpair, FactsIn, hold_cons, hold_nil, Option.some.injEq, Value.bool.injEq, Value.int.injEq, decide_eq_true_eq, decide_eq_false_iff_not, and_true, true_and, and_imp, X.bool, X.den, denL, d_wrap, d_kind, d_not, d_neg, d_slen, d_add, d_sub, d_mul, d_div, d_mod, d_lt, d_le, d_eq, d_eqb, d_eqs, d_lts, d_cat, d_sat, d_and, d_or, denSub, denIte, asB, whos_len, whos_cell, whos_lsub, whos_lcat, whos_rep, shrs_len, shrs_cell, shrs_lsub, shrs_lcat, whos_snocN, whos_snoc0N, h3, hsy, sym10, sym20, sym100, sym101, sym102, sym103]
    (repeat' apply And.intro) <;> intros <;> first
      | trivial
      | (simp_all; done)

noncomputable def e1001_fn : FnD := { f := 9, args := argsAV [.one (.int .i64 3)] ++ [.slice 1 0 0 1 true], heap := hRoot ++ argsBlk [.one (.int .i64 3)], N := 100, M := 100, out := .sbool (.boo true), news := [] }
noncomputable def e1001_call : Env → CallL := fun E => acallAll E (evH E (EQN E) ((fun _ => noLoops) E) 14)
noncomputable def e1001_pre : List (X × Bool) := []
noncomputable def e1001_t : GTree := (.fork (.op2 .lt (.var 3) (.num 0)) (.leaf [[]]) (.fork (.op2 .lt (.num 1000000000) (.var 3)) (.leaf [[]]) (.leaf [[]])))
noncomputable def e1001_l : List (List (X × Bool) × Option Pairs) := [([((.op2 .lt (.var 3) (.num 0)), true)], some []),
  ([((.op2 .lt (.num 1000000000) (.var 3)), true), ((.op2 .lt (.var 3) (.num 0)), false)], some []),
  ([((.op2 .lt (.num 1000000000) (.var 3)), false), ((.op2 .lt (.var 3) (.num 0)), false)], some [])]
theorem e1001_w (r : Rho) : e1001_fn.ways e1001_call E1 r e1001_pre e1001_t = some e1001_l := by kernel_rfl
theorem e1001_out (σ : Sig) : e1001_fn.out.inst σ = some (.bool true) := rfl
theorem e1001_true {r : Rho} {σ : Sig} {w : World} {us : List Value} (hsy : r.sym = sy) (hρ : σ.rho = r) (hA : ∀ g id, E1.glob g = some id → ∃ κ, σ id = some (g, κ)) (hrel : (memOf e1001_fn.heap 100).rel Tryz.prog σ w (fun b => w.heap.size ≤ b)) (hins : Ins σ e1001_fn.args us) :
    Calls Tryz.prog 9 us.toArray w fun e w' => e = .returned (.bool true) ∧ Kept (fun b => w.heap.size ≤ b) w w' := by
  obtain ⟨u0, us, rfl, g0, hi⟩ := ins_cons hins
  obtain ⟨p, k3, rfl, h3⟩ := one_int g0
  rw [hρ] at h3
  refine law_of (E := E1) (D := e1001_fn) E1_ok (fun F => EQN_ok F hsy) (fun F => noH_ok) (e1001_w r) hρ hA trivial hrel hins ?_ ?_ e1001_out
  · simp only [e1001_pre, e1001_t, AsksL, GTree.asks, FTree.asks, FactsIn, List.append_nil, List.nil_append, List.cons_append, Option.some.injEq, exists_eq', implies_true, and_self, X.bool, X.den, denL, d_wrap, d_kind, d_not, d_neg, d_slen, d_add, d_sub, d_mul, d_div, d_mod, d_lt, d_le, d_eq, d_eqb, d_eqs, d_lts, d_cat, d_sat, d_and, d_or, denSub, denIte, asB, whos_len, whos_cell, whos_lsub, whos_lcat, whos_rep, shrs_len, shrs_cell, shrs_lsub, shrs_lcat, whos_snocN, whos_snoc0N, h3, hsy, sym10, sym20, sym100, sym101, sym102, sym103]
  · simp only [e1001_l, EndsOk, WaysOk, forall_cons, forall_nil, TgtOk, gpair, FactsIn, hold_cons, hold_nil, Option.some.injEq, Value.bool.injEq, Value.int.injEq, decide_eq_true_eq, decide_eq_false_iff_not, and_true, true_and, and_imp, X.bool, X.den, denL, d_wrap, d_kind, d_not, d_neg, d_slen, d_add, d_sub, d_mul, d_div, d_mod, d_lt, d_le, d_eq, d_eqb, d_eqs, d_lts, d_cat, d_sat, d_and, d_or, denSub, denIte, asB, whos_len, whos_cell, whos_lsub, whos_lcat, whos_rep, shrs_len, shrs_cell, shrs_lsub, shrs_lcat, whos_snocN, whos_snoc0N, h3, hsy, sym10, sym20, sym100, sym101, sym102, sym103]
    (repeat' apply And.intro) <;> intros <;> first
      | trivial
      | (simp_all; done)

noncomputable def e1011_fn : FnD := { f := 9, args := argsAV [.one (.int .i64 3)] ++ [.slice 1 0 1 1 true], heap := hRoot ++ argsBlk [.one (.int .i64 3)], N := 100, M := 100, out := .sbool (.boo true), news := [] }
noncomputable def e1011_call : Env → CallL := fun E => acallAll E (evH E (EQN E) ((fun _ => noLoops) E) 14)
noncomputable def e1011_pre : List (X × Bool) := []
noncomputable def e1011_t : GTree := (.fork (.op2 .lt (.var 3) (.num 0)) (.leaf [[]]) (.fork (.op2 .lt (.num 1000000000) (.var 3)) (.leaf [[]]) (.fork (.op2 .lt (.num 0) (.op1 (.kind .i64) (.op2 .mod (.var 3) (.num 1)))) (.fork (.op2 .lt (.op1 (.wrap .i64) (.op2 .add (.op1 (.wrap .i64) (.op2 .div (.var 3) (.num 1))) (.num 1))) (.num 0)) (.leaf [[]]) (.fork (.op2 .lt (.op1 (.wrap .i64) (.op2 .add (.op1 (.wrap .i64) (.op2 .div (.var 3) (.num 1))) (.num 1))) (.op1 (.wrap .i64) (.op2 .add (.op1 (.wrap .i64) (.op2 .div (.var 3) (.num 1))) (.num 1)))) (.leaf [[]]) (.fork (.op2 .lt (.num 1) (.op1 (.wrap .i64) (.op2 .sub (.op1 (.wrap .i64) (.op2 .add (.op1 (.wrap .i64) (.op2 .div (.var 3) (.num 1))) (.num 1))) (.op1 (.wrap .i64) (.op2 .add (.op1 (.wrap .i64) (.op2 .div (.var 3) (.num 1))) (.num 1)))))) (.leaf [[]]) (.leaf [[]])))) (.fork (.op2 .lt (.op1 (.wrap .i64) (.op2 .div (.var 3) (.num 1))) (.num 0)) (.leaf [[]]) (.fork (.op2 .lt (.op1 (.wrap .i64) (.op2 .div (.var 3) (.num 1))) (.op1 (.wrap .i64) (.op2 .div (.var 3) (.num 1)))) (.leaf [[]]) (.fork (.op2 .lt (.num 1) (.op1 (.wrap .i64) (.op2 .sub (.op1 (.wrap .i64) (.op2 .div (.var 3) (.num 1))) (.op1 (.wrap .i64) (.op2 .div (.var 3) (.num 1)))))) (.leaf [[]]) (.leaf [[]])))))))
noncomputable def e1011_l : List (List (X × Bool) × Option Pairs) := [([((.op2 .lt (.var 3) (.num 0)), true)], some []),
  ([((.op2 .lt (.num 1000000000) (.var 3)), true), ((.op2 .lt (.var 3) (.num 0)), false)], some []),
  ([((.op2 .lt (.op1 (.wrap .i64) (.op2 .add (.op1 (.wrap .i64) (.op2 .div (.var 3) (.num 1))) (.num 1))) (.num 0)), true), ((.op2 .lt (.num 0) (.op1 (.kind .i64) (.op2 .mod (.var 3) (.num 1)))), true), ((.op2 .lt (.num 1000000000) (.var 3)), false), ((.op2 .lt (.var 3) (.num 0)), false)], some [((.boo true), (.boo false))]),
  ([((.op2 .lt (.op1 (.wrap .i64) (.op2 .add (.op1 (.wrap .i64) (.op2 .div (.var 3) (.num 1))) (.num 1))) (.op1 (.wrap .i64) (.op2 .add (.op1 (.wrap .i64) (.op2 .div (.var 3) (.num 1))) (.num 1)))), true), ((.op2 .lt (.op1 (.wrap .i64) (.op2 .add (.op1 (.wrap .i64) (.op2 .div (.var 3) (.num 1))) (.num 1))) (.num 0)), false), ((.op2 .lt (.num 0) (.op1 (.kind .i64) (.op2 .mod (.var 3) (.num 1)))), true), ((.op2 .lt (.num 1000000000) (.var 3)), false), ((.op2 .lt (.var 3) (.num 0)), false)], some [((.boo true), (.boo false))]),
  ([((.op2 .lt (.num 1) (.op1 (.wrap .i64) (.op2 .sub (.op1 (.wrap .i64) (.op2 .add (.op1 (.wrap .i64) (.op2 .div (.var 3) (.num 1))) (.num 1))) (.op1 (.wrap .i64) (.op2 .add (.op1 (.wrap .i64) (.op2 .div (.var 3) (.num 1))) (.num 1)))))), true), ((.op2 .lt (.op1 (.wrap .i64) (.op2 .add (.op1 (.wrap .i64) (.op2 .div (.var 3) (.num 1))) (.num 1))) (.op1 (.wrap .i64) (.op2 .add (.op1 (.wrap .i64) (.op2 .div (.var 3) (.num 1))) (.num 1)))), false), ((.op2 .lt (.op1 (.wrap .i64) (.op2 .add (.op1 (.wrap .i64) (.op2 .div (.var 3) (.num 1))) (.num 1))) (.num 0)), false), ((.op2 .lt (.num 0) (.op1 (.kind .i64) (.op2 .mod (.var 3) (.num 1)))), true), ((.op2 .lt (.num 1000000000) (.var 3)), false), ((.op2 .lt (.var 3) (.num 0)), false)], some [((.boo true), (.boo false))]),
  ([((.op2 .lt (.num 1) (.op1 (.wrap .i64) (.op2 .sub (.op1 (.wrap .i64) (.op2 .add (.op1 (.wrap .i64) (.op2 .div (.var 3) (.num 1))) (.num 1))) (.op1 (.wrap .i64) (.op2 .add (.op1 (.wrap .i64) (.op2 .div (.var 3) (.num 1))) (.num 1)))))), false), ((.op2 .lt (.op1 (.wrap .i64) (.op2 .add (.op1 (.wrap .i64) (.op2 .div (.var 3) (.num 1))) (.num 1))) (.op1 (.wrap .i64) (.op2 .add (.op1 (.wrap .i64) (.op2 .div (.var 3) (.num 1))) (.num 1)))), false), ((.op2 .lt (.op1 (.wrap .i64) (.op2 .add (.op1 (.wrap .i64) (.op2 .div (.var 3) (.num 1))) (.num 1))) (.num 0)), false), ((.op2 .lt (.num 0) (.op1 (.kind .i64) (.op2 .mod (.var 3) (.num 1)))), true), ((.op2 .lt (.num 1000000000) (.var 3)), false), ((.op2 .lt (.var 3) (.num 0)), false)], some [((.boo true), (.op2 .eq (.op1 (.wrap .i64) (.op2 .add (.num 0) (.op1 (.wrap .i64) (.op2 .add (.op1 (.wrap .i64) (.op2 .div (.var 3) (.num 1))) (.num 1))))) (.var 3)))]),
  ([((.op2 .lt (.op1 (.wrap .i64) (.op2 .div (.var 3) (.num 1))) (.num 0)), true), ((.op2 .lt (.num 0) (.op1 (.kind .i64) (.op2 .mod (.var 3) (.num 1)))), false), ((.op2 .lt (.num 1000000000) (.var 3)), false), ((.op2 .lt (.var 3) (.num 0)), false)], some [((.boo true), (.boo false))]),
  ([((.op2 .lt (.op1 (.wrap .i64) (.op2 .div (.var 3) (.num 1))) (.op1 (.wrap .i64) (.op2 .div (.var 3) (.num 1)))), true), ((.op2 .lt (.op1 (.wrap .i64) (.op2 .div (.var 3) (.num 1))) (.num 0)), false), ((.op2 .lt (.num 0) (.op1 (.kind .i64) (.op2 .mod (.var 3) (.num 1)))), false), ((.op2 .lt (.num 1000000000) (.var 3)), false), ((.op2 .lt (.var 3) (.num 0)), false)], some [((.boo true), (.boo false))]),
  ([((.op2 .lt (.num 1) (.op1 (.wrap .i64) (.op2 .sub (.op1 (.wrap .i64) (.op2 .div (.var 3) (.num 1))) (.op1 (.wrap .i64) (.op2 .div (.var 3) (.num 1)))))), true), ((.op2 .lt (.op1 (.wrap .i64) (.op2 .div (.var 3) (.num 1))) (.op1 (.wrap .i64) (.op2 .div (.var 3) (.num 1)))), false), ((.op2 .lt (.op1 (.wrap .i64) (.op2 .div (.var 3) (.num 1))) (.num 0)), false), ((.op2 .lt (.num 0) (.op1 (.kind .i64) (.op2 .mod (.var 3) (.num 1)))), false), ((.op2 .lt (.num 1000000000) (.var 3)), false), ((.op2 .lt (.var 3) (.num 0)), false)], some [((.boo true), (.boo false))]),
  ([((.op2 .lt (.num 1) (.op1 (.wrap .i64) (.op2 .sub (.op1 (.wrap .i64) (.op2 .div (.var 3) (.num 1))) (.op1 (.wrap .i64) (.op2 .div (.var 3) (.num 1)))))), false), ((.op2 .lt (.op1 (.wrap .i64) (.op2 .div (.var 3) (.num 1))) (.op1 (.wrap .i64) (.op2 .div (.var 3) (.num 1)))), false), ((.op2 .lt (.op1 (.wrap .i64) (.op2 .div (.var 3) (.num 1))) (.num 0)), false), ((.op2 .lt (.num 0) (.op1 (.kind .i64) (.op2 .mod (.var 3) (.num 1)))), false), ((.op2 .lt (.num 1000000000) (.var 3)), false), ((.op2 .lt (.var 3) (.num 0)), false)], some [((.boo true), (.op2 .eq (.op1 (.wrap .i64) (.op2 .add (.num 0) (.op1 (.wrap .i64) (.op2 .div (.var 3) (.num 1))))) (.var 3)))])]
theorem e1011_w (r : Rho) : e1011_fn.ways e1011_call E1 r e1011_pre e1011_t = some e1011_l := by kernel_rfl
theorem e1011_out (σ : Sig) : e1011_fn.out.inst σ = some (.bool true) := rfl
theorem e1011_true {r : Rho} {σ : Sig} {w : World} {us : List Value} (hsy : r.sym = sy) (hρ : σ.rho = r) (hA : ∀ g id, E1.glob g = some id → ∃ κ, σ id = some (g, κ)) (hrel : (memOf e1011_fn.heap 100).rel Tryz.prog σ w (fun b => w.heap.size ≤ b)) (hins : Ins σ e1011_fn.args us) :
    Calls Tryz.prog 9 us.toArray w fun e w' => e = .returned (.bool true) ∧ Kept (fun b => w.heap.size ≤ b) w w' := by
  obtain ⟨u0, us, rfl, g0, hi⟩ := ins_cons hins
  obtain ⟨p, k3, rfl, h3⟩ := one_int g0
  rw [hρ] at h3
  refine law_of (E := E1) (D := e1011_fn) E1_ok (fun F => EQN_ok F hsy) (fun F => noH_ok) (e1011_w r) hρ hA trivial hrel hins ?_ ?_ e1011_out
  · simp only [e1011_pre, e1011_t, AsksL, GTree.asks, FTree.asks, FactsIn, List.append_nil, List.nil_append, List.cons_append, Option.some.injEq, exists_eq', implies_true, and_self, X.bool, X.den, denL, d_wrap, d_kind, d_not, d_neg, d_slen, d_add, d_sub, d_mul, d_div, d_mod, d_lt, d_le, d_eq, d_eqb, d_eqs, d_lts, d_cat, d_sat, d_and, d_or, denSub, denIte, asB, whos_len, whos_cell, whos_lsub, whos_lcat, whos_rep, shrs_len, shrs_cell, shrs_lsub, shrs_lcat, whos_snocN, whos_snoc0N, h3, hsy, sym10, sym20, sym100, sym101, sym102, sym103]
  · simp only [e1011_l, EndsOk, WaysOk, forall_cons, forall_nil, TgtOk, gpair, FactsIn, hold_cons, hold_nil, Option.some.injEq, Value.bool.injEq, Value.int.injEq, decide_eq_true_eq, decide_eq_false_iff_not, and_true, true_and, and_imp, X.bool, X.den, denL, d_wrap, d_kind, d_not, d_neg, d_slen, d_add, d_sub, d_mul, d_div, d_mod, d_lt, d_le, d_eq, d_eqb, d_eqs, d_lts, d_cat, d_sat, d_and, d_or, denSub, denIte, asB, whos_len, whos_cell, whos_lsub, whos_lcat, whos_rep, shrs_len, shrs_cell, shrs_lsub, shrs_lcat, whos_snocN, whos_snoc0N, h3, hsy, sym10, sym20, sym100, sym101, sym102, sym103]
    clear hsy hρ hA hrel hins h3 hi g0
    simp only [Int.tdiv_one, Int.tmod_one]
    by_cases q1 : p < 0
    · simp [q1]
    · by_cases q2 : 1000000000 < p
      · simp [q1, q2]
      · have w1 : IntKind.i64.wrap p = p := IntWalk.i64_in _ (by omega)
        have w0 : IntKind.i64.wrap (p - p) = 0 := by rw [Int.sub_self]; rfl
        have w2 : IntKind.i64.wrap (0 + p) = p := by rw [Int.zero_add]; exact w1
        have w00 : IntKind.i64.wrap 0 = 0 := rfl
        simp [q1, q2, w1, w0, w2, w00]

noncomputable def e1100_fn : FnD := { f := 9, args := argsAV [.one (.int .i64 3)] ++ [.slice 1 1 0 0 true], heap := hRoot ++ argsBlk [.one (.int .i64 3)], N := 100, M := 100, out := .sbool (.boo true), news := [] }
noncomputable def e1100_call : Env → CallL := fun E => acallAll E (evH E (EQN E) ((fun _ => noLoops) E) 14)
noncomputable def e1100_pre : List (X × Bool) := []
noncomputable def e1100_t : GTree := (.fork (.op2 .lt (.var 3) (.num 0)) (.leaf [[]]) (.fork (.op2 .lt (.num 1000000000) (.var 3)) (.leaf [[]]) (.leaf [[]])))
noncomputable def e1100_l : List (List (X × Bool) × Option Pairs) := [([((.op2 .lt (.var 3) (.num 0)), true)], some []),
  ([((.op2 .lt (.num 1000000000) (.var 3)), true), ((.op2 .lt (.var 3) (.num 0)), false)], some []),
  ([((.op2 .lt (.num 1000000000) (.var 3)), false), ((.op2 .lt (.var 3) (.num 0)), false)], some [])]
theorem e1100_w (r : Rho) : e1100_fn.ways e1100_call E1 r e1100_pre e1100_t = some e1100_l := by kernel_rfl
theorem e1100_out (σ : Sig) : e1100_fn.out.inst σ = some (.bool true) := rfl
theorem e1100_true {r : Rho} {σ : Sig} {w : World} {us : List Value} (hsy : r.sym = sy) (hρ : σ.rho = r) (hA : ∀ g id, E1.glob g = some id → ∃ κ, σ id = some (g, κ)) (hrel : (memOf e1100_fn.heap 100).rel Tryz.prog σ w (fun b => w.heap.size ≤ b)) (hins : Ins σ e1100_fn.args us) :
    Calls Tryz.prog 9 us.toArray w fun e w' => e = .returned (.bool true) ∧ Kept (fun b => w.heap.size ≤ b) w w' := by
  obtain ⟨u0, us, rfl, g0, hi⟩ := ins_cons hins
  obtain ⟨p, k3, rfl, h3⟩ := one_int g0
  rw [hρ] at h3
  refine law_of (E := E1) (D := e1100_fn) E1_ok (fun F => EQN_ok F hsy) (fun F => noH_ok) (e1100_w r) hρ hA trivial hrel hins ?_ ?_ e1100_out
  · simp only [e1100_pre, e1100_t, AsksL, GTree.asks, FTree.asks, FactsIn, List.append_nil, List.nil_append, List.cons_append, Option.some.injEq, exists_eq', implies_true, and_self, X.bool, X.den, denL, d_wrap, d_kind, d_not, d_neg, d_slen, d_add, d_sub, d_mul, d_div, d_mod, d_lt, d_le, d_eq, d_eqb, d_eqs, d_lts, d_cat, d_sat, d_and, d_or, denSub, denIte, asB, whos_len, whos_cell, whos_lsub, whos_lcat, whos_rep, shrs_len, shrs_cell, shrs_lsub, shrs_lcat, whos_snocN, whos_snoc0N, h3, hsy, sym10, sym20, sym100, sym101, sym102, sym103]
  · simp only [e1100_l, EndsOk, WaysOk, forall_cons, forall_nil, TgtOk, gpair, FactsIn, hold_cons, hold_nil, Option.some.injEq, Value.bool.injEq, Value.int.injEq, decide_eq_true_eq, decide_eq_false_iff_not, and_true, true_and, and_imp, X.bool, X.den, denL, d_wrap, d_kind, d_not, d_neg, d_slen, d_add, d_sub, d_mul, d_div, d_mod, d_lt, d_le, d_eq, d_eqb, d_eqs, d_lts, d_cat, d_sat, d_and, d_or, denSub, denIte, asB, whos_len, whos_cell, whos_lsub, whos_lcat, whos_rep, shrs_len, shrs_cell, shrs_lsub, shrs_lcat, whos_snocN, whos_snoc0N, h3, hsy, sym10, sym20, sym100, sym101, sym102, sym103]
    (repeat' apply And.intro) <;> intros <;> first
      | trivial
      | (simp_all; done)

noncomputable def e1101_fn : FnD := { f := 9, args := argsAV [.one (.int .i64 3)] ++ [.slice 1 1 0 1 true], heap := hRoot ++ argsBlk [.one (.int .i64 3)], N := 100, M := 100, out := .sbool (.boo true), news := [] }
noncomputable def e1101_call : Env → CallL := fun E => acallAll E (evH E (EQN E) ((fun _ => noLoops) E) 14)
noncomputable def e1101_pre : List (X × Bool) := []
noncomputable def e1101_t : GTree := (.fork (.op2 .lt (.var 3) (.num 0)) (.leaf [[]]) (.fork (.op2 .lt (.num 1000000000) (.var 3)) (.leaf [[]]) (.leaf [[]])))
noncomputable def e1101_l : List (List (X × Bool) × Option Pairs) := [([((.op2 .lt (.var 3) (.num 0)), true)], some []),
  ([((.op2 .lt (.num 1000000000) (.var 3)), true), ((.op2 .lt (.var 3) (.num 0)), false)], some []),
  ([((.op2 .lt (.num 1000000000) (.var 3)), false), ((.op2 .lt (.var 3) (.num 0)), false)], some [])]
theorem e1101_w (r : Rho) : e1101_fn.ways e1101_call E1 r e1101_pre e1101_t = some e1101_l := by kernel_rfl
theorem e1101_out (σ : Sig) : e1101_fn.out.inst σ = some (.bool true) := rfl
theorem e1101_true {r : Rho} {σ : Sig} {w : World} {us : List Value} (hsy : r.sym = sy) (hρ : σ.rho = r) (hA : ∀ g id, E1.glob g = some id → ∃ κ, σ id = some (g, κ)) (hrel : (memOf e1101_fn.heap 100).rel Tryz.prog σ w (fun b => w.heap.size ≤ b)) (hins : Ins σ e1101_fn.args us) :
    Calls Tryz.prog 9 us.toArray w fun e w' => e = .returned (.bool true) ∧ Kept (fun b => w.heap.size ≤ b) w w' := by
  obtain ⟨u0, us, rfl, g0, hi⟩ := ins_cons hins
  obtain ⟨p, k3, rfl, h3⟩ := one_int g0
  rw [hρ] at h3
  refine law_of (E := E1) (D := e1101_fn) E1_ok (fun F => EQN_ok F hsy) (fun F => noH_ok) (e1101_w r) hρ hA trivial hrel hins ?_ ?_ e1101_out
  · simp only [e1101_pre, e1101_t, AsksL, GTree.asks, FTree.asks, FactsIn, List.append_nil, List.nil_append, List.cons_append, Option.some.injEq, exists_eq', implies_true, and_self, X.bool, X.den, denL, d_wrap, d_kind, d_not, d_neg, d_slen, d_add, d_sub, d_mul, d_div, d_mod, d_lt, d_le, d_eq, d_eqb, d_eqs, d_lts, d_cat, d_sat, d_and, d_or, denSub, denIte, asB, whos_len, whos_cell, whos_lsub, whos_lcat, whos_rep, shrs_len, shrs_cell, shrs_lsub, shrs_lcat, whos_snocN, whos_snoc0N, h3, hsy, sym10, sym20, sym100, sym101, sym102, sym103]
  · simp only [e1101_l, EndsOk, WaysOk, forall_cons, forall_nil, TgtOk, gpair, FactsIn, hold_cons, hold_nil, Option.some.injEq, Value.bool.injEq, Value.int.injEq, decide_eq_true_eq, decide_eq_false_iff_not, and_true, true_and, and_imp, X.bool, X.den, denL, d_wrap, d_kind, d_not, d_neg, d_slen, d_add, d_sub, d_mul, d_div, d_mod, d_lt, d_le, d_eq, d_eqb, d_eqs, d_lts, d_cat, d_sat, d_and, d_or, denSub, denIte, asB, whos_len, whos_cell, whos_lsub, whos_lcat, whos_rep, shrs_len, shrs_cell, shrs_lsub, shrs_lcat, whos_snocN, whos_snoc0N, h3, hsy, sym10, sym20, sym100, sym101, sym102, sym103]
    (repeat' apply And.intro) <;> intros <;> first
      | trivial
      | (simp_all; done)

noncomputable def e1111_fn : FnD := { f := 9, args := argsAV [.one (.int .i64 3)] ++ [.slice 1 1 1 1 true], heap := hRoot ++ argsBlk [.one (.int .i64 3)], N := 100, M := 100, out := .sbool (.boo true), news := [] }
noncomputable def e1111_call : Env → CallL := fun E => acallAll E (evH E (EQN E) ((fun _ => noLoops) E) 14)
noncomputable def e1111_pre : List (X × Bool) := []
noncomputable def e1111_t : GTree := (.fork (.op2 .lt (.var 3) (.num 0)) (.leaf [[]]) (.fork (.op2 .lt (.num 1000000000) (.var 3)) (.leaf [[]]) (.fork (.op2 .lt (.num 0) (.op1 (.kind .i64) (.op2 .mod (.var 3) (.num 1)))) (.fork (.op2 .lt (.op1 (.wrap .i64) (.op2 .add (.op1 (.wrap .i64) (.op2 .div (.var 3) (.num 1))) (.num 1))) (.num 0)) (.leaf [[]]) (.fork (.op2 .lt (.op1 (.wrap .i64) (.op2 .add (.op1 (.wrap .i64) (.op2 .div (.var 3) (.num 1))) (.num 1))) (.op1 (.wrap .i64) (.op2 .add (.op1 (.wrap .i64) (.op2 .div (.var 3) (.num 1))) (.num 1)))) (.leaf [[]]) (.fork (.op2 .lt (.num 1) (.op1 (.wrap .i64) (.op2 .sub (.op1 (.wrap .i64) (.op2 .add (.op1 (.wrap .i64) (.op2 .div (.var 3) (.num 1))) (.num 1))) (.op1 (.wrap .i64) (.op2 .add (.op1 (.wrap .i64) (.op2 .div (.var 3) (.num 1))) (.num 1)))))) (.leaf [[]]) (.leaf [[]])))) (.fork (.op2 .lt (.op1 (.wrap .i64) (.op2 .div (.var 3) (.num 1))) (.num 0)) (.leaf [[]]) (.fork (.op2 .lt (.op1 (.wrap .i64) (.op2 .div (.var 3) (.num 1))) (.op1 (.wrap .i64) (.op2 .div (.var 3) (.num 1)))) (.leaf [[]]) (.fork (.op2 .lt (.num 1) (.op1 (.wrap .i64) (.op2 .sub (.op1 (.wrap .i64) (.op2 .div (.var 3) (.num 1))) (.op1 (.wrap .i64) (.op2 .div (.var 3) (.num 1)))))) (.leaf [[]]) (.leaf [[]])))))))
noncomputable def e1111_l : List (List (X × Bool) × Option Pairs) := [([((.op2 .lt (.var 3) (.num 0)), true)], some []),
  ([((.op2 .lt (.num 1000000000) (.var 3)), true), ((.op2 .lt (.var 3) (.num 0)), false)], some []),
  ([((.op2 .lt (.op1 (.wrap .i64) (.op2 .add (.op1 (.wrap .i64) (.op2 .div (.var 3) (.num 1))) (.num 1))) (.num 0)), true), ((.op2 .lt (.num 0) (.op1 (.kind .i64) (.op2 .mod (.var 3) (.num 1)))), true), ((.op2 .lt (.num 1000000000) (.var 3)), false), ((.op2 .lt (.var 3) (.num 0)), false)], some [((.boo true), (.boo false))]),
  ([((.op2 .lt (.op1 (.wrap .i64) (.op2 .add (.op1 (.wrap .i64) (.op2 .div (.var 3) (.num 1))) (.num 1))) (.op1 (.wrap .i64) (.op2 .add (.op1 (.wrap .i64) (.op2 .div (.var 3) (.num 1))) (.num 1)))), true), ((.op2 .lt (.op1 (.wrap .i64) (.op2 .add (.op1 (.wrap .i64) (.op2 .div (.var 3) (.num 1))) (.num 1))) (.num 0)), false), ((.op2 .lt (.num 0) (.op1 (.kind .i64) (.op2 .mod (.var 3) (.num 1)))), true), ((.op2 .lt (.num 1000000000) (.var 3)), false), ((.op2 .lt (.var 3) (.num 0)), false)], some [((.boo true), (.boo false))]),
  ([((.op2 .lt (.num 1) (.op1 (.wrap .i64) (.op2 .sub (.op1 (.wrap .i64) (.op2 .add (.op1 (.wrap .i64) (.op2 .div (.var 3) (.num 1))) (.num 1))) (.op1 (.wrap .i64) (.op2 .add (.op1 (.wrap .i64) (.op2 .div (.var 3) (.num 1))) (.num 1)))))), true), ((.op2 .lt (.op1 (.wrap .i64) (.op2 .add (.op1 (.wrap .i64) (.op2 .div (.var 3) (.num 1))) (.num 1))) (.op1 (.wrap .i64) (.op2 .add (.op1 (.wrap .i64) (.op2 .div (.var 3) (.num 1))) (.num 1)))), false), ((.op2 .lt (.op1 (.wrap .i64) (.op2 .add (.op1 (.wrap .i64) (.op2 .div (.var 3) (.num 1))) (.num 1))) (.num 0)), false), ((.op2 .lt (.num 0) (.op1 (.kind .i64) (.op2 .mod (.var 3) (.num 1)))), true), ((.op2 .lt (.num 1000000000) (.var 3)), false), ((.op2 .lt (.var 3) (.num 0)), false)], some [((.boo true), (.boo false))]),
  ([((.op2 .lt (.num 1) (.op1 (.wrap .i64) (.op2 .sub (.op1 (.wrap .i64) (.op2 .add (.op1 (.wrap .i64) (.op2 .div (.var 3) (.num 1))) (.num 1))) (.op1 (.wrap .i64) (.op2 .add (.op1 (.wrap .i64) (.op2 .div (.var 3) (.num 1))) (.num 1)))))), false), ((.op2 .lt (.op1 (.wrap .i64) (.op2 .add (.op1 (.wrap .i64) (.op2 .div (.var 3) (.num 1))) (.num 1))) (.op1 (.wrap .i64) (.op2 .add (.op1 (.wrap .i64) (.op2 .div (.var 3) (.num 1))) (.num 1)))), false), ((.op2 .lt (.op1 (.wrap .i64) (.op2 .add (.op1 (.wrap .i64) (.op2 .div (.var 3) (.num 1))) (.num 1))) (.num 0)), false), ((.op2 .lt (.num 0) (.op1 (.kind .i64) (.op2 .mod (.var 3) (.num 1)))), true), ((.op2 .lt (.num 1000000000) (.var 3)), false), ((.op2 .lt (.var 3) (.num 0)), false)], some [((.boo true), (.op2 .eq (.op1 (.wrap .i64) (.op2 .add (.num 0) (.op1 (.wrap .i64) (.op2 .add (.op1 (.wrap .i64) (.op2 .div (.var 3) (.num 1))) (.num 1))))) (.var 3)))]),
  ([((.op2 .lt (.op1 (.wrap .i64) (.op2 .div (.var 3) (.num 1))) (.num 0)), true), ((.op2 .lt (.num 0) (.op1 (.kind .i64) (.op2 .mod (.var 3) (.num 1)))), false), ((.op2 .lt (.num 1000000000) (.var 3)), false), ((.op2 .lt (.var 3) (.num 0)), false)], some [((.boo true), (.boo false))]),
  ([((.op2 .lt (.op1 (.wrap .i64) (.op2 .div (.var 3) (.num 1))) (.op1 (.wrap .i64) (.op2 .div (.var 3) (.num 1)))), true), ((.op2 .lt (.op1 (.wrap .i64) (.op2 .div (.var 3) (.num 1))) (.num 0)), false), ((.op2 .lt (.num 0) (.op1 (.kind .i64) (.op2 .mod (.var 3) (.num 1)))), false), ((.op2 .lt (.num 1000000000) (.var 3)), false), ((.op2 .lt (.var 3) (.num 0)), false)], some [((.boo true), (.boo false))]),
  ([((.op2 .lt (.num 1) (.op1 (.wrap .i64) (.op2 .sub (.op1 (.wrap .i64) (.op2 .div (.var 3) (.num 1))) (.op1 (.wrap .i64) (.op2 .div (.var 3) (.num 1)))))), true), ((.op2 .lt (.op1 (.wrap .i64) (.op2 .div (.var 3) (.num 1))) (.op1 (.wrap .i64) (.op2 .div (.var 3) (.num 1)))), false), ((.op2 .lt (.op1 (.wrap .i64) (.op2 .div (.var 3) (.num 1))) (.num 0)), false), ((.op2 .lt (.num 0) (.op1 (.kind .i64) (.op2 .mod (.var 3) (.num 1)))), false), ((.op2 .lt (.num 1000000000) (.var 3)), false), ((.op2 .lt (.var 3) (.num 0)), false)], some [((.boo true), (.boo false))]),
  ([((.op2 .lt (.num 1) (.op1 (.wrap .i64) (.op2 .sub (.op1 (.wrap .i64) (.op2 .div (.var 3) (.num 1))) (.op1 (.wrap .i64) (.op2 .div (.var 3) (.num 1)))))), false), ((.op2 .lt (.op1 (.wrap .i64) (.op2 .div (.var 3) (.num 1))) (.op1 (.wrap .i64) (.op2 .div (.var 3) (.num 1)))), false), ((.op2 .lt (.op1 (.wrap .i64) (.op2 .div (.var 3) (.num 1))) (.num 0)), false), ((.op2 .lt (.num 0) (.op1 (.kind .i64) (.op2 .mod (.var 3) (.num 1)))), false), ((.op2 .lt (.num 1000000000) (.var 3)), false), ((.op2 .lt (.var 3) (.num 0)), false)], some [((.boo true), (.op2 .eq (.op1 (.wrap .i64) (.op2 .add (.num 0) (.op1 (.wrap .i64) (.op2 .div (.var 3) (.num 1))))) (.var 3)))])]
theorem e1111_w (r : Rho) : e1111_fn.ways e1111_call E1 r e1111_pre e1111_t = some e1111_l := by kernel_rfl
theorem e1111_out (σ : Sig) : e1111_fn.out.inst σ = some (.bool true) := rfl
theorem e1111_true {r : Rho} {σ : Sig} {w : World} {us : List Value} (hsy : r.sym = sy) (hρ : σ.rho = r) (hA : ∀ g id, E1.glob g = some id → ∃ κ, σ id = some (g, κ)) (hrel : (memOf e1111_fn.heap 100).rel Tryz.prog σ w (fun b => w.heap.size ≤ b)) (hins : Ins σ e1111_fn.args us) :
    Calls Tryz.prog 9 us.toArray w fun e w' => e = .returned (.bool true) ∧ Kept (fun b => w.heap.size ≤ b) w w' := by
  obtain ⟨u0, us, rfl, g0, hi⟩ := ins_cons hins
  obtain ⟨p, k3, rfl, h3⟩ := one_int g0
  rw [hρ] at h3
  refine law_of (E := E1) (D := e1111_fn) E1_ok (fun F => EQN_ok F hsy) (fun F => noH_ok) (e1111_w r) hρ hA trivial hrel hins ?_ ?_ e1111_out
  · simp only [e1111_pre, e1111_t, AsksL, GTree.asks, FTree.asks, FactsIn, List.append_nil, List.nil_append, List.cons_append, Option.some.injEq, exists_eq', implies_true, and_self, X.bool, X.den, denL, d_wrap, d_kind, d_not, d_neg, d_slen, d_add, d_sub, d_mul, d_div, d_mod, d_lt, d_le, d_eq, d_eqb, d_eqs, d_lts, d_cat, d_sat, d_and, d_or, denSub, denIte, asB, whos_len, whos_cell, whos_lsub, whos_lcat, whos_rep, shrs_len, shrs_cell, shrs_lsub, shrs_lcat, whos_snocN, whos_snoc0N, h3, hsy, sym10, sym20, sym100, sym101, sym102, sym103]
  · simp only [e1111_l, EndsOk, WaysOk, forall_cons, forall_nil, TgtOk, gpair, FactsIn, hold_cons, hold_nil, Option.some.injEq, Value.bool.injEq, Value.int.injEq, decide_eq_true_eq, decide_eq_false_iff_not, and_true, true_and, and_imp, X.bool, X.den, denL, d_wrap, d_kind, d_not, d_neg, d_slen, d_add, d_sub, d_mul, d_div, d_mod, d_lt, d_le, d_eq, d_eqb, d_eqs, d_lts, d_cat, d_sat, d_and, d_or, denSub, denIte, asB, whos_len, whos_cell, whos_lsub, whos_lcat, whos_rep, shrs_len, shrs_cell, shrs_lsub, shrs_lcat, whos_snocN, whos_snoc0N, h3, hsy, sym10, sym20, sym100, sym101, sym102, sym103]
    clear hsy hρ hA hrel hins h3 hi g0
    simp only [Int.tdiv_one, Int.tmod_one]
    by_cases q1 : p < 0
    · simp [q1]
    · by_cases q2 : 1000000000 < p
      · simp [q1, q2]
      · have w1 : IntKind.i64.wrap p = p := IntWalk.i64_in _ (by omega)
        have w0 : IntKind.i64.wrap (p - p) = 0 := by rw [Int.sub_self]; rfl
        have w2 : IntKind.i64.wrap (0 + p) = p := by rw [Int.zero_add]; exact w1
        have w00 : IntKind.i64.wrap 0 = 0 := rfl
        simp [q1, q2, w1, w0, w2, w00]

end Go.Proofs.YthjndglmpgljaaaGreatDoor.Zs
