/-
  The law AwardChange for lists and nil.
-/
import Derived.Test.YthjndglmpgljaaaGreatDoorChConV
import Derived.Test.YthjndglmpgljaaaGreatDoorChConO
import Derived.Test.YthjndglmpgljaaaGreatDoorChRunZ
import Derived.KernelRfl
set_option linter.unusedSimpArgs false
set_option linter.unusedVariables false
namespace Go.Proofs.YthjndglmpgljaaaGreatDoor.Zs
open Go
set_option linter.unusedSimpArgs false
set_option linter.unusedVariables false

def orH (h g : AF → ASt → Option (List Out)) (f : AF) (S : ASt) : Option (List Out) := match h f S with
  | some r => some r
  | none => g f S
theorem orH_ok {E : Env} {ro : Option Nat} {c : Code} {h g : AF → ASt → Option (List Out)} (h1 : CodeOk E ro c h) (h2 : CodeOk E ro c g) : CodeOk E ro c (orH h g) := fun f S outs e => by
  unfold orH at e
  split at e
  · rename_i r hr
    cases e
    exact h1 f S _ hr
  · exact h2 f S outs e
noncomputable def CQ0 : Env → CallE := libs [cLib cOf_con]
theorem CQ0_ok (F : List (X × Bool)) {r : Rho} (h : r.sym = sy) : CallsOk (E1.with F r) (CQ0 (E1.with F r)) := libs_ok fun c hc => by
  simp only [List.mem_cons, List.not_mem_nil, or_false] at hc
  subst hc; exact lib_ok (E := E1) cOf_cok F h
noncomputable def CQLL : Env → CallE := libs [cLib cChgE_con, cLib cChgF_con, cLib cChg0_con, cLib cChg1_con, cLib cOf_con, fun _ => aliveL]
theorem CQLL_ok (F : List (X × Bool)) {r : Rho} (h : r.sym = sy) : CallsOk (E1.with F r) (CQLL (E1.with F r)) := libs_ok fun c hc => by
  simp only [List.mem_cons, List.not_mem_nil, or_false] at hc
  rcases hc with rfl | rfl | rfl | rfl | rfl | rfl
  · exact lib_ok (E := E1) cChgE_cok F h
  · exact lib_ok (E := E1) cChgF_cok F h
  · exact lib_ok (E := E1) cChg0_cok F h
  · exact lib_ok (E := E1) cChg1_cok F h
  · exact lib_ok (E := E1) cOf_cok F h
  · exact alive_ok F r
noncomputable def CQLN : Env → CallE := libs [cLib cChgELN_con, cLib cChg0LN_con, cLib cChg1LN_con, cLib cChgENL_con, cLib cChg0NL_con, cLib cChg1NL_con, cLib cOf_con, fun _ => aliveL]
theorem CQLN_ok (F : List (X × Bool)) {r : Rho} (h : r.sym = sy) : CallsOk (E1.with F r) (CQLN (E1.with F r)) := libs_ok fun c hc => by
  simp only [List.mem_cons, List.not_mem_nil, or_false] at hc
  rcases hc with rfl | rfl | rfl | rfl | rfl | rfl | rfl | rfl
  · exact lib_ok (E := E1) cChgELN_cok F h
  · exact lib_ok (E := E1) cChg0LN_cok F h
  · exact lib_ok (E := E1) cChg1LN_cok F h
  · exact lib_ok (E := E1) cChgENL_cok F h
  · exact lib_ok (E := E1) cChg0NL_cok F h
  · exact lib_ok (E := E1) cChg1NL_cok F h
  · exact lib_ok (E := E1) cOf_cok F h
  · exact alive_ok F r
noncomputable def CQNN : Env → CallE := libs [cLib cOf_con, fun _ => aliveL]
theorem CQNN_ok (F : List (X × Bool)) {r : Rho} (h : r.sym = sy) : CallsOk (E1.with F r) (CQNN (E1.with F r)) := libs_ok fun c hc => by
  simp only [List.mem_cons, List.not_mem_nil, or_false] at hc
  rcases hc with rfl | rfl
  · exact lib_ok (E := E1) cOf_cok F h
  · exact alive_ok F r
def lxy_vs : List X := [.num 0]
def lp_vs : List X := [.num 0]

noncomputable def xyLL_D : LoopD := { N := 200, M := 201, size := sizeOfF 14, reads := [(100, .rows 2 shrSch (.num 0) (.app 115 [.app 111 [.var 4, .app 112 [.var 1]]]) true 67), (101, .rows 2 shrSch (.num 0) (.app 115 [.app 111 [.var 1, .app 112 [.var 4]]]) true 67)], pats := [{ slots := [(0, .slx 60 2 (.var 0) (.num 0) (.op1 .len (.var 1)) (.var 2)), (1, .slx 61 2 (.var 3) (.num 0) (.op1 .len (.var 4)) (.var 5)), (5, .slo 100 2 (.op1 .len (.app 115 [.app 111 [.var 4, .app 112 [.var 1]]]))), (7, .slo 101 2 (.op1 .len (.app 115 [.app 111 [.var 1, .app 112 [.var 4]]]))), (9, .sint .i64 (.var 200))], heap := [] }], exits := [(.exit 0, { slots := [(0, .slx 60 2 (.var 0) (.num 0) (.op1 .len (.var 1)) (.var 2)), (1, .slx 61 2 (.var 3) (.num 0) (.op1 .len (.var 4)) (.var 5)), (5, .slo 100 2 (.op1 .len (.app 115 [.app 111 [.var 4, .app 112 [.var 1]]])))], heap := [] })], own := [], pre := [(.op2 .eq (.app 110 [.var 1]) (.num 0), true), (.op2 .lt (.num 60) (.op1 .len (.var 1)), false), (.op2 .eq (.app 110 [.var 4]) (.num 0), true), (.op2 .lt (.num 60) (.op1 .len (.var 4)), false)] }
noncomputable def xyLL_run : Env → AF → ASt → Option (List Out) := bodyRun CQ0 6 (fun _ => noLoop) (loopAt Tryz.prog 14 0)
def xyLL0_F : List (X × Bool) := [(.op2 .lt (.var 200) (.num 0), false)]
noncomputable def xyLL0_t : FTree := (.fork (.op2 .lt (.var 200) (.op1 .len (.app 115 [(.app 111 [(.var 4), (.app 112 [(.var 1)])])]))) (.fork (.op2 .eq (.cell 1 (.app 115 [(.app 111 [(.var 4), (.app 112 [(.var 1)])])]) (.var 200)) (.num 0)) .bad (.fork (.op2 .lt (.var 200) (.op1 .len (.app 115 [(.app 111 [(.var 1), (.app 112 [(.var 4)])])]))) (.fork (.op2 .eq (.cell 0 (.app 115 [(.app 111 [(.var 1), (.app 112 [(.var 4)])])]) (.var 200)) (.cell 0 (.app 115 [(.app 111 [(.var 4), (.app 112 [(.var 1)])])]) (.var 200))) (.fork (.op2 .eq (.cell 1 (.app 115 [(.app 111 [(.var 1), (.app 112 [(.var 4)])])]) (.var 200)) (.op1 (.wrap .i64) (.op2 .sub (.num 0) (.cell 1 (.app 115 [(.app 111 [(.var 4), (.app 112 [(.var 1)])])]) (.var 200))))) (.leaf [(.again 0 [])]) .bad) .bad) .bad)) (.leaf [(.leave 0 [])]))
noncomputable def xyLL0_l : List (List (X × Bool) × Option (List (Tgt × Pairs))) := [([((.op2 .eq (.cell 1 (.app 115 [(.app 111 [(.var 4), (.app 112 [(.var 1)])])]) (.var 200)) (.num 0)), true), ((.op2 .lt (.var 200) (.op1 .len (.app 115 [(.app 111 [(.var 4), (.app 112 [(.var 1)])])]))), true), ((.op2 .lt (.var 200) (.num 0)), false)], none),
  ([((.op2 .eq (.cell 1 (.app 115 [(.app 111 [(.var 1), (.app 112 [(.var 4)])])]) (.var 200)) (.op1 (.wrap .i64) (.op2 .sub (.num 0) (.cell 1 (.app 115 [(.app 111 [(.var 4), (.app 112 [(.var 1)])])]) (.var 200))))), true), ((.op2 .eq (.cell 0 (.app 115 [(.app 111 [(.var 1), (.app 112 [(.var 4)])])]) (.var 200)) (.cell 0 (.app 115 [(.app 111 [(.var 4), (.app 112 [(.var 1)])])]) (.var 200))), true), ((.op2 .lt (.var 200) (.op1 .len (.app 115 [(.app 111 [(.var 1), (.app 112 [(.var 4)])])]))), true), ((.op2 .eq (.cell 1 (.app 115 [(.app 111 [(.var 4), (.app 112 [(.var 1)])])]) (.var 200)) (.num 0)), false), ((.op2 .lt (.var 200) (.op1 .len (.app 115 [(.app 111 [(.var 4), (.app 112 [(.var 1)])])]))), true), ((.op2 .lt (.var 200) (.num 0)), false)], some [((.again 0 []), [((.var 200), (.op1 (.wrap .i64) (.op2 .add (.var 200) (.num 1))))])]),
  ([((.op2 .eq (.cell 1 (.app 115 [(.app 111 [(.var 1), (.app 112 [(.var 4)])])]) (.var 200)) (.op1 (.wrap .i64) (.op2 .sub (.num 0) (.cell 1 (.app 115 [(.app 111 [(.var 4), (.app 112 [(.var 1)])])]) (.var 200))))), false), ((.op2 .eq (.cell 0 (.app 115 [(.app 111 [(.var 1), (.app 112 [(.var 4)])])]) (.var 200)) (.cell 0 (.app 115 [(.app 111 [(.var 4), (.app 112 [(.var 1)])])]) (.var 200))), true), ((.op2 .lt (.var 200) (.op1 .len (.app 115 [(.app 111 [(.var 1), (.app 112 [(.var 4)])])]))), true), ((.op2 .eq (.cell 1 (.app 115 [(.app 111 [(.var 4), (.app 112 [(.var 1)])])]) (.var 200)) (.num 0)), false), ((.op2 .lt (.var 200) (.op1 .len (.app 115 [(.app 111 [(.var 4), (.app 112 [(.var 1)])])]))), true), ((.op2 .lt (.var 200) (.num 0)), false)], none),
  ([((.op2 .eq (.cell 0 (.app 115 [(.app 111 [(.var 1), (.app 112 [(.var 4)])])]) (.var 200)) (.cell 0 (.app 115 [(.app 111 [(.var 4), (.app 112 [(.var 1)])])]) (.var 200))), false), ((.op2 .lt (.var 200) (.op1 .len (.app 115 [(.app 111 [(.var 1), (.app 112 [(.var 4)])])]))), true), ((.op2 .eq (.cell 1 (.app 115 [(.app 111 [(.var 4), (.app 112 [(.var 1)])])]) (.var 200)) (.num 0)), false), ((.op2 .lt (.var 200) (.op1 .len (.app 115 [(.app 111 [(.var 4), (.app 112 [(.var 1)])])]))), true), ((.op2 .lt (.var 200) (.num 0)), false)], none),
  ([((.op2 .lt (.var 200) (.op1 .len (.app 115 [(.app 111 [(.var 1), (.app 112 [(.var 4)])])]))), false), ((.op2 .eq (.cell 1 (.app 115 [(.app 111 [(.var 4), (.app 112 [(.var 1)])])]) (.var 200)) (.num 0)), false), ((.op2 .lt (.var 200) (.op1 .len (.app 115 [(.app 111 [(.var 4), (.app 112 [(.var 1)])])]))), true), ((.op2 .lt (.var 200) (.num 0)), false)], none),
  ([((.op2 .lt (.var 200) (.op1 .len (.app 115 [(.app 111 [(.var 4), (.app 112 [(.var 1)])])]))), false), ((.op2 .lt (.var 200) (.num 0)), false)], some [((.leave 0 []), [])])]
theorem xyLL0_w (r : Rho) : xyLL_D.ways xyLL_run E1 r 0 xyLL0_F xyLL0_t = some xyLL0_l := by kernel_rfl
theorem xyLL_ok : xyLL_D.ok = true := by kernel_rfl
def xyLL_Inv (xs : List Shr) (j : Nat) (vals : List Value) : Prop :=
  j = 0 ∧ ∃ i : Nat, i ≤ xs.length ∧ vals = [.int .i64 i]
def xyLL_mu (xs : List Shr) (_ : Nat) (vals : List Value) : Nat := xs.length - (vI (vals.getD 0 default)).toNat
set_option maxHeartbeats 1000000 in
theorem xyLL_step {ρ : Rho} {a b : List Shr} (h1 : ρ.val 1 = some (shrsR a)) (h4 : ρ.val 4 = some (shrsR b)) (hsy : ρ.sym = sy) (hca : chkS a = 0) (hcb : chkS b = 0) (hla : (a.length : Int) ≤ 60) (hlb : (b.length : Int) ≤ 60) (j : Nat) (vals : List Value) (hI : xyLL_Inv (chgOf (accB (accA a) b)) j vals) :
    StepOk xyLL_D xyLL_run E1 ρ (xyLL_Inv (chgOf (accB (accA a) b))) (xyLL_mu (chgOf (accB (accA a) b))) j vals := by
  obtain ⟨rfl, i, hi, rfl⟩ := hI
  have hN : xyLL_D.N = 200 := rfl
  have v1 : (ρ.ext xyLL_D.N [.int .i64 i]).val 1 = some (shrsR a) := by rw [ext_low _ _ _ _ (by rw [hN]; omega)]; exact h1
  have v4 : (ρ.ext xyLL_D.N [.int .i64 i]).val 4 = some (shrsR b) := by rw [ext_low _ _ _ _ (by rw [hN]; omega)]; exact h4
  have v200 : (ρ.ext xyLL_D.N [.int .i64 i]).val 200 = some (.int .i64 i) := by rw [ext_high _ _ _ _ (by rw [hN]; omega)]; rfl
  have vs : (ρ.ext xyLL_D.N [.int .i64 i]).sym = sy := hsy

  have hyx := chg_neg a b
  have hxl := chg_len (accB (accA a) b)
  have hacc := acc_all hca hcb
  have hgood := (chg_good a b).1
  have hof := fun k => (of_sum hca hcb k).2
  have hle := hacc.1
  have hmx : (chgOf (accB (accA a) b)).length ≤ 120 := by omega
  have hmem := fun x (hx : x ∈ chgOf (accB (accA a) b)) => And.intro (chg_mem hgood hx).1 (by have h1 := (chg_mem hgood hx).2; have h2 := acc_at hacc x.party; omega : -2000000000000 ≤ x.pence ∧ x.pence ≤ 2000000000000)
  generalize hX : chgOf (accB (accA a) b) = xs at *
  generalize hY : chgOf (accB (accA b) a) = ys at *
  have hyl : ys.length = xs.length := by rw [hyx, List.length_map]
  have hF : FactsIn (ρ.ext xyLL_D.N [.int .i64 i]) xyLL0_F := by
    simp only [xyLL0_F, FactsIn, X.bool, X.den, denL, d_wrap, d_kind, d_not, d_neg, d_slen, d_add, d_sub, d_mul, d_div, d_mod, d_lt, d_le, d_eq, d_eqb, d_eqs, d_lts, d_cat, d_sat, d_and, d_or, denSub, denIte, asB, whos_len, whos_cell, whos_lsub, whos_lcat, whos_rep, shrs_len, shrs_cell, shrs_lsub, shrs_lcat, shrs_snocN, shrs_snoc0N, v200, Option.some.injEq, Value.bool.injEq, decide_eq_false_iff_not, and_true]
    omega
  suffices both : AsksL (ρ.ext xyLL_D.N [.int .i64 i]) (xyLL0_t.asks xyLL0_F) ∧ WaysOk xyLL_D ρ (xyLL_Inv xs) (xyLL_mu xs) 0 [.int .i64 i] xyLL0_l from step_of_ways (xyLL0_w _) hF both.1.ok both.2
  cases hp : xs[i]? with
  | none =>
    have hge := List.getElem?_eq_none_iff.1 hp
    have hge' : ¬ (i : Int) < xs.length := by omega
    have hq : ys[i]? = none := List.getElem?_eq_none_iff.2 (by omega)
    refine ⟨?_, ?_⟩
    · simp only [xyLL0_t, xyLL0_F, AsksL, GTree.asks, FTree.asks, FactsIn, List.append_nil, List.nil_append, List.cons_append, Option.some.injEq, exists_eq', implies_true, and_self, X.bool, X.den, denL, d_wrap, d_kind, d_not, d_neg, d_slen, d_add, d_sub, d_mul, d_div, d_mod, d_lt, d_le, d_eq, d_eqb, d_eqs, d_lts, d_cat, d_sat, d_and, d_or, denSub, denIte, asB, whos_len, whos_cell, whos_lsub, whos_lcat, whos_rep, shrs_len, shrs_cell, shrs_lsub, shrs_lcat, shrs_snocN, shrs_snoc0N, v1, v4, v200, vs, sym10, sym21, sym110, sym111, sym112, sym113, sym114, sym115, sym116, sym117, sym118, hX, hY, hyl, Int.toNat_natCast, hp, hq, hge']
      try simp
    · simp only [xyLL0_l, EndsOk, WaysOk, forall_cons, forall_nil, TgtOk, gpair, FactsIn, hold_cons, hold_nil, Option.some.injEq, Value.bool.injEq, Value.int.injEq, decide_eq_true_eq, decide_eq_false_iff_not, and_true, true_and, and_imp, X.bool, X.den, denL, d_wrap, d_kind, d_not, d_neg, d_slen, d_add, d_sub, d_mul, d_div, d_mod, d_lt, d_le, d_eq, d_eqb, d_eqs, d_lts, d_cat, d_sat, d_and, d_or, denSub, denIte, asB, whos_len, whos_cell, whos_lsub, whos_lcat, whos_rep, shrs_len, shrs_cell, shrs_lsub, shrs_lcat, shrs_snocN, shrs_snoc0N, beq_iff_eq, beq_eq_false_iff_ne, ne_eq, v1, v4, v200, vs, h1, h4, hsy, sym10, sym21, sym110, sym111, sym112, sym113, sym114, sym115, sym116, sym117, sym118, hX, hY, hyl, Int.toNat_natCast, hp, hq, hge']
      try simp
  | some p =>
    have hlt : i < xs.length := (List.getElem?_eq_some_iff.1 hp).1
    have hlt1 : (i : Int) < xs.length := by omega
    have hq : ys[i]? = some ⟨p.party, -p.pence⟩ := by rw [hyx, List.getElem?_map, hp]; rfl
    obtain ⟨hnz, hb1, hb2⟩ := hmem p (List.mem_of_getElem? hp)
    have hw : IntKind.i64.wrap ((i : Int) + 1) = ((i + 1 : Nat) : Int) := by rw [IntWalk.i64_in _ (by omega)]; rfl
    have w1 : IntKind.i64.wrap (0 - p.pence) = -p.pence := by rw [IntWalk.i64_in _ (by omega)]; omega
    have go : ∃ vals', (ρ.ext xyLL_D.N vals').val 200 = some (.int .i64 ((i + 1 : Nat) : Int)) ∧ xyLL_Inv xs 0 vals' ∧ xyLL_mu xs 0 vals' < xyLL_mu xs 0 [.int .i64 i] := by
      refine ⟨[.int .i64 ((i + 1 : Nat) : Int)], ?_, ⟨rfl, i + 1, by omega, rfl⟩, ?_⟩
      · rw [ext_high _ _ _ _ (by rw [hN]; omega)]; rfl
      · simp [xyLL_mu, vI]; omega
    refine ⟨?_, ?_⟩
    all_goals (simp only [xyLL0_t, xyLL0_F, xyLL0_l, AsksL, GTree.asks, FTree.asks, FactsIn, List.append_nil, List.nil_append, List.cons_append, Option.some.injEq, exists_eq', implies_true, and_self, X.bool, X.den, denL, d_wrap, d_kind, d_not, d_neg, d_slen, d_add, d_sub, d_mul, d_div, d_mod, d_lt, d_le, d_eq, d_eqb, d_eqs, d_lts, d_cat, d_sat, d_and, d_or, denSub, denIte, asB, whos_len, whos_cell, whos_lsub, whos_lcat, whos_rep, shrs_len, shrs_cell, shrs_lsub, shrs_lcat, shrs_snocN, shrs_snoc0N, EndsOk, WaysOk, forall_cons, forall_nil, TgtOk, gpair, FactsIn, hold_cons, hold_nil, Option.some.injEq, Value.bool.injEq, Value.int.injEq, decide_eq_true_eq, decide_eq_false_iff_not, and_true, true_and, and_imp, X.bool, X.den, denL, d_wrap, d_kind, d_not, d_neg, d_slen, d_add, d_sub, d_mul, d_div, d_mod, d_lt, d_le, d_eq, d_eqb, d_eqs, d_lts, d_cat, d_sat, d_and, d_or, denSub, denIte, asB, whos_len, whos_cell, whos_lsub, whos_lcat, whos_rep, shrs_len, shrs_cell, shrs_lsub, shrs_lcat, shrs_snocN, shrs_snoc0N, beq_iff_eq, beq_eq_false_iff_ne, ne_eq, v1, v4, v200, vs, h1, h4, hsy, sym10, sym21, sym110, sym111, sym112, sym113, sym114, sym115, sym116, sym117, sym118, hX, hY, hyl, Int.toNat_natCast, hp, hq, Option.bind_some, shr0, shr1, hlt1, hw, w1, hnz, reduceCtorEq, false_implies, implies_true, true_implies, and_self, not_true_eq_false, not_false_eq_true])
    all_goals ((repeat' apply And.intro) <;> intros <;> first
      | trivial
      | (exfalso; omega)
      | (exact absurd trivial (by assumption))
      | (exact absurd (by assumption) hnz)
      | (exact go))

noncomputable def pp1LL_D : LoopD := { N := 210, M := 211, size := sizeOfF 14, reads := [(60, .rows 2 shrSch (.var 0) (.var 1) false 67), (61, .rows 2 shrSch (.var 3) (.var 4) false 67), (100, .rows 2 shrSch (.num 0) (.app 115 [.app 111 [.var 4, .app 112 [.var 1]]]) true 67)], pats := [{ slots := [(0, .slx 60 2 (.var 0) (.num 0) (.op1 .len (.var 1)) (.var 2)), (1, .slx 61 2 (.var 3) (.num 0) (.op1 .len (.var 4)) (.var 5)), (5, .slo 100 2 (.op1 .len (.app 115 [.app 111 [.var 4, .app 112 [.var 1]]]))), (10, .sint .i64 (.var 210))], heap := [] }], exits := [(.exit 2, { slots := [], heap := [] })], own := [], pre := [(.op2 .eq (.app 110 [.var 1]) (.num 0), true), (.op2 .lt (.num 60) (.op1 .len (.var 1)), false), (.op2 .eq (.app 110 [.var 4]) (.num 0), true), (.op2 .lt (.num 60) (.op1 .len (.var 4)), false)] }
noncomputable def pp1LL_run : Env → AF → ASt → Option (List Out) := bodyRun CQ0 6 (fun _ => noLoop) (loopAt Tryz.prog 14 1)
def pp1LL0_F : List (X × Bool) := [(.op2 .lt (.var 210) (.num 0), false)]
noncomputable def pp1LL0_t : FTree := (.fork (.op2 .lt (.num 40) (.var 210)) (.leaf [(.leave 0 [])]) (.fork (.app 21 [(.var 1)]) (.fork (.app 21 [(.app 115 [(.app 111 [(.var 4), (.app 112 [(.var 1)])])])]) (.fork (.app 21 [(.var 4)]) (.fork (.op2 .eq (.op1 (.wrap .i64) (.op2 .add (.app 116 [(.var 1), (.var 210)]) (.app 116 [(.app 115 [(.app 111 [(.var 4), (.app 112 [(.var 1)])])]), (.var 210)]))) (.app 116 [(.var 4), (.var 210)])) (.leaf [(.again 0 [])]) .bad) .bad) .bad) .bad))
noncomputable def pp1LL0_l : List (List (X × Bool) × Option (List (Tgt × Pairs))) := [([((.op2 .lt (.num 40) (.var 210)), true), ((.op2 .lt (.var 210) (.num 0)), false)], some [((.leave 0 []), [])]),
  ([((.op2 .eq (.op1 (.wrap .i64) (.op2 .add (.app 116 [(.var 1), (.var 210)]) (.app 116 [(.app 115 [(.app 111 [(.var 4), (.app 112 [(.var 1)])])]), (.var 210)]))) (.app 116 [(.var 4), (.var 210)])), true), ((.app 21 [(.var 4)]), true), ((.app 21 [(.app 115 [(.app 111 [(.var 4), (.app 112 [(.var 1)])])])]), true), ((.app 21 [(.var 1)]), true), ((.op2 .lt (.num 40) (.var 210)), false), ((.op2 .lt (.var 210) (.num 0)), false)], some [((.again 0 []), [((.var 210), (.op1 (.wrap .i64) (.op2 .add (.var 210) (.num 1))))])]),
  ([((.op2 .eq (.op1 (.wrap .i64) (.op2 .add (.app 116 [(.var 1), (.var 210)]) (.app 116 [(.app 115 [(.app 111 [(.var 4), (.app 112 [(.var 1)])])]), (.var 210)]))) (.app 116 [(.var 4), (.var 210)])), false), ((.app 21 [(.var 4)]), true), ((.app 21 [(.app 115 [(.app 111 [(.var 4), (.app 112 [(.var 1)])])])]), true), ((.app 21 [(.var 1)]), true), ((.op2 .lt (.num 40) (.var 210)), false), ((.op2 .lt (.var 210) (.num 0)), false)], none),
  ([((.app 21 [(.var 4)]), false), ((.app 21 [(.app 115 [(.app 111 [(.var 4), (.app 112 [(.var 1)])])])]), true), ((.app 21 [(.var 1)]), true), ((.op2 .lt (.num 40) (.var 210)), false), ((.op2 .lt (.var 210) (.num 0)), false)], none),
  ([((.app 21 [(.app 115 [(.app 111 [(.var 4), (.app 112 [(.var 1)])])])]), false), ((.app 21 [(.var 1)]), true), ((.op2 .lt (.num 40) (.var 210)), false), ((.op2 .lt (.var 210) (.num 0)), false)], none),
  ([((.app 21 [(.var 1)]), false), ((.op2 .lt (.num 40) (.var 210)), false), ((.op2 .lt (.var 210) (.num 0)), false)], none)]
theorem pp1LL0_w (r : Rho) : pp1LL_D.ways pp1LL_run E1 r 0 pp1LL0_F pp1LL0_t = some pp1LL0_l := by kernel_rfl
theorem pp1LL_ok : pp1LL_D.ok = true := by kernel_rfl
def pp1LL_Inv (j : Nat) (vals : List Value) : Prop :=
  j = 0 ∧ ∃ i : Nat, i ≤ 41 ∧ vals = [.int .i64 i]
def pp1LL_mu (_ : Nat) (vals : List Value) : Nat := 41 - (vI (vals.getD 0 default)).toNat
set_option maxHeartbeats 1000000 in
theorem pp1LL_step {ρ : Rho} {a b : List Shr} (h1 : ρ.val 1 = some (shrsR a)) (h4 : ρ.val 4 = some (shrsR b)) (hsy : ρ.sym = sy) (hca : chkS a = 0) (hcb : chkS b = 0) (hla : (a.length : Int) ≤ 60) (hlb : (b.length : Int) ≤ 60) (j : Nat) (vals : List Value) (hI : pp1LL_Inv j vals) :
    StepOk pp1LL_D pp1LL_run E1 ρ pp1LL_Inv pp1LL_mu j vals := by
  obtain ⟨rfl, i, hi, rfl⟩ := hI
  have hN : pp1LL_D.N = 210 := rfl
  have v1 : (ρ.ext pp1LL_D.N [.int .i64 i]).val 1 = some (shrsR a) := by rw [ext_low _ _ _ _ (by rw [hN]; omega)]; exact h1
  have v4 : (ρ.ext pp1LL_D.N [.int .i64 i]).val 4 = some (shrsR b) := by rw [ext_low _ _ _ _ (by rw [hN]; omega)]; exact h4
  have v210 : (ρ.ext pp1LL_D.N [.int .i64 i]).val 210 = some (.int .i64 i) := by rw [ext_high _ _ _ _ (by rw [hN]; omega)]; rfl
  have vs : (ρ.ext pp1LL_D.N [.int .i64 i]).sym = sy := hsy

  have hyx := chg_neg a b
  have hxl := chg_len (accB (accA a) b)
  have hacc := acc_all hca hcb
  have hgood := (chg_good a b).1
  have hof := fun k => (of_sum hca hcb k).2
  have hle := hacc.1
  have hmx : (chgOf (accB (accA a) b)).length ≤ 120 := by omega
  generalize hX : chgOf (accB (accA a) b) = xs at *
  have s1 : shortB a = true := len_short (by omega)
  have s4 : shortB b = true := len_short (by omega)
  have sx : shortB xs = true := len_short (by omega)
  have hF : FactsIn (ρ.ext pp1LL_D.N [.int .i64 i]) pp1LL0_F := by
    simp only [pp1LL0_F, FactsIn, X.bool, X.den, denL, d_wrap, d_kind, d_not, d_neg, d_slen, d_add, d_sub, d_mul, d_div, d_mod, d_lt, d_le, d_eq, d_eqb, d_eqs, d_lts, d_cat, d_sat, d_and, d_or, denSub, denIte, asB, whos_len, whos_cell, whos_lsub, whos_lcat, whos_rep, shrs_len, shrs_cell, shrs_lsub, shrs_lcat, shrs_snocN, shrs_snoc0N, v210, Option.some.injEq, Value.bool.injEq, decide_eq_false_iff_not, and_true]
    omega
  suffices both : AsksL (ρ.ext pp1LL_D.N [.int .i64 i]) (pp1LL0_t.asks pp1LL0_F) ∧ WaysOk pp1LL_D ρ pp1LL_Inv pp1LL_mu 0 [.int .i64 i] pp1LL0_l from step_of_ways (pp1LL0_w _) hF both.1.ok both.2
  by_cases hlt : (40 : Int) < i
  · refine ⟨?_, ?_⟩
    · simp only [pp1LL0_t, pp1LL0_F, AsksL, GTree.asks, FTree.asks, FactsIn, List.append_nil, List.nil_append, List.cons_append, Option.some.injEq, exists_eq', implies_true, and_self, X.bool, X.den, denL, d_wrap, d_kind, d_not, d_neg, d_slen, d_add, d_sub, d_mul, d_div, d_mod, d_lt, d_le, d_eq, d_eqb, d_eqs, d_lts, d_cat, d_sat, d_and, d_or, denSub, denIte, asB, whos_len, whos_cell, whos_lsub, whos_lcat, whos_rep, shrs_len, shrs_cell, shrs_lsub, shrs_lcat, shrs_snocN, shrs_snoc0N, v1, v4, v210, vs, sym10, sym21, sym110, sym111, sym112, sym113, sym114, sym115, sym116, sym117, sym118, hX, s1, s4, sx, hlt]
      try simp
    · simp only [pp1LL0_l, EndsOk, WaysOk, forall_cons, forall_nil, TgtOk, gpair, FactsIn, hold_cons, hold_nil, Option.some.injEq, Value.bool.injEq, Value.int.injEq, decide_eq_true_eq, decide_eq_false_iff_not, and_true, true_and, and_imp, X.bool, X.den, denL, d_wrap, d_kind, d_not, d_neg, d_slen, d_add, d_sub, d_mul, d_div, d_mod, d_lt, d_le, d_eq, d_eqb, d_eqs, d_lts, d_cat, d_sat, d_and, d_or, denSub, denIte, asB, whos_len, whos_cell, whos_lsub, whos_lcat, whos_rep, shrs_len, shrs_cell, shrs_lsub, shrs_lcat, shrs_snocN, shrs_snoc0N, beq_iff_eq, beq_eq_false_iff_ne, ne_eq, v1, v4, v210, vs, h1, h4, hsy, sym10, sym21, sym110, sym111, sym112, sym113, sym114, sym115, sym116, sym117, sym118, hX, s1, s4, sx, hlt]
      try simp
  · have hw : IntKind.i64.wrap ((i : Int) + 1) = ((i + 1 : Nat) : Int) := by rw [IntWalk.i64_in _ (by omega)]; rfl
    have go : ∃ vals', (ρ.ext pp1LL_D.N vals').val 210 = some (.int .i64 ((i + 1 : Nat) : Int)) ∧ pp1LL_Inv 0 vals' ∧ pp1LL_mu 0 vals' < pp1LL_mu 0 [.int .i64 i] := by
      refine ⟨[.int .i64 ((i + 1 : Nat) : Int)], ?_, ⟨rfl, i + 1, by omega, rfl⟩, ?_⟩
      · rw [ext_high _ _ _ _ (by rw [hN]; omega)]; rfl
      · simp [pp1LL_mu, vI]; omega
    have hof := hof (i : Int)
    have hofe : IntKind.i64.wrap (sumK a i + sumK xs i) = sumK b i := by
      have z0 : sumK [] (i : Int) = 0 := rfl
      have w0 : IntKind.i64.wrap 0 = 0 := rfl
      simpa only [z0] using hof
    refine ⟨?_, ?_⟩
    all_goals (simp only [pp1LL0_t, pp1LL0_F, pp1LL0_l, AsksL, GTree.asks, FTree.asks, FactsIn, List.append_nil, List.nil_append, List.cons_append, Option.some.injEq, exists_eq', implies_true, and_self, X.bool, X.den, denL, d_wrap, d_kind, d_not, d_neg, d_slen, d_add, d_sub, d_mul, d_div, d_mod, d_lt, d_le, d_eq, d_eqb, d_eqs, d_lts, d_cat, d_sat, d_and, d_or, denSub, denIte, asB, whos_len, whos_cell, whos_lsub, whos_lcat, whos_rep, shrs_len, shrs_cell, shrs_lsub, shrs_lcat, shrs_snocN, shrs_snoc0N, EndsOk, WaysOk, forall_cons, forall_nil, TgtOk, gpair, FactsIn, hold_cons, hold_nil, Option.some.injEq, Value.bool.injEq, Value.int.injEq, decide_eq_true_eq, decide_eq_false_iff_not, and_true, true_and, and_imp, X.bool, X.den, denL, d_wrap, d_kind, d_not, d_neg, d_slen, d_add, d_sub, d_mul, d_div, d_mod, d_lt, d_le, d_eq, d_eqb, d_eqs, d_lts, d_cat, d_sat, d_and, d_or, denSub, denIte, asB, whos_len, whos_cell, whos_lsub, whos_lcat, whos_rep, shrs_len, shrs_cell, shrs_lsub, shrs_lcat, shrs_snocN, shrs_snoc0N, beq_iff_eq, beq_eq_false_iff_ne, ne_eq, v1, v4, v210, vs, h1, h4, hsy, sym10, sym21, sym110, sym111, sym112, sym113, sym114, sym115, sym116, sym117, sym118, hX, s1, s4, sx, hlt, hw, reduceCtorEq, false_implies, implies_true, true_implies, and_self, not_true_eq_false, not_false_eq_true])
    all_goals ((repeat' apply And.intro) <;> intros <;> first
      | trivial
      | (exfalso; omega)
      | (exact absurd trivial (by assumption))
      | (exact absurd hofe (by assumption))
      | (exact go)
      | (simp_all; done))

noncomputable def pp0LL_D : LoopD := { N := 210, M := 211, size := sizeOfF 14, reads := [(60, .rows 2 shrSch (.var 0) (.var 1) false 67), (61, .rows 2 shrSch (.var 3) (.var 4) false 67)], pats := [{ slots := [(0, .slx 60 2 (.var 0) (.num 0) (.op1 .len (.var 1)) (.var 2)), (1, .slx 61 2 (.var 3) (.num 0) (.op1 .len (.var 4)) (.var 5)), (5, .nilslice), (10, .sint .i64 (.var 210))], heap := [] }], exits := [(.exit 2, { slots := [], heap := [] })], own := [], pre := [(.op2 .eq (.app 110 [.var 1]) (.num 0), true), (.op2 .lt (.num 60) (.op1 .len (.var 1)), false), (.op2 .eq (.app 110 [.var 4]) (.num 0), true), (.op2 .lt (.num 60) (.op1 .len (.var 4)), false), (.op2 .eq (.op1 .len (.app 111 [.var 4, .app 112 [.var 1]])) (.num 0), true)] }
noncomputable def pp0LL_run : Env → AF → ASt → Option (List Out) := bodyRun CQ0 6 (fun _ => noLoop) (loopAt Tryz.prog 14 1)
def pp0LL0_F : List (X × Bool) := [(.op2 .lt (.var 210) (.num 0), false)]
noncomputable def pp0LL0_t : FTree := (.fork (.op2 .lt (.num 40) (.var 210)) (.leaf [(.leave 0 [])]) (.fork (.app 21 [(.var 1)]) (.fork (.app 21 [(.var 4)]) (.fork (.op2 .eq (.op1 (.wrap .i64) (.op2 .add (.app 116 [(.var 1), (.var 210)]) (.num 0))) (.app 116 [(.var 4), (.var 210)])) (.leaf [(.again 0 [])]) .bad) .bad) .bad))
noncomputable def pp0LL0_l : List (List (X × Bool) × Option (List (Tgt × Pairs))) := [([((.op2 .lt (.num 40) (.var 210)), true), ((.op2 .lt (.var 210) (.num 0)), false)], some [((.leave 0 []), [])]),
  ([((.op2 .eq (.op1 (.wrap .i64) (.op2 .add (.app 116 [(.var 1), (.var 210)]) (.num 0))) (.app 116 [(.var 4), (.var 210)])), true), ((.app 21 [(.var 4)]), true), ((.app 21 [(.var 1)]), true), ((.op2 .lt (.num 40) (.var 210)), false), ((.op2 .lt (.var 210) (.num 0)), false)], some [((.again 0 []), [((.var 210), (.op1 (.wrap .i64) (.op2 .add (.var 210) (.num 1))))])]),
  ([((.op2 .eq (.op1 (.wrap .i64) (.op2 .add (.app 116 [(.var 1), (.var 210)]) (.num 0))) (.app 116 [(.var 4), (.var 210)])), false), ((.app 21 [(.var 4)]), true), ((.app 21 [(.var 1)]), true), ((.op2 .lt (.num 40) (.var 210)), false), ((.op2 .lt (.var 210) (.num 0)), false)], none),
  ([((.app 21 [(.var 4)]), false), ((.app 21 [(.var 1)]), true), ((.op2 .lt (.num 40) (.var 210)), false), ((.op2 .lt (.var 210) (.num 0)), false)], none),
  ([((.app 21 [(.var 1)]), false), ((.op2 .lt (.num 40) (.var 210)), false), ((.op2 .lt (.var 210) (.num 0)), false)], none)]
theorem pp0LL0_w (r : Rho) : pp0LL_D.ways pp0LL_run E1 r 0 pp0LL0_F pp0LL0_t = some pp0LL0_l := by kernel_rfl
theorem pp0LL_ok : pp0LL_D.ok = true := by kernel_rfl
def pp0LL_Inv (j : Nat) (vals : List Value) : Prop :=
  j = 0 ∧ ∃ i : Nat, i ≤ 41 ∧ vals = [.int .i64 i]
def pp0LL_mu (_ : Nat) (vals : List Value) : Nat := 41 - (vI (vals.getD 0 default)).toNat
set_option maxHeartbeats 1000000 in
theorem pp0LL_step {ρ : Rho} {a b : List Shr} (h1 : ρ.val 1 = some (shrsR a)) (h4 : ρ.val 4 = some (shrsR b)) (hsy : ρ.sym = sy) (hca : chkS a = 0) (hcb : chkS b = 0) (hla : (a.length : Int) ≤ 60) (hlb : (b.length : Int) ≤ 60) (hz : (accB (accA a) b).length = 0) (j : Nat) (vals : List Value) (hI : pp0LL_Inv j vals) :
    StepOk pp0LL_D pp0LL_run E1 ρ pp0LL_Inv pp0LL_mu j vals := by
  obtain ⟨rfl, i, hi, rfl⟩ := hI
  have hN : pp0LL_D.N = 210 := rfl
  have v1 : (ρ.ext pp0LL_D.N [.int .i64 i]).val 1 = some (shrsR a) := by rw [ext_low _ _ _ _ (by rw [hN]; omega)]; exact h1
  have v4 : (ρ.ext pp0LL_D.N [.int .i64 i]).val 4 = some (shrsR b) := by rw [ext_low _ _ _ _ (by rw [hN]; omega)]; exact h4
  have v210 : (ρ.ext pp0LL_D.N [.int .i64 i]).val 210 = some (.int .i64 i) := by rw [ext_high _ _ _ _ (by rw [hN]; omega)]; rfl
  have vs : (ρ.ext pp0LL_D.N [.int .i64 i]).sym = sy := hsy

  have hyx := chg_neg a b
  have hxl := chg_len (accB (accA a) b)
  have hacc := acc_all hca hcb
  have hgood := (chg_good a b).1
  have hof := fun k => (of_sum hca hcb k).2
  have hle := hacc.1
  have hmx : (chgOf (accB (accA a) b)).length ≤ 120 := by omega
  generalize hX : chgOf (accB (accA a) b) = xs at *
  have hx0 : xs = [] := List.eq_nil_of_length_eq_zero (by rw [hxl]; exact hz)
  have s1 : shortB a = true := len_short (by omega)
  have s4 : shortB b = true := len_short (by omega)
  have hF : FactsIn (ρ.ext pp0LL_D.N [.int .i64 i]) pp0LL0_F := by
    simp only [pp0LL0_F, FactsIn, X.bool, X.den, denL, d_wrap, d_kind, d_not, d_neg, d_slen, d_add, d_sub, d_mul, d_div, d_mod, d_lt, d_le, d_eq, d_eqb, d_eqs, d_lts, d_cat, d_sat, d_and, d_or, denSub, denIte, asB, whos_len, whos_cell, whos_lsub, whos_lcat, whos_rep, shrs_len, shrs_cell, shrs_lsub, shrs_lcat, shrs_snocN, shrs_snoc0N, v210, Option.some.injEq, Value.bool.injEq, decide_eq_false_iff_not, and_true]
    omega
  suffices both : AsksL (ρ.ext pp0LL_D.N [.int .i64 i]) (pp0LL0_t.asks pp0LL0_F) ∧ WaysOk pp0LL_D ρ pp0LL_Inv pp0LL_mu 0 [.int .i64 i] pp0LL0_l from step_of_ways (pp0LL0_w _) hF both.1.ok both.2
  by_cases hlt : (40 : Int) < i
  · refine ⟨?_, ?_⟩
    · simp only [pp0LL0_t, pp0LL0_F, AsksL, GTree.asks, FTree.asks, FactsIn, List.append_nil, List.nil_append, List.cons_append, Option.some.injEq, exists_eq', implies_true, and_self, X.bool, X.den, denL, d_wrap, d_kind, d_not, d_neg, d_slen, d_add, d_sub, d_mul, d_div, d_mod, d_lt, d_le, d_eq, d_eqb, d_eqs, d_lts, d_cat, d_sat, d_and, d_or, denSub, denIte, asB, whos_len, whos_cell, whos_lsub, whos_lcat, whos_rep, shrs_len, shrs_cell, shrs_lsub, shrs_lcat, shrs_snocN, shrs_snoc0N, v1, v4, v210, vs, sym10, sym21, sym110, sym111, sym112, sym113, sym114, sym115, sym116, sym117, sym118, hX, s1, s4, hlt]
      try simp
    · simp only [pp0LL0_l, EndsOk, WaysOk, forall_cons, forall_nil, TgtOk, gpair, FactsIn, hold_cons, hold_nil, Option.some.injEq, Value.bool.injEq, Value.int.injEq, decide_eq_true_eq, decide_eq_false_iff_not, and_true, true_and, and_imp, X.bool, X.den, denL, d_wrap, d_kind, d_not, d_neg, d_slen, d_add, d_sub, d_mul, d_div, d_mod, d_lt, d_le, d_eq, d_eqb, d_eqs, d_lts, d_cat, d_sat, d_and, d_or, denSub, denIte, asB, whos_len, whos_cell, whos_lsub, whos_lcat, whos_rep, shrs_len, shrs_cell, shrs_lsub, shrs_lcat, shrs_snocN, shrs_snoc0N, beq_iff_eq, beq_eq_false_iff_ne, ne_eq, v1, v4, v210, vs, h1, h4, hsy, sym10, sym21, sym110, sym111, sym112, sym113, sym114, sym115, sym116, sym117, sym118, hX, s1, s4, hlt]
      try simp
  · have hw : IntKind.i64.wrap ((i : Int) + 1) = ((i + 1 : Nat) : Int) := by rw [IntWalk.i64_in _ (by omega)]; rfl
    have go : ∃ vals', (ρ.ext pp0LL_D.N vals').val 210 = some (.int .i64 ((i + 1 : Nat) : Int)) ∧ pp0LL_Inv 0 vals' ∧ pp0LL_mu 0 vals' < pp0LL_mu 0 [.int .i64 i] := by
      refine ⟨[.int .i64 ((i + 1 : Nat) : Int)], ?_, ⟨rfl, i + 1, by omega, rfl⟩, ?_⟩
      · rw [ext_high _ _ _ _ (by rw [hN]; omega)]; rfl
      · simp [pp0LL_mu, vI]; omega
    have hof := hof (i : Int)
    rw [hx0] at hof
    have hofe : IntKind.i64.wrap (sumK a i + 0) = sumK b i := by
      have z0 : sumK [] (i : Int) = 0 := rfl
      have w0 : IntKind.i64.wrap 0 = 0 := rfl
      simpa only [z0, Int.add_zero, Int.zero_add, w0] using hof
    refine ⟨?_, ?_⟩
    all_goals (simp only [pp0LL0_t, pp0LL0_F, pp0LL0_l, AsksL, GTree.asks, FTree.asks, FactsIn, List.append_nil, List.nil_append, List.cons_append, Option.some.injEq, exists_eq', implies_true, and_self, X.bool, X.den, denL, d_wrap, d_kind, d_not, d_neg, d_slen, d_add, d_sub, d_mul, d_div, d_mod, d_lt, d_le, d_eq, d_eqb, d_eqs, d_lts, d_cat, d_sat, d_and, d_or, denSub, denIte, asB, whos_len, whos_cell, whos_lsub, whos_lcat, whos_rep, shrs_len, shrs_cell, shrs_lsub, shrs_lcat, shrs_snocN, shrs_snoc0N, EndsOk, WaysOk, forall_cons, forall_nil, TgtOk, gpair, FactsIn, hold_cons, hold_nil, Option.some.injEq, Value.bool.injEq, Value.int.injEq, decide_eq_true_eq, decide_eq_false_iff_not, and_true, true_and, and_imp, X.bool, X.den, denL, d_wrap, d_kind, d_not, d_neg, d_slen, d_add, d_sub, d_mul, d_div, d_mod, d_lt, d_le, d_eq, d_eqb, d_eqs, d_lts, d_cat, d_sat, d_and, d_or, denSub, denIte, asB, whos_len, whos_cell, whos_lsub, whos_lcat, whos_rep, shrs_len, shrs_cell, shrs_lsub, shrs_lcat, shrs_snocN, shrs_snoc0N, beq_iff_eq, beq_eq_false_iff_ne, ne_eq, v1, v4, v210, vs, h1, h4, hsy, sym10, sym21, sym110, sym111, sym112, sym113, sym114, sym115, sym116, sym117, sym118, hX, s1, s4, hlt, hw, reduceCtorEq, false_implies, implies_true, true_implies, and_self, not_true_eq_false, not_false_eq_true])
    all_goals ((repeat' apply And.intro) <;> intros <;> first
      | trivial
      | (exfalso; omega)
      | (exact absurd trivial (by assumption))
      | (exact absurd hofe (by assumption))
      | (exact go)
      | (simp_all; done))

noncomputable def chLL_fn : FnD := { f := 14, args := argsAV [shrsArg 60 0, shrsArg 61 3], heap := hRoot ++ argsBlk [shrsArg 60 0, shrsArg 61 3], N := 100, M := 100, out := .sbool (.boo true), news := [] }
noncomputable def chLL_call : Env → CallL := fun E => acallAll E (evH E (CQLL E) ((fun E => oneH 14 (hooks [(10, xyLL_D.hook E.facts lxy_vs), (15, orH (pp1LL_D.hook E.facts lp_vs) (pp0LL_D.hook E.facts lp_vs))])) E) 12)
noncomputable def chLL_pre : List (X × Bool) := []
noncomputable def chLL_t : GTree := (.fork (.op2 .lt (.num 60) (.op1 .len (.var 1))) (.leaf [[]]) (.fork (.op2 .lt (.num 60) (.op1 .len (.var 4))) (.leaf [[]]) (.fork (.op2 .eq (.app 110 [(.var 1)]) (.num 0)) (.fork (.op2 .eq (.app 110 [(.var 4)]) (.num 0)) (.fork (.op2 .eq (.op1 .len (.app 111 [(.var 4), (.app 112 [(.var 1)])])) (.num 0)) (.fork (.op2 .eq (.op1 .len (.app 111 [(.var 1), (.app 112 [(.var 4)])])) (.num 0)) (.leaf [[]]) (.fork (.op2 .eq (.num 0) (.op1 .len (.app 115 [(.app 111 [(.var 1), (.app 112 [(.var 4)])])]))) (.leaf [[]]) (.leaf [[]]))) (.fork (.op2 .eq (.op1 .len (.app 111 [(.var 1), (.app 112 [(.var 4)])])) (.num 0)) (.fork (.op2 .eq (.op1 .len (.app 115 [(.app 111 [(.var 4), (.app 112 [(.var 1)])])])) (.num 0)) (.fork (.op2 .lt (.num 0) (.op1 .len (.app 115 [(.app 111 [(.var 4), (.app 112 [(.var 1)])])]))) (.fork (.op2 .eq (.cell 1 (.app 115 [(.app 111 [(.var 4), (.app 112 [(.var 1)])])]) (.num 0)) (.num 0)) (.leaf [[]]) .bad) (.leaf [[]])) (.leaf [[]])) (.fork (.op2 .eq (.op1 .len (.app 115 [(.app 111 [(.var 4), (.app 112 [(.var 1)])])])) (.op1 .len (.app 115 [(.app 111 [(.var 1), (.app 112 [(.var 4)])])]))) (.leaf [[]]) (.leaf [[]])))) (.leaf [[]])) (.fork (.op2 .eq (.app 110 [(.var 4)]) (.num 0)) (.leaf [[]]) (.leaf [[]])))))
noncomputable def chLL_l : List (List (X × Bool) × Option Pairs) := [([((.op2 .lt (.num 60) (.op1 .len (.var 1))), true)], some []),
  ([((.op2 .lt (.num 60) (.op1 .len (.var 4))), true), ((.op2 .lt (.num 60) (.op1 .len (.var 1))), false)], some []),
  ([((.op2 .eq (.op1 .len (.app 111 [(.var 1), (.app 112 [(.var 4)])])) (.num 0)), true), ((.op2 .eq (.op1 .len (.app 111 [(.var 4), (.app 112 [(.var 1)])])) (.num 0)), true), ((.op2 .eq (.app 110 [(.var 4)]) (.num 0)), true), ((.op2 .eq (.app 110 [(.var 1)]) (.num 0)), true), ((.op2 .lt (.num 60) (.op1 .len (.var 4))), false), ((.op2 .lt (.num 60) (.op1 .len (.var 1))), false)], some []),
  ([((.op2 .eq (.num 0) (.op1 .len (.app 115 [(.app 111 [(.var 1), (.app 112 [(.var 4)])])]))), true), ((.op2 .eq (.op1 .len (.app 111 [(.var 1), (.app 112 [(.var 4)])])) (.num 0)), false), ((.op2 .eq (.op1 .len (.app 111 [(.var 4), (.app 112 [(.var 1)])])) (.num 0)), true), ((.op2 .eq (.app 110 [(.var 4)]) (.num 0)), true), ((.op2 .eq (.app 110 [(.var 1)]) (.num 0)), true), ((.op2 .lt (.num 60) (.op1 .len (.var 4))), false), ((.op2 .lt (.num 60) (.op1 .len (.var 1))), false)], some []),
  ([((.op2 .eq (.num 0) (.op1 .len (.app 115 [(.app 111 [(.var 1), (.app 112 [(.var 4)])])]))), false), ((.op2 .eq (.op1 .len (.app 111 [(.var 1), (.app 112 [(.var 4)])])) (.num 0)), false), ((.op2 .eq (.op1 .len (.app 111 [(.var 4), (.app 112 [(.var 1)])])) (.num 0)), true), ((.op2 .eq (.app 110 [(.var 4)]) (.num 0)), true), ((.op2 .eq (.app 110 [(.var 1)]) (.num 0)), true), ((.op2 .lt (.num 60) (.op1 .len (.var 4))), false), ((.op2 .lt (.num 60) (.op1 .len (.var 1))), false)], some [((.boo true), (.boo false))]),
  ([((.op2 .eq (.cell 1 (.app 115 [(.app 111 [(.var 4), (.app 112 [(.var 1)])])]) (.num 0)) (.num 0)), true), ((.op2 .lt (.num 0) (.op1 .len (.app 115 [(.app 111 [(.var 4), (.app 112 [(.var 1)])])]))), true), ((.op2 .eq (.op1 .len (.app 115 [(.app 111 [(.var 4), (.app 112 [(.var 1)])])])) (.num 0)), true), ((.op2 .eq (.op1 .len (.app 111 [(.var 1), (.app 112 [(.var 4)])])) (.num 0)), true), ((.op2 .eq (.op1 .len (.app 111 [(.var 4), (.app 112 [(.var 1)])])) (.num 0)), false), ((.op2 .eq (.app 110 [(.var 4)]) (.num 0)), true), ((.op2 .eq (.app 110 [(.var 1)]) (.num 0)), true), ((.op2 .lt (.num 60) (.op1 .len (.var 4))), false), ((.op2 .lt (.num 60) (.op1 .len (.var 1))), false)], some [((.boo true), (.boo false))]),
  ([((.op2 .eq (.cell 1 (.app 115 [(.app 111 [(.var 4), (.app 112 [(.var 1)])])]) (.num 0)) (.num 0)), false), ((.op2 .lt (.num 0) (.op1 .len (.app 115 [(.app 111 [(.var 4), (.app 112 [(.var 1)])])]))), true), ((.op2 .eq (.op1 .len (.app 115 [(.app 111 [(.var 4), (.app 112 [(.var 1)])])])) (.num 0)), true), ((.op2 .eq (.op1 .len (.app 111 [(.var 1), (.app 112 [(.var 4)])])) (.num 0)), true), ((.op2 .eq (.op1 .len (.app 111 [(.var 4), (.app 112 [(.var 1)])])) (.num 0)), false), ((.op2 .eq (.app 110 [(.var 4)]) (.num 0)), true), ((.op2 .eq (.app 110 [(.var 1)]) (.num 0)), true), ((.op2 .lt (.num 60) (.op1 .len (.var 4))), false), ((.op2 .lt (.num 60) (.op1 .len (.var 1))), false)], none),
  ([((.op2 .lt (.num 0) (.op1 .len (.app 115 [(.app 111 [(.var 4), (.app 112 [(.var 1)])])]))), false), ((.op2 .eq (.op1 .len (.app 115 [(.app 111 [(.var 4), (.app 112 [(.var 1)])])])) (.num 0)), true), ((.op2 .eq (.op1 .len (.app 111 [(.var 1), (.app 112 [(.var 4)])])) (.num 0)), true), ((.op2 .eq (.op1 .len (.app 111 [(.var 4), (.app 112 [(.var 1)])])) (.num 0)), false), ((.op2 .eq (.app 110 [(.var 4)]) (.num 0)), true), ((.op2 .eq (.app 110 [(.var 1)]) (.num 0)), true), ((.op2 .lt (.num 60) (.op1 .len (.var 4))), false), ((.op2 .lt (.num 60) (.op1 .len (.var 1))), false)], some []),
  ([((.op2 .eq (.op1 .len (.app 115 [(.app 111 [(.var 4), (.app 112 [(.var 1)])])])) (.num 0)), false), ((.op2 .eq (.op1 .len (.app 111 [(.var 1), (.app 112 [(.var 4)])])) (.num 0)), true), ((.op2 .eq (.op1 .len (.app 111 [(.var 4), (.app 112 [(.var 1)])])) (.num 0)), false), ((.op2 .eq (.app 110 [(.var 4)]) (.num 0)), true), ((.op2 .eq (.app 110 [(.var 1)]) (.num 0)), true), ((.op2 .lt (.num 60) (.op1 .len (.var 4))), false), ((.op2 .lt (.num 60) (.op1 .len (.var 1))), false)], some [((.boo true), (.boo false))]),
  ([((.op2 .eq (.op1 .len (.app 115 [(.app 111 [(.var 4), (.app 112 [(.var 1)])])])) (.op1 .len (.app 115 [(.app 111 [(.var 1), (.app 112 [(.var 4)])])]))), true), ((.op2 .eq (.op1 .len (.app 111 [(.var 1), (.app 112 [(.var 4)])])) (.num 0)), false), ((.op2 .eq (.op1 .len (.app 111 [(.var 4), (.app 112 [(.var 1)])])) (.num 0)), false), ((.op2 .eq (.app 110 [(.var 4)]) (.num 0)), true), ((.op2 .eq (.app 110 [(.var 1)]) (.num 0)), true), ((.op2 .lt (.num 60) (.op1 .len (.var 4))), false), ((.op2 .lt (.num 60) (.op1 .len (.var 1))), false)], some []),
  ([((.op2 .eq (.op1 .len (.app 115 [(.app 111 [(.var 4), (.app 112 [(.var 1)])])])) (.op1 .len (.app 115 [(.app 111 [(.var 1), (.app 112 [(.var 4)])])]))), false), ((.op2 .eq (.op1 .len (.app 111 [(.var 1), (.app 112 [(.var 4)])])) (.num 0)), false), ((.op2 .eq (.op1 .len (.app 111 [(.var 4), (.app 112 [(.var 1)])])) (.num 0)), false), ((.op2 .eq (.app 110 [(.var 4)]) (.num 0)), true), ((.op2 .eq (.app 110 [(.var 1)]) (.num 0)), true), ((.op2 .lt (.num 60) (.op1 .len (.var 4))), false), ((.op2 .lt (.num 60) (.op1 .len (.var 1))), false)], some [((.boo true), (.boo false))]),
  ([((.op2 .eq (.app 110 [(.var 4)]) (.num 0)), false), ((.op2 .eq (.app 110 [(.var 1)]) (.num 0)), true), ((.op2 .lt (.num 60) (.op1 .len (.var 4))), false), ((.op2 .lt (.num 60) (.op1 .len (.var 1))), false)], some []),
  ([((.op2 .eq (.app 110 [(.var 4)]) (.num 0)), true), ((.op2 .eq (.app 110 [(.var 1)]) (.num 0)), false), ((.op2 .lt (.num 60) (.op1 .len (.var 4))), false), ((.op2 .lt (.num 60) (.op1 .len (.var 1))), false)], some []),
  ([((.op2 .eq (.app 110 [(.var 4)]) (.num 0)), false), ((.op2 .eq (.app 110 [(.var 1)]) (.num 0)), false), ((.op2 .lt (.num 60) (.op1 .len (.var 4))), false), ((.op2 .lt (.num 60) (.op1 .len (.var 1))), false)], some [])]
theorem chLL_w (r : Rho) : chLL_fn.ways chLL_call E1 r chLL_pre chLL_t = some chLL_l := by kernel_rfl
theorem chLL_H {r : Rho} {a b : List Shr} (h1 : r.val 1 = some (shrsR a)) (h4 : r.val 4 = some (shrsR b)) (hsy : r.sym = sy) (F : List (X × Bool)) :
    LoopsOk (E1.with F r) (oneH 14 (hooks [(10, xyLL_D.hook (E1.with F r).facts lxy_vs), (15, orH (pp1LL_D.hook (E1.with F r).facts lp_vs) (pp0LL_D.hook (E1.with F r).facts lp_vs))])) := by
  refine loops_all (n := 2) (fun f fn h => h) (by kernel_rfl) fun i hi => ?_
  have h01 : i = 0 ∨ i = 1 := by omega
  rcases h01 with rfl | rfl
  · rw [hooks_hit (show keyOf (loopAt (E1.with F r).P 14 0) = 10 by kernel_rfl)]
    exact hook_ok (E₀ := E1) (run := xyLL_run) (ρ := r) (Inv := xyLL_Inv (chgOf (accB (accA a) b))) (μ := xyLL_mu (chgOf (accB (accA a) b))) E1_ok xyLL_ok (fun F r' h => bodyRun_ok E1_ok (CQ0_ok F (h.trans hsy)) fun _ _ => noLoop_ok) (fun hp => by
        simp only [xyLL_D, FactsIn, X.bool, X.den, denL, d_wrap, d_kind, d_not, d_neg, d_slen, d_add, d_sub, d_mul, d_div, d_mod, d_lt, d_le, d_eq, d_eqb, d_eqs, d_lts, d_cat, d_sat, d_and, d_or, denSub, denIte, asB, whos_len, whos_cell, whos_lsub, whos_lcat, whos_rep, shrs_len, shrs_cell, shrs_lsub, shrs_lcat, shrs_snocN, shrs_snoc0N, h1, h4, hsy, sym10, sym21, sym110, sym111, sym112, sym113, sym114, sym115, sym116, sym117, sym118, Option.some.injEq, Value.bool.injEq, decide_eq_false_iff_not, Int.not_lt, and_true, beq_iff_eq, beq_eq_false_iff_ne, ne_eq] at hp
        obtain ⟨hca, hla, hcb, hlb⟩ := hp
        refine ⟨xyLL_step h1 h4 hsy hca hcb hla hlb, [.int .i64 0], ?_, rfl, 0, Nat.zero_le _, rfl⟩
        simp only [lxy_vs, lp_vs, X.bool, X.den, denL, d_wrap, d_kind, d_not, d_neg, d_slen, d_add, d_sub, d_mul, d_div, d_mod, d_lt, d_le, d_eq, d_eqb, d_eqs, d_lts, d_cat, d_sat, d_and, d_or, denSub, denIte, asB, whos_len, whos_cell, whos_lsub, whos_lcat, whos_rep, shrs_len, shrs_cell, shrs_lsub, shrs_lcat, shrs_snocN, shrs_snoc0N])
  · rw [hooks_miss (show Nat.beq (keyOf (loopAt (E1.with F r).P 14 1)) 10 = false by kernel_rfl), hooks_hit (show keyOf (loopAt (E1.with F r).P 14 1) = 15 by kernel_rfl)]
    refine orH_ok ?_ ?_
    · exact hook_ok (E₀ := E1) (run := pp1LL_run) (ρ := r) (Inv := pp1LL_Inv) (μ := pp1LL_mu) E1_ok pp1LL_ok (fun F r' h => bodyRun_ok E1_ok (CQ0_ok F (h.trans hsy)) fun _ _ => noLoop_ok) (fun hp => by
        simp only [pp1LL_D, FactsIn, X.bool, X.den, denL, d_wrap, d_kind, d_not, d_neg, d_slen, d_add, d_sub, d_mul, d_div, d_mod, d_lt, d_le, d_eq, d_eqb, d_eqs, d_lts, d_cat, d_sat, d_and, d_or, denSub, denIte, asB, whos_len, whos_cell, whos_lsub, whos_lcat, whos_rep, shrs_len, shrs_cell, shrs_lsub, shrs_lcat, shrs_snocN, shrs_snoc0N, h1, h4, hsy, sym10, sym21, sym110, sym111, sym112, sym113, sym114, sym115, sym116, sym117, sym118, Option.some.injEq, Value.bool.injEq, decide_eq_false_iff_not, Int.not_lt, and_true, beq_iff_eq, beq_eq_false_iff_ne, ne_eq] at hp
        obtain ⟨hca, hla, hcb, hlb⟩ := hp
        refine ⟨pp1LL_step h1 h4 hsy hca hcb hla hlb, [.int .i64 0], ?_, rfl, 0, Nat.zero_le _, rfl⟩
        simp only [lxy_vs, lp_vs, X.bool, X.den, denL, d_wrap, d_kind, d_not, d_neg, d_slen, d_add, d_sub, d_mul, d_div, d_mod, d_lt, d_le, d_eq, d_eqb, d_eqs, d_lts, d_cat, d_sat, d_and, d_or, denSub, denIte, asB, whos_len, whos_cell, whos_lsub, whos_lcat, whos_rep, shrs_len, shrs_cell, shrs_lsub, shrs_lcat, shrs_snocN, shrs_snoc0N])
    · exact hook_ok (E₀ := E1) (run := pp0LL_run) (ρ := r) (Inv := pp0LL_Inv) (μ := pp0LL_mu) E1_ok pp0LL_ok (fun F r' h => bodyRun_ok E1_ok (CQ0_ok F (h.trans hsy)) fun _ _ => noLoop_ok) (fun hp => by
        simp only [pp0LL_D, FactsIn, X.bool, X.den, denL, d_wrap, d_kind, d_not, d_neg, d_slen, d_add, d_sub, d_mul, d_div, d_mod, d_lt, d_le, d_eq, d_eqb, d_eqs, d_lts, d_cat, d_sat, d_and, d_or, denSub, denIte, asB, whos_len, whos_cell, whos_lsub, whos_lcat, whos_rep, shrs_len, shrs_cell, shrs_lsub, shrs_lcat, shrs_snocN, shrs_snoc0N, h1, h4, hsy, sym10, sym21, sym110, sym111, sym112, sym113, sym114, sym115, sym116, sym117, sym118, Option.some.injEq, Value.bool.injEq, decide_eq_false_iff_not, Int.not_lt, and_true, beq_iff_eq, beq_eq_false_iff_ne, ne_eq] at hp
        obtain ⟨hca, hla, hcb, hlb, hz⟩ := hp
        refine ⟨pp0LL_step h1 h4 hsy hca hcb hla hlb (by omega), [.int .i64 0], ?_, rfl, 0, Nat.zero_le _, rfl⟩
        simp only [lxy_vs, lp_vs, X.bool, X.den, denL, d_wrap, d_kind, d_not, d_neg, d_slen, d_add, d_sub, d_mul, d_div, d_mod, d_lt, d_le, d_eq, d_eqb, d_eqs, d_lts, d_cat, d_sat, d_and, d_or, denSub, denIte, asB, whos_len, whos_cell, whos_lsub, whos_lcat, whos_rep, shrs_len, shrs_cell, shrs_lsub, shrs_lcat, shrs_snocN, shrs_snoc0N])
theorem chLL_60 : (buildH chLL_fn.heap).get 60 = some (.rows 2 shrSch (.var 0) (.var 1) false 67) := by kernel_rfl
theorem chLL_61 : (buildH chLL_fn.heap).get 61 = some (.rows 2 shrSch (.var 3) (.var 4) false 67) := by kernel_rfl
theorem chLL_out (σ : Sig) : chLL_fn.out.inst σ = some (.bool true) := rfl
set_option maxHeartbeats 2000000 in
theorem chLL_true {r : Rho} {σ : Sig} {w : World} {us : List Value} (hsy : r.sym = sy) (hρ : σ.rho = r) (hA : ∀ g id, E1.glob g = some id → ∃ κ, σ id = some (g, κ)) (hrel : (memOf chLL_fn.heap 100).rel Tryz.prog σ w (fun b => w.heap.size ≤ b)) (hins : Ins σ chLL_fn.args us) :
    Calls Tryz.prog 14 us.toArray w fun e w' => e = .returned (.bool true) ∧ Kept (fun b => w.heap.size ≤ b) w w' := by
  obtain ⟨a, h1⟩ := shrs_at hrel (i := 60) chLL_60
  obtain ⟨b, h4⟩ := shrs_at hrel (i := 61) chLL_61
  rw [hρ] at h1 h4
  have h1 : r.val 1 = some (shrsR a) := h1
  have h4 : r.val 4 = some (shrsR b) := h4
  have hl2 := chg_len2 a b
  have hxl := chg_len (accB (accA a) b)
  have hyl := chg_len (accB (accA b) a)
  refine law_of (E := E1) (D := chLL_fn) E1_ok (fun F => CQLL_ok F hsy) (fun F => chLL_H h1 h4 hsy F) (chLL_w r) hρ hA trivial hrel hins ?_ ?_ chLL_out
  · simp only [chLL_pre, chLL_t, AsksL, GTree.asks, FTree.asks, FactsIn, List.append_nil, List.nil_append, List.cons_append, Option.some.injEq, exists_eq', implies_true, and_self, X.bool, X.den, denL, d_wrap, d_kind, d_not, d_neg, d_slen, d_add, d_sub, d_mul, d_div, d_mod, d_lt, d_le, d_eq, d_eqb, d_eqs, d_lts, d_cat, d_sat, d_and, d_or, denSub, denIte, asB, whos_len, whos_cell, whos_lsub, whos_lcat, whos_rep, shrs_len, shrs_cell, shrs_lsub, shrs_lcat, shrs_snocN, shrs_snoc0N, beq_iff_eq, beq_eq_false_iff_ne, ne_eq, h1, h4, hsy, sym10, sym21, sym110, sym111, sym112, sym113, sym114, sym115, sym116, sym117, sym118, hxl, hyl, hl2, decide_eq_true_eq, decide_eq_false_iff_not, Value.bool.injEq, beq_self_eq_true]
    (repeat' apply And.intro) <;> intros <;> first
      | trivial
      | (exfalso; omega)
      | (exfalso; simp_all; done)
      | (exfalso; simp_all; omega)
      | (simp_all; done)
  · simp only [chLL_l, EndsOk, WaysOk, forall_cons, forall_nil, TgtOk, gpair, FactsIn, hold_cons, hold_nil, Option.some.injEq, Value.bool.injEq, Value.int.injEq, decide_eq_true_eq, decide_eq_false_iff_not, and_true, true_and, and_imp, X.bool, X.den, denL, d_wrap, d_kind, d_not, d_neg, d_slen, d_add, d_sub, d_mul, d_div, d_mod, d_lt, d_le, d_eq, d_eqb, d_eqs, d_lts, d_cat, d_sat, d_and, d_or, denSub, denIte, asB, whos_len, whos_cell, whos_lsub, whos_lcat, whos_rep, shrs_len, shrs_cell, shrs_lsub, shrs_lcat, shrs_snocN, shrs_snoc0N, beq_iff_eq, beq_eq_false_iff_ne, ne_eq, h1, h4, hsy, sym10, sym21, sym110, sym111, sym112, sym113, sym114, sym115, sym116, sym117, sym118, hxl, hyl, hl2]
    clear hsy hρ hA hrel hins h1 h4
    (repeat' apply And.intro) <;> intros <;> first
      | trivial
      | (exfalso; omega)
      | (simp_all; done)
      | (exfalso; simp_all; omega)

noncomputable def xyLN_D : LoopD := { N := 200, M := 201, size := sizeOfF 14, reads := [(100, .rows 2 shrSch (.num 0) (.app 115 [.app 118 [.var 1]]) true 67), (101, .rows 2 shrSch (.num 0) (.app 115 [.app 117 [.var 1]]) true 67)], pats := [{ slots := [(0, .slx 60 2 (.var 0) (.num 0) (.op1 .len (.var 1)) (.var 2)), (1, .nilslice), (5, .slo 100 2 (.op1 .len (.app 115 [.app 118 [.var 1]]))), (7, .slo 101 2 (.op1 .len (.app 115 [.app 117 [.var 1]]))), (9, .sint .i64 (.var 200))], heap := [] }], exits := [(.exit 0, { slots := [(0, .slx 60 2 (.var 0) (.num 0) (.op1 .len (.var 1)) (.var 2)), (1, .nilslice), (5, .slo 100 2 (.op1 .len (.app 115 [.app 118 [.var 1]])))], heap := [] })], own := [], pre := [(.op2 .eq (.app 110 [.var 1]) (.num 0), true), (.op2 .lt (.num 60) (.op1 .len (.var 1)), false)] }
noncomputable def xyLN_run : Env → AF → ASt → Option (List Out) := bodyRun CQ0 6 (fun _ => noLoop) (loopAt Tryz.prog 14 0)
def xyLN0_F : List (X × Bool) := [(.op2 .lt (.var 200) (.num 0), false)]
noncomputable def xyLN0_t : FTree := (.fork (.op2 .lt (.var 200) (.op1 .len (.app 115 [(.app 118 [(.var 1)])]))) (.fork (.op2 .eq (.cell 1 (.app 115 [(.app 118 [(.var 1)])]) (.var 200)) (.num 0)) .bad (.fork (.op2 .lt (.var 200) (.op1 .len (.app 115 [(.app 117 [(.var 1)])]))) (.fork (.op2 .eq (.cell 0 (.app 115 [(.app 117 [(.var 1)])]) (.var 200)) (.cell 0 (.app 115 [(.app 118 [(.var 1)])]) (.var 200))) (.fork (.op2 .eq (.cell 1 (.app 115 [(.app 117 [(.var 1)])]) (.var 200)) (.op1 (.wrap .i64) (.op2 .sub (.num 0) (.cell 1 (.app 115 [(.app 118 [(.var 1)])]) (.var 200))))) (.leaf [(.again 0 [])]) .bad) .bad) .bad)) (.leaf [(.leave 0 [])]))
noncomputable def xyLN0_l : List (List (X × Bool) × Option (List (Tgt × Pairs))) := [([((.op2 .eq (.cell 1 (.app 115 [(.app 118 [(.var 1)])]) (.var 200)) (.num 0)), true), ((.op2 .lt (.var 200) (.op1 .len (.app 115 [(.app 118 [(.var 1)])]))), true), ((.op2 .lt (.var 200) (.num 0)), false)], none),
  ([((.op2 .eq (.cell 1 (.app 115 [(.app 117 [(.var 1)])]) (.var 200)) (.op1 (.wrap .i64) (.op2 .sub (.num 0) (.cell 1 (.app 115 [(.app 118 [(.var 1)])]) (.var 200))))), true), ((.op2 .eq (.cell 0 (.app 115 [(.app 117 [(.var 1)])]) (.var 200)) (.cell 0 (.app 115 [(.app 118 [(.var 1)])]) (.var 200))), true), ((.op2 .lt (.var 200) (.op1 .len (.app 115 [(.app 117 [(.var 1)])]))), true), ((.op2 .eq (.cell 1 (.app 115 [(.app 118 [(.var 1)])]) (.var 200)) (.num 0)), false), ((.op2 .lt (.var 200) (.op1 .len (.app 115 [(.app 118 [(.var 1)])]))), true), ((.op2 .lt (.var 200) (.num 0)), false)], some [((.again 0 []), [((.var 200), (.op1 (.wrap .i64) (.op2 .add (.var 200) (.num 1))))])]),
  ([((.op2 .eq (.cell 1 (.app 115 [(.app 117 [(.var 1)])]) (.var 200)) (.op1 (.wrap .i64) (.op2 .sub (.num 0) (.cell 1 (.app 115 [(.app 118 [(.var 1)])]) (.var 200))))), false), ((.op2 .eq (.cell 0 (.app 115 [(.app 117 [(.var 1)])]) (.var 200)) (.cell 0 (.app 115 [(.app 118 [(.var 1)])]) (.var 200))), true), ((.op2 .lt (.var 200) (.op1 .len (.app 115 [(.app 117 [(.var 1)])]))), true), ((.op2 .eq (.cell 1 (.app 115 [(.app 118 [(.var 1)])]) (.var 200)) (.num 0)), false), ((.op2 .lt (.var 200) (.op1 .len (.app 115 [(.app 118 [(.var 1)])]))), true), ((.op2 .lt (.var 200) (.num 0)), false)], none),
  ([((.op2 .eq (.cell 0 (.app 115 [(.app 117 [(.var 1)])]) (.var 200)) (.cell 0 (.app 115 [(.app 118 [(.var 1)])]) (.var 200))), false), ((.op2 .lt (.var 200) (.op1 .len (.app 115 [(.app 117 [(.var 1)])]))), true), ((.op2 .eq (.cell 1 (.app 115 [(.app 118 [(.var 1)])]) (.var 200)) (.num 0)), false), ((.op2 .lt (.var 200) (.op1 .len (.app 115 [(.app 118 [(.var 1)])]))), true), ((.op2 .lt (.var 200) (.num 0)), false)], none),
  ([((.op2 .lt (.var 200) (.op1 .len (.app 115 [(.app 117 [(.var 1)])]))), false), ((.op2 .eq (.cell 1 (.app 115 [(.app 118 [(.var 1)])]) (.var 200)) (.num 0)), false), ((.op2 .lt (.var 200) (.op1 .len (.app 115 [(.app 118 [(.var 1)])]))), true), ((.op2 .lt (.var 200) (.num 0)), false)], none),
  ([((.op2 .lt (.var 200) (.op1 .len (.app 115 [(.app 118 [(.var 1)])]))), false), ((.op2 .lt (.var 200) (.num 0)), false)], some [((.leave 0 []), [])])]
theorem xyLN0_w (r : Rho) : xyLN_D.ways xyLN_run E1 r 0 xyLN0_F xyLN0_t = some xyLN0_l := by kernel_rfl
theorem xyLN_ok : xyLN_D.ok = true := by kernel_rfl
def xyLN_Inv (xs : List Shr) (j : Nat) (vals : List Value) : Prop :=
  j = 0 ∧ ∃ i : Nat, i ≤ xs.length ∧ vals = [.int .i64 i]
def xyLN_mu (xs : List Shr) (_ : Nat) (vals : List Value) : Nat := xs.length - (vI (vals.getD 0 default)).toNat
set_option maxHeartbeats 1000000 in
theorem xyLN_step {ρ : Rho} {a : List Shr} (h1 : ρ.val 1 = some (shrsR a)) (hsy : ρ.sym = sy) (hca : chkS a = 0) (hcb : chkS ([] : List Shr) = 0) (hla : (a.length : Int) ≤ 60) (hlb : (([] : List Shr).length : Int) ≤ 60) (j : Nat) (vals : List Value) (hI : xyLN_Inv (chgOf (accB (accA a) ([] : List Shr))) j vals) :
    StepOk xyLN_D xyLN_run E1 ρ (xyLN_Inv (chgOf (accB (accA a) ([] : List Shr)))) (xyLN_mu (chgOf (accB (accA a) ([] : List Shr)))) j vals := by
  obtain ⟨rfl, i, hi, rfl⟩ := hI
  have hN : xyLN_D.N = 200 := rfl
  have v1 : (ρ.ext xyLN_D.N [.int .i64 i]).val 1 = some (shrsR a) := by rw [ext_low _ _ _ _ (by rw [hN]; omega)]; exact h1
  have v200 : (ρ.ext xyLN_D.N [.int .i64 i]).val 200 = some (.int .i64 i) := by rw [ext_high _ _ _ _ (by rw [hN]; omega)]; rfl
  have vs : (ρ.ext xyLN_D.N [.int .i64 i]).sym = sy := hsy

  have hyx := chg_neg a ([] : List Shr)
  have hxl := chg_len (accB (accA a) ([] : List Shr))
  have hacc := acc_all hca hcb
  have hgood := (chg_good a ([] : List Shr)).1
  have hof := fun k => (of_sum hca hcb k).2
  have hle := hacc.1
  have hmx : (chgOf (accB (accA a) ([] : List Shr))).length ≤ 120 := by omega
  have hmem := fun x (hx : x ∈ chgOf (accB (accA a) ([] : List Shr))) => And.intro (chg_mem hgood hx).1 (by have h1 := (chg_mem hgood hx).2; have h2 := acc_at hacc x.party; omega : -2000000000000 ≤ x.pence ∧ x.pence ≤ 2000000000000)
  generalize hX : chgOf (accB (accA a) ([] : List Shr)) = xs at *
  generalize hY : chgOf (accB (accA ([] : List Shr)) a) = ys at *
  have hyl : ys.length = xs.length := by rw [hyx, List.length_map]
  have hF : FactsIn (ρ.ext xyLN_D.N [.int .i64 i]) xyLN0_F := by
    simp only [xyLN0_F, FactsIn, X.bool, X.den, denL, d_wrap, d_kind, d_not, d_neg, d_slen, d_add, d_sub, d_mul, d_div, d_mod, d_lt, d_le, d_eq, d_eqb, d_eqs, d_lts, d_cat, d_sat, d_and, d_or, denSub, denIte, asB, whos_len, whos_cell, whos_lsub, whos_lcat, whos_rep, shrs_len, shrs_cell, shrs_lsub, shrs_lcat, shrs_snocN, shrs_snoc0N, v200, Option.some.injEq, Value.bool.injEq, decide_eq_false_iff_not, and_true]
    omega
  suffices both : AsksL (ρ.ext xyLN_D.N [.int .i64 i]) (xyLN0_t.asks xyLN0_F) ∧ WaysOk xyLN_D ρ (xyLN_Inv xs) (xyLN_mu xs) 0 [.int .i64 i] xyLN0_l from step_of_ways (xyLN0_w _) hF both.1.ok both.2
  cases hp : xs[i]? with
  | none =>
    have hge := List.getElem?_eq_none_iff.1 hp
    have hge' : ¬ (i : Int) < xs.length := by omega
    have hq : ys[i]? = none := List.getElem?_eq_none_iff.2 (by omega)
    refine ⟨?_, ?_⟩
    · simp only [xyLN0_t, xyLN0_F, AsksL, GTree.asks, FTree.asks, FactsIn, List.append_nil, List.nil_append, List.cons_append, Option.some.injEq, exists_eq', implies_true, and_self, X.bool, X.den, denL, d_wrap, d_kind, d_not, d_neg, d_slen, d_add, d_sub, d_mul, d_div, d_mod, d_lt, d_le, d_eq, d_eqb, d_eqs, d_lts, d_cat, d_sat, d_and, d_or, denSub, denIte, asB, whos_len, whos_cell, whos_lsub, whos_lcat, whos_rep, shrs_len, shrs_cell, shrs_lsub, shrs_lcat, shrs_snocN, shrs_snoc0N, v1, v200, vs, sym10, sym21, sym110, sym111, sym112, sym113, sym114, sym115, sym116, sym117, sym118, hX, hY, hyl, Int.toNat_natCast, hp, hq, hge']
      try simp
    · simp only [xyLN0_l, EndsOk, WaysOk, forall_cons, forall_nil, TgtOk, gpair, FactsIn, hold_cons, hold_nil, Option.some.injEq, Value.bool.injEq, Value.int.injEq, decide_eq_true_eq, decide_eq_false_iff_not, and_true, true_and, and_imp, X.bool, X.den, denL, d_wrap, d_kind, d_not, d_neg, d_slen, d_add, d_sub, d_mul, d_div, d_mod, d_lt, d_le, d_eq, d_eqb, d_eqs, d_lts, d_cat, d_sat, d_and, d_or, denSub, denIte, asB, whos_len, whos_cell, whos_lsub, whos_lcat, whos_rep, shrs_len, shrs_cell, shrs_lsub, shrs_lcat, shrs_snocN, shrs_snoc0N, beq_iff_eq, beq_eq_false_iff_ne, ne_eq, v1, v200, vs, h1, hsy, sym10, sym21, sym110, sym111, sym112, sym113, sym114, sym115, sym116, sym117, sym118, hX, hY, hyl, Int.toNat_natCast, hp, hq, hge']
      try simp
  | some p =>
    have hlt : i < xs.length := (List.getElem?_eq_some_iff.1 hp).1
    have hlt1 : (i : Int) < xs.length := by omega
    have hq : ys[i]? = some ⟨p.party, -p.pence⟩ := by rw [hyx, List.getElem?_map, hp]; rfl
    obtain ⟨hnz, hb1, hb2⟩ := hmem p (List.mem_of_getElem? hp)
    have hw : IntKind.i64.wrap ((i : Int) + 1) = ((i + 1 : Nat) : Int) := by rw [IntWalk.i64_in _ (by omega)]; rfl
    have w1 : IntKind.i64.wrap (0 - p.pence) = -p.pence := by rw [IntWalk.i64_in _ (by omega)]; omega
    have go : ∃ vals', (ρ.ext xyLN_D.N vals').val 200 = some (.int .i64 ((i + 1 : Nat) : Int)) ∧ xyLN_Inv xs 0 vals' ∧ xyLN_mu xs 0 vals' < xyLN_mu xs 0 [.int .i64 i] := by
      refine ⟨[.int .i64 ((i + 1 : Nat) : Int)], ?_, ⟨rfl, i + 1, by omega, rfl⟩, ?_⟩
      · rw [ext_high _ _ _ _ (by rw [hN]; omega)]; rfl
      · simp [xyLN_mu, vI]; omega
    refine ⟨?_, ?_⟩
    all_goals (simp only [xyLN0_t, xyLN0_F, xyLN0_l, AsksL, GTree.asks, FTree.asks, FactsIn, List.append_nil, List.nil_append, List.cons_append, Option.some.injEq, exists_eq', implies_true, and_self, X.bool, X.den, denL, d_wrap, d_kind, d_not, d_neg, d_slen, d_add, d_sub, d_mul, d_div, d_mod, d_lt, d_le, d_eq, d_eqb, d_eqs, d_lts, d_cat, d_sat, d_and, d_or, denSub, denIte, asB, whos_len, whos_cell, whos_lsub, whos_lcat, whos_rep, shrs_len, shrs_cell, shrs_lsub, shrs_lcat, shrs_snocN, shrs_snoc0N, EndsOk, WaysOk, forall_cons, forall_nil, TgtOk, gpair, FactsIn, hold_cons, hold_nil, Option.some.injEq, Value.bool.injEq, Value.int.injEq, decide_eq_true_eq, decide_eq_false_iff_not, and_true, true_and, and_imp, X.bool, X.den, denL, d_wrap, d_kind, d_not, d_neg, d_slen, d_add, d_sub, d_mul, d_div, d_mod, d_lt, d_le, d_eq, d_eqb, d_eqs, d_lts, d_cat, d_sat, d_and, d_or, denSub, denIte, asB, whos_len, whos_cell, whos_lsub, whos_lcat, whos_rep, shrs_len, shrs_cell, shrs_lsub, shrs_lcat, shrs_snocN, shrs_snoc0N, beq_iff_eq, beq_eq_false_iff_ne, ne_eq, v1, v200, vs, h1, hsy, sym10, sym21, sym110, sym111, sym112, sym113, sym114, sym115, sym116, sym117, sym118, hX, hY, hyl, Int.toNat_natCast, hp, hq, Option.bind_some, shr0, shr1, hlt1, hw, w1, hnz, reduceCtorEq, false_implies, implies_true, true_implies, and_self, not_true_eq_false, not_false_eq_true])
    all_goals ((repeat' apply And.intro) <;> intros <;> first
      | trivial
      | (exfalso; omega)
      | (exact absurd trivial (by assumption))
      | (exact absurd (by assumption) hnz)
      | (exact go))

noncomputable def pp1LN_D : LoopD := { N := 210, M := 211, size := sizeOfF 14, reads := [(60, .rows 2 shrSch (.var 0) (.var 1) false 67), (100, .rows 2 shrSch (.num 0) (.app 115 [.app 118 [.var 1]]) true 67)], pats := [{ slots := [(0, .slx 60 2 (.var 0) (.num 0) (.op1 .len (.var 1)) (.var 2)), (1, .nilslice), (5, .slo 100 2 (.op1 .len (.app 115 [.app 118 [.var 1]]))), (10, .sint .i64 (.var 210))], heap := [] }], exits := [(.exit 2, { slots := [], heap := [] })], own := [], pre := [(.op2 .eq (.app 110 [.var 1]) (.num 0), true), (.op2 .lt (.num 60) (.op1 .len (.var 1)), false)] }
noncomputable def pp1LN_run : Env → AF → ASt → Option (List Out) := bodyRun CQ0 6 (fun _ => noLoop) (loopAt Tryz.prog 14 1)
def pp1LN0_F : List (X × Bool) := [(.op2 .lt (.var 210) (.num 0), false)]
noncomputable def pp1LN0_t : FTree := (.fork (.op2 .lt (.num 40) (.var 210)) (.leaf [(.leave 0 [])]) (.fork (.app 21 [(.var 1)]) (.fork (.app 21 [(.app 115 [(.app 118 [(.var 1)])])]) (.fork (.op2 .eq (.op1 (.wrap .i64) (.op2 .add (.app 116 [(.var 1), (.var 210)]) (.app 116 [(.app 115 [(.app 118 [(.var 1)])]), (.var 210)]))) (.num 0)) (.leaf [(.again 0 [])]) .bad) .bad) .bad))
noncomputable def pp1LN0_l : List (List (X × Bool) × Option (List (Tgt × Pairs))) := [([((.op2 .lt (.num 40) (.var 210)), true), ((.op2 .lt (.var 210) (.num 0)), false)], some [((.leave 0 []), [])]),
  ([((.op2 .eq (.op1 (.wrap .i64) (.op2 .add (.app 116 [(.var 1), (.var 210)]) (.app 116 [(.app 115 [(.app 118 [(.var 1)])]), (.var 210)]))) (.num 0)), true), ((.app 21 [(.app 115 [(.app 118 [(.var 1)])])]), true), ((.app 21 [(.var 1)]), true), ((.op2 .lt (.num 40) (.var 210)), false), ((.op2 .lt (.var 210) (.num 0)), false)], some [((.again 0 []), [((.var 210), (.op1 (.wrap .i64) (.op2 .add (.var 210) (.num 1))))])]),
  ([((.op2 .eq (.op1 (.wrap .i64) (.op2 .add (.app 116 [(.var 1), (.var 210)]) (.app 116 [(.app 115 [(.app 118 [(.var 1)])]), (.var 210)]))) (.num 0)), false), ((.app 21 [(.app 115 [(.app 118 [(.var 1)])])]), true), ((.app 21 [(.var 1)]), true), ((.op2 .lt (.num 40) (.var 210)), false), ((.op2 .lt (.var 210) (.num 0)), false)], none),
  ([((.app 21 [(.app 115 [(.app 118 [(.var 1)])])]), false), ((.app 21 [(.var 1)]), true), ((.op2 .lt (.num 40) (.var 210)), false), ((.op2 .lt (.var 210) (.num 0)), false)], none),
  ([((.app 21 [(.var 1)]), false), ((.op2 .lt (.num 40) (.var 210)), false), ((.op2 .lt (.var 210) (.num 0)), false)], none)]
theorem pp1LN0_w (r : Rho) : pp1LN_D.ways pp1LN_run E1 r 0 pp1LN0_F pp1LN0_t = some pp1LN0_l := by kernel_rfl
theorem pp1LN_ok : pp1LN_D.ok = true := by kernel_rfl
def pp1LN_Inv (j : Nat) (vals : List Value) : Prop :=
  j = 0 ∧ ∃ i : Nat, i ≤ 41 ∧ vals = [.int .i64 i]
def pp1LN_mu (_ : Nat) (vals : List Value) : Nat := 41 - (vI (vals.getD 0 default)).toNat
set_option maxHeartbeats 1000000 in
theorem pp1LN_step {ρ : Rho} {a : List Shr} (h1 : ρ.val 1 = some (shrsR a)) (hsy : ρ.sym = sy) (hca : chkS a = 0) (hcb : chkS ([] : List Shr) = 0) (hla : (a.length : Int) ≤ 60) (hlb : (([] : List Shr).length : Int) ≤ 60) (j : Nat) (vals : List Value) (hI : pp1LN_Inv j vals) :
    StepOk pp1LN_D pp1LN_run E1 ρ pp1LN_Inv pp1LN_mu j vals := by
  obtain ⟨rfl, i, hi, rfl⟩ := hI
  have hN : pp1LN_D.N = 210 := rfl
  have v1 : (ρ.ext pp1LN_D.N [.int .i64 i]).val 1 = some (shrsR a) := by rw [ext_low _ _ _ _ (by rw [hN]; omega)]; exact h1
  have v210 : (ρ.ext pp1LN_D.N [.int .i64 i]).val 210 = some (.int .i64 i) := by rw [ext_high _ _ _ _ (by rw [hN]; omega)]; rfl
  have vs : (ρ.ext pp1LN_D.N [.int .i64 i]).sym = sy := hsy

  have hyx := chg_neg a ([] : List Shr)
  have hxl := chg_len (accB (accA a) ([] : List Shr))
  have hacc := acc_all hca hcb
  have hgood := (chg_good a ([] : List Shr)).1
  have hof := fun k => (of_sum hca hcb k).2
  have hle := hacc.1
  have hmx : (chgOf (accB (accA a) ([] : List Shr))).length ≤ 120 := by omega
  generalize hX : chgOf (accB (accA a) ([] : List Shr)) = xs at *
  have s1 : shortB a = true := len_short (by omega)
  have sx : shortB xs = true := len_short (by omega)
  have hF : FactsIn (ρ.ext pp1LN_D.N [.int .i64 i]) pp1LN0_F := by
    simp only [pp1LN0_F, FactsIn, X.bool, X.den, denL, d_wrap, d_kind, d_not, d_neg, d_slen, d_add, d_sub, d_mul, d_div, d_mod, d_lt, d_le, d_eq, d_eqb, d_eqs, d_lts, d_cat, d_sat, d_and, d_or, denSub, denIte, asB, whos_len, whos_cell, whos_lsub, whos_lcat, whos_rep, shrs_len, shrs_cell, shrs_lsub, shrs_lcat, shrs_snocN, shrs_snoc0N, v210, Option.some.injEq, Value.bool.injEq, decide_eq_false_iff_not, and_true]
    omega
  suffices both : AsksL (ρ.ext pp1LN_D.N [.int .i64 i]) (pp1LN0_t.asks pp1LN0_F) ∧ WaysOk pp1LN_D ρ pp1LN_Inv pp1LN_mu 0 [.int .i64 i] pp1LN0_l from step_of_ways (pp1LN0_w _) hF both.1.ok both.2
  by_cases hlt : (40 : Int) < i
  · refine ⟨?_, ?_⟩
    · simp only [pp1LN0_t, pp1LN0_F, AsksL, GTree.asks, FTree.asks, FactsIn, List.append_nil, List.nil_append, List.cons_append, Option.some.injEq, exists_eq', implies_true, and_self, X.bool, X.den, denL, d_wrap, d_kind, d_not, d_neg, d_slen, d_add, d_sub, d_mul, d_div, d_mod, d_lt, d_le, d_eq, d_eqb, d_eqs, d_lts, d_cat, d_sat, d_and, d_or, denSub, denIte, asB, whos_len, whos_cell, whos_lsub, whos_lcat, whos_rep, shrs_len, shrs_cell, shrs_lsub, shrs_lcat, shrs_snocN, shrs_snoc0N, v1, v210, vs, sym10, sym21, sym110, sym111, sym112, sym113, sym114, sym115, sym116, sym117, sym118, hX, s1, sx, hlt]
      try simp
    · simp only [pp1LN0_l, EndsOk, WaysOk, forall_cons, forall_nil, TgtOk, gpair, FactsIn, hold_cons, hold_nil, Option.some.injEq, Value.bool.injEq, Value.int.injEq, decide_eq_true_eq, decide_eq_false_iff_not, and_true, true_and, and_imp, X.bool, X.den, denL, d_wrap, d_kind, d_not, d_neg, d_slen, d_add, d_sub, d_mul, d_div, d_mod, d_lt, d_le, d_eq, d_eqb, d_eqs, d_lts, d_cat, d_sat, d_and, d_or, denSub, denIte, asB, whos_len, whos_cell, whos_lsub, whos_lcat, whos_rep, shrs_len, shrs_cell, shrs_lsub, shrs_lcat, shrs_snocN, shrs_snoc0N, beq_iff_eq, beq_eq_false_iff_ne, ne_eq, v1, v210, vs, h1, hsy, sym10, sym21, sym110, sym111, sym112, sym113, sym114, sym115, sym116, sym117, sym118, hX, s1, sx, hlt]
      try simp
  · have hw : IntKind.i64.wrap ((i : Int) + 1) = ((i + 1 : Nat) : Int) := by rw [IntWalk.i64_in _ (by omega)]; rfl
    have go : ∃ vals', (ρ.ext pp1LN_D.N vals').val 210 = some (.int .i64 ((i + 1 : Nat) : Int)) ∧ pp1LN_Inv 0 vals' ∧ pp1LN_mu 0 vals' < pp1LN_mu 0 [.int .i64 i] := by
      refine ⟨[.int .i64 ((i + 1 : Nat) : Int)], ?_, ⟨rfl, i + 1, by omega, rfl⟩, ?_⟩
      · rw [ext_high _ _ _ _ (by rw [hN]; omega)]; rfl
      · simp [pp1LN_mu, vI]; omega
    have hof := hof (i : Int)
    have hofe : IntKind.i64.wrap (sumK a i + sumK xs i) = 0 := by
      have z0 : sumK [] (i : Int) = 0 := rfl
      have w0 : IntKind.i64.wrap 0 = 0 := rfl
      simpa only [z0] using hof
    refine ⟨?_, ?_⟩
    all_goals (simp only [pp1LN0_t, pp1LN0_F, pp1LN0_l, AsksL, GTree.asks, FTree.asks, FactsIn, List.append_nil, List.nil_append, List.cons_append, Option.some.injEq, exists_eq', implies_true, and_self, X.bool, X.den, denL, d_wrap, d_kind, d_not, d_neg, d_slen, d_add, d_sub, d_mul, d_div, d_mod, d_lt, d_le, d_eq, d_eqb, d_eqs, d_lts, d_cat, d_sat, d_and, d_or, denSub, denIte, asB, whos_len, whos_cell, whos_lsub, whos_lcat, whos_rep, shrs_len, shrs_cell, shrs_lsub, shrs_lcat, shrs_snocN, shrs_snoc0N, EndsOk, WaysOk, forall_cons, forall_nil, TgtOk, gpair, FactsIn, hold_cons, hold_nil, Option.some.injEq, Value.bool.injEq, Value.int.injEq, decide_eq_true_eq, decide_eq_false_iff_not, and_true, true_and, and_imp, X.bool, X.den, denL, d_wrap, d_kind, d_not, d_neg, d_slen, d_add, d_sub, d_mul, d_div, d_mod, d_lt, d_le, d_eq, d_eqb, d_eqs, d_lts, d_cat, d_sat, d_and, d_or, denSub, denIte, asB, whos_len, whos_cell, whos_lsub, whos_lcat, whos_rep, shrs_len, shrs_cell, shrs_lsub, shrs_lcat, shrs_snocN, shrs_snoc0N, beq_iff_eq, beq_eq_false_iff_ne, ne_eq, v1, v210, vs, h1, hsy, sym10, sym21, sym110, sym111, sym112, sym113, sym114, sym115, sym116, sym117, sym118, hX, s1, sx, hlt, hw, reduceCtorEq, false_implies, implies_true, true_implies, and_self, not_true_eq_false, not_false_eq_true])
    all_goals ((repeat' apply And.intro) <;> intros <;> first
      | trivial
      | (exfalso; omega)
      | (exact absurd trivial (by assumption))
      | (exact absurd hofe (by assumption))
      | (exact go)
      | (simp_all; done))

noncomputable def pp0LN_D : LoopD := { N := 210, M := 211, size := sizeOfF 14, reads := [(60, .rows 2 shrSch (.var 0) (.var 1) false 67)], pats := [{ slots := [(0, .slx 60 2 (.var 0) (.num 0) (.op1 .len (.var 1)) (.var 2)), (1, .nilslice), (5, .nilslice), (10, .sint .i64 (.var 210))], heap := [] }], exits := [(.exit 2, { slots := [], heap := [] })], own := [], pre := [(.op2 .eq (.app 110 [.var 1]) (.num 0), true), (.op2 .lt (.num 60) (.op1 .len (.var 1)), false), (.op2 .eq (.op1 .len (.app 118 [.var 1])) (.num 0), true)] }
noncomputable def pp0LN_run : Env → AF → ASt → Option (List Out) := bodyRun CQ0 6 (fun _ => noLoop) (loopAt Tryz.prog 14 1)
def pp0LN0_F : List (X × Bool) := [(.op2 .lt (.var 210) (.num 0), false)]
noncomputable def pp0LN0_t : FTree := (.fork (.op2 .lt (.num 40) (.var 210)) (.leaf [(.leave 0 [])]) (.fork (.app 21 [(.var 1)]) (.fork (.op2 .eq (.op1 (.wrap .i64) (.op2 .add (.app 116 [(.var 1), (.var 210)]) (.num 0))) (.num 0)) (.leaf [(.again 0 [])]) .bad) .bad))
noncomputable def pp0LN0_l : List (List (X × Bool) × Option (List (Tgt × Pairs))) := [([((.op2 .lt (.num 40) (.var 210)), true), ((.op2 .lt (.var 210) (.num 0)), false)], some [((.leave 0 []), [])]),
  ([((.op2 .eq (.op1 (.wrap .i64) (.op2 .add (.app 116 [(.var 1), (.var 210)]) (.num 0))) (.num 0)), true), ((.app 21 [(.var 1)]), true), ((.op2 .lt (.num 40) (.var 210)), false), ((.op2 .lt (.var 210) (.num 0)), false)], some [((.again 0 []), [((.var 210), (.op1 (.wrap .i64) (.op2 .add (.var 210) (.num 1))))])]),
  ([((.op2 .eq (.op1 (.wrap .i64) (.op2 .add (.app 116 [(.var 1), (.var 210)]) (.num 0))) (.num 0)), false), ((.app 21 [(.var 1)]), true), ((.op2 .lt (.num 40) (.var 210)), false), ((.op2 .lt (.var 210) (.num 0)), false)], none),
  ([((.app 21 [(.var 1)]), false), ((.op2 .lt (.num 40) (.var 210)), false), ((.op2 .lt (.var 210) (.num 0)), false)], none)]
theorem pp0LN0_w (r : Rho) : pp0LN_D.ways pp0LN_run E1 r 0 pp0LN0_F pp0LN0_t = some pp0LN0_l := by kernel_rfl
theorem pp0LN_ok : pp0LN_D.ok = true := by kernel_rfl
def pp0LN_Inv (j : Nat) (vals : List Value) : Prop :=
  j = 0 ∧ ∃ i : Nat, i ≤ 41 ∧ vals = [.int .i64 i]
def pp0LN_mu (_ : Nat) (vals : List Value) : Nat := 41 - (vI (vals.getD 0 default)).toNat
set_option maxHeartbeats 1000000 in
theorem pp0LN_step {ρ : Rho} {a : List Shr} (h1 : ρ.val 1 = some (shrsR a)) (hsy : ρ.sym = sy) (hca : chkS a = 0) (hcb : chkS ([] : List Shr) = 0) (hla : (a.length : Int) ≤ 60) (hlb : (([] : List Shr).length : Int) ≤ 60) (hz : (accB (accA a) ([] : List Shr)).length = 0) (j : Nat) (vals : List Value) (hI : pp0LN_Inv j vals) :
    StepOk pp0LN_D pp0LN_run E1 ρ pp0LN_Inv pp0LN_mu j vals := by
  obtain ⟨rfl, i, hi, rfl⟩ := hI
  have hN : pp0LN_D.N = 210 := rfl
  have v1 : (ρ.ext pp0LN_D.N [.int .i64 i]).val 1 = some (shrsR a) := by rw [ext_low _ _ _ _ (by rw [hN]; omega)]; exact h1
  have v210 : (ρ.ext pp0LN_D.N [.int .i64 i]).val 210 = some (.int .i64 i) := by rw [ext_high _ _ _ _ (by rw [hN]; omega)]; rfl
  have vs : (ρ.ext pp0LN_D.N [.int .i64 i]).sym = sy := hsy

  have hyx := chg_neg a ([] : List Shr)
  have hxl := chg_len (accB (accA a) ([] : List Shr))
  have hacc := acc_all hca hcb
  have hgood := (chg_good a ([] : List Shr)).1
  have hof := fun k => (of_sum hca hcb k).2
  have hle := hacc.1
  have hmx : (chgOf (accB (accA a) ([] : List Shr))).length ≤ 120 := by omega
  generalize hX : chgOf (accB (accA a) ([] : List Shr)) = xs at *
  have hx0 : xs = [] := List.eq_nil_of_length_eq_zero (by rw [hxl]; exact hz)
  have s1 : shortB a = true := len_short (by omega)
  have hF : FactsIn (ρ.ext pp0LN_D.N [.int .i64 i]) pp0LN0_F := by
    simp only [pp0LN0_F, FactsIn, X.bool, X.den, denL, d_wrap, d_kind, d_not, d_neg, d_slen, d_add, d_sub, d_mul, d_div, d_mod, d_lt, d_le, d_eq, d_eqb, d_eqs, d_lts, d_cat, d_sat, d_and, d_or, denSub, denIte, asB, whos_len, whos_cell, whos_lsub, whos_lcat, whos_rep, shrs_len, shrs_cell, shrs_lsub, shrs_lcat, shrs_snocN, shrs_snoc0N, v210, Option.some.injEq, Value.bool.injEq, decide_eq_false_iff_not, and_true]
    omega
  suffices both : AsksL (ρ.ext pp0LN_D.N [.int .i64 i]) (pp0LN0_t.asks pp0LN0_F) ∧ WaysOk pp0LN_D ρ pp0LN_Inv pp0LN_mu 0 [.int .i64 i] pp0LN0_l from step_of_ways (pp0LN0_w _) hF both.1.ok both.2
  by_cases hlt : (40 : Int) < i
  · refine ⟨?_, ?_⟩
    · simp only [pp0LN0_t, pp0LN0_F, AsksL, GTree.asks, FTree.asks, FactsIn, List.append_nil, List.nil_append, List.cons_append, Option.some.injEq, exists_eq', implies_true, and_self, X.bool, X.den, denL, d_wrap, d_kind, d_not, d_neg, d_slen, d_add, d_sub, d_mul, d_div, d_mod, d_lt, d_le, d_eq, d_eqb, d_eqs, d_lts, d_cat, d_sat, d_and, d_or, denSub, denIte, asB, whos_len, whos_cell, whos_lsub, whos_lcat, whos_rep, shrs_len, shrs_cell, shrs_lsub, shrs_lcat, shrs_snocN, shrs_snoc0N, v1, v210, vs, sym10, sym21, sym110, sym111, sym112, sym113, sym114, sym115, sym116, sym117, sym118, hX, s1, hlt]
      try simp
    · simp only [pp0LN0_l, EndsOk, WaysOk, forall_cons, forall_nil, TgtOk, gpair, FactsIn, hold_cons, hold_nil, Option.some.injEq, Value.bool.injEq, Value.int.injEq, decide_eq_true_eq, decide_eq_false_iff_not, and_true, true_and, and_imp, X.bool, X.den, denL, d_wrap, d_kind, d_not, d_neg, d_slen, d_add, d_sub, d_mul, d_div, d_mod, d_lt, d_le, d_eq, d_eqb, d_eqs, d_lts, d_cat, d_sat, d_and, d_or, denSub, denIte, asB, whos_len, whos_cell, whos_lsub, whos_lcat, whos_rep, shrs_len, shrs_cell, shrs_lsub, shrs_lcat, shrs_snocN, shrs_snoc0N, beq_iff_eq, beq_eq_false_iff_ne, ne_eq, v1, v210, vs, h1, hsy, sym10, sym21, sym110, sym111, sym112, sym113, sym114, sym115, sym116, sym117, sym118, hX, s1, hlt]
      try simp
  · have hw : IntKind.i64.wrap ((i : Int) + 1) = ((i + 1 : Nat) : Int) := by rw [IntWalk.i64_in _ (by omega)]; rfl
    have go : ∃ vals', (ρ.ext pp0LN_D.N vals').val 210 = some (.int .i64 ((i + 1 : Nat) : Int)) ∧ pp0LN_Inv 0 vals' ∧ pp0LN_mu 0 vals' < pp0LN_mu 0 [.int .i64 i] := by
      refine ⟨[.int .i64 ((i + 1 : Nat) : Int)], ?_, ⟨rfl, i + 1, by omega, rfl⟩, ?_⟩
      · rw [ext_high _ _ _ _ (by rw [hN]; omega)]; rfl
      · simp [pp0LN_mu, vI]; omega
    have hof := hof (i : Int)
    rw [hx0] at hof
    have hofe : IntKind.i64.wrap (sumK a i + 0) = 0 := by
      have z0 : sumK [] (i : Int) = 0 := rfl
      have w0 : IntKind.i64.wrap 0 = 0 := rfl
      simpa only [z0, Int.add_zero, Int.zero_add, w0] using hof
    refine ⟨?_, ?_⟩
    all_goals (simp only [pp0LN0_t, pp0LN0_F, pp0LN0_l, AsksL, GTree.asks, FTree.asks, FactsIn, List.append_nil, List.nil_append, List.cons_append, Option.some.injEq, exists_eq', implies_true, and_self, X.bool, X.den, denL, d_wrap, d_kind, d_not, d_neg, d_slen, d_add, d_sub, d_mul, d_div, d_mod, d_lt, d_le, d_eq, d_eqb, d_eqs, d_lts, d_cat, d_sat, d_and, d_or, denSub, denIte, asB, whos_len, whos_cell, whos_lsub, whos_lcat, whos_rep, shrs_len, shrs_cell, shrs_lsub, shrs_lcat, shrs_snocN, shrs_snoc0N, EndsOk, WaysOk, forall_cons, forall_nil, TgtOk, gpair, FactsIn, hold_cons, hold_nil, Option.some.injEq, Value.bool.injEq, Value.int.injEq, decide_eq_true_eq, decide_eq_false_iff_not, and_true, true_and, and_imp, X.bool, X.den, denL, d_wrap, d_kind, d_not, d_neg, d_slen, d_add, d_sub, d_mul, d_div, d_mod, d_lt, d_le, d_eq, d_eqb, d_eqs, d_lts, d_cat, d_sat, d_and, d_or, denSub, denIte, asB, whos_len, whos_cell, whos_lsub, whos_lcat, whos_rep, shrs_len, shrs_cell, shrs_lsub, shrs_lcat, shrs_snocN, shrs_snoc0N, beq_iff_eq, beq_eq_false_iff_ne, ne_eq, v1, v210, vs, h1, hsy, sym10, sym21, sym110, sym111, sym112, sym113, sym114, sym115, sym116, sym117, sym118, hX, s1, hlt, hw, reduceCtorEq, false_implies, implies_true, true_implies, and_self, not_true_eq_false, not_false_eq_true])
    all_goals ((repeat' apply And.intro) <;> intros <;> first
      | trivial
      | (exfalso; omega)
      | (exact absurd trivial (by assumption))
      | (exact absurd hofe (by assumption))
      | (exact go)
      | (simp_all; done))

noncomputable def chLN_fn : FnD := { f := 14, args := argsAV [shrsArg 60 0, .nils], heap := hRoot ++ argsBlk [shrsArg 60 0, .nils], N := 100, M := 100, out := .sbool (.boo true), news := [] }
noncomputable def chLN_call : Env → CallL := fun E => acallAll E (evH E (CQLN E) ((fun E => oneH 14 (hooks [(10, xyLN_D.hook E.facts lxy_vs), (15, orH (pp1LN_D.hook E.facts lp_vs) (pp0LN_D.hook E.facts lp_vs))])) E) 12)
noncomputable def chLN_pre : List (X × Bool) := []
noncomputable def chLN_t : GTree := (.fork (.op2 .lt (.num 60) (.op1 .len (.var 1))) (.leaf [[]]) (.fork (.op2 .eq (.app 110 [(.var 1)]) (.num 0)) (.fork (.op2 .eq (.op1 .len (.app 118 [(.var 1)])) (.num 0)) (.fork (.op2 .eq (.op1 .len (.app 117 [(.var 1)])) (.num 0)) (.leaf [[]]) (.fork (.op2 .eq (.num 0) (.op1 .len (.app 115 [(.app 117 [(.var 1)])]))) (.leaf [[]]) (.leaf [[]]))) (.fork (.op2 .eq (.op1 .len (.app 117 [(.var 1)])) (.num 0)) (.fork (.op2 .eq (.op1 .len (.app 115 [(.app 118 [(.var 1)])])) (.num 0)) (.fork (.op2 .lt (.num 0) (.op1 .len (.app 115 [(.app 118 [(.var 1)])]))) (.fork (.op2 .eq (.cell 1 (.app 115 [(.app 118 [(.var 1)])]) (.num 0)) (.num 0)) (.leaf [[]]) .bad) (.leaf [[]])) (.leaf [[]])) (.fork (.op2 .eq (.op1 .len (.app 115 [(.app 118 [(.var 1)])])) (.op1 .len (.app 115 [(.app 117 [(.var 1)])]))) (.leaf [[]]) (.leaf [[]])))) (.leaf [[]])))
noncomputable def chLN_l : List (List (X × Bool) × Option Pairs) := [([((.op2 .lt (.num 60) (.op1 .len (.var 1))), true)], some []),
  ([((.op2 .eq (.op1 .len (.app 117 [(.var 1)])) (.num 0)), true), ((.op2 .eq (.op1 .len (.app 118 [(.var 1)])) (.num 0)), true), ((.op2 .eq (.app 110 [(.var 1)]) (.num 0)), true), ((.op2 .lt (.num 60) (.op1 .len (.var 1))), false)], some []),
  ([((.op2 .eq (.num 0) (.op1 .len (.app 115 [(.app 117 [(.var 1)])]))), true), ((.op2 .eq (.op1 .len (.app 117 [(.var 1)])) (.num 0)), false), ((.op2 .eq (.op1 .len (.app 118 [(.var 1)])) (.num 0)), true), ((.op2 .eq (.app 110 [(.var 1)]) (.num 0)), true), ((.op2 .lt (.num 60) (.op1 .len (.var 1))), false)], some []),
  ([((.op2 .eq (.num 0) (.op1 .len (.app 115 [(.app 117 [(.var 1)])]))), false), ((.op2 .eq (.op1 .len (.app 117 [(.var 1)])) (.num 0)), false), ((.op2 .eq (.op1 .len (.app 118 [(.var 1)])) (.num 0)), true), ((.op2 .eq (.app 110 [(.var 1)]) (.num 0)), true), ((.op2 .lt (.num 60) (.op1 .len (.var 1))), false)], some [((.boo true), (.boo false))]),
  ([((.op2 .eq (.cell 1 (.app 115 [(.app 118 [(.var 1)])]) (.num 0)) (.num 0)), true), ((.op2 .lt (.num 0) (.op1 .len (.app 115 [(.app 118 [(.var 1)])]))), true), ((.op2 .eq (.op1 .len (.app 115 [(.app 118 [(.var 1)])])) (.num 0)), true), ((.op2 .eq (.op1 .len (.app 117 [(.var 1)])) (.num 0)), true), ((.op2 .eq (.op1 .len (.app 118 [(.var 1)])) (.num 0)), false), ((.op2 .eq (.app 110 [(.var 1)]) (.num 0)), true), ((.op2 .lt (.num 60) (.op1 .len (.var 1))), false)], some [((.boo true), (.boo false))]),
  ([((.op2 .eq (.cell 1 (.app 115 [(.app 118 [(.var 1)])]) (.num 0)) (.num 0)), false), ((.op2 .lt (.num 0) (.op1 .len (.app 115 [(.app 118 [(.var 1)])]))), true), ((.op2 .eq (.op1 .len (.app 115 [(.app 118 [(.var 1)])])) (.num 0)), true), ((.op2 .eq (.op1 .len (.app 117 [(.var 1)])) (.num 0)), true), ((.op2 .eq (.op1 .len (.app 118 [(.var 1)])) (.num 0)), false), ((.op2 .eq (.app 110 [(.var 1)]) (.num 0)), true), ((.op2 .lt (.num 60) (.op1 .len (.var 1))), false)], none),
  ([((.op2 .lt (.num 0) (.op1 .len (.app 115 [(.app 118 [(.var 1)])]))), false), ((.op2 .eq (.op1 .len (.app 115 [(.app 118 [(.var 1)])])) (.num 0)), true), ((.op2 .eq (.op1 .len (.app 117 [(.var 1)])) (.num 0)), true), ((.op2 .eq (.op1 .len (.app 118 [(.var 1)])) (.num 0)), false), ((.op2 .eq (.app 110 [(.var 1)]) (.num 0)), true), ((.op2 .lt (.num 60) (.op1 .len (.var 1))), false)], some []),
  ([((.op2 .eq (.op1 .len (.app 115 [(.app 118 [(.var 1)])])) (.num 0)), false), ((.op2 .eq (.op1 .len (.app 117 [(.var 1)])) (.num 0)), true), ((.op2 .eq (.op1 .len (.app 118 [(.var 1)])) (.num 0)), false), ((.op2 .eq (.app 110 [(.var 1)]) (.num 0)), true), ((.op2 .lt (.num 60) (.op1 .len (.var 1))), false)], some [((.boo true), (.boo false))]),
  ([((.op2 .eq (.op1 .len (.app 115 [(.app 118 [(.var 1)])])) (.op1 .len (.app 115 [(.app 117 [(.var 1)])]))), true), ((.op2 .eq (.op1 .len (.app 117 [(.var 1)])) (.num 0)), false), ((.op2 .eq (.op1 .len (.app 118 [(.var 1)])) (.num 0)), false), ((.op2 .eq (.app 110 [(.var 1)]) (.num 0)), true), ((.op2 .lt (.num 60) (.op1 .len (.var 1))), false)], some []),
  ([((.op2 .eq (.op1 .len (.app 115 [(.app 118 [(.var 1)])])) (.op1 .len (.app 115 [(.app 117 [(.var 1)])]))), false), ((.op2 .eq (.op1 .len (.app 117 [(.var 1)])) (.num 0)), false), ((.op2 .eq (.op1 .len (.app 118 [(.var 1)])) (.num 0)), false), ((.op2 .eq (.app 110 [(.var 1)]) (.num 0)), true), ((.op2 .lt (.num 60) (.op1 .len (.var 1))), false)], some [((.boo true), (.boo false))]),
  ([((.op2 .eq (.app 110 [(.var 1)]) (.num 0)), false), ((.op2 .lt (.num 60) (.op1 .len (.var 1))), false)], some [])]
theorem chLN_w (r : Rho) : chLN_fn.ways chLN_call E1 r chLN_pre chLN_t = some chLN_l := by kernel_rfl
theorem chLN_H {r : Rho} {a : List Shr} (h1 : r.val 1 = some (shrsR a)) (hsy : r.sym = sy) (F : List (X × Bool)) :
    LoopsOk (E1.with F r) (oneH 14 (hooks [(10, xyLN_D.hook (E1.with F r).facts lxy_vs), (15, orH (pp1LN_D.hook (E1.with F r).facts lp_vs) (pp0LN_D.hook (E1.with F r).facts lp_vs))])) := by
  have hcb : chkS ([] : List Shr) = 0 := rfl
  have hlb : (([] : List Shr).length : Int) ≤ 60 := by decide
  refine loops_all (n := 2) (fun f fn h => h) (by kernel_rfl) fun i hi => ?_
  have h01 : i = 0 ∨ i = 1 := by omega
  rcases h01 with rfl | rfl
  · rw [hooks_hit (show keyOf (loopAt (E1.with F r).P 14 0) = 10 by kernel_rfl)]
    exact hook_ok (E₀ := E1) (run := xyLN_run) (ρ := r) (Inv := xyLN_Inv (chgOf (accB (accA a) ([] : List Shr)))) (μ := xyLN_mu (chgOf (accB (accA a) ([] : List Shr)))) E1_ok xyLN_ok (fun F r' h => bodyRun_ok E1_ok (CQ0_ok F (h.trans hsy)) fun _ _ => noLoop_ok) (fun hp => by
        simp only [xyLN_D, FactsIn, X.bool, X.den, denL, d_wrap, d_kind, d_not, d_neg, d_slen, d_add, d_sub, d_mul, d_div, d_mod, d_lt, d_le, d_eq, d_eqb, d_eqs, d_lts, d_cat, d_sat, d_and, d_or, denSub, denIte, asB, whos_len, whos_cell, whos_lsub, whos_lcat, whos_rep, shrs_len, shrs_cell, shrs_lsub, shrs_lcat, shrs_snocN, shrs_snoc0N, h1, hsy, sym10, sym21, sym110, sym111, sym112, sym113, sym114, sym115, sym116, sym117, sym118, Option.some.injEq, Value.bool.injEq, decide_eq_false_iff_not, Int.not_lt, and_true, beq_iff_eq, beq_eq_false_iff_ne, ne_eq] at hp
        obtain ⟨hca, hla⟩ := hp
        refine ⟨xyLN_step h1 hsy hca hcb hla hlb, [.int .i64 0], ?_, rfl, 0, Nat.zero_le _, rfl⟩
        simp only [lxy_vs, lp_vs, X.bool, X.den, denL, d_wrap, d_kind, d_not, d_neg, d_slen, d_add, d_sub, d_mul, d_div, d_mod, d_lt, d_le, d_eq, d_eqb, d_eqs, d_lts, d_cat, d_sat, d_and, d_or, denSub, denIte, asB, whos_len, whos_cell, whos_lsub, whos_lcat, whos_rep, shrs_len, shrs_cell, shrs_lsub, shrs_lcat, shrs_snocN, shrs_snoc0N])
  · rw [hooks_miss (show Nat.beq (keyOf (loopAt (E1.with F r).P 14 1)) 10 = false by kernel_rfl), hooks_hit (show keyOf (loopAt (E1.with F r).P 14 1) = 15 by kernel_rfl)]
    refine orH_ok ?_ ?_
    · exact hook_ok (E₀ := E1) (run := pp1LN_run) (ρ := r) (Inv := pp1LN_Inv) (μ := pp1LN_mu) E1_ok pp1LN_ok (fun F r' h => bodyRun_ok E1_ok (CQ0_ok F (h.trans hsy)) fun _ _ => noLoop_ok) (fun hp => by
        simp only [pp1LN_D, FactsIn, X.bool, X.den, denL, d_wrap, d_kind, d_not, d_neg, d_slen, d_add, d_sub, d_mul, d_div, d_mod, d_lt, d_le, d_eq, d_eqb, d_eqs, d_lts, d_cat, d_sat, d_and, d_or, denSub, denIte, asB, whos_len, whos_cell, whos_lsub, whos_lcat, whos_rep, shrs_len, shrs_cell, shrs_lsub, shrs_lcat, shrs_snocN, shrs_snoc0N, h1, hsy, sym10, sym21, sym110, sym111, sym112, sym113, sym114, sym115, sym116, sym117, sym118, Option.some.injEq, Value.bool.injEq, decide_eq_false_iff_not, Int.not_lt, and_true, beq_iff_eq, beq_eq_false_iff_ne, ne_eq] at hp
        obtain ⟨hca, hla⟩ := hp
        refine ⟨pp1LN_step h1 hsy hca hcb hla hlb, [.int .i64 0], ?_, rfl, 0, Nat.zero_le _, rfl⟩
        simp only [lxy_vs, lp_vs, X.bool, X.den, denL, d_wrap, d_kind, d_not, d_neg, d_slen, d_add, d_sub, d_mul, d_div, d_mod, d_lt, d_le, d_eq, d_eqb, d_eqs, d_lts, d_cat, d_sat, d_and, d_or, denSub, denIte, asB, whos_len, whos_cell, whos_lsub, whos_lcat, whos_rep, shrs_len, shrs_cell, shrs_lsub, shrs_lcat, shrs_snocN, shrs_snoc0N])
    · exact hook_ok (E₀ := E1) (run := pp0LN_run) (ρ := r) (Inv := pp0LN_Inv) (μ := pp0LN_mu) E1_ok pp0LN_ok (fun F r' h => bodyRun_ok E1_ok (CQ0_ok F (h.trans hsy)) fun _ _ => noLoop_ok) (fun hp => by
        simp only [pp0LN_D, FactsIn, X.bool, X.den, denL, d_wrap, d_kind, d_not, d_neg, d_slen, d_add, d_sub, d_mul, d_div, d_mod, d_lt, d_le, d_eq, d_eqb, d_eqs, d_lts, d_cat, d_sat, d_and, d_or, denSub, denIte, asB, whos_len, whos_cell, whos_lsub, whos_lcat, whos_rep, shrs_len, shrs_cell, shrs_lsub, shrs_lcat, shrs_snocN, shrs_snoc0N, h1, hsy, sym10, sym21, sym110, sym111, sym112, sym113, sym114, sym115, sym116, sym117, sym118, Option.some.injEq, Value.bool.injEq, decide_eq_false_iff_not, Int.not_lt, and_true, beq_iff_eq, beq_eq_false_iff_ne, ne_eq] at hp
        obtain ⟨hca, hla, hz⟩ := hp
        refine ⟨pp0LN_step h1 hsy hca hcb hla hlb (by omega), [.int .i64 0], ?_, rfl, 0, Nat.zero_le _, rfl⟩
        simp only [lxy_vs, lp_vs, X.bool, X.den, denL, d_wrap, d_kind, d_not, d_neg, d_slen, d_add, d_sub, d_mul, d_div, d_mod, d_lt, d_le, d_eq, d_eqb, d_eqs, d_lts, d_cat, d_sat, d_and, d_or, denSub, denIte, asB, whos_len, whos_cell, whos_lsub, whos_lcat, whos_rep, shrs_len, shrs_cell, shrs_lsub, shrs_lcat, shrs_snocN, shrs_snoc0N])
theorem chLN_60 : (buildH chLN_fn.heap).get 60 = some (.rows 2 shrSch (.var 0) (.var 1) false 67) := by kernel_rfl
theorem chLN_out (σ : Sig) : chLN_fn.out.inst σ = some (.bool true) := rfl
set_option maxHeartbeats 2000000 in
theorem chLN_true {r : Rho} {σ : Sig} {w : World} {us : List Value} (hsy : r.sym = sy) (hρ : σ.rho = r) (hA : ∀ g id, E1.glob g = some id → ∃ κ, σ id = some (g, κ)) (hrel : (memOf chLN_fn.heap 100).rel Tryz.prog σ w (fun b => w.heap.size ≤ b)) (hins : Ins σ chLN_fn.args us) :
    Calls Tryz.prog 14 us.toArray w fun e w' => e = .returned (.bool true) ∧ Kept (fun b => w.heap.size ≤ b) w w' := by
  obtain ⟨a, h1⟩ := shrs_at hrel (i := 60) chLN_60
  rw [hρ] at h1
  have h1 : r.val 1 = some (shrsR a) := h1
  have hl2 := chg_len2 a ([] : List Shr)
  have hxl := chg_len (accB (accA a) ([] : List Shr))
  have hyl := chg_len (accB (accA ([] : List Shr)) a)
  refine law_of (E := E1) (D := chLN_fn) E1_ok (fun F => CQLN_ok F hsy) (fun F => chLN_H h1 hsy F) (chLN_w r) hρ hA trivial hrel hins ?_ ?_ chLN_out
  · simp only [chLN_pre, chLN_t, AsksL, GTree.asks, FTree.asks, FactsIn, List.append_nil, List.nil_append, List.cons_append, Option.some.injEq, exists_eq', implies_true, and_self, X.bool, X.den, denL, d_wrap, d_kind, d_not, d_neg, d_slen, d_add, d_sub, d_mul, d_div, d_mod, d_lt, d_le, d_eq, d_eqb, d_eqs, d_lts, d_cat, d_sat, d_and, d_or, denSub, denIte, asB, whos_len, whos_cell, whos_lsub, whos_lcat, whos_rep, shrs_len, shrs_cell, shrs_lsub, shrs_lcat, shrs_snocN, shrs_snoc0N, beq_iff_eq, beq_eq_false_iff_ne, ne_eq, h1, hsy, sym10, sym21, sym110, sym111, sym112, sym113, sym114, sym115, sym116, sym117, sym118, hxl, hyl, hl2, decide_eq_true_eq, decide_eq_false_iff_not, Value.bool.injEq, beq_self_eq_true]
    (repeat' apply And.intro) <;> intros <;> first
      | trivial
      | (exfalso; omega)
      | (exfalso; simp_all; done)
      | (exfalso; simp_all; omega)
      | (simp_all; done)
  · simp only [chLN_l, EndsOk, WaysOk, forall_cons, forall_nil, TgtOk, gpair, FactsIn, hold_cons, hold_nil, Option.some.injEq, Value.bool.injEq, Value.int.injEq, decide_eq_true_eq, decide_eq_false_iff_not, and_true, true_and, and_imp, X.bool, X.den, denL, d_wrap, d_kind, d_not, d_neg, d_slen, d_add, d_sub, d_mul, d_div, d_mod, d_lt, d_le, d_eq, d_eqb, d_eqs, d_lts, d_cat, d_sat, d_and, d_or, denSub, denIte, asB, whos_len, whos_cell, whos_lsub, whos_lcat, whos_rep, shrs_len, shrs_cell, shrs_lsub, shrs_lcat, shrs_snocN, shrs_snoc0N, beq_iff_eq, beq_eq_false_iff_ne, ne_eq, h1, hsy, sym10, sym21, sym110, sym111, sym112, sym113, sym114, sym115, sym116, sym117, sym118, hxl, hyl, hl2]
    clear hsy hρ hA hrel hins h1
    (repeat' apply And.intro) <;> intros <;> first
      | trivial
      | (exfalso; omega)
      | (simp_all; done)
      | (exfalso; simp_all; omega)

noncomputable def xyNL_D : LoopD := { N := 200, M := 201, size := sizeOfF 14, reads := [(100, .rows 2 shrSch (.num 0) (.app 115 [.app 117 [.var 4]]) true 67), (101, .rows 2 shrSch (.num 0) (.app 115 [.app 118 [.var 4]]) true 67)], pats := [{ slots := [(0, .nilslice), (1, .slx 61 2 (.var 3) (.num 0) (.op1 .len (.var 4)) (.var 5)), (5, .slo 100 2 (.op1 .len (.app 115 [.app 117 [.var 4]]))), (7, .slo 101 2 (.op1 .len (.app 115 [.app 118 [.var 4]]))), (9, .sint .i64 (.var 200))], heap := [] }], exits := [(.exit 0, { slots := [(0, .nilslice), (1, .slx 61 2 (.var 3) (.num 0) (.op1 .len (.var 4)) (.var 5)), (5, .slo 100 2 (.op1 .len (.app 115 [.app 117 [.var 4]])))], heap := [] })], own := [], pre := [(.op2 .eq (.app 110 [.var 4]) (.num 0), true), (.op2 .lt (.num 60) (.op1 .len (.var 4)), false)] }
noncomputable def xyNL_run : Env → AF → ASt → Option (List Out) := bodyRun CQ0 6 (fun _ => noLoop) (loopAt Tryz.prog 14 0)
def xyNL0_F : List (X × Bool) := [(.op2 .lt (.var 200) (.num 0), false)]
noncomputable def xyNL0_t : FTree := (.fork (.op2 .lt (.var 200) (.op1 .len (.app 115 [(.app 117 [(.var 4)])]))) (.fork (.op2 .eq (.cell 1 (.app 115 [(.app 117 [(.var 4)])]) (.var 200)) (.num 0)) .bad (.fork (.op2 .lt (.var 200) (.op1 .len (.app 115 [(.app 118 [(.var 4)])]))) (.fork (.op2 .eq (.cell 0 (.app 115 [(.app 118 [(.var 4)])]) (.var 200)) (.cell 0 (.app 115 [(.app 117 [(.var 4)])]) (.var 200))) (.fork (.op2 .eq (.cell 1 (.app 115 [(.app 118 [(.var 4)])]) (.var 200)) (.op1 (.wrap .i64) (.op2 .sub (.num 0) (.cell 1 (.app 115 [(.app 117 [(.var 4)])]) (.var 200))))) (.leaf [(.again 0 [])]) .bad) .bad) .bad)) (.leaf [(.leave 0 [])]))
noncomputable def xyNL0_l : List (List (X × Bool) × Option (List (Tgt × Pairs))) := [([((.op2 .eq (.cell 1 (.app 115 [(.app 117 [(.var 4)])]) (.var 200)) (.num 0)), true), ((.op2 .lt (.var 200) (.op1 .len (.app 115 [(.app 117 [(.var 4)])]))), true), ((.op2 .lt (.var 200) (.num 0)), false)], none),
  ([((.op2 .eq (.cell 1 (.app 115 [(.app 118 [(.var 4)])]) (.var 200)) (.op1 (.wrap .i64) (.op2 .sub (.num 0) (.cell 1 (.app 115 [(.app 117 [(.var 4)])]) (.var 200))))), true), ((.op2 .eq (.cell 0 (.app 115 [(.app 118 [(.var 4)])]) (.var 200)) (.cell 0 (.app 115 [(.app 117 [(.var 4)])]) (.var 200))), true), ((.op2 .lt (.var 200) (.op1 .len (.app 115 [(.app 118 [(.var 4)])]))), true), ((.op2 .eq (.cell 1 (.app 115 [(.app 117 [(.var 4)])]) (.var 200)) (.num 0)), false), ((.op2 .lt (.var 200) (.op1 .len (.app 115 [(.app 117 [(.var 4)])]))), true), ((.op2 .lt (.var 200) (.num 0)), false)], some [((.again 0 []), [((.var 200), (.op1 (.wrap .i64) (.op2 .add (.var 200) (.num 1))))])]),
  ([((.op2 .eq (.cell 1 (.app 115 [(.app 118 [(.var 4)])]) (.var 200)) (.op1 (.wrap .i64) (.op2 .sub (.num 0) (.cell 1 (.app 115 [(.app 117 [(.var 4)])]) (.var 200))))), false), ((.op2 .eq (.cell 0 (.app 115 [(.app 118 [(.var 4)])]) (.var 200)) (.cell 0 (.app 115 [(.app 117 [(.var 4)])]) (.var 200))), true), ((.op2 .lt (.var 200) (.op1 .len (.app 115 [(.app 118 [(.var 4)])]))), true), ((.op2 .eq (.cell 1 (.app 115 [(.app 117 [(.var 4)])]) (.var 200)) (.num 0)), false), ((.op2 .lt (.var 200) (.op1 .len (.app 115 [(.app 117 [(.var 4)])]))), true), ((.op2 .lt (.var 200) (.num 0)), false)], none),
  ([((.op2 .eq (.cell 0 (.app 115 [(.app 118 [(.var 4)])]) (.var 200)) (.cell 0 (.app 115 [(.app 117 [(.var 4)])]) (.var 200))), false), ((.op2 .lt (.var 200) (.op1 .len (.app 115 [(.app 118 [(.var 4)])]))), true), ((.op2 .eq (.cell 1 (.app 115 [(.app 117 [(.var 4)])]) (.var 200)) (.num 0)), false), ((.op2 .lt (.var 200) (.op1 .len (.app 115 [(.app 117 [(.var 4)])]))), true), ((.op2 .lt (.var 200) (.num 0)), false)], none),
  ([((.op2 .lt (.var 200) (.op1 .len (.app 115 [(.app 118 [(.var 4)])]))), false), ((.op2 .eq (.cell 1 (.app 115 [(.app 117 [(.var 4)])]) (.var 200)) (.num 0)), false), ((.op2 .lt (.var 200) (.op1 .len (.app 115 [(.app 117 [(.var 4)])]))), true), ((.op2 .lt (.var 200) (.num 0)), false)], none),
  ([((.op2 .lt (.var 200) (.op1 .len (.app 115 [(.app 117 [(.var 4)])]))), false), ((.op2 .lt (.var 200) (.num 0)), false)], some [((.leave 0 []), [])])]
theorem xyNL0_w (r : Rho) : xyNL_D.ways xyNL_run E1 r 0 xyNL0_F xyNL0_t = some xyNL0_l := by kernel_rfl
theorem xyNL_ok : xyNL_D.ok = true := by kernel_rfl
def xyNL_Inv (xs : List Shr) (j : Nat) (vals : List Value) : Prop :=
  j = 0 ∧ ∃ i : Nat, i ≤ xs.length ∧ vals = [.int .i64 i]
def xyNL_mu (xs : List Shr) (_ : Nat) (vals : List Value) : Nat := xs.length - (vI (vals.getD 0 default)).toNat
set_option maxHeartbeats 1000000 in
theorem xyNL_step {ρ : Rho} {b : List Shr} (h4 : ρ.val 4 = some (shrsR b)) (hsy : ρ.sym = sy) (hca : chkS ([] : List Shr) = 0) (hcb : chkS b = 0) (hla : (([] : List Shr).length : Int) ≤ 60) (hlb : (b.length : Int) ≤ 60) (j : Nat) (vals : List Value) (hI : xyNL_Inv (chgOf (accB (accA ([] : List Shr)) b)) j vals) :
    StepOk xyNL_D xyNL_run E1 ρ (xyNL_Inv (chgOf (accB (accA ([] : List Shr)) b))) (xyNL_mu (chgOf (accB (accA ([] : List Shr)) b))) j vals := by
  obtain ⟨rfl, i, hi, rfl⟩ := hI
  have hN : xyNL_D.N = 200 := rfl
  have v4 : (ρ.ext xyNL_D.N [.int .i64 i]).val 4 = some (shrsR b) := by rw [ext_low _ _ _ _ (by rw [hN]; omega)]; exact h4
  have v200 : (ρ.ext xyNL_D.N [.int .i64 i]).val 200 = some (.int .i64 i) := by rw [ext_high _ _ _ _ (by rw [hN]; omega)]; rfl
  have vs : (ρ.ext xyNL_D.N [.int .i64 i]).sym = sy := hsy

  have hyx := chg_neg ([] : List Shr) b
  have hxl := chg_len (accB (accA ([] : List Shr)) b)
  have hacc := acc_all hca hcb
  have hgood := (chg_good ([] : List Shr) b).1
  have hof := fun k => (of_sum hca hcb k).2
  have hle := hacc.1
  have hmx : (chgOf (accB (accA ([] : List Shr)) b)).length ≤ 120 := by omega
  have hmem := fun x (hx : x ∈ chgOf (accB (accA ([] : List Shr)) b)) => And.intro (chg_mem hgood hx).1 (by have h1 := (chg_mem hgood hx).2; have h2 := acc_at hacc x.party; omega : -2000000000000 ≤ x.pence ∧ x.pence ≤ 2000000000000)
  generalize hX : chgOf (accB (accA ([] : List Shr)) b) = xs at *
  generalize hY : chgOf (accB (accA b) ([] : List Shr)) = ys at *
  have hyl : ys.length = xs.length := by rw [hyx, List.length_map]
  have hF : FactsIn (ρ.ext xyNL_D.N [.int .i64 i]) xyNL0_F := by
    simp only [xyNL0_F, FactsIn, X.bool, X.den, denL, d_wrap, d_kind, d_not, d_neg, d_slen, d_add, d_sub, d_mul, d_div, d_mod, d_lt, d_le, d_eq, d_eqb, d_eqs, d_lts, d_cat, d_sat, d_and, d_or, denSub, denIte, asB, whos_len, whos_cell, whos_lsub, whos_lcat, whos_rep, shrs_len, shrs_cell, shrs_lsub, shrs_lcat, shrs_snocN, shrs_snoc0N, v200, Option.some.injEq, Value.bool.injEq, decide_eq_false_iff_not, and_true]
    omega
  suffices both : AsksL (ρ.ext xyNL_D.N [.int .i64 i]) (xyNL0_t.asks xyNL0_F) ∧ WaysOk xyNL_D ρ (xyNL_Inv xs) (xyNL_mu xs) 0 [.int .i64 i] xyNL0_l from step_of_ways (xyNL0_w _) hF both.1.ok both.2
  cases hp : xs[i]? with
  | none =>
    have hge := List.getElem?_eq_none_iff.1 hp
    have hge' : ¬ (i : Int) < xs.length := by omega
    have hq : ys[i]? = none := List.getElem?_eq_none_iff.2 (by omega)
    refine ⟨?_, ?_⟩
    · simp only [xyNL0_t, xyNL0_F, AsksL, GTree.asks, FTree.asks, FactsIn, List.append_nil, List.nil_append, List.cons_append, Option.some.injEq, exists_eq', implies_true, and_self, X.bool, X.den, denL, d_wrap, d_kind, d_not, d_neg, d_slen, d_add, d_sub, d_mul, d_div, d_mod, d_lt, d_le, d_eq, d_eqb, d_eqs, d_lts, d_cat, d_sat, d_and, d_or, denSub, denIte, asB, whos_len, whos_cell, whos_lsub, whos_lcat, whos_rep, shrs_len, shrs_cell, shrs_lsub, shrs_lcat, shrs_snocN, shrs_snoc0N, v4, v200, vs, sym10, sym21, sym110, sym111, sym112, sym113, sym114, sym115, sym116, sym117, sym118, hX, hY, hyl, Int.toNat_natCast, hp, hq, hge']
      try simp
    · simp only [xyNL0_l, EndsOk, WaysOk, forall_cons, forall_nil, TgtOk, gpair, FactsIn, hold_cons, hold_nil, Option.some.injEq, Value.bool.injEq, Value.int.injEq, decide_eq_true_eq, decide_eq_false_iff_not, and_true, true_and, and_imp, X.bool, X.den, denL, d_wrap, d_kind, d_not, d_neg, d_slen, d_add, d_sub, d_mul, d_div, d_mod, d_lt, d_le, d_eq, d_eqb, d_eqs, d_lts, d_cat, d_sat, d_and, d_or, denSub, denIte, asB, whos_len, whos_cell, whos_lsub, whos_lcat, whos_rep, shrs_len, shrs_cell, shrs_lsub, shrs_lcat, shrs_snocN, shrs_snoc0N, beq_iff_eq, beq_eq_false_iff_ne, ne_eq, v4, v200, vs, h4, hsy, sym10, sym21, sym110, sym111, sym112, sym113, sym114, sym115, sym116, sym117, sym118, hX, hY, hyl, Int.toNat_natCast, hp, hq, hge']
      try simp
  | some p =>
    have hlt : i < xs.length := (List.getElem?_eq_some_iff.1 hp).1
    have hlt1 : (i : Int) < xs.length := by omega
    have hq : ys[i]? = some ⟨p.party, -p.pence⟩ := by rw [hyx, List.getElem?_map, hp]; rfl
    obtain ⟨hnz, hb1, hb2⟩ := hmem p (List.mem_of_getElem? hp)
    have hw : IntKind.i64.wrap ((i : Int) + 1) = ((i + 1 : Nat) : Int) := by rw [IntWalk.i64_in _ (by omega)]; rfl
    have w1 : IntKind.i64.wrap (0 - p.pence) = -p.pence := by rw [IntWalk.i64_in _ (by omega)]; omega
    have go : ∃ vals', (ρ.ext xyNL_D.N vals').val 200 = some (.int .i64 ((i + 1 : Nat) : Int)) ∧ xyNL_Inv xs 0 vals' ∧ xyNL_mu xs 0 vals' < xyNL_mu xs 0 [.int .i64 i] := by
      refine ⟨[.int .i64 ((i + 1 : Nat) : Int)], ?_, ⟨rfl, i + 1, by omega, rfl⟩, ?_⟩
      · rw [ext_high _ _ _ _ (by rw [hN]; omega)]; rfl
      · simp [xyNL_mu, vI]; omega
    refine ⟨?_, ?_⟩
    all_goals (simp only [xyNL0_t, xyNL0_F, xyNL0_l, AsksL, GTree.asks, FTree.asks, FactsIn, List.append_nil, List.nil_append, List.cons_append, Option.some.injEq, exists_eq', implies_true, and_self, X.bool, X.den, denL, d_wrap, d_kind, d_not, d_neg, d_slen, d_add, d_sub, d_mul, d_div, d_mod, d_lt, d_le, d_eq, d_eqb, d_eqs, d_lts, d_cat, d_sat, d_and, d_or, denSub, denIte, asB, whos_len, whos_cell, whos_lsub, whos_lcat, whos_rep, shrs_len, shrs_cell, shrs_lsub, shrs_lcat, shrs_snocN, shrs_snoc0N, EndsOk, WaysOk, forall_cons, forall_nil, TgtOk, gpair, FactsIn, hold_cons, hold_nil, Option.some.injEq, Value.bool.injEq, Value.int.injEq, decide_eq_true_eq, decide_eq_false_iff_not, and_true, true_and, and_imp, X.bool, X.den, denL, d_wrap, d_kind, d_not, d_neg, d_slen, d_add, d_sub, d_mul, d_div, d_mod, d_lt, d_le, d_eq, d_eqb, d_eqs, d_lts, d_cat, d_sat, d_and, d_or, denSub, denIte, asB, whos_len, whos_cell, whos_lsub, whos_lcat, whos_rep, shrs_len, shrs_cell, shrs_lsub, shrs_lcat, shrs_snocN, shrs_snoc0N, beq_iff_eq, beq_eq_false_iff_ne, ne_eq, v4, v200, vs, h4, hsy, sym10, sym21, sym110, sym111, sym112, sym113, sym114, sym115, sym116, sym117, sym118, hX, hY, hyl, Int.toNat_natCast, hp, hq, Option.bind_some, shr0, shr1, hlt1, hw, w1, hnz, reduceCtorEq, false_implies, implies_true, true_implies, and_self, not_true_eq_false, not_false_eq_true])
    all_goals ((repeat' apply And.intro) <;> intros <;> first
      | trivial
      | (exfalso; omega)
      | (exact absurd trivial (by assumption))
      | (exact absurd (by assumption) hnz)
      | (exact go))

noncomputable def pp1NL_D : LoopD := { N := 210, M := 211, size := sizeOfF 14, reads := [(61, .rows 2 shrSch (.var 3) (.var 4) false 67), (100, .rows 2 shrSch (.num 0) (.app 115 [.app 117 [.var 4]]) true 67)], pats := [{ slots := [(0, .nilslice), (1, .slx 61 2 (.var 3) (.num 0) (.op1 .len (.var 4)) (.var 5)), (5, .slo 100 2 (.op1 .len (.app 115 [.app 117 [.var 4]]))), (10, .sint .i64 (.var 210))], heap := [] }], exits := [(.exit 2, { slots := [], heap := [] })], own := [], pre := [(.op2 .eq (.app 110 [.var 4]) (.num 0), true), (.op2 .lt (.num 60) (.op1 .len (.var 4)), false)] }
noncomputable def pp1NL_run : Env → AF → ASt → Option (List Out) := bodyRun CQ0 6 (fun _ => noLoop) (loopAt Tryz.prog 14 1)
def pp1NL0_F : List (X × Bool) := [(.op2 .lt (.var 210) (.num 0), false)]
noncomputable def pp1NL0_t : FTree := (.fork (.op2 .lt (.num 40) (.var 210)) (.leaf [(.leave 0 [])]) (.fork (.app 21 [(.app 115 [(.app 117 [(.var 4)])])]) (.fork (.app 21 [(.var 4)]) (.fork (.op2 .eq (.op1 (.wrap .i64) (.op2 .add (.num 0) (.app 116 [(.app 115 [(.app 117 [(.var 4)])]), (.var 210)]))) (.app 116 [(.var 4), (.var 210)])) (.leaf [(.again 0 [])]) .bad) .bad) .bad))
noncomputable def pp1NL0_l : List (List (X × Bool) × Option (List (Tgt × Pairs))) := [([((.op2 .lt (.num 40) (.var 210)), true), ((.op2 .lt (.var 210) (.num 0)), false)], some [((.leave 0 []), [])]),
  ([((.op2 .eq (.op1 (.wrap .i64) (.op2 .add (.num 0) (.app 116 [(.app 115 [(.app 117 [(.var 4)])]), (.var 210)]))) (.app 116 [(.var 4), (.var 210)])), true), ((.app 21 [(.var 4)]), true), ((.app 21 [(.app 115 [(.app 117 [(.var 4)])])]), true), ((.op2 .lt (.num 40) (.var 210)), false), ((.op2 .lt (.var 210) (.num 0)), false)], some [((.again 0 []), [((.var 210), (.op1 (.wrap .i64) (.op2 .add (.var 210) (.num 1))))])]),
  ([((.op2 .eq (.op1 (.wrap .i64) (.op2 .add (.num 0) (.app 116 [(.app 115 [(.app 117 [(.var 4)])]), (.var 210)]))) (.app 116 [(.var 4), (.var 210)])), false), ((.app 21 [(.var 4)]), true), ((.app 21 [(.app 115 [(.app 117 [(.var 4)])])]), true), ((.op2 .lt (.num 40) (.var 210)), false), ((.op2 .lt (.var 210) (.num 0)), false)], none),
  ([((.app 21 [(.var 4)]), false), ((.app 21 [(.app 115 [(.app 117 [(.var 4)])])]), true), ((.op2 .lt (.num 40) (.var 210)), false), ((.op2 .lt (.var 210) (.num 0)), false)], none),
  ([((.app 21 [(.app 115 [(.app 117 [(.var 4)])])]), false), ((.op2 .lt (.num 40) (.var 210)), false), ((.op2 .lt (.var 210) (.num 0)), false)], none)]
theorem pp1NL0_w (r : Rho) : pp1NL_D.ways pp1NL_run E1 r 0 pp1NL0_F pp1NL0_t = some pp1NL0_l := by kernel_rfl
theorem pp1NL_ok : pp1NL_D.ok = true := by kernel_rfl
def pp1NL_Inv (j : Nat) (vals : List Value) : Prop :=
  j = 0 ∧ ∃ i : Nat, i ≤ 41 ∧ vals = [.int .i64 i]
def pp1NL_mu (_ : Nat) (vals : List Value) : Nat := 41 - (vI (vals.getD 0 default)).toNat
set_option maxHeartbeats 1000000 in
theorem pp1NL_step {ρ : Rho} {b : List Shr} (h4 : ρ.val 4 = some (shrsR b)) (hsy : ρ.sym = sy) (hca : chkS ([] : List Shr) = 0) (hcb : chkS b = 0) (hla : (([] : List Shr).length : Int) ≤ 60) (hlb : (b.length : Int) ≤ 60) (j : Nat) (vals : List Value) (hI : pp1NL_Inv j vals) :
    StepOk pp1NL_D pp1NL_run E1 ρ pp1NL_Inv pp1NL_mu j vals := by
  obtain ⟨rfl, i, hi, rfl⟩ := hI
  have hN : pp1NL_D.N = 210 := rfl
  have v4 : (ρ.ext pp1NL_D.N [.int .i64 i]).val 4 = some (shrsR b) := by rw [ext_low _ _ _ _ (by rw [hN]; omega)]; exact h4
  have v210 : (ρ.ext pp1NL_D.N [.int .i64 i]).val 210 = some (.int .i64 i) := by rw [ext_high _ _ _ _ (by rw [hN]; omega)]; rfl
  have vs : (ρ.ext pp1NL_D.N [.int .i64 i]).sym = sy := hsy

  have hyx := chg_neg ([] : List Shr) b
  have hxl := chg_len (accB (accA ([] : List Shr)) b)
  have hacc := acc_all hca hcb
  have hgood := (chg_good ([] : List Shr) b).1
  have hof := fun k => (of_sum hca hcb k).2
  have hle := hacc.1
  have hmx : (chgOf (accB (accA ([] : List Shr)) b)).length ≤ 120 := by omega
  generalize hX : chgOf (accB (accA ([] : List Shr)) b) = xs at *
  have s4 : shortB b = true := len_short (by omega)
  have sx : shortB xs = true := len_short (by omega)
  have hF : FactsIn (ρ.ext pp1NL_D.N [.int .i64 i]) pp1NL0_F := by
    simp only [pp1NL0_F, FactsIn, X.bool, X.den, denL, d_wrap, d_kind, d_not, d_neg, d_slen, d_add, d_sub, d_mul, d_div, d_mod, d_lt, d_le, d_eq, d_eqb, d_eqs, d_lts, d_cat, d_sat, d_and, d_or, denSub, denIte, asB, whos_len, whos_cell, whos_lsub, whos_lcat, whos_rep, shrs_len, shrs_cell, shrs_lsub, shrs_lcat, shrs_snocN, shrs_snoc0N, v210, Option.some.injEq, Value.bool.injEq, decide_eq_false_iff_not, and_true]
    omega
  suffices both : AsksL (ρ.ext pp1NL_D.N [.int .i64 i]) (pp1NL0_t.asks pp1NL0_F) ∧ WaysOk pp1NL_D ρ pp1NL_Inv pp1NL_mu 0 [.int .i64 i] pp1NL0_l from step_of_ways (pp1NL0_w _) hF both.1.ok both.2
  by_cases hlt : (40 : Int) < i
  · refine ⟨?_, ?_⟩
    · simp only [pp1NL0_t, pp1NL0_F, AsksL, GTree.asks, FTree.asks, FactsIn, List.append_nil, List.nil_append, List.cons_append, Option.some.injEq, exists_eq', implies_true, and_self, X.bool, X.den, denL, d_wrap, d_kind, d_not, d_neg, d_slen, d_add, d_sub, d_mul, d_div, d_mod, d_lt, d_le, d_eq, d_eqb, d_eqs, d_lts, d_cat, d_sat, d_and, d_or, denSub, denIte, asB, whos_len, whos_cell, whos_lsub, whos_lcat, whos_rep, shrs_len, shrs_cell, shrs_lsub, shrs_lcat, shrs_snocN, shrs_snoc0N, v4, v210, vs, sym10, sym21, sym110, sym111, sym112, sym113, sym114, sym115, sym116, sym117, sym118, hX, s4, sx, hlt]
      try simp
    · simp only [pp1NL0_l, EndsOk, WaysOk, forall_cons, forall_nil, TgtOk, gpair, FactsIn, hold_cons, hold_nil, Option.some.injEq, Value.bool.injEq, Value.int.injEq, decide_eq_true_eq, decide_eq_false_iff_not, and_true, true_and, and_imp, X.bool, X.den, denL, d_wrap, d_kind, d_not, d_neg, d_slen, d_add, d_sub, d_mul, d_div, d_mod, d_lt, d_le, d_eq, d_eqb, d_eqs, d_lts, d_cat, d_sat, d_and, d_or, denSub, denIte, asB, whos_len, whos_cell, whos_lsub, whos_lcat, whos_rep, shrs_len, shrs_cell, shrs_lsub, shrs_lcat, shrs_snocN, shrs_snoc0N, beq_iff_eq, beq_eq_false_iff_ne, ne_eq, v4, v210, vs, h4, hsy, sym10, sym21, sym110, sym111, sym112, sym113, sym114, sym115, sym116, sym117, sym118, hX, s4, sx, hlt]
      try simp
  · have hw : IntKind.i64.wrap ((i : Int) + 1) = ((i + 1 : Nat) : Int) := by rw [IntWalk.i64_in _ (by omega)]; rfl
    have go : ∃ vals', (ρ.ext pp1NL_D.N vals').val 210 = some (.int .i64 ((i + 1 : Nat) : Int)) ∧ pp1NL_Inv 0 vals' ∧ pp1NL_mu 0 vals' < pp1NL_mu 0 [.int .i64 i] := by
      refine ⟨[.int .i64 ((i + 1 : Nat) : Int)], ?_, ⟨rfl, i + 1, by omega, rfl⟩, ?_⟩
      · rw [ext_high _ _ _ _ (by rw [hN]; omega)]; rfl
      · simp [pp1NL_mu, vI]; omega
    have hof := hof (i : Int)
    have hofe : IntKind.i64.wrap (0 + sumK xs i) = sumK b i := by
      have z0 : sumK [] (i : Int) = 0 := rfl
      have w0 : IntKind.i64.wrap 0 = 0 := rfl
      simpa only [z0] using hof
    refine ⟨?_, ?_⟩
    all_goals (simp only [pp1NL0_t, pp1NL0_F, pp1NL0_l, AsksL, GTree.asks, FTree.asks, FactsIn, List.append_nil, List.nil_append, List.cons_append, Option.some.injEq, exists_eq', implies_true, and_self, X.bool, X.den, denL, d_wrap, d_kind, d_not, d_neg, d_slen, d_add, d_sub, d_mul, d_div, d_mod, d_lt, d_le, d_eq, d_eqb, d_eqs, d_lts, d_cat, d_sat, d_and, d_or, denSub, denIte, asB, whos_len, whos_cell, whos_lsub, whos_lcat, whos_rep, shrs_len, shrs_cell, shrs_lsub, shrs_lcat, shrs_snocN, shrs_snoc0N, EndsOk, WaysOk, forall_cons, forall_nil, TgtOk, gpair, FactsIn, hold_cons, hold_nil, Option.some.injEq, Value.bool.injEq, Value.int.injEq, decide_eq_true_eq, decide_eq_false_iff_not, and_true, true_and, and_imp, X.bool, X.den, denL, d_wrap, d_kind, d_not, d_neg, d_slen, d_add, d_sub, d_mul, d_div, d_mod, d_lt, d_le, d_eq, d_eqb, d_eqs, d_lts, d_cat, d_sat, d_and, d_or, denSub, denIte, asB, whos_len, whos_cell, whos_lsub, whos_lcat, whos_rep, shrs_len, shrs_cell, shrs_lsub, shrs_lcat, shrs_snocN, shrs_snoc0N, beq_iff_eq, beq_eq_false_iff_ne, ne_eq, v4, v210, vs, h4, hsy, sym10, sym21, sym110, sym111, sym112, sym113, sym114, sym115, sym116, sym117, sym118, hX, s4, sx, hlt, hw, reduceCtorEq, false_implies, implies_true, true_implies, and_self, not_true_eq_false, not_false_eq_true])
    all_goals ((repeat' apply And.intro) <;> intros <;> first
      | trivial
      | (exfalso; omega)
      | (exact absurd trivial (by assumption))
      | (exact absurd hofe (by assumption))
      | (exact go)
      | (simp_all; done))

noncomputable def pp0NL_D : LoopD := { N := 210, M := 211, size := sizeOfF 14, reads := [(61, .rows 2 shrSch (.var 3) (.var 4) false 67)], pats := [{ slots := [(0, .nilslice), (1, .slx 61 2 (.var 3) (.num 0) (.op1 .len (.var 4)) (.var 5)), (5, .nilslice), (10, .sint .i64 (.var 210))], heap := [] }], exits := [(.exit 2, { slots := [], heap := [] })], own := [], pre := [(.op2 .eq (.app 110 [.var 4]) (.num 0), true), (.op2 .lt (.num 60) (.op1 .len (.var 4)), false), (.op2 .eq (.op1 .len (.app 117 [.var 4])) (.num 0), true)] }
noncomputable def pp0NL_run : Env → AF → ASt → Option (List Out) := bodyRun CQ0 6 (fun _ => noLoop) (loopAt Tryz.prog 14 1)
def pp0NL0_F : List (X × Bool) := [(.op2 .lt (.var 210) (.num 0), false)]
noncomputable def pp0NL0_t : FTree := (.fork (.op2 .lt (.num 40) (.var 210)) (.leaf [(.leave 0 [])]) (.fork (.app 21 [(.var 4)]) (.fork (.op2 .eq (.num 0) (.app 116 [(.var 4), (.var 210)])) (.leaf [(.again 0 [])]) .bad) .bad))
noncomputable def pp0NL0_l : List (List (X × Bool) × Option (List (Tgt × Pairs))) := [([((.op2 .lt (.num 40) (.var 210)), true), ((.op2 .lt (.var 210) (.num 0)), false)], some [((.leave 0 []), [])]),
  ([((.op2 .eq (.num 0) (.app 116 [(.var 4), (.var 210)])), true), ((.app 21 [(.var 4)]), true), ((.op2 .lt (.num 40) (.var 210)), false), ((.op2 .lt (.var 210) (.num 0)), false)], some [((.again 0 []), [((.var 210), (.op1 (.wrap .i64) (.op2 .add (.var 210) (.num 1))))])]),
  ([((.op2 .eq (.num 0) (.app 116 [(.var 4), (.var 210)])), false), ((.app 21 [(.var 4)]), true), ((.op2 .lt (.num 40) (.var 210)), false), ((.op2 .lt (.var 210) (.num 0)), false)], none),
  ([((.app 21 [(.var 4)]), false), ((.op2 .lt (.num 40) (.var 210)), false), ((.op2 .lt (.var 210) (.num 0)), false)], none)]
theorem pp0NL0_w (r : Rho) : pp0NL_D.ways pp0NL_run E1 r 0 pp0NL0_F pp0NL0_t = some pp0NL0_l := by kernel_rfl
theorem pp0NL_ok : pp0NL_D.ok = true := by kernel_rfl
def pp0NL_Inv (j : Nat) (vals : List Value) : Prop :=
  j = 0 ∧ ∃ i : Nat, i ≤ 41 ∧ vals = [.int .i64 i]
def pp0NL_mu (_ : Nat) (vals : List Value) : Nat := 41 - (vI (vals.getD 0 default)).toNat
set_option maxHeartbeats 1000000 in
theorem pp0NL_step {ρ : Rho} {b : List Shr} (h4 : ρ.val 4 = some (shrsR b)) (hsy : ρ.sym = sy) (hca : chkS ([] : List Shr) = 0) (hcb : chkS b = 0) (hla : (([] : List Shr).length : Int) ≤ 60) (hlb : (b.length : Int) ≤ 60) (hz : (accB (accA ([] : List Shr)) b).length = 0) (j : Nat) (vals : List Value) (hI : pp0NL_Inv j vals) :
    StepOk pp0NL_D pp0NL_run E1 ρ pp0NL_Inv pp0NL_mu j vals := by
  obtain ⟨rfl, i, hi, rfl⟩ := hI
  have hN : pp0NL_D.N = 210 := rfl
  have v4 : (ρ.ext pp0NL_D.N [.int .i64 i]).val 4 = some (shrsR b) := by rw [ext_low _ _ _ _ (by rw [hN]; omega)]; exact h4
  have v210 : (ρ.ext pp0NL_D.N [.int .i64 i]).val 210 = some (.int .i64 i) := by rw [ext_high _ _ _ _ (by rw [hN]; omega)]; rfl
  have vs : (ρ.ext pp0NL_D.N [.int .i64 i]).sym = sy := hsy

  have hyx := chg_neg ([] : List Shr) b
  have hxl := chg_len (accB (accA ([] : List Shr)) b)
  have hacc := acc_all hca hcb
  have hgood := (chg_good ([] : List Shr) b).1
  have hof := fun k => (of_sum hca hcb k).2
  have hle := hacc.1
  have hmx : (chgOf (accB (accA ([] : List Shr)) b)).length ≤ 120 := by omega
  generalize hX : chgOf (accB (accA ([] : List Shr)) b) = xs at *
  have hx0 : xs = [] := List.eq_nil_of_length_eq_zero (by rw [hxl]; exact hz)
  have s4 : shortB b = true := len_short (by omega)
  have hF : FactsIn (ρ.ext pp0NL_D.N [.int .i64 i]) pp0NL0_F := by
    simp only [pp0NL0_F, FactsIn, X.bool, X.den, denL, d_wrap, d_kind, d_not, d_neg, d_slen, d_add, d_sub, d_mul, d_div, d_mod, d_lt, d_le, d_eq, d_eqb, d_eqs, d_lts, d_cat, d_sat, d_and, d_or, denSub, denIte, asB, whos_len, whos_cell, whos_lsub, whos_lcat, whos_rep, shrs_len, shrs_cell, shrs_lsub, shrs_lcat, shrs_snocN, shrs_snoc0N, v210, Option.some.injEq, Value.bool.injEq, decide_eq_false_iff_not, and_true]
    omega
  suffices both : AsksL (ρ.ext pp0NL_D.N [.int .i64 i]) (pp0NL0_t.asks pp0NL0_F) ∧ WaysOk pp0NL_D ρ pp0NL_Inv pp0NL_mu 0 [.int .i64 i] pp0NL0_l from step_of_ways (pp0NL0_w _) hF both.1.ok both.2
  by_cases hlt : (40 : Int) < i
  · refine ⟨?_, ?_⟩
    · simp only [pp0NL0_t, pp0NL0_F, AsksL, GTree.asks, FTree.asks, FactsIn, List.append_nil, List.nil_append, List.cons_append, Option.some.injEq, exists_eq', implies_true, and_self, X.bool, X.den, denL, d_wrap, d_kind, d_not, d_neg, d_slen, d_add, d_sub, d_mul, d_div, d_mod, d_lt, d_le, d_eq, d_eqb, d_eqs, d_lts, d_cat, d_sat, d_and, d_or, denSub, denIte, asB, whos_len, whos_cell, whos_lsub, whos_lcat, whos_rep, shrs_len, shrs_cell, shrs_lsub, shrs_lcat, shrs_snocN, shrs_snoc0N, v4, v210, vs, sym10, sym21, sym110, sym111, sym112, sym113, sym114, sym115, sym116, sym117, sym118, hX, s4, hlt]
      try simp
    · simp only [pp0NL0_l, EndsOk, WaysOk, forall_cons, forall_nil, TgtOk, gpair, FactsIn, hold_cons, hold_nil, Option.some.injEq, Value.bool.injEq, Value.int.injEq, decide_eq_true_eq, decide_eq_false_iff_not, and_true, true_and, and_imp, X.bool, X.den, denL, d_wrap, d_kind, d_not, d_neg, d_slen, d_add, d_sub, d_mul, d_div, d_mod, d_lt, d_le, d_eq, d_eqb, d_eqs, d_lts, d_cat, d_sat, d_and, d_or, denSub, denIte, asB, whos_len, whos_cell, whos_lsub, whos_lcat, whos_rep, shrs_len, shrs_cell, shrs_lsub, shrs_lcat, shrs_snocN, shrs_snoc0N, beq_iff_eq, beq_eq_false_iff_ne, ne_eq, v4, v210, vs, h4, hsy, sym10, sym21, sym110, sym111, sym112, sym113, sym114, sym115, sym116, sym117, sym118, hX, s4, hlt]
      try simp
  · have hw : IntKind.i64.wrap ((i : Int) + 1) = ((i + 1 : Nat) : Int) := by rw [IntWalk.i64_in _ (by omega)]; rfl
    have go : ∃ vals', (ρ.ext pp0NL_D.N vals').val 210 = some (.int .i64 ((i + 1 : Nat) : Int)) ∧ pp0NL_Inv 0 vals' ∧ pp0NL_mu 0 vals' < pp0NL_mu 0 [.int .i64 i] := by
      refine ⟨[.int .i64 ((i + 1 : Nat) : Int)], ?_, ⟨rfl, i + 1, by omega, rfl⟩, ?_⟩
      · rw [ext_high _ _ _ _ (by rw [hN]; omega)]; rfl
      · simp [pp0NL_mu, vI]; omega
    have hof := hof (i : Int)
    rw [hx0] at hof
    have hofe : (0 : Int) = sumK b i := by
      have z0 : sumK [] (i : Int) = 0 := rfl
      have w0 : IntKind.i64.wrap 0 = 0 := rfl
      simpa only [z0, Int.add_zero, Int.zero_add, w0] using hof
    refine ⟨?_, ?_⟩
    all_goals (simp only [pp0NL0_t, pp0NL0_F, pp0NL0_l, AsksL, GTree.asks, FTree.asks, FactsIn, List.append_nil, List.nil_append, List.cons_append, Option.some.injEq, exists_eq', implies_true, and_self, X.bool, X.den, denL, d_wrap, d_kind, d_not, d_neg, d_slen, d_add, d_sub, d_mul, d_div, d_mod, d_lt, d_le, d_eq, d_eqb, d_eqs, d_lts, d_cat, d_sat, d_and, d_or, denSub, denIte, asB, whos_len, whos_cell, whos_lsub, whos_lcat, whos_rep, shrs_len, shrs_cell, shrs_lsub, shrs_lcat, shrs_snocN, shrs_snoc0N, EndsOk, WaysOk, forall_cons, forall_nil, TgtOk, gpair, FactsIn, hold_cons, hold_nil, Option.some.injEq, Value.bool.injEq, Value.int.injEq, decide_eq_true_eq, decide_eq_false_iff_not, and_true, true_and, and_imp, X.bool, X.den, denL, d_wrap, d_kind, d_not, d_neg, d_slen, d_add, d_sub, d_mul, d_div, d_mod, d_lt, d_le, d_eq, d_eqb, d_eqs, d_lts, d_cat, d_sat, d_and, d_or, denSub, denIte, asB, whos_len, whos_cell, whos_lsub, whos_lcat, whos_rep, shrs_len, shrs_cell, shrs_lsub, shrs_lcat, shrs_snocN, shrs_snoc0N, beq_iff_eq, beq_eq_false_iff_ne, ne_eq, v4, v210, vs, h4, hsy, sym10, sym21, sym110, sym111, sym112, sym113, sym114, sym115, sym116, sym117, sym118, hX, s4, hlt, hw, reduceCtorEq, false_implies, implies_true, true_implies, and_self, not_true_eq_false, not_false_eq_true])
    all_goals ((repeat' apply And.intro) <;> intros <;> first
      | trivial
      | (exfalso; omega)
      | (exact absurd trivial (by assumption))
      | (exact absurd hofe (by assumption))
      | (exact go)
      | (simp_all; done))

noncomputable def chNL_fn : FnD := { f := 14, args := argsAV [.nils, shrsArg 61 3], heap := hRoot ++ argsBlk [.nils, shrsArg 61 3], N := 100, M := 100, out := .sbool (.boo true), news := [] }
noncomputable def chNL_call : Env → CallL := fun E => acallAll E (evH E (CQLN E) ((fun E => oneH 14 (hooks [(10, xyNL_D.hook E.facts lxy_vs), (15, orH (pp1NL_D.hook E.facts lp_vs) (pp0NL_D.hook E.facts lp_vs))])) E) 12)
noncomputable def chNL_pre : List (X × Bool) := []
noncomputable def chNL_t : GTree := (.fork (.op2 .lt (.num 60) (.op1 .len (.var 4))) (.leaf [[]]) (.fork (.op2 .eq (.app 110 [(.var 4)]) (.num 0)) (.fork (.op2 .eq (.op1 .len (.app 117 [(.var 4)])) (.num 0)) (.fork (.op2 .eq (.op1 .len (.app 118 [(.var 4)])) (.num 0)) (.leaf [[]]) (.fork (.op2 .eq (.num 0) (.op1 .len (.app 115 [(.app 118 [(.var 4)])]))) (.leaf [[]]) (.leaf [[]]))) (.fork (.op2 .eq (.op1 .len (.app 118 [(.var 4)])) (.num 0)) (.fork (.op2 .eq (.op1 .len (.app 115 [(.app 117 [(.var 4)])])) (.num 0)) (.fork (.op2 .lt (.num 0) (.op1 .len (.app 115 [(.app 117 [(.var 4)])]))) (.fork (.op2 .eq (.cell 1 (.app 115 [(.app 117 [(.var 4)])]) (.num 0)) (.num 0)) (.leaf [[]]) .bad) (.leaf [[]])) (.leaf [[]])) (.fork (.op2 .eq (.op1 .len (.app 115 [(.app 117 [(.var 4)])])) (.op1 .len (.app 115 [(.app 118 [(.var 4)])]))) (.leaf [[]]) (.leaf [[]])))) (.leaf [[]])))
noncomputable def chNL_l : List (List (X × Bool) × Option Pairs) := [([((.op2 .lt (.num 60) (.op1 .len (.var 4))), true)], some []),
  ([((.op2 .eq (.op1 .len (.app 118 [(.var 4)])) (.num 0)), true), ((.op2 .eq (.op1 .len (.app 117 [(.var 4)])) (.num 0)), true), ((.op2 .eq (.app 110 [(.var 4)]) (.num 0)), true), ((.op2 .lt (.num 60) (.op1 .len (.var 4))), false)], some []),
  ([((.op2 .eq (.num 0) (.op1 .len (.app 115 [(.app 118 [(.var 4)])]))), true), ((.op2 .eq (.op1 .len (.app 118 [(.var 4)])) (.num 0)), false), ((.op2 .eq (.op1 .len (.app 117 [(.var 4)])) (.num 0)), true), ((.op2 .eq (.app 110 [(.var 4)]) (.num 0)), true), ((.op2 .lt (.num 60) (.op1 .len (.var 4))), false)], some []),
  ([((.op2 .eq (.num 0) (.op1 .len (.app 115 [(.app 118 [(.var 4)])]))), false), ((.op2 .eq (.op1 .len (.app 118 [(.var 4)])) (.num 0)), false), ((.op2 .eq (.op1 .len (.app 117 [(.var 4)])) (.num 0)), true), ((.op2 .eq (.app 110 [(.var 4)]) (.num 0)), true), ((.op2 .lt (.num 60) (.op1 .len (.var 4))), false)], some [((.boo true), (.boo false))]),
  ([((.op2 .eq (.cell 1 (.app 115 [(.app 117 [(.var 4)])]) (.num 0)) (.num 0)), true), ((.op2 .lt (.num 0) (.op1 .len (.app 115 [(.app 117 [(.var 4)])]))), true), ((.op2 .eq (.op1 .len (.app 115 [(.app 117 [(.var 4)])])) (.num 0)), true), ((.op2 .eq (.op1 .len (.app 118 [(.var 4)])) (.num 0)), true), ((.op2 .eq (.op1 .len (.app 117 [(.var 4)])) (.num 0)), false), ((.op2 .eq (.app 110 [(.var 4)]) (.num 0)), true), ((.op2 .lt (.num 60) (.op1 .len (.var 4))), false)], some [((.boo true), (.boo false))]),
  ([((.op2 .eq (.cell 1 (.app 115 [(.app 117 [(.var 4)])]) (.num 0)) (.num 0)), false), ((.op2 .lt (.num 0) (.op1 .len (.app 115 [(.app 117 [(.var 4)])]))), true), ((.op2 .eq (.op1 .len (.app 115 [(.app 117 [(.var 4)])])) (.num 0)), true), ((.op2 .eq (.op1 .len (.app 118 [(.var 4)])) (.num 0)), true), ((.op2 .eq (.op1 .len (.app 117 [(.var 4)])) (.num 0)), false), ((.op2 .eq (.app 110 [(.var 4)]) (.num 0)), true), ((.op2 .lt (.num 60) (.op1 .len (.var 4))), false)], none),
  ([((.op2 .lt (.num 0) (.op1 .len (.app 115 [(.app 117 [(.var 4)])]))), false), ((.op2 .eq (.op1 .len (.app 115 [(.app 117 [(.var 4)])])) (.num 0)), true), ((.op2 .eq (.op1 .len (.app 118 [(.var 4)])) (.num 0)), true), ((.op2 .eq (.op1 .len (.app 117 [(.var 4)])) (.num 0)), false), ((.op2 .eq (.app 110 [(.var 4)]) (.num 0)), true), ((.op2 .lt (.num 60) (.op1 .len (.var 4))), false)], some []),
  ([((.op2 .eq (.op1 .len (.app 115 [(.app 117 [(.var 4)])])) (.num 0)), false), ((.op2 .eq (.op1 .len (.app 118 [(.var 4)])) (.num 0)), true), ((.op2 .eq (.op1 .len (.app 117 [(.var 4)])) (.num 0)), false), ((.op2 .eq (.app 110 [(.var 4)]) (.num 0)), true), ((.op2 .lt (.num 60) (.op1 .len (.var 4))), false)], some [((.boo true), (.boo false))]),
  ([((.op2 .eq (.op1 .len (.app 115 [(.app 117 [(.var 4)])])) (.op1 .len (.app 115 [(.app 118 [(.var 4)])]))), true), ((.op2 .eq (.op1 .len (.app 118 [(.var 4)])) (.num 0)), false), ((.op2 .eq (.op1 .len (.app 117 [(.var 4)])) (.num 0)), false), ((.op2 .eq (.app 110 [(.var 4)]) (.num 0)), true), ((.op2 .lt (.num 60) (.op1 .len (.var 4))), false)], some []),
  ([((.op2 .eq (.op1 .len (.app 115 [(.app 117 [(.var 4)])])) (.op1 .len (.app 115 [(.app 118 [(.var 4)])]))), false), ((.op2 .eq (.op1 .len (.app 118 [(.var 4)])) (.num 0)), false), ((.op2 .eq (.op1 .len (.app 117 [(.var 4)])) (.num 0)), false), ((.op2 .eq (.app 110 [(.var 4)]) (.num 0)), true), ((.op2 .lt (.num 60) (.op1 .len (.var 4))), false)], some [((.boo true), (.boo false))]),
  ([((.op2 .eq (.app 110 [(.var 4)]) (.num 0)), false), ((.op2 .lt (.num 60) (.op1 .len (.var 4))), false)], some [])]
theorem chNL_w (r : Rho) : chNL_fn.ways chNL_call E1 r chNL_pre chNL_t = some chNL_l := by kernel_rfl
theorem chNL_H {r : Rho} {b : List Shr} (h4 : r.val 4 = some (shrsR b)) (hsy : r.sym = sy) (F : List (X × Bool)) :
    LoopsOk (E1.with F r) (oneH 14 (hooks [(10, xyNL_D.hook (E1.with F r).facts lxy_vs), (15, orH (pp1NL_D.hook (E1.with F r).facts lp_vs) (pp0NL_D.hook (E1.with F r).facts lp_vs))])) := by
  have hca : chkS ([] : List Shr) = 0 := rfl
  have hla : (([] : List Shr).length : Int) ≤ 60 := by decide
  refine loops_all (n := 2) (fun f fn h => h) (by kernel_rfl) fun i hi => ?_
  have h01 : i = 0 ∨ i = 1 := by omega
  rcases h01 with rfl | rfl
  · rw [hooks_hit (show keyOf (loopAt (E1.with F r).P 14 0) = 10 by kernel_rfl)]
    exact hook_ok (E₀ := E1) (run := xyNL_run) (ρ := r) (Inv := xyNL_Inv (chgOf (accB (accA ([] : List Shr)) b))) (μ := xyNL_mu (chgOf (accB (accA ([] : List Shr)) b))) E1_ok xyNL_ok (fun F r' h => bodyRun_ok E1_ok (CQ0_ok F (h.trans hsy)) fun _ _ => noLoop_ok) (fun hp => by
        simp only [xyNL_D, FactsIn, X.bool, X.den, denL, d_wrap, d_kind, d_not, d_neg, d_slen, d_add, d_sub, d_mul, d_div, d_mod, d_lt, d_le, d_eq, d_eqb, d_eqs, d_lts, d_cat, d_sat, d_and, d_or, denSub, denIte, asB, whos_len, whos_cell, whos_lsub, whos_lcat, whos_rep, shrs_len, shrs_cell, shrs_lsub, shrs_lcat, shrs_snocN, shrs_snoc0N, h4, hsy, sym10, sym21, sym110, sym111, sym112, sym113, sym114, sym115, sym116, sym117, sym118, Option.some.injEq, Value.bool.injEq, decide_eq_false_iff_not, Int.not_lt, and_true, beq_iff_eq, beq_eq_false_iff_ne, ne_eq] at hp
        obtain ⟨hcb, hlb⟩ := hp
        refine ⟨xyNL_step h4 hsy hca hcb hla hlb, [.int .i64 0], ?_, rfl, 0, Nat.zero_le _, rfl⟩
        simp only [lxy_vs, lp_vs, X.bool, X.den, denL, d_wrap, d_kind, d_not, d_neg, d_slen, d_add, d_sub, d_mul, d_div, d_mod, d_lt, d_le, d_eq, d_eqb, d_eqs, d_lts, d_cat, d_sat, d_and, d_or, denSub, denIte, asB, whos_len, whos_cell, whos_lsub, whos_lcat, whos_rep, shrs_len, shrs_cell, shrs_lsub, shrs_lcat, shrs_snocN, shrs_snoc0N])
  · rw [hooks_miss (show Nat.beq (keyOf (loopAt (E1.with F r).P 14 1)) 10 = false by kernel_rfl), hooks_hit (show keyOf (loopAt (E1.with F r).P 14 1) = 15 by kernel_rfl)]
    refine orH_ok ?_ ?_
    · exact hook_ok (E₀ := E1) (run := pp1NL_run) (ρ := r) (Inv := pp1NL_Inv) (μ := pp1NL_mu) E1_ok pp1NL_ok (fun F r' h => bodyRun_ok E1_ok (CQ0_ok F (h.trans hsy)) fun _ _ => noLoop_ok) (fun hp => by
        simp only [pp1NL_D, FactsIn, X.bool, X.den, denL, d_wrap, d_kind, d_not, d_neg, d_slen, d_add, d_sub, d_mul, d_div, d_mod, d_lt, d_le, d_eq, d_eqb, d_eqs, d_lts, d_cat, d_sat, d_and, d_or, denSub, denIte, asB, whos_len, whos_cell, whos_lsub, whos_lcat, whos_rep, shrs_len, shrs_cell, shrs_lsub, shrs_lcat, shrs_snocN, shrs_snoc0N, h4, hsy, sym10, sym21, sym110, sym111, sym112, sym113, sym114, sym115, sym116, sym117, sym118, Option.some.injEq, Value.bool.injEq, decide_eq_false_iff_not, Int.not_lt, and_true, beq_iff_eq, beq_eq_false_iff_ne, ne_eq] at hp
        obtain ⟨hcb, hlb⟩ := hp
        refine ⟨pp1NL_step h4 hsy hca hcb hla hlb, [.int .i64 0], ?_, rfl, 0, Nat.zero_le _, rfl⟩
        simp only [lxy_vs, lp_vs, X.bool, X.den, denL, d_wrap, d_kind, d_not, d_neg, d_slen, d_add, d_sub, d_mul, d_div, d_mod, d_lt, d_le, d_eq, d_eqb, d_eqs, d_lts, d_cat, d_sat, d_and, d_or, denSub, denIte, asB, whos_len, whos_cell, whos_lsub, whos_lcat, whos_rep, shrs_len, shrs_cell, shrs_lsub, shrs_lcat, shrs_snocN, shrs_snoc0N])
    · exact hook_ok (E₀ := E1) (run := pp0NL_run) (ρ := r) (Inv := pp0NL_Inv) (μ := pp0NL_mu) E1_ok pp0NL_ok (fun F r' h => bodyRun_ok E1_ok (CQ0_ok F (h.trans hsy)) fun _ _ => noLoop_ok) (fun hp => by
        simp only [pp0NL_D, FactsIn, X.bool, X.den, denL, d_wrap, d_kind, d_not, d_neg, d_slen, d_add, d_sub, d_mul, d_div, d_mod, d_lt, d_le, d_eq, d_eqb, d_eqs, d_lts, d_cat, d_sat, d_and, d_or, denSub, denIte, asB, whos_len, whos_cell, whos_lsub, whos_lcat, whos_rep, shrs_len, shrs_cell, shrs_lsub, shrs_lcat, shrs_snocN, shrs_snoc0N, h4, hsy, sym10, sym21, sym110, sym111, sym112, sym113, sym114, sym115, sym116, sym117, sym118, Option.some.injEq, Value.bool.injEq, decide_eq_false_iff_not, Int.not_lt, and_true, beq_iff_eq, beq_eq_false_iff_ne, ne_eq] at hp
        obtain ⟨hcb, hlb, hz⟩ := hp
        refine ⟨pp0NL_step h4 hsy hca hcb hla hlb (by omega), [.int .i64 0], ?_, rfl, 0, Nat.zero_le _, rfl⟩
        simp only [lxy_vs, lp_vs, X.bool, X.den, denL, d_wrap, d_kind, d_not, d_neg, d_slen, d_add, d_sub, d_mul, d_div, d_mod, d_lt, d_le, d_eq, d_eqb, d_eqs, d_lts, d_cat, d_sat, d_and, d_or, denSub, denIte, asB, whos_len, whos_cell, whos_lsub, whos_lcat, whos_rep, shrs_len, shrs_cell, shrs_lsub, shrs_lcat, shrs_snocN, shrs_snoc0N])
theorem chNL_61 : (buildH chNL_fn.heap).get 61 = some (.rows 2 shrSch (.var 3) (.var 4) false 67) := by kernel_rfl
theorem chNL_out (σ : Sig) : chNL_fn.out.inst σ = some (.bool true) := rfl
set_option maxHeartbeats 2000000 in
theorem chNL_true {r : Rho} {σ : Sig} {w : World} {us : List Value} (hsy : r.sym = sy) (hρ : σ.rho = r) (hA : ∀ g id, E1.glob g = some id → ∃ κ, σ id = some (g, κ)) (hrel : (memOf chNL_fn.heap 100).rel Tryz.prog σ w (fun b => w.heap.size ≤ b)) (hins : Ins σ chNL_fn.args us) :
    Calls Tryz.prog 14 us.toArray w fun e w' => e = .returned (.bool true) ∧ Kept (fun b => w.heap.size ≤ b) w w' := by
  obtain ⟨b, h4⟩ := shrs_at hrel (i := 61) chNL_61
  rw [hρ] at h4
  have h4 : r.val 4 = some (shrsR b) := h4
  have hl2 := chg_len2 ([] : List Shr) b
  have hxl := chg_len (accB (accA ([] : List Shr)) b)
  have hyl := chg_len (accB (accA b) ([] : List Shr))
  refine law_of (E := E1) (D := chNL_fn) E1_ok (fun F => CQLN_ok F hsy) (fun F => chNL_H h4 hsy F) (chNL_w r) hρ hA trivial hrel hins ?_ ?_ chNL_out
  · simp only [chNL_pre, chNL_t, AsksL, GTree.asks, FTree.asks, FactsIn, List.append_nil, List.nil_append, List.cons_append, Option.some.injEq, exists_eq', implies_true, and_self, X.bool, X.den, denL, d_wrap, d_kind, d_not, d_neg, d_slen, d_add, d_sub, d_mul, d_div, d_mod, d_lt, d_le, d_eq, d_eqb, d_eqs, d_lts, d_cat, d_sat, d_and, d_or, denSub, denIte, asB, whos_len, whos_cell, whos_lsub, whos_lcat, whos_rep, shrs_len, shrs_cell, shrs_lsub, shrs_lcat, shrs_snocN, shrs_snoc0N, beq_iff_eq, beq_eq_false_iff_ne, ne_eq, h4, hsy, sym10, sym21, sym110, sym111, sym112, sym113, sym114, sym115, sym116, sym117, sym118, hxl, hyl, hl2, decide_eq_true_eq, decide_eq_false_iff_not, Value.bool.injEq, beq_self_eq_true]
    (repeat' apply And.intro) <;> intros <;> first
      | trivial
      | (exfalso; omega)
      | (exfalso; simp_all; done)
      | (exfalso; simp_all; omega)
      | (simp_all; done)
  · simp only [chNL_l, EndsOk, WaysOk, forall_cons, forall_nil, TgtOk, gpair, FactsIn, hold_cons, hold_nil, Option.some.injEq, Value.bool.injEq, Value.int.injEq, decide_eq_true_eq, decide_eq_false_iff_not, and_true, true_and, and_imp, X.bool, X.den, denL, d_wrap, d_kind, d_not, d_neg, d_slen, d_add, d_sub, d_mul, d_div, d_mod, d_lt, d_le, d_eq, d_eqb, d_eqs, d_lts, d_cat, d_sat, d_and, d_or, denSub, denIte, asB, whos_len, whos_cell, whos_lsub, whos_lcat, whos_rep, shrs_len, shrs_cell, shrs_lsub, shrs_lcat, shrs_snocN, shrs_snoc0N, beq_iff_eq, beq_eq_false_iff_ne, ne_eq, h4, hsy, sym10, sym21, sym110, sym111, sym112, sym113, sym114, sym115, sym116, sym117, sym118, hxl, hyl, hl2]
    clear hsy hρ hA hrel hins h4
    (repeat' apply And.intro) <;> intros <;> first
      | trivial
      | (exfalso; omega)
      | (simp_all; done)
      | (exfalso; simp_all; omega)

noncomputable def chNN_fn : FnD := { f := 14, args := argsAV [.nils, .nils], heap := hRoot ++ argsBlk [.nils, .nils], N := 100, M := 100, out := .sbool (.boo true), news := [] }
noncomputable def chNN_call : Env → CallL := fun E => acallAll E (evH E (CQNN E) ((fun _ => noLoops) E) 16)
noncomputable def chNN_pre : List (X × Bool) := []
noncomputable def chNN_t : GTree := (.leaf [[]])
noncomputable def chNN_l : List (List (X × Bool) × Option Pairs) := [([], some [])]
theorem chNN_w (r : Rho) : chNN_fn.ways chNN_call E1 r chNN_pre chNN_t = some chNN_l := by kernel_rfl
theorem chNN_out (σ : Sig) : chNN_fn.out.inst σ = some (.bool true) := rfl
theorem chNN_true {r : Rho} {σ : Sig} {w : World} {us : List Value} (hsy : r.sym = sy) (hρ : σ.rho = r) (hA : ∀ g id, E1.glob g = some id → ∃ κ, σ id = some (g, κ)) (hrel : (memOf chNN_fn.heap 100).rel Tryz.prog σ w (fun b => w.heap.size ≤ b)) (hins : Ins σ chNN_fn.args us) :
    Calls Tryz.prog 14 us.toArray w fun e w' => e = .returned (.bool true) ∧ Kept (fun b => w.heap.size ≤ b) w w' := by
  refine law_of (E := E1) (D := chNN_fn) E1_ok (fun F => CQNN_ok F hsy) (fun F => noH_ok) (chNN_w r) hρ hA trivial hrel hins ?_ ?_ chNN_out
  · simp only [chNN_pre, chNN_t, AsksL, GTree.asks, FTree.asks, FactsIn, List.append_nil, List.nil_append, List.cons_append, Option.some.injEq, exists_eq', implies_true, and_self, X.bool, X.den, denL, d_wrap, d_kind, d_not, d_neg, d_slen, d_add, d_sub, d_mul, d_div, d_mod, d_lt, d_le, d_eq, d_eqb, d_eqs, d_lts, d_cat, d_sat, d_and, d_or, denSub, denIte, asB, whos_len, whos_cell, whos_lsub, whos_lcat, whos_rep, shrs_len, shrs_cell, shrs_lsub, shrs_lcat, shrs_snocN, shrs_snoc0N, hsy]
    try simp
  · simp only [chNN_l, EndsOk, WaysOk, forall_cons, forall_nil, TgtOk, gpair, FactsIn, hold_cons, hold_nil, Option.some.injEq, Value.bool.injEq, Value.int.injEq, decide_eq_true_eq, decide_eq_false_iff_not, and_true, true_and, and_imp, X.bool, X.den, denL, d_wrap, d_kind, d_not, d_neg, d_slen, d_add, d_sub, d_mul, d_div, d_mod, d_lt, d_le, d_eq, d_eqb, d_eqs, d_lts, d_cat, d_sat, d_and, d_or, denSub, denIte, asB, whos_len, whos_cell, whos_lsub, whos_lcat, whos_rep, shrs_len, shrs_cell, shrs_lsub, shrs_lcat, shrs_snocN, shrs_snoc0N, hsy]
    try simp

end Go.Proofs.YthjndglmpgljaaaGreatDoor.Zs
