/-
  Contracts of counting, of the package and of the reference.
-/
import Derived.Test.YtpjkfjnjbekcaaaGreatDoorConB
import Derived.KernelRfl
set_option linter.unusedSimpArgs false
set_option linter.unusedVariables false
namespace Go.Proofs.YtpjkfjnjbekcaaaGreatDoor.Zs
open Go
set_option linter.unusedSimpArgs false
set_option linter.unusedVariables false

theorem chkGo_all : ∀ (l pre : List Wind), (chkGo pre l).2 = 0 → ∀ q ∈ l, windB q = true
  | [], pre, _, q, hq => by cases hq
  | p :: r, pre, h, q, hq => by
    simp only [chkGo] at h
    split at h
    · rename_i he
      rcases List.mem_cons.1 hq with rfl | hq
      · exact (accepted he).1
      · exact chkGo_all r _ h q hq
    · rename_i he
      exact absurd h he
theorem check_id {l : List Wind} (h : (checkR l).2 = 0) {q : Wind} (hq : q ∈ l) : ¬ q.id = 0 := by
  have := (windB_iff q).1 (chkGo_all l [] h q hq)
  omega
theorem count_snoc (l pre : List Wind) (known : Int) (p : Wind) : (pre ++ [p]).filter (countsB l known) = if countsB l known p = true then pre.filter (countsB l known) ++ [p] else pre.filter (countsB l known) := by
  rw [List.filter_append]
  cases h : countsB l known p <;> simp [List.filter, h]

def vds_vs : List X := [.num 0, .nil]
def cnt_vs : List X := [.num 0]

noncomputable def vds_D : LoopD := { N := 100, M := 102, size := sizeOfF 40, reads := [(0, .rows 9 windSch (.var 0) (.var 1) false 26)], pats := [{ slots := [(0, .slx 0 9 (.var 0) (.num 0) (.op1 .len (.var 1)) (.var 2)), (1, .sint .i64 (.var 3)), (5, .map 1), (12, .slx 0 9 (.var 0) (.num 0) (.op1 .len (.var 1)) (.var 2)), (13, .sint .i64 (.op1 .len (.var 1))), (14, .sint .i64 (.var 100))], heap := [(1, .smap false [.int .i64] false [.bool] (.var 101))] }], exits := [(.exit 0, { slots := [(0, .slx 0 9 (.var 0) (.num 0) (.op1 .len (.var 1)) (.var 2)), (1, .sint .i64 (.var 3)), (5, .map 1)], heap := [(1, .smap false [.int .i64] false [.bool] (.app 24 [.var 1, .var 3]))] })], own := [1], pre := [(.op2 .eq (.app 6 [.var 1]) (.num 0), true)] }
noncomputable def vds_run : Env → AF → ASt → Option (List Out) := bodyRun noL 6 (fun _ => noLoop) (loopAt Tryz.prog 40 0)
def vds0_F : List (X × Bool) := [(.op2 .lt (.var 100) (.num 0), false)]
noncomputable def vds0_t : FTree := (.fork (.op2 .lt (.var 100) (.op1 .len (.var 1))) (.fork (.op2 .eq (.cell 8 (.var 1) (.var 100)) (.num 0)) (.leaf [(.again 0 [])]) (.fork (.op2 .lt (.var 3) (.cell 1 (.var 1) (.var 100))) (.leaf [(.again 0 [])]) (.leaf [(.again 0 [])]))) (.leaf [(.leave 0 [])]))
noncomputable def vds0_l : List (List (X × Bool) × Option (List (Tgt × Pairs))) := [([((.op2 .eq (.cell 8 (.var 1) (.var 100)) (.num 0)), true), ((.op2 .lt (.var 100) (.op1 .len (.var 1))), true), ((.op2 .lt (.var 100) (.num 0)), false)], some [((.again 0 []), [((.var 100), (.op1 (.wrap .i64) (.op2 .add (.var 100) (.num 1)))), ((.var 101), (.var 101))])]),
  ([((.op2 .lt (.var 3) (.cell 1 (.var 1) (.var 100))), true), ((.op2 .eq (.cell 8 (.var 1) (.var 100)) (.num 0)), false), ((.op2 .lt (.var 100) (.op1 .len (.var 1))), true), ((.op2 .lt (.var 100) (.num 0)), false)], some [((.again 0 []), [((.var 100), (.op1 (.wrap .i64) (.op2 .add (.var 100) (.num 1)))), ((.var 101), (.var 101))])]),
  ([((.op2 .lt (.var 3) (.cell 1 (.var 1) (.var 100))), false), ((.op2 .eq (.cell 8 (.var 1) (.var 100)) (.num 0)), false), ((.op2 .lt (.var 100) (.op1 .len (.var 1))), true), ((.op2 .lt (.var 100) (.num 0)), false)], some [((.again 0 []), [((.var 100), (.op1 (.wrap .i64) (.op2 .add (.var 100) (.num 1)))), ((.var 101), (.op2 (.mput 1) (.var 101) (.snoc .nil [(.op1 (.kind .i64) (.cell 8 (.var 1) (.var 100))), (.boo true)])))])]),
  ([((.op2 .lt (.var 100) (.op1 .len (.var 1))), false), ((.op2 .lt (.var 100) (.num 0)), false)], some [((.leave 0 []), [((.app 24 [(.var 1), (.var 3)]), (.var 101))])])]
theorem vds0_w (r : Rho) : vds_D.ways vds_run E0 r 0 vds0_F vds0_t = some vds0_l := by kernel_rfl
theorem vds_ok : vds_D.ok = true := by kernel_rfl
def vds_Inv (l : List Wind) (known : Int) (j : Nat) (vals : List Value) : Prop := j = 0 ∧ ∃ i : Nat, i ≤ l.length ∧ vals = [.int .i64 i, rowsV (voidV (l.take i) known)]
def vds_mu (l : List Wind) (_ : Nat) (vals : List Value) : Nat := l.length - (vI (vals.getD 0 default)).toNat
theorem vds_step {ρ : Rho} {l : List Wind} {kk : IntKind} {known : Int} (h1 : ρ.val 1 = some (windsR l)) (h3 : ρ.val 3 = some (.int kk known)) (hsy : ρ.sym = sy) (hck : (checkR l).2 = 0) (j : Nat) (vals : List Value) (hI : vds_Inv l known j vals) :
    StepOk vds_D vds_run E0 ρ (vds_Inv l known) (vds_mu l) j vals := by
  obtain ⟨rfl, i, hi, rfl⟩ := hI
  have hN : vds_D.N = 100 := rfl
  have hmax := check_len hck
  have v1 : (ρ.ext vds_D.N [.int .i64 i, rowsV (voidV (l.take i) known)]).val 1 = some (windsR l) := by rw [ext_low _ _ _ _ (by rw [hN]; omega)]; exact h1
  have v3 : (ρ.ext vds_D.N [.int .i64 i, rowsV (voidV (l.take i) known)]).val 3 = some (.int kk known) := by rw [ext_low _ _ _ _ (by rw [hN]; omega)]; exact h3
  have v100 : (ρ.ext vds_D.N [.int .i64 i, rowsV (voidV (l.take i) known)]).val 100 = some (.int .i64 i) := by rw [ext_high _ _ _ _ (by rw [hN]; omega)]; rfl
  have v101 : (ρ.ext vds_D.N [.int .i64 i, rowsV (voidV (l.take i) known)]).val 101 = some (rowsV (voidV (l.take i) known)) := by rw [ext_high _ _ _ _ (by rw [hN]; omega)]; rfl
  have vs : (ρ.ext vds_D.N [.int .i64 i, rowsV (voidV (l.take i) known)]).sym = sy := hsy

  have hF : FactsIn (ρ.ext vds_D.N [.int .i64 i, rowsV (voidV (l.take i) known)]) vds0_F := by
    simp only [vds0_F, FactsIn, X.bool, X.den, denL, d_wrap, d_kind, d_not, d_neg, d_slen, d_add, d_sub, d_mul, d_div, d_mod, d_lt, d_le, d_eq, d_eqb, d_eqs, d_lts, d_cat, d_sat, d_and, d_or, denSub, denIte, asB, winds_len, winds_cell, winds_lsub, v100, Option.some.injEq, Value.bool.injEq, decide_eq_false_iff_not, and_true]
    omega
  suffices both : AsksL (ρ.ext vds_D.N [.int .i64 i, rowsV (voidV (l.take i) known)]) (vds0_t.asks vds0_F) ∧ WaysOk vds_D ρ (vds_Inv l known) (vds_mu l) 0 [.int .i64 i, rowsV (voidV (l.take i) known)] vds0_l from step_of_ways (vds0_w _) hF both.1.ok both.2
  cases hp : l[i]? with
  | none =>
    have hge := List.getElem?_eq_none_iff.1 hp
    have hge' : ¬ (i : Int) < l.length := by omega
    have hl : l.take i = l := List.take_of_length_le hge
    refine ⟨?_, ?_⟩
    · simp only [vds0_t, vds0_F, AsksL, GTree.asks, FTree.asks, FactsIn, List.append_nil, List.nil_append, List.cons_append, Option.some.injEq, exists_eq', implies_true, and_self, X.bool, X.den, denL, d_wrap, d_kind, d_not, d_neg, d_slen, d_add, d_sub, d_mul, d_div, d_mod, d_lt, d_le, d_eq, d_eqb, d_eqs, d_lts, d_cat, d_sat, d_and, d_or, denSub, denIte, asB, winds_len, winds_cell, winds_lsub, winds_snoc, winds_snoc0, snoc_nil, d_mhas, d_mat, d_mput, List.take_succ_cons, List.take_zero, v1, v3, v100, v101, vs, sym6, sym20, sym21, sym24, Int.toNat_natCast, hp, hge']
      try simp
    · simp only [vds0_l, EndsOk, WaysOk, forall_cons, forall_nil, TgtOk, gpair, FactsIn, hold_cons, hold_nil, Option.some.injEq, Value.bool.injEq, Value.int.injEq, decide_eq_true_eq, decide_eq_false_iff_not, and_true, true_and, and_imp, X.bool, X.den, denL, d_wrap, d_kind, d_not, d_neg, d_slen, d_add, d_sub, d_mul, d_div, d_mod, d_lt, d_le, d_eq, d_eqb, d_eqs, d_lts, d_cat, d_sat, d_and, d_or, denSub, denIte, asB, winds_len, winds_cell, winds_lsub, beq_iff_eq, beq_eq_false_iff_ne, ne_eq, winds_snoc, winds_snoc0, snoc_nil, d_mhas, d_mat, d_mput, List.take_succ_cons, List.take_zero, v1, v3, v100, v101, vs, h1, h3, hsy, sym6, sym20, sym21, sym24, Int.toNat_natCast, hp, hge']
      simp [hl]
  | some p =>
    have hlt : i < l.length := (List.getElem?_eq_some_iff.1 hp).1
    have hlt1 : (i : Int) < l.length := by omega
    have hnext : l.take (i + 1) = l.take i ++ [p] := by rw [List.take_add_one, hp]; rfl
    have go : ∀ vv, voidV (l.take i ++ [p]) known = vv → ∃ vals', ((ρ.ext vds_D.N vals').val 100 = some (.int .i64 (IntKind.i64.wrap ((i : Int) + 1))) ∧ (ρ.ext vds_D.N vals').val 101 = some (rowsV vv)) ∧ vds_Inv l known 0 vals' ∧ vds_mu l 0 vals' < vds_mu l 0 [.int .i64 i, rowsV (voidV (l.take i) known)] := by
      intro vv hv
      have hw : IntKind.i64.wrap ((i : Int) + 1) = ((i + 1 : Nat) : Int) := IntWalk.i64_in _ (by omega)
      refine ⟨[.int .i64 ((i + 1 : Nat) : Int), rowsV (voidV (l.take (i + 1)) known)], ⟨?_, ?_⟩, ⟨rfl, i + 1, by omega, rfl⟩, ?_⟩
      · rw [ext_high _ _ _ _ (by rw [hN]; omega), hw]; rfl
      · rw [ext_high _ _ _ _ (by rw [hN]; omega), hnext, hv]; rfl
      · simp [vds_mu, vI]; omega
    refine ⟨?_, ?_⟩
    all_goals (simp only [vds0_t, vds0_F, vds0_l, AsksL, GTree.asks, FTree.asks, FactsIn, List.append_nil, List.nil_append, List.cons_append, Option.some.injEq, exists_eq', implies_true, and_self, X.bool, X.den, denL, d_wrap, d_kind, d_not, d_neg, d_slen, d_add, d_sub, d_mul, d_div, d_mod, d_lt, d_le, d_eq, d_eqb, d_eqs, d_lts, d_cat, d_sat, d_and, d_or, denSub, denIte, asB, winds_len, winds_cell, winds_lsub, winds_snoc, winds_snoc0, snoc_nil, d_mhas, d_mat, d_mput, List.take_succ_cons, List.take_zero, EndsOk, WaysOk, forall_cons, forall_nil, TgtOk, gpair, FactsIn, hold_cons, hold_nil, Option.some.injEq, Value.bool.injEq, Value.int.injEq, decide_eq_true_eq, decide_eq_false_iff_not, and_true, true_and, and_imp, X.bool, X.den, denL, d_wrap, d_kind, d_not, d_neg, d_slen, d_add, d_sub, d_mul, d_div, d_mod, d_lt, d_le, d_eq, d_eqb, d_eqs, d_lts, d_cat, d_sat, d_and, d_or, denSub, denIte, asB, winds_len, winds_cell, winds_lsub, beq_iff_eq, beq_eq_false_iff_ne, ne_eq, winds_snoc, winds_snoc0, snoc_nil, d_mhas, d_mat, d_mput, List.take_succ_cons, List.take_zero, v1, v3, v100, v101, vs, h1, h3, hsy, sym6, sym20, sym21, sym24, Int.toNat_natCast, hp, Option.bind_some, wind0, wind1, wind2, wind3, wind4, wind5, wind6, wind7, wind8, hlt1, reduceCtorEq, false_implies, implies_true, true_implies, and_self])
    all_goals (clear v1 v3 v100 v101 vs h1 h3 hsy hp hN hF)
    all_goals ((repeat' apply And.intro) <;> intros <;> first
      | (exfalso; omega)
      | (exact absurd trivial (by assumption))
      | (exact go _ (by rw [voidV_snoc, if_neg (by omega)]))
      | (exact go _ (by rw [voidV_snoc, if_pos (by omega)])))

noncomputable def cnt_D : LoopD := { N := 110, M := 114, size := sizeOfF 40, reads := [(0, .rows 9 windSch (.var 0) (.var 1) false 26), (1, .smap false [.int .i64] false [.bool] (.app 24 [.var 1, .var 3]))], pats := [{ slots := [(1, .sint .i64 (.var 3)), (5, .map 1), (8, .nilslice), (31, .slx 0 9 (.var 0) (.num 0) (.op1 .len (.var 1)) (.var 2)), (32, .sint .i64 (.op1 .len (.var 1))), (33, .sint .i64 (.var 110))], heap := [] }, { slots := [(1, .sint .i64 (.var 3)), (5, .map 1), (8, .slo 112 9 (.op1 .len (.var 111))), (31, .slx 0 9 (.var 0) (.num 0) (.op1 .len (.var 1)) (.var 2)), (32, .sint .i64 (.op1 .len (.var 1))), (33, .sint .i64 (.var 110))], heap := [(112, .rows 9 windSch (.num 0) (.var 111) true 26)] }], exits := [(.exit 2, { slots := [(8, .nilslice)], heap := [], guard := .op2 .eq (.op1 .len (.app 21 [.var 1, .var 3])) (.num 0) }), (.exit 2, { slots := [(8, .slo 112 9 (.op1 .len (.app 21 [.var 1, .var 3])))], heap := [(112, .rows 9 windSch (.num 0) (.app 21 [.var 1, .var 3]) true 26)], guard := .op1 .not (.op2 .eq (.op1 .len (.app 21 [.var 1, .var 3])) (.num 0)) })], own := [], pre := [(.op2 .eq (.app 6 [.var 1]) (.num 0), true)] }
noncomputable def cnt_run : Env → AF → ASt → Option (List Out) := bodyRun noL 6 (fun _ => noLoop) (loopAt Tryz.prog 40 1)
def cnt0_F : List (X × Bool) := [(.op2 .lt (.var 110) (.num 0), false)]
def cnt1_F : List (X × Bool) := [(.op2 .lt (.var 110) (.num 0), false)]
noncomputable def cnt0_t : FTree := (.fork (.op2 .lt (.var 110) (.op1 .len (.var 1))) (.fork (.op2 .eq (.cell 8 (.var 1) (.var 110)) (.num 0)) (.fork (.op2 .lt (.var 3) (.cell 1 (.var 1) (.var 110))) (.leaf [(.again 0 [])]) (.fork (.op2 .mhas (.app 24 [(.var 1), (.var 3)]) (.snoc .nil [(.op1 (.kind .i64) (.cell 0 (.var 1) (.var 110)))])) (.fork (.op2 (.mat 1) (.app 24 [(.var 1), (.var 3)]) (.snoc .nil [(.op1 (.kind .i64) (.cell 0 (.var 1) (.var 110)))])) (.leaf [(.again 0 [])]) (.leaf [(.again 1 [(112, 116)])])) (.leaf [(.again 1 [(112, 116)])]))) (.leaf [(.again 0 [])])) (.leaf [(.leave 0 [])]))
noncomputable def cnt0_l : List (List (X × Bool) × Option (List (Tgt × Pairs))) := [([((.op2 .lt (.var 3) (.cell 1 (.var 1) (.var 110))), true), ((.op2 .eq (.cell 8 (.var 1) (.var 110)) (.num 0)), true), ((.op2 .lt (.var 110) (.op1 .len (.var 1))), true), ((.op2 .lt (.var 110) (.num 0)), false)], some [((.again 0 []), [((.var 110), (.op1 (.wrap .i64) (.op2 .add (.var 110) (.num 1))))])]),
  ([((.op2 (.mat 1) (.app 24 [(.var 1), (.var 3)]) (.snoc .nil [(.op1 (.kind .i64) (.cell 0 (.var 1) (.var 110)))])), true), ((.op2 .mhas (.app 24 [(.var 1), (.var 3)]) (.snoc .nil [(.op1 (.kind .i64) (.cell 0 (.var 1) (.var 110)))])), true), ((.op2 .lt (.var 3) (.cell 1 (.var 1) (.var 110))), false), ((.op2 .eq (.cell 8 (.var 1) (.var 110)) (.num 0)), true), ((.op2 .lt (.var 110) (.op1 .len (.var 1))), true), ((.op2 .lt (.var 110) (.num 0)), false)], some [((.again 0 []), [((.var 110), (.op1 (.wrap .i64) (.op2 .add (.var 110) (.num 1))))])]),
  ([((.op2 (.mat 1) (.app 24 [(.var 1), (.var 3)]) (.snoc .nil [(.op1 (.kind .i64) (.cell 0 (.var 1) (.var 110)))])), false), ((.op2 .mhas (.app 24 [(.var 1), (.var 3)]) (.snoc .nil [(.op1 (.kind .i64) (.cell 0 (.var 1) (.var 110)))])), true), ((.op2 .lt (.var 3) (.cell 1 (.var 1) (.var 110))), false), ((.op2 .eq (.cell 8 (.var 1) (.var 110)) (.num 0)), true), ((.op2 .lt (.var 110) (.op1 .len (.var 1))), true), ((.op2 .lt (.var 110) (.num 0)), false)], some [((.again 1 [(112, 116)]), [((.op1 .len (.var 111)), (.num 1)), ((.var 110), (.op1 (.wrap .i64) (.op2 .add (.var 110) (.num 1)))), ((.var 111), (.snoc .nil [(.op1 (.kind .i64) (.cell 0 (.var 1) (.var 110))), (.op1 (.kind .i64) (.cell 1 (.var 1) (.var 110))), (.op1 (.kind .i64) (.cell 2 (.var 1) (.var 110))), (.op1 (.kind .i64) (.cell 3 (.var 1) (.var 110))), (.op1 (.kind .i64) (.cell 4 (.var 1) (.var 110))), (.op1 (.kind .i64) (.cell 5 (.var 1) (.var 110))), (.op1 (.kind .i64) (.cell 6 (.var 1) (.var 110))), (.op1 (.kind .i64) (.cell 7 (.var 1) (.var 110))), (.op1 (.kind .i64) (.cell 8 (.var 1) (.var 110)))]))])]),
  ([((.op2 .mhas (.app 24 [(.var 1), (.var 3)]) (.snoc .nil [(.op1 (.kind .i64) (.cell 0 (.var 1) (.var 110)))])), false), ((.op2 .lt (.var 3) (.cell 1 (.var 1) (.var 110))), false), ((.op2 .eq (.cell 8 (.var 1) (.var 110)) (.num 0)), true), ((.op2 .lt (.var 110) (.op1 .len (.var 1))), true), ((.op2 .lt (.var 110) (.num 0)), false)], some [((.again 1 [(112, 116)]), [((.op1 .len (.var 111)), (.num 1)), ((.var 110), (.op1 (.wrap .i64) (.op2 .add (.var 110) (.num 1)))), ((.var 111), (.snoc .nil [(.op1 (.kind .i64) (.cell 0 (.var 1) (.var 110))), (.op1 (.kind .i64) (.cell 1 (.var 1) (.var 110))), (.op1 (.kind .i64) (.cell 2 (.var 1) (.var 110))), (.op1 (.kind .i64) (.cell 3 (.var 1) (.var 110))), (.op1 (.kind .i64) (.cell 4 (.var 1) (.var 110))), (.op1 (.kind .i64) (.cell 5 (.var 1) (.var 110))), (.op1 (.kind .i64) (.cell 6 (.var 1) (.var 110))), (.op1 (.kind .i64) (.cell 7 (.var 1) (.var 110))), (.op1 (.kind .i64) (.cell 8 (.var 1) (.var 110)))]))])]),
  ([((.op2 .eq (.cell 8 (.var 1) (.var 110)) (.num 0)), false), ((.op2 .lt (.var 110) (.op1 .len (.var 1))), true), ((.op2 .lt (.var 110) (.num 0)), false)], some [((.again 0 []), [((.var 110), (.op1 (.wrap .i64) (.op2 .add (.var 110) (.num 1))))])]),
  ([((.op2 .lt (.var 110) (.op1 .len (.var 1))), false), ((.op2 .lt (.var 110) (.num 0)), false)], some [((.leave 0 []), [((.op2 .eq (.op1 .len (.app 21 [(.var 1), (.var 3)])) (.num 0)), (.boo true))])])]
theorem cnt0_w (r : Rho) : cnt_D.ways cnt_run E0 r 0 cnt0_F cnt0_t = some cnt0_l := by kernel_rfl
noncomputable def cnt1_t : FTree := (.fork (.op2 .lt (.var 110) (.op1 .len (.var 1))) (.fork (.op2 .eq (.cell 8 (.var 1) (.var 110)) (.num 0)) (.fork (.op2 .lt (.var 3) (.cell 1 (.var 1) (.var 110))) (.leaf [(.again 1 [(112, 112)])]) (.fork (.op2 .mhas (.app 24 [(.var 1), (.var 3)]) (.snoc .nil [(.op1 (.kind .i64) (.cell 0 (.var 1) (.var 110)))])) (.fork (.op2 (.mat 1) (.app 24 [(.var 1), (.var 3)]) (.snoc .nil [(.op1 (.kind .i64) (.cell 0 (.var 1) (.var 110)))])) (.leaf [(.again 1 [(112, 112)])]) (.fork (.op2 .lt (.num 1000000000) (.op2 .add (.op1 .len (.var 111)) (.num 1))) .bad (.leaf [(.again 1 [(112, 116)])]))) (.fork (.op2 .lt (.num 1000000000) (.op2 .add (.op1 .len (.var 111)) (.num 1))) .bad (.leaf [(.again 1 [(112, 116)])])))) (.leaf [(.again 1 [(112, 112)])])) (.leaf [(.leave 1 [(112, 112)])]))
noncomputable def cnt1_l : List (List (X × Bool) × Option (List (Tgt × Pairs))) := [([((.op2 .lt (.var 3) (.cell 1 (.var 1) (.var 110))), true), ((.op2 .eq (.cell 8 (.var 1) (.var 110)) (.num 0)), true), ((.op2 .lt (.var 110) (.op1 .len (.var 1))), true), ((.op2 .lt (.var 110) (.num 0)), false)], some [((.again 1 [(112, 112)]), [((.op1 .len (.var 111)), (.op1 .len (.var 111))), ((.var 110), (.op1 (.wrap .i64) (.op2 .add (.var 110) (.num 1)))), ((.var 111), (.var 111))])]),
  ([((.op2 (.mat 1) (.app 24 [(.var 1), (.var 3)]) (.snoc .nil [(.op1 (.kind .i64) (.cell 0 (.var 1) (.var 110)))])), true), ((.op2 .mhas (.app 24 [(.var 1), (.var 3)]) (.snoc .nil [(.op1 (.kind .i64) (.cell 0 (.var 1) (.var 110)))])), true), ((.op2 .lt (.var 3) (.cell 1 (.var 1) (.var 110))), false), ((.op2 .eq (.cell 8 (.var 1) (.var 110)) (.num 0)), true), ((.op2 .lt (.var 110) (.op1 .len (.var 1))), true), ((.op2 .lt (.var 110) (.num 0)), false)], some [((.again 1 [(112, 112)]), [((.op1 .len (.var 111)), (.op1 .len (.var 111))), ((.var 110), (.op1 (.wrap .i64) (.op2 .add (.var 110) (.num 1)))), ((.var 111), (.var 111))])]),
  ([((.op2 .lt (.num 1000000000) (.op2 .add (.op1 .len (.var 111)) (.num 1))), true), ((.op2 (.mat 1) (.app 24 [(.var 1), (.var 3)]) (.snoc .nil [(.op1 (.kind .i64) (.cell 0 (.var 1) (.var 110)))])), false), ((.op2 .mhas (.app 24 [(.var 1), (.var 3)]) (.snoc .nil [(.op1 (.kind .i64) (.cell 0 (.var 1) (.var 110)))])), true), ((.op2 .lt (.var 3) (.cell 1 (.var 1) (.var 110))), false), ((.op2 .eq (.cell 8 (.var 1) (.var 110)) (.num 0)), true), ((.op2 .lt (.var 110) (.op1 .len (.var 1))), true), ((.op2 .lt (.var 110) (.num 0)), false)], none),
  ([((.op2 .lt (.num 1000000000) (.op2 .add (.op1 .len (.var 111)) (.num 1))), false), ((.op2 (.mat 1) (.app 24 [(.var 1), (.var 3)]) (.snoc .nil [(.op1 (.kind .i64) (.cell 0 (.var 1) (.var 110)))])), false), ((.op2 .mhas (.app 24 [(.var 1), (.var 3)]) (.snoc .nil [(.op1 (.kind .i64) (.cell 0 (.var 1) (.var 110)))])), true), ((.op2 .lt (.var 3) (.cell 1 (.var 1) (.var 110))), false), ((.op2 .eq (.cell 8 (.var 1) (.var 110)) (.num 0)), true), ((.op2 .lt (.var 110) (.op1 .len (.var 1))), true), ((.op2 .lt (.var 110) (.num 0)), false)], some [((.again 1 [(112, 116)]), [((.op1 .len (.var 111)), (.op2 .add (.op1 .len (.var 111)) (.num 1))), ((.var 110), (.op1 (.wrap .i64) (.op2 .add (.var 110) (.num 1)))), ((.var 111), (.snoc (.var 111) [(.op1 (.kind .i64) (.cell 0 (.var 1) (.var 110))), (.op1 (.kind .i64) (.cell 1 (.var 1) (.var 110))), (.op1 (.kind .i64) (.cell 2 (.var 1) (.var 110))), (.op1 (.kind .i64) (.cell 3 (.var 1) (.var 110))), (.op1 (.kind .i64) (.cell 4 (.var 1) (.var 110))), (.op1 (.kind .i64) (.cell 5 (.var 1) (.var 110))), (.op1 (.kind .i64) (.cell 6 (.var 1) (.var 110))), (.op1 (.kind .i64) (.cell 7 (.var 1) (.var 110))), (.op1 (.kind .i64) (.cell 8 (.var 1) (.var 110)))]))])]),
  ([((.op2 .lt (.num 1000000000) (.op2 .add (.op1 .len (.var 111)) (.num 1))), true), ((.op2 .mhas (.app 24 [(.var 1), (.var 3)]) (.snoc .nil [(.op1 (.kind .i64) (.cell 0 (.var 1) (.var 110)))])), false), ((.op2 .lt (.var 3) (.cell 1 (.var 1) (.var 110))), false), ((.op2 .eq (.cell 8 (.var 1) (.var 110)) (.num 0)), true), ((.op2 .lt (.var 110) (.op1 .len (.var 1))), true), ((.op2 .lt (.var 110) (.num 0)), false)], none),
  ([((.op2 .lt (.num 1000000000) (.op2 .add (.op1 .len (.var 111)) (.num 1))), false), ((.op2 .mhas (.app 24 [(.var 1), (.var 3)]) (.snoc .nil [(.op1 (.kind .i64) (.cell 0 (.var 1) (.var 110)))])), false), ((.op2 .lt (.var 3) (.cell 1 (.var 1) (.var 110))), false), ((.op2 .eq (.cell 8 (.var 1) (.var 110)) (.num 0)), true), ((.op2 .lt (.var 110) (.op1 .len (.var 1))), true), ((.op2 .lt (.var 110) (.num 0)), false)], some [((.again 1 [(112, 116)]), [((.op1 .len (.var 111)), (.op2 .add (.op1 .len (.var 111)) (.num 1))), ((.var 110), (.op1 (.wrap .i64) (.op2 .add (.var 110) (.num 1)))), ((.var 111), (.snoc (.var 111) [(.op1 (.kind .i64) (.cell 0 (.var 1) (.var 110))), (.op1 (.kind .i64) (.cell 1 (.var 1) (.var 110))), (.op1 (.kind .i64) (.cell 2 (.var 1) (.var 110))), (.op1 (.kind .i64) (.cell 3 (.var 1) (.var 110))), (.op1 (.kind .i64) (.cell 4 (.var 1) (.var 110))), (.op1 (.kind .i64) (.cell 5 (.var 1) (.var 110))), (.op1 (.kind .i64) (.cell 6 (.var 1) (.var 110))), (.op1 (.kind .i64) (.cell 7 (.var 1) (.var 110))), (.op1 (.kind .i64) (.cell 8 (.var 1) (.var 110)))]))])]),
  ([((.op2 .eq (.cell 8 (.var 1) (.var 110)) (.num 0)), false), ((.op2 .lt (.var 110) (.op1 .len (.var 1))), true), ((.op2 .lt (.var 110) (.num 0)), false)], some [((.again 1 [(112, 112)]), [((.op1 .len (.var 111)), (.op1 .len (.var 111))), ((.var 110), (.op1 (.wrap .i64) (.op2 .add (.var 110) (.num 1)))), ((.var 111), (.var 111))])]),
  ([((.op2 .lt (.var 110) (.op1 .len (.var 1))), false), ((.op2 .lt (.var 110) (.num 0)), false)], some [((.leave 1 [(112, 112)]), [((.op1 .len (.app 21 [(.var 1), (.var 3)])), (.op1 .len (.var 111))), ((.app 21 [(.var 1), (.var 3)]), (.var 111)), ((.op1 .not (.op2 .eq (.op1 .len (.app 21 [(.var 1), (.var 3)])) (.num 0))), (.boo true))])])]
theorem cnt1_w (r : Rho) : cnt_D.ways cnt_run E0 r 1 cnt1_F cnt1_t = some cnt1_l := by kernel_rfl
theorem cnt_ok : cnt_D.ok = true := by kernel_rfl
def cnt_Inv (l : List Wind) (known : Int) (j : Nat) (vals : List Value) : Prop := ∃ i : Nat, i ≤ l.length ∧ ((j = 0 ∧ vals = [.int .i64 i] ∧ (l.take i).filter (countsB l known) = []) ∨ (j = 1 ∧ vals = [.int .i64 i, windsR ((l.take i).filter (countsB l known))] ∧ (l.take i).filter (countsB l known) ≠ []))
def cnt_mu (l : List Wind) (_ : Nat) (vals : List Value) : Nat := l.length - (vI (vals.getD 0 default)).toNat
theorem cnt_step0 {ρ : Rho} {l : List Wind} {kk : IntKind} {known : Int} (h1 : ρ.val 1 = some (windsR l)) (h3 : ρ.val 3 = some (.int kk known)) (hsy : ρ.sym = sy) (hck : (checkR l).2 = 0) {i : Nat} (hi : i ≤ l.length) (hc : (l.take i).filter (countsB l known) = []) :
    StepOk cnt_D cnt_run E0 ρ (cnt_Inv l known) (cnt_mu l) 0 [.int .i64 i] := by
  have hN : cnt_D.N = 110 := rfl
  have hmax := check_len hck
  have v1 : (ρ.ext cnt_D.N [.int .i64 i]).val 1 = some (windsR l) := by rw [ext_low _ _ _ _ (by rw [hN]; omega)]; exact h1
  have v3 : (ρ.ext cnt_D.N [.int .i64 i]).val 3 = some (.int kk known) := by rw [ext_low _ _ _ _ (by rw [hN]; omega)]; exact h3
  have v110 : (ρ.ext cnt_D.N [.int .i64 i]).val 110 = some (.int .i64 i) := by rw [ext_high _ _ _ _ (by rw [hN]; omega)]; rfl
  have vs : (ρ.ext cnt_D.N [.int .i64 i]).sym = sy := hsy

  have hF : FactsIn (ρ.ext cnt_D.N [.int .i64 i]) cnt0_F := by
    simp only [cnt0_F, FactsIn, X.bool, X.den, denL, d_wrap, d_kind, d_not, d_neg, d_slen, d_add, d_sub, d_mul, d_div, d_mod, d_lt, d_le, d_eq, d_eqb, d_eqs, d_lts, d_cat, d_sat, d_and, d_or, denSub, denIte, asB, winds_len, winds_cell, winds_lsub, v110, Option.some.injEq, Value.bool.injEq, decide_eq_false_iff_not, and_true]
    omega
  suffices both : AsksL (ρ.ext cnt_D.N [.int .i64 i]) (cnt0_t.asks cnt0_F) ∧ WaysOk cnt_D ρ (cnt_Inv l known) (cnt_mu l) 0 [.int .i64 i] cnt0_l from step_of_ways (cnt0_w _) hF both.1.ok both.2
  cases hp : l[i]? with
  | none =>
    have hge := List.getElem?_eq_none_iff.1 hp
    have hge' : ¬ (i : Int) < l.length := by omega
    have hl : (l.take i).filter (countsB l known) = countR l known := by rw [List.take_of_length_le hge]; rfl
    refine ⟨?_, ?_⟩
    · simp only [cnt0_t, cnt0_F, AsksL, GTree.asks, FTree.asks, FactsIn, List.append_nil, List.nil_append, List.cons_append, Option.some.injEq, exists_eq', implies_true, and_self, X.bool, X.den, denL, d_wrap, d_kind, d_not, d_neg, d_slen, d_add, d_sub, d_mul, d_div, d_mod, d_lt, d_le, d_eq, d_eqb, d_eqs, d_lts, d_cat, d_sat, d_and, d_or, denSub, denIte, asB, winds_len, winds_cell, winds_lsub, winds_snoc, winds_snoc0, snoc_nil, d_mhas, d_mat, d_mput, List.take_succ_cons, List.take_zero, v1, v3, v110, vs, sym6, sym20, sym21, sym24, Int.toNat_natCast, hp, hge']
      try simp
    · rw [hl] at hc
      simp only [cnt0_l, EndsOk, WaysOk, forall_cons, forall_nil, TgtOk, gpair, FactsIn, hold_cons, hold_nil, Option.some.injEq, Value.bool.injEq, Value.int.injEq, decide_eq_true_eq, decide_eq_false_iff_not, and_true, true_and, and_imp, X.bool, X.den, denL, d_wrap, d_kind, d_not, d_neg, d_slen, d_add, d_sub, d_mul, d_div, d_mod, d_lt, d_le, d_eq, d_eqb, d_eqs, d_lts, d_cat, d_sat, d_and, d_or, denSub, denIte, asB, winds_len, winds_cell, winds_lsub, beq_iff_eq, beq_eq_false_iff_ne, ne_eq, winds_snoc, winds_snoc0, snoc_nil, d_mhas, d_mat, d_mput, List.take_succ_cons, List.take_zero, v1, v3, v110, vs, h1, h3, hsy, sym6, sym20, sym21, sym24, Int.toNat_natCast, hp, hge']
      simp [hl, hc]
  | some p =>
    have hlt : i < l.length := (List.getElem?_eq_some_iff.1 hp).1
    have hlt1 : (i : Int) < l.length := by omega
    have hnext : l.take (i + 1) = l.take i ++ [p] := by rw [List.take_add_one, hp]; rfl
    have hw : IntKind.i64.wrap ((i : Int) + 1) = ((i + 1 : Nat) : Int) := IntWalk.i64_in _ (by omega)
    have go0 : countsB l known p = false → (l.take (i + 1)).filter (countsB l known) = (l.take i).filter (countsB l known) := fun h => by rw [hnext, count_snoc, h]; rfl
    have go1 : countsB l known p = true → (l.take (i + 1)).filter (countsB l known) = (l.take i).filter (countsB l known) ++ [p] := fun h => by rw [hnext, count_snoc, if_pos h]

    have st : countsB l known p = false → ∃ vals', (ρ.ext cnt_D.N vals').val 110 = some (.int .i64 (IntKind.i64.wrap ((i : Int) + 1))) ∧ cnt_Inv l known 0 vals' ∧ cnt_mu l 0 vals' < cnt_mu l 0 [.int .i64 i] := fun h =>
      ⟨[.int .i64 ((i + 1 : Nat) : Int)], (by rw [ext_high _ _ _ _ (by rw [hN]; omega), hw]; rfl), ⟨i + 1, by omega, .inl ⟨rfl, rfl, by rw [go0 h]; exact hc⟩⟩, by simp [cnt_mu, vI]; omega⟩
    have ad : countsB l known p = true → ∃ vals', ((match (ρ.ext cnt_D.N vals').val 111 with | some v => den1 .len v | none => none) = some (.int .i64 (1)) ∧ (ρ.ext cnt_D.N vals').val 110 = some (.int .i64 (IntKind.i64.wrap ((i : Int) + 1))) ∧ (ρ.ext cnt_D.N vals').val 111 = some (rowsV [[.int .i64 p.id, .int .i64 p.known, .int .i64 p.from_, .int .i64 p.until_, .int .i64 p.al, .int .i64 p.ah, .int .i64 p.sl, .int .i64 p.sh, .int .i64 p.of_]])) ∧ cnt_Inv l known 1 vals' ∧ cnt_mu l 1 vals' < cnt_mu l 0 [.int .i64 i] := fun h => by
      have e : (l.take (i + 1)).filter (countsB l known) = [p] := by rw [go1 h, hc]; rfl
      have e111 : (ρ.ext cnt_D.N [.int .i64 ((i + 1 : Nat) : Int), windsR ((l.take (i + 1)).filter (countsB l known))]).val 111 = some (windsR ((l.take (i + 1)).filter (countsB l known))) := by rw [ext_high _ _ _ _ (by rw [hN]; omega)]; rfl
      refine ⟨[.int .i64 ((i + 1 : Nat) : Int), windsR ((l.take (i + 1)).filter (countsB l known))], ?_, ⟨i + 1, by omega, .inr ⟨rfl, rfl, by rw [e]; simp⟩⟩, by simp [cnt_mu, vI]; omega⟩
      have n110 : (ρ.ext cnt_D.N [.int .i64 ((i + 1 : Nat) : Int), windsR ((l.take (i + 1)).filter (countsB l known))]).val 110 = some (.int .i64 (IntKind.i64.wrap ((i : Int) + 1))) := (by rw [ext_high _ _ _ _ (by rw [hN]; omega), hw]; rfl)
      exact ⟨by rw [e111, e]; exact winds_len [p], n110, by rw [e111, e]; rfl⟩
    have hcl : ((l.take i).filter (countsB l known)).length ≤ i := Nat.le_trans (List.length_filter_le _ _) (by simp; omega)
    have hno1 : ¬ p.of_ = 0 → countsB l known p = false := fun h => by simp [countsB_is, h]
    have hno2 : known < p.known → countsB l known p = false := fun h => by simp [countsB_is]; intro _ _; omega
    have hno3 : goneW l known p.id = true → countsB l known p = false := fun h => by simp [countsB_is, h]
    have hyes : p.of_ = 0 → p.known ≤ known → goneW l known p.id = false → countsB l known p = true := fun h1 h2 h3 => by simp [countsB_is, h1, h2, h3]
    have hhas := void_has l known p.id (check_id hck (List.mem_of_getElem? hp))
    have hat := void_at l known p.id
    cases hg : goneW l known p.id
    all_goals (rw [hg] at hhas)
    all_goals (simp only [hhas, true_implies, reduceCtorEq, false_implies] at hat)
    all_goals (refine ⟨?_, ?_⟩)
    all_goals (simp only [cnt0_t, cnt0_F, cnt0_l, AsksL, GTree.asks, FTree.asks, FactsIn, List.append_nil, List.nil_append, List.cons_append, Option.some.injEq, exists_eq', implies_true, and_self, X.bool, X.den, denL, d_wrap, d_kind, d_not, d_neg, d_slen, d_add, d_sub, d_mul, d_div, d_mod, d_lt, d_le, d_eq, d_eqb, d_eqs, d_lts, d_cat, d_sat, d_and, d_or, denSub, denIte, asB, winds_len, winds_cell, winds_lsub, winds_snoc, winds_snoc0, snoc_nil, d_mhas, d_mat, d_mput, List.take_succ_cons, List.take_zero, EndsOk, WaysOk, forall_cons, forall_nil, TgtOk, gpair, FactsIn, hold_cons, hold_nil, Option.some.injEq, Value.bool.injEq, Value.int.injEq, decide_eq_true_eq, decide_eq_false_iff_not, and_true, true_and, and_imp, X.bool, X.den, denL, d_wrap, d_kind, d_not, d_neg, d_slen, d_add, d_sub, d_mul, d_div, d_mod, d_lt, d_le, d_eq, d_eqb, d_eqs, d_lts, d_cat, d_sat, d_and, d_or, denSub, denIte, asB, winds_len, winds_cell, winds_lsub, beq_iff_eq, beq_eq_false_iff_ne, ne_eq, winds_snoc, winds_snoc0, snoc_nil, d_mhas, d_mat, d_mput, List.take_succ_cons, List.take_zero, v1, v3, v110, vs, h1, h3, hsy, sym6, sym20, sym21, sym24, Int.toNat_natCast, hp, Option.bind_some, wind0, wind1, wind2, wind3, wind4, wind5, wind6, wind7, wind8, hlt1, hhas, hat, reduceCtorEq, false_implies, implies_true, true_implies, and_self])
    all_goals (clear v1 v3 v110 vs h1 h3 hsy hp hF)
    all_goals ((repeat' apply And.intro) <;> intros <;> first
      | (exfalso; omega)
      | (exact absurd trivial (by assumption))
      | (exact st (by first | exact hno1 (by omega) | exact hno2 (by omega) | exact hno3 hg))
      | (exact ad (by exact hyes (by omega) (by omega) hg)))

theorem cnt_step1 {ρ : Rho} {l : List Wind} {kk : IntKind} {known : Int} (h1 : ρ.val 1 = some (windsR l)) (h3 : ρ.val 3 = some (.int kk known)) (hsy : ρ.sym = sy) (hck : (checkR l).2 = 0) {i : Nat} (hi : i ≤ l.length) (hc : (l.take i).filter (countsB l known) ≠ []) :
    StepOk cnt_D cnt_run E0 ρ (cnt_Inv l known) (cnt_mu l) 1 [.int .i64 i, windsR ((l.take i).filter (countsB l known))] := by
  have hN : cnt_D.N = 110 := rfl
  have hmax := check_len hck
  have v1 : (ρ.ext cnt_D.N [.int .i64 i, windsR ((l.take i).filter (countsB l known))]).val 1 = some (windsR l) := by rw [ext_low _ _ _ _ (by rw [hN]; omega)]; exact h1
  have v3 : (ρ.ext cnt_D.N [.int .i64 i, windsR ((l.take i).filter (countsB l known))]).val 3 = some (.int kk known) := by rw [ext_low _ _ _ _ (by rw [hN]; omega)]; exact h3
  have v110 : (ρ.ext cnt_D.N [.int .i64 i, windsR ((l.take i).filter (countsB l known))]).val 110 = some (.int .i64 i) := by rw [ext_high _ _ _ _ (by rw [hN]; omega)]; rfl
  have v111 : (ρ.ext cnt_D.N [.int .i64 i, windsR ((l.take i).filter (countsB l known))]).val 111 = some (windsR ((l.take i).filter (countsB l known))) := by rw [ext_high _ _ _ _ (by rw [hN]; omega)]; rfl
  have vs : (ρ.ext cnt_D.N [.int .i64 i, windsR ((l.take i).filter (countsB l known))]).sym = sy := hsy

  have hF : FactsIn (ρ.ext cnt_D.N [.int .i64 i, windsR ((l.take i).filter (countsB l known))]) cnt1_F := by
    simp only [cnt1_F, FactsIn, X.bool, X.den, denL, d_wrap, d_kind, d_not, d_neg, d_slen, d_add, d_sub, d_mul, d_div, d_mod, d_lt, d_le, d_eq, d_eqb, d_eqs, d_lts, d_cat, d_sat, d_and, d_or, denSub, denIte, asB, winds_len, winds_cell, winds_lsub, v110, Option.some.injEq, Value.bool.injEq, decide_eq_false_iff_not, and_true]
    omega
  suffices both : AsksL (ρ.ext cnt_D.N [.int .i64 i, windsR ((l.take i).filter (countsB l known))]) (cnt1_t.asks cnt1_F) ∧ WaysOk cnt_D ρ (cnt_Inv l known) (cnt_mu l) 1 [.int .i64 i, windsR ((l.take i).filter (countsB l known))] cnt1_l from step_of_ways (cnt1_w _) hF both.1.ok both.2
  cases hp : l[i]? with
  | none =>
    have hge := List.getElem?_eq_none_iff.1 hp
    have hge' : ¬ (i : Int) < l.length := by omega
    have hl : (l.take i).filter (countsB l known) = countR l known := by rw [List.take_of_length_le hge]; rfl
    refine ⟨?_, ?_⟩
    · simp only [cnt1_t, cnt1_F, AsksL, GTree.asks, FTree.asks, FactsIn, List.append_nil, List.nil_append, List.cons_append, Option.some.injEq, exists_eq', implies_true, and_self, X.bool, X.den, denL, d_wrap, d_kind, d_not, d_neg, d_slen, d_add, d_sub, d_mul, d_div, d_mod, d_lt, d_le, d_eq, d_eqb, d_eqs, d_lts, d_cat, d_sat, d_and, d_or, denSub, denIte, asB, winds_len, winds_cell, winds_lsub, winds_snoc, winds_snoc0, snoc_nil, d_mhas, d_mat, d_mput, List.take_succ_cons, List.take_zero, v1, v3, v110, v111, vs, sym6, sym20, sym21, sym24, Int.toNat_natCast, hp, hge']
      try simp
    · rw [hl] at hc
      simp only [cnt1_l, EndsOk, WaysOk, forall_cons, forall_nil, TgtOk, gpair, FactsIn, hold_cons, hold_nil, Option.some.injEq, Value.bool.injEq, Value.int.injEq, decide_eq_true_eq, decide_eq_false_iff_not, and_true, true_and, and_imp, X.bool, X.den, denL, d_wrap, d_kind, d_not, d_neg, d_slen, d_add, d_sub, d_mul, d_div, d_mod, d_lt, d_le, d_eq, d_eqb, d_eqs, d_lts, d_cat, d_sat, d_and, d_or, denSub, denIte, asB, winds_len, winds_cell, winds_lsub, beq_iff_eq, beq_eq_false_iff_ne, ne_eq, winds_snoc, winds_snoc0, snoc_nil, d_mhas, d_mat, d_mput, List.take_succ_cons, List.take_zero, v1, v3, v110, v111, vs, h1, h3, hsy, sym6, sym20, sym21, sym24, Int.toNat_natCast, hp, hge']
      simp [hl, hc]
  | some p =>
    have hlt : i < l.length := (List.getElem?_eq_some_iff.1 hp).1
    have hlt1 : (i : Int) < l.length := by omega
    have hnext : l.take (i + 1) = l.take i ++ [p] := by rw [List.take_add_one, hp]; rfl
    have hw : IntKind.i64.wrap ((i : Int) + 1) = ((i + 1 : Nat) : Int) := IntWalk.i64_in _ (by omega)
    have go0 : countsB l known p = false → (l.take (i + 1)).filter (countsB l known) = (l.take i).filter (countsB l known) := fun h => by rw [hnext, count_snoc, h]; rfl
    have go1 : countsB l known p = true → (l.take (i + 1)).filter (countsB l known) = (l.take i).filter (countsB l known) ++ [p] := fun h => by rw [hnext, count_snoc, if_pos h]

    have st : countsB l known p = false → ∃ vals', ((match (ρ.ext cnt_D.N vals').val 111 with | some v => den1 .len v | none => none) = some (.int .i64 ((((l.take i).filter (countsB l known)).length : Int))) ∧ (ρ.ext cnt_D.N vals').val 110 = some (.int .i64 (IntKind.i64.wrap ((i : Int) + 1))) ∧ (ρ.ext cnt_D.N vals').val 111 = some (windsR ((l.take i).filter (countsB l known)))) ∧ cnt_Inv l known 1 vals' ∧ cnt_mu l 1 vals' < cnt_mu l 1 [.int .i64 i, windsR ((l.take i).filter (countsB l known))] := fun h => by
      have e111 : (ρ.ext cnt_D.N [.int .i64 ((i + 1 : Nat) : Int), windsR ((l.take (i + 1)).filter (countsB l known))]).val 111 = some (windsR ((l.take (i + 1)).filter (countsB l known))) := by rw [ext_high _ _ _ _ (by rw [hN]; omega)]; rfl
      refine ⟨[.int .i64 ((i + 1 : Nat) : Int), windsR ((l.take (i + 1)).filter (countsB l known))], ?_, ⟨i + 1, by omega, .inr ⟨rfl, rfl, by rw [go0 h]; exact hc⟩⟩, by simp [cnt_mu, vI]; omega⟩
      have n110 : (ρ.ext cnt_D.N [.int .i64 ((i + 1 : Nat) : Int), windsR ((l.take (i + 1)).filter (countsB l known))]).val 110 = some (.int .i64 (IntKind.i64.wrap ((i : Int) + 1))) := (by rw [ext_high _ _ _ _ (by rw [hN]; omega), hw]; rfl)
      exact ⟨by rw [e111, go0 h]; exact winds_len _, n110, by rw [e111, go0 h]⟩
    have ad : countsB l known p = true → ∃ vals', ((match (ρ.ext cnt_D.N vals').val 111 with | some v => den1 .len v | none => none) = some (.int .i64 ((((l.take i).filter (countsB l known)).length : Int) + 1)) ∧ (ρ.ext cnt_D.N vals').val 110 = some (.int .i64 (IntKind.i64.wrap ((i : Int) + 1))) ∧ (ρ.ext cnt_D.N vals').val 111 = some (windsR ((l.take i).filter (countsB l known) ++ [p]))) ∧ cnt_Inv l known 1 vals' ∧ cnt_mu l 1 vals' < cnt_mu l 1 [.int .i64 i, windsR ((l.take i).filter (countsB l known))] := fun h => by
      have e111 : (ρ.ext cnt_D.N [.int .i64 ((i + 1 : Nat) : Int), windsR ((l.take (i + 1)).filter (countsB l known))]).val 111 = some (windsR ((l.take (i + 1)).filter (countsB l known))) := by rw [ext_high _ _ _ _ (by rw [hN]; omega)]; rfl
      refine ⟨[.int .i64 ((i + 1 : Nat) : Int), windsR ((l.take (i + 1)).filter (countsB l known))], ?_, ⟨i + 1, by omega, .inr ⟨rfl, rfl, by rw [go1 h]; simp⟩⟩, by simp [cnt_mu, vI]; omega⟩
      have n110 : (ρ.ext cnt_D.N [.int .i64 ((i + 1 : Nat) : Int), windsR ((l.take (i + 1)).filter (countsB l known))]).val 110 = some (.int .i64 (IntKind.i64.wrap ((i : Int) + 1))) := (by rw [ext_high _ _ _ _ (by rw [hN]; omega), hw]; rfl)
      exact ⟨by rw [e111, go1 h]; exact (winds_len _).trans (by simp), n110, by rw [e111, go1 h]⟩
    have hcl : ((l.take i).filter (countsB l known)).length ≤ i := Nat.le_trans (List.length_filter_le _ _) (by simp; omega)
    have hno1 : ¬ p.of_ = 0 → countsB l known p = false := fun h => by simp [countsB_is, h]
    have hno2 : known < p.known → countsB l known p = false := fun h => by simp [countsB_is]; intro _ _; omega
    have hno3 : goneW l known p.id = true → countsB l known p = false := fun h => by simp [countsB_is, h]
    have hyes : p.of_ = 0 → p.known ≤ known → goneW l known p.id = false → countsB l known p = true := fun h1 h2 h3 => by simp [countsB_is, h1, h2, h3]
    have hhas := void_has l known p.id (check_id hck (List.mem_of_getElem? hp))
    have hat := void_at l known p.id
    cases hg : goneW l known p.id
    all_goals (rw [hg] at hhas)
    all_goals (simp only [hhas, true_implies, reduceCtorEq, false_implies] at hat)
    all_goals (refine ⟨?_, ?_⟩)
    all_goals (simp only [cnt1_t, cnt1_F, cnt1_l, AsksL, GTree.asks, FTree.asks, FactsIn, List.append_nil, List.nil_append, List.cons_append, Option.some.injEq, exists_eq', implies_true, and_self, X.bool, X.den, denL, d_wrap, d_kind, d_not, d_neg, d_slen, d_add, d_sub, d_mul, d_div, d_mod, d_lt, d_le, d_eq, d_eqb, d_eqs, d_lts, d_cat, d_sat, d_and, d_or, denSub, denIte, asB, winds_len, winds_cell, winds_lsub, winds_snoc, winds_snoc0, snoc_nil, d_mhas, d_mat, d_mput, List.take_succ_cons, List.take_zero, EndsOk, WaysOk, forall_cons, forall_nil, TgtOk, gpair, FactsIn, hold_cons, hold_nil, Option.some.injEq, Value.bool.injEq, Value.int.injEq, decide_eq_true_eq, decide_eq_false_iff_not, and_true, true_and, and_imp, X.bool, X.den, denL, d_wrap, d_kind, d_not, d_neg, d_slen, d_add, d_sub, d_mul, d_div, d_mod, d_lt, d_le, d_eq, d_eqb, d_eqs, d_lts, d_cat, d_sat, d_and, d_or, denSub, denIte, asB, winds_len, winds_cell, winds_lsub, beq_iff_eq, beq_eq_false_iff_ne, ne_eq, winds_snoc, winds_snoc0, snoc_nil, d_mhas, d_mat, d_mput, List.take_succ_cons, List.take_zero, v1, v3, v110, v111, vs, h1, h3, hsy, sym6, sym20, sym21, sym24, Int.toNat_natCast, hp, Option.bind_some, wind0, wind1, wind2, wind3, wind4, wind5, wind6, wind7, wind8, hlt1, hhas, hat, reduceCtorEq, false_implies, implies_true, true_implies, and_self])
    all_goals (clear v1 v3 v110 v111 vs h1 h3 hsy hp hF)
    all_goals ((repeat' apply And.intro) <;> intros <;> first
      | (exfalso; omega)
      | (exact absurd trivial (by assumption))
      | (exact st (by first | exact hno1 (by omega) | exact hno2 (by omega) | exact hno3 hg))
      | (exact ad (by exact hyes (by omega) (by omega) hg)))

theorem cnt_step {ρ : Rho} {l : List Wind} {kk : IntKind} {known : Int} (h1 : ρ.val 1 = some (windsR l)) (h3 : ρ.val 3 = some (.int kk known)) (hsy : ρ.sym = sy) (hck : (checkR l).2 = 0) (j : Nat) (vals : List Value) (hI : cnt_Inv l known j vals) :
    StepOk cnt_D cnt_run E0 ρ (cnt_Inv l known) (cnt_mu l) j vals := by
  obtain ⟨i, hi, ⟨rfl, rfl, hc⟩ | ⟨rfl, rfl, hc⟩⟩ := hI
  · exact cnt_step0 h1 h3 hsy hck hi hc
  · exact cnt_step1 h1 h3 hsy hck hi hc

noncomputable def cCountNo_con : Con := { f := 40, args := [windsArg 0 0, .one (.int .i64 3)], N := 1, M := 1, pre := [(.app 20 [.var 1], true), (.op2 .eq (.app 6 [.var 1]) (.num 0), true), (.op2 .eq (.op1 .len (.app 21 [.var 1, .var 3])) (.num 0), true)], out := .nilslice, news := [] }
noncomputable def cCountNo_call : Env → CallL := fun E => acallAll E (evH E (noL E) ((fun E => oneH 40 (hooks [(3, vds_D.hook E.facts vds_vs), (10, cnt_D.hook E.facts cnt_vs)])) E) 8)
noncomputable def cCountNo_t : GTree := (.leaf [[]])
noncomputable def cCountNo_l : List (List (X × Bool) × Option Pairs) := [([((.app 20 [(.var 1)]), true), ((.op2 .eq (.app 6 [(.var 1)]) (.num 0)), true), ((.op2 .eq (.op1 .len (.app 21 [(.var 1), (.var 3)])) (.num 0)), true)], some [])]
theorem cCountNo_w (r : Rho) : cCountNo_con.fn.ways cCountNo_call E0 r cCountNo_con.pre cCountNo_t = some cCountNo_l := by kernel_rfl
theorem cnt_H {r : Rho} {l : List Wind} {kk : IntKind} {known : Int} (h1 : r.val 1 = some (windsR l)) (h3 : r.val 3 = some (.int kk known)) (hsy : r.sym = sy) (F : List (X × Bool)) :
    LoopsOk (E0.with F r) (oneH 40 (hooks [(3, vds_D.hook (E0.with F r).facts vds_vs), (10, cnt_D.hook (E0.with F r).facts cnt_vs)])) := by
  refine loops_all (n := 2) (fun f fn h => h) (by kernel_rfl) fun i hi => ?_
  have h01 : i = 0 ∨ i = 1 := by omega
  rcases h01 with rfl | rfl
  · rw [hooks_hit (show keyOf (loopAt (E0.with F r).P 40 0) = 3 by kernel_rfl)]
    refine hook_ok (E₀ := E0) (run := vds_run) (ρ := r) (Inv := vds_Inv l known) (μ := vds_mu l) E0_ok vds_ok (fun F r' h => ?_) (fun hpre => ⟨vds_step h1 h3 hsy (by have := hpre; simp only [vds_D, FactsIn, X.bool, X.den, denL, d_wrap, d_kind, d_not, d_neg, d_slen, d_add, d_sub, d_mul, d_div, d_mod, d_lt, d_le, d_eq, d_eqb, d_eqs, d_lts, d_cat, d_sat, d_and, d_or, denSub, denIte, asB, winds_len, winds_cell, winds_lsub, h1, hsy, sym6, Option.some.injEq, Value.bool.injEq, decide_eq_true_eq, beq_iff_eq, and_true] at this; exact this), [.int .i64 0, .tuple #[]], ?_, rfl, 0, Nat.zero_le _, rfl⟩)
    · exact bodyRun_ok E0_ok (noL_ok F (h.trans hsy)) fun _ _ => noLoop_ok
    · simp only [vds_vs, X.bool, X.den, denL, d_wrap, d_kind, d_not, d_neg, d_slen, d_add, d_sub, d_mul, d_div, d_mod, d_lt, d_le, d_eq, d_eqb, d_eqs, d_lts, d_cat, d_sat, d_and, d_or, denSub, denIte, asB, winds_len, winds_cell, winds_lsub]
  · rw [hooks_miss (show Nat.beq (keyOf (loopAt (E0.with F r).P 40 1)) 3 = false by kernel_rfl), hooks_hit (show keyOf (loopAt (E0.with F r).P 40 1) = 10 by kernel_rfl)]
    refine hook_ok (E₀ := E0) (run := cnt_run) (ρ := r) (Inv := cnt_Inv l known) (μ := cnt_mu l) E0_ok cnt_ok (fun F r' h => ?_) (fun hpre => ⟨cnt_step h1 h3 hsy (by have := hpre; simp only [cnt_D, FactsIn, X.bool, X.den, denL, d_wrap, d_kind, d_not, d_neg, d_slen, d_add, d_sub, d_mul, d_div, d_mod, d_lt, d_le, d_eq, d_eqb, d_eqs, d_lts, d_cat, d_sat, d_and, d_or, denSub, denIte, asB, winds_len, winds_cell, winds_lsub, h1, hsy, sym6, Option.some.injEq, Value.bool.injEq, decide_eq_true_eq, beq_iff_eq, and_true] at this; exact this), [.int .i64 0], ?_, 0, Nat.zero_le _, .inl ⟨rfl, rfl, rfl⟩⟩)
    · exact bodyRun_ok E0_ok (noL_ok F (h.trans hsy)) fun _ _ => noLoop_ok
    · simp only [cnt_vs, X.bool, X.den, denL, d_wrap, d_kind, d_not, d_neg, d_slen, d_add, d_sub, d_mul, d_div, d_mod, d_lt, d_le, d_eq, d_eqb, d_eqs, d_lts, d_cat, d_sat, d_and, d_or, denSub, denIte, asB, winds_len, winds_cell, winds_lsub]
theorem cCountNo_cok : cCountNo_con.Ok Tryz.prog sy := by
  intro r σ w us hsy hρ hpre hrel hins
  obtain ⟨u0, us, rfl, g0, hi⟩ := ins_cons hins
  obtain ⟨u1, us, rfl, g1, hi⟩ := ins_cons hi
  obtain ⟨known, kk, rfl, h3⟩ := one_int g1
  obtain ⟨l, h1⟩ := winds_at hrel (i := 0) rfl
  rw [hρ] at h1 h3
  have h1 : r.val 1 = some (windsR l) := h1
  refine con_of (E := E0) E0_ok E0_glob (sy := sy) (fun F => noL_ok F hsy) (fun F => cnt_H h1 h3 hsy F) (cCountNo_w r) hρ hpre hrel hins ?_ ?_
  · simp only [cCountNo_con, cCountNo_t, AsksL, GTree.asks, FTree.asks, FactsIn, List.append_nil, List.nil_append, List.cons_append, Option.some.injEq, exists_eq', implies_true, and_self, X.bool, X.den, denL, d_wrap, d_kind, d_not, d_neg, d_slen, d_add, d_sub, d_mul, d_div, d_mod, d_lt, d_le, d_eq, d_eqb, d_eqs, d_lts, d_cat, d_sat, d_and, d_or, denSub, denIte, asB, winds_len, winds_cell, winds_lsub, winds_snoc, winds_snoc0, snoc_nil, d_mhas, d_mat, d_mput, List.take_succ_cons, List.take_zero, h1, h3, hsy, sym6, sym20, sym21, sym24]
  · simp only [cCountNo_l, EndsOk, WaysOk, forall_cons, forall_nil, TgtOk, gpair, FactsIn, hold_cons, hold_nil, Option.some.injEq, Value.bool.injEq, Value.int.injEq, decide_eq_true_eq, decide_eq_false_iff_not, and_true, true_and, and_imp, X.bool, X.den, denL, d_wrap, d_kind, d_not, d_neg, d_slen, d_add, d_sub, d_mul, d_div, d_mod, d_lt, d_le, d_eq, d_eqb, d_eqs, d_lts, d_cat, d_sat, d_and, d_or, denSub, denIte, asB, winds_len, winds_cell, winds_lsub, beq_iff_eq, beq_eq_false_iff_ne, ne_eq, winds_snoc, winds_snoc0, snoc_nil, d_mhas, d_mat, d_mput, List.take_succ_cons, List.take_zero, h1, h3, hsy, sym6, sym20, sym21, sym24]
    clear hρ hpre hrel hi hins g0 g1 h1 h3
    (repeat' apply And.intro) <;> intros <;> first
      | trivial
      | (exfalso; omega)
      | (simp_all; done)
      | (exfalso; simp_all; done)

noncomputable def cCountYes_con : Con := { f := 40, args := [windsArg 0 0, .one (.int .i64 3)], N := 1, M := 2, pre := [(.app 20 [.var 1], true), (.op2 .eq (.app 6 [.var 1]) (.num 0), true), (.op2 .eq (.op1 .len (.app 21 [.var 1, .var 3])) (.num 0), false)], out := .slo 1 9 (.op1 .len (.app 21 [.var 1, .var 3])), news := [(1, .rows 9 windSch (.num 0) (.app 21 [.var 1, .var 3]) true 26)] }
noncomputable def cCountYes_call : Env → CallL := fun E => acallAll E (evH E (noL E) ((fun E => oneH 40 (hooks [(3, vds_D.hook E.facts vds_vs), (10, cnt_D.hook E.facts cnt_vs)])) E) 8)
noncomputable def cCountYes_t : GTree := (.leaf [[(1, 112)]])
noncomputable def cCountYes_l : List (List (X × Bool) × Option Pairs) := [([((.app 20 [(.var 1)]), true), ((.op2 .eq (.app 6 [(.var 1)]) (.num 0)), true), ((.op2 .eq (.op1 .len (.app 21 [(.var 1), (.var 3)])) (.num 0)), false)], some [((.op1 .len (.app 21 [(.var 1), (.var 3)])), (.op1 .len (.app 21 [(.var 1), (.var 3)]))), ((.app 21 [(.var 1), (.var 3)]), (.app 21 [(.var 1), (.var 3)]))])]
theorem cCountYes_w (r : Rho) : cCountYes_con.fn.ways cCountYes_call E0 r cCountYes_con.pre cCountYes_t = some cCountYes_l := by kernel_rfl
theorem cCountYes_cok : cCountYes_con.Ok Tryz.prog sy := by
  intro r σ w us hsy hρ hpre hrel hins
  obtain ⟨u0, us, rfl, g0, hi⟩ := ins_cons hins
  obtain ⟨u1, us, rfl, g1, hi⟩ := ins_cons hi
  obtain ⟨known, kk, rfl, h3⟩ := one_int g1
  obtain ⟨l, h1⟩ := winds_at hrel (i := 0) rfl
  rw [hρ] at h1 h3
  have h1 : r.val 1 = some (windsR l) := h1
  refine con_of (E := E0) E0_ok E0_glob (sy := sy) (fun F => noL_ok F hsy) (fun F => cnt_H h1 h3 hsy F) (cCountYes_w r) hρ hpre hrel hins ?_ ?_
  · simp only [cCountYes_con, cCountYes_t, AsksL, GTree.asks, FTree.asks, FactsIn, List.append_nil, List.nil_append, List.cons_append, Option.some.injEq, exists_eq', implies_true, and_self, X.bool, X.den, denL, d_wrap, d_kind, d_not, d_neg, d_slen, d_add, d_sub, d_mul, d_div, d_mod, d_lt, d_le, d_eq, d_eqb, d_eqs, d_lts, d_cat, d_sat, d_and, d_or, denSub, denIte, asB, winds_len, winds_cell, winds_lsub, winds_snoc, winds_snoc0, snoc_nil, d_mhas, d_mat, d_mput, List.take_succ_cons, List.take_zero, h1, h3, hsy, sym6, sym20, sym21, sym24]
  · simp only [cCountYes_l, EndsOk, WaysOk, forall_cons, forall_nil, TgtOk, gpair, FactsIn, hold_cons, hold_nil, Option.some.injEq, Value.bool.injEq, Value.int.injEq, decide_eq_true_eq, decide_eq_false_iff_not, and_true, true_and, and_imp, X.bool, X.den, denL, d_wrap, d_kind, d_not, d_neg, d_slen, d_add, d_sub, d_mul, d_div, d_mod, d_lt, d_le, d_eq, d_eqb, d_eqs, d_lts, d_cat, d_sat, d_and, d_or, denSub, denIte, asB, winds_len, winds_cell, winds_lsub, beq_iff_eq, beq_eq_false_iff_ne, ne_eq, winds_snoc, winds_snoc0, snoc_nil, d_mhas, d_mat, d_mput, List.take_succ_cons, List.take_zero, h1, h3, hsy, sym6, sym20, sym21, sym24]
    clear hρ hpre hrel hi hins g0 g1 h1 h3
    (repeat' apply And.intro) <;> intros <;> first
      | trivial
      | (exfalso; omega)
      | (simp_all; done)
      | (exfalso; simp_all; done)

end Go.Proofs.YtpjkfjnjbekcaaaGreatDoor.Zs

namespace Go.Proofs.YtpjkfjnjbekcaaaGreatDoor.Zs
open Go
set_option linter.unusedSimpArgs false
set_option linter.unusedVariables false

def orH (h g : AF → ASt → Option (List Out)) (f : AF) (S : ASt) : Option (List Out) := match h f S with
  | some r => some r
  | none => g f S
def rin_vs : List X := [.num 0, .ite (.op2 .eq (.cell 8 (.var 1) (.var 110)) (.num 0)) (.op1 .not (.op2 .lt (.var 3) (.cell 1 (.var 1) (.var 110)))) (.boo false)]
def rcnt_vs : List X := [.num 0]

theorem mem_only {α : Type} {P : α → Prop} {a : α} (h : P a) : ∀ c ∈ [a], P c := by
  intro c hc
  rw [List.mem_singleton] at hc
  subst hc
  exact h
theorem orH_ok {E : Env} {ro : Option Nat} {c : Code} {h g : AF → ASt → Option (List Out)} (h1 : CodeOk E ro c h) (h2 : CodeOk E ro c g) : CodeOk E ro c (orH h g) := fun f S outs e => by
  unfold orH at e
  split at e
  · rename_i r hr
    cases e
    exact h1 f S _ hr
  · exact h2 f S outs e
theorem idx_of {r : Rho} {l : List Wind} (h1 : r.val 1 = some (windsR l)) (hF : X.bool r (.op2 .lt (.var 110) (.op1 .len (.var 1))) = some true) (h0 : X.bool r (.op2 .lt (.var 110) (.num 0)) = some false) :
    ∃ (ki : IntKind) (n : Nat), r.val 110 = some (.int ki (n : Int)) ∧ n < l.length := by
  simp only [X.bool, X.den, h1, winds_len] at hF h0
  cases hv : r.val 110 with
  | none => rw [hv] at hF; cases hF
  | some v =>
    rw [hv] at hF h0
    cases v <;> simp only [den2, asB, Option.some.injEq, Bool.decide_eq_true, decide_eq_true_eq, decide_eq_false_iff_not, reduceCtorEq] at hF h0
    rename_i k n
    exact ⟨k, n.toNat, by rw [show ((n.toNat : Nat) : Int) = n by omega], by omega⟩
def ipOf (r : Rho) : Nat := match r.val 110 with
  | some (.int _ n) => n.toNat
  | _ => 0
def pOf (r : Rho) (l : List Wind) : Wind := (l[ipOf r]?).getD zeroW
def b0W (known : Int) (p : Wind) : Bool := p.of_ == 0 && decide (p.known ≤ known)
theorem counts_b0 (l : List Wind) (known : Int) (p : Wind) : countsB l known p = (b0W known p && !(goneW l known p.id)) := by rw [countsB_is, b0W, Bool.and_assoc]
theorem gone_take {l : List Wind} {k : Nat} {q : Wind} (hq : l[k]? = some q) (known n : Int) : goneW (l.take (k + 1)) known n = (goneW (l.take k) known n || (q.of_ == n && decide (q.known ≤ known))) := by
  rw [List.take_add_one, hq]
  simp [goneW]
def rin_Inv (l : List Wind) (known : Int) (p : Wind) (j : Nat) (vals : List Value) : Prop := j = 0 ∧ ∃ k : Nat, k ≤ l.length ∧ vals = [.int .i64 k, .bool (b0W known p && !(goneW (l.take k) known p.id))]
def rin_mu (l : List Wind) (_ : Nat) (vals : List Value) : Nat := l.length - (vI (vals.getD 0 default)).toNat

noncomputable def rinA_D : LoopD := { N := 130, M := 132, size := sizeOfF 42, reads := [(0, .rows 9 windSch (.var 0) (.var 1) false 26)], pats := [{ slots := [(0, .slx 0 9 (.var 0) (.num 0) (.op1 .len (.var 1)) (.var 2)), (1, .sint .i64 (.var 3)), (5, .nilslice), (6, .sint .i64 (.var 110)), (7, .sbool (.var 131)), (8, .sint .i64 (.var 130))], heap := [] }], exits := [(.exit 2, { slots := [(0, .slx 0 9 (.var 0) (.num 0) (.op1 .len (.var 1)) (.var 2)), (1, .sint .i64 (.var 3)), (5, .nilslice), (6, .sint .i64 (.var 110)), (7, .sbool (.app 34 [.var 1, .var 3, .var 110]))], heap := [] })], own := [], pre := [(.app 20 [.var 1], true), (.op2 .lt (.var 110) (.op1 .len (.var 1)), true), (.op2 .lt (.var 110) (.num 0), false)] }
noncomputable def rinA_run : Env → AF → ASt → Option (List Out) := bodyRun noL 6 (fun _ => noLoop) (loopAt Tryz.prog 42 1)
def rinA0_F : List (X × Bool) := [(.op2 .lt (.var 110) (.op1 .len (.var 1)), true), (.op2 .lt (.var 110) (.num 0), false), (.op2 .lt (.var 130) (.num 0), false)]
noncomputable def rinA0_t : FTree := (.fork (.op2 .lt (.var 130) (.op1 .len (.var 1))) (.fork (.var 131) (.fork (.op2 .eq (.cell 8 (.var 1) (.var 130)) (.cell 0 (.var 1) (.var 110))) (.leaf [(.again 0 [])]) (.leaf [(.again 0 [])])) (.leaf [(.again 0 [])])) (.leaf [(.leave 0 [])]))
noncomputable def rinA0_l : List (List (X × Bool) × Option (List (Tgt × Pairs))) := [([((.op2 .eq (.cell 8 (.var 1) (.var 130)) (.cell 0 (.var 1) (.var 110))), true), ((.var 131), true), ((.op2 .lt (.var 130) (.op1 .len (.var 1))), true), ((.op2 .lt (.var 110) (.op1 .len (.var 1))), true), ((.op2 .lt (.var 110) (.num 0)), false), ((.op2 .lt (.var 130) (.num 0)), false)], some [((.again 0 []), [((.var 131), (.op1 .not (.op1 .not (.op2 .lt (.var 3) (.cell 1 (.var 1) (.var 130)))))), ((.var 130), (.op1 (.wrap .i64) (.op2 .add (.var 130) (.num 1))))])]),
  ([((.op2 .eq (.cell 8 (.var 1) (.var 130)) (.cell 0 (.var 1) (.var 110))), false), ((.var 131), true), ((.op2 .lt (.var 130) (.op1 .len (.var 1))), true), ((.op2 .lt (.var 110) (.op1 .len (.var 1))), true), ((.op2 .lt (.var 110) (.num 0)), false), ((.op2 .lt (.var 130) (.num 0)), false)], some [((.again 0 []), [((.var 131), (.boo true)), ((.var 130), (.op1 (.wrap .i64) (.op2 .add (.var 130) (.num 1))))])]),
  ([((.var 131), false), ((.op2 .lt (.var 130) (.op1 .len (.var 1))), true), ((.op2 .lt (.var 110) (.op1 .len (.var 1))), true), ((.op2 .lt (.var 110) (.num 0)), false), ((.op2 .lt (.var 130) (.num 0)), false)], some [((.again 0 []), [((.var 131), (.boo false)), ((.var 130), (.op1 (.wrap .i64) (.op2 .add (.var 130) (.num 1))))])]),
  ([((.op2 .lt (.var 130) (.op1 .len (.var 1))), false), ((.op2 .lt (.var 110) (.op1 .len (.var 1))), true), ((.op2 .lt (.var 110) (.num 0)), false), ((.op2 .lt (.var 130) (.num 0)), false)], some [((.leave 0 []), [((.app 34 [(.var 1), (.var 3), (.var 110)]), (.var 131))])])]
theorem rinA0_w (r : Rho) : rinA_D.ways rinA_run E0 r 0 rinA0_F rinA0_t = some rinA0_l := by kernel_rfl
theorem rinA_ok : rinA_D.ok = true := by kernel_rfl
theorem rinA_step {ρ : Rho} {l : List Wind} {kk ki : IntKind} {known : Int} {i : Nat} {p : Wind} (h1 : ρ.val 1 = some (windsR l)) (h3 : ρ.val 3 = some (.int kk known)) (h110 : ρ.val 110 = some (.int ki (i : Int))) (hsy : ρ.sym = sy) (hp : l[i]? = some p) (hmax : (l.length : Int) ≤ 1000) (j : Nat) (vals : List Value) (hI : rin_Inv l known p j vals) :
    StepOk rinA_D rinA_run E0 ρ (rin_Inv l known p) (rin_mu l) j vals := by
  obtain ⟨rfl, k, hk, rfl⟩ := hI
  have hN : rinA_D.N = 130 := rfl
  have hilt : i < l.length := (List.getElem?_eq_some_iff.1 hp).1
  have hilt1 : (i : Int) < l.length := by omega
  generalize hb : (b0W known p && !(goneW (l.take k) known p.id)) = b
  have v1 : (ρ.ext rinA_D.N [.int .i64 k, .bool b]).val 1 = some (windsR l) := by rw [ext_low _ _ _ _ (by rw [hN]; omega)]; exact h1
  have v3 : (ρ.ext rinA_D.N [.int .i64 k, .bool b]).val 3 = some (.int kk known) := by rw [ext_low _ _ _ _ (by rw [hN]; omega)]; exact h3
  have v110 : (ρ.ext rinA_D.N [.int .i64 k, .bool b]).val 110 = some (.int ki (i : Int)) := by rw [ext_low _ _ _ _ (by rw [hN]; omega)]; exact h110
  have v130 : (ρ.ext rinA_D.N [.int .i64 k, .bool b]).val 130 = some (.int .i64 k) := by rw [ext_high _ _ _ _ (by rw [hN]; omega)]; rfl
  have v131 : (ρ.ext rinA_D.N [.int .i64 k, .bool b]).val 131 = some (.bool b) := by rw [ext_high _ _ _ _ (by rw [hN]; omega)]; rfl
  have vs : (ρ.ext rinA_D.N [.int .i64 k, .bool b]).sym = sy := hsy

  have hF : FactsIn (ρ.ext rinA_D.N [.int .i64 k, .bool b]) rinA0_F := by
    simp only [rinA0_F, FactsIn, X.bool, X.den, denL, d_wrap, d_kind, d_not, d_neg, d_slen, d_add, d_sub, d_mul, d_div, d_mod, d_lt, d_le, d_eq, d_eqb, d_eqs, d_lts, d_cat, d_sat, d_and, d_or, denSub, denIte, asB, winds_len, winds_cell, winds_lsub, v1, v110, v130, Option.some.injEq, Value.bool.injEq, decide_eq_true_eq, decide_eq_false_iff_not, and_true]
    omega
  have hpd : (l[i]?).getD zeroW = p := by rw [hp]; rfl
  suffices both : AsksL (ρ.ext rinA_D.N [.int .i64 k, .bool b]) (rinA0_t.asks rinA0_F) ∧ WaysOk rinA_D ρ (rin_Inv l known p) (rin_mu l) 0 [.int .i64 k, .bool b] rinA0_l from step_of_ways (rinA0_w _) hF both.1.ok both.2
  cases hq : l[k]? with
  | none =>
    have hge := List.getElem?_eq_none_iff.1 hq
    have hge' : ¬ (k : Int) < l.length := by omega
    have hl : l.take k = l := List.take_of_length_le hge
    refine ⟨?_, ?_⟩
    · simp only [rinA0_t, rinA0_F, AsksL, GTree.asks, FTree.asks, FactsIn, List.append_nil, List.nil_append, List.cons_append, Option.some.injEq, exists_eq', implies_true, and_self, X.bool, X.den, denL, d_wrap, d_kind, d_not, d_neg, d_slen, d_add, d_sub, d_mul, d_div, d_mod, d_lt, d_le, d_eq, d_eqb, d_eqs, d_lts, d_cat, d_sat, d_and, d_or, denSub, denIte, asB, winds_len, winds_cell, winds_lsub, v1, v3, v110, v130, v131, vs, sym34, Int.toNat_natCast, hp, hq, hge', Option.bind_some, wind0, wind1, wind2, wind3, wind4, wind5, wind6, wind7, wind8]
      try simp
    · simp only [rinA0_l, EndsOk, WaysOk, forall_cons, forall_nil, TgtOk, gpair, FactsIn, hold_cons, hold_nil, Option.some.injEq, Value.bool.injEq, Value.int.injEq, decide_eq_true_eq, decide_eq_false_iff_not, and_true, true_and, and_imp, X.bool, X.den, denL, d_wrap, d_kind, d_not, d_neg, d_slen, d_add, d_sub, d_mul, d_div, d_mod, d_lt, d_le, d_eq, d_eqb, d_eqs, d_lts, d_cat, d_sat, d_and, d_or, denSub, denIte, asB, winds_len, winds_cell, winds_lsub, beq_iff_eq, beq_eq_false_iff_ne, ne_eq, v1, v3, v110, v130, v131, vs, h1, h3, h110, hsy, sym34, Int.toNat_natCast, hq, hge', hpd]
      have e : countsB l known p = b := by rw [counts_b0, ← hb, hl]
      simp [e]
  | some q =>
    have hlt : k < l.length := (List.getElem?_eq_some_iff.1 hq).1
    have hlt1 : (k : Int) < l.length := by omega
    have go : ∀ b' : Bool, (b && !(q.of_ == p.id && decide (q.known ≤ known))) = b' → ∃ vals', ((ρ.ext rinA_D.N vals').val 131 = some (.bool b') ∧ (ρ.ext rinA_D.N vals').val 130 = some (.int .i64 (IntKind.i64.wrap ((k : Int) + 1)))) ∧ rin_Inv l known p 0 vals' ∧ rin_mu l 0 vals' < rin_mu l 0 [.int .i64 k, .bool b] := by
      intro b' hb'
      have hw : IntKind.i64.wrap ((k : Int) + 1) = ((k + 1 : Nat) : Int) := IntWalk.i64_in _ (by omega)
      refine ⟨[.int .i64 ((k + 1 : Nat) : Int), .bool b'], ⟨?_, ?_⟩, ⟨rfl, k + 1, by omega, ?_⟩, ?_⟩
      · rw [ext_high _ _ _ _ (by rw [hN]; omega)]; rfl
      · rw [ext_high _ _ _ _ (by rw [hN]; omega), hw]; rfl
      · rw [gone_take hq, ← hb', ← hb, Bool.not_or, Bool.and_assoc]
      · simp [rin_mu, vI]; omega
    refine ⟨?_, ?_⟩
    all_goals (simp only [rinA0_t, rinA0_F, rinA0_l, AsksL, GTree.asks, FTree.asks, FactsIn, List.append_nil, List.nil_append, List.cons_append, Option.some.injEq, exists_eq', implies_true, and_self, X.bool, X.den, denL, d_wrap, d_kind, d_not, d_neg, d_slen, d_add, d_sub, d_mul, d_div, d_mod, d_lt, d_le, d_eq, d_eqb, d_eqs, d_lts, d_cat, d_sat, d_and, d_or, denSub, denIte, asB, winds_len, winds_cell, winds_lsub, EndsOk, WaysOk, forall_cons, forall_nil, TgtOk, gpair, FactsIn, hold_cons, hold_nil, Option.some.injEq, Value.bool.injEq, Value.int.injEq, decide_eq_true_eq, decide_eq_false_iff_not, and_true, true_and, and_imp, X.bool, X.den, denL, d_wrap, d_kind, d_not, d_neg, d_slen, d_add, d_sub, d_mul, d_div, d_mod, d_lt, d_le, d_eq, d_eqb, d_eqs, d_lts, d_cat, d_sat, d_and, d_or, denSub, denIte, asB, winds_len, winds_cell, winds_lsub, beq_iff_eq, beq_eq_false_iff_ne, ne_eq, v1, v3, v110, v130, v131, vs, h1, h3, h110, hsy, sym34, Int.toNat_natCast, hp, hq, Option.bind_some, wind0, wind1, wind2, wind3, wind4, wind5, wind6, wind7, wind8, hlt1, hilt1, hpd, reduceCtorEq, false_implies, implies_true, true_implies, and_self])
    all_goals (clear v1 v3 v110 v130 v131 vs h1 h3 h110 hsy hF hb)
    all_goals ((repeat' apply And.intro) <;> intros <;> first
      | (exfalso; omega)
      | (exact absurd trivial (by assumption))
      | (refine go _ ?_; subst_vars; simp_all; done)
      | (refine go _ ?_; rw [Bool.eq_iff_iff]; simp_all; done)
      | (refine go _ ?_; rw [Bool.eq_iff_iff]; simp_all; omega))

noncomputable def rinB_D : LoopD := { N := 130, M := 132, size := sizeOfF 42, reads := [(0, .rows 9 windSch (.var 0) (.var 1) false 26), (112, .rows 9 windSch (.num 0) (.var 111) true 26)], pats := [{ slots := [(0, .slx 0 9 (.var 0) (.num 0) (.op1 .len (.var 1)) (.var 2)), (1, .sint .i64 (.var 3)), (5, .slo 112 9 (.op1 .len (.var 111))), (6, .sint .i64 (.var 110)), (7, .sbool (.var 131)), (8, .sint .i64 (.var 130))], heap := [] }], exits := [(.exit 2, { slots := [(0, .slx 0 9 (.var 0) (.num 0) (.op1 .len (.var 1)) (.var 2)), (1, .sint .i64 (.var 3)), (5, .slo 112 9 (.op1 .len (.var 111))), (6, .sint .i64 (.var 110)), (7, .sbool (.app 34 [.var 1, .var 3, .var 110]))], heap := [] })], own := [], pre := [(.app 20 [.var 1], true), (.op2 .lt (.var 110) (.op1 .len (.var 1)), true), (.op2 .lt (.var 110) (.num 0), false)] }
noncomputable def rinB_run : Env → AF → ASt → Option (List Out) := bodyRun noL 6 (fun _ => noLoop) (loopAt Tryz.prog 42 1)
def rinB0_F : List (X × Bool) := [(.op2 .lt (.var 110) (.op1 .len (.var 1)), true), (.op2 .lt (.var 110) (.num 0), false), (.op2 .lt (.var 130) (.num 0), false)]
noncomputable def rinB0_t : FTree := (.fork (.op2 .lt (.var 130) (.op1 .len (.var 1))) (.fork (.var 131) (.fork (.op2 .eq (.cell 8 (.var 1) (.var 130)) (.cell 0 (.var 1) (.var 110))) (.leaf [(.again 0 [])]) (.leaf [(.again 0 [])])) (.leaf [(.again 0 [])])) (.leaf [(.leave 0 [])]))
noncomputable def rinB0_l : List (List (X × Bool) × Option (List (Tgt × Pairs))) := [([((.op2 .eq (.cell 8 (.var 1) (.var 130)) (.cell 0 (.var 1) (.var 110))), true), ((.var 131), true), ((.op2 .lt (.var 130) (.op1 .len (.var 1))), true), ((.op2 .lt (.var 110) (.op1 .len (.var 1))), true), ((.op2 .lt (.var 110) (.num 0)), false), ((.op2 .lt (.var 130) (.num 0)), false)], some [((.again 0 []), [((.var 131), (.op1 .not (.op1 .not (.op2 .lt (.var 3) (.cell 1 (.var 1) (.var 130)))))), ((.var 130), (.op1 (.wrap .i64) (.op2 .add (.var 130) (.num 1))))])]),
  ([((.op2 .eq (.cell 8 (.var 1) (.var 130)) (.cell 0 (.var 1) (.var 110))), false), ((.var 131), true), ((.op2 .lt (.var 130) (.op1 .len (.var 1))), true), ((.op2 .lt (.var 110) (.op1 .len (.var 1))), true), ((.op2 .lt (.var 110) (.num 0)), false), ((.op2 .lt (.var 130) (.num 0)), false)], some [((.again 0 []), [((.var 131), (.boo true)), ((.var 130), (.op1 (.wrap .i64) (.op2 .add (.var 130) (.num 1))))])]),
  ([((.var 131), false), ((.op2 .lt (.var 130) (.op1 .len (.var 1))), true), ((.op2 .lt (.var 110) (.op1 .len (.var 1))), true), ((.op2 .lt (.var 110) (.num 0)), false), ((.op2 .lt (.var 130) (.num 0)), false)], some [((.again 0 []), [((.var 131), (.boo false)), ((.var 130), (.op1 (.wrap .i64) (.op2 .add (.var 130) (.num 1))))])]),
  ([((.op2 .lt (.var 130) (.op1 .len (.var 1))), false), ((.op2 .lt (.var 110) (.op1 .len (.var 1))), true), ((.op2 .lt (.var 110) (.num 0)), false), ((.op2 .lt (.var 130) (.num 0)), false)], some [((.leave 0 []), [((.app 34 [(.var 1), (.var 3), (.var 110)]), (.var 131))])])]
theorem rinB0_w (r : Rho) : rinB_D.ways rinB_run E0 r 0 rinB0_F rinB0_t = some rinB0_l := by kernel_rfl
theorem rinB_ok : rinB_D.ok = true := by kernel_rfl
theorem rinB_step {ρ : Rho} {l : List Wind} {kk ki : IntKind} {known : Int} {i : Nat} {p : Wind} (h1 : ρ.val 1 = some (windsR l)) (h3 : ρ.val 3 = some (.int kk known)) (h110 : ρ.val 110 = some (.int ki (i : Int))) (hsy : ρ.sym = sy) (hp : l[i]? = some p) (hmax : (l.length : Int) ≤ 1000) (j : Nat) (vals : List Value) (hI : rin_Inv l known p j vals) :
    StepOk rinB_D rinB_run E0 ρ (rin_Inv l known p) (rin_mu l) j vals := by
  obtain ⟨rfl, k, hk, rfl⟩ := hI
  have hN : rinB_D.N = 130 := rfl
  have hilt : i < l.length := (List.getElem?_eq_some_iff.1 hp).1
  have hilt1 : (i : Int) < l.length := by omega
  generalize hb : (b0W known p && !(goneW (l.take k) known p.id)) = b
  have v1 : (ρ.ext rinB_D.N [.int .i64 k, .bool b]).val 1 = some (windsR l) := by rw [ext_low _ _ _ _ (by rw [hN]; omega)]; exact h1
  have v3 : (ρ.ext rinB_D.N [.int .i64 k, .bool b]).val 3 = some (.int kk known) := by rw [ext_low _ _ _ _ (by rw [hN]; omega)]; exact h3
  have v110 : (ρ.ext rinB_D.N [.int .i64 k, .bool b]).val 110 = some (.int ki (i : Int)) := by rw [ext_low _ _ _ _ (by rw [hN]; omega)]; exact h110
  have v130 : (ρ.ext rinB_D.N [.int .i64 k, .bool b]).val 130 = some (.int .i64 k) := by rw [ext_high _ _ _ _ (by rw [hN]; omega)]; rfl
  have v131 : (ρ.ext rinB_D.N [.int .i64 k, .bool b]).val 131 = some (.bool b) := by rw [ext_high _ _ _ _ (by rw [hN]; omega)]; rfl
  have vs : (ρ.ext rinB_D.N [.int .i64 k, .bool b]).sym = sy := hsy

  have hF : FactsIn (ρ.ext rinB_D.N [.int .i64 k, .bool b]) rinB0_F := by
    simp only [rinB0_F, FactsIn, X.bool, X.den, denL, d_wrap, d_kind, d_not, d_neg, d_slen, d_add, d_sub, d_mul, d_div, d_mod, d_lt, d_le, d_eq, d_eqb, d_eqs, d_lts, d_cat, d_sat, d_and, d_or, denSub, denIte, asB, winds_len, winds_cell, winds_lsub, v1, v110, v130, Option.some.injEq, Value.bool.injEq, decide_eq_true_eq, decide_eq_false_iff_not, and_true]
    omega
  have hpd : (l[i]?).getD zeroW = p := by rw [hp]; rfl
  suffices both : AsksL (ρ.ext rinB_D.N [.int .i64 k, .bool b]) (rinB0_t.asks rinB0_F) ∧ WaysOk rinB_D ρ (rin_Inv l known p) (rin_mu l) 0 [.int .i64 k, .bool b] rinB0_l from step_of_ways (rinB0_w _) hF both.1.ok both.2
  cases hq : l[k]? with
  | none =>
    have hge := List.getElem?_eq_none_iff.1 hq
    have hge' : ¬ (k : Int) < l.length := by omega
    have hl : l.take k = l := List.take_of_length_le hge
    refine ⟨?_, ?_⟩
    · simp only [rinB0_t, rinB0_F, AsksL, GTree.asks, FTree.asks, FactsIn, List.append_nil, List.nil_append, List.cons_append, Option.some.injEq, exists_eq', implies_true, and_self, X.bool, X.den, denL, d_wrap, d_kind, d_not, d_neg, d_slen, d_add, d_sub, d_mul, d_div, d_mod, d_lt, d_le, d_eq, d_eqb, d_eqs, d_lts, d_cat, d_sat, d_and, d_or, denSub, denIte, asB, winds_len, winds_cell, winds_lsub, v1, v3, v110, v130, v131, vs, sym34, Int.toNat_natCast, hp, hq, hge', Option.bind_some, wind0, wind1, wind2, wind3, wind4, wind5, wind6, wind7, wind8]
      try simp
    · simp only [rinB0_l, EndsOk, WaysOk, forall_cons, forall_nil, TgtOk, gpair, FactsIn, hold_cons, hold_nil, Option.some.injEq, Value.bool.injEq, Value.int.injEq, decide_eq_true_eq, decide_eq_false_iff_not, and_true, true_and, and_imp, X.bool, X.den, denL, d_wrap, d_kind, d_not, d_neg, d_slen, d_add, d_sub, d_mul, d_div, d_mod, d_lt, d_le, d_eq, d_eqb, d_eqs, d_lts, d_cat, d_sat, d_and, d_or, denSub, denIte, asB, winds_len, winds_cell, winds_lsub, beq_iff_eq, beq_eq_false_iff_ne, ne_eq, v1, v3, v110, v130, v131, vs, h1, h3, h110, hsy, sym34, Int.toNat_natCast, hq, hge', hpd]
      have e : countsB l known p = b := by rw [counts_b0, ← hb, hl]
      simp [e]
  | some q =>
    have hlt : k < l.length := (List.getElem?_eq_some_iff.1 hq).1
    have hlt1 : (k : Int) < l.length := by omega
    have go : ∀ b' : Bool, (b && !(q.of_ == p.id && decide (q.known ≤ known))) = b' → ∃ vals', ((ρ.ext rinB_D.N vals').val 131 = some (.bool b') ∧ (ρ.ext rinB_D.N vals').val 130 = some (.int .i64 (IntKind.i64.wrap ((k : Int) + 1)))) ∧ rin_Inv l known p 0 vals' ∧ rin_mu l 0 vals' < rin_mu l 0 [.int .i64 k, .bool b] := by
      intro b' hb'
      have hw : IntKind.i64.wrap ((k : Int) + 1) = ((k + 1 : Nat) : Int) := IntWalk.i64_in _ (by omega)
      refine ⟨[.int .i64 ((k + 1 : Nat) : Int), .bool b'], ⟨?_, ?_⟩, ⟨rfl, k + 1, by omega, ?_⟩, ?_⟩
      · rw [ext_high _ _ _ _ (by rw [hN]; omega)]; rfl
      · rw [ext_high _ _ _ _ (by rw [hN]; omega), hw]; rfl
      · rw [gone_take hq, ← hb', ← hb, Bool.not_or, Bool.and_assoc]
      · simp [rin_mu, vI]; omega
    refine ⟨?_, ?_⟩
    all_goals (simp only [rinB0_t, rinB0_F, rinB0_l, AsksL, GTree.asks, FTree.asks, FactsIn, List.append_nil, List.nil_append, List.cons_append, Option.some.injEq, exists_eq', implies_true, and_self, X.bool, X.den, denL, d_wrap, d_kind, d_not, d_neg, d_slen, d_add, d_sub, d_mul, d_div, d_mod, d_lt, d_le, d_eq, d_eqb, d_eqs, d_lts, d_cat, d_sat, d_and, d_or, denSub, denIte, asB, winds_len, winds_cell, winds_lsub, EndsOk, WaysOk, forall_cons, forall_nil, TgtOk, gpair, FactsIn, hold_cons, hold_nil, Option.some.injEq, Value.bool.injEq, Value.int.injEq, decide_eq_true_eq, decide_eq_false_iff_not, and_true, true_and, and_imp, X.bool, X.den, denL, d_wrap, d_kind, d_not, d_neg, d_slen, d_add, d_sub, d_mul, d_div, d_mod, d_lt, d_le, d_eq, d_eqb, d_eqs, d_lts, d_cat, d_sat, d_and, d_or, denSub, denIte, asB, winds_len, winds_cell, winds_lsub, beq_iff_eq, beq_eq_false_iff_ne, ne_eq, v1, v3, v110, v130, v131, vs, h1, h3, h110, hsy, sym34, Int.toNat_natCast, hp, hq, Option.bind_some, wind0, wind1, wind2, wind3, wind4, wind5, wind6, wind7, wind8, hlt1, hilt1, hpd, reduceCtorEq, false_implies, implies_true, true_implies, and_self])
    all_goals (clear v1 v3 v110 v130 v131 vs h1 h3 h110 hsy hF hb)
    all_goals ((repeat' apply And.intro) <;> intros <;> first
      | (exfalso; omega)
      | (exact absurd trivial (by assumption))
      | (refine go _ ?_; subst_vars; simp_all; done)
      | (refine go _ ?_; rw [Bool.eq_iff_iff]; simp_all; done)
      | (refine go _ ?_; rw [Bool.eq_iff_iff]; simp_all; omega))

theorem rin_body : loopsOf (loopAt Tryz.prog 42 0) = [loopAt Tryz.prog 42 1] := by kernel_rfl
theorem rin_key : keyOf (loopAt Tryz.prog 42 1) = 7 := by kernel_rfl
theorem rin_one {n : LoopD} {run : Env → AF → ASt → Option (List Out)} {r : Rho} {l : List Wind} {kk : IntKind} {known : Int} (h1 : r.val 1 = some (windsR l)) (h3 : r.val 3 = some (.int kk known)) (hpre : FactsIn r [(.op2 .lt (.var 110) (.op1 .len (.var 1)), true), (.op2 .lt (.var 110) (.num 0), false)])
    (hst : ∀ (ki : IntKind) (i : Nat), r.val 110 = some (.int ki (i : Int)) → l[i]? = some (pOf r l) → ∀ j vals, rin_Inv l known (pOf r l) j vals → StepOk n run E0 r (rin_Inv l known (pOf r l)) (rin_mu l) j vals) :
    (∀ j vals, rin_Inv l known (pOf r l) j vals → StepOk n run E0 r (rin_Inv l known (pOf r l)) (rin_mu l) j vals) ∧ ∃ vals, denL r rin_vs = some vals ∧ rin_Inv l known (pOf r l) 0 vals := by
  obtain ⟨ki, i, h110, hlt⟩ := idx_of h1 hpre.1 hpre.2.1
  have hip : ipOf r = i := by simp [ipOf, h110]
  have hp : l[i]? = some (pOf r l) := by rw [pOf, hip, List.getElem?_eq_getElem hlt]; rfl
  refine ⟨hst ki i h110 hp, [.int .i64 0, .bool (b0W known (pOf r l))], ?_, rfl, 0, Nat.zero_le _, by simp [goneW]⟩
  generalize pOf r l = p at hp
  simp only [rin_vs, X.bool, X.den, denL, d_wrap, d_kind, d_not, d_neg, d_slen, d_add, d_sub, d_mul, d_div, d_mod, d_lt, d_le, d_eq, d_eqb, d_eqs, d_lts, d_cat, d_sat, d_and, d_or, denSub, d_ite, asB, winds_len, winds_cell, winds_lsub, h1, h3, h110, Int.toNat_natCast, hp, Option.bind_some, wind0, wind1, wind2, wind3, wind4, wind5, wind6, wind7, wind8, b0W]
  cases p.of_ == 0
  · simp
  · have : (!(decide (known < p.known))) = decide (p.known ≤ known) := by rw [Bool.eq_iff_iff]; simp
    simp [this]
theorem rin_H {r : Rho} {l : List Wind} {kk : IntKind} {known : Int} (h1 : r.val 1 = some (windsR l)) (h3 : r.val 3 = some (.int kk known)) (hsy : r.sym = sy) (hmax : (l.length : Int) ≤ 1000) (F : List (X × Bool)) :
    ∀ c' ∈ loopsOf (loopAt Tryz.prog 42 0), CodeOk (E0.with F r) none (.loop c') (hooks [(7, orH (rinA_D.hook (E0.with F r).facts rin_vs) (rinB_D.hook (E0.with F r).facts rin_vs))] c') := by
  rw [rin_body]
  refine mem_only (P := fun c' => CodeOk (E0.with F r) none (.loop c') (hooks [(7, orH (rinA_D.hook (E0.with F r).facts rin_vs) (rinB_D.hook (E0.with F r).facts rin_vs))] c')) ?_
  show CodeOk (E0.with F r) none (.loop (loopAt Tryz.prog 42 1)) (hooks [(7, orH (rinA_D.hook (E0.with F r).facts rin_vs) (rinB_D.hook (E0.with F r).facts rin_vs))] (loopAt Tryz.prog 42 1))
  rw [hooks_hit rin_key]
  refine orH_ok ?_ ?_
  · refine hook_ok (E₀ := E0) (run := rinA_run) (ρ := r) (Inv := rin_Inv l known (pOf r l)) (μ := rin_mu l) E0_ok rinA_ok (fun F r' h => ?_) (fun hpre => rin_one h1 h3 hpre.2 fun ki i h110 hp => rinA_step h1 h3 h110 hsy hp hmax)
    exact bodyRun_ok E0_ok (noL_ok F (h.trans hsy)) fun _ _ => noLoop_ok
  · refine hook_ok (E₀ := E0) (run := rinB_run) (ρ := r) (Inv := rin_Inv l known (pOf r l)) (μ := rin_mu l) E0_ok rinB_ok (fun F r' h => ?_) (fun hpre => rin_one h1 h3 hpre.2 fun ki i h110 hp => rinB_step h1 h3 h110 hsy hp hmax)
    exact bodyRun_ok E0_ok (noL_ok F (h.trans hsy)) fun _ _ => noLoop_ok

noncomputable def rcnt_D : LoopD := { N := 110, M := 114, size := sizeOfF 42, reads := [(0, .rows 9 windSch (.var 0) (.var 1) false 26)], pats := [{ slots := [(0, .slx 0 9 (.var 0) (.num 0) (.op1 .len (.var 1)) (.var 2)), (1, .sint .i64 (.var 3)), (5, .nilslice), (6, .sint .i64 (.var 110))], heap := [] }, { slots := [(0, .slx 0 9 (.var 0) (.num 0) (.op1 .len (.var 1)) (.var 2)), (1, .sint .i64 (.var 3)), (5, .slo 112 9 (.op1 .len (.var 111))), (6, .sint .i64 (.var 110))], heap := [(112, .rows 9 windSch (.num 0) (.var 111) true 26)] }], exits := [(.exit 0, { slots := [(5, .nilslice)], heap := [], guard := .op2 .eq (.op1 .len (.app 21 [.var 1, .var 3])) (.num 0) }), (.exit 0, { slots := [(5, .slo 112 9 (.op1 .len (.app 21 [.var 1, .var 3])))], heap := [(112, .rows 9 windSch (.num 0) (.app 21 [.var 1, .var 3]) true 26)], guard := .op1 .not (.op2 .eq (.op1 .len (.app 21 [.var 1, .var 3])) (.num 0)) })], own := [], pre := [(.app 20 [.var 1], true)] }
noncomputable def rcnt_run : Env → AF → ASt → Option (List Out) := bodyRun noL 6 (fun E => hooks [(7, orH (rinA_D.hook E.facts rin_vs) (rinB_D.hook E.facts rin_vs))]) (loopAt Tryz.prog 42 0)
def rcnt0_F : List (X × Bool) := [(.op2 .lt (.var 110) (.num 0), false)]
def rcnt1_F : List (X × Bool) := [(.op2 .lt (.var 110) (.num 0), false)]
noncomputable def rcnt0_t : FTree := (.fork (.op2 .lt (.var 110) (.op1 .len (.var 1))) (.fork (.op2 .eq (.cell 8 (.var 1) (.var 110)) (.num 0)) (.fork (.app 20 [(.var 1)]) (.fork (.app 34 [(.var 1), (.var 3), (.var 110)]) (.leaf [(.again 1 [(112, 133)])]) (.leaf [(.again 0 [])])) .bad) (.fork (.app 20 [(.var 1)]) (.fork (.app 34 [(.var 1), (.var 3), (.var 110)]) (.leaf [(.again 1 [(112, 133)])]) (.leaf [(.again 0 [])])) .bad)) (.leaf [(.leave 0 [])]))
noncomputable def rcnt0_l : List (List (X × Bool) × Option (List (Tgt × Pairs))) := [([((.app 34 [(.var 1), (.var 3), (.var 110)]), true), ((.app 20 [(.var 1)]), true), ((.op2 .eq (.cell 8 (.var 1) (.var 110)) (.num 0)), true), ((.op2 .lt (.var 110) (.op1 .len (.var 1))), true), ((.op2 .lt (.var 110) (.num 0)), false)], some [((.again 1 [(112, 133)]), [((.op1 .len (.var 111)), (.num 1)), ((.var 110), (.op1 (.wrap .i64) (.op2 .add (.var 110) (.num 1)))), ((.var 111), (.snoc .nil [(.op1 (.kind .i64) (.cell 0 (.var 1) (.var 110))), (.op1 (.kind .i64) (.cell 1 (.var 1) (.var 110))), (.op1 (.kind .i64) (.cell 2 (.var 1) (.var 110))), (.op1 (.kind .i64) (.cell 3 (.var 1) (.var 110))), (.op1 (.kind .i64) (.cell 4 (.var 1) (.var 110))), (.op1 (.kind .i64) (.cell 5 (.var 1) (.var 110))), (.op1 (.kind .i64) (.cell 6 (.var 1) (.var 110))), (.op1 (.kind .i64) (.cell 7 (.var 1) (.var 110))), (.op1 (.kind .i64) (.cell 8 (.var 1) (.var 110)))]))])]),
  ([((.app 34 [(.var 1), (.var 3), (.var 110)]), false), ((.app 20 [(.var 1)]), true), ((.op2 .eq (.cell 8 (.var 1) (.var 110)) (.num 0)), true), ((.op2 .lt (.var 110) (.op1 .len (.var 1))), true), ((.op2 .lt (.var 110) (.num 0)), false)], some [((.again 0 []), [((.var 110), (.op1 (.wrap .i64) (.op2 .add (.var 110) (.num 1))))])]),
  ([((.app 20 [(.var 1)]), false), ((.op2 .eq (.cell 8 (.var 1) (.var 110)) (.num 0)), true), ((.op2 .lt (.var 110) (.op1 .len (.var 1))), true), ((.op2 .lt (.var 110) (.num 0)), false)], none),
  ([((.app 34 [(.var 1), (.var 3), (.var 110)]), true), ((.app 20 [(.var 1)]), true), ((.op2 .eq (.cell 8 (.var 1) (.var 110)) (.num 0)), false), ((.op2 .lt (.var 110) (.op1 .len (.var 1))), true), ((.op2 .lt (.var 110) (.num 0)), false)], some [((.again 1 [(112, 133)]), [((.op1 .len (.var 111)), (.num 1)), ((.var 110), (.op1 (.wrap .i64) (.op2 .add (.var 110) (.num 1)))), ((.var 111), (.snoc .nil [(.op1 (.kind .i64) (.cell 0 (.var 1) (.var 110))), (.op1 (.kind .i64) (.cell 1 (.var 1) (.var 110))), (.op1 (.kind .i64) (.cell 2 (.var 1) (.var 110))), (.op1 (.kind .i64) (.cell 3 (.var 1) (.var 110))), (.op1 (.kind .i64) (.cell 4 (.var 1) (.var 110))), (.op1 (.kind .i64) (.cell 5 (.var 1) (.var 110))), (.op1 (.kind .i64) (.cell 6 (.var 1) (.var 110))), (.op1 (.kind .i64) (.cell 7 (.var 1) (.var 110))), (.op1 (.kind .i64) (.cell 8 (.var 1) (.var 110)))]))])]),
  ([((.app 34 [(.var 1), (.var 3), (.var 110)]), false), ((.app 20 [(.var 1)]), true), ((.op2 .eq (.cell 8 (.var 1) (.var 110)) (.num 0)), false), ((.op2 .lt (.var 110) (.op1 .len (.var 1))), true), ((.op2 .lt (.var 110) (.num 0)), false)], some [((.again 0 []), [((.var 110), (.op1 (.wrap .i64) (.op2 .add (.var 110) (.num 1))))])]),
  ([((.app 20 [(.var 1)]), false), ((.op2 .eq (.cell 8 (.var 1) (.var 110)) (.num 0)), false), ((.op2 .lt (.var 110) (.op1 .len (.var 1))), true), ((.op2 .lt (.var 110) (.num 0)), false)], none),
  ([((.op2 .lt (.var 110) (.op1 .len (.var 1))), false), ((.op2 .lt (.var 110) (.num 0)), false)], some [((.leave 0 []), [((.op2 .eq (.op1 .len (.app 21 [(.var 1), (.var 3)])) (.num 0)), (.boo true))])])]
theorem rcnt0_w (r : Rho) : rcnt_D.ways rcnt_run E0 r 0 rcnt0_F rcnt0_t = some rcnt0_l := by kernel_rfl
noncomputable def rcnt1_t : FTree := (.fork (.op2 .lt (.var 110) (.op1 .len (.var 1))) (.fork (.op2 .eq (.cell 8 (.var 1) (.var 110)) (.num 0)) (.fork (.app 20 [(.var 1)]) (.fork (.app 34 [(.var 1), (.var 3), (.var 110)]) (.fork (.op2 .lt (.num 1000000000) (.op2 .add (.op1 .len (.var 111)) (.num 1))) .bad (.leaf [(.again 1 [(112, 133)])])) (.leaf [(.again 1 [(112, 112)])])) .bad) (.fork (.app 20 [(.var 1)]) (.fork (.app 34 [(.var 1), (.var 3), (.var 110)]) (.fork (.op2 .lt (.num 1000000000) (.op2 .add (.op1 .len (.var 111)) (.num 1))) .bad (.leaf [(.again 1 [(112, 133)])])) (.leaf [(.again 1 [(112, 112)])])) .bad)) (.leaf [(.leave 1 [(112, 112)])]))
noncomputable def rcnt1_l : List (List (X × Bool) × Option (List (Tgt × Pairs))) := [([((.op2 .lt (.num 1000000000) (.op2 .add (.op1 .len (.var 111)) (.num 1))), true), ((.app 34 [(.var 1), (.var 3), (.var 110)]), true), ((.app 20 [(.var 1)]), true), ((.op2 .eq (.cell 8 (.var 1) (.var 110)) (.num 0)), true), ((.op2 .lt (.var 110) (.op1 .len (.var 1))), true), ((.op2 .lt (.var 110) (.num 0)), false)], none),
  ([((.op2 .lt (.num 1000000000) (.op2 .add (.op1 .len (.var 111)) (.num 1))), false), ((.app 34 [(.var 1), (.var 3), (.var 110)]), true), ((.app 20 [(.var 1)]), true), ((.op2 .eq (.cell 8 (.var 1) (.var 110)) (.num 0)), true), ((.op2 .lt (.var 110) (.op1 .len (.var 1))), true), ((.op2 .lt (.var 110) (.num 0)), false)], some [((.again 1 [(112, 133)]), [((.op1 .len (.var 111)), (.op2 .add (.op1 .len (.var 111)) (.num 1))), ((.var 110), (.op1 (.wrap .i64) (.op2 .add (.var 110) (.num 1)))), ((.var 111), (.snoc (.var 111) [(.op1 (.kind .i64) (.cell 0 (.var 1) (.var 110))), (.op1 (.kind .i64) (.cell 1 (.var 1) (.var 110))), (.op1 (.kind .i64) (.cell 2 (.var 1) (.var 110))), (.op1 (.kind .i64) (.cell 3 (.var 1) (.var 110))), (.op1 (.kind .i64) (.cell 4 (.var 1) (.var 110))), (.op1 (.kind .i64) (.cell 5 (.var 1) (.var 110))), (.op1 (.kind .i64) (.cell 6 (.var 1) (.var 110))), (.op1 (.kind .i64) (.cell 7 (.var 1) (.var 110))), (.op1 (.kind .i64) (.cell 8 (.var 1) (.var 110)))]))])]),
  ([((.app 34 [(.var 1), (.var 3), (.var 110)]), false), ((.app 20 [(.var 1)]), true), ((.op2 .eq (.cell 8 (.var 1) (.var 110)) (.num 0)), true), ((.op2 .lt (.var 110) (.op1 .len (.var 1))), true), ((.op2 .lt (.var 110) (.num 0)), false)], some [((.again 1 [(112, 112)]), [((.op1 .len (.var 111)), (.op1 .len (.var 111))), ((.var 110), (.op1 (.wrap .i64) (.op2 .add (.var 110) (.num 1)))), ((.var 111), (.var 111))])]),
  ([((.app 20 [(.var 1)]), false), ((.op2 .eq (.cell 8 (.var 1) (.var 110)) (.num 0)), true), ((.op2 .lt (.var 110) (.op1 .len (.var 1))), true), ((.op2 .lt (.var 110) (.num 0)), false)], none),
  ([((.op2 .lt (.num 1000000000) (.op2 .add (.op1 .len (.var 111)) (.num 1))), true), ((.app 34 [(.var 1), (.var 3), (.var 110)]), true), ((.app 20 [(.var 1)]), true), ((.op2 .eq (.cell 8 (.var 1) (.var 110)) (.num 0)), false), ((.op2 .lt (.var 110) (.op1 .len (.var 1))), true), ((.op2 .lt (.var 110) (.num 0)), false)], none),
  ([((.op2 .lt (.num 1000000000) (.op2 .add (.op1 .len (.var 111)) (.num 1))), false), ((.app 34 [(.var 1), (.var 3), (.var 110)]), true), ((.app 20 [(.var 1)]), true), ((.op2 .eq (.cell 8 (.var 1) (.var 110)) (.num 0)), false), ((.op2 .lt (.var 110) (.op1 .len (.var 1))), true), ((.op2 .lt (.var 110) (.num 0)), false)], some [((.again 1 [(112, 133)]), [((.op1 .len (.var 111)), (.op2 .add (.op1 .len (.var 111)) (.num 1))), ((.var 110), (.op1 (.wrap .i64) (.op2 .add (.var 110) (.num 1)))), ((.var 111), (.snoc (.var 111) [(.op1 (.kind .i64) (.cell 0 (.var 1) (.var 110))), (.op1 (.kind .i64) (.cell 1 (.var 1) (.var 110))), (.op1 (.kind .i64) (.cell 2 (.var 1) (.var 110))), (.op1 (.kind .i64) (.cell 3 (.var 1) (.var 110))), (.op1 (.kind .i64) (.cell 4 (.var 1) (.var 110))), (.op1 (.kind .i64) (.cell 5 (.var 1) (.var 110))), (.op1 (.kind .i64) (.cell 6 (.var 1) (.var 110))), (.op1 (.kind .i64) (.cell 7 (.var 1) (.var 110))), (.op1 (.kind .i64) (.cell 8 (.var 1) (.var 110)))]))])]),
  ([((.app 34 [(.var 1), (.var 3), (.var 110)]), false), ((.app 20 [(.var 1)]), true), ((.op2 .eq (.cell 8 (.var 1) (.var 110)) (.num 0)), false), ((.op2 .lt (.var 110) (.op1 .len (.var 1))), true), ((.op2 .lt (.var 110) (.num 0)), false)], some [((.again 1 [(112, 112)]), [((.op1 .len (.var 111)), (.op1 .len (.var 111))), ((.var 110), (.op1 (.wrap .i64) (.op2 .add (.var 110) (.num 1)))), ((.var 111), (.var 111))])]),
  ([((.app 20 [(.var 1)]), false), ((.op2 .eq (.cell 8 (.var 1) (.var 110)) (.num 0)), false), ((.op2 .lt (.var 110) (.op1 .len (.var 1))), true), ((.op2 .lt (.var 110) (.num 0)), false)], none),
  ([((.op2 .lt (.var 110) (.op1 .len (.var 1))), false), ((.op2 .lt (.var 110) (.num 0)), false)], some [((.leave 1 [(112, 112)]), [((.op1 .len (.app 21 [(.var 1), (.var 3)])), (.op1 .len (.var 111))), ((.app 21 [(.var 1), (.var 3)]), (.var 111)), ((.op1 .not (.op2 .eq (.op1 .len (.app 21 [(.var 1), (.var 3)])) (.num 0))), (.boo true))])])]
theorem rcnt1_w (r : Rho) : rcnt_D.ways rcnt_run E0 r 1 rcnt1_F rcnt1_t = some rcnt1_l := by kernel_rfl
theorem rcnt_ok : rcnt_D.ok = true := by kernel_rfl
def rcnt_Inv (l : List Wind) (known : Int) (j : Nat) (vals : List Value) : Prop := ∃ i : Nat, i ≤ l.length ∧ ((j = 0 ∧ vals = [.int .i64 i] ∧ (l.take i).filter (countsB l known) = []) ∨ (j = 1 ∧ vals = [.int .i64 i, windsR ((l.take i).filter (countsB l known))] ∧ (l.take i).filter (countsB l known) ≠ []))
def rcnt_mu (l : List Wind) (_ : Nat) (vals : List Value) : Nat := l.length - (vI (vals.getD 0 default)).toNat
theorem rcnt_step0 {ρ : Rho} {l : List Wind} {kk : IntKind} {known : Int} (h1 : ρ.val 1 = some (windsR l)) (h3 : ρ.val 3 = some (.int kk known)) (hsy : ρ.sym = sy) (hsh : shortB l = true) {i : Nat} (hi : i ≤ l.length) (hc : (l.take i).filter (countsB l known) = []) :
    StepOk rcnt_D rcnt_run E0 ρ (rcnt_Inv l known) (rcnt_mu l) 0 [.int .i64 i] := by
  have hN : rcnt_D.N = 110 := rfl
  have hmax := short_len hsh
  have v1 : (ρ.ext rcnt_D.N [.int .i64 i]).val 1 = some (windsR l) := by rw [ext_low _ _ _ _ (by rw [hN]; omega)]; exact h1
  have v3 : (ρ.ext rcnt_D.N [.int .i64 i]).val 3 = some (.int kk known) := by rw [ext_low _ _ _ _ (by rw [hN]; omega)]; exact h3
  have v110 : (ρ.ext rcnt_D.N [.int .i64 i]).val 110 = some (.int .i64 i) := by rw [ext_high _ _ _ _ (by rw [hN]; omega)]; rfl
  have vs : (ρ.ext rcnt_D.N [.int .i64 i]).sym = sy := hsy

  have hF : FactsIn (ρ.ext rcnt_D.N [.int .i64 i]) rcnt0_F := by
    simp only [rcnt0_F, FactsIn, X.bool, X.den, denL, d_wrap, d_kind, d_not, d_neg, d_slen, d_add, d_sub, d_mul, d_div, d_mod, d_lt, d_le, d_eq, d_eqb, d_eqs, d_lts, d_cat, d_sat, d_and, d_or, denSub, denIte, asB, winds_len, winds_cell, winds_lsub, v110, Option.some.injEq, Value.bool.injEq, decide_eq_false_iff_not, and_true]
    omega
  suffices both : AsksL (ρ.ext rcnt_D.N [.int .i64 i]) (rcnt0_t.asks rcnt0_F) ∧ WaysOk rcnt_D ρ (rcnt_Inv l known) (rcnt_mu l) 0 [.int .i64 i] rcnt0_l from step_of_ways (rcnt0_w _) hF both.1.ok both.2
  cases hp : l[i]? with
  | none =>
    have hge := List.getElem?_eq_none_iff.1 hp
    have hge' : ¬ (i : Int) < l.length := by omega
    have hl : (l.take i).filter (countsB l known) = countR l known := by rw [List.take_of_length_le hge]; rfl
    refine ⟨?_, ?_⟩
    · simp only [rcnt0_t, rcnt0_F, AsksL, GTree.asks, FTree.asks, FactsIn, List.append_nil, List.nil_append, List.cons_append, Option.some.injEq, exists_eq', implies_true, and_self, X.bool, X.den, denL, d_wrap, d_kind, d_not, d_neg, d_slen, d_add, d_sub, d_mul, d_div, d_mod, d_lt, d_le, d_eq, d_eqb, d_eqs, d_lts, d_cat, d_sat, d_and, d_or, denSub, denIte, asB, winds_len, winds_cell, winds_lsub, winds_snoc, winds_snoc0, snoc_nil, v1, v3, v110, vs, sym20, sym21, sym34, Int.toNat_natCast, hp, hge', hsh]
      try simp
    · rw [hl] at hc
      simp only [rcnt0_l, EndsOk, WaysOk, forall_cons, forall_nil, TgtOk, gpair, FactsIn, hold_cons, hold_nil, Option.some.injEq, Value.bool.injEq, Value.int.injEq, decide_eq_true_eq, decide_eq_false_iff_not, and_true, true_and, and_imp, X.bool, X.den, denL, d_wrap, d_kind, d_not, d_neg, d_slen, d_add, d_sub, d_mul, d_div, d_mod, d_lt, d_le, d_eq, d_eqb, d_eqs, d_lts, d_cat, d_sat, d_and, d_or, denSub, denIte, asB, winds_len, winds_cell, winds_lsub, beq_iff_eq, beq_eq_false_iff_ne, ne_eq, winds_snoc, winds_snoc0, snoc_nil, v1, v3, v110, vs, h1, h3, hsy, sym20, sym21, sym34, Int.toNat_natCast, hp, hge', hsh]
      simp [hl, hc]
  | some p =>
    have hlt : i < l.length := (List.getElem?_eq_some_iff.1 hp).1
    have hlt1 : (i : Int) < l.length := by omega
    have hnext : l.take (i + 1) = l.take i ++ [p] := by rw [List.take_add_one, hp]; rfl
    have hw : IntKind.i64.wrap ((i : Int) + 1) = ((i + 1 : Nat) : Int) := IntWalk.i64_in _ (by omega)
    have go0 : countsB l known p = false → (l.take (i + 1)).filter (countsB l known) = (l.take i).filter (countsB l known) := fun h => by rw [hnext, count_snoc, h]; rfl
    have go1 : countsB l known p = true → (l.take (i + 1)).filter (countsB l known) = (l.take i).filter (countsB l known) ++ [p] := fun h => by rw [hnext, count_snoc, if_pos h]
    have st : countsB l known p = false → ∃ vals', (ρ.ext rcnt_D.N vals').val 110 = some (.int .i64 (IntKind.i64.wrap ((i : Int) + 1))) ∧ rcnt_Inv l known 0 vals' ∧ rcnt_mu l 0 vals' < rcnt_mu l 0 [.int .i64 i] := fun h =>
      ⟨[.int .i64 ((i + 1 : Nat) : Int)], (by rw [ext_high _ _ _ _ (by rw [hN]; omega), hw]; rfl), ⟨i + 1, by omega, .inl ⟨rfl, rfl, by rw [go0 h]; exact hc⟩⟩, by simp [rcnt_mu, vI]; omega⟩
    have ad : countsB l known p = true → ∃ vals', ((match (ρ.ext rcnt_D.N vals').val 111 with | some v => den1 .len v | none => none) = some (.int .i64 (1)) ∧ (ρ.ext rcnt_D.N vals').val 110 = some (.int .i64 (IntKind.i64.wrap ((i : Int) + 1))) ∧ (ρ.ext rcnt_D.N vals').val 111 = some (rowsV [[.int .i64 p.id, .int .i64 p.known, .int .i64 p.from_, .int .i64 p.until_, .int .i64 p.al, .int .i64 p.ah, .int .i64 p.sl, .int .i64 p.sh, .int .i64 p.of_]])) ∧ rcnt_Inv l known 1 vals' ∧ rcnt_mu l 1 vals' < rcnt_mu l 0 [.int .i64 i] := fun h => by
      have e : (l.take (i + 1)).filter (countsB l known) = [p] := by rw [go1 h, hc]; rfl
      have e111 : (ρ.ext rcnt_D.N [.int .i64 ((i + 1 : Nat) : Int), windsR ((l.take (i + 1)).filter (countsB l known))]).val 111 = some (windsR ((l.take (i + 1)).filter (countsB l known))) := by rw [ext_high _ _ _ _ (by rw [hN]; omega)]; rfl
      refine ⟨[.int .i64 ((i + 1 : Nat) : Int), windsR ((l.take (i + 1)).filter (countsB l known))], ?_, ⟨i + 1, by omega, .inr ⟨rfl, rfl, by rw [e]; simp⟩⟩, by simp [rcnt_mu, vI]; omega⟩
      have n110 : (ρ.ext rcnt_D.N [.int .i64 ((i + 1 : Nat) : Int), windsR ((l.take (i + 1)).filter (countsB l known))]).val 110 = some (.int .i64 (IntKind.i64.wrap ((i : Int) + 1))) := (by rw [ext_high _ _ _ _ (by rw [hN]; omega), hw]; rfl)
      exact ⟨by rw [e111, e]; exact winds_len [p], n110, by rw [e111, e]; rfl⟩
    have hcl : ((l.take i).filter (countsB l known)).length ≤ i := Nat.le_trans (List.length_filter_le _ _) (by simp; omega)
    have hpd : (some p).getD zeroW = p := rfl
    cases hg : countsB l known p
    all_goals (refine ⟨?_, ?_⟩)
    all_goals (simp only [rcnt0_t, rcnt0_F, rcnt0_l, AsksL, GTree.asks, FTree.asks, FactsIn, List.append_nil, List.nil_append, List.cons_append, Option.some.injEq, exists_eq', implies_true, and_self, X.bool, X.den, denL, d_wrap, d_kind, d_not, d_neg, d_slen, d_add, d_sub, d_mul, d_div, d_mod, d_lt, d_le, d_eq, d_eqb, d_eqs, d_lts, d_cat, d_sat, d_and, d_or, denSub, denIte, asB, winds_len, winds_cell, winds_lsub, winds_snoc, winds_snoc0, snoc_nil, EndsOk, WaysOk, forall_cons, forall_nil, TgtOk, gpair, FactsIn, hold_cons, hold_nil, Option.some.injEq, Value.bool.injEq, Value.int.injEq, decide_eq_true_eq, decide_eq_false_iff_not, and_true, true_and, and_imp, X.bool, X.den, denL, d_wrap, d_kind, d_not, d_neg, d_slen, d_add, d_sub, d_mul, d_div, d_mod, d_lt, d_le, d_eq, d_eqb, d_eqs, d_lts, d_cat, d_sat, d_and, d_or, denSub, denIte, asB, winds_len, winds_cell, winds_lsub, beq_iff_eq, beq_eq_false_iff_ne, ne_eq, winds_snoc, winds_snoc0, snoc_nil, v1, v3, v110, vs, h1, h3, hsy, sym20, sym21, sym34, Int.toNat_natCast, hp, Option.bind_some, wind0, wind1, wind2, wind3, wind4, wind5, wind6, wind7, wind8, hlt1, hpd, hg, hsh, reduceCtorEq, false_implies, implies_true, true_implies, and_self])
    all_goals (clear v1 v3 v110 vs h1 h3 hsy hp hF)
    all_goals ((repeat' apply And.intro) <;> intros <;> first
      | (exfalso; omega)
      | (exact absurd trivial (by assumption))
      | (exact st hg)
      | (exact ad hg))

theorem rcnt_step1 {ρ : Rho} {l : List Wind} {kk : IntKind} {known : Int} (h1 : ρ.val 1 = some (windsR l)) (h3 : ρ.val 3 = some (.int kk known)) (hsy : ρ.sym = sy) (hsh : shortB l = true) {i : Nat} (hi : i ≤ l.length) (hc : (l.take i).filter (countsB l known) ≠ []) :
    StepOk rcnt_D rcnt_run E0 ρ (rcnt_Inv l known) (rcnt_mu l) 1 [.int .i64 i, windsR ((l.take i).filter (countsB l known))] := by
  have hN : rcnt_D.N = 110 := rfl
  have hmax := short_len hsh
  have v1 : (ρ.ext rcnt_D.N [.int .i64 i, windsR ((l.take i).filter (countsB l known))]).val 1 = some (windsR l) := by rw [ext_low _ _ _ _ (by rw [hN]; omega)]; exact h1
  have v3 : (ρ.ext rcnt_D.N [.int .i64 i, windsR ((l.take i).filter (countsB l known))]).val 3 = some (.int kk known) := by rw [ext_low _ _ _ _ (by rw [hN]; omega)]; exact h3
  have v110 : (ρ.ext rcnt_D.N [.int .i64 i, windsR ((l.take i).filter (countsB l known))]).val 110 = some (.int .i64 i) := by rw [ext_high _ _ _ _ (by rw [hN]; omega)]; rfl
  have v111 : (ρ.ext rcnt_D.N [.int .i64 i, windsR ((l.take i).filter (countsB l known))]).val 111 = some (windsR ((l.take i).filter (countsB l known))) := by rw [ext_high _ _ _ _ (by rw [hN]; omega)]; rfl
  have vs : (ρ.ext rcnt_D.N [.int .i64 i, windsR ((l.take i).filter (countsB l known))]).sym = sy := hsy

  have hF : FactsIn (ρ.ext rcnt_D.N [.int .i64 i, windsR ((l.take i).filter (countsB l known))]) rcnt1_F := by
    simp only [rcnt1_F, FactsIn, X.bool, X.den, denL, d_wrap, d_kind, d_not, d_neg, d_slen, d_add, d_sub, d_mul, d_div, d_mod, d_lt, d_le, d_eq, d_eqb, d_eqs, d_lts, d_cat, d_sat, d_and, d_or, denSub, denIte, asB, winds_len, winds_cell, winds_lsub, v110, Option.some.injEq, Value.bool.injEq, decide_eq_false_iff_not, and_true]
    omega
  suffices both : AsksL (ρ.ext rcnt_D.N [.int .i64 i, windsR ((l.take i).filter (countsB l known))]) (rcnt1_t.asks rcnt1_F) ∧ WaysOk rcnt_D ρ (rcnt_Inv l known) (rcnt_mu l) 1 [.int .i64 i, windsR ((l.take i).filter (countsB l known))] rcnt1_l from step_of_ways (rcnt1_w _) hF both.1.ok both.2
  cases hp : l[i]? with
  | none =>
    have hge := List.getElem?_eq_none_iff.1 hp
    have hge' : ¬ (i : Int) < l.length := by omega
    have hl : (l.take i).filter (countsB l known) = countR l known := by rw [List.take_of_length_le hge]; rfl
    refine ⟨?_, ?_⟩
    · simp only [rcnt1_t, rcnt1_F, AsksL, GTree.asks, FTree.asks, FactsIn, List.append_nil, List.nil_append, List.cons_append, Option.some.injEq, exists_eq', implies_true, and_self, X.bool, X.den, denL, d_wrap, d_kind, d_not, d_neg, d_slen, d_add, d_sub, d_mul, d_div, d_mod, d_lt, d_le, d_eq, d_eqb, d_eqs, d_lts, d_cat, d_sat, d_and, d_or, denSub, denIte, asB, winds_len, winds_cell, winds_lsub, winds_snoc, winds_snoc0, snoc_nil, v1, v3, v110, v111, vs, sym20, sym21, sym34, Int.toNat_natCast, hp, hge', hsh]
      try simp
    · rw [hl] at hc
      simp only [rcnt1_l, EndsOk, WaysOk, forall_cons, forall_nil, TgtOk, gpair, FactsIn, hold_cons, hold_nil, Option.some.injEq, Value.bool.injEq, Value.int.injEq, decide_eq_true_eq, decide_eq_false_iff_not, and_true, true_and, and_imp, X.bool, X.den, denL, d_wrap, d_kind, d_not, d_neg, d_slen, d_add, d_sub, d_mul, d_div, d_mod, d_lt, d_le, d_eq, d_eqb, d_eqs, d_lts, d_cat, d_sat, d_and, d_or, denSub, denIte, asB, winds_len, winds_cell, winds_lsub, beq_iff_eq, beq_eq_false_iff_ne, ne_eq, winds_snoc, winds_snoc0, snoc_nil, v1, v3, v110, v111, vs, h1, h3, hsy, sym20, sym21, sym34, Int.toNat_natCast, hp, hge', hsh]
      simp [hl, hc]
  | some p =>
    have hlt : i < l.length := (List.getElem?_eq_some_iff.1 hp).1
    have hlt1 : (i : Int) < l.length := by omega
    have hnext : l.take (i + 1) = l.take i ++ [p] := by rw [List.take_add_one, hp]; rfl
    have hw : IntKind.i64.wrap ((i : Int) + 1) = ((i + 1 : Nat) : Int) := IntWalk.i64_in _ (by omega)
    have go0 : countsB l known p = false → (l.take (i + 1)).filter (countsB l known) = (l.take i).filter (countsB l known) := fun h => by rw [hnext, count_snoc, h]; rfl
    have go1 : countsB l known p = true → (l.take (i + 1)).filter (countsB l known) = (l.take i).filter (countsB l known) ++ [p] := fun h => by rw [hnext, count_snoc, if_pos h]
    have st : countsB l known p = false → ∃ vals', ((match (ρ.ext rcnt_D.N vals').val 111 with | some v => den1 .len v | none => none) = some (.int .i64 ((((l.take i).filter (countsB l known)).length : Int))) ∧ (ρ.ext rcnt_D.N vals').val 110 = some (.int .i64 (IntKind.i64.wrap ((i : Int) + 1))) ∧ (ρ.ext rcnt_D.N vals').val 111 = some (windsR ((l.take i).filter (countsB l known)))) ∧ rcnt_Inv l known 1 vals' ∧ rcnt_mu l 1 vals' < rcnt_mu l 1 [.int .i64 i, windsR ((l.take i).filter (countsB l known))] := fun h => by
      have e111 : (ρ.ext rcnt_D.N [.int .i64 ((i + 1 : Nat) : Int), windsR ((l.take (i + 1)).filter (countsB l known))]).val 111 = some (windsR ((l.take (i + 1)).filter (countsB l known))) := by rw [ext_high _ _ _ _ (by rw [hN]; omega)]; rfl
      refine ⟨[.int .i64 ((i + 1 : Nat) : Int), windsR ((l.take (i + 1)).filter (countsB l known))], ?_, ⟨i + 1, by omega, .inr ⟨rfl, rfl, by rw [go0 h]; exact hc⟩⟩, by simp [rcnt_mu, vI]; omega⟩
      have n110 : (ρ.ext rcnt_D.N [.int .i64 ((i + 1 : Nat) : Int), windsR ((l.take (i + 1)).filter (countsB l known))]).val 110 = some (.int .i64 (IntKind.i64.wrap ((i : Int) + 1))) := (by rw [ext_high _ _ _ _ (by rw [hN]; omega), hw]; rfl)
      exact ⟨by rw [e111, go0 h]; exact winds_len _, n110, by rw [e111, go0 h]⟩
    have ad : countsB l known p = true → ∃ vals', ((match (ρ.ext rcnt_D.N vals').val 111 with | some v => den1 .len v | none => none) = some (.int .i64 ((((l.take i).filter (countsB l known)).length : Int) + 1)) ∧ (ρ.ext rcnt_D.N vals').val 110 = some (.int .i64 (IntKind.i64.wrap ((i : Int) + 1))) ∧ (ρ.ext rcnt_D.N vals').val 111 = some (windsR ((l.take i).filter (countsB l known) ++ [p]))) ∧ rcnt_Inv l known 1 vals' ∧ rcnt_mu l 1 vals' < rcnt_mu l 1 [.int .i64 i, windsR ((l.take i).filter (countsB l known))] := fun h => by
      have e111 : (ρ.ext rcnt_D.N [.int .i64 ((i + 1 : Nat) : Int), windsR ((l.take (i + 1)).filter (countsB l known))]).val 111 = some (windsR ((l.take (i + 1)).filter (countsB l known))) := by rw [ext_high _ _ _ _ (by rw [hN]; omega)]; rfl
      refine ⟨[.int .i64 ((i + 1 : Nat) : Int), windsR ((l.take (i + 1)).filter (countsB l known))], ?_, ⟨i + 1, by omega, .inr ⟨rfl, rfl, by rw [go1 h]; simp⟩⟩, by simp [rcnt_mu, vI]; omega⟩
      have n110 : (ρ.ext rcnt_D.N [.int .i64 ((i + 1 : Nat) : Int), windsR ((l.take (i + 1)).filter (countsB l known))]).val 110 = some (.int .i64 (IntKind.i64.wrap ((i : Int) + 1))) := (by rw [ext_high _ _ _ _ (by rw [hN]; omega), hw]; rfl)
      exact ⟨by rw [e111, go1 h]; exact (winds_len _).trans (by simp), n110, by rw [e111, go1 h]⟩
    have hcl : ((l.take i).filter (countsB l known)).length ≤ i := Nat.le_trans (List.length_filter_le _ _) (by simp; omega)
    have hpd : (some p).getD zeroW = p := rfl
    cases hg : countsB l known p
    all_goals (refine ⟨?_, ?_⟩)
    all_goals (simp only [rcnt1_t, rcnt1_F, rcnt1_l, AsksL, GTree.asks, FTree.asks, FactsIn, List.append_nil, List.nil_append, List.cons_append, Option.some.injEq, exists_eq', implies_true, and_self, X.bool, X.den, denL, d_wrap, d_kind, d_not, d_neg, d_slen, d_add, d_sub, d_mul, d_div, d_mod, d_lt, d_le, d_eq, d_eqb, d_eqs, d_lts, d_cat, d_sat, d_and, d_or, denSub, denIte, asB, winds_len, winds_cell, winds_lsub, winds_snoc, winds_snoc0, snoc_nil, EndsOk, WaysOk, forall_cons, forall_nil, TgtOk, gpair, FactsIn, hold_cons, hold_nil, Option.some.injEq, Value.bool.injEq, Value.int.injEq, decide_eq_true_eq, decide_eq_false_iff_not, and_true, true_and, and_imp, X.bool, X.den, denL, d_wrap, d_kind, d_not, d_neg, d_slen, d_add, d_sub, d_mul, d_div, d_mod, d_lt, d_le, d_eq, d_eqb, d_eqs, d_lts, d_cat, d_sat, d_and, d_or, denSub, denIte, asB, winds_len, winds_cell, winds_lsub, beq_iff_eq, beq_eq_false_iff_ne, ne_eq, winds_snoc, winds_snoc0, snoc_nil, v1, v3, v110, v111, vs, h1, h3, hsy, sym20, sym21, sym34, Int.toNat_natCast, hp, Option.bind_some, wind0, wind1, wind2, wind3, wind4, wind5, wind6, wind7, wind8, hlt1, hpd, hg, hsh, reduceCtorEq, false_implies, implies_true, true_implies, and_self])
    all_goals (clear v1 v3 v110 v111 vs h1 h3 hsy hp hF)
    all_goals ((repeat' apply And.intro) <;> intros <;> first
      | (exfalso; omega)
      | (exact absurd trivial (by assumption))
      | (exact st hg)
      | (exact ad hg))

theorem rcnt_step {ρ : Rho} {l : List Wind} {kk : IntKind} {known : Int} (h1 : ρ.val 1 = some (windsR l)) (h3 : ρ.val 3 = some (.int kk known)) (hsy : ρ.sym = sy) (hsh : shortB l = true) (j : Nat) (vals : List Value) (hI : rcnt_Inv l known j vals) :
    StepOk rcnt_D rcnt_run E0 ρ (rcnt_Inv l known) (rcnt_mu l) j vals := by
  obtain ⟨i, hi, ⟨rfl, rfl, hc⟩ | ⟨rfl, rfl, hc⟩⟩ := hI
  · exact rcnt_step0 h1 h3 hsy hsh hi hc
  · exact rcnt_step1 h1 h3 hsy hsh hi hc
theorem rcnt_H {r : Rho} {l : List Wind} {kk : IntKind} {known : Int} (h1 : r.val 1 = some (windsR l)) (h3 : r.val 3 = some (.int kk known)) (hsy : r.sym = sy) (F : List (X × Bool)) (hsh : shortB l = true) :
    LoopsOk (E0.with F r) (oneH 42 (hooks [(3, rcnt_D.hook (E0.with F r).facts rcnt_vs)])) := by
  refine loops_all (n := 2) (fun f fn h => h) (by kernel_rfl) fun i hi => ?_
  have h01 : i = 0 ∨ i = 1 := by omega
  rcases h01 with rfl | rfl
  · rw [hooks_hit (show keyOf (loopAt (E0.with F r).P 42 0) = 3 by kernel_rfl)]
    refine hook_in (E₀ := E0) (run := rcnt_run) (ρ := r) (Inv := rcnt_Inv l known) (μ := rcnt_mu l) E0_ok rcnt_ok (fun F vals => ?_) (fun hpre => ⟨rcnt_step h1 h3 hsy hsh, [.int .i64 0], ?_, 0, Nat.zero_le _, .inl ⟨rfl, rfl, rfl⟩⟩)
    · have hN : rcnt_D.N = 110 := rfl
      exact bodyRun_ok E0_ok (noL_ok F (r := r.ext rcnt_D.N vals) hsy) (rin_H (r := r.ext rcnt_D.N vals) (by rw [ext_low _ _ _ _ (by rw [hN]; omega)]; exact h1) (by rw [ext_low _ _ _ _ (by rw [hN]; omega)]; exact h3) hsy (short_len hsh) F)
    · simp only [rcnt_vs, X.bool, X.den, denL, d_wrap, d_kind, d_not, d_neg, d_slen, d_add, d_sub, d_mul, d_div, d_mod, d_lt, d_le, d_eq, d_eqb, d_eqs, d_lts, d_cat, d_sat, d_and, d_or, denSub, denIte, asB, winds_len, winds_cell, winds_lsub]
  · rw [hooks_miss (show Nat.beq (keyOf (loopAt (E0.with F r).P 42 1)) 3 = false by kernel_rfl)]
    exact fun f S outs h => by cases h

noncomputable def rCountNo_con : Con := { f := 42, args := [windsArg 0 0, .one (.int .i64 3)], N := 1, M := 1, pre := [(.app 20 [.var 1], true), (.op2 .eq (.op1 .len (.app 21 [.var 1, .var 3])) (.num 0), true)], out := .nilslice, news := [] }
noncomputable def rCountNo_call : Env → CallL := fun E => acallAll E (evH E (noL E) ((fun E => oneH 42 (hooks [(3, rcnt_D.hook E.facts rcnt_vs)])) E) 8)
noncomputable def rCountNo_t : GTree := (.leaf [[]])
noncomputable def rCountNo_l : List (List (X × Bool) × Option Pairs) := [([((.app 20 [(.var 1)]), true), ((.op2 .eq (.op1 .len (.app 21 [(.var 1), (.var 3)])) (.num 0)), true)], some [])]
theorem rCountNo_w (r : Rho) : rCountNo_con.fn.ways rCountNo_call E0 r rCountNo_con.pre rCountNo_t = some rCountNo_l := by kernel_rfl
theorem rCountNo_cok : rCountNo_con.Ok Tryz.prog sy := by
  intro r σ w us hsy hρ hpre hrel hins
  obtain ⟨u0, us, rfl, g0, hi⟩ := ins_cons hins
  obtain ⟨u1, us, rfl, g1, hi⟩ := ins_cons hi
  obtain ⟨known, kk, rfl, h3⟩ := one_int g1
  obtain ⟨l, h1⟩ := winds_at hrel (i := 0) rfl
  rw [hρ] at h1 h3
  have h1 : r.val 1 = some (windsR l) := h1
  have hsh : shortB l = true := by
    have := hpre.1
    simp only [X.bool, X.den, denL, d_wrap, d_kind, d_not, d_neg, d_slen, d_add, d_sub, d_mul, d_div, d_mod, d_lt, d_le, d_eq, d_eqb, d_eqs, d_lts, d_cat, d_sat, d_and, d_or, denSub, denIte, asB, winds_len, winds_cell, winds_lsub, h1, hsy, sym20, Option.some.injEq, Value.bool.injEq] at this
    exact this
  refine con_of (E := E0) E0_ok E0_glob (sy := sy) (fun F => noL_ok F hsy) (fun F => rcnt_H h1 h3 hsy F hsh) (rCountNo_w r) hρ hpre hrel hins ?_ ?_
  · simp only [rCountNo_con, rCountNo_t, AsksL, GTree.asks, FTree.asks, FactsIn, List.append_nil, List.nil_append, List.cons_append, Option.some.injEq, exists_eq', implies_true, and_self, X.bool, X.den, denL, d_wrap, d_kind, d_not, d_neg, d_slen, d_add, d_sub, d_mul, d_div, d_mod, d_lt, d_le, d_eq, d_eqb, d_eqs, d_lts, d_cat, d_sat, d_and, d_or, denSub, denIte, asB, winds_len, winds_cell, winds_lsub, winds_snoc, winds_snoc0, snoc_nil, h1, h3, hsy, sym20, sym21, sym34]
  · simp only [rCountNo_l, EndsOk, WaysOk, forall_cons, forall_nil, TgtOk, gpair, FactsIn, hold_cons, hold_nil, Option.some.injEq, Value.bool.injEq, Value.int.injEq, decide_eq_true_eq, decide_eq_false_iff_not, and_true, true_and, and_imp, X.bool, X.den, denL, d_wrap, d_kind, d_not, d_neg, d_slen, d_add, d_sub, d_mul, d_div, d_mod, d_lt, d_le, d_eq, d_eqb, d_eqs, d_lts, d_cat, d_sat, d_and, d_or, denSub, denIte, asB, winds_len, winds_cell, winds_lsub, beq_iff_eq, beq_eq_false_iff_ne, ne_eq, winds_snoc, winds_snoc0, snoc_nil, h1, h3, hsy, sym20, sym21, sym34]
    clear hρ hpre hrel hi hins g0 g1 h1 h3
    (repeat' apply And.intro) <;> intros <;> first
      | trivial
      | (exfalso; omega)
      | (simp_all; done)
      | (exfalso; simp_all; done)

noncomputable def rCountYes_con : Con := { f := 42, args := [windsArg 0 0, .one (.int .i64 3)], N := 1, M := 2, pre := [(.app 20 [.var 1], true), (.op2 .eq (.op1 .len (.app 21 [.var 1, .var 3])) (.num 0), false)], out := .slo 1 9 (.op1 .len (.app 21 [.var 1, .var 3])), news := [(1, .rows 9 windSch (.num 0) (.app 21 [.var 1, .var 3]) true 26)] }
noncomputable def rCountYes_call : Env → CallL := fun E => acallAll E (evH E (noL E) ((fun E => oneH 42 (hooks [(3, rcnt_D.hook E.facts rcnt_vs)])) E) 8)
noncomputable def rCountYes_t : GTree := (.leaf [[(1, 112)]])
noncomputable def rCountYes_l : List (List (X × Bool) × Option Pairs) := [([((.app 20 [(.var 1)]), true), ((.op2 .eq (.op1 .len (.app 21 [(.var 1), (.var 3)])) (.num 0)), false)], some [((.op1 .len (.app 21 [(.var 1), (.var 3)])), (.op1 .len (.app 21 [(.var 1), (.var 3)]))), ((.app 21 [(.var 1), (.var 3)]), (.app 21 [(.var 1), (.var 3)]))])]
theorem rCountYes_w (r : Rho) : rCountYes_con.fn.ways rCountYes_call E0 r rCountYes_con.pre rCountYes_t = some rCountYes_l := by kernel_rfl
theorem rCountYes_cok : rCountYes_con.Ok Tryz.prog sy := by
  intro r σ w us hsy hρ hpre hrel hins
  obtain ⟨u0, us, rfl, g0, hi⟩ := ins_cons hins
  obtain ⟨u1, us, rfl, g1, hi⟩ := ins_cons hi
  obtain ⟨known, kk, rfl, h3⟩ := one_int g1
  obtain ⟨l, h1⟩ := winds_at hrel (i := 0) rfl
  rw [hρ] at h1 h3
  have h1 : r.val 1 = some (windsR l) := h1
  have hsh : shortB l = true := by
    have := hpre.1
    simp only [X.bool, X.den, denL, d_wrap, d_kind, d_not, d_neg, d_slen, d_add, d_sub, d_mul, d_div, d_mod, d_lt, d_le, d_eq, d_eqb, d_eqs, d_lts, d_cat, d_sat, d_and, d_or, denSub, denIte, asB, winds_len, winds_cell, winds_lsub, h1, hsy, sym20, Option.some.injEq, Value.bool.injEq] at this
    exact this
  refine con_of (E := E0) E0_ok E0_glob (sy := sy) (fun F => noL_ok F hsy) (fun F => rcnt_H h1 h3 hsy F hsh) (rCountYes_w r) hρ hpre hrel hins ?_ ?_
  · simp only [rCountYes_con, rCountYes_t, AsksL, GTree.asks, FTree.asks, FactsIn, List.append_nil, List.nil_append, List.cons_append, Option.some.injEq, exists_eq', implies_true, and_self, X.bool, X.den, denL, d_wrap, d_kind, d_not, d_neg, d_slen, d_add, d_sub, d_mul, d_div, d_mod, d_lt, d_le, d_eq, d_eqb, d_eqs, d_lts, d_cat, d_sat, d_and, d_or, denSub, denIte, asB, winds_len, winds_cell, winds_lsub, winds_snoc, winds_snoc0, snoc_nil, h1, h3, hsy, sym20, sym21, sym34]
  · simp only [rCountYes_l, EndsOk, WaysOk, forall_cons, forall_nil, TgtOk, gpair, FactsIn, hold_cons, hold_nil, Option.some.injEq, Value.bool.injEq, Value.int.injEq, decide_eq_true_eq, decide_eq_false_iff_not, and_true, true_and, and_imp, X.bool, X.den, denL, d_wrap, d_kind, d_not, d_neg, d_slen, d_add, d_sub, d_mul, d_div, d_mod, d_lt, d_le, d_eq, d_eqb, d_eqs, d_lts, d_cat, d_sat, d_and, d_or, denSub, denIte, asB, winds_len, winds_cell, winds_lsub, beq_iff_eq, beq_eq_false_iff_ne, ne_eq, winds_snoc, winds_snoc0, snoc_nil, h1, h3, hsy, sym20, sym21, sym34]
    clear hρ hpre hrel hi hins g0 g1 h1 h3
    (repeat' apply And.intro) <;> intros <;> first
      | trivial
      | (exfalso; omega)
      | (simp_all; done)
      | (exfalso; simp_all; done)

end Go.Proofs.YtpjkfjnjbekcaaaGreatDoor.Zs
