/-
  Contracts of package purse: what a party has; books and their beginnings.
-/
import Derived.Test.YtfmgfehjbedcmaaGreatPuConE
import Derived.KernelRfl
set_option linter.unusedSimpArgs false
set_option linter.unusedVariables false
namespace Go.Proofs.YtfmgfehjbedcmaaGreat.Zs
open Go
set_option linter.unusedSimpArgs false
set_option linter.unusedVariables false

theorem chk_good : ∀ (l pre : List Ptg), GoodL pre → (chkP pre l).2 = 0 → GoodL (pre ++ l)
  | [], pre, h, _ => by rwa [List.append_nil]
  | p :: r, pre, h, hc => by
    by_cases e : refusedP pre p = 0
    · simp only [chkP, if_pos e] at hc
      have := chk_good r (pre ++ [p]) (h.snoc e) hc
      rwa [List.append_assoc] at this
    · simp only [chkP, if_neg e] at hc
      exact absurd hc e
theorem check_good {l : List Ptg} (h : (checkP l).2 = 0) : GoodL l := chk_good l [] goodL_nil h
theorem chk_take : ∀ (l pre : List Ptg) (i : Nat), (chkP pre l).2 = 0 → (chkP pre (l.take i)).2 = 0
  | [], pre, i, h => by rwa [List.take_nil]
  | p :: r, pre, 0, h => rfl
  | p :: r, pre, i + 1, hc => by
    rw [List.take_succ_cons]
    by_cases e : refusedP pre p = 0
    · simp only [chkP, if_pos e] at hc ⊢
      exact chk_take r (pre ++ [p]) i hc
    · simp only [chkP, if_neg e] at hc
      exact absurd hc e
theorem check_take {l : List Ptg} (h : (checkP l).2 = 0) (i : Nat) : (checkP (l.take i)).2 = 0 := chk_take l [] i h
theorem check_at {l : List Ptg} (h : (checkP l).2 = 0) {i : Nat} {p : Ptg} (hp : l[i]? = some p) : refusedP (l.take i) p = 0 := by
  have h1 := check_take h (i + 1)
  rw [List.take_add_one, hp] at h1
  have h2 : (checkP (l.take i ++ [p])).2 = 0 := h1
  rw [check_snoc] at h2
  unfold appendP at h2
  rw [check_take h i] at h2
  simpa using h2
def kcell (l : List Ptg) (w c : Int) : Value := bif paidB l w c then .int .u8 (lastPay l w c).kind else .int .i64 0
theorem last_snoc (l : List Ptg) (p : Ptg) (w c : Int) : lastPay (l ++ [p]) w c = bif payB w c p then p else lastPay l w c := by simp [lastPay]
theorem paid_snoc (l : List Ptg) (p : Ptg) (w c : Int) : paidB (l ++ [p]) w c = (paidB l w c || payB w c p) := by simp [paidB]
theorem kcell_snoc (l : List Ptg) (p : Ptg) (w c : Int) : kcell (l ++ [p]) w c = bif payB w c p then .int .u8 p.kind else kcell l w c := by
  unfold kcell
  rw [last_snoc, paid_snoc]
  cases payB w c p <;> simp

noncomputable def cPty_con : Con := { f := 88, args := [.one (.int .i64 0)], N := 0, M := 0, pre := [], out := .sbool (.app 31 [.var 0]), news := [] }
noncomputable def cPty_call : Env → CallL := fun E => acallAll E (evH E (LW E) ((fun _ => noLoops) E) 4)
noncomputable def cPty_t : GTree := (.fork (.op2 .eq (.var 0) (.num 0)) (.leaf [[]]) (.leaf [[]]))
noncomputable def cPty_l : List (List (X × Bool) × Option Pairs) := [([((.op2 .eq (.var 0) (.num 0)), true)], some [((.app 31 [(.var 0)]), (.boo true))]),
  ([((.op2 .eq (.var 0) (.num 0)), false)], some [((.app 31 [(.var 0)]), (.app 10 [(.var 0), (.num 1), (.num 40)]))])]
theorem cPty_w (r : Rho) : cPty_con.fn.ways cPty_call E0 r cPty_con.pre cPty_t = some cPty_l := by kernel_rfl
theorem cPty_cok : cPty_con.Ok Tryz.prog sy := by
  intro r σ w us hsy hρ hpre hrel hins
  obtain ⟨u0, us, rfl, g0, hi⟩ := ins_cons hins
  obtain ⟨a, k, rfl, h0⟩ := one_int g0
  rw [hρ] at h0
  refine con_of (E := E0) E0_ok E0_glob (sy := sy) (fun F => LW_ok F hsy) (fun F => noH_ok) (cPty_w r) hρ hpre hrel hins ?_ ?_
  · simp only [cPty_con, cPty_t, AsksL, GTree.asks, FTree.asks, FactsIn, List.append_nil, List.nil_append, List.cons_append, Option.some.injEq, exists_eq', implies_true, and_self, X.bool, X.den, denL, d_wrap, d_kind, d_not, d_neg, d_slen, d_add, d_sub, d_mul, d_div, d_mod, d_lt, d_le, d_eq, d_eqb, d_eqs, d_lts, d_cat, d_sat, d_and, d_or, denSub, denIte, asB, ptgs_len, ptgs_cell, ptgs_lsub, h0, hsy, sym10, sym31]
    try simp
  · simp only [cPty_l, EndsOk, WaysOk, forall_cons, forall_nil, TgtOk, gpair, FactsIn, hold_cons, hold_nil, Option.some.injEq, Value.bool.injEq, Value.int.injEq, decide_eq_true_eq, decide_eq_false_iff_not, and_true, true_and, and_imp, X.bool, X.den, denL, d_wrap, d_kind, d_not, d_neg, d_slen, d_add, d_sub, d_mul, d_div, d_mod, d_lt, d_le, d_eq, d_eqb, d_eqs, d_lts, d_cat, d_sat, d_and, d_or, denSub, denIte, asB, ptgs_len, ptgs_cell, ptgs_lsub, h0, hsy, sym10, sym31]
    (repeat' apply And.intro) <;> intros <;> simp_all [partyB]
noncomputable def L7 : Env → CallE := libs [cLib cLedN_con, cLib cLedY_con, cLib cwithin_con, cLib cPty_con, cLib cChk_con]
theorem L7_ok (F : List (X × Bool)) {r : Rho} (h : r.sym = sy) : CallsOk (E0.with F r) (L7 (E0.with F r)) := libs_ok fun c hc => by
  simp only [List.mem_cons, List.not_mem_nil, or_false] at hc
  rcases hc with rfl | rfl | rfl | rfl | rfl
  · exact lib_ok (E := E0) cLedN_cok F h
  · exact lib_ok (E := E0) cLedY_cok F h
  · exact lib_ok (E := E0) cwithin_cok F h
  · exact lib_ok (E := E0) cPty_cok F h
  · exact lib_ok (E := E0) cChk_cok F h

noncomputable def cHas_con : Con := { f := 13, args := [ptgsArg 0 0, .one (.int .i64 3), .one (.int .i64 4)], N := 1, M := 1, pre := [(.app 20 [.var 1], true), (.op2 .eq (.app 6 [.var 1]) (.num 0), true), (.app 31 [.var 3], true), (.app 10 [.var 4, .num 10, .num 10000007], true)], out := .tuple [.sint .i64 (.app 40 [.var 1, .var 3, .var 4]), .int .i64 0], news := [] }
noncomputable def cHas_call : Env → CallL := fun E => acallAll E (evH E (L7 E) ((fun _ => noLoops) E) 6)
noncomputable def cHas_t : GTree := (.fork (.op2 .mhas (.app 53 [(.var 1)]) (.snoc .nil [(.op1 (.kind .i64) (.var 3)), (.op1 (.kind .i64) (.var 4))])) (.leaf [[]]) (.leaf [[]]))
noncomputable def cHas_l : List (List (X × Bool) × Option Pairs) := [([((.op2 .mhas (.app 53 [(.var 1)]) (.snoc .nil [(.op1 (.kind .i64) (.var 3)), (.op1 (.kind .i64) (.var 4))])), true), ((.app 20 [(.var 1)]), true), ((.op2 .eq (.app 6 [(.var 1)]) (.num 0)), true), ((.app 31 [(.var 3)]), true), ((.app 10 [(.var 4), (.num 10), (.num 10000007)]), true)], some [((.app 40 [(.var 1), (.var 3), (.var 4)]), (.op2 (.mat 2) (.app 53 [(.var 1)]) (.snoc .nil [(.op1 (.kind .i64) (.var 3)), (.op1 (.kind .i64) (.var 4))])))]),
  ([((.op2 .mhas (.app 53 [(.var 1)]) (.snoc .nil [(.op1 (.kind .i64) (.var 3)), (.op1 (.kind .i64) (.var 4))])), false), ((.app 20 [(.var 1)]), true), ((.op2 .eq (.app 6 [(.var 1)]) (.num 0)), true), ((.app 31 [(.var 3)]), true), ((.app 10 [(.var 4), (.num 10), (.num 10000007)]), true)], some [((.app 40 [(.var 1), (.var 3), (.var 4)]), (.num 0))])]
theorem cHas_w (r : Rho) : cHas_con.fn.ways cHas_call E0 r cHas_con.pre cHas_t = some cHas_l := by kernel_rfl
theorem cHas_cok : cHas_con.Ok Tryz.prog sy := by
  intro r σ w us hsy hρ hpre hrel hins
  obtain ⟨u0, us, rfl, g0, hi⟩ := ins_cons hins
  obtain ⟨u1, us, rfl, g1, hi⟩ := ins_cons hi
  obtain ⟨u2, us, rfl, g2, hi⟩ := ins_cons hi
  obtain ⟨w_, k3, rfl, h3⟩ := one_int g1
  obtain ⟨c, k4, rfl, h4⟩ := one_int g2
  obtain ⟨l, h1⟩ := ptgs_at hrel (i := 0) rfl
  rw [hρ] at h1 h3 h4
  have h1 : r.val 1 = some (ptgsR l) := h1
  have hmax : (l.length : Int) ≤ 1010 := by
    have := hpre.1
    simp only [X.bool, X.den, denL, d_wrap, d_kind, d_not, d_neg, d_slen, d_add, d_sub, d_mul, d_div, d_mod, d_lt, d_le, d_eq, d_eqb, d_eqs, d_lts, d_cat, d_sat, d_and, d_or, denSub, denIte, asB, ptgs_len, ptgs_cell, ptgs_lsub, h1, hsy, sym20, Option.some.injEq, Value.bool.injEq] at this
    exact short_len this
  have h0 : (checkP l).2 = 0 := by
    have := hpre.2.1
    simpa only [X.bool, X.den, denL, d_wrap, d_kind, d_not, d_neg, d_slen, d_add, d_sub, d_mul, d_div, d_mod, d_lt, d_le, d_eq, d_eqb, d_eqs, d_lts, d_cat, d_sat, d_and, d_or, denSub, denIte, asB, ptgs_len, ptgs_cell, ptgs_lsub, h1, hsy, sym6, Option.some.injEq, Value.bool.injEq, decide_eq_true_eq, beq_iff_eq] using this
  have hg := check_good h0
  have hu : uptoP l = l := upto_full h0
  have kC : (mapHas (hasV l) (kA w_ c) = false ∧ hasW l w_ c = 0) ∨ (mapHas (hasV l) (kA w_ c) = true ∧ mapAt (hasV l) (kA w_ c) 2 = some (.int .i64 (hasW l w_ c))) := by
    rcases hg.has w_ c with ⟨a1, a2, _⟩ | ⟨a1, a2, _⟩
    · exact .inl ⟨a1, a2⟩
    · exact .inr ⟨a1, a2⟩
  simp only [kA] at kC
  refine con_of (E := E0) E0_ok E0_glob (sy := sy) (fun F => L7_ok F hsy) (fun F => noH_ok) (cHas_w r) hρ hpre hrel hins ?_ ?_
  · rcases kC with ⟨e1, e2⟩ | ⟨e1, e2⟩ <;> simp only [cHas_con, cHas_t, AsksL, GTree.asks, FTree.asks, FactsIn, List.append_nil, List.nil_append, List.cons_append, Option.some.injEq, exists_eq', implies_true, and_self, X.bool, X.den, denL, d_wrap, d_kind, d_not, d_neg, d_slen, d_add, d_sub, d_mul, d_div, d_mod, d_lt, d_le, d_eq, d_eqb, d_eqs, d_lts, d_cat, d_sat, d_and, d_or, denSub, d_ite2, d_eq_ite2, asB, ptgs_len, ptgs_cell, ptgs_lsub, snoc_nil, d_mhas, d_mat, d_mput, rows_len, List.take_succ_cons, List.take_zero, cond_acc, h1, h3, h4, hsy, sym40, sym53, hu, e1, e2]
    all_goals (try simp)
  · rcases kC with ⟨e1, e2⟩ | ⟨e1, e2⟩ <;> simp only [cHas_l, EndsOk, WaysOk, forall_cons, forall_nil, TgtOk, gpair, FactsIn, hold_cons, hold_nil, Option.some.injEq, Value.bool.injEq, Value.int.injEq, decide_eq_true_eq, decide_eq_false_iff_not, and_true, true_and, and_imp, X.bool, X.den, denL, d_wrap, d_kind, d_not, d_neg, d_slen, d_add, d_sub, d_mul, d_div, d_mod, d_lt, d_le, d_eq, d_eqb, d_eqs, d_lts, d_cat, d_sat, d_and, d_or, denSub, d_ite2, d_eq_ite2, asB, ptgs_len, ptgs_cell, ptgs_lsub, snoc_nil, d_mhas, d_mat, d_mput, rows_len, List.take_succ_cons, List.take_zero, cond_acc, beq_iff_eq, beq_eq_false_iff_ne, ne_eq, h1, h3, h4, hsy, sym40, sym53, hu, e1, e2]
    all_goals (try simp)
def gth_vs : List X := [.num 0, .num 0, .num 0, .num 0, .num 0, .num 0, .num 0, .num 0, .num 0, .boo false]

noncomputable def lTh_D : LoopD := { N := 100, M := 110, size := sizeOfF 122, reads := [(0, .rows 8 ptgSch (.var 0) (.var 1) false 36), (10, .cells [.sint .i64 (.var 3), .sint .i64 (.var 4)] 84), (11, .cells [.slx 0 8 (.var 0) (.num 0) (.op1 .len (.var 1)) (.var 2)] 22), (12, .cells [.func (.func 77) [] [.ptr 10 0]] 97)], pats := [{ slots := [(0, .yield 14), (1, .ptr 11 0), (2, .ptr 12 0), (15, .slx 0 8 (.var 0) (.num 0) (.op1 .len (.var 1)) (.var 2)), (16, .sint .i64 (.op1 .len (.var 1))), (17, .sint .i64 (.var 100))], heap := [(1, .cells [.sint .i64 (.var 101), .sint .i64 (.var 102), .sint .u8 (.var 103), .sint .i64 (.var 104), .sint .i64 (.var 105), .sint .i64 (.var 106), .sint .i64 (.var 107), .sint .i64 (.var 108)] 36), (2, .cells [.sbool (.var 109)] 4), (14, .loop { state := .ready, pending := none, tmps := buildT [(6, .ptr 1 0), (7, .ptr 2 0)], size := 31, src := .at_ 26 6, defers := 13 })] }], exits := [(.exit 0, { slots := [], heap := [(1, .cells [.sint .i64 (.app 43 [.var 1, .var 3, .var 4, .num 0]), .sint .i64 (.app 43 [.var 1, .var 3, .var 4, .num 1]), .sint .u8 (.ite (.app 44 [.var 1, .var 3, .var 4]) (.app 43 [.var 1, .var 3, .var 4, .num 2]) (.num 0)), .sint .i64 (.app 43 [.var 1, .var 3, .var 4, .num 3]), .sint .i64 (.app 43 [.var 1, .var 3, .var 4, .num 4]), .sint .i64 (.app 43 [.var 1, .var 3, .var 4, .num 5]), .sint .i64 (.app 43 [.var 1, .var 3, .var 4, .num 6]), .sint .i64 (.app 43 [.var 1, .var 3, .var 4, .num 7])] 36), (2, .cells [.sbool (.app 44 [.var 1, .var 3, .var 4])] 4), (14, .loop { state := .ready, pending := none, tmps := buildT [(6, .ptr 1 0), (7, .ptr 2 0)], size := 31, src := .at_ 26 6, defers := 13 })] })], own := [1, 2, 14], pre := [(.app 20 [.var 1], true)] }
noncomputable def lTh_run : Env → AF → ASt → Option (List Out) := bodyRun L7 9 (fun _ => noLoop) (loopAt Tryz.prog 122 0)
def lTh0_F : List (X × Bool) := [(.op2 .lt (.var 100) (.num 0), false)]
noncomputable def lTh0_t : FTree := (.fork (.op2 .lt (.var 100) (.op1 .len (.var 1))) (.fork (.op2 .eq (.cell 2 (.var 1) (.var 100)) (.num 2)) (.fork (.op2 .eq (.cell 3 (.var 1) (.var 100)) (.var 3)) (.fork (.op2 .eq (.cell 4 (.var 1) (.var 100)) (.var 4)) (.leaf [(.again 0 [])]) (.leaf [(.again 0 [])])) (.leaf [(.again 0 [])])) (.leaf [(.again 0 [])])) (.leaf [(.leave 0 [])]))
noncomputable def lTh0_l : List (List (X × Bool) × Option (List (Tgt × Pairs))) := [([((.op2 .eq (.cell 4 (.var 1) (.var 100)) (.var 4)), true), ((.op2 .eq (.cell 3 (.var 1) (.var 100)) (.var 3)), true), ((.op2 .eq (.cell 2 (.var 1) (.var 100)) (.num 2)), true), ((.op2 .lt (.var 100) (.op1 .len (.var 1))), true), ((.op2 .lt (.var 100) (.num 0)), false)], some [((.again 0 []), [((.var 100), (.op1 (.wrap .i64) (.op2 .add (.var 100) (.num 1)))), ((.var 101), (.cell 0 (.var 1) (.var 100))), ((.var 102), (.cell 1 (.var 1) (.var 100))), ((.var 103), (.cell 2 (.var 1) (.var 100))), ((.var 104), (.cell 3 (.var 1) (.var 100))), ((.var 105), (.cell 4 (.var 1) (.var 100))), ((.var 106), (.cell 5 (.var 1) (.var 100))), ((.var 107), (.cell 6 (.var 1) (.var 100))), ((.var 108), (.cell 7 (.var 1) (.var 100))), ((.var 109), (.boo true))])]),
  ([((.op2 .eq (.cell 4 (.var 1) (.var 100)) (.var 4)), false), ((.op2 .eq (.cell 3 (.var 1) (.var 100)) (.var 3)), true), ((.op2 .eq (.cell 2 (.var 1) (.var 100)) (.num 2)), true), ((.op2 .lt (.var 100) (.op1 .len (.var 1))), true), ((.op2 .lt (.var 100) (.num 0)), false)], some [((.again 0 []), [((.var 100), (.op1 (.wrap .i64) (.op2 .add (.var 100) (.num 1)))), ((.var 101), (.var 101)), ((.var 102), (.var 102)), ((.var 103), (.var 103)), ((.var 104), (.var 104)), ((.var 105), (.var 105)), ((.var 106), (.var 106)), ((.var 107), (.var 107)), ((.var 108), (.var 108)), ((.var 109), (.var 109))])]),
  ([((.op2 .eq (.cell 3 (.var 1) (.var 100)) (.var 3)), false), ((.op2 .eq (.cell 2 (.var 1) (.var 100)) (.num 2)), true), ((.op2 .lt (.var 100) (.op1 .len (.var 1))), true), ((.op2 .lt (.var 100) (.num 0)), false)], some [((.again 0 []), [((.var 100), (.op1 (.wrap .i64) (.op2 .add (.var 100) (.num 1)))), ((.var 101), (.var 101)), ((.var 102), (.var 102)), ((.var 103), (.var 103)), ((.var 104), (.var 104)), ((.var 105), (.var 105)), ((.var 106), (.var 106)), ((.var 107), (.var 107)), ((.var 108), (.var 108)), ((.var 109), (.var 109))])]),
  ([((.op2 .eq (.cell 2 (.var 1) (.var 100)) (.num 2)), false), ((.op2 .lt (.var 100) (.op1 .len (.var 1))), true), ((.op2 .lt (.var 100) (.num 0)), false)], some [((.again 0 []), [((.var 100), (.op1 (.wrap .i64) (.op2 .add (.var 100) (.num 1)))), ((.var 101), (.var 101)), ((.var 102), (.var 102)), ((.var 103), (.var 103)), ((.var 104), (.var 104)), ((.var 105), (.var 105)), ((.var 106), (.var 106)), ((.var 107), (.var 107)), ((.var 108), (.var 108)), ((.var 109), (.var 109))])]),
  ([((.op2 .lt (.var 100) (.op1 .len (.var 1))), false), ((.op2 .lt (.var 100) (.num 0)), false)], some [((.leave 0 []), [((.app 43 [(.var 1), (.var 3), (.var 4), (.num 0)]), (.var 101)), ((.app 43 [(.var 1), (.var 3), (.var 4), (.num 1)]), (.var 102)), ((.ite (.app 44 [(.var 1), (.var 3), (.var 4)]) (.app 43 [(.var 1), (.var 3), (.var 4), (.num 2)]) (.num 0)), (.var 103)), ((.app 43 [(.var 1), (.var 3), (.var 4), (.num 3)]), (.var 104)), ((.app 43 [(.var 1), (.var 3), (.var 4), (.num 4)]), (.var 105)), ((.app 43 [(.var 1), (.var 3), (.var 4), (.num 5)]), (.var 106)), ((.app 43 [(.var 1), (.var 3), (.var 4), (.num 6)]), (.var 107)), ((.app 43 [(.var 1), (.var 3), (.var 4), (.num 7)]), (.var 108)), ((.app 44 [(.var 1), (.var 3), (.var 4)]), (.var 109))])])]
theorem lTh0_w (r : Rho) : lTh_D.ways lTh_run E0 r 0 lTh0_F lTh0_t = some lTh0_l := by kernel_rfl
theorem lTh_ok : lTh_D.ok = true := by kernel_rfl
def lTh_Inv (l : List Ptg) (w c : Int) (j : Nat) (vals : List Value) : Prop :=
  j = 0 ∧ ∃ i : Nat, i ≤ l.length ∧ vals = [.int .i64 i, .int .i64 (lastPay (l.take i) w c).id, .int .i64 (lastPay (l.take i) w c).hour, kcell (l.take i) w c, .int .i64 (lastPay (l.take i) w c).party, .int .i64 (lastPay (l.take i) w c).parcel, .int .i64 (lastPay (l.take i) w c).amount, .int .i64 (lastPay (l.take i) w c).reason, .int .i64 (lastPay (l.take i) w c).known, .bool (paidB (l.take i) w c)]
def lTh_mu (l : List Ptg) (_ : Nat) (vals : List Value) : Nat := l.length - (vI (vals.getD 0 default)).toNat
set_option maxHeartbeats 2000000 in
theorem lTh_step {ρ : Rho} {l : List Ptg} {w c : Int} {k3 k4 : IntKind} (h1 : ρ.val 1 = some (ptgsR l)) (h3 : ρ.val 3 = some (.int k3 w)) (h4 : ρ.val 4 = some (.int k4 c)) (hsy : ρ.sym = sy) (hmax : (l.length : Int) ≤ 1010) (j : Nat) (vals : List Value) (hI : lTh_Inv l w c j vals) :
    StepOk lTh_D lTh_run E0 ρ (lTh_Inv l w c) (lTh_mu l) j vals := by
  obtain ⟨rfl, i, hi, rfl⟩ := hI
  have hN : lTh_D.N = 100 := rfl
  have v1 : (ρ.ext lTh_D.N [.int .i64 i, .int .i64 (lastPay (l.take i) w c).id, .int .i64 (lastPay (l.take i) w c).hour, kcell (l.take i) w c, .int .i64 (lastPay (l.take i) w c).party, .int .i64 (lastPay (l.take i) w c).parcel, .int .i64 (lastPay (l.take i) w c).amount, .int .i64 (lastPay (l.take i) w c).reason, .int .i64 (lastPay (l.take i) w c).known, .bool (paidB (l.take i) w c)]).val 1 = some (ptgsR l) := by rw [ext_low _ _ _ _ (by rw [hN]; omega)]; exact h1
  have v3 : (ρ.ext lTh_D.N [.int .i64 i, .int .i64 (lastPay (l.take i) w c).id, .int .i64 (lastPay (l.take i) w c).hour, kcell (l.take i) w c, .int .i64 (lastPay (l.take i) w c).party, .int .i64 (lastPay (l.take i) w c).parcel, .int .i64 (lastPay (l.take i) w c).amount, .int .i64 (lastPay (l.take i) w c).reason, .int .i64 (lastPay (l.take i) w c).known, .bool (paidB (l.take i) w c)]).val 3 = some (.int k3 w) := by rw [ext_low _ _ _ _ (by rw [hN]; omega)]; exact h3
  have v4 : (ρ.ext lTh_D.N [.int .i64 i, .int .i64 (lastPay (l.take i) w c).id, .int .i64 (lastPay (l.take i) w c).hour, kcell (l.take i) w c, .int .i64 (lastPay (l.take i) w c).party, .int .i64 (lastPay (l.take i) w c).parcel, .int .i64 (lastPay (l.take i) w c).amount, .int .i64 (lastPay (l.take i) w c).reason, .int .i64 (lastPay (l.take i) w c).known, .bool (paidB (l.take i) w c)]).val 4 = some (.int k4 c) := by rw [ext_low _ _ _ _ (by rw [hN]; omega)]; exact h4
  have v100 : (ρ.ext lTh_D.N [.int .i64 i, .int .i64 (lastPay (l.take i) w c).id, .int .i64 (lastPay (l.take i) w c).hour, kcell (l.take i) w c, .int .i64 (lastPay (l.take i) w c).party, .int .i64 (lastPay (l.take i) w c).parcel, .int .i64 (lastPay (l.take i) w c).amount, .int .i64 (lastPay (l.take i) w c).reason, .int .i64 (lastPay (l.take i) w c).known, .bool (paidB (l.take i) w c)]).val 100 = some (.int .i64 i) := by rw [ext_high _ _ _ _ (by rw [hN]; omega)]; rfl
  have v101 : (ρ.ext lTh_D.N [.int .i64 i, .int .i64 (lastPay (l.take i) w c).id, .int .i64 (lastPay (l.take i) w c).hour, kcell (l.take i) w c, .int .i64 (lastPay (l.take i) w c).party, .int .i64 (lastPay (l.take i) w c).parcel, .int .i64 (lastPay (l.take i) w c).amount, .int .i64 (lastPay (l.take i) w c).reason, .int .i64 (lastPay (l.take i) w c).known, .bool (paidB (l.take i) w c)]).val 101 = some (.int .i64 (lastPay (l.take i) w c).id) := by rw [ext_high _ _ _ _ (by rw [hN]; omega)]; rfl
  have v102 : (ρ.ext lTh_D.N [.int .i64 i, .int .i64 (lastPay (l.take i) w c).id, .int .i64 (lastPay (l.take i) w c).hour, kcell (l.take i) w c, .int .i64 (lastPay (l.take i) w c).party, .int .i64 (lastPay (l.take i) w c).parcel, .int .i64 (lastPay (l.take i) w c).amount, .int .i64 (lastPay (l.take i) w c).reason, .int .i64 (lastPay (l.take i) w c).known, .bool (paidB (l.take i) w c)]).val 102 = some (.int .i64 (lastPay (l.take i) w c).hour) := by rw [ext_high _ _ _ _ (by rw [hN]; omega)]; rfl
  have v103 : (ρ.ext lTh_D.N [.int .i64 i, .int .i64 (lastPay (l.take i) w c).id, .int .i64 (lastPay (l.take i) w c).hour, kcell (l.take i) w c, .int .i64 (lastPay (l.take i) w c).party, .int .i64 (lastPay (l.take i) w c).parcel, .int .i64 (lastPay (l.take i) w c).amount, .int .i64 (lastPay (l.take i) w c).reason, .int .i64 (lastPay (l.take i) w c).known, .bool (paidB (l.take i) w c)]).val 103 = some (kcell (l.take i) w c) := by rw [ext_high _ _ _ _ (by rw [hN]; omega)]; rfl
  have v104 : (ρ.ext lTh_D.N [.int .i64 i, .int .i64 (lastPay (l.take i) w c).id, .int .i64 (lastPay (l.take i) w c).hour, kcell (l.take i) w c, .int .i64 (lastPay (l.take i) w c).party, .int .i64 (lastPay (l.take i) w c).parcel, .int .i64 (lastPay (l.take i) w c).amount, .int .i64 (lastPay (l.take i) w c).reason, .int .i64 (lastPay (l.take i) w c).known, .bool (paidB (l.take i) w c)]).val 104 = some (.int .i64 (lastPay (l.take i) w c).party) := by rw [ext_high _ _ _ _ (by rw [hN]; omega)]; rfl
  have v105 : (ρ.ext lTh_D.N [.int .i64 i, .int .i64 (lastPay (l.take i) w c).id, .int .i64 (lastPay (l.take i) w c).hour, kcell (l.take i) w c, .int .i64 (lastPay (l.take i) w c).party, .int .i64 (lastPay (l.take i) w c).parcel, .int .i64 (lastPay (l.take i) w c).amount, .int .i64 (lastPay (l.take i) w c).reason, .int .i64 (lastPay (l.take i) w c).known, .bool (paidB (l.take i) w c)]).val 105 = some (.int .i64 (lastPay (l.take i) w c).parcel) := by rw [ext_high _ _ _ _ (by rw [hN]; omega)]; rfl
  have v106 : (ρ.ext lTh_D.N [.int .i64 i, .int .i64 (lastPay (l.take i) w c).id, .int .i64 (lastPay (l.take i) w c).hour, kcell (l.take i) w c, .int .i64 (lastPay (l.take i) w c).party, .int .i64 (lastPay (l.take i) w c).parcel, .int .i64 (lastPay (l.take i) w c).amount, .int .i64 (lastPay (l.take i) w c).reason, .int .i64 (lastPay (l.take i) w c).known, .bool (paidB (l.take i) w c)]).val 106 = some (.int .i64 (lastPay (l.take i) w c).amount) := by rw [ext_high _ _ _ _ (by rw [hN]; omega)]; rfl
  have v107 : (ρ.ext lTh_D.N [.int .i64 i, .int .i64 (lastPay (l.take i) w c).id, .int .i64 (lastPay (l.take i) w c).hour, kcell (l.take i) w c, .int .i64 (lastPay (l.take i) w c).party, .int .i64 (lastPay (l.take i) w c).parcel, .int .i64 (lastPay (l.take i) w c).amount, .int .i64 (lastPay (l.take i) w c).reason, .int .i64 (lastPay (l.take i) w c).known, .bool (paidB (l.take i) w c)]).val 107 = some (.int .i64 (lastPay (l.take i) w c).reason) := by rw [ext_high _ _ _ _ (by rw [hN]; omega)]; rfl
  have v108 : (ρ.ext lTh_D.N [.int .i64 i, .int .i64 (lastPay (l.take i) w c).id, .int .i64 (lastPay (l.take i) w c).hour, kcell (l.take i) w c, .int .i64 (lastPay (l.take i) w c).party, .int .i64 (lastPay (l.take i) w c).parcel, .int .i64 (lastPay (l.take i) w c).amount, .int .i64 (lastPay (l.take i) w c).reason, .int .i64 (lastPay (l.take i) w c).known, .bool (paidB (l.take i) w c)]).val 108 = some (.int .i64 (lastPay (l.take i) w c).known) := by rw [ext_high _ _ _ _ (by rw [hN]; omega)]; rfl
  have v109 : (ρ.ext lTh_D.N [.int .i64 i, .int .i64 (lastPay (l.take i) w c).id, .int .i64 (lastPay (l.take i) w c).hour, kcell (l.take i) w c, .int .i64 (lastPay (l.take i) w c).party, .int .i64 (lastPay (l.take i) w c).parcel, .int .i64 (lastPay (l.take i) w c).amount, .int .i64 (lastPay (l.take i) w c).reason, .int .i64 (lastPay (l.take i) w c).known, .bool (paidB (l.take i) w c)]).val 109 = some (.bool (paidB (l.take i) w c)) := by rw [ext_high _ _ _ _ (by rw [hN]; omega)]; rfl
  have vs : (ρ.ext lTh_D.N [.int .i64 i, .int .i64 (lastPay (l.take i) w c).id, .int .i64 (lastPay (l.take i) w c).hour, kcell (l.take i) w c, .int .i64 (lastPay (l.take i) w c).party, .int .i64 (lastPay (l.take i) w c).parcel, .int .i64 (lastPay (l.take i) w c).amount, .int .i64 (lastPay (l.take i) w c).reason, .int .i64 (lastPay (l.take i) w c).known, .bool (paidB (l.take i) w c)]).sym = sy := hsy

  have hF : FactsIn (ρ.ext lTh_D.N [.int .i64 i, .int .i64 (lastPay (l.take i) w c).id, .int .i64 (lastPay (l.take i) w c).hour, kcell (l.take i) w c, .int .i64 (lastPay (l.take i) w c).party, .int .i64 (lastPay (l.take i) w c).parcel, .int .i64 (lastPay (l.take i) w c).amount, .int .i64 (lastPay (l.take i) w c).reason, .int .i64 (lastPay (l.take i) w c).known, .bool (paidB (l.take i) w c)]) lTh0_F := by
    simp only [lTh0_F, FactsIn, X.bool, X.den, denL, d_wrap, d_kind, d_not, d_neg, d_slen, d_add, d_sub, d_mul, d_div, d_mod, d_lt, d_le, d_eq, d_eqb, d_eqs, d_lts, d_cat, d_sat, d_and, d_or, denSub, denIte, asB, ptgs_len, ptgs_cell, ptgs_lsub, v100, Option.some.injEq, Value.bool.injEq, decide_eq_false_iff_not, and_true]
    omega
  suffices both : AsksL (ρ.ext lTh_D.N [.int .i64 i, .int .i64 (lastPay (l.take i) w c).id, .int .i64 (lastPay (l.take i) w c).hour, kcell (l.take i) w c, .int .i64 (lastPay (l.take i) w c).party, .int .i64 (lastPay (l.take i) w c).parcel, .int .i64 (lastPay (l.take i) w c).amount, .int .i64 (lastPay (l.take i) w c).reason, .int .i64 (lastPay (l.take i) w c).known, .bool (paidB (l.take i) w c)]) (lTh0_t.asks lTh0_F) ∧ WaysOk lTh_D ρ (lTh_Inv l w c) (lTh_mu l) 0 [.int .i64 i, .int .i64 (lastPay (l.take i) w c).id, .int .i64 (lastPay (l.take i) w c).hour, kcell (l.take i) w c, .int .i64 (lastPay (l.take i) w c).party, .int .i64 (lastPay (l.take i) w c).parcel, .int .i64 (lastPay (l.take i) w c).amount, .int .i64 (lastPay (l.take i) w c).reason, .int .i64 (lastPay (l.take i) w c).known, .bool (paidB (l.take i) w c)] lTh0_l from step_of_ways (lTh0_w _) hF both.1.ok both.2
  cases hp : l[i]? with
  | none =>
    have hge := List.getElem?_eq_none_iff.1 hp
    have hge' : ¬ (i : Int) < l.length := by omega
    have hl : l.take i = l := List.take_of_length_le hge
    refine ⟨?_, ?_⟩
    · simp only [lTh0_t, lTh0_F, AsksL, GTree.asks, FTree.asks, FactsIn, List.append_nil, List.nil_append, List.cons_append, Option.some.injEq, exists_eq', implies_true, and_self, X.bool, X.den, denL, d_wrap, d_kind, d_not, d_neg, d_slen, d_add, d_sub, d_mul, d_div, d_mod, d_lt, d_le, d_eq, d_eqb, d_eqs, d_lts, d_cat, d_sat, d_and, d_or, denSub, denIte, asB, ptgs_len, ptgs_cell, ptgs_lsub, v1, v3, v4, v100, v101, v102, v103, v104, v105, v106, v107, v108, v109, vs, sym20, sym43, sym44, Int.toNat_natCast, hp, hge']
      try simp
    · have hk : denIte (some (.bool (paidB l w c))) (some (.int .u8 (lastPay l w c).kind)) (some (.int .i64 0)) = some (kcell l w c) := by
        unfold kcell
        cases paidB l w c <;> rfl
      simp only [lTh0_l, EndsOk, WaysOk, forall_cons, forall_nil, TgtOk, gpair, FactsIn, hold_cons, hold_nil, Option.some.injEq, Value.bool.injEq, Value.int.injEq, decide_eq_true_eq, decide_eq_false_iff_not, and_true, true_and, and_imp, X.bool, X.den, denL, d_wrap, d_kind, d_not, d_neg, d_slen, d_add, d_sub, d_mul, d_div, d_mod, d_lt, d_le, d_eq, d_eqb, d_eqs, d_lts, d_cat, d_sat, d_and, d_or, denSub, asB, ptgs_len, ptgs_cell, ptgs_lsub, beq_iff_eq, beq_eq_false_iff_ne, ne_eq, v1, v3, v4, v100, v101, v102, v103, v104, v105, v106, v107, v108, v109, vs, h1, h3, h4, hsy, sym20, sym43, sym44, Int.toNat_natCast, hp, hge', Int.toNat_zero, Int.reduceToNat, ptg0, ptg1, ptg2, ptg3, ptg4, ptg5, ptg6, ptg7, hk]
      simp [hl]
  | some p =>
    have hlt : i < l.length := (List.getElem?_eq_some_iff.1 hp).1
    have hlt1 : (i : Int) < l.length := by omega
    have hw : IntKind.i64.wrap ((i : Int) + 1) = ((i + 1 : Nat) : Int) := by rw [IntWalk.i64_in _ (by omega)]; rfl
    have hnext : l.take (i + 1) = l.take i ++ [p] := by rw [List.take_add_one, hp]; rfl
    have goY : payB w c p = true → ∃ vals', ((ρ.ext lTh_D.N vals').val 100 = some (.int .i64 ((i + 1 : Nat) : Int)) ∧ (ρ.ext lTh_D.N vals').val 101 = some (.int .i64 p.id) ∧ (ρ.ext lTh_D.N vals').val 102 = some (.int .i64 p.hour) ∧ (ρ.ext lTh_D.N vals').val 103 = some (.int .u8 p.kind) ∧ (ρ.ext lTh_D.N vals').val 104 = some (.int .i64 p.party) ∧ (ρ.ext lTh_D.N vals').val 105 = some (.int .i64 p.parcel) ∧ (ρ.ext lTh_D.N vals').val 106 = some (.int .i64 p.amount) ∧ (ρ.ext lTh_D.N vals').val 107 = some (.int .i64 p.reason) ∧ (ρ.ext lTh_D.N vals').val 108 = some (.int .i64 p.known) ∧ (ρ.ext lTh_D.N vals').val 109 = some (.bool true)) ∧ lTh_Inv l w c 0 vals' ∧ lTh_mu l 0 vals' < lTh_mu l 0 [.int .i64 i, .int .i64 (lastPay (l.take i) w c).id, .int .i64 (lastPay (l.take i) w c).hour, kcell (l.take i) w c, .int .i64 (lastPay (l.take i) w c).party, .int .i64 (lastPay (l.take i) w c).parcel, .int .i64 (lastPay (l.take i) w c).amount, .int .i64 (lastPay (l.take i) w c).reason, .int .i64 (lastPay (l.take i) w c).known, .bool (paidB (l.take i) w c)] := by
      intro hb
      refine ⟨[.int .i64 ((i + 1 : Nat) : Int), .int .i64 (lastPay (l.take (i + 1)) w c).id, .int .i64 (lastPay (l.take (i + 1)) w c).hour, kcell (l.take (i + 1)) w c, .int .i64 (lastPay (l.take (i + 1)) w c).party, .int .i64 (lastPay (l.take (i + 1)) w c).parcel, .int .i64 (lastPay (l.take (i + 1)) w c).amount, .int .i64 (lastPay (l.take (i + 1)) w c).reason, .int .i64 (lastPay (l.take (i + 1)) w c).known, .bool (paidB (l.take (i + 1)) w c)], ⟨?_, ?_, ?_, ?_, ?_, ?_, ?_, ?_, ?_, ?_⟩, ⟨rfl, i + 1, by omega, rfl⟩, ?_⟩
      rotate_right
      · simp [lTh_mu, vI]; omega
      all_goals (rw [ext_high _ _ _ _ (by rw [hN]; omega)])
      all_goals (simp only [hnext, last_snoc, paid_snoc, kcell_snoc, hb, cond_true, cond_false, Bool.or_true, Bool.or_false])
      all_goals rfl
    have goN : payB w c p = false → ∃ vals', ((ρ.ext lTh_D.N vals').val 100 = some (.int .i64 ((i + 1 : Nat) : Int)) ∧ (ρ.ext lTh_D.N vals').val 101 = some (.int .i64 (lastPay (l.take i) w c).id) ∧ (ρ.ext lTh_D.N vals').val 102 = some (.int .i64 (lastPay (l.take i) w c).hour) ∧ (ρ.ext lTh_D.N vals').val 103 = some (kcell (l.take i) w c) ∧ (ρ.ext lTh_D.N vals').val 104 = some (.int .i64 (lastPay (l.take i) w c).party) ∧ (ρ.ext lTh_D.N vals').val 105 = some (.int .i64 (lastPay (l.take i) w c).parcel) ∧ (ρ.ext lTh_D.N vals').val 106 = some (.int .i64 (lastPay (l.take i) w c).amount) ∧ (ρ.ext lTh_D.N vals').val 107 = some (.int .i64 (lastPay (l.take i) w c).reason) ∧ (ρ.ext lTh_D.N vals').val 108 = some (.int .i64 (lastPay (l.take i) w c).known) ∧ (ρ.ext lTh_D.N vals').val 109 = some (.bool (paidB (l.take i) w c))) ∧ lTh_Inv l w c 0 vals' ∧ lTh_mu l 0 vals' < lTh_mu l 0 [.int .i64 i, .int .i64 (lastPay (l.take i) w c).id, .int .i64 (lastPay (l.take i) w c).hour, kcell (l.take i) w c, .int .i64 (lastPay (l.take i) w c).party, .int .i64 (lastPay (l.take i) w c).parcel, .int .i64 (lastPay (l.take i) w c).amount, .int .i64 (lastPay (l.take i) w c).reason, .int .i64 (lastPay (l.take i) w c).known, .bool (paidB (l.take i) w c)] := by
      intro hb
      refine ⟨[.int .i64 ((i + 1 : Nat) : Int), .int .i64 (lastPay (l.take (i + 1)) w c).id, .int .i64 (lastPay (l.take (i + 1)) w c).hour, kcell (l.take (i + 1)) w c, .int .i64 (lastPay (l.take (i + 1)) w c).party, .int .i64 (lastPay (l.take (i + 1)) w c).parcel, .int .i64 (lastPay (l.take (i + 1)) w c).amount, .int .i64 (lastPay (l.take (i + 1)) w c).reason, .int .i64 (lastPay (l.take (i + 1)) w c).known, .bool (paidB (l.take (i + 1)) w c)], ⟨?_, ?_, ?_, ?_, ?_, ?_, ?_, ?_, ?_, ?_⟩, ⟨rfl, i + 1, by omega, rfl⟩, ?_⟩
      rotate_right
      · simp [lTh_mu, vI]; omega
      all_goals (rw [ext_high _ _ _ _ (by rw [hN]; omega)])
      all_goals (simp only [hnext, last_snoc, paid_snoc, kcell_snoc, hb, cond_true, cond_false, Bool.or_true, Bool.or_false])
      all_goals rfl
    have hpb : payB w c p = (decide (p.kind = 2) && (decide (p.party = w) && decide (p.parcel = c))) := rfl
    rw [hpb] at goY goN
    refine ⟨?_, ?_⟩
    · simp only [lTh0_t, lTh0_F, AsksL, GTree.asks, FTree.asks, FactsIn, List.append_nil, List.nil_append, List.cons_append, Option.some.injEq, exists_eq', implies_true, and_self, X.bool, X.den, denL, d_wrap, d_kind, d_not, d_neg, d_slen, d_add, d_sub, d_mul, d_div, d_mod, d_lt, d_le, d_eq, d_eqb, d_eqs, d_lts, d_cat, d_sat, d_and, d_or, denSub, denIte, asB, ptgs_len, ptgs_cell, ptgs_lsub, v1, v3, v4, v100, v101, v102, v103, v104, v105, v106, v107, v108, v109, vs, sym20, sym43, sym44, Int.toNat_natCast, hp, Option.bind_some, ptg0, ptg1, ptg2, ptg3, ptg4, ptg5, ptg6, ptg7]
      try simp
    · simp only [lTh0_l, EndsOk, WaysOk, forall_cons, forall_nil, TgtOk, gpair, FactsIn, hold_cons, hold_nil, Option.some.injEq, Value.bool.injEq, Value.int.injEq, decide_eq_true_eq, decide_eq_false_iff_not, and_true, true_and, and_imp, X.bool, X.den, denL, d_wrap, d_kind, d_not, d_neg, d_slen, d_add, d_sub, d_mul, d_div, d_mod, d_lt, d_le, d_eq, d_eqb, d_eqs, d_lts, d_cat, d_sat, d_and, d_or, denSub, denIte, asB, ptgs_len, ptgs_cell, ptgs_lsub, beq_iff_eq, beq_eq_false_iff_ne, ne_eq, v1, v3, v4, v100, v101, v102, v103, v104, v105, v106, v107, v108, v109, vs, h1, h3, h4, hsy, sym20, sym43, sym44, Int.toNat_natCast, hp, Option.bind_some, ptg0, ptg1, ptg2, ptg3, ptg4, ptg5, ptg6, ptg7, hlt1, hw]
      clear v1 v3 v4 v100 v101 v102 v103 v104 v105 v106 v107 v108 v109 vs h1 h3 h4 hsy hp hF hnext hpb
      (repeat' apply And.intro) <;> intros <;> first
        | trivial
        | (exfalso; omega)
        | (refine goY ?_; simp [*]; done)
        | (refine goN ?_; simp [*]; done)
        | (refine goN ?_; simp_all; done)
        | (refine goY ?_; simp_all; done)

noncomputable def cLast_con : Con := { f := 26, args := [ptgsArg 0 0, .one (.int .i64 3), .one (.int .i64 4)], N := 1, M := 1, pre := [(.app 20 [.var 1], true), (.op2 .eq (.app 6 [.var 1]) (.num 0), true), (.app 31 [.var 3], true), (.app 10 [.var 4, .num 10, .num 10000007], true)], out := .tuple [.agg [.sint .i64 (.app 43 [.var 1, .var 3, .var 4, .num 0]), .sint .i64 (.app 43 [.var 1, .var 3, .var 4, .num 1]), .sint .u8 (.ite (.app 44 [.var 1, .var 3, .var 4]) (.app 43 [.var 1, .var 3, .var 4, .num 2]) (.num 0)), .sint .i64 (.app 43 [.var 1, .var 3, .var 4, .num 3]), .sint .i64 (.app 43 [.var 1, .var 3, .var 4, .num 4]), .sint .i64 (.app 43 [.var 1, .var 3, .var 4, .num 5]), .sint .i64 (.app 43 [.var 1, .var 3, .var 4, .num 6]), .sint .i64 (.app 43 [.var 1, .var 3, .var 4, .num 7])], .sbool (.app 44 [.var 1, .var 3, .var 4]), .int .i64 0], news := [] }
noncomputable def cLast_call : Env → CallL := fun E => acallAll E (evH E (L7 E) ((fun E => oneH 122 (hooks [(3, lTh_D.hook E.facts gth_vs)])) E) 10)
noncomputable def cLast_t : GTree := (.leaf [[]])
noncomputable def cLast_l : List (List (X × Bool) × Option Pairs) := [([((.app 20 [(.var 1)]), true), ((.op2 .eq (.app 6 [(.var 1)]) (.num 0)), true), ((.app 31 [(.var 3)]), true), ((.app 10 [(.var 4), (.num 10), (.num 10000007)]), true)], some [((.app 43 [(.var 1), (.var 3), (.var 4), (.num 0)]), (.app 43 [(.var 1), (.var 3), (.var 4), (.num 0)])), ((.app 43 [(.var 1), (.var 3), (.var 4), (.num 1)]), (.app 43 [(.var 1), (.var 3), (.var 4), (.num 1)])), ((.ite (.app 44 [(.var 1), (.var 3), (.var 4)]) (.app 43 [(.var 1), (.var 3), (.var 4), (.num 2)]) (.num 0)), (.ite (.app 44 [(.var 1), (.var 3), (.var 4)]) (.app 43 [(.var 1), (.var 3), (.var 4), (.num 2)]) (.num 0))), ((.app 43 [(.var 1), (.var 3), (.var 4), (.num 3)]), (.app 43 [(.var 1), (.var 3), (.var 4), (.num 3)])), ((.app 43 [(.var 1), (.var 3), (.var 4), (.num 4)]), (.app 43 [(.var 1), (.var 3), (.var 4), (.num 4)])), ((.app 43 [(.var 1), (.var 3), (.var 4), (.num 5)]), (.app 43 [(.var 1), (.var 3), (.var 4), (.num 5)])), ((.app 43 [(.var 1), (.var 3), (.var 4), (.num 6)]), (.app 43 [(.var 1), (.var 3), (.var 4), (.num 6)])), ((.app 43 [(.var 1), (.var 3), (.var 4), (.num 7)]), (.app 43 [(.var 1), (.var 3), (.var 4), (.num 7)])), ((.app 44 [(.var 1), (.var 3), (.var 4)]), (.app 44 [(.var 1), (.var 3), (.var 4)]))])]
theorem cLast_w (r : Rho) : cLast_con.fn.ways cLast_call E0 r cLast_con.pre cLast_t = some cLast_l := by kernel_rfl
theorem lTh_H {r : Rho} {l : List Ptg} {w c : Int} {k3 k4 : IntKind} (h1 : r.val 1 = some (ptgsR l)) (h3 : r.val 3 = some (.int k3 w)) (h4 : r.val 4 = some (.int k4 c)) (hmax : (l.length : Int) ≤ 1010) (hsy : r.sym = sy) (F : List (X × Bool)) :
    LoopsOk (E0.with F r) (oneH 122 (hooks [(3, lTh_D.hook (E0.with F r).facts gth_vs)])) := by
  refine loops_all (n := 1) (fun f fn h => h) (by kernel_rfl) fun i hi => ?_
  obtain rfl : i = 0 := by omega
  rw [hooks_hit (show keyOf (loopAt (E0.with F r).P 122 0) = 3 by kernel_rfl)]
  refine hook_ok (E₀ := E0) (run := lTh_run) (ρ := r) (Inv := lTh_Inv l w c) (μ := lTh_mu l) E0_ok lTh_ok (fun F r' h => ?_) (fun _ => ⟨lTh_step h1 h3 h4 hsy hmax, [.int .i64 0, .int .i64 0, .int .i64 0, .int .i64 0, .int .i64 0, .int .i64 0, .int .i64 0, .int .i64 0, .int .i64 0, .bool false], ?_, rfl, 0, Nat.zero_le _, rfl⟩)
  · exact bodyRun_ok E0_ok (L7_ok F (h.trans hsy)) fun _ _ => noLoop_ok
  · simp only [gth_vs, X.bool, X.den, denL, d_wrap, d_kind, d_not, d_neg, d_slen, d_add, d_sub, d_mul, d_div, d_mod, d_lt, d_le, d_eq, d_eqb, d_eqs, d_lts, d_cat, d_sat, d_and, d_or, denSub, denIte, asB, ptgs_len, ptgs_cell, ptgs_lsub]
theorem cLast_cok : cLast_con.Ok Tryz.prog sy := by
  intro r σ w us hsy hρ hpre hrel hins
  obtain ⟨u0, us, rfl, g0, hi⟩ := ins_cons hins
  obtain ⟨u1, us, rfl, g1, hi⟩ := ins_cons hi
  obtain ⟨u2, us, rfl, g2, hi⟩ := ins_cons hi
  obtain ⟨w_, k3, rfl, h3⟩ := one_int g1
  obtain ⟨c, k4, rfl, h4⟩ := one_int g2
  obtain ⟨l, h1⟩ := ptgs_at hrel (i := 0) rfl
  rw [hρ] at h1 h3 h4
  have h1 : r.val 1 = some (ptgsR l) := h1
  have hmax : (l.length : Int) ≤ 1010 := by
    have := hpre.1
    simp only [X.bool, X.den, denL, d_wrap, d_kind, d_not, d_neg, d_slen, d_add, d_sub, d_mul, d_div, d_mod, d_lt, d_le, d_eq, d_eqb, d_eqs, d_lts, d_cat, d_sat, d_and, d_or, denSub, denIte, asB, ptgs_len, ptgs_cell, ptgs_lsub, h1, hsy, sym20, Option.some.injEq, Value.bool.injEq] at this
    exact short_len this
  refine con_of (E := E0) E0_ok E0_glob (sy := sy) (fun F => L7_ok F hsy) (fun F => lTh_H h1 h3 h4 hmax hsy F) (cLast_w r) hρ hpre hrel hins ?_ ?_
  · simp only [cLast_con, cLast_t, AsksL, GTree.asks, FTree.asks, FactsIn, List.append_nil, List.nil_append, List.cons_append, Option.some.injEq, exists_eq', implies_true, and_self, X.bool, X.den, denL, d_wrap, d_kind, d_not, d_neg, d_slen, d_add, d_sub, d_mul, d_div, d_mod, d_lt, d_le, d_eq, d_eqb, d_eqs, d_lts, d_cat, d_sat, d_and, d_or, denSub, denIte, asB, ptgs_len, ptgs_cell, ptgs_lsub, h1, h3, h4, hsy, sym43, sym44, Int.toNat_zero, Int.reduceToNat, ptg0, ptg1, ptg2, ptg3, ptg4, ptg5, ptg6, ptg7]
    try simp
  · simp only [cLast_l, EndsOk, WaysOk, forall_cons, forall_nil, TgtOk, gpair, FactsIn, hold_cons, hold_nil, Option.some.injEq, Value.bool.injEq, Value.int.injEq, decide_eq_true_eq, decide_eq_false_iff_not, and_true, true_and, and_imp, X.bool, X.den, denL, d_wrap, d_kind, d_not, d_neg, d_slen, d_add, d_sub, d_mul, d_div, d_mod, d_lt, d_le, d_eq, d_eqb, d_eqs, d_lts, d_cat, d_sat, d_and, d_or, denSub, denIte, asB, ptgs_len, ptgs_cell, ptgs_lsub, h1, h3, h4, hsy, sym43, sym44, Int.toNat_zero, Int.reduceToNat, ptg0, ptg1, ptg2, ptg3, ptg4, ptg5, ptg6, ptg7]
    try simp
end Go.Proofs.YtfmgfehjbedcmaaGreat.Zs
