/-
  The law ClaimDeeds, for a list and for nil.
-/
import Derived.Test.YtnahicnoofkfgaaGreatDoorDeDeedC
import Derived.Test.YtnahicnoofkfgaaGreatDoorDeDeedS
import Derived.Test.YtnahicnoofkfgaaGreatDoorDeDeedF
import Derived.Test.YtnahicnoofkfgaaGreatDoorDeRunZ
import Derived.KernelRfl
set_option linter.unusedSimpArgs false
set_option linter.unusedVariables false
namespace Go.Proofs.YtnahicnoofkfgaaGreatDoor.Zs
open Go
set_option linter.unusedSimpArgs false
set_option linter.unusedVariables false

noncomputable def LD : Env → CallE := libs [cLib Same_con, cLib cChk_con, cLib rChk_con, cLib cAppendNo_con, cLib cAppendYes_con, cLib rAppendNo_con, cLib rAppendYes_con, cLib cDeed_con, cLib rForm_con, fun _ => aliveL]
theorem LD_ok (F : List (X × Bool)) {r : Rho} (h : r.sym = sy) : CallsOk (E1.with F r) (LD (E1.with F r)) := libs_ok fun c hc => by
  simp only [List.mem_cons, List.not_mem_nil, or_false] at hc
  rcases hc with rfl | rfl | rfl | rfl | rfl | rfl | rfl | rfl | rfl | rfl
  · exact lib_ok (E := E1) Same_cok F h
  · exact lib_ok (E := E1) cChk_cok F h
  · exact lib_ok (E := E1) rChk_cok F h
  · exact lib_ok (E := E1) cAppendNo_cok F h
  · exact lib_ok (E := E1) cAppendYes_cok F h
  · exact lib_ok (E := E1) rAppendNo_cok F h
  · exact lib_ok (E := E1) rAppendYes_cok F h
  · exact lib_ok (E := E1) cDeed_cok F h
  · exact lib_ok (E := E1) rForm_cok F h
  · exact alive_ok F r

theorem refused_nil (x : Deed) : refusedD [] x = bif !(formB x) then 1 else bif decide (x.kind = 5) || decide (x.kind = 6) then 5 else 0 := by
  unfold refusedD badB
  cases formB x <;> by_cases a : x.kind = 5 <;> by_cases b : x.kind = 6 <;> simp [a, b, thereB, goneB]
theorem append_nil_E (x : Deed) : appendD [] x = refusedD [] x := rfl

noncomputable def dl_fn : FnD := { f := 5, args := argsAV [deedsArg 60 0, .agg (deedLeaves 3)], heap := hRoot ++ argsBlk [deedsArg 60 0, .agg (deedLeaves 3)], N := 100, M := 100, out := .sbool (.boo true), news := [] }
noncomputable def dl_call : Env → CallL := fun E => acallAll E (evH E (LD E) ((fun _ => noLoops) E) 6)
noncomputable def dl_pre : List (X × Bool) := []
def dlz0 : X := .snoc .nil [(.op1 (.kind .i64) (.var 3)), (.op1 (.kind .i64) (.var 4)), (.op1 (.kind .i64) (.var 5)), (.op1 (.kind .u8) (.var 6)), (.op1 (.kind .i64) (.var 7)), (.op1 (.kind .i64) (.var 8)), (.op1 (.kind .i64) (.var 9)), (.op1 (.kind .i64) (.var 10)), (.op1 (.kind .i64) (.var 11)), (.op1 (.kind .i64) (.var 12)), (.op1 (.kind .i64) (.var 13))]
def dlz1 : X := .snoc (.var 1) [(.op1 (.kind .i64) (.var 3)), (.op1 (.kind .i64) (.var 4)), (.op1 (.kind .i64) (.var 5)), (.op1 (.kind .u8) (.var 6)), (.op1 (.kind .i64) (.var 7)), (.op1 (.kind .i64) (.var 8)), (.op1 (.kind .i64) (.var 9)), (.op1 (.kind .i64) (.var 10)), (.op1 (.kind .i64) (.var 11)), (.op1 (.kind .i64) (.var 12)), (.op1 (.kind .i64) (.var 13))]
def dlz2 : X := .app 11 [(.var 1), (.var 3), (.var 4), (.var 5), (.var 6), (.var 7), (.var 8), (.var 9), (.var 10), (.var 11), (.var 12), (.var 13)]
def dlz3 : X := .app 63 [(.var 3), (.var 4), (.var 5), (.var 6), (.var 7), (.var 8), (.var 9), (.var 10), (.var 11), (.var 12), (.var 13)]
def dlz4 : X := .app 64 [(.var 3), (.var 4), (.var 5), (.var 6), (.var 7), (.var 8), (.var 9), (.var 10), (.var 11), (.var 12), (.var 13)]
def dlz5 : X := .op2 .eq (.app 5 [(.var 1)]) (.app 5 [(.var 1)])
def dlz6 : X := .op2 .lt (.num 305) (.op1 .len (.var 1))
def dlz7 : X := .op2 .eq (.app 6 [(.var 1)]) (.app 6 [(.var 1)])
def dlz8 : X := .op2 .lt (.num 900) (.op1 .len (.var 1))
def dlz9 : X := .op2 .eq (.app 6 [dlz0]) (.num 0)
noncomputable def dl_t : GTree := (.fork dlz6 (.leaf [[]]) (.fork (.app 20 [.var 1]) (.fork dlz8 .bad (.fork (.op2 .eq dlz2 (.num 0)) (.fork dlz5 (.fork dlz7 (.fork (.app 20 [dlz1]) (.fork (.app 7 [dlz1, dlz1]) (.fork dlz3 (.leaf [[]]) (.leaf [[]])) (.leaf [[]])) .bad) (.leaf [[]])) (.leaf [[]])) (.fork dlz5 (.fork dlz7 (.fork (.op2 .eq dlz2 dlz2) (.fork dlz3 (.leaf [[]]) (.leaf [[]])) (.leaf [[]])) (.leaf [[]])) (.leaf [[]])))) .bad))
noncomputable def dl_l : List (List (X × Bool) × Option Pairs) := [([(dlz6, true)], some []),
  ([(dlz8, true), (.app 20 [.var 1], true), (dlz6, false)], none),
  ([(dlz3, true), (.app 7 [dlz1, dlz1], true), (.app 20 [dlz1], true), (dlz7, true), (dlz5, true), (.op2 .eq dlz2 (.num 0), true), (dlz8, false), (.app 20 [.var 1], true), (dlz6, false)], some [(.boo true, .op2 .eq dlz4 (.num 0))]),
  ([(dlz3, false), (.app 7 [dlz1, dlz1], true), (.app 20 [dlz1], true), (dlz7, true), (dlz5, true), (.op2 .eq dlz2 (.num 0), true), (dlz8, false), (.app 20 [.var 1], true), (dlz6, false)], some [(.boo true, .op2 .eq dlz4 (.num 1))]),
  ([(.app 7 [dlz1, dlz1], false), (.app 20 [dlz1], true), (dlz7, true), (dlz5, true), (.op2 .eq dlz2 (.num 0), true), (dlz8, false), (.app 20 [.var 1], true), (dlz6, false)], some [(.boo true, .boo false)]),
  ([(.app 20 [dlz1], false), (dlz7, true), (dlz5, true), (.op2 .eq dlz2 (.num 0), true), (dlz8, false), (.app 20 [.var 1], true), (dlz6, false)], none),
  ([(dlz7, false), (dlz5, true), (.op2 .eq dlz2 (.num 0), true), (dlz8, false), (.app 20 [.var 1], true), (dlz6, false)], some [(.boo true, .boo false)]),
  ([(dlz5, false), (.op2 .eq dlz2 (.num 0), true), (dlz8, false), (.app 20 [.var 1], true), (dlz6, false)], some [(.boo true, .boo false)]),
  ([(dlz3, true), (.op2 .eq dlz2 dlz2, true), (dlz7, true), (dlz5, true), (.op2 .eq dlz2 (.num 0), false), (dlz8, false), (.app 20 [.var 1], true), (dlz6, false)], some [(.boo true, .op2 .eq dlz4 (.num 0))]),
  ([(dlz3, false), (.op2 .eq dlz2 dlz2, true), (dlz7, true), (dlz5, true), (.op2 .eq dlz2 (.num 0), false), (dlz8, false), (.app 20 [.var 1], true), (dlz6, false)], some [(.boo true, .op2 .eq dlz4 (.num 1))]),
  ([(.op2 .eq dlz2 dlz2, false), (dlz7, true), (dlz5, true), (.op2 .eq dlz2 (.num 0), false), (dlz8, false), (.app 20 [.var 1], true), (dlz6, false)], some [(.boo true, .boo false)]),
  ([(dlz7, false), (dlz5, true), (.op2 .eq dlz2 (.num 0), false), (dlz8, false), (.app 20 [.var 1], true), (dlz6, false)], some [(.boo true, .boo false)]),
  ([(dlz5, false), (.op2 .eq dlz2 (.num 0), false), (dlz8, false), (.app 20 [.var 1], true), (dlz6, false)], some [(.boo true, .boo false)]),
  ([(.app 20 [.var 1], false), (dlz6, false)], none)]
theorem dl_w (r : Rho) : dl_fn.ways dl_call E1 r dl_pre dl_t = some dl_l := by kernel_rfl
theorem dl_60 : (buildH dl_fn.heap).get 60 = some (.rows 11 deedSch (.var 0) (.var 1) false 37) := by kernel_rfl
theorem dl_out (σ : Sig) : dl_fn.out.inst σ = some (.bool true) := rfl
set_option maxRecDepth 100000 in
set_option maxHeartbeats 4000000 in
theorem dl_true {r : Rho} {σ : Sig} {w : World} {us : List Value} (hsy : r.sym = sy) (hρ : σ.rho = r) (hA : ∀ g id, E1.glob g = some id → ∃ κ, σ id = some (g, κ)) (hrel : (memOf dl_fn.heap 100).rel Tryz.prog σ w (fun b => w.heap.size ≤ b)) (hins : Ins σ dl_fn.args us) :
    Calls Tryz.prog 5 us.toArray w fun e w' => e = .returned (.bool true) ∧ Kept (fun b => w.heap.size ≤ b) w w' := by
  obtain ⟨u0, us, rfl, g0, hi⟩ := ins_cons hins
  obtain ⟨u1, us, rfl, g1, hi⟩ := ins_cons hi
  obtain ⟨x, k, rfl, hp⟩ := deed_agg g1
  obtain ⟨l, h1⟩ := deeds_at hrel (i := 60) dl_60
  rw [hρ] at hp h1
  have h1 : r.val 1 = some (deedsR l) := h1
  have a0 := hp.h0
  have a1 := hp.h1
  have a2 := hp.h2
  have a3 := hp.h3
  have a4 := hp.h4
  have a5 := hp.h5
  have a6 := hp.h6
  have a7 := hp.h7
  have a8 := hp.h8
  have a9 := hp.h9
  have a10 := hp.h10
  simp only [Nat.zero_add, Nat.reduceAdd] at a0 a1 a2 a3 a4 a5 a6 a7 a8 a9 a10

  refine law_of (E := E1) (D := dl_fn) E1_ok (fun F => LD_ok F hsy) (fun F => noH_ok) (dl_w r) hρ hA trivial hrel hins ?_ ?_ dl_out
  · simp only [dl_pre, dl_t, dlz9, dlz8, dlz7, dlz6, dlz5, dlz4, dlz3, dlz2, dlz1, dlz0, AsksL, GTree.asks, FTree.asks, FactsIn, List.append_nil, List.nil_append, List.cons_append, Option.some.injEq, exists_eq', implies_true, and_self, X.bool, X.den, denL, d_wrap, d_kind, d_not, d_neg, d_slen, d_add, d_sub, d_mul, d_div, d_mod, d_lt, d_le, d_eq, d_eqb, d_eqs, d_lts, d_cat, d_sat, d_and, d_or, denSub, d_ite2, d_eq_ite2, asB, fracs_len, fracs_cell, fracs_lsub, deeds_len, deeds_cell, deeds_lsub, a0, a1, a2, a3, a4, a5, a6, a7, a8, a9, a10, h1, hsy, sym5, sym6, sym7, sym11, sym20, sym63, sym64, deeds_snoc, deeds_snoc0, check_snoc, append_nil_E]
    try simp
  · simp only [dl_l, dlz9, dlz8, dlz7, dlz6, dlz5, dlz4, dlz3, dlz2, dlz1, dlz0, EndsOk, WaysOk, forall_cons, forall_nil, TgtOk, gpair, FactsIn, hold_cons, hold_nil, Option.some.injEq, Value.bool.injEq, Value.int.injEq, decide_eq_true_eq, decide_eq_false_iff_not, and_true, true_and, and_imp, X.bool, X.den, denL, d_wrap, d_kind, d_not, d_neg, d_slen, d_add, d_sub, d_mul, d_div, d_mod, d_lt, d_le, d_eq, d_eqb, d_eqs, d_lts, d_cat, d_sat, d_and, d_or, denSub, d_ite2, d_eq_ite2, asB, fracs_len, fracs_cell, fracs_lsub, deeds_len, deeds_cell, deeds_lsub, beq_iff_eq, beq_eq_false_iff_ne, ne_eq, a0, a1, a2, a3, a4, a5, a6, a7, a8, a9, a10, h1, hsy, sym5, sym6, sym7, sym11, sym20, sym63, sym64, deeds_snoc, deeds_snoc0, check_snoc, append_nil_E]
    clear hρ hrel hi hp hins g0 g1 h1 a0 a1 a2 a3 a4 a5 a6 a7 a8 a9 a10 hsy hA
    have e1 : ¬ 305 < (l.length : Int) → shortB l = true := fun h => len_short (by omega)
    have e2 : ¬ 305 < (l.length : Int) → shortB (l ++ [x]) = true := fun h => len_short (by simp; omega)
    (repeat' apply And.intro) <;> intros <;> first
      | trivial
      | (simp only [beq_self_eq_true]; done)
      | contradiction
      | (exfalso; omega)
      | (exfalso; have g1 := e1 (by assumption); have g2 := e2 (by assumption); simp_all; done)
      | (cases formB x <;> simp_all; done)
      | (simp_all; done)

noncomputable def dlNil_fn : FnD := { f := 5, args := argsAV [.nils, .agg (deedLeaves 3)], heap := hRoot ++ argsBlk [.nils, .agg (deedLeaves 3)], N := 100, M := 100, out := .sbool (.boo true), news := [] }
noncomputable def dlNil_call : Env → CallL := fun E => acallAll E (evH E (LD E) ((fun _ => noLoops) E) 8)
noncomputable def dlNil_pre : List (X × Bool) := []
noncomputable def dlNil_t : GTree := (.fork (.app 20 [dlz0]) (.fork dlz9 (.fork dlz3 (.fork (.op2 .eq (.var 6) (.num 5)) (.leaf [[]]) (.fork (.op2 .eq (.var 6) (.num 6)) (.leaf [[]]) (.fork (.app 7 [dlz0, dlz0]) (.leaf [[], []]) (.leaf [[], []])))) (.leaf [[]])) (.fork dlz3 (.fork (.op2 .eq (.var 6) (.num 5)) (.fork (.op2 .eq (.app 6 [dlz0]) (.num 5)) (.leaf [[]]) (.leaf [[]])) (.fork (.op2 .eq (.var 6) (.num 6)) (.fork (.op2 .eq (.app 6 [dlz0]) (.num 5)) (.leaf [[]]) (.leaf [[]])) (.leaf [[], []]))) (.fork (.op2 .eq (.app 6 [dlz0]) (.num 1)) (.leaf [[]]) (.leaf [[]])))) .bad)
noncomputable def dlNil_l : List (List (X × Bool) × Option Pairs) := [([(.op2 .eq (.var 6) (.num 5), true), (dlz3, true), (dlz9, true), (.app 20 [dlz0], true)], some [(.boo true, .boo false)]),
  ([(.op2 .eq (.var 6) (.num 6), true), (.op2 .eq (.var 6) (.num 5), false), (dlz3, true), (dlz9, true), (.app 20 [dlz0], true)], some [(.boo true, .boo false)]),
  ([(.app 7 [dlz0, dlz0], true), (.op2 .eq (.var 6) (.num 6), false), (.op2 .eq (.var 6) (.num 5), false), (dlz3, true), (dlz9, true), (.app 20 [dlz0], true)], some [(.boo true, .op2 .eq dlz4 (.num 0)), (.boo true, .op2 .eq dlz4 (.num 0))]),
  ([(.app 7 [dlz0, dlz0], false), (.op2 .eq (.var 6) (.num 6), false), (.op2 .eq (.var 6) (.num 5), false), (dlz3, true), (dlz9, true), (.app 20 [dlz0], true)], some [(.boo true, .boo false), (.boo true, .boo false)]),
  ([(dlz3, false), (dlz9, true), (.app 20 [dlz0], true)], some [(.boo true, .boo false)]),
  ([(.op2 .eq (.app 6 [dlz0]) (.num 5), true), (.op2 .eq (.var 6) (.num 5), true), (dlz3, true), (dlz9, false), (.app 20 [dlz0], true)], some [(.boo true, .op2 .eq dlz4 (.num 0))]),
  ([(.op2 .eq (.app 6 [dlz0]) (.num 5), false), (.op2 .eq (.var 6) (.num 5), true), (dlz3, true), (dlz9, false), (.app 20 [dlz0], true)], some [(.boo true, .boo false)]),
  ([(.op2 .eq (.app 6 [dlz0]) (.num 5), true), (.op2 .eq (.var 6) (.num 6), true), (.op2 .eq (.var 6) (.num 5), false), (dlz3, true), (dlz9, false), (.app 20 [dlz0], true)], some [(.boo true, .op2 .eq dlz4 (.num 0))]),
  ([(.op2 .eq (.app 6 [dlz0]) (.num 5), false), (.op2 .eq (.var 6) (.num 6), true), (.op2 .eq (.var 6) (.num 5), false), (dlz3, true), (dlz9, false), (.app 20 [dlz0], true)], some [(.boo true, .boo false)]),
  ([(.op2 .eq (.var 6) (.num 6), false), (.op2 .eq (.var 6) (.num 5), false), (dlz3, true), (dlz9, false), (.app 20 [dlz0], true)], some [(.boo true, .boo false), (.boo true, .boo false)]),
  ([(.op2 .eq (.app 6 [dlz0]) (.num 1), true), (dlz3, false), (dlz9, false), (.app 20 [dlz0], true)], some [(.boo true, .op2 .eq dlz4 (.num 1))]),
  ([(.op2 .eq (.app 6 [dlz0]) (.num 1), false), (dlz3, false), (dlz9, false), (.app 20 [dlz0], true)], some [(.boo true, .boo false)]),
  ([(.app 20 [dlz0], false)], none)]
theorem dlNil_w (r : Rho) : dlNil_fn.ways dlNil_call E1 r dlNil_pre dlNil_t = some dlNil_l := by kernel_rfl
theorem dlNil_out (σ : Sig) : dlNil_fn.out.inst σ = some (.bool true) := rfl
set_option maxRecDepth 100000 in
set_option maxHeartbeats 4000000 in
theorem dlNil_true {r : Rho} {σ : Sig} {w : World} {us : List Value} (hsy : r.sym = sy) (hρ : σ.rho = r) (hA : ∀ g id, E1.glob g = some id → ∃ κ, σ id = some (g, κ)) (hrel : (memOf dlNil_fn.heap 100).rel Tryz.prog σ w (fun b => w.heap.size ≤ b)) (hins : Ins σ dlNil_fn.args us) :
    Calls Tryz.prog 5 us.toArray w fun e w' => e = .returned (.bool true) ∧ Kept (fun b => w.heap.size ≤ b) w w' := by
  obtain ⟨u0, us, rfl, g0, hi⟩ := ins_cons hins
  obtain ⟨u1, us, rfl, g1, hi⟩ := ins_cons hi
  obtain ⟨x, k, rfl, hp⟩ := deed_agg g1
  rw [hρ] at hp
  have a0 := hp.h0
  have a1 := hp.h1
  have a2 := hp.h2
  have a3 := hp.h3
  have a4 := hp.h4
  have a5 := hp.h5
  have a6 := hp.h6
  have a7 := hp.h7
  have a8 := hp.h8
  have a9 := hp.h9
  have a10 := hp.h10
  simp only [Nat.zero_add, Nat.reduceAdd] at a0 a1 a2 a3 a4 a5 a6 a7 a8 a9 a10

  refine law_of (E := E1) (D := dlNil_fn) E1_ok (fun F => LD_ok F hsy) (fun F => noH_ok) (dlNil_w r) hρ hA trivial hrel hins ?_ ?_ dlNil_out
  · simp only [dlNil_pre, dlNil_t, dlz9, dlz8, dlz7, dlz6, dlz5, dlz4, dlz3, dlz2, dlz1, dlz0, AsksL, GTree.asks, FTree.asks, FactsIn, List.append_nil, List.nil_append, List.cons_append, Option.some.injEq, exists_eq', implies_true, and_self, X.bool, X.den, denL, d_wrap, d_kind, d_not, d_neg, d_slen, d_add, d_sub, d_mul, d_div, d_mod, d_lt, d_le, d_eq, d_eqb, d_eqs, d_lts, d_cat, d_sat, d_and, d_or, denSub, d_ite2, d_eq_ite2, asB, fracs_len, fracs_cell, fracs_lsub, deeds_len, deeds_cell, deeds_lsub, a0, a1, a2, a3, a4, a5, a6, a7, a8, a9, a10, hsy, sym5, sym6, sym7, sym11, sym20, sym63, sym64, deeds_snoc, deeds_snoc0, check_snoc, append_nil_E]
    try simp
  · simp only [dlNil_l, dlz9, dlz8, dlz7, dlz6, dlz5, dlz4, dlz3, dlz2, dlz1, dlz0, EndsOk, WaysOk, forall_cons, forall_nil, TgtOk, gpair, FactsIn, hold_cons, hold_nil, Option.some.injEq, Value.bool.injEq, Value.int.injEq, decide_eq_true_eq, decide_eq_false_iff_not, and_true, true_and, and_imp, X.bool, X.den, denL, d_wrap, d_kind, d_not, d_neg, d_slen, d_add, d_sub, d_mul, d_div, d_mod, d_lt, d_le, d_eq, d_eqb, d_eqs, d_lts, d_cat, d_sat, d_and, d_or, denSub, d_ite2, d_eq_ite2, asB, fracs_len, fracs_cell, fracs_lsub, deeds_len, deeds_cell, deeds_lsub, beq_iff_eq, beq_eq_false_iff_ne, ne_eq, a0, a1, a2, a3, a4, a5, a6, a7, a8, a9, a10, hsy, sym5, sym6, sym7, sym11, sym20, sym63, sym64, deeds_snoc, deeds_snoc0, check_snoc, append_nil_E]
    clear hρ hrel hi hp hins g0 g1 a0 a1 a2 a3 a4 a5 a6 a7 a8 a9 a10 hsy hA
    have e1 : shortB [x] = true := len_short (by simp)
    have e3 : (checkD [x]).2 = refusedD [] x := check_snoc [] x
    have e4 := refused_nil x
    (repeat' apply And.intro) <;> intros <;> first
      | trivial
      | (simp only [beq_self_eq_true]; done)
      | contradiction
      | (exfalso; simp_all; done)
      | (cases formB x <;> simp_all; done)
      | (simp_all; done)

end Go.Proofs.YtnahicnoofkfgaaGreatDoor.Zs
