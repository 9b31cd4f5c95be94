/-
  The law CargoPapers, for a list that is not nil and for one that is.
-/
import Derived.Test.YtmhbhkipjjcmlaaGreatDoorConE
import Derived.Test.YtmhbhkipjjcmlaaGreatDoorRunZ
import Derived.KernelRfl
set_option linter.unusedSimpArgs false
set_option linter.unusedVariables false
namespace Go.Proofs.YtmhbhkipjjcmlaaGreatDoor.Zs
open Go
set_option linter.unusedSimpArgs false
set_option linter.unusedVariables false

def pw3 : List X := [(.op1 (.kind .i64) (.var 3)),  (.op1 (.kind .i64) (.var 4)),  (.op1 (.kind .u8) (.var 5)),  (.op1 (.kind .i64) (.var 6)),  (.op1 (.kind .i64) (.var 7)),  (.op1 (.kind .i64) (.var 8)),  (.var 9),  (.var 10),  (.op1 (.kind .i64) (.var 11)),  (.op1 (.kind .i64) (.var 12)),  (.op1 (.kind .i64) (.var 13)),  (.op1 (.kind .i64) (.var 14)),  (.op1 (.kind .i64) (.var 15)),  (.op1 (.kind .i64) (.var 16))]

noncomputable def LL : Env → CallE := libs [cLib Few_con, cLib Same_con, cLib cCheck_con, cLib rCheck_con, cLib cAppendNo_con, cLib cAppendYes_con, cLib rAppendNo_con, cLib rAppendYes_con, cLib cCheckPaper_con, cLib rCheckPaper_con, cLib Formed_con, cLib rAppNilNo_con, cLib rAppNilYes_con, fun _ => aliveL]
theorem LL_ok (F : List (X × Bool)) {r : Rho} (h : r.sym = sy) : CallsOk (E1.with F r) (LL (E1.with F r)) := libs_ok fun c hc => by
  simp only [List.mem_cons, List.not_mem_nil, or_false] at hc
  rcases hc with rfl | rfl | rfl | rfl | rfl | rfl | rfl | rfl | rfl | rfl | rfl | rfl | rfl | rfl
  · exact lib_ok (E := E1) Few_cok F h
  · exact lib_ok (E := E1) Same_cok F h
  · exact lib_ok (E := E1) cCheck_cok F h
  · exact lib_ok (E := E1) rCheck_cok F h
  · exact lib_ok (E := E1) cAppendNo_cok F h
  · exact lib_ok (E := E1) cAppendYes_cok F h
  · exact lib_ok (E := E1) rAppendNo_cok F h
  · exact lib_ok (E := E1) rAppendYes_cok F h
  · exact lib_ok (E := E1) cCheckPaper_cok F h
  · exact lib_ok (E := E1) rCheckPaper_cok F h
  · exact lib_ok (E := E1) Formed_cok F h
  · exact lib_ok (E := E1) rAppNilNo_cok F h
  · exact lib_ok (E := E1) rAppNilYes_cok F h
  · exact alive_ok F r

noncomputable def papers_fn : FnD := { f := 3, args := argsAV [papsArg 60 0, .agg (papLeaves 3)], heap := hRoot ++ argsBlk [papsArg 60 0, .agg (papLeaves 3)], N := 100, M := 100, out := .sbool (.boo true), news := [] }
noncomputable def papers_call : Env → CallL := fun E => acallAll E (evH E (LL E) ((fun _ => noLoops) E) 4)
noncomputable def papers_pre : List (X × Bool) := []
noncomputable def papers_t : GTree := (.fork (.app 8 [(.var 1), (.num 305)]) (.fork (.app 8 [(.snoc .nil pw3), (.num 1)]) (.fork (.app 20 [(.var 1)]) (.fork (.app 12 [(.var 1)]) (.fork (.op2 .lt (.num 1000000) (.op1 .len (.var 1))) .bad (.fork (.app 18 [(.var 9), (.var 10)]) (.fork (.op2 .eq (.app 11 [(.var 1), (.var 3), (.var 4), (.var 5), (.var 6), (.var 7), (.var 8), (.var 9), (.var 10), (.var 11), (.var 12), (.var 13), (.var 14), (.var 15), (.var 16)]) (.num 0)) (.fork (.op2 .eq (.app 5 [(.var 1)]) (.app 5 [(.var 1)])) (.fork (.op2 .eq (.app 6 [(.var 1)]) (.app 6 [(.var 1)])) (.fork (.app 20 [(.snoc (.var 1) pw3)]) (.fork (.app 7 [(.snoc (.var 1) pw3), (.snoc (.var 1) pw3)]) (.leaf [[]]) (.leaf [[]])) .bad) (.leaf [[]])) (.leaf [[]])) (.fork (.op2 .eq (.app 5 [(.var 1)]) (.app 5 [(.var 1)])) (.fork (.op2 .eq (.app 6 [(.var 1)]) (.app 6 [(.var 1)])) (.fork (.op2 .eq (.app 11 [(.var 1), (.var 3), (.var 4), (.var 5), (.var 6), (.var 7), (.var 8), (.var 9), (.var 10), (.var 11), (.var 12), (.var 13), (.var 14), (.var 15), (.var 16)]) (.app 11 [(.var 1), (.var 3), (.var 4), (.var 5), (.var 6), (.var 7), (.var 8), (.var 9), (.var 10), (.var 11), (.var 12), (.var 13), (.var 14), (.var 15), (.var 16)])) (.leaf [[]]) (.leaf [[]])) (.leaf [[]])) (.leaf [[]]))) .bad)) .bad) .bad) (.leaf [[]])) (.leaf [[]]))
noncomputable def papers_l : List (List (X × Bool) × Option Pairs) := [([((.op2 .lt (.num 1000000) (.op1 .len (.var 1))), true), ((.app 12 [(.var 1)]), true), ((.app 20 [(.var 1)]), true), ((.app 8 [(.snoc .nil pw3), (.num 1)]), true), ((.app 8 [(.var 1), (.num 305)]), true)], none),
  ([((.app 7 [(.snoc (.var 1) pw3), (.snoc (.var 1) pw3)]), true), ((.app 20 [(.snoc (.var 1) pw3)]), true), ((.op2 .eq (.app 6 [(.var 1)]) (.app 6 [(.var 1)])), true), ((.op2 .eq (.app 5 [(.var 1)]) (.app 5 [(.var 1)])), true), ((.op2 .eq (.app 11 [(.var 1), (.var 3), (.var 4), (.var 5), (.var 6), (.var 7), (.var 8), (.var 9), (.var 10), (.var 11), (.var 12), (.var 13), (.var 14), (.var 15), (.var 16)]) (.num 0)), true), ((.app 18 [(.var 9), (.var 10)]), true), ((.op2 .lt (.num 1000000) (.op1 .len (.var 1))), false), ((.app 12 [(.var 1)]), true), ((.app 20 [(.var 1)]), true), ((.app 8 [(.snoc .nil pw3), (.num 1)]), true), ((.app 8 [(.var 1), (.num 305)]), true)], some [((.boo true), (.op2 .eq (.app 14 [(.var 3), (.var 4), (.var 5), (.var 6), (.var 7), (.var 8), (.var 9), (.var 10), (.var 11), (.var 12), (.var 13), (.var 14), (.var 15), (.var 16)]) (.app 14 [(.var 3), (.var 4), (.var 5), (.var 6), (.var 7), (.var 8), (.var 9), (.var 10), (.var 11), (.var 12), (.var 13), (.var 14), (.var 15), (.var 16)])))]),
  ([((.app 7 [(.snoc (.var 1) pw3), (.snoc (.var 1) pw3)]), false), ((.app 20 [(.snoc (.var 1) pw3)]), true), ((.op2 .eq (.app 6 [(.var 1)]) (.app 6 [(.var 1)])), true), ((.op2 .eq (.app 5 [(.var 1)]) (.app 5 [(.var 1)])), true), ((.op2 .eq (.app 11 [(.var 1), (.var 3), (.var 4), (.var 5), (.var 6), (.var 7), (.var 8), (.var 9), (.var 10), (.var 11), (.var 12), (.var 13), (.var 14), (.var 15), (.var 16)]) (.num 0)), true), ((.app 18 [(.var 9), (.var 10)]), true), ((.op2 .lt (.num 1000000) (.op1 .len (.var 1))), false), ((.app 12 [(.var 1)]), true), ((.app 20 [(.var 1)]), true), ((.app 8 [(.snoc .nil pw3), (.num 1)]), true), ((.app 8 [(.var 1), (.num 305)]), true)], some [((.boo true), (.boo false))]),
  ([((.app 20 [(.snoc (.var 1) pw3)]), false), ((.op2 .eq (.app 6 [(.var 1)]) (.app 6 [(.var 1)])), true), ((.op2 .eq (.app 5 [(.var 1)]) (.app 5 [(.var 1)])), true), ((.op2 .eq (.app 11 [(.var 1), (.var 3), (.var 4), (.var 5), (.var 6), (.var 7), (.var 8), (.var 9), (.var 10), (.var 11), (.var 12), (.var 13), (.var 14), (.var 15), (.var 16)]) (.num 0)), true), ((.app 18 [(.var 9), (.var 10)]), true), ((.op2 .lt (.num 1000000) (.op1 .len (.var 1))), false), ((.app 12 [(.var 1)]), true), ((.app 20 [(.var 1)]), true), ((.app 8 [(.snoc .nil pw3), (.num 1)]), true), ((.app 8 [(.var 1), (.num 305)]), true)], none),
  ([((.op2 .eq (.app 6 [(.var 1)]) (.app 6 [(.var 1)])), false), ((.op2 .eq (.app 5 [(.var 1)]) (.app 5 [(.var 1)])), true), ((.op2 .eq (.app 11 [(.var 1), (.var 3), (.var 4), (.var 5), (.var 6), (.var 7), (.var 8), (.var 9), (.var 10), (.var 11), (.var 12), (.var 13), (.var 14), (.var 15), (.var 16)]) (.num 0)), true), ((.app 18 [(.var 9), (.var 10)]), true), ((.op2 .lt (.num 1000000) (.op1 .len (.var 1))), false), ((.app 12 [(.var 1)]), true), ((.app 20 [(.var 1)]), true), ((.app 8 [(.snoc .nil pw3), (.num 1)]), true), ((.app 8 [(.var 1), (.num 305)]), true)], some [((.boo true), (.boo false))]),
  ([((.op2 .eq (.app 5 [(.var 1)]) (.app 5 [(.var 1)])), false), ((.op2 .eq (.app 11 [(.var 1), (.var 3), (.var 4), (.var 5), (.var 6), (.var 7), (.var 8), (.var 9), (.var 10), (.var 11), (.var 12), (.var 13), (.var 14), (.var 15), (.var 16)]) (.num 0)), true), ((.app 18 [(.var 9), (.var 10)]), true), ((.op2 .lt (.num 1000000) (.op1 .len (.var 1))), false), ((.app 12 [(.var 1)]), true), ((.app 20 [(.var 1)]), true), ((.app 8 [(.snoc .nil pw3), (.num 1)]), true), ((.app 8 [(.var 1), (.num 305)]), true)], some [((.boo true), (.boo false))]),
  ([((.op2 .eq (.app 11 [(.var 1), (.var 3), (.var 4), (.var 5), (.var 6), (.var 7), (.var 8), (.var 9), (.var 10), (.var 11), (.var 12), (.var 13), (.var 14), (.var 15), (.var 16)]) (.app 11 [(.var 1), (.var 3), (.var 4), (.var 5), (.var 6), (.var 7), (.var 8), (.var 9), (.var 10), (.var 11), (.var 12), (.var 13), (.var 14), (.var 15), (.var 16)])), true), ((.op2 .eq (.app 6 [(.var 1)]) (.app 6 [(.var 1)])), true), ((.op2 .eq (.app 5 [(.var 1)]) (.app 5 [(.var 1)])), true), ((.op2 .eq (.app 11 [(.var 1), (.var 3), (.var 4), (.var 5), (.var 6), (.var 7), (.var 8), (.var 9), (.var 10), (.var 11), (.var 12), (.var 13), (.var 14), (.var 15), (.var 16)]) (.num 0)), false), ((.app 18 [(.var 9), (.var 10)]), true), ((.op2 .lt (.num 1000000) (.op1 .len (.var 1))), false), ((.app 12 [(.var 1)]), true), ((.app 20 [(.var 1)]), true), ((.app 8 [(.snoc .nil pw3), (.num 1)]), true), ((.app 8 [(.var 1), (.num 305)]), true)], some [((.boo true), (.op2 .eq (.app 14 [(.var 3), (.var 4), (.var 5), (.var 6), (.var 7), (.var 8), (.var 9), (.var 10), (.var 11), (.var 12), (.var 13), (.var 14), (.var 15), (.var 16)]) (.app 14 [(.var 3), (.var 4), (.var 5), (.var 6), (.var 7), (.var 8), (.var 9), (.var 10), (.var 11), (.var 12), (.var 13), (.var 14), (.var 15), (.var 16)])))]),
  ([((.op2 .eq (.app 11 [(.var 1), (.var 3), (.var 4), (.var 5), (.var 6), (.var 7), (.var 8), (.var 9), (.var 10), (.var 11), (.var 12), (.var 13), (.var 14), (.var 15), (.var 16)]) (.app 11 [(.var 1), (.var 3), (.var 4), (.var 5), (.var 6), (.var 7), (.var 8), (.var 9), (.var 10), (.var 11), (.var 12), (.var 13), (.var 14), (.var 15), (.var 16)])), false), ((.op2 .eq (.app 6 [(.var 1)]) (.app 6 [(.var 1)])), true), ((.op2 .eq (.app 5 [(.var 1)]) (.app 5 [(.var 1)])), true), ((.op2 .eq (.app 11 [(.var 1), (.var 3), (.var 4), (.var 5), (.var 6), (.var 7), (.var 8), (.var 9), (.var 10), (.var 11), (.var 12), (.var 13), (.var 14), (.var 15), (.var 16)]) (.num 0)), false), ((.app 18 [(.var 9), (.var 10)]), true), ((.op2 .lt (.num 1000000) (.op1 .len (.var 1))), false), ((.app 12 [(.var 1)]), true), ((.app 20 [(.var 1)]), true), ((.app 8 [(.snoc .nil pw3), (.num 1)]), true), ((.app 8 [(.var 1), (.num 305)]), true)], some [((.boo true), (.boo false))]),
  ([((.op2 .eq (.app 6 [(.var 1)]) (.app 6 [(.var 1)])), false), ((.op2 .eq (.app 5 [(.var 1)]) (.app 5 [(.var 1)])), true), ((.op2 .eq (.app 11 [(.var 1), (.var 3), (.var 4), (.var 5), (.var 6), (.var 7), (.var 8), (.var 9), (.var 10), (.var 11), (.var 12), (.var 13), (.var 14), (.var 15), (.var 16)]) (.num 0)), false), ((.app 18 [(.var 9), (.var 10)]), true), ((.op2 .lt (.num 1000000) (.op1 .len (.var 1))), false), ((.app 12 [(.var 1)]), true), ((.app 20 [(.var 1)]), true), ((.app 8 [(.snoc .nil pw3), (.num 1)]), true), ((.app 8 [(.var 1), (.num 305)]), true)], some [((.boo true), (.boo false))]),
  ([((.op2 .eq (.app 5 [(.var 1)]) (.app 5 [(.var 1)])), false), ((.op2 .eq (.app 11 [(.var 1), (.var 3), (.var 4), (.var 5), (.var 6), (.var 7), (.var 8), (.var 9), (.var 10), (.var 11), (.var 12), (.var 13), (.var 14), (.var 15), (.var 16)]) (.num 0)), false), ((.app 18 [(.var 9), (.var 10)]), true), ((.op2 .lt (.num 1000000) (.op1 .len (.var 1))), false), ((.app 12 [(.var 1)]), true), ((.app 20 [(.var 1)]), true), ((.app 8 [(.snoc .nil pw3), (.num 1)]), true), ((.app 8 [(.var 1), (.num 305)]), true)], some [((.boo true), (.boo false))]),
  ([((.app 18 [(.var 9), (.var 10)]), false), ((.op2 .lt (.num 1000000) (.op1 .len (.var 1))), false), ((.app 12 [(.var 1)]), true), ((.app 20 [(.var 1)]), true), ((.app 8 [(.snoc .nil pw3), (.num 1)]), true), ((.app 8 [(.var 1), (.num 305)]), true)], none),
  ([((.app 12 [(.var 1)]), false), ((.app 20 [(.var 1)]), true), ((.app 8 [(.snoc .nil pw3), (.num 1)]), true), ((.app 8 [(.var 1), (.num 305)]), true)], none),
  ([((.app 20 [(.var 1)]), false), ((.app 8 [(.snoc .nil pw3), (.num 1)]), true), ((.app 8 [(.var 1), (.num 305)]), true)], none),
  ([((.app 8 [(.snoc .nil pw3), (.num 1)]), false), ((.app 8 [(.var 1), (.num 305)]), true)], some []),
  ([((.app 8 [(.var 1), (.num 305)]), false)], some [])]
theorem papers_w (r : Rho) : papers_fn.ways papers_call E1 r papers_pre papers_t = some papers_l := by kernel_rfl
theorem papers_60 : (buildH papers_fn.heap).get 60 = some (.rows 14 papSch (.var 0) (.var 1) false 26) := by kernel_rfl
theorem papers_out (σ : Sig) : papers_fn.out.inst σ = some (.bool true) := rfl
theorem papers_true {r : Rho} {σ : Sig} {w : World} {us : List Value} (hsy : r.sym = sy) (hρ : σ.rho = r) (hA : ∀ g id, E1.glob g = some id → ∃ κ, σ id = some (g, κ)) (hrel : (memOf papers_fn.heap 100).rel Tryz.prog σ w (fun b => w.heap.size ≤ b)) (hins : Ins σ papers_fn.args us) :
    Calls Tryz.prog 3 us.toArray w fun e w' => e = .returned (.bool true) ∧ Kept (fun b => w.heap.size ≤ b) w w' := by
  obtain ⟨u0, us, rfl, g0, hi⟩ := ins_cons hins
  obtain ⟨u1, us, rfl, g1, hi⟩ := ins_cons hi
  obtain ⟨x, k, rfl, hp⟩ := pap_agg g1
  obtain ⟨l, h1⟩ := paps_at hrel (i := 60) papers_60
  rw [hρ] at hp h1
  have h1 : r.val 1 = some (papsR l) := h1
  have a0 := hp.h0
  have a1 := hp.h1
  have a2 := hp.h2
  have a3 := hp.h3
  have a4 := hp.h4
  have a5 := hp.h5
  have a6 := hp.h6
  have a7 := hp.h7
  have a8 := hp.h8
  have a9 := hp.h9
  have a10 := hp.h10
  have a11 := hp.h11
  have a12 := hp.h12
  have a13 := hp.h13
  simp only [Nat.reduceAdd] at a0 a1 a2 a3 a4 a5 a6 a7 a8 a9 a10 a11 a12 a13

  refine law_of (E := E1) (D := papers_fn) E1_ok (fun F => LL_ok F hsy) (fun F => noH_ok) (papers_w r) hρ hA trivial hrel hins ?_ ?_ papers_out
  · simp only [papers_pre, papers_t, AsksL, GTree.asks, FTree.asks, FactsIn, List.append_nil, List.nil_append, List.cons_append, Option.some.injEq, exists_eq', implies_true, and_self, X.bool, X.den, denL, d_wrap, d_kind, d_not, d_neg, d_slen, d_add, d_sub, d_mul, d_div, d_mod, d_lt, d_le, d_eq, d_eqb, d_eqs, d_lts, d_cat, d_sat, d_and, d_or, denSub, denIte, asB, len_R, cell_R, lsub_R, a0, a1, a2, a3, a4, a5, a6, a7, a8, a9, a10, a11, a12, a13, h1, hsy, pw3, sym3, sym5, sym6, sym7, sym8, sym11, sym11n, sym12, sym14, sym18, sym20, snoc_R, snoc_R0]
  · simp only [papers_l, EndsOk, WaysOk, forall_cons, forall_nil, TgtOk, gpair, FactsIn, hold_cons, hold_nil, Option.some.injEq, Value.bool.injEq, Value.int.injEq, decide_eq_true_eq, decide_eq_false_iff_not, and_true, true_and, and_imp, X.bool, X.den, denL, d_wrap, d_kind, d_not, d_neg, d_slen, d_add, d_sub, d_mul, d_div, d_mod, d_lt, d_le, d_eq, d_eqb, d_eqs, d_lts, d_cat, d_sat, d_and, d_or, denSub, denIte, asB, len_R, cell_R, lsub_R, a0, a1, a2, a3, a4, a5, a6, a7, a8, a9, a10, a11, a12, a13, h1, hsy, pw3, sym3, sym5, sym6, sym7, sym8, sym11, sym11n, sym12, sym14, sym18, sym20, snoc_R, snoc_R0]
    have f1 : fewB l 305 = true → (l.length : Int) ≤ 305 ∧ smallB l = true := fun h => by simpa [fewB] using h
    have f2 : (l.length : Int) ≤ 305 → lenB l = true := fun h => by simp [lenB]; omega
    have f3 : fewB [x] 1 = true → smallS x.mark x.goods = true := fun h => by simpa [fewB, smallB, smallP] using h
    have f4 : (l.length : Int) ≤ 305 → lenB (l ++ [x]) = true := fun h => len_snoc l x (by omega)
    clear hρ hrel hi hp hins g0 g1 h1 a0 a1 a2 a3 a4 a5 a6 a7 a8 a9 a10 a11 a12 a13 hsy hA
    (repeat' apply And.intro) <;> intros <;> first
      | trivial
      | (simp only [beq_self_eq_true]; done)
      | (exfalso; have g1 := f1 (by assumption); omega)
      | (exfalso; have g1 := f1 (by assumption); have g2 := f2 g1.1; have g4 := f4 g1.1; simp_all; done)
      | (exfalso; have g1 := f1 (by assumption); have g3 := f3 (by assumption); simp_all; done)
      | (exfalso; simp_all; done)
      | (simp_all; done)
noncomputable def papersNil_fn : FnD := { f := 3, args := argsAV [.nils, .agg (papLeaves 3)], heap := hRoot ++ argsBlk [.nils, .agg (papLeaves 3)], N := 100, M := 100, out := .sbool (.boo true), news := [] }
noncomputable def papersNil_call : Env → CallL := fun E => acallAll E (evH E (LL E) ((fun _ => noLoops) E) 8)
noncomputable def papersNil_pre : List (X × Bool) := []
noncomputable def papersNil_t : GTree := (.fork (.app 8 [(.snoc .nil pw3), (.num 1)]) (.fork (.app 20 [(.snoc .nil pw3)]) (.fork (.app 12 [(.snoc .nil pw3)]) (.fork (.op2 .eq (.app 6 [(.snoc .nil pw3)]) (.num 0)) (.fork (.app 18 [(.var 9), (.var 10)]) (.fork (.op2 .eq (.app 11 [.nil, (.var 3), (.var 4), (.var 5), (.var 6), (.var 7), (.var 8), (.var 9), (.var 10), (.var 11), (.var 12), (.var 13), (.var 14), (.var 15), (.var 16)]) (.num 0)) (.fork (.app 7 [(.snoc .nil pw3), (.snoc .nil pw3)]) (.leaf [[]]) (.leaf [[]])) (.fork (.op2 .eq (.num 0) (.app 11 [.nil, (.var 3), (.var 4), (.var 5), (.var 6), (.var 7), (.var 8), (.var 9), (.var 10), (.var 11), (.var 12), (.var 13), (.var 14), (.var 15), (.var 16)])) (.leaf [[]]) (.leaf [[]]))) .bad) (.fork (.app 18 [(.var 9), (.var 10)]) (.fork (.op2 .eq (.app 11 [.nil, (.var 3), (.var 4), (.var 5), (.var 6), (.var 7), (.var 8), (.var 9), (.var 10), (.var 11), (.var 12), (.var 13), (.var 14), (.var 15), (.var 16)]) (.num 0)) (.leaf [[]]) (.fork (.op2 .eq (.app 6 [(.snoc .nil pw3)]) (.app 11 [.nil, (.var 3), (.var 4), (.var 5), (.var 6), (.var 7), (.var 8), (.var 9), (.var 10), (.var 11), (.var 12), (.var 13), (.var 14), (.var 15), (.var 16)])) (.leaf [[]]) (.leaf [[]]))) .bad)) .bad) .bad) (.leaf [[]]))
noncomputable def papersNil_l : List (List (X × Bool) × Option Pairs) := [([((.app 7 [(.snoc .nil pw3), (.snoc .nil pw3)]), true), ((.op2 .eq (.app 11 [.nil, (.var 3), (.var 4), (.var 5), (.var 6), (.var 7), (.var 8), (.var 9), (.var 10), (.var 11), (.var 12), (.var 13), (.var 14), (.var 15), (.var 16)]) (.num 0)), true), ((.app 18 [(.var 9), (.var 10)]), true), ((.op2 .eq (.app 6 [(.snoc .nil pw3)]) (.num 0)), true), ((.app 12 [(.snoc .nil pw3)]), true), ((.app 20 [(.snoc .nil pw3)]), true), ((.app 8 [(.snoc .nil pw3), (.num 1)]), true)], some [((.boo true), (.op2 .eq (.app 14 [(.var 3), (.var 4), (.var 5), (.var 6), (.var 7), (.var 8), (.var 9), (.var 10), (.var 11), (.var 12), (.var 13), (.var 14), (.var 15), (.var 16)]) (.app 14 [(.var 3), (.var 4), (.var 5), (.var 6), (.var 7), (.var 8), (.var 9), (.var 10), (.var 11), (.var 12), (.var 13), (.var 14), (.var 15), (.var 16)])))]),
  ([((.app 7 [(.snoc .nil pw3), (.snoc .nil pw3)]), false), ((.op2 .eq (.app 11 [.nil, (.var 3), (.var 4), (.var 5), (.var 6), (.var 7), (.var 8), (.var 9), (.var 10), (.var 11), (.var 12), (.var 13), (.var 14), (.var 15), (.var 16)]) (.num 0)), true), ((.app 18 [(.var 9), (.var 10)]), true), ((.op2 .eq (.app 6 [(.snoc .nil pw3)]) (.num 0)), true), ((.app 12 [(.snoc .nil pw3)]), true), ((.app 20 [(.snoc .nil pw3)]), true), ((.app 8 [(.snoc .nil pw3), (.num 1)]), true)], some [((.boo true), (.boo false))]),
  ([((.op2 .eq (.num 0) (.app 11 [.nil, (.var 3), (.var 4), (.var 5), (.var 6), (.var 7), (.var 8), (.var 9), (.var 10), (.var 11), (.var 12), (.var 13), (.var 14), (.var 15), (.var 16)])), true), ((.op2 .eq (.app 11 [.nil, (.var 3), (.var 4), (.var 5), (.var 6), (.var 7), (.var 8), (.var 9), (.var 10), (.var 11), (.var 12), (.var 13), (.var 14), (.var 15), (.var 16)]) (.num 0)), false), ((.app 18 [(.var 9), (.var 10)]), true), ((.op2 .eq (.app 6 [(.snoc .nil pw3)]) (.num 0)), true), ((.app 12 [(.snoc .nil pw3)]), true), ((.app 20 [(.snoc .nil pw3)]), true), ((.app 8 [(.snoc .nil pw3), (.num 1)]), true)], some [((.boo true), (.boo false))]),
  ([((.op2 .eq (.num 0) (.app 11 [.nil, (.var 3), (.var 4), (.var 5), (.var 6), (.var 7), (.var 8), (.var 9), (.var 10), (.var 11), (.var 12), (.var 13), (.var 14), (.var 15), (.var 16)])), false), ((.op2 .eq (.app 11 [.nil, (.var 3), (.var 4), (.var 5), (.var 6), (.var 7), (.var 8), (.var 9), (.var 10), (.var 11), (.var 12), (.var 13), (.var 14), (.var 15), (.var 16)]) (.num 0)), false), ((.app 18 [(.var 9), (.var 10)]), true), ((.op2 .eq (.app 6 [(.snoc .nil pw3)]) (.num 0)), true), ((.app 12 [(.snoc .nil pw3)]), true), ((.app 20 [(.snoc .nil pw3)]), true), ((.app 8 [(.snoc .nil pw3), (.num 1)]), true)], some [((.boo true), (.boo false))]),
  ([((.app 18 [(.var 9), (.var 10)]), false), ((.op2 .eq (.app 6 [(.snoc .nil pw3)]) (.num 0)), true), ((.app 12 [(.snoc .nil pw3)]), true), ((.app 20 [(.snoc .nil pw3)]), true), ((.app 8 [(.snoc .nil pw3), (.num 1)]), true)], none),
  ([((.op2 .eq (.app 11 [.nil, (.var 3), (.var 4), (.var 5), (.var 6), (.var 7), (.var 8), (.var 9), (.var 10), (.var 11), (.var 12), (.var 13), (.var 14), (.var 15), (.var 16)]) (.num 0)), true), ((.app 18 [(.var 9), (.var 10)]), true), ((.op2 .eq (.app 6 [(.snoc .nil pw3)]) (.num 0)), false), ((.app 12 [(.snoc .nil pw3)]), true), ((.app 20 [(.snoc .nil pw3)]), true), ((.app 8 [(.snoc .nil pw3), (.num 1)]), true)], some [((.boo true), (.boo false))]),
  ([((.op2 .eq (.app 6 [(.snoc .nil pw3)]) (.app 11 [.nil, (.var 3), (.var 4), (.var 5), (.var 6), (.var 7), (.var 8), (.var 9), (.var 10), (.var 11), (.var 12), (.var 13), (.var 14), (.var 15), (.var 16)])), true), ((.op2 .eq (.app 11 [.nil, (.var 3), (.var 4), (.var 5), (.var 6), (.var 7), (.var 8), (.var 9), (.var 10), (.var 11), (.var 12), (.var 13), (.var 14), (.var 15), (.var 16)]) (.num 0)), false), ((.app 18 [(.var 9), (.var 10)]), true), ((.op2 .eq (.app 6 [(.snoc .nil pw3)]) (.num 0)), false), ((.app 12 [(.snoc .nil pw3)]), true), ((.app 20 [(.snoc .nil pw3)]), true), ((.app 8 [(.snoc .nil pw3), (.num 1)]), true)], some [((.boo true), (.op2 .eq (.app 14 [(.var 3), (.var 4), (.var 5), (.var 6), (.var 7), (.var 8), (.var 9), (.var 10), (.var 11), (.var 12), (.var 13), (.var 14), (.var 15), (.var 16)]) (.app 14 [(.var 3), (.var 4), (.var 5), (.var 6), (.var 7), (.var 8), (.var 9), (.var 10), (.var 11), (.var 12), (.var 13), (.var 14), (.var 15), (.var 16)])))]),
  ([((.op2 .eq (.app 6 [(.snoc .nil pw3)]) (.app 11 [.nil, (.var 3), (.var 4), (.var 5), (.var 6), (.var 7), (.var 8), (.var 9), (.var 10), (.var 11), (.var 12), (.var 13), (.var 14), (.var 15), (.var 16)])), false), ((.op2 .eq (.app 11 [.nil, (.var 3), (.var 4), (.var 5), (.var 6), (.var 7), (.var 8), (.var 9), (.var 10), (.var 11), (.var 12), (.var 13), (.var 14), (.var 15), (.var 16)]) (.num 0)), false), ((.app 18 [(.var 9), (.var 10)]), true), ((.op2 .eq (.app 6 [(.snoc .nil pw3)]) (.num 0)), false), ((.app 12 [(.snoc .nil pw3)]), true), ((.app 20 [(.snoc .nil pw3)]), true), ((.app 8 [(.snoc .nil pw3), (.num 1)]), true)], some [((.boo true), (.boo false))]),
  ([((.app 18 [(.var 9), (.var 10)]), false), ((.op2 .eq (.app 6 [(.snoc .nil pw3)]) (.num 0)), false), ((.app 12 [(.snoc .nil pw3)]), true), ((.app 20 [(.snoc .nil pw3)]), true), ((.app 8 [(.snoc .nil pw3), (.num 1)]), true)], none),
  ([((.app 12 [(.snoc .nil pw3)]), false), ((.app 20 [(.snoc .nil pw3)]), true), ((.app 8 [(.snoc .nil pw3), (.num 1)]), true)], none),
  ([((.app 20 [(.snoc .nil pw3)]), false), ((.app 8 [(.snoc .nil pw3), (.num 1)]), true)], none),
  ([((.app 8 [(.snoc .nil pw3), (.num 1)]), false)], some [])]
theorem papersNil_w (r : Rho) : papersNil_fn.ways papersNil_call E1 r papersNil_pre papersNil_t = some papersNil_l := by kernel_rfl
theorem check_one (x : Pap) : (checkR [x]).2 = if formedB x = true then (if x.kind = 3 then 5 else 0) else 1 := by rw [← append_nil_E, ← check_snoc]; rfl
theorem papersNil_out (σ : Sig) : papersNil_fn.out.inst σ = some (.bool true) := rfl
theorem papersNil_true {r : Rho} {σ : Sig} {w : World} {us : List Value} (hsy : r.sym = sy) (hρ : σ.rho = r) (hA : ∀ g id, E1.glob g = some id → ∃ κ, σ id = some (g, κ)) (hrel : (memOf papersNil_fn.heap 100).rel Tryz.prog σ w (fun b => w.heap.size ≤ b)) (hins : Ins σ papersNil_fn.args us) :
    Calls Tryz.prog 3 us.toArray w fun e w' => e = .returned (.bool true) ∧ Kept (fun b => w.heap.size ≤ b) w w' := by
  obtain ⟨u0, us, rfl, g0, hi⟩ := ins_cons hins
  obtain ⟨u1, us, rfl, g1, hi⟩ := ins_cons hi
  obtain ⟨x, k, rfl, hp⟩ := pap_agg g1
  rw [hρ] at hp
  have a0 := hp.h0
  have a1 := hp.h1
  have a2 := hp.h2
  have a3 := hp.h3
  have a4 := hp.h4
  have a5 := hp.h5
  have a6 := hp.h6
  have a7 := hp.h7
  have a8 := hp.h8
  have a9 := hp.h9
  have a10 := hp.h10
  have a11 := hp.h11
  have a12 := hp.h12
  have a13 := hp.h13
  simp only [Nat.reduceAdd] at a0 a1 a2 a3 a4 a5 a6 a7 a8 a9 a10 a11 a12 a13

  refine law_of (E := E1) (D := papersNil_fn) E1_ok (fun F => LL_ok F hsy) (fun F => noH_ok) (papersNil_w r) hρ hA trivial hrel hins ?_ ?_ papersNil_out
  · simp only [papersNil_pre, papersNil_t, AsksL, GTree.asks, FTree.asks, FactsIn, List.append_nil, List.nil_append, List.cons_append, Option.some.injEq, exists_eq', implies_true, and_self, X.bool, X.den, denL, d_wrap, d_kind, d_not, d_neg, d_slen, d_add, d_sub, d_mul, d_div, d_mod, d_lt, d_le, d_eq, d_eqb, d_eqs, d_lts, d_cat, d_sat, d_and, d_or, denSub, denIte, asB, len_R, cell_R, lsub_R, a0, a1, a2, a3, a4, a5, a6, a7, a8, a9, a10, a11, a12, a13, check_one, hsy, pw3, sym3, sym5, sym6, sym7, sym8, sym11, sym11n, sym12, sym14, sym18, sym20, snoc_R, snoc_R0]
  · simp only [papersNil_l, EndsOk, WaysOk, forall_cons, forall_nil, TgtOk, gpair, FactsIn, hold_cons, hold_nil, Option.some.injEq, Value.bool.injEq, Value.int.injEq, decide_eq_true_eq, decide_eq_false_iff_not, and_true, true_and, and_imp, X.bool, X.den, denL, d_wrap, d_kind, d_not, d_neg, d_slen, d_add, d_sub, d_mul, d_div, d_mod, d_lt, d_le, d_eq, d_eqb, d_eqs, d_lts, d_cat, d_sat, d_and, d_or, denSub, denIte, asB, len_R, cell_R, lsub_R, a0, a1, a2, a3, a4, a5, a6, a7, a8, a9, a10, a11, a12, a13, check_one, hsy, pw3, sym3, sym5, sym6, sym7, sym8, sym11, sym11n, sym12, sym14, sym18, sym20, snoc_R, snoc_R0]
    have f3 : fewB [x] 1 = true → smallS x.mark x.goods = true := fun h => by simpa [fewB, smallB, smallP] using h
    have f5 : smallB [x] = smallS x.mark x.goods := by simp [smallB, smallP]
    have f6 : lenB [x] = true := by simp [lenB]
    generalize (if formedB x = true then (if x.kind = 3 then (5 : Int) else 0) else 1) = e
    clear hρ hrel hi hp hins g0 g1 a0 a1 a2 a3 a4 a5 a6 a7 a8 a9 a10 a11 a12 a13 hsy hA
    (repeat' apply And.intro) <;> intros <;> first
      | trivial
      | (simp only [beq_self_eq_true]; done)
      | (exfalso; have g3 := f3 (by assumption); clear f3; simp_all; done)
      | (exfalso; clear f3; simp_all; done)
      | (clear f3; simp_all; done)
end Go.Proofs.YtmhbhkipjjcmlaaGreatDoor.Zs
