/-
  The law PurseParts.
-/
import Derived.Test.YtpdemfamfmeemacGreatPpConP
import Derived.Test.YtpdemfamfmeemacGreatPpConO
import Derived.Test.YtpdemfamfmeemacGreatPpConG
import Derived.Test.YtpdemfamfmeemacGreatPpConJ
import Derived.Test.YtpdemfamfmeemacGreatPpConS
import Derived.Test.YtpdemfamfmeemacGreatPpRunZ
import Derived.KernelRfl
set_option linter.unusedSimpArgs false
set_option linter.unusedVariables false
namespace Go.Proofs.YtpdemfamfmeemacGreat.Zs
open Go
noncomputable def LD : Env → CallE := libs [cLib cSoldG_con, cLib rSoldG_con, cLib cHasG_con, cLib rHasG_con, cLib cHofG_con, cLib rHofG_con, cLib cHeldG_con, cLib rHeldG_con, cLib cUpE_con, cLib cUpN_con, cLib cUpY_con, cLib rUpE_con, cLib rUpN_con, cLib rUpY_con, cLib cOfE_con, cLib cOfN_con, cLib cOfY_con, cLib rOfE_con, cLib rOfN_con, cLib rOfY_con, cLib Same_con, fun _ => aliveL]
theorem LD_ok (F : List (X × Bool)) {r : Rho} (h : r.sym = sy) : CallsOk (E1.with F r) (LD (E1.with F r)) := libs_ok fun c hc => by
  simp only [List.mem_cons, List.not_mem_nil, or_false] at hc
  rcases hc with rfl | rfl | rfl | rfl | rfl | rfl | rfl | rfl | rfl | rfl | rfl | rfl | rfl | rfl | rfl | rfl | rfl | rfl | rfl | rfl | rfl | rfl
  · exact lib_ok (E := E1) cSoldG_cok F h
  · exact lib_ok (E := E1) rSoldG_cok F h
  · exact lib_ok (E := E1) cHasG_cok F h
  · exact lib_ok (E := E1) rHasG_cok F h
  · exact lib_ok (E := E1) cHofG_cok F h
  · exact lib_ok (E := E1) rHofG_cok F h
  · exact lib_ok (E := E1) cHeldG_cok F h
  · exact lib_ok (E := E1) rHeldG_cok F h
  · exact lib_ok (E := E1) cUpE_cok F h
  · exact lib_ok (E := E1) cUpN_cok F h
  · exact lib_ok (E := E1) cUpY_cok F h
  · exact lib_ok (E := E1) rUpE_cok F h
  · exact lib_ok (E := E1) rUpN_cok F h
  · exact lib_ok (E := E1) rUpY_cok F h
  · exact lib_ok (E := E1) cOfE_cok F h
  · exact lib_ok (E := E1) cOfN_cok F h
  · exact lib_ok (E := E1) cOfY_cok F h
  · exact lib_ok (E := E1) rOfE_cok F h
  · exact lib_ok (E := E1) rOfN_cok F h
  · exact lib_ok (E := E1) rOfY_cok F h
  · exact lib_ok (E := E1) Same_cok F h
  · exact alive_ok F r
theorem d_eq_same7 (k : IntKind) (n : Int) : den2 .eq (.int k n) (.int k n) = some (.bool true) := by simp [den2]
noncomputable def py_fn : FnD := { f := 3, args := argsAV [ptgsArg 60 0, .one (.int .i64 3), .one (.int .i64 4), .one (.int .i64 5)], heap := hRoot ++ argsBlk [ptgsArg 60 0, .one (.int .i64 3), .one (.int .i64 4), .one (.int .i64 5)], N := 100, M := 100, out := .sbool (.boo true), news := [] }
noncomputable def py_call : Env → CallL := fun E => acallAll E (evH E (LD E) ((fun _ => noLoops) E) 9)
noncomputable def py_pre : List (X × Bool) := []
def yPY_0 : X := .op2 .eq (.app 67 [(.var 1), (.var 5), (.var 4)]) (.app 67 [(.var 1), (.var 5), (.var 4)])
def yPY_1 : X := .op2 .eq (.app 66 [(.var 1), (.var 5), (.var 4)]) (.app 66 [(.var 1), (.var 5), (.var 4)])
def yPY_2 : X := .op2 .eq (.app 65 [(.var 1), (.var 4)]) (.app 65 [(.var 1), (.var 4)])
def yPY_3 : X := .op2 .eq (.app 64 [(.var 1), (.var 4)]) (.app 64 [(.var 1), (.var 4)])
def yPY_4 : X := .op2 .lt (.var 5) (.num 0)
def yPY_5 : X := .op2 .lt (.num 40) (.var 5)
def yPY_6 : X := .op2 .eq (.app 69 [(.var 1), (.var 4)]) (.app 69 [(.var 1), (.var 4)])
def yPY_7 : X := .op2 .eq (.var 5) (.num 0)
def yPY_8 : X := .op2 .lt (.var 4) (.num 10)
def yPY_9 : X := .op2 .lt (.num 24) (.op1 .len (.var 1))
def yPY_10 : X := .op2 .eq (.app 68 [(.var 1), (.var 4)]) (.app 68 [(.var 1), (.var 4)])
def yPY_11 : X := .op2 .eq (.app 70 [(.var 1)]) (.app 70 [(.var 1)])
def yPY_12 : X := .op2 .lt (.num 10000007) (.var 4)
def yPY_13 : X := .app 58 [(.var 1), (.var 3)]
def yPY_14 : X := .op2 .eq (.app 6 [(.var 1)]) (.app 6 [(.var 1)])
def yPY_15 : X := .op2 .lt (.var 5) (.num 1)
def yPY_16 : X := .app 60 [(.var 1), (.var 4)]
def yPY_17 : X := .op2 .eq (.app 6 [(.var 1)]) (.num 0)
def yPY_18 : X := .op2 .eq (.op1 .len yPY_13) (.num 0)
def yPY_19 : X := .app 20 [(.var 1)]
def yPY_20 : X := .op2 .eq (.op1 .len yPY_16) (.num 0)
noncomputable def py_t : GTree := (.fork yPY_9 (.leaf [[]]) (.fork yPY_19 (.fork yPY_2 (.fork yPY_3 (.fork yPY_0 (.fork yPY_1 (.fork yPY_11 (.fork yPY_14 (.fork yPY_6 (.fork yPY_10 (.fork yPY_17 (.fork yPY_18 (.fork yPY_20 (.leaf [[]]) (.fork (.app 20 [yPY_16]) (.leaf [[]]) .bad)) (.fork (.app 20 [yPY_13]) (.fork (.app 7 [yPY_13, yPY_13]) (.fork yPY_20 (.leaf [[]]) (.fork (.app 20 [yPY_16]) (.leaf [[]]) .bad)) (.leaf [[]])) .bad)) (.leaf [[]])) .bad) .bad) .bad) .bad) .bad) .bad) .bad) .bad) .bad))
noncomputable def py_l : List (List (X × Bool) × Option Pairs) := [([(yPY_9, true)], some []),
  ([(yPY_20, true), (yPY_18, true), (yPY_17, true), (yPY_10, true), (yPY_6, true), (yPY_14, true), (yPY_11, true), (yPY_1, true), (yPY_0, true), (yPY_3, true), (yPY_2, true), (yPY_19, true), (yPY_9, false)], some []),
  ([(.app 20 [yPY_16], true), (yPY_20, false), (yPY_18, true), (yPY_17, true), (yPY_10, true), (yPY_6, true), (yPY_14, true), (yPY_11, true), (yPY_1, true), (yPY_0, true), (yPY_3, true), (yPY_2, true), (yPY_19, true), (yPY_9, false)], some [(.boo true, .app 7 [yPY_16, yPY_16])]),
  ([(.app 20 [yPY_16], false), (yPY_20, false), (yPY_18, true), (yPY_17, true), (yPY_10, true), (yPY_6, true), (yPY_14, true), (yPY_11, true), (yPY_1, true), (yPY_0, true), (yPY_3, true), (yPY_2, true), (yPY_19, true), (yPY_9, false)], none),
  ([(yPY_20, true), (.app 7 [yPY_13, yPY_13], true), (.app 20 [yPY_13], true), (yPY_18, false), (yPY_17, true), (yPY_10, true), (yPY_6, true), (yPY_14, true), (yPY_11, true), (yPY_1, true), (yPY_0, true), (yPY_3, true), (yPY_2, true), (yPY_19, true), (yPY_9, false)], some []),
  ([(.app 20 [yPY_16], true), (yPY_20, false), (.app 7 [yPY_13, yPY_13], true), (.app 20 [yPY_13], true), (yPY_18, false), (yPY_17, true), (yPY_10, true), (yPY_6, true), (yPY_14, true), (yPY_11, true), (yPY_1, true), (yPY_0, true), (yPY_3, true), (yPY_2, true), (yPY_19, true), (yPY_9, false)], some [(.boo true, .app 7 [yPY_16, yPY_16])]),
  ([(.app 20 [yPY_16], false), (yPY_20, false), (.app 7 [yPY_13, yPY_13], true), (.app 20 [yPY_13], true), (yPY_18, false), (yPY_17, true), (yPY_10, true), (yPY_6, true), (yPY_14, true), (yPY_11, true), (yPY_1, true), (yPY_0, true), (yPY_3, true), (yPY_2, true), (yPY_19, true), (yPY_9, false)], none),
  ([(.app 7 [yPY_13, yPY_13], false), (.app 20 [yPY_13], true), (yPY_18, false), (yPY_17, true), (yPY_10, true), (yPY_6, true), (yPY_14, true), (yPY_11, true), (yPY_1, true), (yPY_0, true), (yPY_3, true), (yPY_2, true), (yPY_19, true), (yPY_9, false)], some [(.boo true, .boo false)]),
  ([(.app 20 [yPY_13], false), (yPY_18, false), (yPY_17, true), (yPY_10, true), (yPY_6, true), (yPY_14, true), (yPY_11, true), (yPY_1, true), (yPY_0, true), (yPY_3, true), (yPY_2, true), (yPY_19, true), (yPY_9, false)], none),
  ([(yPY_17, false), (yPY_10, true), (yPY_6, true), (yPY_14, true), (yPY_11, true), (yPY_1, true), (yPY_0, true), (yPY_3, true), (yPY_2, true), (yPY_19, true), (yPY_9, false)], some []),
  ([(yPY_10, false), (yPY_6, true), (yPY_14, true), (yPY_11, true), (yPY_1, true), (yPY_0, true), (yPY_3, true), (yPY_2, true), (yPY_19, true), (yPY_9, false)], none),
  ([(yPY_6, false), (yPY_14, true), (yPY_11, true), (yPY_1, true), (yPY_0, true), (yPY_3, true), (yPY_2, true), (yPY_19, true), (yPY_9, false)], none),
  ([(yPY_14, false), (yPY_11, true), (yPY_1, true), (yPY_0, true), (yPY_3, true), (yPY_2, true), (yPY_19, true), (yPY_9, false)], none),
  ([(yPY_11, false), (yPY_1, true), (yPY_0, true), (yPY_3, true), (yPY_2, true), (yPY_19, true), (yPY_9, false)], none),
  ([(yPY_1, false), (yPY_0, true), (yPY_3, true), (yPY_2, true), (yPY_19, true), (yPY_9, false)], none),
  ([(yPY_0, false), (yPY_3, true), (yPY_2, true), (yPY_19, true), (yPY_9, false)], none),
  ([(yPY_3, false), (yPY_2, true), (yPY_19, true), (yPY_9, false)], none),
  ([(yPY_2, false), (yPY_19, true), (yPY_9, false)], none),
  ([(yPY_19, false), (yPY_9, false)], none)]
theorem py_w (r : Rho) : py_fn.ways py_call E1 r py_pre py_t = some py_l := by kernel_rfl
theorem py_60 : (buildH py_fn.heap).get 60 = some (.rows 8 ptgSch (.var 0) (.var 1) false 36) := by kernel_rfl
theorem py_out (σ : Sig) : py_fn.out.inst σ = some (.bool true) := rfl
set_option maxRecDepth 100000 in
set_option maxHeartbeats 8000000 in
theorem py_true {r : Rho} {σ : Sig} {w : World} {us : List Value} (hsy : r.sym = sy) (hρ : σ.rho = r) (hA : ∀ g id, E1.glob g = some id → ∃ κ, σ id = some (g, κ)) (hrel : (memOf py_fn.heap 100).rel Tryz.prog σ w (fun b => w.heap.size ≤ b)) (hins : Ins σ py_fn.args us) :
    Calls Tryz.prog 3 us.toArray w fun e w' => e = .returned (.bool true) ∧ Kept (fun b => w.heap.size ≤ b) w w' := by
  obtain ⟨u0, us, rfl, g0, hi⟩ := ins_cons hins
  obtain ⟨u1, us, rfl, g1, hi⟩ := ins_cons hi
  obtain ⟨u2, us, rfl, g2, hi⟩ := ins_cons hi
  obtain ⟨u3, us, rfl, g3, hi⟩ := ins_cons hi
  obtain ⟨h, k3, rfl, h3⟩ := one_int g1
  obtain ⟨c, k4, rfl, h4⟩ := one_int g2
  obtain ⟨q, k5, rfl, h5⟩ := one_int g3
  obtain ⟨l, h1⟩ := ptgs_at hrel (i := 60) py_60
  rw [hρ] at h1 h3 h4 h5
  have h1 : r.val 1 = some (ptgsR l) := h1
  refine law_of (E := E1) (D := py_fn) E1_ok (fun F => LD_ok F hsy) (fun F => noH_ok) (py_w r) hρ hA trivial hrel hins ?_ ?_ py_out
  · simp only [py_pre, py_t, yPY_20, yPY_19, yPY_18, yPY_17, yPY_16, yPY_15, yPY_14, yPY_13, yPY_12, yPY_11, yPY_10, yPY_9, yPY_8, yPY_7, yPY_6, yPY_5, yPY_4, yPY_3, yPY_2, yPY_1, yPY_0, AsksL, GTree.asks, FTree.asks, FactsIn, List.append_nil, List.nil_append, List.cons_append, Option.some.injEq, exists_eq', implies_true, and_self, X.bool, X.den, denL, dX, denSub, denIte, asB, dY, d_eq_same7, h1, h3, h4, h5, hsy, sym5, sym6, sym7, sym10, sym20, sym31, sym58, sym60, sym64, sym65, sym66, sym67, sym68, sym69, sym70]
    try simp
  · simp only [py_l, yPY_20, yPY_19, yPY_18, yPY_17, yPY_16, yPY_15, yPY_14, yPY_13, yPY_12, yPY_11, yPY_10, yPY_9, yPY_8, yPY_7, yPY_6, yPY_5, yPY_4, yPY_3, yPY_2, yPY_1, yPY_0, EndsOk, WaysOk, forall_cons, forall_nil, TgtOk, gpair, FactsIn, hold_cons, hold_nil, Option.some.injEq, dZ, X.bool, X.den, denL, dX, denSub, denIte, asB, dY, d_eq_same7, h1, h3, h4, h5, hsy, sym5, sym6, sym7, sym10, sym20, sym31, sym58, sym60, sym64, sym65, sym66, sym67, sym68, sym69, sym70]
    clear hρ hrel hi hins g0 g1 g2 g3 h1 h3 h4 h5 hsy hA
    have e1 : ¬ 24 < (l.length : Int) → shortB l = true := fun h => len_short (by omega)
    have e2 : shortB (hourP l h) = false → 24 < (l.length : Int) := fun hf => by
      apply Classical.byContradiction
      intro hn
      have hl : (hourP l h).length ≤ l.length := List.length_filter_le _ _
      have := len_short (l := hourP l h) (by omega)
      rw [this] at hf; cases hf
    have e3 : shortB (ofP l c) = false → 24 < (l.length : Int) := fun hf => by
      apply Classical.byContradiction
      intro hn
      have hl : (ofP l c).length ≤ l.length := List.length_filter_le _ _
      have := len_short (l := ofP l c) (by omega)
      rw [this] at hf; cases hf
    (repeat' apply And.intro) <;> intros <;> first
      | (exact True.intro)
      | (simp only [beq_self_eq_true]; done)
      | contradiction
      | (exfalso; omega)
      | (exfalso; have g1 := e1 (by assumption); simp_all; done)
      | (exfalso; have g1 := e2 (by assumption); omega)
      | (exfalso; have g1 := e3 (by assumption); omega)
      | (simp_all; done)
noncomputable def pyNil_fn : FnD := { f := 3, args := argsAV [.nils, .one (.int .i64 3), .one (.int .i64 4), .one (.int .i64 5)], heap := hRoot ++ argsBlk [.nils, .one (.int .i64 3), .one (.int .i64 4), .one (.int .i64 5)], N := 100, M := 100, out := .sbool (.boo true), news := [] }
noncomputable def pyNil_call : Env → CallL := fun E => acallAll E (evH E (LD E) ((fun _ => noLoops) E) 10)
noncomputable def pyNil_pre : List (X × Bool) := []
noncomputable def pyNil_t : GTree := (.fork yPY_8 (.fork yPY_7 (.fork yPY_4 (.leaf [[]]) (.fork yPY_5 (.leaf [[]]) (.leaf [[]]))) (.fork yPY_15 (.fork yPY_4 (.leaf [[]]) (.fork yPY_5 (.leaf [[]]) (.leaf [[]]))) (.fork yPY_5 (.fork yPY_4 (.leaf [[]]) (.leaf [[]])) (.fork yPY_4 (.leaf [[]]) (.leaf [[]]))))) (.fork yPY_12 (.fork yPY_7 (.fork yPY_4 (.leaf [[]]) (.fork yPY_5 (.leaf [[]]) (.leaf [[]]))) (.fork yPY_15 (.fork yPY_4 (.leaf [[]]) (.fork yPY_5 (.leaf [[]]) (.leaf [[]]))) (.fork yPY_5 (.fork yPY_4 (.leaf [[]]) (.leaf [[]])) (.fork yPY_4 (.leaf [[]]) (.leaf [[]]))))) (.fork yPY_7 (.fork yPY_4 (.leaf [[]]) (.fork yPY_5 (.leaf [[]]) (.leaf [[]]))) (.fork yPY_15 (.fork yPY_4 (.leaf [[]]) (.fork yPY_5 (.leaf [[]]) (.leaf [[]]))) (.fork yPY_5 (.fork yPY_4 (.leaf [[]]) (.leaf [[]])) (.fork yPY_4 (.leaf [[]]) (.leaf [[]])))))))
noncomputable def pyNil_l : List (List (X × Bool) × Option Pairs) := [([(yPY_4, true), (yPY_7, true), (yPY_8, true)], some []),
  ([(yPY_5, true), (yPY_4, false), (yPY_7, true), (yPY_8, true)], some []),
  ([(yPY_5, false), (yPY_4, false), (yPY_7, true), (yPY_8, true)], some []),
  ([(yPY_4, true), (yPY_15, true), (yPY_7, false), (yPY_8, true)], some []),
  ([(yPY_5, true), (yPY_4, false), (yPY_15, true), (yPY_7, false), (yPY_8, true)], some []),
  ([(yPY_5, false), (yPY_4, false), (yPY_15, true), (yPY_7, false), (yPY_8, true)], some []),
  ([(yPY_4, true), (yPY_5, true), (yPY_15, false), (yPY_7, false), (yPY_8, true)], some []),
  ([(yPY_4, false), (yPY_5, true), (yPY_15, false), (yPY_7, false), (yPY_8, true)], some []),
  ([(yPY_4, true), (yPY_5, false), (yPY_15, false), (yPY_7, false), (yPY_8, true)], some []),
  ([(yPY_4, false), (yPY_5, false), (yPY_15, false), (yPY_7, false), (yPY_8, true)], some []),
  ([(yPY_4, true), (yPY_7, true), (yPY_12, true), (yPY_8, false)], some []),
  ([(yPY_5, true), (yPY_4, false), (yPY_7, true), (yPY_12, true), (yPY_8, false)], some []),
  ([(yPY_5, false), (yPY_4, false), (yPY_7, true), (yPY_12, true), (yPY_8, false)], some []),
  ([(yPY_4, true), (yPY_15, true), (yPY_7, false), (yPY_12, true), (yPY_8, false)], some []),
  ([(yPY_5, true), (yPY_4, false), (yPY_15, true), (yPY_7, false), (yPY_12, true), (yPY_8, false)], some []),
  ([(yPY_5, false), (yPY_4, false), (yPY_15, true), (yPY_7, false), (yPY_12, true), (yPY_8, false)], some []),
  ([(yPY_4, true), (yPY_5, true), (yPY_15, false), (yPY_7, false), (yPY_12, true), (yPY_8, false)], some []),
  ([(yPY_4, false), (yPY_5, true), (yPY_15, false), (yPY_7, false), (yPY_12, true), (yPY_8, false)], some []),
  ([(yPY_4, true), (yPY_5, false), (yPY_15, false), (yPY_7, false), (yPY_12, true), (yPY_8, false)], some []),
  ([(yPY_4, false), (yPY_5, false), (yPY_15, false), (yPY_7, false), (yPY_12, true), (yPY_8, false)], some []),
  ([(yPY_4, true), (yPY_7, true), (yPY_12, false), (yPY_8, false)], some [(.boo true, .boo false)]),
  ([(yPY_5, true), (yPY_4, false), (yPY_7, true), (yPY_12, false), (yPY_8, false)], some [(.boo true, .boo false)]),
  ([(yPY_5, false), (yPY_4, false), (yPY_7, true), (yPY_12, false), (yPY_8, false)], some []),
  ([(yPY_4, true), (yPY_15, true), (yPY_7, false), (yPY_12, false), (yPY_8, false)], some []),
  ([(yPY_5, true), (yPY_4, false), (yPY_15, true), (yPY_7, false), (yPY_12, false), (yPY_8, false)], some []),
  ([(yPY_5, false), (yPY_4, false), (yPY_15, true), (yPY_7, false), (yPY_12, false), (yPY_8, false)], some [(.boo true, .boo false)]),
  ([(yPY_4, true), (yPY_5, true), (yPY_15, false), (yPY_7, false), (yPY_12, false), (yPY_8, false)], some []),
  ([(yPY_4, false), (yPY_5, true), (yPY_15, false), (yPY_7, false), (yPY_12, false), (yPY_8, false)], some []),
  ([(yPY_4, true), (yPY_5, false), (yPY_15, false), (yPY_7, false), (yPY_12, false), (yPY_8, false)], some [(.boo true, .boo false)]),
  ([(yPY_4, false), (yPY_5, false), (yPY_15, false), (yPY_7, false), (yPY_12, false), (yPY_8, false)], some [])]
theorem pyNil_w (r : Rho) : pyNil_fn.ways pyNil_call E1 r pyNil_pre pyNil_t = some pyNil_l := by kernel_rfl
theorem pyNil_out (σ : Sig) : pyNil_fn.out.inst σ = some (.bool true) := rfl
set_option maxRecDepth 100000 in
set_option maxHeartbeats 8000000 in
theorem pyNil_true {r : Rho} {σ : Sig} {w : World} {us : List Value} (hsy : r.sym = sy) (hρ : σ.rho = r) (hA : ∀ g id, E1.glob g = some id → ∃ κ, σ id = some (g, κ)) (hrel : (memOf pyNil_fn.heap 100).rel Tryz.prog σ w (fun b => w.heap.size ≤ b)) (hins : Ins σ pyNil_fn.args us) :
    Calls Tryz.prog 3 us.toArray w fun e w' => e = .returned (.bool true) ∧ Kept (fun b => w.heap.size ≤ b) w w' := by
  obtain ⟨u0, us, rfl, g0, hi⟩ := ins_cons hins
  obtain ⟨u1, us, rfl, g1, hi⟩ := ins_cons hi
  obtain ⟨u2, us, rfl, g2, hi⟩ := ins_cons hi
  obtain ⟨u3, us, rfl, g3, hi⟩ := ins_cons hi
  obtain ⟨h, k3, rfl, h3⟩ := one_int g1
  obtain ⟨c, k4, rfl, h4⟩ := one_int g2
  obtain ⟨q, k5, rfl, h5⟩ := one_int g3
  rw [hρ] at h3 h4 h5
  refine law_of (E := E1) (D := pyNil_fn) E1_ok (fun F => LD_ok F hsy) (fun F => noH_ok) (pyNil_w r) hρ hA trivial hrel hins ?_ ?_ pyNil_out
  · simp only [pyNil_pre, pyNil_t, yPY_20, yPY_19, yPY_18, yPY_17, yPY_16, yPY_15, yPY_14, yPY_13, yPY_12, yPY_11, yPY_10, yPY_9, yPY_8, yPY_7, yPY_6, yPY_5, yPY_4, yPY_3, yPY_2, yPY_1, yPY_0, AsksL, GTree.asks, FTree.asks, FactsIn, List.append_nil, List.nil_append, List.cons_append, Option.some.injEq, exists_eq', implies_true, and_self, X.bool, X.den, denL, dX, denSub, denIte, asB, dY, d_eq_same7, h3, h4, h5, hsy, sym5, sym6, sym7, sym10, sym20, sym31, sym58, sym60, sym64, sym65, sym66, sym67, sym68, sym69, sym70]
    try simp
  · simp only [pyNil_l, yPY_20, yPY_19, yPY_18, yPY_17, yPY_16, yPY_15, yPY_14, yPY_13, yPY_12, yPY_11, yPY_10, yPY_9, yPY_8, yPY_7, yPY_6, yPY_5, yPY_4, yPY_3, yPY_2, yPY_1, yPY_0, EndsOk, WaysOk, forall_cons, forall_nil, TgtOk, gpair, FactsIn, hold_cons, hold_nil, Option.some.injEq, dZ, X.bool, X.den, denL, dX, denSub, denIte, asB, dY, d_eq_same7, h3, h4, h5, hsy, sym5, sym6, sym7, sym10, sym20, sym31, sym58, sym60, sym64, sym65, sym66, sym67, sym68, sym69, sym70]
    clear hρ hrel hi hins g0 g1 g2 g3 h3 h4 h5 hsy hA
    try simp only [withinB, partyB]
    (repeat' apply And.intro) <;> intros <;> first
      | (exact True.intro)
      | (simp only [beq_self_eq_true]; done)
      | contradiction
      | (exfalso; omega)
      | (exfalso; simp_all; done)
      | (exfalso; simp_all; omega)
      | (simp_all; done)
end Go.Proofs.YtpdemfamfmeemacGreat.Zs
