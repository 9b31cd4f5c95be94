/-
  Contracts: names of goods, rates, sales.
-/
import Derived.Test.YtcmbkcebbgigcaaGreatDoorMoConF
import Derived.KernelRfl
set_option linter.unusedSimpArgs false
set_option linter.unusedVariables false
namespace Go.Proofs.YtcmbkcebbgigcaaGreatDoor.Zs
open Go
theorem allUpto_at (p : Int → Bool) (s : ByteArray) : ∀ {n : Nat}, allUpto p s n = true → ∀ i, i < n → p (byteAt s i) = true
  | 0, _, i, hi => by omega
  | n + 1, h, i, hi => by
    simp only [allUpto, Bool.and_eq_true] at h
    rcases Nat.lt_or_ge i n with hlt | hge
    · exact allUpto_at p s h.1 i hlt
    · rw [show i = n by omega]; exact h.2
def nm_vs : List X := [.num 0]
noncomputable def lNm_D : LoopD := { N := 100, M := 101, size := sizeOfF 84, reads := [], pats := [{ slots := [(0, .sstr (.var 0)), (19, .sint .i64 (.op1 .slen (.var 0))), (20, .sint .i64 (.var 100))], heap := [] }], exits := [(.exit 0, { slots := [], heap := [], guard := .app 24 [.var 0] }), (.ret, { slots := [(2, .sbool (.boo false))], heap := [], guard := .op1 .not (.app 24 [.var 0]) })], own := [], pre := [] }
noncomputable def lNm_run : Env → AF → ASt → Option (List Out) := bodyRun noL 6 (fun _ => noLoop) (loopAt Tryz.prog 84 0)
def lNm0_F : List (X × Bool) := [(.op2 .lt (.var 100) (.num 0), false)]
def qc0 : X := .ite (.app 131 [(.var 0), (.var 1), (.var 2), (.var 3), (.var 4), (.var 5), (.var 6), (.var 7), (.var 8)]) (.num 0) (.num 1)
def qc1 : X := .ite (.app 130 [(.var 0), (.var 1), (.var 2), (.var 3), (.var 4), (.var 5), (.var 6), (.var 7), (.var 8)]) (.num 0) (.num 1)
def qc2 : X := .op2 .eq (.var 8) (.num 0)
def qc3 : X := .app 10 [(.var 3), (.num 10), (.num 10000007)]
def qc4 : X := .app 10 [(.var 4), (.num 1), (.num 1000000000)]
def qc5 : X := .app 10 [(.var 2), (.num 0), (.var 1)]
def qc6 : X := .op2 .eq (.var 2) (.num 0)
def qc7 : X := .op2 .eq (.var 5) (.num 0)
def qc8 : X := .app 10 [(.var 0), (.num 1), (.num 1000000)]
def qc9 : X := .op2 .eq (.var 6) (.num 0)
def qc10 : X := .app 10 [(.var 1), (.num 0), (.num 1000000)]
def qc11 : X := .app 10 [(.var 2), (.num 0), (.num 1000000)]
def qc12 : X := .op2 .eq (.var 4) (.num 0)
def qc13 : X := .op2 .lt (.num 100) (.op1 .slen (.var 3))
def qc14 : X := .app 10 [(.var 6), (.num 1), (.num 40)]
def qc15 : X := .op2 .eq (.var 7) (.num 0)
def qc16 : X := .app 10 [(.var 8), (.num 0), (.num 1000000)]
def qc17 : X := .op2 .eq (.var 3) (.num 0)
def qc18 : X := .op2 .eqs (.var 3) (.str [])
def qc19 : X := .app 10 [(.var 5), (.num 1), (.num 40)]
def qc20 : X := .app 10 [(.var 6), (.num 0), (.num 100000)]
def qc21 : X := .op2 .sat (.var 0) (.var 100)
def qc22 : X := .app 132 [(.var 4), (.var 5)]
def qc23 : X := .app 10 [(.var 7), (.num 0), (.var 2)]
def qc24 : X := .op1 .slen (.var 0)
def qc25 : X := .app 10 [(.var 7), (.num 0), (.num 100000)]
def qc26 : X := .op2 .lt (.var 100) (.num 0)
def qc27 : X := .op1 (.wrap .i64) (.op2 .add (.var 100) (.num 1))
def qc28 : X := .app 133 [(.var 3)]
def qc29 : X := .op2 .lt (.var 100) qc24
def qc30 : X := .op2 .sat (.var 0) (.num 0)
def qc31 : X := .op2 .lt qc21 (.num 97)
def qc32 : X := .op2 .lt qc21 (.num 48)
def qc33 : X := .op2 .eq qc21 (.num 45)
def qc34 : X := .app 10 [qc24, (.num 1), (.num 24)]
def qc35 : X := .op2 .lt (.num 57) qc21
def qc36 : X := .op2 .lt (.num 122) qc21
def qc37 : X := .op2 .lt (.num 100) qc24
noncomputable def lNm0_t : FTree := (.fork qc29 (.fork qc31 (.fork qc32 (.fork qc33 (.leaf [.again 0 []]) (.leaf [.leave 1 []])) (.fork qc35 (.fork qc33 (.leaf [.again 0 []]) (.leaf [.leave 1 []])) (.leaf [.again 0 []]))) (.fork qc36 (.fork qc32 (.fork qc33 (.leaf [.again 0 []]) (.leaf [.leave 1 []])) (.fork qc35 (.fork qc33 (.leaf [.again 0 []]) (.leaf [.leave 1 []])) (.leaf [.again 0 []]))) (.leaf [.again 0 []]))) (.leaf [.leave 0 []]))
noncomputable def lNm0_l : List (List (X × Bool) × Option (List (Tgt × Pairs))) := [([(qc33, true), (qc32, true), (qc31, true), (qc29, true), (qc26, false)], some [(.again 0 [], [(.var 100, qc27)])]),
  ([(qc33, false), (qc32, true), (qc31, true), (qc29, true), (qc26, false)], some [(.leave 1 [], [(.op1 .not (.app 24 [.var 0]), .boo true)])]),
  ([(qc33, true), (qc35, true), (qc32, false), (qc31, true), (qc29, true), (qc26, false)], some [(.again 0 [], [(.var 100, qc27)])]),
  ([(qc33, false), (qc35, true), (qc32, false), (qc31, true), (qc29, true), (qc26, false)], some [(.leave 1 [], [(.op1 .not (.app 24 [.var 0]), .boo true)])]),
  ([(qc35, false), (qc32, false), (qc31, true), (qc29, true), (qc26, false)], some [(.again 0 [], [(.var 100, qc27)])]),
  ([(qc33, true), (qc32, true), (qc36, true), (qc31, false), (qc29, true), (qc26, false)], some [(.again 0 [], [(.var 100, qc27)])]),
  ([(qc33, false), (qc32, true), (qc36, true), (qc31, false), (qc29, true), (qc26, false)], some [(.leave 1 [], [(.op1 .not (.app 24 [.var 0]), .boo true)])]),
  ([(qc33, true), (qc35, true), (qc32, false), (qc36, true), (qc31, false), (qc29, true), (qc26, false)], some [(.again 0 [], [(.var 100, qc27)])]),
  ([(qc33, false), (qc35, true), (qc32, false), (qc36, true), (qc31, false), (qc29, true), (qc26, false)], some [(.leave 1 [], [(.op1 .not (.app 24 [.var 0]), .boo true)])]),
  ([(qc35, false), (qc32, false), (qc36, true), (qc31, false), (qc29, true), (qc26, false)], some [(.again 0 [], [(.var 100, qc27)])]),
  ([(qc36, false), (qc31, false), (qc29, true), (qc26, false)], some [(.again 0 [], [(.var 100, qc27)])]),
  ([(qc29, false), (qc26, false)], some [(.leave 0 [], [(.app 24 [.var 0], .boo true)])])]
theorem lNm0_w (r : Rho) : lNm_D.ways lNm_run E0 r 0 lNm0_F lNm0_t = some lNm0_l := by kernel_rfl
theorem lNm_ok : lNm_D.ok = true := by kernel_rfl
def lNm_Inv (s : ByteArray) (j : Nat) (vals : List Value) : Prop :=
  j = 0 ∧ ∃ i : Nat, i ≤ s.size ∧ vals = [.int .i64 i] ∧ allUpto goodsC s i = true
def lNm_mu (s : ByteArray) (_ : Nat) (vals : List Value) : Nat := s.size - (vI (vals.getD 0 default)).toNat
theorem lNm_step {ρ : Rho} {s : ByteArray} (h0 : ρ.val 0 = some (.string s)) (hsy : ρ.sym = sy) (hmax : (s.size : Int) ≤ 1000) (j : Nat) (vals : List Value) (hI : lNm_Inv s j vals) :
    StepOk lNm_D lNm_run E0 ρ (lNm_Inv s) (lNm_mu s) j vals := by
  obtain ⟨rfl, i, hi, rfl, hall⟩ := hI
  have hN : lNm_D.N = 100 := rfl
  have v0 : (ρ.ext lNm_D.N [.int .i64 i]).val 0 = some (.string s) := by rw [ext_low _ _ _ _ (by rw [hN]; omega)]; exact h0
  have v100 : (ρ.ext lNm_D.N [.int .i64 i]).val 100 = some (.int .i64 i) := by rw [ext_high _ _ _ _ (by rw [hN]; omega)]; rfl
  have vs : (ρ.ext lNm_D.N [.int .i64 i]).sym = sy := hsy
  have hs : sy 24 [.string s] = some (.bool (goodsAll s)) := rfl
  have hbyte : ∀ q : Nat, (((s[(q : Int).toNat]?.map UInt8.toNat).getD 0 : Nat) : Int) = byteAt s q := fun q => by simp [byteAt]
  have bad : i < s.size → goodsC (byteAt s i) = false → goodsAll s = false := fun hlt hb => by
    cases hf : goodsAll s with
    | false => rfl
    | true =>
      have := allUpto_at goodsC s hf i hlt
      rw [hb] at this; cases this
  have badN : i < s.size → goodsC (byteAt s i) = false → (!goodsAll s) = true := fun h1 h2 => by rw [bad h1 h2]; rfl
  refine step_of_ways (lNm0_w _) (F := lNm0_F) ?_ (AsksL.ok ?_) ?_
  · simp only [lNm0_F, FactsIn, X.bool, X.den, denL, dX, denSub, denIte, asB, dY, v100, Option.some.injEq, Value.bool.injEq, decide_eq_false_iff_not, and_true]
    omega
  · simp only [lNm0_t, qc37, qc36, qc35, qc34, qc33, qc32, qc31, qc30, qc29, qc28, qc27, qc26, qc25, qc24, qc23, qc22, qc21, qc20, qc19, qc18, qc17, qc16, qc15, qc14, qc13, qc12, qc11, qc10, qc9, qc8, qc7, qc6, qc5, qc4, qc3, qc2, qc1, qc0, lNm0_F, AsksL, GTree.asks, FTree.asks, FactsIn, List.append_nil, List.nil_append, List.cons_append, Option.some.injEq, exists_eq', implies_true, and_self, X.bool, X.den, denL, dX, denSub, denIte, asB, dY, v0, v100, vs, hs]
  · simp only [lNm0_l, qc37, qc36, qc35, qc34, qc33, qc32, qc31, qc30, qc29, qc28, qc27, qc26, qc25, qc24, qc23, qc22, qc21, qc20, qc19, qc18, qc17, qc16, qc15, qc14, qc13, qc12, qc11, qc10, qc9, qc8, qc7, qc6, qc5, qc4, qc3, qc2, qc1, qc0, EndsOk, WaysOk, forall_cons, forall_nil, TgtOk, gpair, FactsIn, hold_cons, hold_nil, Option.some.injEq, dZ, X.bool, X.den, denL, dX, denSub, denIte, asB, dY, beq_iff_eq, beq_eq_false_iff_ne, ne_eq, v0, v100, vs, h0, hsy, hs, hbyte]
    have go : (i : Int) < s.size → goodsC (byteAt s i) = true → ∃ vals', ((ρ.ext lNm_D.N vals').val 100 = some (.int .i64 (IntKind.i64.wrap ((i : Int) + 1)))) ∧
        lNm_Inv s 0 vals' ∧ lNm_mu s 0 vals' < lNm_mu s 0 [.int .i64 i] := by
      intro hlt hb
      refine ⟨[.int .i64 ((i + 1 : Nat) : Int)], ?_, ⟨rfl, i + 1, by omega, rfl, ?_⟩, ?_⟩
      · rw [ext_high _ _ _ _ (by rw [hN]; omega), IntWalk.i64_in _ (by omega)]; rfl
      · simp only [allUpto, hall, hb, Bool.and_self]
      · simp [lNm_mu, vI]; omega
    clear hsy vs v0 v100 h0 hs hN
    (repeat' apply And.intro) <;> intros <;> first
      | (exfalso; omega)
      | (refine go (by omega) ?_; clear bad badN go; simp only [goodsC, Bool.or_eq_true, Bool.or_eq_false_iff, Bool.and_eq_true, Bool.and_eq_false_iff, decide_eq_true_eq, decide_eq_false_iff_not, beq_iff_eq, beq_eq_false_iff_ne, ne_eq] at *; omega)
      | (refine bad (by omega) ?_; clear bad badN go; simp only [goodsC, Bool.or_eq_true, Bool.or_eq_false_iff, Bool.and_eq_true, Bool.and_eq_false_iff, decide_eq_true_eq, decide_eq_false_iff_not, beq_iff_eq, beq_eq_false_iff_ne, ne_eq] at *; omega)
      | (refine badN (by omega) ?_; clear bad badN go; simp only [goodsC, Bool.or_eq_true, Bool.or_eq_false_iff, Bool.and_eq_true, Bool.and_eq_false_iff, decide_eq_true_eq, decide_eq_false_iff_not, beq_iff_eq, beq_eq_false_iff_ne, ne_eq] at *; omega)
      | (have : i = s.size := by omega
         subst this
         exact hall)
      | (exfalso; omega)
noncomputable def cNm_con : Con := { f := 84, args := [.one (.str 0)], N := 0, M := 0, pre := [(.op2 .lt (.num 100) (.op1 .slen (.var 0)), false)], out := .sbool (.app 133 [.var 0]), news := [] }
noncomputable def cNm_call : Env → CallL := fun E => acallAll E (evH E (LW E) ((fun E => oneH 84 (hooks [(4, lNm_D.hook E.facts nm_vs)])) E) 6)
noncomputable def cNm_t : GTree := (.fork qc34 (.fork (.op2 .lt (.num 0) qc24) (.fork (.op2 .lt qc30 (.num 97)) (.leaf [[]]) (.fork (.op2 .lt (.num 122) qc30) (.leaf [[]]) (.fork (.op2 .eqs (.var 0) (.str [97, 108, 108])) (.leaf [[]]) (.fork (.app 24 [.var 0]) (.leaf [[]]) (.leaf [[]]))))) .bad) (.leaf [[]]))
noncomputable def cNm_l : List (List (X × Bool) × Option Pairs) := [([(.op2 .lt qc30 (.num 97), true), (.op2 .lt (.num 0) qc24, true), (qc34, true), (qc37, false)], some [(.app 133 [.var 0], .boo false)]),
  ([(.op2 .lt (.num 122) qc30, true), (.op2 .lt qc30 (.num 97), false), (.op2 .lt (.num 0) qc24, true), (qc34, true), (qc37, false)], some [(.app 133 [.var 0], .boo false)]),
  ([(.op2 .eqs (.var 0) (.str [97, 108, 108]), true), (.op2 .lt (.num 122) qc30, false), (.op2 .lt qc30 (.num 97), false), (.op2 .lt (.num 0) qc24, true), (qc34, true), (qc37, false)], some [(.app 133 [.var 0], .boo false)]),
  ([(.app 24 [.var 0], true), (.op2 .eqs (.var 0) (.str [97, 108, 108]), false), (.op2 .lt (.num 122) qc30, false), (.op2 .lt qc30 (.num 97), false), (.op2 .lt (.num 0) qc24, true), (qc34, true), (qc37, false)], some [(.app 133 [.var 0], .boo true)]),
  ([(.app 24 [.var 0], false), (.op2 .eqs (.var 0) (.str [97, 108, 108]), false), (.op2 .lt (.num 122) qc30, false), (.op2 .lt qc30 (.num 97), false), (.op2 .lt (.num 0) qc24, true), (qc34, true), (qc37, false)], some [(.app 133 [.var 0], .boo false)]),
  ([(.op2 .lt (.num 0) qc24, false), (qc34, true), (qc37, false)], none),
  ([(qc34, false), (qc37, false)], some [(.app 133 [.var 0], .boo false)])]
theorem cNm_w (r : Rho) : cNm_con.fn.ways cNm_call E0 r cNm_con.pre cNm_t = some cNm_l := by kernel_rfl
theorem lNm_H {r : Rho} {s : ByteArray} (h0 : r.val 0 = some (.string s)) (hmax : (s.size : Int) ≤ 1000) (hsy : r.sym = sy) (F : List (X × Bool)) :
    LoopsOk (E0.with F r) (oneH 84 (hooks [(4, lNm_D.hook (E0.with F r).facts nm_vs)])) := by
  refine loops_all (n := 1) (fun f fn h => h) (by kernel_rfl) fun i hi => ?_
  obtain rfl : i = 0 := by omega
  rw [hooks_hit (show keyOf (loopAt (E0.with F r).P 84 0) = 4 by kernel_rfl)]
  refine hook_ok (E₀ := E0) (run := lNm_run) (ρ := r) (Inv := lNm_Inv s) (μ := lNm_mu s) E0_ok lNm_ok (fun F r' h => ?_) (fun _ => ⟨lNm_step h0 hsy hmax, [.int .i64 0], ?_, rfl, 0, Nat.zero_le _, rfl, rfl⟩)
  · exact bodyRun_ok E0_ok (noL_ok F (h.trans hsy)) fun _ _ => noLoop_ok
  · simp only [nm_vs, X.bool, X.den, denL, dX, denSub, denIte, asB, dY]
theorem cNm_cok : cNm_con.Ok Tryz.prog sy := by
  intro r σ w us hsy hρ hpre hrel hins
  obtain ⟨u0, us, rfl, g0, hins⟩ := ins_cons hins
  obtain ⟨s, rfl, h0⟩ := one_str g0
  rw [hρ] at h0
  have hmax : (s.size : Int) ≤ 100 := by
    have := hpre.1
    simp only [X.bool, X.den, denL, dX, denSub, denIte, asB, dY, h0, Option.some.injEq, Value.bool.injEq, decide_eq_false_iff_not] at this
    omega
  have hbyte : (((s[(0 : Int).toNat]?.map UInt8.toNat).getD 0 : Nat) : Int) = byteAt s 0 := rfl
  refine con_of (E := E0) E0_ok E0_glob (sy := sy) (fun F => LW_ok F hsy) (fun F => lNm_H h0 (by omega) hsy F) (cNm_w r) hρ hpre hrel hins ?_ ?_
  · simp only [cNm_con, cNm_t, qc37, qc36, qc35, qc34, qc33, qc32, qc31, qc30, qc29, qc28, qc27, qc26, qc25, qc24, qc23, qc22, qc21, qc20, qc19, qc18, qc17, qc16, qc15, qc14, qc13, qc12, qc11, qc10, qc9, qc8, qc7, qc6, qc5, qc4, qc3, qc2, qc1, qc0, AsksL, GTree.asks, FTree.asks, FactsIn, List.append_nil, List.nil_append, List.cons_append, Option.some.injEq, exists_eq', implies_true, and_self, X.bool, X.den, denL, dX, denSub, denIte, asB, dY, h0, hsy, sym10, sym24, sym133]
  · simp only [cNm_l, qc37, qc36, qc35, qc34, qc33, qc32, qc31, qc30, qc29, qc28, qc27, qc26, qc25, qc24, qc23, qc22, qc21, qc20, qc19, qc18, qc17, qc16, qc15, qc14, qc13, qc12, qc11, qc10, qc9, qc8, qc7, qc6, qc5, qc4, qc3, qc2, qc1, qc0, EndsOk, WaysOk, forall_cons, forall_nil, TgtOk, gpair, FactsIn, hold_cons, hold_nil, Option.some.injEq, dZ, X.bool, X.den, denL, dX, denSub, denIte, asB, dY, beq_iff_eq, beq_eq_false_iff_ne, ne_eq, h0, hsy, sym10, sym24, sym133, hbyte]
    clear hsy hρ hpre hrel hins g0 h0
    have e : bytesOf [97, 108, 108] = bytesOf [97, 108, 108] := rfl
    simp only [nameB]
    (repeat' apply And.intro) <;> intros <;> first
      | trivial
      | (exfalso; simp_all [withinB]; done)
      | (simp_all [withinB]; done)
      | (symm; simp_all [withinB]; done)
      | (simp_all [withinB]; omega)
noncomputable def LN : Env → CallE := libs [cLib cwithin_con, cLib pPart_con, cLib cNm_con]
theorem LN_ok (F : List (X × Bool)) {r : Rho} (h : r.sym = sy) : CallsOk (E0.with F r) (LN (E0.with F r)) := libs_ok fun c hc => by
  simp only [List.mem_cons, List.not_mem_nil, or_false] at hc
  rcases hc with rfl | rfl | rfl
  · exact lib_ok (E := E0) cwithin_cok F h
  · exact lib_ok (E := E0) pPart_cok F h
  · exact lib_ok (E := E0) cNm_cok F h
noncomputable def cRt_con : Con := { f := 38, args := [.agg [.int .i64 0, .int .i64 1, .int .i64 2, .str 3, .int .i64 4, .int .i64 5, .int .i64 6, .int .i64 7, .int .i64 8]], N := 0, M := 0, pre := [(.op2 .lt (.num 100) (.op1 .slen (.var 3)), false)], out := .sint .i64 (.ite (.app 130 [.var 0, .var 1, .var 2, .var 3, .var 4, .var 5, .var 6, .var 7, .var 8]) (.num 0) (.num 1)), news := [] }
noncomputable def cRt_call : Env → CallL := fun E => acallAll E (evH E (LN E) ((fun _ => noLoops) E) 6)
noncomputable def cRt_t : GTree := (.fork qc11 (.fork qc18 (.fork qc22 (.fork qc20 (.fork qc2 (.fork qc25 (.fork qc8 (.fork qc10 (.fork qc16 (.leaf [[]]) (.leaf [[]])) (.leaf [[]])) (.leaf [[]])) (.leaf [[]])) (.fork qc6 (.fork qc12 (.fork qc7 (.fork qc9 (.fork qc15 (.fork qc8 (.fork qc10 (.fork qc16 (.leaf [[]]) (.leaf [[]])) (.leaf [[]])) (.leaf [[]])) (.leaf [[]])) (.leaf [[]])) (.leaf [[]])) (.leaf [[]])) (.leaf [[]]))) (.fork qc2 (.leaf [[]]) (.fork qc6 (.fork qc12 (.fork qc7 (.fork qc9 (.fork qc15 (.fork qc8 (.fork qc10 (.fork qc16 (.leaf [[]]) (.leaf [[]])) (.leaf [[]])) (.leaf [[]])) (.leaf [[]])) (.leaf [[]])) (.leaf [[]])) (.leaf [[]])) (.leaf [[]])))) (.fork qc2 (.leaf [[]]) (.fork qc6 (.fork qc12 (.fork qc7 (.fork qc9 (.fork qc15 (.fork qc8 (.fork qc10 (.fork qc16 (.leaf [[]]) (.leaf [[]])) (.leaf [[]])) (.leaf [[]])) (.leaf [[]])) (.leaf [[]])) (.leaf [[]])) (.leaf [[]])) (.leaf [[]])))) (.fork qc28 (.fork qc22 (.fork qc20 (.fork qc2 (.fork qc25 (.fork qc8 (.fork qc10 (.fork qc16 (.leaf [[]]) (.leaf [[]])) (.leaf [[]])) (.leaf [[]])) (.leaf [[]])) (.fork qc6 (.leaf [[]]) (.leaf [[]]))) (.fork qc2 (.leaf [[]]) (.fork qc6 (.leaf [[]]) (.leaf [[]])))) (.fork qc2 (.leaf [[]]) (.fork qc6 (.leaf [[]]) (.leaf [[]])))) (.fork qc2 (.leaf [[]]) (.fork qc6 (.leaf [[]]) (.leaf [[]]))))) (.fork qc2 (.leaf [[]]) (.fork qc6 (.fork qc18 (.fork qc12 (.fork qc7 (.fork qc9 (.fork qc15 (.fork qc8 (.fork qc10 (.fork qc16 (.leaf [[]]) (.leaf [[]])) (.leaf [[]])) (.leaf [[]])) (.leaf [[]])) (.leaf [[]])) (.leaf [[]])) (.leaf [[]])) (.leaf [[]])) (.leaf [[]]))))
noncomputable def cRt_l : List (List (X × Bool) × Option Pairs) := [([(qc16, true), (qc10, true), (qc8, true), (qc25, true), (qc2, true), (qc20, true), (qc22, true), (qc18, true), (qc11, true), (qc13, false)], some [(qc1, .num 0)]),
  ([(qc16, false), (qc10, true), (qc8, true), (qc25, true), (qc2, true), (qc20, true), (qc22, true), (qc18, true), (qc11, true), (qc13, false)], some [(qc1, .num 1)]),
  ([(qc10, false), (qc8, true), (qc25, true), (qc2, true), (qc20, true), (qc22, true), (qc18, true), (qc11, true), (qc13, false)], some [(qc1, .num 1)]),
  ([(qc8, false), (qc25, true), (qc2, true), (qc20, true), (qc22, true), (qc18, true), (qc11, true), (qc13, false)], some [(qc1, .num 1)]),
  ([(qc25, false), (qc2, true), (qc20, true), (qc22, true), (qc18, true), (qc11, true), (qc13, false)], some [(qc1, .num 1)]),
  ([(qc16, true), (qc10, true), (qc8, true), (qc15, true), (qc9, true), (qc7, true), (qc12, true), (qc6, true), (qc2, false), (qc20, true), (qc22, true), (qc18, true), (qc11, true), (qc13, false)], some [(qc1, .num 0)]),
  ([(qc16, false), (qc10, true), (qc8, true), (qc15, true), (qc9, true), (qc7, true), (qc12, true), (qc6, true), (qc2, false), (qc20, true), (qc22, true), (qc18, true), (qc11, true), (qc13, false)], some [(qc1, .num 1)]),
  ([(qc10, false), (qc8, true), (qc15, true), (qc9, true), (qc7, true), (qc12, true), (qc6, true), (qc2, false), (qc20, true), (qc22, true), (qc18, true), (qc11, true), (qc13, false)], some [(qc1, .num 1)]),
  ([(qc8, false), (qc15, true), (qc9, true), (qc7, true), (qc12, true), (qc6, true), (qc2, false), (qc20, true), (qc22, true), (qc18, true), (qc11, true), (qc13, false)], some [(qc1, .num 1)]),
  ([(qc15, false), (qc9, true), (qc7, true), (qc12, true), (qc6, true), (qc2, false), (qc20, true), (qc22, true), (qc18, true), (qc11, true), (qc13, false)], some [(qc1, .num 1)]),
  ([(qc9, false), (qc7, true), (qc12, true), (qc6, true), (qc2, false), (qc20, true), (qc22, true), (qc18, true), (qc11, true), (qc13, false)], some [(qc1, .num 1)]),
  ([(qc7, false), (qc12, true), (qc6, true), (qc2, false), (qc20, true), (qc22, true), (qc18, true), (qc11, true), (qc13, false)], some [(qc1, .num 1)]),
  ([(qc12, false), (qc6, true), (qc2, false), (qc20, true), (qc22, true), (qc18, true), (qc11, true), (qc13, false)], some [(qc1, .num 1)]),
  ([(qc6, false), (qc2, false), (qc20, true), (qc22, true), (qc18, true), (qc11, true), (qc13, false)], some [(qc1, .num 1)]),
  ([(qc2, true), (qc20, false), (qc22, true), (qc18, true), (qc11, true), (qc13, false)], some [(qc1, .num 1)]),
  ([(qc16, true), (qc10, true), (qc8, true), (qc15, true), (qc9, true), (qc7, true), (qc12, true), (qc6, true), (qc2, false), (qc20, false), (qc22, true), (qc18, true), (qc11, true), (qc13, false)], some [(qc1, .num 0)]),
  ([(qc16, false), (qc10, true), (qc8, true), (qc15, true), (qc9, true), (qc7, true), (qc12, true), (qc6, true), (qc2, false), (qc20, false), (qc22, true), (qc18, true), (qc11, true), (qc13, false)], some [(qc1, .num 1)]),
  ([(qc10, false), (qc8, true), (qc15, true), (qc9, true), (qc7, true), (qc12, true), (qc6, true), (qc2, false), (qc20, false), (qc22, true), (qc18, true), (qc11, true), (qc13, false)], some [(qc1, .num 1)]),
  ([(qc8, false), (qc15, true), (qc9, true), (qc7, true), (qc12, true), (qc6, true), (qc2, false), (qc20, false), (qc22, true), (qc18, true), (qc11, true), (qc13, false)], some [(qc1, .num 1)]),
  ([(qc15, false), (qc9, true), (qc7, true), (qc12, true), (qc6, true), (qc2, false), (qc20, false), (qc22, true), (qc18, true), (qc11, true), (qc13, false)], some [(qc1, .num 1)]),
  ([(qc9, false), (qc7, true), (qc12, true), (qc6, true), (qc2, false), (qc20, false), (qc22, true), (qc18, true), (qc11, true), (qc13, false)], some [(qc1, .num 1)]),
  ([(qc7, false), (qc12, true), (qc6, true), (qc2, false), (qc20, false), (qc22, true), (qc18, true), (qc11, true), (qc13, false)], some [(qc1, .num 1)]),
  ([(qc12, false), (qc6, true), (qc2, false), (qc20, false), (qc22, true), (qc18, true), (qc11, true), (qc13, false)], some [(qc1, .num 1)]),
  ([(qc6, false), (qc2, false), (qc20, false), (qc22, true), (qc18, true), (qc11, true), (qc13, false)], some [(qc1, .num 1)]),
  ([(qc2, true), (qc22, false), (qc18, true), (qc11, true), (qc13, false)], some [(qc1, .num 1)]),
  ([(qc16, true), (qc10, true), (qc8, true), (qc15, true), (qc9, true), (qc7, true), (qc12, true), (qc6, true), (qc2, false), (qc22, false), (qc18, true), (qc11, true), (qc13, false)], some [(qc1, .num 0)]),
  ([(qc16, false), (qc10, true), (qc8, true), (qc15, true), (qc9, true), (qc7, true), (qc12, true), (qc6, true), (qc2, false), (qc22, false), (qc18, true), (qc11, true), (qc13, false)], some [(qc1, .num 1)]),
  ([(qc10, false), (qc8, true), (qc15, true), (qc9, true), (qc7, true), (qc12, true), (qc6, true), (qc2, false), (qc22, false), (qc18, true), (qc11, true), (qc13, false)], some [(qc1, .num 1)]),
  ([(qc8, false), (qc15, true), (qc9, true), (qc7, true), (qc12, true), (qc6, true), (qc2, false), (qc22, false), (qc18, true), (qc11, true), (qc13, false)], some [(qc1, .num 1)]),
  ([(qc15, false), (qc9, true), (qc7, true), (qc12, true), (qc6, true), (qc2, false), (qc22, false), (qc18, true), (qc11, true), (qc13, false)], some [(qc1, .num 1)]),
  ([(qc9, false), (qc7, true), (qc12, true), (qc6, true), (qc2, false), (qc22, false), (qc18, true), (qc11, true), (qc13, false)], some [(qc1, .num 1)]),
  ([(qc7, false), (qc12, true), (qc6, true), (qc2, false), (qc22, false), (qc18, true), (qc11, true), (qc13, false)], some [(qc1, .num 1)]),
  ([(qc12, false), (qc6, true), (qc2, false), (qc22, false), (qc18, true), (qc11, true), (qc13, false)], some [(qc1, .num 1)]),
  ([(qc6, false), (qc2, false), (qc22, false), (qc18, true), (qc11, true), (qc13, false)], some [(qc1, .num 1)]),
  ([(qc16, true), (qc10, true), (qc8, true), (qc25, true), (qc2, true), (qc20, true), (qc22, true), (qc28, true), (qc18, false), (qc11, true), (qc13, false)], some [(qc1, .num 0)]),
  ([(qc16, false), (qc10, true), (qc8, true), (qc25, true), (qc2, true), (qc20, true), (qc22, true), (qc28, true), (qc18, false), (qc11, true), (qc13, false)], some [(qc1, .num 1)]),
  ([(qc10, false), (qc8, true), (qc25, true), (qc2, true), (qc20, true), (qc22, true), (qc28, true), (qc18, false), (qc11, true), (qc13, false)], some [(qc1, .num 1)]),
  ([(qc8, false), (qc25, true), (qc2, true), (qc20, true), (qc22, true), (qc28, true), (qc18, false), (qc11, true), (qc13, false)], some [(qc1, .num 1)]),
  ([(qc25, false), (qc2, true), (qc20, true), (qc22, true), (qc28, true), (qc18, false), (qc11, true), (qc13, false)], some [(qc1, .num 1)]),
  ([(qc6, true), (qc2, false), (qc20, true), (qc22, true), (qc28, true), (qc18, false), (qc11, true), (qc13, false)], some [(qc1, .num 1)]),
  ([(qc6, false), (qc2, false), (qc20, true), (qc22, true), (qc28, true), (qc18, false), (qc11, true), (qc13, false)], some [(qc1, .num 1)]),
  ([(qc2, true), (qc20, false), (qc22, true), (qc28, true), (qc18, false), (qc11, true), (qc13, false)], some [(qc1, .num 1)]),
  ([(qc6, true), (qc2, false), (qc20, false), (qc22, true), (qc28, true), (qc18, false), (qc11, true), (qc13, false)], some [(qc1, .num 1)]),
  ([(qc6, false), (qc2, false), (qc20, false), (qc22, true), (qc28, true), (qc18, false), (qc11, true), (qc13, false)], some [(qc1, .num 1)]),
  ([(qc2, true), (qc22, false), (qc28, true), (qc18, false), (qc11, true), (qc13, false)], some [(qc1, .num 1)]),
  ([(qc6, true), (qc2, false), (qc22, false), (qc28, true), (qc18, false), (qc11, true), (qc13, false)], some [(qc1, .num 1)]),
  ([(qc6, false), (qc2, false), (qc22, false), (qc28, true), (qc18, false), (qc11, true), (qc13, false)], some [(qc1, .num 1)]),
  ([(qc2, true), (qc28, false), (qc18, false), (qc11, true), (qc13, false)], some [(qc1, .num 1)]),
  ([(qc6, true), (qc2, false), (qc28, false), (qc18, false), (qc11, true), (qc13, false)], some [(qc1, .num 1)]),
  ([(qc6, false), (qc2, false), (qc28, false), (qc18, false), (qc11, true), (qc13, false)], some [(qc1, .num 1)]),
  ([(qc2, true), (qc11, false), (qc13, false)], some [(qc1, .num 1)]),
  ([(qc16, true), (qc10, true), (qc8, true), (qc15, true), (qc9, true), (qc7, true), (qc12, true), (qc18, true), (qc6, true), (qc2, false), (qc11, false), (qc13, false)], some [(qc1, .num 0)]),
  ([(qc16, false), (qc10, true), (qc8, true), (qc15, true), (qc9, true), (qc7, true), (qc12, true), (qc18, true), (qc6, true), (qc2, false), (qc11, false), (qc13, false)], some [(qc1, .num 1)]),
  ([(qc10, false), (qc8, true), (qc15, true), (qc9, true), (qc7, true), (qc12, true), (qc18, true), (qc6, true), (qc2, false), (qc11, false), (qc13, false)], some [(qc1, .num 1)]),
  ([(qc8, false), (qc15, true), (qc9, true), (qc7, true), (qc12, true), (qc18, true), (qc6, true), (qc2, false), (qc11, false), (qc13, false)], some [(qc1, .num 1)]),
  ([(qc15, false), (qc9, true), (qc7, true), (qc12, true), (qc18, true), (qc6, true), (qc2, false), (qc11, false), (qc13, false)], some [(qc1, .num 1)]),
  ([(qc9, false), (qc7, true), (qc12, true), (qc18, true), (qc6, true), (qc2, false), (qc11, false), (qc13, false)], some [(qc1, .num 1)]),
  ([(qc7, false), (qc12, true), (qc18, true), (qc6, true), (qc2, false), (qc11, false), (qc13, false)], some [(qc1, .num 1)]),
  ([(qc12, false), (qc18, true), (qc6, true), (qc2, false), (qc11, false), (qc13, false)], some [(qc1, .num 1)]),
  ([(qc18, false), (qc6, true), (qc2, false), (qc11, false), (qc13, false)], some [(qc1, .num 1)]),
  ([(qc6, false), (qc2, false), (qc11, false), (qc13, false)], some [(qc1, .num 1)])]
theorem cRt_w (r : Rho) : cRt_con.fn.ways cRt_call E0 r cRt_con.pre cRt_t = some cRt_l := by kernel_rfl
set_option maxHeartbeats 4000000 in
theorem cRt_cok : cRt_con.Ok Tryz.prog sy := by
  intro r σ w us hsy hρ hpre hrel hins
  obtain ⟨u0, us, rfl, g0, hins⟩ := ins_cons hins
  obtain ⟨p, kp, rfl, hp⟩ := rat_agg g0
  rw [hρ] at hp
  have a0 := hp.h0
  have a1 := hp.h1
  have a2 := hp.h2
  have a3 := hp.h3
  have a4 := hp.h4
  have a5 := hp.h5
  have a6 := hp.h6
  have a7 := hp.h7
  have a8 := hp.h8
  simp only [Nat.zero_add, Nat.reduceAdd] at a0 a1 a2 a3 a4 a5 a6 a7 a8
  refine con_of (E := E0) E0_ok E0_glob (sy := sy) (fun F => LN_ok F hsy) (fun F => noH_ok) (cRt_w r) hρ hpre hrel hins ?_ ?_
  · simp only [cRt_con, cRt_t, qc37, qc36, qc35, qc34, qc33, qc32, qc31, qc30, qc29, qc28, qc27, qc26, qc25, qc24, qc23, qc22, qc21, qc20, qc19, qc18, qc17, qc16, qc15, qc14, qc13, qc12, qc11, qc10, qc9, qc8, qc7, qc6, qc5, qc4, qc3, qc2, qc1, qc0, AsksL, GTree.asks, FTree.asks, FactsIn, List.append_nil, List.nil_append, List.cons_append, Option.some.injEq, exists_eq', implies_true, and_self, X.bool, X.den, denL, dX, denSub, denIte, asB, dY, a0, a1, a2, a3, a4, a5, a6, a7, a8, hsy, sym10, sym130, sym132, sym133]
  · simp only [cRt_l, qc37, qc36, qc35, qc34, qc33, qc32, qc31, qc30, qc29, qc28, qc27, qc26, qc25, qc24, qc23, qc22, qc21, qc20, qc19, qc18, qc17, qc16, qc15, qc14, qc13, qc12, qc11, qc10, qc9, qc8, qc7, qc6, qc5, qc4, qc3, qc2, qc1, qc0, EndsOk, WaysOk, forall_cons, forall_nil, TgtOk, gpair, FactsIn, hold_cons, hold_nil, Option.some.injEq, dZ, X.bool, X.den, denL, dX, denSub, denIte, asB, dY, beq_iff_eq, beq_eq_false_iff_ne, ne_eq, a0, a1, a2, a3, a4, a5, a6, a7, a8, hsy, sym10, sym130, sym132, sym133]
    have bz : ∀ a : Int, (a == 0) = decide (a = 0) := fun a => by rw [Bool.eq_iff_iff]; simp
    simp only [rateB, bz]
    clear bz
    clear hsy hρ hpre hrel hins g0 hp a0 a1 a2 a3 a4 a5 a6 a7 a8
    (repeat' apply And.intro) <;> intros <;> first
      | trivial
      | (exfalso; simp_all; done)
      | (simp_all; done)
      | (symm; simp_all; done)
      | (simp_all; omega)
noncomputable def cSl_con : Con := { f := 39, args := [.agg [.int .i64 0, .int .i64 1, .int .i64 2, .int .i64 3, .int .i64 4, .int .i64 5, .int .i64 6, .int .i64 7, .int .i64 8]], N := 0, M := 0, pre := [], out := .sint .i64 (.ite (.app 131 [.var 0, .var 1, .var 2, .var 3, .var 4, .var 5, .var 6, .var 7, .var 8]) (.num 0) (.num 1)), news := [] }
noncomputable def cSl_call : Env → CallL := fun E => acallAll E (evH E (LN E) ((fun _ => noLoops) E) 6)
noncomputable def cSl_t : GTree := (.fork qc5 (.fork qc3 (.fork qc4 (.fork qc7 (.fork qc9 (.fork qc15 (.fork qc2 (.fork qc8 (.fork qc10 (.fork qc16 (.leaf [[]]) (.leaf [[]])) (.leaf [[]])) (.leaf [[]])) (.fork qc6 (.fork qc17 (.fork qc12 (.fork qc8 (.fork qc10 (.fork qc16 (.leaf [[]]) (.leaf [[]])) (.leaf [[]])) (.leaf [[]])) (.leaf [[]])) (.leaf [[]])) (.leaf [[]]))) (.fork qc14 (.fork qc2 (.fork qc23 (.fork qc8 (.fork qc10 (.fork qc16 (.leaf [[]]) (.leaf [[]])) (.leaf [[]])) (.leaf [[]])) (.leaf [[]])) (.fork qc6 (.fork qc17 (.fork qc12 (.leaf [[]]) (.leaf [[]])) (.leaf [[]])) (.leaf [[]]))) (.fork qc2 (.leaf [[]]) (.fork qc6 (.fork qc17 (.fork qc12 (.leaf [[]]) (.leaf [[]])) (.leaf [[]])) (.leaf [[]]))))) (.fork qc14 (.fork qc2 (.fork qc23 (.fork qc8 (.fork qc10 (.fork qc16 (.leaf [[]]) (.leaf [[]])) (.leaf [[]])) (.leaf [[]])) (.leaf [[]])) (.fork qc6 (.fork qc17 (.fork qc12 (.leaf [[]]) (.leaf [[]])) (.leaf [[]])) (.leaf [[]]))) (.fork qc2 (.leaf [[]]) (.fork qc6 (.fork qc17 (.fork qc12 (.leaf [[]]) (.leaf [[]])) (.leaf [[]])) (.leaf [[]]))))) (.fork qc19 (.fork qc9 (.fork qc15 (.fork qc2 (.fork qc8 (.fork qc10 (.fork qc16 (.leaf [[]]) (.leaf [[]])) (.leaf [[]])) (.leaf [[]])) (.fork qc6 (.fork qc17 (.fork qc12 (.leaf [[]]) (.leaf [[]])) (.leaf [[]])) (.leaf [[]]))) (.fork qc14 (.fork qc2 (.fork qc23 (.fork qc8 (.fork qc10 (.fork qc16 (.leaf [[]]) (.leaf [[]])) (.leaf [[]])) (.leaf [[]])) (.leaf [[]])) (.fork qc6 (.fork qc17 (.fork qc12 (.leaf [[]]) (.leaf [[]])) (.leaf [[]])) (.leaf [[]]))) (.fork qc2 (.leaf [[]]) (.fork qc6 (.fork qc17 (.fork qc12 (.leaf [[]]) (.leaf [[]])) (.leaf [[]])) (.leaf [[]]))))) (.fork qc14 (.fork qc2 (.fork qc23 (.fork qc8 (.fork qc10 (.fork qc16 (.leaf [[]]) (.leaf [[]])) (.leaf [[]])) (.leaf [[]])) (.leaf [[]])) (.fork qc6 (.fork qc17 (.fork qc12 (.leaf [[]]) (.leaf [[]])) (.leaf [[]])) (.leaf [[]]))) (.fork qc2 (.leaf [[]]) (.fork qc6 (.fork qc17 (.fork qc12 (.leaf [[]]) (.leaf [[]])) (.leaf [[]])) (.leaf [[]]))))) (.fork qc2 (.leaf [[]]) (.fork qc6 (.fork qc17 (.fork qc12 (.leaf [[]]) (.leaf [[]])) (.leaf [[]])) (.leaf [[]]))))) (.fork qc2 (.leaf [[]]) (.fork qc6 (.fork qc17 (.fork qc12 (.fork qc7 (.fork qc9 (.fork qc15 (.fork qc8 (.fork qc10 (.fork qc16 (.leaf [[]]) (.leaf [[]])) (.leaf [[]])) (.leaf [[]])) (.leaf [[]])) (.leaf [[]])) (.leaf [[]])) (.leaf [[]])) (.leaf [[]])) (.leaf [[]])))) (.fork qc2 (.leaf [[]]) (.fork qc6 (.fork qc17 (.fork qc12 (.fork qc7 (.fork qc9 (.fork qc15 (.fork qc8 (.fork qc10 (.fork qc16 (.leaf [[]]) (.leaf [[]])) (.leaf [[]])) (.leaf [[]])) (.leaf [[]])) (.leaf [[]])) (.leaf [[]])) (.leaf [[]])) (.leaf [[]])) (.leaf [[]])))) (.fork qc2 (.leaf [[]]) (.fork qc6 (.fork qc17 (.fork qc12 (.fork qc7 (.fork qc9 (.fork qc15 (.fork qc8 (.fork qc10 (.fork qc16 (.leaf [[]]) (.leaf [[]])) (.leaf [[]])) (.leaf [[]])) (.leaf [[]])) (.leaf [[]])) (.leaf [[]])) (.leaf [[]])) (.leaf [[]])) (.leaf [[]]))))
noncomputable def cSl_l : List (List (X × Bool) × Option Pairs) := [([(qc16, true), (qc10, true), (qc8, true), (qc2, true), (qc15, true), (qc9, true), (qc7, true), (qc4, true), (qc3, true), (qc5, true)], some [(qc0, .num 0)]),
  ([(qc16, false), (qc10, true), (qc8, true), (qc2, true), (qc15, true), (qc9, true), (qc7, true), (qc4, true), (qc3, true), (qc5, true)], some [(qc0, .num 1)]),
  ([(qc10, false), (qc8, true), (qc2, true), (qc15, true), (qc9, true), (qc7, true), (qc4, true), (qc3, true), (qc5, true)], some [(qc0, .num 1)]),
  ([(qc8, false), (qc2, true), (qc15, true), (qc9, true), (qc7, true), (qc4, true), (qc3, true), (qc5, true)], some [(qc0, .num 1)]),
  ([(qc16, true), (qc10, true), (qc8, true), (qc12, true), (qc17, true), (qc6, true), (qc2, false), (qc15, true), (qc9, true), (qc7, true), (qc4, true), (qc3, true), (qc5, true)], some [(qc0, .num 0)]),
  ([(qc16, false), (qc10, true), (qc8, true), (qc12, true), (qc17, true), (qc6, true), (qc2, false), (qc15, true), (qc9, true), (qc7, true), (qc4, true), (qc3, true), (qc5, true)], some [(qc0, .num 1)]),
  ([(qc10, false), (qc8, true), (qc12, true), (qc17, true), (qc6, true), (qc2, false), (qc15, true), (qc9, true), (qc7, true), (qc4, true), (qc3, true), (qc5, true)], some [(qc0, .num 1)]),
  ([(qc8, false), (qc12, true), (qc17, true), (qc6, true), (qc2, false), (qc15, true), (qc9, true), (qc7, true), (qc4, true), (qc3, true), (qc5, true)], some [(qc0, .num 1)]),
  ([(qc12, false), (qc17, true), (qc6, true), (qc2, false), (qc15, true), (qc9, true), (qc7, true), (qc4, true), (qc3, true), (qc5, true)], some [(qc0, .num 1)]),
  ([(qc17, false), (qc6, true), (qc2, false), (qc15, true), (qc9, true), (qc7, true), (qc4, true), (qc3, true), (qc5, true)], some [(qc0, .num 1)]),
  ([(qc6, false), (qc2, false), (qc15, true), (qc9, true), (qc7, true), (qc4, true), (qc3, true), (qc5, true)], some [(qc0, .num 1)]),
  ([(qc16, true), (qc10, true), (qc8, true), (qc23, true), (qc2, true), (qc14, true), (qc15, false), (qc9, true), (qc7, true), (qc4, true), (qc3, true), (qc5, true)], some [(qc0, .num 0)]),
  ([(qc16, false), (qc10, true), (qc8, true), (qc23, true), (qc2, true), (qc14, true), (qc15, false), (qc9, true), (qc7, true), (qc4, true), (qc3, true), (qc5, true)], some [(qc0, .num 1)]),
  ([(qc10, false), (qc8, true), (qc23, true), (qc2, true), (qc14, true), (qc15, false), (qc9, true), (qc7, true), (qc4, true), (qc3, true), (qc5, true)], some [(qc0, .num 1)]),
  ([(qc8, false), (qc23, true), (qc2, true), (qc14, true), (qc15, false), (qc9, true), (qc7, true), (qc4, true), (qc3, true), (qc5, true)], some [(qc0, .num 1)]),
  ([(qc23, false), (qc2, true), (qc14, true), (qc15, false), (qc9, true), (qc7, true), (qc4, true), (qc3, true), (qc5, true)], some [(qc0, .num 1)]),
  ([(qc12, true), (qc17, true), (qc6, true), (qc2, false), (qc14, true), (qc15, false), (qc9, true), (qc7, true), (qc4, true), (qc3, true), (qc5, true)], some [(qc0, .num 1)]),
  ([(qc12, false), (qc17, true), (qc6, true), (qc2, false), (qc14, true), (qc15, false), (qc9, true), (qc7, true), (qc4, true), (qc3, true), (qc5, true)], some [(qc0, .num 1)]),
  ([(qc17, false), (qc6, true), (qc2, false), (qc14, true), (qc15, false), (qc9, true), (qc7, true), (qc4, true), (qc3, true), (qc5, true)], some [(qc0, .num 1)]),
  ([(qc6, false), (qc2, false), (qc14, true), (qc15, false), (qc9, true), (qc7, true), (qc4, true), (qc3, true), (qc5, true)], some [(qc0, .num 1)]),
  ([(qc2, true), (qc14, false), (qc15, false), (qc9, true), (qc7, true), (qc4, true), (qc3, true), (qc5, true)], some [(qc0, .num 1)]),
  ([(qc12, true), (qc17, true), (qc6, true), (qc2, false), (qc14, false), (qc15, false), (qc9, true), (qc7, true), (qc4, true), (qc3, true), (qc5, true)], some [(qc0, .num 1)]),
  ([(qc12, false), (qc17, true), (qc6, true), (qc2, false), (qc14, false), (qc15, false), (qc9, true), (qc7, true), (qc4, true), (qc3, true), (qc5, true)], some [(qc0, .num 1)]),
  ([(qc17, false), (qc6, true), (qc2, false), (qc14, false), (qc15, false), (qc9, true), (qc7, true), (qc4, true), (qc3, true), (qc5, true)], some [(qc0, .num 1)]),
  ([(qc6, false), (qc2, false), (qc14, false), (qc15, false), (qc9, true), (qc7, true), (qc4, true), (qc3, true), (qc5, true)], some [(qc0, .num 1)]),
  ([(qc16, true), (qc10, true), (qc8, true), (qc23, true), (qc2, true), (qc14, true), (qc9, false), (qc7, true), (qc4, true), (qc3, true), (qc5, true)], some [(qc0, .num 0)]),
  ([(qc16, false), (qc10, true), (qc8, true), (qc23, true), (qc2, true), (qc14, true), (qc9, false), (qc7, true), (qc4, true), (qc3, true), (qc5, true)], some [(qc0, .num 1)]),
  ([(qc10, false), (qc8, true), (qc23, true), (qc2, true), (qc14, true), (qc9, false), (qc7, true), (qc4, true), (qc3, true), (qc5, true)], some [(qc0, .num 1)]),
  ([(qc8, false), (qc23, true), (qc2, true), (qc14, true), (qc9, false), (qc7, true), (qc4, true), (qc3, true), (qc5, true)], some [(qc0, .num 1)]),
  ([(qc23, false), (qc2, true), (qc14, true), (qc9, false), (qc7, true), (qc4, true), (qc3, true), (qc5, true)], some [(qc0, .num 1)]),
  ([(qc12, true), (qc17, true), (qc6, true), (qc2, false), (qc14, true), (qc9, false), (qc7, true), (qc4, true), (qc3, true), (qc5, true)], some [(qc0, .num 1)]),
  ([(qc12, false), (qc17, true), (qc6, true), (qc2, false), (qc14, true), (qc9, false), (qc7, true), (qc4, true), (qc3, true), (qc5, true)], some [(qc0, .num 1)]),
  ([(qc17, false), (qc6, true), (qc2, false), (qc14, true), (qc9, false), (qc7, true), (qc4, true), (qc3, true), (qc5, true)], some [(qc0, .num 1)]),
  ([(qc6, false), (qc2, false), (qc14, true), (qc9, false), (qc7, true), (qc4, true), (qc3, true), (qc5, true)], some [(qc0, .num 1)]),
  ([(qc2, true), (qc14, false), (qc9, false), (qc7, true), (qc4, true), (qc3, true), (qc5, true)], some [(qc0, .num 1)]),
  ([(qc12, true), (qc17, true), (qc6, true), (qc2, false), (qc14, false), (qc9, false), (qc7, true), (qc4, true), (qc3, true), (qc5, true)], some [(qc0, .num 1)]),
  ([(qc12, false), (qc17, true), (qc6, true), (qc2, false), (qc14, false), (qc9, false), (qc7, true), (qc4, true), (qc3, true), (qc5, true)], some [(qc0, .num 1)]),
  ([(qc17, false), (qc6, true), (qc2, false), (qc14, false), (qc9, false), (qc7, true), (qc4, true), (qc3, true), (qc5, true)], some [(qc0, .num 1)]),
  ([(qc6, false), (qc2, false), (qc14, false), (qc9, false), (qc7, true), (qc4, true), (qc3, true), (qc5, true)], some [(qc0, .num 1)]),
  ([(qc16, true), (qc10, true), (qc8, true), (qc2, true), (qc15, true), (qc9, true), (qc19, true), (qc7, false), (qc4, true), (qc3, true), (qc5, true)], some [(qc0, .num 0)]),
  ([(qc16, false), (qc10, true), (qc8, true), (qc2, true), (qc15, true), (qc9, true), (qc19, true), (qc7, false), (qc4, true), (qc3, true), (qc5, true)], some [(qc0, .num 1)]),
  ([(qc10, false), (qc8, true), (qc2, true), (qc15, true), (qc9, true), (qc19, true), (qc7, false), (qc4, true), (qc3, true), (qc5, true)], some [(qc0, .num 1)]),
  ([(qc8, false), (qc2, true), (qc15, true), (qc9, true), (qc19, true), (qc7, false), (qc4, true), (qc3, true), (qc5, true)], some [(qc0, .num 1)]),
  ([(qc12, true), (qc17, true), (qc6, true), (qc2, false), (qc15, true), (qc9, true), (qc19, true), (qc7, false), (qc4, true), (qc3, true), (qc5, true)], some [(qc0, .num 1)]),
  ([(qc12, false), (qc17, true), (qc6, true), (qc2, false), (qc15, true), (qc9, true), (qc19, true), (qc7, false), (qc4, true), (qc3, true), (qc5, true)], some [(qc0, .num 1)]),
  ([(qc17, false), (qc6, true), (qc2, false), (qc15, true), (qc9, true), (qc19, true), (qc7, false), (qc4, true), (qc3, true), (qc5, true)], some [(qc0, .num 1)]),
  ([(qc6, false), (qc2, false), (qc15, true), (qc9, true), (qc19, true), (qc7, false), (qc4, true), (qc3, true), (qc5, true)], some [(qc0, .num 1)]),
  ([(qc16, true), (qc10, true), (qc8, true), (qc23, true), (qc2, true), (qc14, true), (qc15, false), (qc9, true), (qc19, true), (qc7, false), (qc4, true), (qc3, true), (qc5, true)], some [(qc0, .num 0)]),
  ([(qc16, false), (qc10, true), (qc8, true), (qc23, true), (qc2, true), (qc14, true), (qc15, false), (qc9, true), (qc19, true), (qc7, false), (qc4, true), (qc3, true), (qc5, true)], some [(qc0, .num 1)]),
  ([(qc10, false), (qc8, true), (qc23, true), (qc2, true), (qc14, true), (qc15, false), (qc9, true), (qc19, true), (qc7, false), (qc4, true), (qc3, true), (qc5, true)], some [(qc0, .num 1)]),
  ([(qc8, false), (qc23, true), (qc2, true), (qc14, true), (qc15, false), (qc9, true), (qc19, true), (qc7, false), (qc4, true), (qc3, true), (qc5, true)], some [(qc0, .num 1)]),
  ([(qc23, false), (qc2, true), (qc14, true), (qc15, false), (qc9, true), (qc19, true), (qc7, false), (qc4, true), (qc3, true), (qc5, true)], some [(qc0, .num 1)]),
  ([(qc12, true), (qc17, true), (qc6, true), (qc2, false), (qc14, true), (qc15, false), (qc9, true), (qc19, true), (qc7, false), (qc4, true), (qc3, true), (qc5, true)], some [(qc0, .num 1)]),
  ([(qc12, false), (qc17, true), (qc6, true), (qc2, false), (qc14, true), (qc15, false), (qc9, true), (qc19, true), (qc7, false), (qc4, true), (qc3, true), (qc5, true)], some [(qc0, .num 1)]),
  ([(qc17, false), (qc6, true), (qc2, false), (qc14, true), (qc15, false), (qc9, true), (qc19, true), (qc7, false), (qc4, true), (qc3, true), (qc5, true)], some [(qc0, .num 1)]),
  ([(qc6, false), (qc2, false), (qc14, true), (qc15, false), (qc9, true), (qc19, true), (qc7, false), (qc4, true), (qc3, true), (qc5, true)], some [(qc0, .num 1)]),
  ([(qc2, true), (qc14, false), (qc15, false), (qc9, true), (qc19, true), (qc7, false), (qc4, true), (qc3, true), (qc5, true)], some [(qc0, .num 1)]),
  ([(qc12, true), (qc17, true), (qc6, true), (qc2, false), (qc14, false), (qc15, false), (qc9, true), (qc19, true), (qc7, false), (qc4, true), (qc3, true), (qc5, true)], some [(qc0, .num 1)]),
  ([(qc12, false), (qc17, true), (qc6, true), (qc2, false), (qc14, false), (qc15, false), (qc9, true), (qc19, true), (qc7, false), (qc4, true), (qc3, true), (qc5, true)], some [(qc0, .num 1)]),
  ([(qc17, false), (qc6, true), (qc2, false), (qc14, false), (qc15, false), (qc9, true), (qc19, true), (qc7, false), (qc4, true), (qc3, true), (qc5, true)], some [(qc0, .num 1)]),
  ([(qc6, false), (qc2, false), (qc14, false), (qc15, false), (qc9, true), (qc19, true), (qc7, false), (qc4, true), (qc3, true), (qc5, true)], some [(qc0, .num 1)]),
  ([(qc16, true), (qc10, true), (qc8, true), (qc23, true), (qc2, true), (qc14, true), (qc9, false), (qc19, true), (qc7, false), (qc4, true), (qc3, true), (qc5, true)], some [(qc0, .num 0)]),
  ([(qc16, false), (qc10, true), (qc8, true), (qc23, true), (qc2, true), (qc14, true), (qc9, false), (qc19, true), (qc7, false), (qc4, true), (qc3, true), (qc5, true)], some [(qc0, .num 1)]),
  ([(qc10, false), (qc8, true), (qc23, true), (qc2, true), (qc14, true), (qc9, false), (qc19, true), (qc7, false), (qc4, true), (qc3, true), (qc5, true)], some [(qc0, .num 1)]),
  ([(qc8, false), (qc23, true), (qc2, true), (qc14, true), (qc9, false), (qc19, true), (qc7, false), (qc4, true), (qc3, true), (qc5, true)], some [(qc0, .num 1)]),
  ([(qc23, false), (qc2, true), (qc14, true), (qc9, false), (qc19, true), (qc7, false), (qc4, true), (qc3, true), (qc5, true)], some [(qc0, .num 1)]),
  ([(qc12, true), (qc17, true), (qc6, true), (qc2, false), (qc14, true), (qc9, false), (qc19, true), (qc7, false), (qc4, true), (qc3, true), (qc5, true)], some [(qc0, .num 1)]),
  ([(qc12, false), (qc17, true), (qc6, true), (qc2, false), (qc14, true), (qc9, false), (qc19, true), (qc7, false), (qc4, true), (qc3, true), (qc5, true)], some [(qc0, .num 1)]),
  ([(qc17, false), (qc6, true), (qc2, false), (qc14, true), (qc9, false), (qc19, true), (qc7, false), (qc4, true), (qc3, true), (qc5, true)], some [(qc0, .num 1)]),
  ([(qc6, false), (qc2, false), (qc14, true), (qc9, false), (qc19, true), (qc7, false), (qc4, true), (qc3, true), (qc5, true)], some [(qc0, .num 1)]),
  ([(qc2, true), (qc14, false), (qc9, false), (qc19, true), (qc7, false), (qc4, true), (qc3, true), (qc5, true)], some [(qc0, .num 1)]),
  ([(qc12, true), (qc17, true), (qc6, true), (qc2, false), (qc14, false), (qc9, false), (qc19, true), (qc7, false), (qc4, true), (qc3, true), (qc5, true)], some [(qc0, .num 1)]),
  ([(qc12, false), (qc17, true), (qc6, true), (qc2, false), (qc14, false), (qc9, false), (qc19, true), (qc7, false), (qc4, true), (qc3, true), (qc5, true)], some [(qc0, .num 1)]),
  ([(qc17, false), (qc6, true), (qc2, false), (qc14, false), (qc9, false), (qc19, true), (qc7, false), (qc4, true), (qc3, true), (qc5, true)], some [(qc0, .num 1)]),
  ([(qc6, false), (qc2, false), (qc14, false), (qc9, false), (qc19, true), (qc7, false), (qc4, true), (qc3, true), (qc5, true)], some [(qc0, .num 1)]),
  ([(qc2, true), (qc19, false), (qc7, false), (qc4, true), (qc3, true), (qc5, true)], some [(qc0, .num 1)]),
  ([(qc12, true), (qc17, true), (qc6, true), (qc2, false), (qc19, false), (qc7, false), (qc4, true), (qc3, true), (qc5, true)], some [(qc0, .num 1)]),
  ([(qc12, false), (qc17, true), (qc6, true), (qc2, false), (qc19, false), (qc7, false), (qc4, true), (qc3, true), (qc5, true)], some [(qc0, .num 1)]),
  ([(qc17, false), (qc6, true), (qc2, false), (qc19, false), (qc7, false), (qc4, true), (qc3, true), (qc5, true)], some [(qc0, .num 1)]),
  ([(qc6, false), (qc2, false), (qc19, false), (qc7, false), (qc4, true), (qc3, true), (qc5, true)], some [(qc0, .num 1)]),
  ([(qc2, true), (qc4, false), (qc3, true), (qc5, true)], some [(qc0, .num 1)]),
  ([(qc16, true), (qc10, true), (qc8, true), (qc15, true), (qc9, true), (qc7, true), (qc12, true), (qc17, true), (qc6, true), (qc2, false), (qc4, false), (qc3, true), (qc5, true)], some [(qc0, .num 0)]),
  ([(qc16, false), (qc10, true), (qc8, true), (qc15, true), (qc9, true), (qc7, true), (qc12, true), (qc17, true), (qc6, true), (qc2, false), (qc4, false), (qc3, true), (qc5, true)], some [(qc0, .num 1)]),
  ([(qc10, false), (qc8, true), (qc15, true), (qc9, true), (qc7, true), (qc12, true), (qc17, true), (qc6, true), (qc2, false), (qc4, false), (qc3, true), (qc5, true)], some [(qc0, .num 1)]),
  ([(qc8, false), (qc15, true), (qc9, true), (qc7, true), (qc12, true), (qc17, true), (qc6, true), (qc2, false), (qc4, false), (qc3, true), (qc5, true)], some [(qc0, .num 1)]),
  ([(qc15, false), (qc9, true), (qc7, true), (qc12, true), (qc17, true), (qc6, true), (qc2, false), (qc4, false), (qc3, true), (qc5, true)], some [(qc0, .num 1)]),
  ([(qc9, false), (qc7, true), (qc12, true), (qc17, true), (qc6, true), (qc2, false), (qc4, false), (qc3, true), (qc5, true)], some [(qc0, .num 1)]),
  ([(qc7, false), (qc12, true), (qc17, true), (qc6, true), (qc2, false), (qc4, false), (qc3, true), (qc5, true)], some [(qc0, .num 1)]),
  ([(qc12, false), (qc17, true), (qc6, true), (qc2, false), (qc4, false), (qc3, true), (qc5, true)], some [(qc0, .num 1)]),
  ([(qc17, false), (qc6, true), (qc2, false), (qc4, false), (qc3, true), (qc5, true)], some [(qc0, .num 1)]),
  ([(qc6, false), (qc2, false), (qc4, false), (qc3, true), (qc5, true)], some [(qc0, .num 1)]),
  ([(qc2, true), (qc3, false), (qc5, true)], some [(qc0, .num 1)]),
  ([(qc16, true), (qc10, true), (qc8, true), (qc15, true), (qc9, true), (qc7, true), (qc12, true), (qc17, true), (qc6, true), (qc2, false), (qc3, false), (qc5, true)], some [(qc0, .num 0)]),
  ([(qc16, false), (qc10, true), (qc8, true), (qc15, true), (qc9, true), (qc7, true), (qc12, true), (qc17, true), (qc6, true), (qc2, false), (qc3, false), (qc5, true)], some [(qc0, .num 1)]),
  ([(qc10, false), (qc8, true), (qc15, true), (qc9, true), (qc7, true), (qc12, true), (qc17, true), (qc6, true), (qc2, false), (qc3, false), (qc5, true)], some [(qc0, .num 1)]),
  ([(qc8, false), (qc15, true), (qc9, true), (qc7, true), (qc12, true), (qc17, true), (qc6, true), (qc2, false), (qc3, false), (qc5, true)], some [(qc0, .num 1)]),
  ([(qc15, false), (qc9, true), (qc7, true), (qc12, true), (qc17, true), (qc6, true), (qc2, false), (qc3, false), (qc5, true)], some [(qc0, .num 1)]),
  ([(qc9, false), (qc7, true), (qc12, true), (qc17, true), (qc6, true), (qc2, false), (qc3, false), (qc5, true)], some [(qc0, .num 1)]),
  ([(qc7, false), (qc12, true), (qc17, true), (qc6, true), (qc2, false), (qc3, false), (qc5, true)], some [(qc0, .num 1)]),
  ([(qc12, false), (qc17, true), (qc6, true), (qc2, false), (qc3, false), (qc5, true)], some [(qc0, .num 1)]),
  ([(qc17, false), (qc6, true), (qc2, false), (qc3, false), (qc5, true)], some [(qc0, .num 1)]),
  ([(qc6, false), (qc2, false), (qc3, false), (qc5, true)], some [(qc0, .num 1)]),
  ([(qc2, true), (qc5, false)], some [(qc0, .num 1)]),
  ([(qc16, true), (qc10, true), (qc8, true), (qc15, true), (qc9, true), (qc7, true), (qc12, true), (qc17, true), (qc6, true), (qc2, false), (qc5, false)], some [(qc0, .num 0)]),
  ([(qc16, false), (qc10, true), (qc8, true), (qc15, true), (qc9, true), (qc7, true), (qc12, true), (qc17, true), (qc6, true), (qc2, false), (qc5, false)], some [(qc0, .num 1)]),
  ([(qc10, false), (qc8, true), (qc15, true), (qc9, true), (qc7, true), (qc12, true), (qc17, true), (qc6, true), (qc2, false), (qc5, false)], some [(qc0, .num 1)]),
  ([(qc8, false), (qc15, true), (qc9, true), (qc7, true), (qc12, true), (qc17, true), (qc6, true), (qc2, false), (qc5, false)], some [(qc0, .num 1)]),
  ([(qc15, false), (qc9, true), (qc7, true), (qc12, true), (qc17, true), (qc6, true), (qc2, false), (qc5, false)], some [(qc0, .num 1)]),
  ([(qc9, false), (qc7, true), (qc12, true), (qc17, true), (qc6, true), (qc2, false), (qc5, false)], some [(qc0, .num 1)]),
  ([(qc7, false), (qc12, true), (qc17, true), (qc6, true), (qc2, false), (qc5, false)], some [(qc0, .num 1)]),
  ([(qc12, false), (qc17, true), (qc6, true), (qc2, false), (qc5, false)], some [(qc0, .num 1)]),
  ([(qc17, false), (qc6, true), (qc2, false), (qc5, false)], some [(qc0, .num 1)]),
  ([(qc6, false), (qc2, false), (qc5, false)], some [(qc0, .num 1)])]
theorem cSl_w (r : Rho) : cSl_con.fn.ways cSl_call E0 r cSl_con.pre cSl_t = some cSl_l := by kernel_rfl
set_option maxHeartbeats 4000000 in
theorem cSl_cok : cSl_con.Ok Tryz.prog sy := by
  intro r σ w us hsy hρ hpre hrel hins
  obtain ⟨u0, us, rfl, g0, hins⟩ := ins_cons hins
  obtain ⟨p, kp, rfl, hp⟩ := sal_agg g0
  rw [hρ] at hp
  have a0 := hp.h0
  have a1 := hp.h1
  have a2 := hp.h2
  have a3 := hp.h3
  have a4 := hp.h4
  have a5 := hp.h5
  have a6 := hp.h6
  have a7 := hp.h7
  have a8 := hp.h8
  simp only [Nat.zero_add, Nat.reduceAdd] at a0 a1 a2 a3 a4 a5 a6 a7 a8
  refine con_of (E := E0) E0_ok E0_glob (sy := sy) (fun F => LN_ok F hsy) (fun F => noH_ok) (cSl_w r) hρ hpre hrel hins ?_ ?_
  · simp only [cSl_con, cSl_t, qc37, qc36, qc35, qc34, qc33, qc32, qc31, qc30, qc29, qc28, qc27, qc26, qc25, qc24, qc23, qc22, qc21, qc20, qc19, qc18, qc17, qc16, qc15, qc14, qc13, qc12, qc11, qc10, qc9, qc8, qc7, qc6, qc5, qc4, qc3, qc2, qc1, qc0, AsksL, GTree.asks, FTree.asks, FactsIn, List.append_nil, List.nil_append, List.cons_append, Option.some.injEq, exists_eq', implies_true, and_self, X.bool, X.den, denL, dX, denSub, denIte, asB, dY, a0, a1, a2, a3, a4, a5, a6, a7, a8, hsy, sym10, sym131]
  · simp only [cSl_l, qc37, qc36, qc35, qc34, qc33, qc32, qc31, qc30, qc29, qc28, qc27, qc26, qc25, qc24, qc23, qc22, qc21, qc20, qc19, qc18, qc17, qc16, qc15, qc14, qc13, qc12, qc11, qc10, qc9, qc8, qc7, qc6, qc5, qc4, qc3, qc2, qc1, qc0, EndsOk, WaysOk, forall_cons, forall_nil, TgtOk, gpair, FactsIn, hold_cons, hold_nil, Option.some.injEq, dZ, X.bool, X.den, denL, dX, denSub, denIte, asB, dY, beq_iff_eq, beq_eq_false_iff_ne, ne_eq, a0, a1, a2, a3, a4, a5, a6, a7, a8, hsy, sym10, sym131]
    have bz : ∀ a : Int, (a == 0) = decide (a = 0) := fun a => by rw [Bool.eq_iff_iff]; simp
    simp only [saleB, bz]
    clear bz
    clear hsy hρ hpre hrel hins g0 hp a0 a1 a2 a3 a4 a5 a6 a7 a8
    (repeat' apply And.intro) <;> intros <;> first
      | trivial
      | (exfalso; simp_all; done)
      | (simp_all; done)
      | (symm; simp_all; done)
      | (simp_all; omega)
end Go.Proofs.YtcmbkcebbgigcaaGreatDoor.Zs
