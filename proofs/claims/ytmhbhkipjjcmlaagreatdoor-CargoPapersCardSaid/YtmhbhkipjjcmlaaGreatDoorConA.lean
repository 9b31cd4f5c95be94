/-
  Contracts of the reference and of package cargo, over names.
-/
import Derived.Test.YtmhbhkipjjcmlaaGreatDoorPap
import Derived.Test.YtmhbhkipjjcmlaaGreatDoorProg
import Derived.KernelRfl
set_option linter.unusedSimpArgs false
set_option linter.unusedVariables false
/-
  The program of this seat.
-/
namespace Go.Proofs.YtmhbhkipjjcmlaaGreatDoor.Zs
open Go
set_option maxRecDepth 1000000 in
theorem names0 : Tryz.prog.funcs.toList.all (fun g => !(g.name == "runtime.NumGoroutine")) = true := by kernel_rfl
theorem mixed0 : Tryz.prog.follows .mixedOrders = true := by kernel_rfl
noncomputable def E0 : Env := envOf Tryz.prog
theorem E0_ok : E0.Ok := envOf_ok names0 mixed0
theorem E0_glob (g : Nat) : E0.glob g = none := rfl
theorem E0_P : E0.P = Tryz.prog := rfl
noncomputable def sizeOfF (f : Nat) : Nat := match Tryz.prog.funcs[f]? with | some fn => fn.ntmps | none => 0
end Go.Proofs.YtmhbhkipjjcmlaaGreatDoor.Zs

namespace Go.Proofs.YtmhbhkipjjcmlaaGreatDoor.Zs
open Go
set_option linter.unusedSimpArgs false
set_option linter.unusedVariables false

noncomputable def noL : Env → CallE := libs []
theorem noL_ok (F : List (X × Bool)) {r : Rho} (_ : r.sym = sy) : CallsOk (E0.with F r) (noL (E0.with F r)) := libs_ok fun c hc => by cases hc
noncomputable def letter_con : Con := { f := 161, args := [.one (.int .u8 0)], N := 0, M := 0, pre := [], out := .sbool (.app 0 [.var 0]), news := [] }
noncomputable def letter_call : Env → CallL := fun E => acallAll E (evH E (noL E) ((fun _ => noLoops) E) 4)
noncomputable def letter_t : GTree := (.fork (.op2 .lt (.var 0) (.num 97)) (.fork (.op2 .lt (.var 0) (.num 48)) (.leaf [[]]) (.leaf [[]])) (.fork (.op2 .lt (.num 122) (.var 0)) (.fork (.op2 .lt (.var 0) (.num 48)) (.leaf [[]]) (.leaf [[]])) (.leaf [[]])))
noncomputable def letter_l : List (List (X × Bool) × Option Pairs) := [([((.op2 .lt (.var 0) (.num 48)), true), ((.op2 .lt (.var 0) (.num 97)), true)], some [((.app 0 [(.var 0)]), (.boo false))]),
  ([((.op2 .lt (.var 0) (.num 48)), false), ((.op2 .lt (.var 0) (.num 97)), true)], some [((.app 0 [(.var 0)]), (.op1 .not (.op2 .lt (.num 57) (.var 0))))]),
  ([((.op2 .lt (.var 0) (.num 48)), true), ((.op2 .lt (.num 122) (.var 0)), true), ((.op2 .lt (.var 0) (.num 97)), false)], some [((.app 0 [(.var 0)]), (.boo false))]),
  ([((.op2 .lt (.var 0) (.num 48)), false), ((.op2 .lt (.num 122) (.var 0)), true), ((.op2 .lt (.var 0) (.num 97)), false)], some [((.app 0 [(.var 0)]), (.op1 .not (.op2 .lt (.num 57) (.var 0))))]),
  ([((.op2 .lt (.num 122) (.var 0)), false), ((.op2 .lt (.var 0) (.num 97)), false)], some [((.app 0 [(.var 0)]), (.boo true))])]
theorem letter_w (r : Rho) : letter_con.fn.ways letter_call E0 r letter_con.pre letter_t = some letter_l := by kernel_rfl
theorem letter_ok : letter_con.Ok Tryz.prog sy := by
  intro r σ w us hsy hρ hpre hrel hins
  obtain ⟨u, rfl, h1⟩ := hins.single
  obtain ⟨c, k, rfl, h0⟩ := one_int h1
  rw [hρ] at h0
  have hs : r.sym 0 [.int k c] = some (.bool (letterB c)) := by rw [hsy]; rfl
  refine con_of (E := E0) E0_ok E0_glob (sy := sy) (fun F => noL_ok F hsy) (fun F => noH_ok) (letter_w r) hρ hpre hrel hins ?_ ?_
  · simp only [letter_con, letter_t, AsksL, GTree.asks, FTree.asks, FactsIn, List.append_nil, List.nil_append, List.cons_append, Option.some.injEq, exists_eq', implies_true, and_self, X.bool, X.den, denL, den1, den2, denCell, denSub, denIte, asB, h0, hs]
  · simp only [letter_l, EndsOk, FactsIn, hold_cons, hold_nil, Option.some.injEq, Value.bool.injEq, Value.int.injEq, decide_eq_true_eq, decide_eq_false_iff_not, and_true, true_and, and_imp, X.bool, X.den, denL, den1, den2, denCell, denSub, denIte, asB, h0, hs]
    (repeat' apply And.intro) <;> intros <;> first | trivial | (simp [letterB]; omega) | (rw [Bool.eq_iff_iff]; simp [letterB]; omega)
noncomputable def Within_con : Con := { f := 101, args := [.one (.int .i64 0), .one (.int .i64 1), .one (.int .i64 2)], N := 0, M := 0, pre := [], out := .sbool (.app 10 [.var 0, .var 1, .var 2]), news := [] }
noncomputable def Within_call : Env → CallL := fun E => acallAll E (evH E (noL E) ((fun _ => noLoops) E) 4)
noncomputable def Within_t : GTree := (.fork (.op2 .lt (.var 0) (.var 1)) (.leaf [[]]) (.leaf [[]]))
noncomputable def Within_l : List (List (X × Bool) × Option Pairs) := [([((.op2 .lt (.var 0) (.var 1)), true)], some [((.app 10 [(.var 0), (.var 1), (.var 2)]), (.boo false))]),
  ([((.op2 .lt (.var 0) (.var 1)), false)], some [((.app 10 [(.var 0), (.var 1), (.var 2)]), (.op1 .not (.op2 .lt (.var 2) (.var 0))))])]
theorem Within_w (r : Rho) : Within_con.fn.ways Within_call E0 r Within_con.pre Within_t = some Within_l := by kernel_rfl
theorem Within_ok : Within_con.Ok Tryz.prog sy := by
  intro r σ w us hsy hρ hpre hrel hins
  obtain ⟨u0, us, rfl, g0, hins⟩ := ins_cons hins
  obtain ⟨u1, us, rfl, g1, hins⟩ := ins_cons hins
  obtain ⟨u2, us, rfl, g2, hins⟩ := ins_cons hins
  obtain ⟨a, k0, rfl, h0⟩ := one_int g0
  obtain ⟨b, k1, rfl, h1⟩ := one_int g1
  obtain ⟨c, k2, rfl, h2⟩ := one_int g2
  rw [hρ] at h0 h1 h2
  have hs : r.sym 10 [.int k0 a, .int k1 b, .int k2 c] = some (.bool (withinB a b c)) := by rw [hsy]; rfl
  refine con_of (E := E0) E0_ok E0_glob (sy := sy) (fun F => noL_ok F hsy) (fun F => noH_ok) (Within_w r) hρ hpre hrel hins ?_ ?_
  · simp only [Within_con, Within_t, AsksL, GTree.asks, FTree.asks, FactsIn, List.append_nil, List.nil_append, List.cons_append, Option.some.injEq, exists_eq', implies_true, and_self, X.bool, X.den, denL, den1, den2, denCell, denSub, denIte, asB, h0, h1, h2, hs]
  · simp only [Within_l, EndsOk, FactsIn, hold_cons, hold_nil, Option.some.injEq, Value.bool.injEq, Value.int.injEq, decide_eq_true_eq, decide_eq_false_iff_not, and_true, true_and, and_imp, X.bool, X.den, denL, den1, den2, denCell, denSub, denIte, asB, h0, h1, h2, hs]
    (repeat' apply And.intro) <;> intros <;> first | trivial | (simp [withinB]; omega) | (rw [Bool.eq_iff_iff]; simp [withinB]; omega)
noncomputable def span_con : Con := { f := 128, args := [.agg [.int .i64 0, .int .i64 1], .one (.int .i64 2), .one (.int .i64 3)], N := 0, M := 0, pre := [], out := .sbool (.app 9 [.var 0, .var 1, .var 2, .var 3]), news := [] }
noncomputable def span_call : Env → CallL := fun E => acallAll E (evH E (noL E) ((fun _ => noLoops) E) 4)
noncomputable def span_t : GTree := (.fork (.op2 .lt (.var 0) (.var 2)) (.leaf [[]]) (.fork (.op2 .lt (.var 1) (.var 0)) (.leaf [[]]) (.leaf [[]])))
noncomputable def span_l : List (List (X × Bool) × Option Pairs) := [([((.op2 .lt (.var 0) (.var 2)), true)], some [((.app 9 [(.var 0), (.var 1), (.var 2), (.var 3)]), (.boo false))]),
  ([((.op2 .lt (.var 1) (.var 0)), true), ((.op2 .lt (.var 0) (.var 2)), false)], some [((.app 9 [(.var 0), (.var 1), (.var 2), (.var 3)]), (.boo false))]),
  ([((.op2 .lt (.var 1) (.var 0)), false), ((.op2 .lt (.var 0) (.var 2)), false)], some [((.app 9 [(.var 0), (.var 1), (.var 2), (.var 3)]), (.op1 .not (.op2 .lt (.var 3) (.var 1))))])]
theorem span_w (r : Rho) : span_con.fn.ways span_call E0 r span_con.pre span_t = some span_l := by kernel_rfl
theorem span_ok : span_con.Ok Tryz.prog sy := by
  intro r σ w us hsy hρ hpre hrel hins
  obtain ⟨u0, us, rfl, g0, hins⟩ := ins_cons hins
  obtain ⟨u1, us, rfl, g1, hins⟩ := ins_cons hins
  obtain ⟨u2, us, rfl, g2, hins⟩ := ins_cons hins
  obtain ⟨vs, rfl, gs⟩ := AV.inst_agg g0
  obtain ⟨x0, vs, rfl, g00, gs⟩ := ins_cons gs
  obtain ⟨x1, vs, rfl, g01, gs⟩ := ins_cons gs
  obtain ⟨a, k0, rfl, h0⟩ := one_int g00
  obtain ⟨b, k1, rfl, h1⟩ := one_int g01
  obtain ⟨c, k2, rfl, h2⟩ := one_int g1
  obtain ⟨d, k3, rfl, h3⟩ := one_int g2
  rw [hρ] at h0 h1 h2 h3
  have hs : r.sym 9 [.int k0 a, .int k1 b, .int k2 c, .int k3 d] = some (.bool (spanB a b c d)) := by rw [hsy]; rfl
  refine con_of (E := E0) E0_ok E0_glob (sy := sy) (fun F => noL_ok F hsy) (fun F => noH_ok) (span_w r) hρ hpre hrel hins ?_ ?_
  · simp only [span_con, span_t, AsksL, GTree.asks, FTree.asks, FactsIn, List.append_nil, List.nil_append, List.cons_append, Option.some.injEq, exists_eq', implies_true, and_self, X.bool, X.den, denL, den1, den2, denCell, denSub, denIte, asB, h0, h1, h2, h3, hs]
  · simp only [span_l, EndsOk, FactsIn, hold_cons, hold_nil, Option.some.injEq, Value.bool.injEq, Value.int.injEq, decide_eq_true_eq, decide_eq_false_iff_not, and_true, true_and, and_imp, X.bool, X.den, denL, den1, den2, denCell, denSub, denIte, asB, h0, h1, h2, h3, hs]
    (repeat' apply And.intro) <;> intros <;> first | trivial | (simp [spanB]; omega) | (rw [Bool.eq_iff_iff]; simp [spanB]; omega)
end Go.Proofs.YtmhbhkipjjcmlaaGreatDoor.Zs

namespace Go.Proofs.YtmhbhkipjjcmlaaGreatDoor.Zs
open Go
set_option linter.unusedSimpArgs false
set_option linter.unusedVariables false

noncomputable def L1 : Env → CallE := libs [cLib letter_con]
theorem L1_ok (F : List (X × Bool)) {r : Rho} (h : r.sym = sy) : CallsOk (E0.with F r) (L1 (E0.with F r)) := libs_ok fun c hc => by
  simp only [List.mem_singleton] at hc; subst hc; exact lib_ok (E := E0) letter_ok F h
def Mark_vs : List X := [.num 0, .op2 .and (.op2 .lt (.num 0) (.op1 .slen (.var 0))) (.op1 .not (.op2 .lt (.num 12) (.op1 .slen (.var 0))))]
noncomputable def Mark_D : LoopD := { N := 100, M := 102, size := sizeOfF 129, reads := [], pats := [{ slots := [(0, .sstr (.var 0)), (3, .sbool (.var 101)), (4, .sint .i64 (.var 100))], heap := [] }], exits := [(.exit 0, { slots := [(3, .sbool (.app 1 [.var 0]))], heap := [] })], own := [], pre := [] }
noncomputable def Mark_run : Env → AF → ASt → Option (List Out) := bodyRun L1 4 (fun _ => noLoop) (loopAt Tryz.prog 129 0)
def Mark0_F : List (X × Bool) := [(.op2 .lt (.var 100) (.num 0), false)]
noncomputable def Mark0_t : FTree := (.fork (.op2 .lt (.var 100) (.op1 .slen (.var 0))) (.fork (.var 101) (.fork (.app 0 [(.op2 .sat (.var 0) (.var 100))]) (.leaf [(.again 0 [])]) (.leaf [(.again 0 [])])) (.leaf [(.again 0 [])])) (.leaf [(.leave 0 [])]))
noncomputable def Mark0_l : List (List (X × Bool) × Option (List (Tgt × Pairs))) := [([((.app 0 [(.op2 .sat (.var 0) (.var 100))]), true), ((.var 101), true), ((.op2 .lt (.var 100) (.op1 .slen (.var 0))), true), ((.op2 .lt (.var 100) (.num 0)), false)], some [((.again 0 []), [((.var 101), (.boo true)), ((.var 100), (.op1 (.wrap .i64) (.op2 .add (.var 100) (.num 1))))])]),
  ([((.app 0 [(.op2 .sat (.var 0) (.var 100))]), false), ((.var 101), true), ((.op2 .lt (.var 100) (.op1 .slen (.var 0))), true), ((.op2 .lt (.var 100) (.num 0)), false)], some [((.again 0 []), [((.var 101), (.op2 .eq (.op2 .sat (.var 0) (.var 100)) (.num 63))), ((.var 100), (.op1 (.wrap .i64) (.op2 .add (.var 100) (.num 1))))])]),
  ([((.var 101), false), ((.op2 .lt (.var 100) (.op1 .slen (.var 0))), true), ((.op2 .lt (.var 100) (.num 0)), false)], some [((.again 0 []), [((.var 101), (.boo false)), ((.var 100), (.op1 (.wrap .i64) (.op2 .add (.var 100) (.num 1))))])]),
  ([((.op2 .lt (.var 100) (.op1 .slen (.var 0))), false), ((.op2 .lt (.var 100) (.num 0)), false)], some [((.leave 0 []), [((.app 1 [(.var 0)]), (.var 101))])])]
theorem Mark0_w (r : Rho) : Mark_D.ways Mark_run E0 r 0 Mark0_F Mark0_t = some Mark0_l := by kernel_rfl
theorem Mark_ok : Mark_D.ok = true := by kernel_rfl
def Mark_Inv (s : ByteArray) (j : Nat) (vals : List Value) : Prop :=
  j = 0 ∧ ∃ i : Nat, i ≤ s.size ∧ vals = [.int .i64 i, .bool ((decide (0 < s.size) && decide (s.size ≤ 12)) && allUpto markC s i)]
def Mark_mu (s : ByteArray) (_ : Nat) (vals : List Value) : Nat := s.size - (vI (vals.getD 0 default)).toNat
theorem Mark_step {ρ : Rho} {s : ByteArray} (h0 : ρ.val 0 = some (.string s)) (hsy : ρ.sym = sy) (hmax : (s.size : Int) ≤ 140737488355328) (j : Nat) (vals : List Value) (hI : Mark_Inv s j vals) :
    StepOk Mark_D Mark_run E0 ρ (Mark_Inv s) (Mark_mu s) j vals := by
  obtain ⟨rfl, i, hi, rfl⟩ := hI
  have hN : Mark_D.N = 100 := rfl
  generalize hb : ((decide (0 < s.size) && decide (s.size ≤ 12)) && allUpto markC s i) = b
  have v0 : (ρ.ext Mark_D.N [.int .i64 i, .bool b]).val 0 = some (.string s) := by rw [ext_low _ _ _ _ (by rw [hN]; omega)]; exact h0
  have v100 : (ρ.ext Mark_D.N [.int .i64 i, .bool b]).val 100 = some (.int .i64 i) := by rw [ext_high _ _ _ _ (by rw [hN]; omega)]; rfl
  have v101 : (ρ.ext Mark_D.N [.int .i64 i, .bool b]).val 101 = some (.bool b) := by rw [ext_high _ _ _ _ (by rw [hN]; omega)]; rfl
  have vs : (ρ.ext Mark_D.N [.int .i64 i, .bool b]).sym = sy := hsy
  have s0 : ∀ k c, sy 0 [.int k c] = some (.bool (letterB c)) := fun _ _ => rfl
  have s1 : sy 1 [.string s] = some (.bool (markB s)) := rfl
  have hbyte : ∀ q : Nat, (((s[(q : Int).toNat]?.map UInt8.toNat).getD 0 : Nat) : Int) = byteAt s q := fun q => by simp [byteAt]
  refine step_of_ways (Mark0_w _) (F := Mark0_F) ?_ (AsksL.ok ?_) ?_
  · simp only [Mark0_F, FactsIn, X.bool, X.den, denL, den1, den2, denCell, denSub, denIte, asB, v100, Option.some.injEq, Value.bool.injEq, decide_eq_false_iff_not, and_true]
    omega
  · simp only [Mark0_t, Mark0_F, AsksL, GTree.asks, FTree.asks, FactsIn, List.append_nil, List.nil_append, List.cons_append, Option.some.injEq, exists_eq', implies_true, and_self, X.bool, X.den, denL, den1, den2, denCell, denSub, denIte, asB, v0, v100, v101, vs, s0, s1]
  · simp only [Mark0_l, WaysOk, forall_cons, forall_nil, TgtOk, EndsOk, FactsIn, hold_cons, hold_nil, Option.some.injEq, Value.bool.injEq, Value.int.injEq, decide_eq_true_eq, decide_eq_false_iff_not, and_true, true_and, and_imp, X.bool, X.den, denL, den1, den2, denCell, denSub, denIte, asB, v0, v100, v101, vs, s0, s1, h0, hsy, hbyte]
    have go : ∀ b' : Bool, (b && markC i (byteAt s i)) = b' → (i : Int) < s.size → ∃ vals', ((ρ.ext Mark_D.N vals').val 101 = some (.bool b') ∧ (ρ.ext Mark_D.N vals').val 100 = some (.int .i64 (IntKind.i64.wrap ((i : Int) + 1)))) ∧
        Mark_Inv s 0 vals' ∧ Mark_mu s 0 vals' < Mark_mu s 0 [.int .i64 i, .bool b] := by
      intro b' hb' hlt
      refine ⟨[.int .i64 ((i + 1 : Nat) : Int), .bool b'], ⟨?_, ?_⟩, ⟨rfl, i + 1, by omega, ?_⟩, ?_⟩
      · rw [ext_high _ _ _ _ (by rw [hN]; omega)]; rfl
      · rw [ext_high _ _ _ _ (by rw [hN]; omega), IntWalk.i64_in _ (by omega)]; rfl
      · rw [← hb', ← hb]; simp [allUpto, Bool.and_assoc]
      · simp [Mark_mu, vI]; omega
    (repeat' apply And.intro) <;> intros <;> first
      | (apply go
         · first | (simp [markC, *]; done) | (rw [Bool.eq_iff_iff]; simp [markC, *]; done) | (rw [Bool.eq_iff_iff]; simp [markC, *]; omega) | grind [markC]
         · assumption)
      | (have : i = s.size := by omega
         subst this
         rw [← hb]; rfl)
      | (simp_all [markC]; done)
noncomputable def Mark_con : Con := { f := 129, args := [.one (.str 0)], N := 0, M := 0, pre := [(.app 19 [.var 0], true)], out := .sbool (.app 1 [.var 0]), news := [] }
noncomputable def Mark_call : Env → CallL := fun E => acallAll E (evH E (L1 E) ((fun E => oneH 129 (hooks [(3, Mark_D.hook E.facts Mark_vs)])) E) 4)
noncomputable def Mark_t : GTree := (.fork (.op2 .lt (.num 0) (.op1 .slen (.var 0))) (.fork (.op2 .lt (.num 12) (.op1 .slen (.var 0))) (.leaf [[]]) (.leaf [[]])) (.fork (.op2 .lt (.num 12) (.op1 .slen (.var 0))) (.leaf [[]]) (.leaf [[]])))
noncomputable def Mark_l : List (List (X × Bool) × Option Pairs) := [([((.op2 .lt (.num 12) (.op1 .slen (.var 0))), true), ((.op2 .lt (.num 0) (.op1 .slen (.var 0))), true), ((.app 19 [(.var 0)]), true)], some [((.app 1 [(.var 0)]), (.app 1 [(.var 0)]))]),
  ([((.op2 .lt (.num 12) (.op1 .slen (.var 0))), false), ((.op2 .lt (.num 0) (.op1 .slen (.var 0))), true), ((.app 19 [(.var 0)]), true)], some [((.app 1 [(.var 0)]), (.app 1 [(.var 0)]))]),
  ([((.op2 .lt (.num 12) (.op1 .slen (.var 0))), true), ((.op2 .lt (.num 0) (.op1 .slen (.var 0))), false), ((.app 19 [(.var 0)]), true)], some [((.app 1 [(.var 0)]), (.app 1 [(.var 0)]))]),
  ([((.op2 .lt (.num 12) (.op1 .slen (.var 0))), false), ((.op2 .lt (.num 0) (.op1 .slen (.var 0))), false), ((.app 19 [(.var 0)]), true)], some [((.app 1 [(.var 0)]), (.app 1 [(.var 0)]))])]
theorem Mark_w (r : Rho) : Mark_con.fn.ways Mark_call E0 r Mark_con.pre Mark_t = some Mark_l := by kernel_rfl
theorem Mark_H {r : Rho} {s : ByteArray} (h0 : r.val 0 = some (.string s)) (hsy : r.sym = sy) (hmax : (s.size : Int) ≤ 140737488355328) (F : List (X × Bool)) : LoopsOk (E0.with F r) (oneH 129 (hooks [(3, Mark_D.hook (E0.with F r).facts Mark_vs)])) := by
  refine loops_all (n := 1) (fun f fn h => h) (by kernel_rfl) fun i hi => ?_
  obtain rfl : i = 0 := by omega
  rw [hooks_hit (show keyOf (loopAt (E0.with F r).P 129 0) = 3 by kernel_rfl)]
  refine hook_ok (E₀ := E0) (run := Mark_run) (ρ := r) (Inv := Mark_Inv s) (μ := Mark_mu s) E0_ok Mark_ok (fun F r' h => ?_) (fun _ => ⟨Mark_step h0 hsy hmax, [.int .i64 0, .bool (decide (0 < s.size) && decide (s.size ≤ 12))], ?_, rfl, 0, Nat.zero_le _, by simp [allUpto]⟩)
  · exact bodyRun_ok E0_ok (L1_ok F (h.trans hsy)) fun _ _ => noLoop_ok
  · simp only [Mark_vs, X.bool, X.den, denL, den1, den2, denCell, denSub, denIte, asB, h0]
    congr 3
    simp only [List.cons.injEq, Value.bool.injEq, and_true, true_and]
    rw [Bool.eq_iff_iff]; simp; try omega
theorem Mark_cok : Mark_con.Ok Tryz.prog sy := by
  intro r σ w us hsy hρ hpre hrel hins
  obtain ⟨u, rfl, g0⟩ := hins.single
  obtain ⟨s, rfl, h0⟩ := one_str g0
  rw [hρ] at h0
  have hmax : (s.size : Int) ≤ 140737488355328 := by
    have := hpre.1
    have s19 : r.sym 19 [.string s] = some (.bool (shortB s)) := by rw [hsy]; rfl
    simp only [X.bool, X.den, denL, den1, den2, denCell, denSub, denIte, asB, h0, s19, Option.some.injEq, shortB, decide_eq_true_eq] at this
    exact this
  have s19 : r.sym 19 [.string s] = some (.bool (shortB s)) := by rw [hsy]; rfl
  have s1 : r.sym 1 [.string s] = some (.bool (markB s)) := by rw [hsy]; rfl
  refine con_of (E := E0) E0_ok E0_glob (sy := sy) (fun F => L1_ok F hsy) (fun F => Mark_H h0 hsy hmax F) (Mark_w r) hρ hpre hrel hins ?_ ?_
  · simp only [Mark_con, Mark_t, AsksL, GTree.asks, FTree.asks, FactsIn, List.append_nil, List.nil_append, List.cons_append, Option.some.injEq, exists_eq', implies_true, and_self, X.bool, X.den, denL, den1, den2, denCell, denSub, denIte, asB, h0, s1, s19]
  · simp only [Mark_l, EndsOk, FactsIn, hold_cons, hold_nil, Option.some.injEq, Value.bool.injEq, Value.int.injEq, decide_eq_true_eq, decide_eq_false_iff_not, and_true, true_and, and_imp, X.bool, X.den, denL, den1, den2, denCell, denSub, denIte, asB, h0, s1, s19]
    (repeat' apply And.intro) <;> intros <;> first | trivial | assumption
end Go.Proofs.YtmhbhkipjjcmlaaGreatDoor.Zs

namespace Go.Proofs.YtmhbhkipjjcmlaaGreatDoor.Zs
open Go
set_option linter.unusedSimpArgs false
set_option linter.unusedVariables false

def Name_vs : List X := [.num 0, .op2 .and (.op2 .lt (.num 0) (.op1 .slen (.var 0))) (.op1 .not (.op2 .lt (.num 24) (.op1 .slen (.var 0))))]
noncomputable def Name_D : LoopD := { N := 100, M := 102, size := sizeOfF 130, reads := [], pats := [{ slots := [(0, .sstr (.var 0)), (3, .sbool (.var 101)), (4, .sint .i64 (.var 100))], heap := [] }], exits := [(.exit 0, { slots := [(3, .sbool (.app 2 [.var 0]))], heap := [] })], own := [], pre := [] }
noncomputable def Name_run : Env → AF → ASt → Option (List Out) := bodyRun L1 4 (fun _ => noLoop) (loopAt Tryz.prog 130 0)
def Name0_F : List (X × Bool) := [(.op2 .lt (.var 100) (.num 0), false)]
noncomputable def Name0_t : FTree := (.fork (.op2 .lt (.var 100) (.op1 .slen (.var 0))) (.fork (.var 101) (.fork (.app 0 [(.op2 .sat (.var 0) (.var 100))]) (.fork (.op2 .lt (.num 0) (.var 100)) (.leaf [(.again 0 [])]) (.leaf [(.again 0 [])])) (.fork (.op2 .eq (.op2 .sat (.var 0) (.var 100)) (.num 45)) (.fork (.op2 .lt (.num 0) (.var 100)) (.leaf [(.again 0 [])]) (.leaf [(.again 0 [])])) (.leaf [(.again 0 [])]))) (.leaf [(.again 0 [])])) (.leaf [(.leave 0 [])]))
noncomputable def Name0_l : List (List (X × Bool) × Option (List (Tgt × Pairs))) := [([((.op2 .lt (.num 0) (.var 100)), true), ((.app 0 [(.op2 .sat (.var 0) (.var 100))]), true), ((.var 101), true), ((.op2 .lt (.var 100) (.op1 .slen (.var 0))), true), ((.op2 .lt (.var 100) (.num 0)), false)], some [((.again 0 []), [((.var 101), (.boo true)), ((.var 100), (.op1 (.wrap .i64) (.op2 .add (.var 100) (.num 1))))])]),
  ([((.op2 .lt (.num 0) (.var 100)), false), ((.app 0 [(.op2 .sat (.var 0) (.var 100))]), true), ((.var 101), true), ((.op2 .lt (.var 100) (.op1 .slen (.var 0))), true), ((.op2 .lt (.var 100) (.num 0)), false)], some [((.again 0 []), [((.var 101), (.op1 .not (.op2 .lt (.op2 .sat (.var 0) (.var 100)) (.num 97)))), ((.var 100), (.op1 (.wrap .i64) (.op2 .add (.var 100) (.num 1))))])]),
  ([((.op2 .lt (.num 0) (.var 100)), true), ((.op2 .eq (.op2 .sat (.var 0) (.var 100)) (.num 45)), true), ((.app 0 [(.op2 .sat (.var 0) (.var 100))]), false), ((.var 101), true), ((.op2 .lt (.var 100) (.op1 .slen (.var 0))), true), ((.op2 .lt (.var 100) (.num 0)), false)], some [((.again 0 []), [((.var 101), (.boo true)), ((.var 100), (.op1 (.wrap .i64) (.op2 .add (.var 100) (.num 1))))])]),
  ([((.op2 .lt (.num 0) (.var 100)), false), ((.op2 .eq (.op2 .sat (.var 0) (.var 100)) (.num 45)), true), ((.app 0 [(.op2 .sat (.var 0) (.var 100))]), false), ((.var 101), true), ((.op2 .lt (.var 100) (.op1 .slen (.var 0))), true), ((.op2 .lt (.var 100) (.num 0)), false)], some [((.again 0 []), [((.var 101), (.op1 .not (.op2 .lt (.op2 .sat (.var 0) (.var 100)) (.num 97)))), ((.var 100), (.op1 (.wrap .i64) (.op2 .add (.var 100) (.num 1))))])]),
  ([((.op2 .eq (.op2 .sat (.var 0) (.var 100)) (.num 45)), false), ((.app 0 [(.op2 .sat (.var 0) (.var 100))]), false), ((.var 101), true), ((.op2 .lt (.var 100) (.op1 .slen (.var 0))), true), ((.op2 .lt (.var 100) (.num 0)), false)], some [((.again 0 []), [((.var 101), (.boo false)), ((.var 100), (.op1 (.wrap .i64) (.op2 .add (.var 100) (.num 1))))])]),
  ([((.var 101), false), ((.op2 .lt (.var 100) (.op1 .slen (.var 0))), true), ((.op2 .lt (.var 100) (.num 0)), false)], some [((.again 0 []), [((.var 101), (.boo false)), ((.var 100), (.op1 (.wrap .i64) (.op2 .add (.var 100) (.num 1))))])]),
  ([((.op2 .lt (.var 100) (.op1 .slen (.var 0))), false), ((.op2 .lt (.var 100) (.num 0)), false)], some [((.leave 0 []), [((.app 2 [(.var 0)]), (.var 101))])])]
theorem Name0_w (r : Rho) : Name_D.ways Name_run E0 r 0 Name0_F Name0_t = some Name0_l := by kernel_rfl
theorem Name_ok : Name_D.ok = true := by kernel_rfl
def Name_Inv (s : ByteArray) (j : Nat) (vals : List Value) : Prop :=
  j = 0 ∧ ∃ i : Nat, i ≤ s.size ∧ vals = [.int .i64 i, .bool ((decide (0 < s.size) && decide (s.size ≤ 24)) && allUpto nameC s i)]
def Name_mu (s : ByteArray) (_ : Nat) (vals : List Value) : Nat := s.size - (vI (vals.getD 0 default)).toNat
theorem Name_step {ρ : Rho} {s : ByteArray} (h0 : ρ.val 0 = some (.string s)) (hsy : ρ.sym = sy) (hmax : (s.size : Int) ≤ 140737488355328) (j : Nat) (vals : List Value) (hI : Name_Inv s j vals) :
    StepOk Name_D Name_run E0 ρ (Name_Inv s) (Name_mu s) j vals := by
  obtain ⟨rfl, i, hi, rfl⟩ := hI
  have hN : Name_D.N = 100 := rfl
  generalize hb : ((decide (0 < s.size) && decide (s.size ≤ 24)) && allUpto nameC s i) = b
  have v0 : (ρ.ext Name_D.N [.int .i64 i, .bool b]).val 0 = some (.string s) := by rw [ext_low _ _ _ _ (by rw [hN]; omega)]; exact h0
  have v100 : (ρ.ext Name_D.N [.int .i64 i, .bool b]).val 100 = some (.int .i64 i) := by rw [ext_high _ _ _ _ (by rw [hN]; omega)]; rfl
  have v101 : (ρ.ext Name_D.N [.int .i64 i, .bool b]).val 101 = some (.bool b) := by rw [ext_high _ _ _ _ (by rw [hN]; omega)]; rfl
  have vs : (ρ.ext Name_D.N [.int .i64 i, .bool b]).sym = sy := hsy
  have s0 : ∀ k c, sy 0 [.int k c] = some (.bool (letterB c)) := fun _ _ => rfl
  have s1 : sy 2 [.string s] = some (.bool (nameB s)) := rfl
  have hbyte : ∀ q : Nat, (((s[(q : Int).toNat]?.map UInt8.toNat).getD 0 : Nat) : Int) = byteAt s q := fun q => by simp [byteAt]
  refine step_of_ways (Name0_w _) (F := Name0_F) ?_ (AsksL.ok ?_) ?_
  · simp only [Name0_F, FactsIn, X.bool, X.den, denL, d_wrap, d_kind, d_not, d_neg, d_slen, d_add, d_sub, d_mul, d_div, d_mod, d_lt, d_le, d_eq, d_eqb, d_eqs, d_lts, d_cat, d_sat, d_and, d_or, denSub, denIte, asB, len_R, cell_R, lsub_R, v100, Option.some.injEq, Value.bool.injEq, decide_eq_false_iff_not, and_true]
    omega
  · simp only [Name0_t, Name0_F, AsksL, GTree.asks, FTree.asks, FactsIn, List.append_nil, List.nil_append, List.cons_append, Option.some.injEq, exists_eq', implies_true, and_self, X.bool, X.den, denL, d_wrap, d_kind, d_not, d_neg, d_slen, d_add, d_sub, d_mul, d_div, d_mod, d_lt, d_le, d_eq, d_eqb, d_eqs, d_lts, d_cat, d_sat, d_and, d_or, denSub, denIte, asB, len_R, cell_R, lsub_R, v0, v100, v101, vs, s0, s1]
  · simp only [Name0_l, WaysOk, forall_cons, forall_nil, TgtOk, EndsOk, WaysOk, forall_cons, forall_nil, TgtOk, gpair, FactsIn, hold_cons, hold_nil, Option.some.injEq, Value.bool.injEq, Value.int.injEq, decide_eq_true_eq, decide_eq_false_iff_not, and_true, true_and, and_imp, X.bool, X.den, denL, d_wrap, d_kind, d_not, d_neg, d_slen, d_add, d_sub, d_mul, d_div, d_mod, d_lt, d_le, d_eq, d_eqb, d_eqs, d_lts, d_cat, d_sat, d_and, d_or, denSub, denIte, asB, len_R, cell_R, lsub_R, v0, v100, v101, vs, s0, s1, h0, hsy, hbyte]
    have go : ∀ b' : Bool, (b && nameC i (byteAt s i)) = b' → (i : Int) < s.size → ∃ vals', ((ρ.ext Name_D.N vals').val 101 = some (.bool b') ∧ (ρ.ext Name_D.N vals').val 100 = some (.int .i64 (IntKind.i64.wrap ((i : Int) + 1)))) ∧
        Name_Inv s 0 vals' ∧ Name_mu s 0 vals' < Name_mu s 0 [.int .i64 i, .bool b] := by
      intro b' hb' hlt
      refine ⟨[.int .i64 ((i + 1 : Nat) : Int), .bool b'], ⟨?_, ?_⟩, ⟨rfl, i + 1, by omega, ?_⟩, ?_⟩
      · rw [ext_high _ _ _ _ (by rw [hN]; omega)]; rfl
      · rw [ext_high _ _ _ _ (by rw [hN]; omega), IntWalk.i64_in _ (by omega)]; rfl
      · rw [← hb', ← hb]; simp [allUpto, Bool.and_assoc]
      · simp [Name_mu, vI]; omega
    (repeat' apply And.intro) <;> intros <;> first
      | (apply go
         · first | (simp [nameC, *]; done) | (simp [nameC, *]; omega) | (rw [Bool.eq_iff_iff]; simp [nameC, *]; done) | (rw [Bool.eq_iff_iff]; simp [nameC, *]; omega) | grind [nameC]
         · assumption)
      | (have : i = s.size := by omega
         subst this
         rw [← hb]; rfl)
      | (simp_all [nameC]; done)
noncomputable def Name_con : Con := { f := 130, args := [.one (.str 0)], N := 0, M := 0, pre := [(.app 19 [.var 0], true)], out := .sbool (.app 2 [.var 0]), news := [] }
noncomputable def Name_call : Env → CallL := fun E => acallAll E (evH E (L1 E) ((fun E => oneH 130 (hooks [(3, Name_D.hook E.facts Name_vs)])) E) 4)
noncomputable def Name_t : GTree := (.fork (.op2 .lt (.num 0) (.op1 .slen (.var 0))) (.fork (.op2 .lt (.num 24) (.op1 .slen (.var 0))) (.leaf [[]]) (.leaf [[]])) (.fork (.op2 .lt (.num 24) (.op1 .slen (.var 0))) (.leaf [[]]) (.leaf [[]])))
noncomputable def Name_l : List (List (X × Bool) × Option Pairs) := [([((.op2 .lt (.num 24) (.op1 .slen (.var 0))), true), ((.op2 .lt (.num 0) (.op1 .slen (.var 0))), true), ((.app 19 [(.var 0)]), true)], some [((.app 2 [(.var 0)]), (.app 2 [(.var 0)]))]),
  ([((.op2 .lt (.num 24) (.op1 .slen (.var 0))), false), ((.op2 .lt (.num 0) (.op1 .slen (.var 0))), true), ((.app 19 [(.var 0)]), true)], some [((.app 2 [(.var 0)]), (.app 2 [(.var 0)]))]),
  ([((.op2 .lt (.num 24) (.op1 .slen (.var 0))), true), ((.op2 .lt (.num 0) (.op1 .slen (.var 0))), false), ((.app 19 [(.var 0)]), true)], some [((.app 2 [(.var 0)]), (.app 2 [(.var 0)]))]),
  ([((.op2 .lt (.num 24) (.op1 .slen (.var 0))), false), ((.op2 .lt (.num 0) (.op1 .slen (.var 0))), false), ((.app 19 [(.var 0)]), true)], some [((.app 2 [(.var 0)]), (.app 2 [(.var 0)]))])]
theorem Name_w (r : Rho) : Name_con.fn.ways Name_call E0 r Name_con.pre Name_t = some Name_l := by kernel_rfl
theorem Name_H {r : Rho} {s : ByteArray} (h0 : r.val 0 = some (.string s)) (hsy : r.sym = sy) (hmax : (s.size : Int) ≤ 140737488355328) (F : List (X × Bool)) : LoopsOk (E0.with F r) (oneH 130 (hooks [(3, Name_D.hook (E0.with F r).facts Name_vs)])) := by
  refine loops_all (n := 1) (fun f fn h => h) (by kernel_rfl) fun i hi => ?_
  obtain rfl : i = 0 := by omega
  rw [hooks_hit (show keyOf (loopAt (E0.with F r).P 130 0) = 3 by kernel_rfl)]
  refine hook_ok (E₀ := E0) (run := Name_run) (ρ := r) (Inv := Name_Inv s) (μ := Name_mu s) E0_ok Name_ok (fun F r' h => ?_) (fun _ => ⟨Name_step h0 hsy hmax, [.int .i64 0, .bool (decide (0 < s.size) && decide (s.size ≤ 24))], ?_, rfl, 0, Nat.zero_le _, by simp [allUpto]⟩)
  · exact bodyRun_ok E0_ok (L1_ok F (h.trans hsy)) fun _ _ => noLoop_ok
  · simp only [Name_vs, X.bool, X.den, denL, d_wrap, d_kind, d_not, d_neg, d_slen, d_add, d_sub, d_mul, d_div, d_mod, d_lt, d_le, d_eq, d_eqb, d_eqs, d_lts, d_cat, d_sat, d_and, d_or, denSub, denIte, asB, len_R, cell_R, lsub_R, h0]
    congr 3
    simp only [List.cons.injEq, Value.bool.injEq, and_true, true_and]
    rw [Bool.eq_iff_iff]; simp; try omega
theorem Name_cok : Name_con.Ok Tryz.prog sy := by
  intro r σ w us hsy hρ hpre hrel hins
  obtain ⟨u, rfl, g0⟩ := hins.single
  obtain ⟨s, rfl, h0⟩ := one_str g0
  rw [hρ] at h0
  have hmax : (s.size : Int) ≤ 140737488355328 := by
    have := hpre.1
    have s19 : r.sym 19 [.string s] = some (.bool (shortB s)) := by rw [hsy]; rfl
    simp only [X.bool, X.den, denL, d_wrap, d_kind, d_not, d_neg, d_slen, d_add, d_sub, d_mul, d_div, d_mod, d_lt, d_le, d_eq, d_eqb, d_eqs, d_lts, d_cat, d_sat, d_and, d_or, denSub, denIte, asB, len_R, cell_R, lsub_R, h0, s19, Option.some.injEq, shortB, decide_eq_true_eq] at this
    exact this
  have s19 : r.sym 19 [.string s] = some (.bool (shortB s)) := by rw [hsy]; rfl
  have s1 : r.sym 2 [.string s] = some (.bool (nameB s)) := by rw [hsy]; rfl
  refine con_of (E := E0) E0_ok E0_glob (sy := sy) (fun F => L1_ok F hsy) (fun F => Name_H h0 hsy hmax F) (Name_w r) hρ hpre hrel hins ?_ ?_
  · simp only [Name_con, Name_t, AsksL, GTree.asks, FTree.asks, FactsIn, List.append_nil, List.nil_append, List.cons_append, Option.some.injEq, exists_eq', implies_true, and_self, X.bool, X.den, denL, d_wrap, d_kind, d_not, d_neg, d_slen, d_add, d_sub, d_mul, d_div, d_mod, d_lt, d_le, d_eq, d_eqb, d_eqs, d_lts, d_cat, d_sat, d_and, d_or, denSub, denIte, asB, len_R, cell_R, lsub_R, h0, s1, s19]
  · simp only [Name_l, EndsOk, WaysOk, forall_cons, forall_nil, TgtOk, gpair, FactsIn, hold_cons, hold_nil, Option.some.injEq, Value.bool.injEq, Value.int.injEq, decide_eq_true_eq, decide_eq_false_iff_not, and_true, true_and, and_imp, X.bool, X.den, denL, d_wrap, d_kind, d_not, d_neg, d_slen, d_add, d_sub, d_mul, d_div, d_mod, d_lt, d_le, d_eq, d_eqb, d_eqs, d_lts, d_cat, d_sat, d_and, d_or, denSub, denIte, asB, len_R, cell_R, lsub_R, h0, s1, s19]
    (repeat' apply And.intro) <;> intros <;> first | trivial | assumption
def Few_vs : List X := [.num 0]
noncomputable def Few_D : LoopD := { N := 100, M := 101, size := sizeOfF 15, reads := [(0, .rows 14 papSch (.var 0) (.var 1) false 26)], pats := [{ slots := [(0, .slx 0 14 (.var 0) (.num 0) (.op1 .len (.var 1)) (.var 2)), (5, .sint .i64 (.var 100))], heap := [] }], exits := [(.exit 0, { slots := [], heap := [], guard := .app 12 [.var 1] }), (.ret, { slots := [(4, .sbool (.boo false))], heap := [], guard := .op1 .not (.app 12 [.var 1]) })], own := [], pre := [(.op2 .lt (.var 3) (.op1 .len (.var 1)), false)] }
noncomputable def Few_run : Env → AF → ASt → Option (List Out) := bodyRun noL 4 (fun _ => noLoop) (loopAt Tryz.prog 15 0)
def Few0_F : List (X × Bool) := [(.op2 .lt (.var 100) (.num 0), false)]
noncomputable def Few0_t : FTree := (.fork (.op2 .lt (.var 100) (.op1 .len (.var 1))) (.fork (.op2 .lt (.num 100) (.op1 .slen (.cell 6 (.var 1) (.var 100)))) (.leaf [(.leave 1 [])]) (.fork (.op2 .lt (.num 100) (.op1 .slen (.cell 7 (.var 1) (.var 100)))) (.leaf [(.leave 1 [])]) (.leaf [(.again 0 [])]))) (.leaf [(.leave 0 [])]))
noncomputable def Few0_l : List (List (X × Bool) × Option (List (Tgt × Pairs))) := [([((.op2 .lt (.num 100) (.op1 .slen (.cell 6 (.var 1) (.var 100)))), true), ((.op2 .lt (.var 100) (.op1 .len (.var 1))), true), ((.op2 .lt (.var 100) (.num 0)), false)], some [((.leave 1 []), [((.op1 .not (.app 12 [(.var 1)])), (.boo true))])]),
  ([((.op2 .lt (.num 100) (.op1 .slen (.cell 7 (.var 1) (.var 100)))), true), ((.op2 .lt (.num 100) (.op1 .slen (.cell 6 (.var 1) (.var 100)))), false), ((.op2 .lt (.var 100) (.op1 .len (.var 1))), true), ((.op2 .lt (.var 100) (.num 0)), false)], some [((.leave 1 []), [((.op1 .not (.app 12 [(.var 1)])), (.boo true))])]),
  ([((.op2 .lt (.num 100) (.op1 .slen (.cell 7 (.var 1) (.var 100)))), false), ((.op2 .lt (.num 100) (.op1 .slen (.cell 6 (.var 1) (.var 100)))), false), ((.op2 .lt (.var 100) (.op1 .len (.var 1))), true), ((.op2 .lt (.var 100) (.num 0)), false)], some [((.again 0 []), [((.var 100), (.op1 (.wrap .i64) (.op2 .add (.var 100) (.num 1))))])]),
  ([((.op2 .lt (.var 100) (.op1 .len (.var 1))), false), ((.op2 .lt (.var 100) (.num 0)), false)], some [((.leave 0 []), [((.app 12 [(.var 1)]), (.boo true))])])]
theorem Few0_w (r : Rho) : Few_D.ways Few_run E0 r 0 Few0_F Few0_t = some Few0_l := by kernel_rfl
theorem Few_ok : Few_D.ok = true := by kernel_rfl
def Few_Inv (l : List Pap) (j : Nat) (vals : List Value) : Prop :=
  j = 0 ∧ ∃ i : Nat, i ≤ l.length ∧ vals = [.int .i64 i] ∧ (l.take i).all smallP = true
def Few_mu (l : List Pap) (_ : Nat) (vals : List Value) : Nat := l.length - (vI (vals.getD 0 default)).toNat
theorem Few_step {ρ : Rho} {l : List Pap} (h1 : ρ.val 1 = some (papsR l)) (hsy : ρ.sym = sy) (hmax : (l.length : Int) ≤ 140737488355328) (j : Nat) (vals : List Value) (hI : Few_Inv l j vals) :
    StepOk Few_D Few_run E0 ρ (Few_Inv l) (Few_mu l) j vals := by
  obtain ⟨rfl, i, hi, rfl, hall⟩ := hI
  have hN : Few_D.N = 100 := rfl
  have v1 : (ρ.ext Few_D.N [.int .i64 i]).val 1 = some (papsR l) := by rw [ext_low _ _ _ _ (by rw [hN]; omega)]; exact h1
  have v100 : (ρ.ext Few_D.N [.int .i64 i]).val 100 = some (.int .i64 i) := by rw [ext_high _ _ _ _ (by rw [hN]; omega)]; rfl
  have vs : (ρ.ext Few_D.N [.int .i64 i]).sym = sy := hsy

  have s12 : sy 12 [papsR l] = some (.bool (smallB l)) := by show some (Value.bool (smallB (papsV (papsR l)))) = _; rw [papsV_R]
  refine step_of_ways (Few0_w _) (F := Few0_F) ?_ (AsksL.ok ?_) ?_
  · simp only [Few0_F, FactsIn, X.bool, X.den, denL, d_wrap, d_kind, d_not, d_neg, d_slen, d_add, d_sub, d_mul, d_div, d_mod, d_lt, d_le, d_eq, d_eqb, d_eqs, d_lts, d_cat, d_sat, d_and, d_or, denSub, denIte, asB, len_R, cell_R, lsub_R, v100, Option.some.injEq, Value.bool.injEq, decide_eq_false_iff_not, and_true]
    omega
  · cases hp : l[i]? with
    | none =>
      have hge : ¬ (i : Int) < l.length := by have := List.getElem?_eq_none_iff.1 hp; omega
      simp only [Few0_t, Few0_F, AsksL, GTree.asks, FTree.asks, FactsIn, List.append_nil, List.nil_append, List.cons_append, Option.some.injEq, exists_eq', implies_true, and_self, X.bool, X.den, denL, d_wrap, d_kind, d_not, d_neg, d_slen, d_add, d_sub, d_mul, d_div, d_mod, d_lt, d_le, d_eq, d_eqb, d_eqs, d_lts, d_cat, d_sat, d_and, d_or, denSub, denIte, asB, len_R, cell_R, lsub_R, v1, v100, vs, s12, Int.toNat_natCast, hp, hge]
      simp
    | some p => simp only [Few0_t, Few0_F, AsksL, GTree.asks, FTree.asks, FactsIn, List.append_nil, List.nil_append, List.cons_append, Option.some.injEq, exists_eq', implies_true, and_self, X.bool, X.den, denL, d_wrap, d_kind, d_not, d_neg, d_slen, d_add, d_sub, d_mul, d_div, d_mod, d_lt, d_le, d_eq, d_eqb, d_eqs, d_lts, d_cat, d_sat, d_and, d_or, denSub, denIte, asB, len_R, cell_R, lsub_R, v1, v100, vs, s12, Int.toNat_natCast, hp, Option.bind_some, row6, row7]
  · cases hp : l[i]? with
    | none =>
      have hge := List.getElem?_eq_none_iff.1 hp
      have hge' : ¬ (i : Int) < l.length := by omega
      simp only [Few0_l, EndsOk, WaysOk, forall_cons, forall_nil, TgtOk, gpair, FactsIn, hold_cons, hold_nil, Option.some.injEq, Value.bool.injEq, Value.int.injEq, decide_eq_true_eq, decide_eq_false_iff_not, and_true, true_and, and_imp, X.bool, X.den, denL, d_wrap, d_kind, d_not, d_neg, d_slen, d_add, d_sub, d_mul, d_div, d_mod, d_lt, d_le, d_eq, d_eqb, d_eqs, d_lts, d_cat, d_sat, d_and, d_or, denSub, denIte, asB, len_R, cell_R, lsub_R, v1, v100, vs, h1, hsy, s12, Int.toNat_natCast, hp, hge']
      have hi' : i = l.length := by omega
      subst hi'
      have : smallB l = true := by rw [List.take_length] at hall; exact hall
      simp [this]
    | some p =>
      have hlt : i < l.length := (List.getElem?_eq_some_iff.1 hp).1
      simp only [Few0_l, EndsOk, WaysOk, forall_cons, forall_nil, TgtOk, gpair, FactsIn, hold_cons, hold_nil, Option.some.injEq, Value.bool.injEq, Value.int.injEq, decide_eq_true_eq, decide_eq_false_iff_not, and_true, true_and, and_imp, X.bool, X.den, denL, d_wrap, d_kind, d_not, d_neg, d_slen, d_add, d_sub, d_mul, d_div, d_mod, d_lt, d_le, d_eq, d_eqb, d_eqs, d_lts, d_cat, d_sat, d_and, d_or, denSub, denIte, asB, len_R, cell_R, lsub_R, v1, v100, vs, h1, hsy, s12, Int.toNat_natCast, hp, Option.bind_some, row6, row7]
      have hpm : p ∈ l := List.mem_of_getElem? hp
      have bad : smallP p = false → smallB l = false := fun hs => by
        cases hf : smallB l with
        | false => rfl
        | true =>
          have := List.all_eq_true.1 hf p hpm
          rw [hs] at this; cases this
      refine ⟨?_, ?_, ?_, ?_⟩
      · intro h _ _
        have := bad (by simp [smallP, smallS]; omega)
        simp [this]
      · intro h h' _ _
        have := bad (by simp [smallP, smallS]; omega)
        simp [this]
      · intro h h' _ _
        refine ⟨[.int .i64 ((i + 1 : Nat) : Int)], ?_, ⟨rfl, i + 1, by omega, rfl, ?_⟩, ?_⟩
        · rw [ext_high _ _ _ _ (by rw [hN]; omega), IntWalk.i64_in _ (by omega)]; rfl
        · rw [List.take_add_one, hp]
          simp only [Option.toList_some, List.all_append, hall, List.all_cons, List.all_nil, Bool.and_true, Bool.true_and]
          simp [smallP, smallS]; omega
        · simp [Few_mu, vI]; omega
      · intro h _
        omega
noncomputable def Few_con : Con := { f := 15, args := [papsArg 0 0, .one (.int .i64 3)], N := 1, M := 1, pre := [(.op2 .lt (.num 140737488355328) (.var 3), false)], out := .sbool (.app 8 [.var 1, .var 3]), news := [] }
noncomputable def Few_call : Env → CallL := fun E => acallAll E (evH E (noL E) ((fun E => oneH 15 (hooks [(4, Few_D.hook E.facts Few_vs)])) E) 4)
noncomputable def Few_t : GTree := (.fork (.op2 .lt (.var 3) (.op1 .len (.var 1))) (.leaf [[]]) (.fork (.app 12 [(.var 1)]) (.leaf [[]]) (.leaf [[]])))
noncomputable def Few_l : List (List (X × Bool) × Option Pairs) := [([((.op2 .lt (.var 3) (.op1 .len (.var 1))), true), ((.op2 .lt (.num 140737488355328) (.var 3)), false)], some [((.app 8 [(.var 1), (.var 3)]), (.boo false))]),
  ([((.app 12 [(.var 1)]), true), ((.op2 .lt (.var 3) (.op1 .len (.var 1))), false), ((.op2 .lt (.num 140737488355328) (.var 3)), false)], some [((.app 8 [(.var 1), (.var 3)]), (.boo true))]),
  ([((.app 12 [(.var 1)]), false), ((.op2 .lt (.var 3) (.op1 .len (.var 1))), false), ((.op2 .lt (.num 140737488355328) (.var 3)), false)], some [((.app 8 [(.var 1), (.var 3)]), (.boo false))])]
theorem Few_w (r : Rho) : Few_con.fn.ways Few_call E0 r Few_con.pre Few_t = some Few_l := by kernel_rfl
theorem Few_H {r : Rho} {l : List Pap} {km : IntKind} {most : Int} (h1 : r.val 1 = some (papsR l)) (h3 : r.val 3 = some (.int km most)) (hsy : r.sym = sy) (hmost : most ≤ 140737488355328) (F : List (X × Bool)) :
    LoopsOk (E0.with F r) (oneH 15 (hooks [(4, Few_D.hook (E0.with F r).facts Few_vs)])) := by
  refine loops_all (n := 1) (fun f fn h => h) (by kernel_rfl) fun i hi => ?_
  obtain rfl : i = 0 := by omega
  rw [hooks_hit (show keyOf (loopAt (E0.with F r).P 15 0) = 4 by kernel_rfl)]
  refine hook_ok (E₀ := E0) (run := Few_run) (ρ := r) (Inv := Few_Inv l) (μ := Few_mu l) E0_ok Few_ok (fun F r' h => ?_) (fun hpre => ⟨Few_step h1 hsy (by have := hpre; simp only [Few_D, FactsIn, X.bool, X.den, denL, d_wrap, d_kind, d_not, d_neg, d_slen, d_add, d_sub, d_mul, d_div, d_mod, d_lt, d_le, d_eq, d_eqb, d_eqs, d_lts, d_cat, d_sat, d_and, d_or, denSub, denIte, asB, len_R, cell_R, lsub_R, h1, h3, Option.some.injEq, decide_eq_false_iff_not, and_true] at this; omega), [.int .i64 0], ?_, rfl, 0, Nat.zero_le _, rfl, rfl⟩)
  · exact bodyRun_ok E0_ok (noL_ok F (h.trans hsy)) fun _ _ => noLoop_ok
  · simp only [Few_vs, X.bool, X.den, denL, d_wrap, d_kind, d_not, d_neg, d_slen, d_add, d_sub, d_mul, d_div, d_mod, d_lt, d_le, d_eq, d_eqb, d_eqs, d_lts, d_cat, d_sat, d_and, d_or, denSub, denIte, asB, len_R, cell_R, lsub_R]
theorem Few_cok : Few_con.Ok Tryz.prog sy := by
  intro r σ w us hsy hρ hpre hrel hins
  obtain ⟨u0, us, rfl, g0, hi⟩ := ins_cons hins
  obtain ⟨u1, us, rfl, g1, hi⟩ := ins_cons hi
  obtain ⟨l, h1⟩ := paps_at hrel (i := 0) rfl
  obtain ⟨most, km, rfl, h3⟩ := one_int g1
  rw [hρ] at h1 h3
  have h1 : r.val 1 = some (papsR l) := h1
  have hmost : most ≤ 140737488355328 := by
    have := hpre.1
    simp only [X.bool, X.den, denL, d_wrap, d_kind, d_not, d_neg, d_slen, d_add, d_sub, d_mul, d_div, d_mod, d_lt, d_le, d_eq, d_eqb, d_eqs, d_lts, d_cat, d_sat, d_and, d_or, denSub, denIte, asB, len_R, cell_R, lsub_R, h3, Option.some.injEq, decide_eq_false_iff_not] at this
    omega
  have s12 : r.sym 12 [papsR l] = some (.bool (smallB l)) := by rw [hsy]; show some (Value.bool (smallB (papsV (papsR l)))) = _; rw [papsV_R]
  have s8 : r.sym 8 [papsR l, .int km most] = some (.bool (fewB l most)) := by rw [hsy]; show some (Value.bool (fewB (papsV (papsR l)) most)) = _; rw [papsV_R]
  refine con_of (E := E0) E0_ok E0_glob (sy := sy) (fun F => noL_ok F hsy) (fun F => Few_H h1 h3 hsy hmost F) (Few_w r) hρ hpre hrel hins ?_ ?_
  · simp only [Few_con, Few_t, AsksL, GTree.asks, FTree.asks, FactsIn, List.append_nil, List.nil_append, List.cons_append, Option.some.injEq, exists_eq', implies_true, and_self, X.bool, X.den, denL, d_wrap, d_kind, d_not, d_neg, d_slen, d_add, d_sub, d_mul, d_div, d_mod, d_lt, d_le, d_eq, d_eqb, d_eqs, d_lts, d_cat, d_sat, d_and, d_or, denSub, denIte, asB, len_R, cell_R, lsub_R, h1, h3, s8, s12]
  · simp only [Few_l, EndsOk, WaysOk, forall_cons, forall_nil, TgtOk, gpair, FactsIn, hold_cons, hold_nil, Option.some.injEq, Value.bool.injEq, Value.int.injEq, decide_eq_true_eq, decide_eq_false_iff_not, and_true, true_and, and_imp, X.bool, X.den, denL, d_wrap, d_kind, d_not, d_neg, d_slen, d_add, d_sub, d_mul, d_div, d_mod, d_lt, d_le, d_eq, d_eqb, d_eqs, d_lts, d_cat, d_sat, d_and, d_or, denSub, denIte, asB, len_R, cell_R, lsub_R, h1, h3, s8, s12]
    (repeat' apply And.intro) <;> intros <;> simp [fewB, *] <;> omega
end Go.Proofs.YtmhbhkipjjcmlaaGreatDoor.Zs

namespace Go.Proofs.YtmhbhkipjjcmlaaGreatDoor.Zs
open Go
set_option linter.unusedSimpArgs false
set_option linter.unusedVariables false

def Same_vs : List X := [.num 0]
noncomputable def Same_D : LoopD := { N := 100, M := 101, size := sizeOfF 21, reads := [(0, .rows 14 papSch (.var 0) (.var 1) false 26), (1, .rows 14 papSch (.var 3) (.var 4) false 26)], pats := [{ slots := [(0, .slx 0 14 (.var 0) (.num 0) (.op1 .len (.var 1)) (.var 2)), (1, .slx 1 14 (.var 3) (.num 0) (.op1 .len (.var 4)) (.var 5)), (5, .sint .i64 (.var 100))], heap := [] }], exits := [(.exit 0, { slots := [], heap := [], guard := .app 7 [.var 1, .var 4] }), (.ret, { slots := [(4, .sbool (.boo false))], heap := [], guard := .op1 .not (.app 7 [.var 1, .var 4]) })], own := [], pre := [(.op2 .eq (.op1 .len (.var 1)) (.op1 .len (.var 4)), true)] }
noncomputable def Same_run : Env → AF → ASt → Option (List Out) := bodyRun noL 4 (fun _ => noLoop) (loopAt Tryz.prog 21 0)
def Same0_F : List (X × Bool) := [(.op2 .lt (.var 100) (.num 0), false)]
noncomputable def Same0_t : FTree := (.fork (.op2 .lt (.var 100) (.op1 .len (.var 1))) (.fork (.op2 .lt (.var 100) (.op1 .len (.var 4))) (.fork (.op2 .eq (.cell 0 (.var 1) (.var 100)) (.cell 0 (.var 4) (.var 100))) (.fork (.op2 .eq (.cell 1 (.var 1) (.var 100)) (.cell 1 (.var 4) (.var 100))) (.fork (.op2 .eq (.cell 2 (.var 1) (.var 100)) (.cell 2 (.var 4) (.var 100))) (.fork (.op2 .eq (.cell 3 (.var 1) (.var 100)) (.cell 3 (.var 4) (.var 100))) (.fork (.op2 .eq (.cell 4 (.var 1) (.var 100)) (.cell 4 (.var 4) (.var 100))) (.fork (.op2 .eq (.cell 5 (.var 1) (.var 100)) (.cell 5 (.var 4) (.var 100))) (.fork (.op2 .eqs (.cell 6 (.var 1) (.var 100)) (.cell 6 (.var 4) (.var 100))) (.fork (.op2 .eqs (.cell 7 (.var 1) (.var 100)) (.cell 7 (.var 4) (.var 100))) (.fork (.op2 .eq (.cell 8 (.var 1) (.var 100)) (.cell 8 (.var 4) (.var 100))) (.fork (.op2 .eq (.cell 9 (.var 1) (.var 100)) (.cell 9 (.var 4) (.var 100))) (.fork (.op2 .eq (.cell 10 (.var 1) (.var 100)) (.cell 10 (.var 4) (.var 100))) (.fork (.op2 .eq (.cell 11 (.var 1) (.var 100)) (.cell 11 (.var 4) (.var 100))) (.fork (.op2 .eq (.cell 12 (.var 1) (.var 100)) (.cell 12 (.var 4) (.var 100))) (.fork (.op2 .eq (.cell 13 (.var 1) (.var 100)) (.cell 13 (.var 4) (.var 100))) (.leaf [(.again 0 [])]) (.leaf [(.leave 1 [])])) (.leaf [(.leave 1 [])])) (.leaf [(.leave 1 [])])) (.leaf [(.leave 1 [])])) (.leaf [(.leave 1 [])])) (.leaf [(.leave 1 [])])) (.leaf [(.leave 1 [])])) (.leaf [(.leave 1 [])])) (.leaf [(.leave 1 [])])) (.leaf [(.leave 1 [])])) (.leaf [(.leave 1 [])])) (.leaf [(.leave 1 [])])) (.leaf [(.leave 1 [])])) (.leaf [(.leave 1 [])])) .bad) (.leaf [(.leave 0 [])]))
noncomputable def Same0_l : List (List (X × Bool) × Option (List (Tgt × Pairs))) := [([((.op2 .eq (.cell 13 (.var 1) (.var 100)) (.cell 13 (.var 4) (.var 100))), true), ((.op2 .eq (.cell 12 (.var 1) (.var 100)) (.cell 12 (.var 4) (.var 100))), true), ((.op2 .eq (.cell 11 (.var 1) (.var 100)) (.cell 11 (.var 4) (.var 100))), true), ((.op2 .eq (.cell 10 (.var 1) (.var 100)) (.cell 10 (.var 4) (.var 100))), true), ((.op2 .eq (.cell 9 (.var 1) (.var 100)) (.cell 9 (.var 4) (.var 100))), true), ((.op2 .eq (.cell 8 (.var 1) (.var 100)) (.cell 8 (.var 4) (.var 100))), true), ((.op2 .eqs (.cell 7 (.var 1) (.var 100)) (.cell 7 (.var 4) (.var 100))), true), ((.op2 .eqs (.cell 6 (.var 1) (.var 100)) (.cell 6 (.var 4) (.var 100))), true), ((.op2 .eq (.cell 5 (.var 1) (.var 100)) (.cell 5 (.var 4) (.var 100))), true), ((.op2 .eq (.cell 4 (.var 1) (.var 100)) (.cell 4 (.var 4) (.var 100))), true), ((.op2 .eq (.cell 3 (.var 1) (.var 100)) (.cell 3 (.var 4) (.var 100))), true), ((.op2 .eq (.cell 2 (.var 1) (.var 100)) (.cell 2 (.var 4) (.var 100))), true), ((.op2 .eq (.cell 1 (.var 1) (.var 100)) (.cell 1 (.var 4) (.var 100))), true), ((.op2 .eq (.cell 0 (.var 1) (.var 100)) (.cell 0 (.var 4) (.var 100))), true), ((.op2 .lt (.var 100) (.op1 .len (.var 4))), true), ((.op2 .lt (.var 100) (.op1 .len (.var 1))), true), ((.op2 .lt (.var 100) (.num 0)), false)], some [((.again 0 []), [((.var 100), (.op1 (.wrap .i64) (.op2 .add (.var 100) (.num 1))))])]),
  ([((.op2 .eq (.cell 13 (.var 1) (.var 100)) (.cell 13 (.var 4) (.var 100))), false), ((.op2 .eq (.cell 12 (.var 1) (.var 100)) (.cell 12 (.var 4) (.var 100))), true), ((.op2 .eq (.cell 11 (.var 1) (.var 100)) (.cell 11 (.var 4) (.var 100))), true), ((.op2 .eq (.cell 10 (.var 1) (.var 100)) (.cell 10 (.var 4) (.var 100))), true), ((.op2 .eq (.cell 9 (.var 1) (.var 100)) (.cell 9 (.var 4) (.var 100))), true), ((.op2 .eq (.cell 8 (.var 1) (.var 100)) (.cell 8 (.var 4) (.var 100))), true), ((.op2 .eqs (.cell 7 (.var 1) (.var 100)) (.cell 7 (.var 4) (.var 100))), true), ((.op2 .eqs (.cell 6 (.var 1) (.var 100)) (.cell 6 (.var 4) (.var 100))), true), ((.op2 .eq (.cell 5 (.var 1) (.var 100)) (.cell 5 (.var 4) (.var 100))), true), ((.op2 .eq (.cell 4 (.var 1) (.var 100)) (.cell 4 (.var 4) (.var 100))), true), ((.op2 .eq (.cell 3 (.var 1) (.var 100)) (.cell 3 (.var 4) (.var 100))), true), ((.op2 .eq (.cell 2 (.var 1) (.var 100)) (.cell 2 (.var 4) (.var 100))), true), ((.op2 .eq (.cell 1 (.var 1) (.var 100)) (.cell 1 (.var 4) (.var 100))), true), ((.op2 .eq (.cell 0 (.var 1) (.var 100)) (.cell 0 (.var 4) (.var 100))), true), ((.op2 .lt (.var 100) (.op1 .len (.var 4))), true), ((.op2 .lt (.var 100) (.op1 .len (.var 1))), true), ((.op2 .lt (.var 100) (.num 0)), false)], some [((.leave 1 []), [((.op1 .not (.app 7 [(.var 1), (.var 4)])), (.boo true))])]),
  ([((.op2 .eq (.cell 12 (.var 1) (.var 100)) (.cell 12 (.var 4) (.var 100))), false), ((.op2 .eq (.cell 11 (.var 1) (.var 100)) (.cell 11 (.var 4) (.var 100))), true), ((.op2 .eq (.cell 10 (.var 1) (.var 100)) (.cell 10 (.var 4) (.var 100))), true), ((.op2 .eq (.cell 9 (.var 1) (.var 100)) (.cell 9 (.var 4) (.var 100))), true), ((.op2 .eq (.cell 8 (.var 1) (.var 100)) (.cell 8 (.var 4) (.var 100))), true), ((.op2 .eqs (.cell 7 (.var 1) (.var 100)) (.cell 7 (.var 4) (.var 100))), true), ((.op2 .eqs (.cell 6 (.var 1) (.var 100)) (.cell 6 (.var 4) (.var 100))), true), ((.op2 .eq (.cell 5 (.var 1) (.var 100)) (.cell 5 (.var 4) (.var 100))), true), ((.op2 .eq (.cell 4 (.var 1) (.var 100)) (.cell 4 (.var 4) (.var 100))), true), ((.op2 .eq (.cell 3 (.var 1) (.var 100)) (.cell 3 (.var 4) (.var 100))), true), ((.op2 .eq (.cell 2 (.var 1) (.var 100)) (.cell 2 (.var 4) (.var 100))), true), ((.op2 .eq (.cell 1 (.var 1) (.var 100)) (.cell 1 (.var 4) (.var 100))), true), ((.op2 .eq (.cell 0 (.var 1) (.var 100)) (.cell 0 (.var 4) (.var 100))), true), ((.op2 .lt (.var 100) (.op1 .len (.var 4))), true), ((.op2 .lt (.var 100) (.op1 .len (.var 1))), true), ((.op2 .lt (.var 100) (.num 0)), false)], some [((.leave 1 []), [((.op1 .not (.app 7 [(.var 1), (.var 4)])), (.boo true))])]),
  ([((.op2 .eq (.cell 11 (.var 1) (.var 100)) (.cell 11 (.var 4) (.var 100))), false), ((.op2 .eq (.cell 10 (.var 1) (.var 100)) (.cell 10 (.var 4) (.var 100))), true), ((.op2 .eq (.cell 9 (.var 1) (.var 100)) (.cell 9 (.var 4) (.var 100))), true), ((.op2 .eq (.cell 8 (.var 1) (.var 100)) (.cell 8 (.var 4) (.var 100))), true), ((.op2 .eqs (.cell 7 (.var 1) (.var 100)) (.cell 7 (.var 4) (.var 100))), true), ((.op2 .eqs (.cell 6 (.var 1) (.var 100)) (.cell 6 (.var 4) (.var 100))), true), ((.op2 .eq (.cell 5 (.var 1) (.var 100)) (.cell 5 (.var 4) (.var 100))), true), ((.op2 .eq (.cell 4 (.var 1) (.var 100)) (.cell 4 (.var 4) (.var 100))), true), ((.op2 .eq (.cell 3 (.var 1) (.var 100)) (.cell 3 (.var 4) (.var 100))), true), ((.op2 .eq (.cell 2 (.var 1) (.var 100)) (.cell 2 (.var 4) (.var 100))), true), ((.op2 .eq (.cell 1 (.var 1) (.var 100)) (.cell 1 (.var 4) (.var 100))), true), ((.op2 .eq (.cell 0 (.var 1) (.var 100)) (.cell 0 (.var 4) (.var 100))), true), ((.op2 .lt (.var 100) (.op1 .len (.var 4))), true), ((.op2 .lt (.var 100) (.op1 .len (.var 1))), true), ((.op2 .lt (.var 100) (.num 0)), false)], some [((.leave 1 []), [((.op1 .not (.app 7 [(.var 1), (.var 4)])), (.boo true))])]),
  ([((.op2 .eq (.cell 10 (.var 1) (.var 100)) (.cell 10 (.var 4) (.var 100))), false), ((.op2 .eq (.cell 9 (.var 1) (.var 100)) (.cell 9 (.var 4) (.var 100))), true), ((.op2 .eq (.cell 8 (.var 1) (.var 100)) (.cell 8 (.var 4) (.var 100))), true), ((.op2 .eqs (.cell 7 (.var 1) (.var 100)) (.cell 7 (.var 4) (.var 100))), true), ((.op2 .eqs (.cell 6 (.var 1) (.var 100)) (.cell 6 (.var 4) (.var 100))), true), ((.op2 .eq (.cell 5 (.var 1) (.var 100)) (.cell 5 (.var 4) (.var 100))), true), ((.op2 .eq (.cell 4 (.var 1) (.var 100)) (.cell 4 (.var 4) (.var 100))), true), ((.op2 .eq (.cell 3 (.var 1) (.var 100)) (.cell 3 (.var 4) (.var 100))), true), ((.op2 .eq (.cell 2 (.var 1) (.var 100)) (.cell 2 (.var 4) (.var 100))), true), ((.op2 .eq (.cell 1 (.var 1) (.var 100)) (.cell 1 (.var 4) (.var 100))), true), ((.op2 .eq (.cell 0 (.var 1) (.var 100)) (.cell 0 (.var 4) (.var 100))), true), ((.op2 .lt (.var 100) (.op1 .len (.var 4))), true), ((.op2 .lt (.var 100) (.op1 .len (.var 1))), true), ((.op2 .lt (.var 100) (.num 0)), false)], some [((.leave 1 []), [((.op1 .not (.app 7 [(.var 1), (.var 4)])), (.boo true))])]),
  ([((.op2 .eq (.cell 9 (.var 1) (.var 100)) (.cell 9 (.var 4) (.var 100))), false), ((.op2 .eq (.cell 8 (.var 1) (.var 100)) (.cell 8 (.var 4) (.var 100))), true), ((.op2 .eqs (.cell 7 (.var 1) (.var 100)) (.cell 7 (.var 4) (.var 100))), true), ((.op2 .eqs (.cell 6 (.var 1) (.var 100)) (.cell 6 (.var 4) (.var 100))), true), ((.op2 .eq (.cell 5 (.var 1) (.var 100)) (.cell 5 (.var 4) (.var 100))), true), ((.op2 .eq (.cell 4 (.var 1) (.var 100)) (.cell 4 (.var 4) (.var 100))), true), ((.op2 .eq (.cell 3 (.var 1) (.var 100)) (.cell 3 (.var 4) (.var 100))), true), ((.op2 .eq (.cell 2 (.var 1) (.var 100)) (.cell 2 (.var 4) (.var 100))), true), ((.op2 .eq (.cell 1 (.var 1) (.var 100)) (.cell 1 (.var 4) (.var 100))), true), ((.op2 .eq (.cell 0 (.var 1) (.var 100)) (.cell 0 (.var 4) (.var 100))), true), ((.op2 .lt (.var 100) (.op1 .len (.var 4))), true), ((.op2 .lt (.var 100) (.op1 .len (.var 1))), true), ((.op2 .lt (.var 100) (.num 0)), false)], some [((.leave 1 []), [((.op1 .not (.app 7 [(.var 1), (.var 4)])), (.boo true))])]),
  ([((.op2 .eq (.cell 8 (.var 1) (.var 100)) (.cell 8 (.var 4) (.var 100))), false), ((.op2 .eqs (.cell 7 (.var 1) (.var 100)) (.cell 7 (.var 4) (.var 100))), true), ((.op2 .eqs (.cell 6 (.var 1) (.var 100)) (.cell 6 (.var 4) (.var 100))), true), ((.op2 .eq (.cell 5 (.var 1) (.var 100)) (.cell 5 (.var 4) (.var 100))), true), ((.op2 .eq (.cell 4 (.var 1) (.var 100)) (.cell 4 (.var 4) (.var 100))), true), ((.op2 .eq (.cell 3 (.var 1) (.var 100)) (.cell 3 (.var 4) (.var 100))), true), ((.op2 .eq (.cell 2 (.var 1) (.var 100)) (.cell 2 (.var 4) (.var 100))), true), ((.op2 .eq (.cell 1 (.var 1) (.var 100)) (.cell 1 (.var 4) (.var 100))), true), ((.op2 .eq (.cell 0 (.var 1) (.var 100)) (.cell 0 (.var 4) (.var 100))), true), ((.op2 .lt (.var 100) (.op1 .len (.var 4))), true), ((.op2 .lt (.var 100) (.op1 .len (.var 1))), true), ((.op2 .lt (.var 100) (.num 0)), false)], some [((.leave 1 []), [((.op1 .not (.app 7 [(.var 1), (.var 4)])), (.boo true))])]),
  ([((.op2 .eqs (.cell 7 (.var 1) (.var 100)) (.cell 7 (.var 4) (.var 100))), false), ((.op2 .eqs (.cell 6 (.var 1) (.var 100)) (.cell 6 (.var 4) (.var 100))), true), ((.op2 .eq (.cell 5 (.var 1) (.var 100)) (.cell 5 (.var 4) (.var 100))), true), ((.op2 .eq (.cell 4 (.var 1) (.var 100)) (.cell 4 (.var 4) (.var 100))), true), ((.op2 .eq (.cell 3 (.var 1) (.var 100)) (.cell 3 (.var 4) (.var 100))), true), ((.op2 .eq (.cell 2 (.var 1) (.var 100)) (.cell 2 (.var 4) (.var 100))), true), ((.op2 .eq (.cell 1 (.var 1) (.var 100)) (.cell 1 (.var 4) (.var 100))), true), ((.op2 .eq (.cell 0 (.var 1) (.var 100)) (.cell 0 (.var 4) (.var 100))), true), ((.op2 .lt (.var 100) (.op1 .len (.var 4))), true), ((.op2 .lt (.var 100) (.op1 .len (.var 1))), true), ((.op2 .lt (.var 100) (.num 0)), false)], some [((.leave 1 []), [((.op1 .not (.app 7 [(.var 1), (.var 4)])), (.boo true))])]),
  ([((.op2 .eqs (.cell 6 (.var 1) (.var 100)) (.cell 6 (.var 4) (.var 100))), false), ((.op2 .eq (.cell 5 (.var 1) (.var 100)) (.cell 5 (.var 4) (.var 100))), true), ((.op2 .eq (.cell 4 (.var 1) (.var 100)) (.cell 4 (.var 4) (.var 100))), true), ((.op2 .eq (.cell 3 (.var 1) (.var 100)) (.cell 3 (.var 4) (.var 100))), true), ((.op2 .eq (.cell 2 (.var 1) (.var 100)) (.cell 2 (.var 4) (.var 100))), true), ((.op2 .eq (.cell 1 (.var 1) (.var 100)) (.cell 1 (.var 4) (.var 100))), true), ((.op2 .eq (.cell 0 (.var 1) (.var 100)) (.cell 0 (.var 4) (.var 100))), true), ((.op2 .lt (.var 100) (.op1 .len (.var 4))), true), ((.op2 .lt (.var 100) (.op1 .len (.var 1))), true), ((.op2 .lt (.var 100) (.num 0)), false)], some [((.leave 1 []), [((.op1 .not (.app 7 [(.var 1), (.var 4)])), (.boo true))])]),
  ([((.op2 .eq (.cell 5 (.var 1) (.var 100)) (.cell 5 (.var 4) (.var 100))), false), ((.op2 .eq (.cell 4 (.var 1) (.var 100)) (.cell 4 (.var 4) (.var 100))), true), ((.op2 .eq (.cell 3 (.var 1) (.var 100)) (.cell 3 (.var 4) (.var 100))), true), ((.op2 .eq (.cell 2 (.var 1) (.var 100)) (.cell 2 (.var 4) (.var 100))), true), ((.op2 .eq (.cell 1 (.var 1) (.var 100)) (.cell 1 (.var 4) (.var 100))), true), ((.op2 .eq (.cell 0 (.var 1) (.var 100)) (.cell 0 (.var 4) (.var 100))), true), ((.op2 .lt (.var 100) (.op1 .len (.var 4))), true), ((.op2 .lt (.var 100) (.op1 .len (.var 1))), true), ((.op2 .lt (.var 100) (.num 0)), false)], some [((.leave 1 []), [((.op1 .not (.app 7 [(.var 1), (.var 4)])), (.boo true))])]),
  ([((.op2 .eq (.cell 4 (.var 1) (.var 100)) (.cell 4 (.var 4) (.var 100))), false), ((.op2 .eq (.cell 3 (.var 1) (.var 100)) (.cell 3 (.var 4) (.var 100))), true), ((.op2 .eq (.cell 2 (.var 1) (.var 100)) (.cell 2 (.var 4) (.var 100))), true), ((.op2 .eq (.cell 1 (.var 1) (.var 100)) (.cell 1 (.var 4) (.var 100))), true), ((.op2 .eq (.cell 0 (.var 1) (.var 100)) (.cell 0 (.var 4) (.var 100))), true), ((.op2 .lt (.var 100) (.op1 .len (.var 4))), true), ((.op2 .lt (.var 100) (.op1 .len (.var 1))), true), ((.op2 .lt (.var 100) (.num 0)), false)], some [((.leave 1 []), [((.op1 .not (.app 7 [(.var 1), (.var 4)])), (.boo true))])]),
  ([((.op2 .eq (.cell 3 (.var 1) (.var 100)) (.cell 3 (.var 4) (.var 100))), false), ((.op2 .eq (.cell 2 (.var 1) (.var 100)) (.cell 2 (.var 4) (.var 100))), true), ((.op2 .eq (.cell 1 (.var 1) (.var 100)) (.cell 1 (.var 4) (.var 100))), true), ((.op2 .eq (.cell 0 (.var 1) (.var 100)) (.cell 0 (.var 4) (.var 100))), true), ((.op2 .lt (.var 100) (.op1 .len (.var 4))), true), ((.op2 .lt (.var 100) (.op1 .len (.var 1))), true), ((.op2 .lt (.var 100) (.num 0)), false)], some [((.leave 1 []), [((.op1 .not (.app 7 [(.var 1), (.var 4)])), (.boo true))])]),
  ([((.op2 .eq (.cell 2 (.var 1) (.var 100)) (.cell 2 (.var 4) (.var 100))), false), ((.op2 .eq (.cell 1 (.var 1) (.var 100)) (.cell 1 (.var 4) (.var 100))), true), ((.op2 .eq (.cell 0 (.var 1) (.var 100)) (.cell 0 (.var 4) (.var 100))), true), ((.op2 .lt (.var 100) (.op1 .len (.var 4))), true), ((.op2 .lt (.var 100) (.op1 .len (.var 1))), true), ((.op2 .lt (.var 100) (.num 0)), false)], some [((.leave 1 []), [((.op1 .not (.app 7 [(.var 1), (.var 4)])), (.boo true))])]),
  ([((.op2 .eq (.cell 1 (.var 1) (.var 100)) (.cell 1 (.var 4) (.var 100))), false), ((.op2 .eq (.cell 0 (.var 1) (.var 100)) (.cell 0 (.var 4) (.var 100))), true), ((.op2 .lt (.var 100) (.op1 .len (.var 4))), true), ((.op2 .lt (.var 100) (.op1 .len (.var 1))), true), ((.op2 .lt (.var 100) (.num 0)), false)], some [((.leave 1 []), [((.op1 .not (.app 7 [(.var 1), (.var 4)])), (.boo true))])]),
  ([((.op2 .eq (.cell 0 (.var 1) (.var 100)) (.cell 0 (.var 4) (.var 100))), false), ((.op2 .lt (.var 100) (.op1 .len (.var 4))), true), ((.op2 .lt (.var 100) (.op1 .len (.var 1))), true), ((.op2 .lt (.var 100) (.num 0)), false)], some [((.leave 1 []), [((.op1 .not (.app 7 [(.var 1), (.var 4)])), (.boo true))])]),
  ([((.op2 .lt (.var 100) (.op1 .len (.var 4))), false), ((.op2 .lt (.var 100) (.op1 .len (.var 1))), true), ((.op2 .lt (.var 100) (.num 0)), false)], none),
  ([((.op2 .lt (.var 100) (.op1 .len (.var 1))), false), ((.op2 .lt (.var 100) (.num 0)), false)], some [((.leave 0 []), [((.app 7 [(.var 1), (.var 4)]), (.boo true))])])]
theorem Same0_w (r : Rho) : Same_D.ways Same_run E0 r 0 Same0_F Same0_t = some Same0_l := by kernel_rfl
theorem Same_ok : Same_D.ok = true := by kernel_rfl
theorem pap_eq {p q : Pap} (h0 : p.id = q.id) (h1 : p.known = q.known) (h2 : p.kind = q.kind) (h3 : p.loss = q.loss) (h4 : p.pack = q.pack) (h5 : p.inn = q.inn) (h6 : p.mark = q.mark) (h7 : p.goods = q.goods) (h8 : p.wlo = q.wlo) (h9 : p.whi = q.whi)
    (h10 : p.pieces = q.pieces) (h11 : p.owner = q.owner) (h12 : p.count = q.count) (h13 : p.off = q.off) : p = q := by
  cases p; cases q; simp_all
def Same_Inv (a b : List Pap) (j : Nat) (vals : List Value) : Prop :=
  j = 0 ∧ ∃ i : Nat, i ≤ a.length ∧ vals = [.int .i64 i] ∧ a.take i = b.take i
def Same_mu (a : List Pap) (_ : Nat) (vals : List Value) : Nat := a.length - (vI (vals.getD 0 default)).toNat
theorem Same_step {ρ : Rho} {a b : List Pap} (h1 : ρ.val 1 = some (papsR a)) (h4 : ρ.val 4 = some (papsR b)) (hsy : ρ.sym = sy) (hlen : a.length = b.length) (hmax : (a.length : Int) ≤ 140737488355328) (j : Nat) (vals : List Value) (hI : Same_Inv a b j vals) :
    StepOk Same_D Same_run E0 ρ (Same_Inv a b) (Same_mu a) j vals := by
  obtain ⟨rfl, i, hi, rfl, hall⟩ := hI
  have hN : Same_D.N = 100 := rfl
  have v1 : (ρ.ext Same_D.N [.int .i64 i]).val 1 = some (papsR a) := by rw [ext_low _ _ _ _ (by rw [hN]; omega)]; exact h1
  have v4 : (ρ.ext Same_D.N [.int .i64 i]).val 4 = some (papsR b) := by rw [ext_low _ _ _ _ (by rw [hN]; omega)]; exact h4
  have v100 : (ρ.ext Same_D.N [.int .i64 i]).val 100 = some (.int .i64 i) := by rw [ext_high _ _ _ _ (by rw [hN]; omega)]; rfl
  have vs : (ρ.ext Same_D.N [.int .i64 i]).sym = sy := hsy

  have s7 : sy 7 [papsR a, papsR b] = some (.bool (a == b)) := by show some (Value.bool (papsV (papsR a) == papsV (papsR b))) = _; rw [papsV_R, papsV_R]
  refine step_of_ways (Same0_w _) (F := Same0_F) ?_ (AsksL.ok ?_) ?_
  · simp only [Same0_F, FactsIn, X.bool, X.den, denL, d_wrap, d_kind, d_not, d_neg, d_slen, d_add, d_sub, d_mul, d_div, d_mod, d_lt, d_le, d_eq, d_eqb, d_eqs, d_lts, d_cat, d_sat, d_and, d_or, denSub, denIte, asB, len_R, cell_R, lsub_R, v100, Option.some.injEq, Value.bool.injEq, decide_eq_false_iff_not, and_true]
    omega
  · cases hp : a[i]? with
    | none =>
      have hge : ¬ (i : Int) < a.length := by have := List.getElem?_eq_none_iff.1 hp; omega
      simp only [Same0_t, Same0_F, AsksL, GTree.asks, FTree.asks, FactsIn, List.append_nil, List.nil_append, List.cons_append, Option.some.injEq, exists_eq', implies_true, and_self, X.bool, X.den, denL, d_wrap, d_kind, d_not, d_neg, d_slen, d_add, d_sub, d_mul, d_div, d_mod, d_lt, d_le, d_eq, d_eqb, d_eqs, d_lts, d_cat, d_sat, d_and, d_or, denSub, denIte, asB, len_R, cell_R, lsub_R, v1, v4, v100, vs, s7, Int.toNat_natCast, hp, hge]
      simp
    | some p =>
      have hlt : i < a.length := (List.getElem?_eq_some_iff.1 hp).1
      obtain ⟨q, hq⟩ : ∃ q, b[i]? = some q := ⟨b[i], List.getElem?_eq_getElem (by omega)⟩
      simp only [Same0_t, Same0_F, AsksL, GTree.asks, FTree.asks, FactsIn, List.append_nil, List.nil_append, List.cons_append, Option.some.injEq, exists_eq', implies_true, and_self, X.bool, X.den, denL, d_wrap, d_kind, d_not, d_neg, d_slen, d_add, d_sub, d_mul, d_div, d_mod, d_lt, d_le, d_eq, d_eqb, d_eqs, d_lts, d_cat, d_sat, d_and, d_or, denSub, denIte, asB, len_R, cell_R, lsub_R, v1, v4, v100, vs, s7, Int.toNat_natCast, hp, hq, Option.bind_some, row0, row1, row2, row3, row4, row5, row6, row7, row8, row9, row10, row11, row12, row13]
  · cases hp : a[i]? with
    | none =>
      have hge := List.getElem?_eq_none_iff.1 hp
      have hge' : ¬ (i : Int) < a.length := by omega
      simp only [Same0_l, EndsOk, WaysOk, forall_cons, forall_nil, TgtOk, gpair, FactsIn, hold_cons, hold_nil, Option.some.injEq, Value.bool.injEq, Value.int.injEq, decide_eq_true_eq, decide_eq_false_iff_not, and_true, true_and, and_imp, X.bool, X.den, denL, d_wrap, d_kind, d_not, d_neg, d_slen, d_add, d_sub, d_mul, d_div, d_mod, d_lt, d_le, d_eq, d_eqb, d_eqs, d_lts, d_cat, d_sat, d_and, d_or, denSub, denIte, asB, len_R, cell_R, lsub_R, v1, v4, v100, vs, h1, h4, hsy, s7, Int.toNat_natCast, hp, hge']
      have hi' : i = a.length := by omega
      subst hi'
      have : (a == b) = true := by
        rw [List.take_length, hlen, List.take_length] at hall
        simpa using hall
      simp [this]
    | some p =>
      have hlt : i < a.length := (List.getElem?_eq_some_iff.1 hp).1
      obtain ⟨q, hq⟩ : ∃ q, b[i]? = some q := ⟨b[i], List.getElem?_eq_getElem (by omega)⟩
      have hlt1 : (i : Int) < a.length := by omega
      have hlt2 : (i : Int) < b.length := by omega
      simp only [Same0_l, EndsOk, WaysOk, forall_cons, forall_nil, TgtOk, gpair, FactsIn, hold_cons, hold_nil, Option.some.injEq, Value.bool.injEq, Value.int.injEq, decide_eq_true_eq, decide_eq_false_iff_not, and_true, true_and, and_imp, X.bool, X.den, denL, d_wrap, d_kind, d_not, d_neg, d_slen, d_add, d_sub, d_mul, d_div, d_mod, d_lt, d_le, d_eq, d_eqb, d_eqs, d_lts, d_cat, d_sat, d_and, d_or, denSub, denIte, asB, len_R, cell_R, lsub_R, v1, v4, v100, vs, h1, h4, hsy, s7, Int.toNat_natCast, hp, hq, Option.bind_some, row0, row1, row2, row3, row4, row5, row6, row7, row8, row9, row10, row11, row12, row13, hlt1, hlt2, beq_iff_eq, beq_eq_false_iff_ne, not_true_eq_false, Bool.not_eq_true', ne_eq]
      have bad : ¬ p = q → (a == b) = false := fun hs => by
        cases hf : (a == b) with
        | false => rfl
        | true =>
          have e : a = b := by simpa using hf
          subst e
          rw [hp] at hq
          exact absurd (Option.some.inj hq) hs
      have far : ∀ f : Pap → Int, ¬ f p = f q → ¬ a = b := fun f h e => by
        have := bad fun e => h (by rw [e])
        simp [e] at this
      have fas : ∀ f : Pap → ByteArray, (f p == f q) = false → ¬ a = b := fun f h e => by
        have := bad fun e => by rw [e, (ba_beq _ _).2 rfl] at h; cases h
        simp [e] at this
      refine ⟨?_, (fun h => by intros; exact far (·.off) h), (fun h => by intros; exact far (·.count) h), (fun h => by intros; exact far (·.owner) h), (fun h => by intros; exact far (·.pieces) h), (fun h => by intros; exact far (·.whi) h), (fun h => by intros; exact far (·.wlo) h), (fun h => by intros; exact fas (·.goods) h), (fun h => by intros; exact fas (·.mark) h), (fun h => by intros; exact far (·.inn) h), (fun h => by intros; exact far (·.pack) h), (fun h => by intros; exact far (·.loss) h), (fun h => by intros; exact far (·.kind) h), (fun h => by intros; exact far (·.known) h), (fun h => by intros; exact far (·.id) h), ?_⟩
      · intro h13 h12 h11 h10 h9 h8 h7 h6 h5 h4 h3 h2 h1 h0 _
        have e : p = q := pap_eq h0 h1 h2 h3 h4 h5 ((ba_beq _ _).1 h6) ((ba_beq _ _).1 h7) h8 h9 h10 h11 h12 h13
        refine ⟨[.int .i64 ((i + 1 : Nat) : Int)], ?_, ⟨rfl, i + 1, by omega, rfl, ?_⟩, ?_⟩
        · rw [ext_high _ _ _ _ (by rw [hN]; omega), IntWalk.i64_in _ (by omega)]; rfl
        · rw [List.take_add_one, List.take_add_one, hp, hq, hall, e]
        · simp [Same_mu, vI]; omega
      · simp

noncomputable def Same_con : Con := { f := 21, args := [papsArg 0 0, papsArg 1 3], N := 2, M := 2, pre := [(.app 20 [.var 1], true)], out := .sbool (.app 7 [.var 1, .var 4]), news := [] }
noncomputable def Same_call : Env → CallL := fun E => acallAll E (evH E (noL E) ((fun E => oneH 21 (hooks [(4, Same_D.hook E.facts Same_vs)])) E) 4)
noncomputable def Same_t : GTree := (.fork (.op2 .eq (.op1 .len (.var 1)) (.op1 .len (.var 4))) (.fork (.app 7 [(.var 1), (.var 4)]) (.leaf [[]]) (.leaf [[]])) (.leaf [[]]))
noncomputable def Same_l : List (List (X × Bool) × Option Pairs) := [([((.app 7 [(.var 1), (.var 4)]), true), ((.op2 .eq (.op1 .len (.var 1)) (.op1 .len (.var 4))), true), ((.app 20 [(.var 1)]), true)], some [((.app 7 [(.var 1), (.var 4)]), (.boo true))]),
  ([((.app 7 [(.var 1), (.var 4)]), false), ((.op2 .eq (.op1 .len (.var 1)) (.op1 .len (.var 4))), true), ((.app 20 [(.var 1)]), true)], some [((.app 7 [(.var 1), (.var 4)]), (.boo false))]),
  ([((.op2 .eq (.op1 .len (.var 1)) (.op1 .len (.var 4))), false), ((.app 20 [(.var 1)]), true)], some [((.app 7 [(.var 1), (.var 4)]), (.boo false))])]
theorem Same_w (r : Rho) : Same_con.fn.ways Same_call E0 r Same_con.pre Same_t = some Same_l := by kernel_rfl
theorem Same_H {r : Rho} {a b : List Pap} (h1 : r.val 1 = some (papsR a)) (h4 : r.val 4 = some (papsR b)) (hmax : (a.length : Int) ≤ 140737488355328) (hsy : r.sym = sy) (F : List (X × Bool)) :
    LoopsOk (E0.with F r) (oneH 21 (hooks [(4, Same_D.hook (E0.with F r).facts Same_vs)])) := by
  refine loops_all (n := 1) (fun f fn h => h) (by kernel_rfl) fun i hi => ?_
  obtain rfl : i = 0 := by omega
  rw [hooks_hit (show keyOf (loopAt (E0.with F r).P 21 0) = 4 by kernel_rfl)]
  refine hook_ok (E₀ := E0) (run := Same_run) (ρ := r) (Inv := Same_Inv a b) (μ := Same_mu a) E0_ok Same_ok (fun F r' h => ?_) (fun hpre => ⟨Same_step h1 h4 hsy (by have := hpre; simp [Same_D, FactsIn, X.bool, X.den, denL, d_wrap, d_kind, d_not, d_neg, d_slen, d_add, d_sub, d_mul, d_div, d_mod, d_lt, d_le, d_eq, d_eqb, d_eqs, d_lts, d_cat, d_sat, d_and, d_or, denSub, denIte, asB, len_R, cell_R, lsub_R, h1, h4] at this; omega) hmax, [.int .i64 0], ?_, rfl, 0, Nat.zero_le _, rfl, rfl⟩)
  · exact bodyRun_ok E0_ok (noL_ok F (h.trans hsy)) fun _ _ => noLoop_ok
  · simp only [Same_vs, X.bool, X.den, denL, d_wrap, d_kind, d_not, d_neg, d_slen, d_add, d_sub, d_mul, d_div, d_mod, d_lt, d_le, d_eq, d_eqb, d_eqs, d_lts, d_cat, d_sat, d_and, d_or, denSub, denIte, asB, len_R, cell_R, lsub_R]

theorem Same_cok : Same_con.Ok Tryz.prog sy := by
  intro r σ w us hsy hρ hpre hrel hins
  obtain ⟨a, h1⟩ := paps_at hrel (i := 0) rfl
  obtain ⟨b, h4⟩ := paps_at hrel (i := 1) rfl
  rw [hρ] at h1 h4
  have h1 : r.val 1 = some (papsR a) := h1
  have h4 : r.val 4 = some (papsR b) := h4
  have s20 : r.sym 20 [papsR a] = some (.bool (lenB a)) := by rw [hsy]; exact sym20 _
  have hmax : (a.length : Int) ≤ 140737488355328 := by
    have := hpre.1
    simp only [X.bool, X.den, denL, d_wrap, d_kind, d_not, d_neg, d_slen, d_add, d_sub, d_mul, d_div, d_mod, d_lt, d_le, d_eq, d_eqb, d_eqs, d_lts, d_cat, d_sat, d_and, d_or, denSub, denIte, asB, len_R, cell_R, lsub_R, h1, s20, Option.some.injEq, lenB, decide_eq_true_eq] at this
    exact this
  have s7 : r.sym 7 [papsR a, papsR b] = some (.bool (a == b)) := by rw [hsy]; show some (Value.bool (papsV (papsR a) == papsV (papsR b))) = _; rw [papsV_R, papsV_R]
  refine con_of (E := E0) E0_ok E0_glob (sy := sy) (fun F => noL_ok F hsy) (fun F => Same_H h1 h4 hmax hsy F) (Same_w r) hρ hpre hrel hins ?_ ?_
  · simp only [Same_con, Same_t, AsksL, GTree.asks, FTree.asks, FactsIn, List.append_nil, List.nil_append, List.cons_append, Option.some.injEq, exists_eq', implies_true, and_self, X.bool, X.den, denL, d_wrap, d_kind, d_not, d_neg, d_slen, d_add, d_sub, d_mul, d_div, d_mod, d_lt, d_le, d_eq, d_eqb, d_eqs, d_lts, d_cat, d_sat, d_and, d_or, denSub, denIte, asB, len_R, cell_R, lsub_R, h1, h4, s7, s20]
  · simp only [Same_l, EndsOk, WaysOk, forall_cons, forall_nil, TgtOk, gpair, FactsIn, hold_cons, hold_nil, Option.some.injEq, Value.bool.injEq, Value.int.injEq, decide_eq_true_eq, decide_eq_false_iff_not, and_true, true_and, and_imp, X.bool, X.den, denL, d_wrap, d_kind, d_not, d_neg, d_slen, d_add, d_sub, d_mul, d_div, d_mod, d_lt, d_le, d_eq, d_eqb, d_eqs, d_lts, d_cat, d_sat, d_and, d_or, denSub, denIte, asB, len_R, cell_R, lsub_R, h1, h4, s7, s20]
    have : ¬ a.length = b.length → (a == b) = false := fun h => by
      cases hf : (a == b) with
      | false => rfl
      | true => exact absurd (by rw [show a = b by simpa using hf]) h
    (repeat' apply And.intro) <;> intros <;> first | assumption | (apply this; simp_all; omega)
end Go.Proofs.YtmhbhkipjjcmlaaGreatDoor.Zs
