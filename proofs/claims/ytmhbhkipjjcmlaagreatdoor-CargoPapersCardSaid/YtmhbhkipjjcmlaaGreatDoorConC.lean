/-
  Contracts of package cargo: marks, names, CheckPaper.
-/
import Derived.Test.YtmhbhkipjjcmlaaGreatDoorConB
import Derived.KernelRfl
set_option linter.unusedSimpArgs false
set_option linter.unusedVariables false
namespace Go.Proofs.YtmhbhkipjjcmlaaGreatDoor.Zs
open Go
set_option linter.unusedSimpArgs false
set_option linter.unusedVariables false

theorem allUpto_at (p : Nat → Int → Bool) (s : ByteArray) : ∀ {n : Nat}, allUpto p s n = true → ∀ i, i < n → p i (byteAt s i) = true
  | 0, _, i, hi => by omega
  | n + 1, h, i, hi => by
    simp only [allUpto, Bool.and_eq_true] at h
    rcases Nat.lt_or_ge i n with hlt | hge
    · exact allUpto_at p s h.1 i hlt
    · rw [show i = n by omega]; exact h.2
theorem allUpto_of (p : Nat → Int → Bool) (s : ByteArray) : ∀ {n : Nat}, (∀ i, i < n → p i (byteAt s i) = true) → allUpto p s n = true
  | 0, _ => rfl
  | n + 1, h => by
    have h1 := allUpto_of p s (n := n) fun i hi => h i (by omega)
    have h2 := h n (by omega)
    simp only [allUpto, h1, h2, Bool.and_self]
theorem name_iff (s : ByteArray) : nameB s = (withinB s.size 1 24 && ((decide (97 ≤ byteAt s 0) && decide (byteAt s 0 ≤ 122)) && dashAll s)) := by
  rw [Bool.eq_iff_iff]
  simp only [nameB, withinB, dashAll, Bool.and_eq_true, decide_eq_true_eq]
  constructor
  · rintro ⟨⟨h0, h1⟩, h2⟩
    have at_ := fun i hi => allUpto_at nameC s h2 i hi
    have h3 := at_ 0 h0
    simp only [nameC, letterB, Bool.and_eq_true, Bool.or_eq_true, decide_eq_true_eq, beq_iff_eq] at h3
    refine ⟨⟨by omega, by omega⟩, ⟨by omega, by omega⟩, allUpto_of dashC s fun i hi => ?_⟩
    have h4 := at_ i hi
    simp only [nameC, Bool.and_eq_true] at h4
    exact h4.1
  · rintro ⟨⟨h0, h1⟩, ⟨h2, h3⟩, h4⟩
    refine ⟨⟨by omega, by omega⟩, allUpto_of nameC s fun i hi => ?_⟩
    have h5 := allUpto_at dashC s h4 i hi
    simp only [nameC, dashC, Bool.and_eq_true, Bool.or_eq_true, decide_eq_true_eq] at h5 ⊢
    refine ⟨h5, ?_⟩
    rcases Nat.eq_zero_or_pos i with e | e
    · subst e; exact .inr h2
    · exact .inl e
noncomputable def cwithin_con : Con := { f := 75, args := [.one (.int .i64 0), .one (.int .i64 1), .one (.int .i64 2)], N := 0, M := 0, pre := [], out := .sbool (.app 10 [.var 0, .var 1, .var 2]), news := [] }
noncomputable def cwithin_call : Env → CallL := fun E => acallAll E (evH E (noL E) ((fun _ => noLoops) E) 4)
noncomputable def cwithin_t : GTree := (.fork (.op2 .lt (.var 0) (.var 1)) (.leaf [[]]) (.leaf [[]]))
noncomputable def cwithin_l : List (List (X × Bool) × Option Pairs) := [([((.op2 .lt (.var 0) (.var 1)), true)], some [((.app 10 [(.var 0), (.var 1), (.var 2)]), (.boo false))]),
  ([((.op2 .lt (.var 0) (.var 1)), false)], some [((.app 10 [(.var 0), (.var 1), (.var 2)]), (.op1 .not (.op2 .lt (.var 2) (.var 0))))])]
theorem cwithin_w (r : Rho) : cwithin_con.fn.ways cwithin_call E0 r cwithin_con.pre cwithin_t = some cwithin_l := by kernel_rfl
theorem cwithin_cok : cwithin_con.Ok Tryz.prog sy := by
  intro r σ w us hsy hρ hpre hrel hins
  obtain ⟨u0, us, rfl, g0, hins⟩ := ins_cons hins
  obtain ⟨u1, us, rfl, g1, hins⟩ := ins_cons hins
  obtain ⟨u2, us, rfl, g2, hins⟩ := ins_cons hins
  obtain ⟨a, k0, rfl, h0⟩ := one_int g0
  obtain ⟨b, k1, rfl, h1⟩ := one_int g1
  obtain ⟨c, k2, rfl, h2⟩ := one_int g2
  rw [hρ] at h0 h1 h2
  have hs : r.sym 10 [.int k0 a, .int k1 b, .int k2 c] = some (.bool (withinB a b c)) := by rw [hsy]; rfl
  refine con_of (E := E0) E0_ok E0_glob (sy := sy) (fun F => noL_ok F hsy) (fun F => noH_ok) (cwithin_w r) hρ hpre hrel hins ?_ ?_
  · simp only [cwithin_con, cwithin_t, AsksL, GTree.asks, FTree.asks, FactsIn, List.append_nil, List.nil_append, List.cons_append, Option.some.injEq, exists_eq', implies_true, and_self, X.bool, X.den, denL, d_wrap, d_kind, d_not, d_neg, d_slen, d_add, d_sub, d_mul, d_div, d_mod, d_lt, d_le, d_eq, d_eqb, d_eqs, d_lts, d_cat, d_sat, d_and, d_or, denSub, denIte, asB, len_R, cell_R, lsub_R, h0, h1, h2, hs]
  · simp only [cwithin_l, EndsOk, WaysOk, forall_cons, forall_nil, TgtOk, gpair, FactsIn, hold_cons, hold_nil, Option.some.injEq, Value.bool.injEq, Value.int.injEq, decide_eq_true_eq, decide_eq_false_iff_not, and_true, true_and, and_imp, X.bool, X.den, denL, d_wrap, d_kind, d_not, d_neg, d_slen, d_add, d_sub, d_mul, d_div, d_mod, d_lt, d_le, d_eq, d_eqb, d_eqs, d_lts, d_cat, d_sat, d_and, d_or, denSub, denIte, asB, len_R, cell_R, lsub_R, h0, h1, h2, hs]
    (repeat' apply And.intro) <;> intros <;> first | trivial | (simp [withinB]; omega) | (rw [Bool.eq_iff_iff]; simp [withinB]; omega)
noncomputable def cspan_con : Con := { f := 127, args := [.agg [.int .i64 0, .int .i64 1], .one (.int .i64 2), .one (.int .i64 3)], N := 0, M := 0, pre := [], out := .sbool (.app 9 [.var 0, .var 1, .var 2, .var 3]), news := [] }
noncomputable def cspan_call : Env → CallL := fun E => acallAll E (evH E (noL E) ((fun _ => noLoops) E) 4)
noncomputable def cspan_t : GTree := (.fork (.op2 .lt (.var 0) (.var 2)) (.leaf [[]]) (.fork (.op2 .lt (.var 1) (.var 0)) (.leaf [[]]) (.leaf [[]])))
noncomputable def cspan_l : List (List (X × Bool) × Option Pairs) := [([((.op2 .lt (.var 0) (.var 2)), true)], some [((.app 9 [(.var 0), (.var 1), (.var 2), (.var 3)]), (.boo false))]),
  ([((.op2 .lt (.var 1) (.var 0)), true), ((.op2 .lt (.var 0) (.var 2)), false)], some [((.app 9 [(.var 0), (.var 1), (.var 2), (.var 3)]), (.boo false))]),
  ([((.op2 .lt (.var 1) (.var 0)), false), ((.op2 .lt (.var 0) (.var 2)), false)], some [((.app 9 [(.var 0), (.var 1), (.var 2), (.var 3)]), (.op1 .not (.op2 .lt (.var 3) (.var 1))))])]
theorem cspan_w (r : Rho) : cspan_con.fn.ways cspan_call E0 r cspan_con.pre cspan_t = some cspan_l := by kernel_rfl
theorem cspan_cok : cspan_con.Ok Tryz.prog sy := by
  intro r σ w us hsy hρ hpre hrel hins
  obtain ⟨u0, us, rfl, g0, hins⟩ := ins_cons hins
  obtain ⟨u1, us, rfl, g1, hins⟩ := ins_cons hins
  obtain ⟨u2, us, rfl, g2, hins⟩ := ins_cons hins
  obtain ⟨vs, rfl, gs⟩ := AV.inst_agg g0
  obtain ⟨x0, vs, rfl, g00, gs⟩ := ins_cons gs
  obtain ⟨x1, vs, rfl, g01, gs⟩ := ins_cons gs
  obtain ⟨a, k0, rfl, h0⟩ := one_int g00
  obtain ⟨b, k1, rfl, h1⟩ := one_int g01
  obtain ⟨c, k2, rfl, h2⟩ := one_int g1
  obtain ⟨d, k3, rfl, h3⟩ := one_int g2
  rw [hρ] at h0 h1 h2 h3
  have hs : r.sym 9 [.int k0 a, .int k1 b, .int k2 c, .int k3 d] = some (.bool (spanB a b c d)) := by rw [hsy]; rfl
  refine con_of (E := E0) E0_ok E0_glob (sy := sy) (fun F => noL_ok F hsy) (fun F => noH_ok) (cspan_w r) hρ hpre hrel hins ?_ ?_
  · simp only [cspan_con, cspan_t, AsksL, GTree.asks, FTree.asks, FactsIn, List.append_nil, List.nil_append, List.cons_append, Option.some.injEq, exists_eq', implies_true, and_self, X.bool, X.den, denL, d_wrap, d_kind, d_not, d_neg, d_slen, d_add, d_sub, d_mul, d_div, d_mod, d_lt, d_le, d_eq, d_eqb, d_eqs, d_lts, d_cat, d_sat, d_and, d_or, denSub, denIte, asB, len_R, cell_R, lsub_R, h0, h1, h2, h3, hs]
  · simp only [cspan_l, EndsOk, WaysOk, forall_cons, forall_nil, TgtOk, gpair, FactsIn, hold_cons, hold_nil, Option.some.injEq, Value.bool.injEq, Value.int.injEq, decide_eq_true_eq, decide_eq_false_iff_not, and_true, true_and, and_imp, X.bool, X.den, denL, d_wrap, d_kind, d_not, d_neg, d_slen, d_add, d_sub, d_mul, d_div, d_mod, d_lt, d_le, d_eq, d_eqb, d_eqs, d_lts, d_cat, d_sat, d_and, d_or, denSub, denIte, asB, len_R, cell_R, lsub_R, h0, h1, h2, h3, hs]
    (repeat' apply And.intro) <;> intros <;> first | trivial | (simp [spanB]; omega) | (rw [Bool.eq_iff_iff]; simp [spanB]; omega)
noncomputable def L6 : Env → CallE := libs [cLib cwithin_con]
theorem L6_ok (F : List (X × Bool)) {r : Rho} (h : r.sym = sy) : CallsOk (E0.with F r) (L6 (E0.with F r)) := libs_ok fun c hc => by
  simp only [List.mem_cons, List.not_mem_nil, or_false] at hc
  subst hc; exact lib_ok (E := E0) cwithin_cok F h

def isMark_vs : List X := [.num 0]
noncomputable def isMark_D : LoopD := { N := 100, M := 101, size := sizeOfF 156, reads := [], pats := [{ slots := [(0, .sstr (.var 0)), (1, .func (.func 157) [] []), (7, .sint .i64 (.op1 .slen (.var 0))), (8, .sint .i64 (.var 100))], heap := [] }], exits := [(.exit 0, { slots := [], heap := [], guard := .app 23 [.var 0] }), (.ret, { slots := [(4, .sbool (.boo false))], heap := [], guard := .op1 .not (.app 23 [.var 0]) })], own := [], pre := [] }
noncomputable def isMark_run : Env → AF → ASt → Option (List Out) := bodyRun noL 6 (fun _ => noLoop) (loopAt Tryz.prog 156 0)
def isMark0_F : List (X × Bool) := [(.op2 .lt (.var 100) (.num 0), false)]
noncomputable def isMark0_t : FTree := (.fork (.op2 .lt (.var 100) (.op1 .slen (.var 0))) (.fork (.op2 .lt (.op2 .sat (.var 0) (.var 100)) (.num 97)) (.fork (.op2 .lt (.op2 .sat (.var 0) (.var 100)) (.num 48)) (.fork (.op2 .eq (.op2 .sat (.var 0) (.var 100)) (.num 63)) (.leaf [(.again 0 [])]) (.leaf [(.leave 1 [])])) (.fork (.op2 .lt (.num 57) (.op2 .sat (.var 0) (.var 100))) (.fork (.op2 .eq (.op2 .sat (.var 0) (.var 100)) (.num 63)) (.leaf [(.again 0 [])]) (.leaf [(.leave 1 [])])) (.leaf [(.again 0 [])]))) (.fork (.op2 .lt (.num 122) (.op2 .sat (.var 0) (.var 100))) (.fork (.op2 .lt (.op2 .sat (.var 0) (.var 100)) (.num 48)) (.fork (.op2 .eq (.op2 .sat (.var 0) (.var 100)) (.num 63)) (.leaf [(.again 0 [])]) (.leaf [(.leave 1 [])])) (.fork (.op2 .lt (.num 57) (.op2 .sat (.var 0) (.var 100))) (.fork (.op2 .eq (.op2 .sat (.var 0) (.var 100)) (.num 63)) (.leaf [(.again 0 [])]) (.leaf [(.leave 1 [])])) (.leaf [(.again 0 [])]))) (.leaf [(.again 0 [])]))) (.leaf [(.leave 0 [])]))
noncomputable def isMark0_l : List (List (X × Bool) × Option (List (Tgt × Pairs))) := [([((.op2 .eq (.op2 .sat (.var 0) (.var 100)) (.num 63)), true), ((.op2 .lt (.op2 .sat (.var 0) (.var 100)) (.num 48)), true), ((.op2 .lt (.op2 .sat (.var 0) (.var 100)) (.num 97)), true), ((.op2 .lt (.var 100) (.op1 .slen (.var 0))), true), ((.op2 .lt (.var 100) (.num 0)), false)], some [((.again 0 []), [((.var 100), (.op1 (.wrap .i64) (.op2 .add (.var 100) (.num 1))))])]),
  ([((.op2 .eq (.op2 .sat (.var 0) (.var 100)) (.num 63)), false), ((.op2 .lt (.op2 .sat (.var 0) (.var 100)) (.num 48)), true), ((.op2 .lt (.op2 .sat (.var 0) (.var 100)) (.num 97)), true), ((.op2 .lt (.var 100) (.op1 .slen (.var 0))), true), ((.op2 .lt (.var 100) (.num 0)), false)], some [((.leave 1 []), [((.op1 .not (.app 23 [(.var 0)])), (.boo true))])]),
  ([((.op2 .eq (.op2 .sat (.var 0) (.var 100)) (.num 63)), true), ((.op2 .lt (.num 57) (.op2 .sat (.var 0) (.var 100))), true), ((.op2 .lt (.op2 .sat (.var 0) (.var 100)) (.num 48)), false), ((.op2 .lt (.op2 .sat (.var 0) (.var 100)) (.num 97)), true), ((.op2 .lt (.var 100) (.op1 .slen (.var 0))), true), ((.op2 .lt (.var 100) (.num 0)), false)], some [((.again 0 []), [((.var 100), (.op1 (.wrap .i64) (.op2 .add (.var 100) (.num 1))))])]),
  ([((.op2 .eq (.op2 .sat (.var 0) (.var 100)) (.num 63)), false), ((.op2 .lt (.num 57) (.op2 .sat (.var 0) (.var 100))), true), ((.op2 .lt (.op2 .sat (.var 0) (.var 100)) (.num 48)), false), ((.op2 .lt (.op2 .sat (.var 0) (.var 100)) (.num 97)), true), ((.op2 .lt (.var 100) (.op1 .slen (.var 0))), true), ((.op2 .lt (.var 100) (.num 0)), false)], some [((.leave 1 []), [((.op1 .not (.app 23 [(.var 0)])), (.boo true))])]),
  ([((.op2 .lt (.num 57) (.op2 .sat (.var 0) (.var 100))), false), ((.op2 .lt (.op2 .sat (.var 0) (.var 100)) (.num 48)), false), ((.op2 .lt (.op2 .sat (.var 0) (.var 100)) (.num 97)), true), ((.op2 .lt (.var 100) (.op1 .slen (.var 0))), true), ((.op2 .lt (.var 100) (.num 0)), false)], some [((.again 0 []), [((.var 100), (.op1 (.wrap .i64) (.op2 .add (.var 100) (.num 1))))])]),
  ([((.op2 .eq (.op2 .sat (.var 0) (.var 100)) (.num 63)), true), ((.op2 .lt (.op2 .sat (.var 0) (.var 100)) (.num 48)), true), ((.op2 .lt (.num 122) (.op2 .sat (.var 0) (.var 100))), true), ((.op2 .lt (.op2 .sat (.var 0) (.var 100)) (.num 97)), false), ((.op2 .lt (.var 100) (.op1 .slen (.var 0))), true), ((.op2 .lt (.var 100) (.num 0)), false)], some [((.again 0 []), [((.var 100), (.op1 (.wrap .i64) (.op2 .add (.var 100) (.num 1))))])]),
  ([((.op2 .eq (.op2 .sat (.var 0) (.var 100)) (.num 63)), false), ((.op2 .lt (.op2 .sat (.var 0) (.var 100)) (.num 48)), true), ((.op2 .lt (.num 122) (.op2 .sat (.var 0) (.var 100))), true), ((.op2 .lt (.op2 .sat (.var 0) (.var 100)) (.num 97)), false), ((.op2 .lt (.var 100) (.op1 .slen (.var 0))), true), ((.op2 .lt (.var 100) (.num 0)), false)], some [((.leave 1 []), [((.op1 .not (.app 23 [(.var 0)])), (.boo true))])]),
  ([((.op2 .eq (.op2 .sat (.var 0) (.var 100)) (.num 63)), true), ((.op2 .lt (.num 57) (.op2 .sat (.var 0) (.var 100))), true), ((.op2 .lt (.op2 .sat (.var 0) (.var 100)) (.num 48)), false), ((.op2 .lt (.num 122) (.op2 .sat (.var 0) (.var 100))), true), ((.op2 .lt (.op2 .sat (.var 0) (.var 100)) (.num 97)), false), ((.op2 .lt (.var 100) (.op1 .slen (.var 0))), true), ((.op2 .lt (.var 100) (.num 0)), false)], some [((.again 0 []), [((.var 100), (.op1 (.wrap .i64) (.op2 .add (.var 100) (.num 1))))])]),
  ([((.op2 .eq (.op2 .sat (.var 0) (.var 100)) (.num 63)), false), ((.op2 .lt (.num 57) (.op2 .sat (.var 0) (.var 100))), true), ((.op2 .lt (.op2 .sat (.var 0) (.var 100)) (.num 48)), false), ((.op2 .lt (.num 122) (.op2 .sat (.var 0) (.var 100))), true), ((.op2 .lt (.op2 .sat (.var 0) (.var 100)) (.num 97)), false), ((.op2 .lt (.var 100) (.op1 .slen (.var 0))), true), ((.op2 .lt (.var 100) (.num 0)), false)], some [((.leave 1 []), [((.op1 .not (.app 23 [(.var 0)])), (.boo true))])]),
  ([((.op2 .lt (.num 57) (.op2 .sat (.var 0) (.var 100))), false), ((.op2 .lt (.op2 .sat (.var 0) (.var 100)) (.num 48)), false), ((.op2 .lt (.num 122) (.op2 .sat (.var 0) (.var 100))), true), ((.op2 .lt (.op2 .sat (.var 0) (.var 100)) (.num 97)), false), ((.op2 .lt (.var 100) (.op1 .slen (.var 0))), true), ((.op2 .lt (.var 100) (.num 0)), false)], some [((.again 0 []), [((.var 100), (.op1 (.wrap .i64) (.op2 .add (.var 100) (.num 1))))])]),
  ([((.op2 .lt (.num 122) (.op2 .sat (.var 0) (.var 100))), false), ((.op2 .lt (.op2 .sat (.var 0) (.var 100)) (.num 97)), false), ((.op2 .lt (.var 100) (.op1 .slen (.var 0))), true), ((.op2 .lt (.var 100) (.num 0)), false)], some [((.again 0 []), [((.var 100), (.op1 (.wrap .i64) (.op2 .add (.var 100) (.num 1))))])]),
  ([((.op2 .lt (.var 100) (.op1 .slen (.var 0))), false), ((.op2 .lt (.var 100) (.num 0)), false)], some [((.leave 0 []), [((.app 23 [(.var 0)]), (.boo true))])])]
theorem isMark0_w (r : Rho) : isMark_D.ways isMark_run E0 r 0 isMark0_F isMark0_t = some isMark0_l := by kernel_rfl
theorem isMark_ok : isMark_D.ok = true := by kernel_rfl
def isMark_Inv (s : ByteArray) (j : Nat) (vals : List Value) : Prop :=
  j = 0 ∧ ∃ i : Nat, i ≤ s.size ∧ vals = [.int .i64 i] ∧ allUpto markC s i = true
def isMark_mu (s : ByteArray) (_ : Nat) (vals : List Value) : Nat := s.size - (vI (vals.getD 0 default)).toNat
theorem isMark_step {ρ : Rho} {s : ByteArray} (h0 : ρ.val 0 = some (.string s)) (hsy : ρ.sym = sy) (hmax : (s.size : Int) ≤ 140737488355328) (j : Nat) (vals : List Value) (hI : isMark_Inv s j vals) :
    StepOk isMark_D isMark_run E0 ρ (isMark_Inv s) (isMark_mu s) j vals := by
  obtain ⟨rfl, i, hi, rfl, hall⟩ := hI
  have hN : isMark_D.N = 100 := rfl
  have v0 : (ρ.ext isMark_D.N [.int .i64 i]).val 0 = some (.string s) := by rw [ext_low _ _ _ _ (by rw [hN]; omega)]; exact h0
  have v100 : (ρ.ext isMark_D.N [.int .i64 i]).val 100 = some (.int .i64 i) := by rw [ext_high _ _ _ _ (by rw [hN]; omega)]; rfl
  have vs : (ρ.ext isMark_D.N [.int .i64 i]).sym = sy := hsy

  have hs : sy 23 [.string s] = some (.bool (markAll s)) := rfl
  have hbyte : ∀ q : Nat, (((s[(q : Int).toNat]?.map UInt8.toNat).getD 0 : Nat) : Int) = byteAt s q := fun q => by simp [byteAt]
  have bad : i < s.size → markC i (byteAt s i) = false → markAll s = false := fun hlt hb => by
    cases hf : markAll s with
    | false => rfl
    | true =>
      have := allUpto_at markC s hf i hlt
      rw [hb] at this; cases this
  have badN : i < s.size → markC i (byteAt s i) = false → (!markAll s) = true := fun h1 h2 => by rw [bad h1 h2]; rfl
  refine step_of_ways (isMark0_w _) (F := isMark0_F) ?_ (AsksL.ok ?_) ?_
  · simp only [isMark0_F, FactsIn, X.bool, X.den, denL, d_wrap, d_kind, d_not, d_neg, d_slen, d_add, d_sub, d_mul, d_div, d_mod, d_lt, d_le, d_eq, d_eqb, d_eqs, d_lts, d_cat, d_sat, d_and, d_or, denSub, denIte, asB, len_R, cell_R, lsub_R, v100, Option.some.injEq, Value.bool.injEq, decide_eq_false_iff_not, and_true]
    omega
  · simp only [isMark0_t, isMark0_F, AsksL, GTree.asks, FTree.asks, FactsIn, List.append_nil, List.nil_append, List.cons_append, Option.some.injEq, exists_eq', implies_true, and_self, X.bool, X.den, denL, d_wrap, d_kind, d_not, d_neg, d_slen, d_add, d_sub, d_mul, d_div, d_mod, d_lt, d_le, d_eq, d_eqb, d_eqs, d_lts, d_cat, d_sat, d_and, d_or, denSub, denIte, asB, len_R, cell_R, lsub_R, v0, v100, vs, hs]
  · simp only [isMark0_l, EndsOk, WaysOk, forall_cons, forall_nil, TgtOk, gpair, FactsIn, hold_cons, hold_nil, Option.some.injEq, Value.bool.injEq, Value.int.injEq, decide_eq_true_eq, decide_eq_false_iff_not, and_true, true_and, and_imp, X.bool, X.den, denL, d_wrap, d_kind, d_not, d_neg, d_slen, d_add, d_sub, d_mul, d_div, d_mod, d_lt, d_le, d_eq, d_eqb, d_eqs, d_lts, d_cat, d_sat, d_and, d_or, denSub, denIte, asB, len_R, cell_R, lsub_R, v0, v100, vs, h0, hsy, hs, hbyte]
    have go : (i : Int) < s.size → markC i (byteAt s i) = true → ∃ vals', ((ρ.ext isMark_D.N vals').val 100 = some (.int .i64 (IntKind.i64.wrap ((i : Int) + 1)))) ∧
        isMark_Inv s 0 vals' ∧ isMark_mu s 0 vals' < isMark_mu s 0 [.int .i64 i] := by
      intro hlt hb
      refine ⟨[.int .i64 ((i + 1 : Nat) : Int)], ?_, ⟨rfl, i + 1, by omega, rfl, ?_⟩, ?_⟩
      · rw [ext_high _ _ _ _ (by rw [hN]; omega), IntWalk.i64_in _ (by omega)]; rfl
      · simp only [allUpto, hall, hb, Bool.and_self]
      · simp [isMark_mu, vI]; omega
    clear hsy vs v0 v100 h0 hs hN
    (repeat' apply And.intro) <;> intros <;> first
      | (exfalso; omega)
      | (refine go (by omega) ?_; clear bad badN go; simp only [markC, letterB, Bool.or_eq_true, Bool.or_eq_false_iff, Bool.and_eq_true, Bool.and_eq_false_iff, decide_eq_true_eq, decide_eq_false_iff_not, beq_iff_eq, beq_eq_false_iff_ne, ne_eq] at *; omega)
      | (refine bad (by omega) ?_; clear bad badN go; simp only [markC, letterB, Bool.or_eq_true, Bool.or_eq_false_iff, Bool.and_eq_true, Bool.and_eq_false_iff, decide_eq_true_eq, decide_eq_false_iff_not, beq_iff_eq, beq_eq_false_iff_ne, ne_eq] at *; omega)
      | (refine badN (by omega) ?_; clear bad badN go; simp only [markC, letterB, Bool.or_eq_true, Bool.or_eq_false_iff, Bool.and_eq_true, Bool.and_eq_false_iff, decide_eq_true_eq, decide_eq_false_iff_not, beq_iff_eq, beq_eq_false_iff_ne, ne_eq] at *; omega)
      | (have : i = s.size := by omega
         subst this
         exact hall)
      | (exfalso; omega)
def isName_vs : List X := [.num 0]
noncomputable def isName_D : LoopD := { N := 100, M := 101, size := sizeOfF 156, reads := [], pats := [{ slots := [(0, .sstr (.var 0)), (1, .func (.func 160) [] []), (7, .sint .i64 (.op1 .slen (.var 0))), (8, .sint .i64 (.var 100))], heap := [] }], exits := [(.exit 0, { slots := [], heap := [], guard := .app 24 [.var 0] }), (.ret, { slots := [(4, .sbool (.boo false))], heap := [], guard := .op1 .not (.app 24 [.var 0]) })], own := [], pre := [] }
noncomputable def isName_run : Env → AF → ASt → Option (List Out) := bodyRun noL 6 (fun _ => noLoop) (loopAt Tryz.prog 156 0)
def isName0_F : List (X × Bool) := [(.op2 .lt (.var 100) (.num 0), false)]
noncomputable def isName0_t : FTree := (.fork (.op2 .lt (.var 100) (.op1 .slen (.var 0))) (.fork (.op2 .lt (.op2 .sat (.var 0) (.var 100)) (.num 97)) (.fork (.op2 .lt (.op2 .sat (.var 0) (.var 100)) (.num 48)) (.fork (.op2 .eq (.op2 .sat (.var 0) (.var 100)) (.num 45)) (.leaf [(.again 0 [])]) (.leaf [(.leave 1 [])])) (.fork (.op2 .lt (.num 57) (.op2 .sat (.var 0) (.var 100))) (.fork (.op2 .eq (.op2 .sat (.var 0) (.var 100)) (.num 45)) (.leaf [(.again 0 [])]) (.leaf [(.leave 1 [])])) (.leaf [(.again 0 [])]))) (.fork (.op2 .lt (.num 122) (.op2 .sat (.var 0) (.var 100))) (.fork (.op2 .lt (.op2 .sat (.var 0) (.var 100)) (.num 48)) (.fork (.op2 .eq (.op2 .sat (.var 0) (.var 100)) (.num 45)) (.leaf [(.again 0 [])]) (.leaf [(.leave 1 [])])) (.fork (.op2 .lt (.num 57) (.op2 .sat (.var 0) (.var 100))) (.fork (.op2 .eq (.op2 .sat (.var 0) (.var 100)) (.num 45)) (.leaf [(.again 0 [])]) (.leaf [(.leave 1 [])])) (.leaf [(.again 0 [])]))) (.leaf [(.again 0 [])]))) (.leaf [(.leave 0 [])]))
noncomputable def isName0_l : List (List (X × Bool) × Option (List (Tgt × Pairs))) := [([((.op2 .eq (.op2 .sat (.var 0) (.var 100)) (.num 45)), true), ((.op2 .lt (.op2 .sat (.var 0) (.var 100)) (.num 48)), true), ((.op2 .lt (.op2 .sat (.var 0) (.var 100)) (.num 97)), true), ((.op2 .lt (.var 100) (.op1 .slen (.var 0))), true), ((.op2 .lt (.var 100) (.num 0)), false)], some [((.again 0 []), [((.var 100), (.op1 (.wrap .i64) (.op2 .add (.var 100) (.num 1))))])]),
  ([((.op2 .eq (.op2 .sat (.var 0) (.var 100)) (.num 45)), false), ((.op2 .lt (.op2 .sat (.var 0) (.var 100)) (.num 48)), true), ((.op2 .lt (.op2 .sat (.var 0) (.var 100)) (.num 97)), true), ((.op2 .lt (.var 100) (.op1 .slen (.var 0))), true), ((.op2 .lt (.var 100) (.num 0)), false)], some [((.leave 1 []), [((.op1 .not (.app 24 [(.var 0)])), (.boo true))])]),
  ([((.op2 .eq (.op2 .sat (.var 0) (.var 100)) (.num 45)), true), ((.op2 .lt (.num 57) (.op2 .sat (.var 0) (.var 100))), true), ((.op2 .lt (.op2 .sat (.var 0) (.var 100)) (.num 48)), false), ((.op2 .lt (.op2 .sat (.var 0) (.var 100)) (.num 97)), true), ((.op2 .lt (.var 100) (.op1 .slen (.var 0))), true), ((.op2 .lt (.var 100) (.num 0)), false)], some [((.again 0 []), [((.var 100), (.op1 (.wrap .i64) (.op2 .add (.var 100) (.num 1))))])]),
  ([((.op2 .eq (.op2 .sat (.var 0) (.var 100)) (.num 45)), false), ((.op2 .lt (.num 57) (.op2 .sat (.var 0) (.var 100))), true), ((.op2 .lt (.op2 .sat (.var 0) (.var 100)) (.num 48)), false), ((.op2 .lt (.op2 .sat (.var 0) (.var 100)) (.num 97)), true), ((.op2 .lt (.var 100) (.op1 .slen (.var 0))), true), ((.op2 .lt (.var 100) (.num 0)), false)], some [((.leave 1 []), [((.op1 .not (.app 24 [(.var 0)])), (.boo true))])]),
  ([((.op2 .lt (.num 57) (.op2 .sat (.var 0) (.var 100))), false), ((.op2 .lt (.op2 .sat (.var 0) (.var 100)) (.num 48)), false), ((.op2 .lt (.op2 .sat (.var 0) (.var 100)) (.num 97)), true), ((.op2 .lt (.var 100) (.op1 .slen (.var 0))), true), ((.op2 .lt (.var 100) (.num 0)), false)], some [((.again 0 []), [((.var 100), (.op1 (.wrap .i64) (.op2 .add (.var 100) (.num 1))))])]),
  ([((.op2 .eq (.op2 .sat (.var 0) (.var 100)) (.num 45)), true), ((.op2 .lt (.op2 .sat (.var 0) (.var 100)) (.num 48)), true), ((.op2 .lt (.num 122) (.op2 .sat (.var 0) (.var 100))), true), ((.op2 .lt (.op2 .sat (.var 0) (.var 100)) (.num 97)), false), ((.op2 .lt (.var 100) (.op1 .slen (.var 0))), true), ((.op2 .lt (.var 100) (.num 0)), false)], some [((.again 0 []), [((.var 100), (.op1 (.wrap .i64) (.op2 .add (.var 100) (.num 1))))])]),
  ([((.op2 .eq (.op2 .sat (.var 0) (.var 100)) (.num 45)), false), ((.op2 .lt (.op2 .sat (.var 0) (.var 100)) (.num 48)), true), ((.op2 .lt (.num 122) (.op2 .sat (.var 0) (.var 100))), true), ((.op2 .lt (.op2 .sat (.var 0) (.var 100)) (.num 97)), false), ((.op2 .lt (.var 100) (.op1 .slen (.var 0))), true), ((.op2 .lt (.var 100) (.num 0)), false)], some [((.leave 1 []), [((.op1 .not (.app 24 [(.var 0)])), (.boo true))])]),
  ([((.op2 .eq (.op2 .sat (.var 0) (.var 100)) (.num 45)), true), ((.op2 .lt (.num 57) (.op2 .sat (.var 0) (.var 100))), true), ((.op2 .lt (.op2 .sat (.var 0) (.var 100)) (.num 48)), false), ((.op2 .lt (.num 122) (.op2 .sat (.var 0) (.var 100))), true), ((.op2 .lt (.op2 .sat (.var 0) (.var 100)) (.num 97)), false), ((.op2 .lt (.var 100) (.op1 .slen (.var 0))), true), ((.op2 .lt (.var 100) (.num 0)), false)], some [((.again 0 []), [((.var 100), (.op1 (.wrap .i64) (.op2 .add (.var 100) (.num 1))))])]),
  ([((.op2 .eq (.op2 .sat (.var 0) (.var 100)) (.num 45)), false), ((.op2 .lt (.num 57) (.op2 .sat (.var 0) (.var 100))), true), ((.op2 .lt (.op2 .sat (.var 0) (.var 100)) (.num 48)), false), ((.op2 .lt (.num 122) (.op2 .sat (.var 0) (.var 100))), true), ((.op2 .lt (.op2 .sat (.var 0) (.var 100)) (.num 97)), false), ((.op2 .lt (.var 100) (.op1 .slen (.var 0))), true), ((.op2 .lt (.var 100) (.num 0)), false)], some [((.leave 1 []), [((.op1 .not (.app 24 [(.var 0)])), (.boo true))])]),
  ([((.op2 .lt (.num 57) (.op2 .sat (.var 0) (.var 100))), false), ((.op2 .lt (.op2 .sat (.var 0) (.var 100)) (.num 48)), false), ((.op2 .lt (.num 122) (.op2 .sat (.var 0) (.var 100))), true), ((.op2 .lt (.op2 .sat (.var 0) (.var 100)) (.num 97)), false), ((.op2 .lt (.var 100) (.op1 .slen (.var 0))), true), ((.op2 .lt (.var 100) (.num 0)), false)], some [((.again 0 []), [((.var 100), (.op1 (.wrap .i64) (.op2 .add (.var 100) (.num 1))))])]),
  ([((.op2 .lt (.num 122) (.op2 .sat (.var 0) (.var 100))), false), ((.op2 .lt (.op2 .sat (.var 0) (.var 100)) (.num 97)), false), ((.op2 .lt (.var 100) (.op1 .slen (.var 0))), true), ((.op2 .lt (.var 100) (.num 0)), false)], some [((.again 0 []), [((.var 100), (.op1 (.wrap .i64) (.op2 .add (.var 100) (.num 1))))])]),
  ([((.op2 .lt (.var 100) (.op1 .slen (.var 0))), false), ((.op2 .lt (.var 100) (.num 0)), false)], some [((.leave 0 []), [((.app 24 [(.var 0)]), (.boo true))])])]
theorem isName0_w (r : Rho) : isName_D.ways isName_run E0 r 0 isName0_F isName0_t = some isName0_l := by kernel_rfl
theorem isName_ok : isName_D.ok = true := by kernel_rfl
def isName_Inv (s : ByteArray) (j : Nat) (vals : List Value) : Prop :=
  j = 0 ∧ ∃ i : Nat, i ≤ s.size ∧ vals = [.int .i64 i] ∧ allUpto dashC s i = true
def isName_mu (s : ByteArray) (_ : Nat) (vals : List Value) : Nat := s.size - (vI (vals.getD 0 default)).toNat
theorem isName_step {ρ : Rho} {s : ByteArray} (h0 : ρ.val 0 = some (.string s)) (hsy : ρ.sym = sy) (hmax : (s.size : Int) ≤ 140737488355328) (j : Nat) (vals : List Value) (hI : isName_Inv s j vals) :
    StepOk isName_D isName_run E0 ρ (isName_Inv s) (isName_mu s) j vals := by
  obtain ⟨rfl, i, hi, rfl, hall⟩ := hI
  have hN : isName_D.N = 100 := rfl
  have v0 : (ρ.ext isName_D.N [.int .i64 i]).val 0 = some (.string s) := by rw [ext_low _ _ _ _ (by rw [hN]; omega)]; exact h0
  have v100 : (ρ.ext isName_D.N [.int .i64 i]).val 100 = some (.int .i64 i) := by rw [ext_high _ _ _ _ (by rw [hN]; omega)]; rfl
  have vs : (ρ.ext isName_D.N [.int .i64 i]).sym = sy := hsy

  have hs : sy 24 [.string s] = some (.bool (dashAll s)) := rfl
  have hbyte : ∀ q : Nat, (((s[(q : Int).toNat]?.map UInt8.toNat).getD 0 : Nat) : Int) = byteAt s q := fun q => by simp [byteAt]
  have bad : i < s.size → dashC i (byteAt s i) = false → dashAll s = false := fun hlt hb => by
    cases hf : dashAll s with
    | false => rfl
    | true =>
      have := allUpto_at dashC s hf i hlt
      rw [hb] at this; cases this
  have badN : i < s.size → dashC i (byteAt s i) = false → (!dashAll s) = true := fun h1 h2 => by rw [bad h1 h2]; rfl
  refine step_of_ways (isName0_w _) (F := isName0_F) ?_ (AsksL.ok ?_) ?_
  · simp only [isName0_F, FactsIn, X.bool, X.den, denL, d_wrap, d_kind, d_not, d_neg, d_slen, d_add, d_sub, d_mul, d_div, d_mod, d_lt, d_le, d_eq, d_eqb, d_eqs, d_lts, d_cat, d_sat, d_and, d_or, denSub, denIte, asB, len_R, cell_R, lsub_R, v100, Option.some.injEq, Value.bool.injEq, decide_eq_false_iff_not, and_true]
    omega
  · simp only [isName0_t, isName0_F, AsksL, GTree.asks, FTree.asks, FactsIn, List.append_nil, List.nil_append, List.cons_append, Option.some.injEq, exists_eq', implies_true, and_self, X.bool, X.den, denL, d_wrap, d_kind, d_not, d_neg, d_slen, d_add, d_sub, d_mul, d_div, d_mod, d_lt, d_le, d_eq, d_eqb, d_eqs, d_lts, d_cat, d_sat, d_and, d_or, denSub, denIte, asB, len_R, cell_R, lsub_R, v0, v100, vs, hs]
  · simp only [isName0_l, EndsOk, WaysOk, forall_cons, forall_nil, TgtOk, gpair, FactsIn, hold_cons, hold_nil, Option.some.injEq, Value.bool.injEq, Value.int.injEq, decide_eq_true_eq, decide_eq_false_iff_not, and_true, true_and, and_imp, X.bool, X.den, denL, d_wrap, d_kind, d_not, d_neg, d_slen, d_add, d_sub, d_mul, d_div, d_mod, d_lt, d_le, d_eq, d_eqb, d_eqs, d_lts, d_cat, d_sat, d_and, d_or, denSub, denIte, asB, len_R, cell_R, lsub_R, v0, v100, vs, h0, hsy, hs, hbyte]
    have go : (i : Int) < s.size → dashC i (byteAt s i) = true → ∃ vals', ((ρ.ext isName_D.N vals').val 100 = some (.int .i64 (IntKind.i64.wrap ((i : Int) + 1)))) ∧
        isName_Inv s 0 vals' ∧ isName_mu s 0 vals' < isName_mu s 0 [.int .i64 i] := by
      intro hlt hb
      refine ⟨[.int .i64 ((i + 1 : Nat) : Int)], ?_, ⟨rfl, i + 1, by omega, rfl, ?_⟩, ?_⟩
      · rw [ext_high _ _ _ _ (by rw [hN]; omega), IntWalk.i64_in _ (by omega)]; rfl
      · simp only [allUpto, hall, hb, Bool.and_self]
      · simp [isName_mu, vI]; omega
    clear hsy vs v0 v100 h0 hs hN
    (repeat' apply And.intro) <;> intros <;> first
      | (exfalso; omega)
      | (refine go (by omega) ?_; clear bad badN go; simp only [dashC, letterB, Bool.or_eq_true, Bool.or_eq_false_iff, Bool.and_eq_true, Bool.and_eq_false_iff, decide_eq_true_eq, decide_eq_false_iff_not, beq_iff_eq, beq_eq_false_iff_ne, ne_eq] at *; omega)
      | (refine bad (by omega) ?_; clear bad badN go; simp only [dashC, letterB, Bool.or_eq_true, Bool.or_eq_false_iff, Bool.and_eq_true, Bool.and_eq_false_iff, decide_eq_true_eq, decide_eq_false_iff_not, beq_iff_eq, beq_eq_false_iff_ne, ne_eq] at *; omega)
      | (refine badN (by omega) ?_; clear bad badN go; simp only [dashC, letterB, Bool.or_eq_true, Bool.or_eq_false_iff, Bool.and_eq_true, Bool.and_eq_false_iff, decide_eq_true_eq, decide_eq_false_iff_not, beq_iff_eq, beq_eq_false_iff_ne, ne_eq] at *; omega)
      | (have : i = s.size := by omega
         subst this
         exact hall)
      | (exfalso; omega)
noncomputable def cisMark_con : Con := { f := 125, args := [.one (.str 0)], N := 0, M := 0, pre := [(.app 19 [.var 0], true)], out := .sbool (.app 1 [.var 0]), news := [] }
noncomputable def cisMark_call : Env → CallL := fun E => acallAll E (evH E (L6 E) ((fun E => oneH 156 (hooks [(2, isMark_D.hook E.facts isMark_vs)])) E) 8)
noncomputable def cisMark_t : GTree := (.fork (.app 10 [(.op1 .slen (.var 0)), (.num 1), (.num 12)]) (.fork (.app 23 [(.var 0)]) (.leaf [[]]) (.leaf [[]])) (.leaf [[]]))
noncomputable def cisMark_l : List (List (X × Bool) × Option Pairs) := [([((.app 23 [(.var 0)]), true), ((.app 10 [(.op1 .slen (.var 0)), (.num 1), (.num 12)]), true), ((.app 19 [(.var 0)]), true)], some [((.app 1 [(.var 0)]), (.boo true))]),
  ([((.app 23 [(.var 0)]), false), ((.app 10 [(.op1 .slen (.var 0)), (.num 1), (.num 12)]), true), ((.app 19 [(.var 0)]), true)], some [((.app 1 [(.var 0)]), (.boo false))]),
  ([((.app 10 [(.op1 .slen (.var 0)), (.num 1), (.num 12)]), false), ((.app 19 [(.var 0)]), true)], some [((.app 1 [(.var 0)]), (.boo false))])]
theorem cisMark_w (r : Rho) : cisMark_con.fn.ways cisMark_call E0 r cisMark_con.pre cisMark_t = some cisMark_l := by kernel_rfl
theorem isMark_H {r : Rho} {s : ByteArray} (h0 : r.val 0 = some (.string s)) (hmax : (s.size : Int) ≤ 140737488355328) (hsy : r.sym = sy) (F : List (X × Bool)) :
    LoopsOk (E0.with F r) (oneH 156 (hooks [(2, isMark_D.hook (E0.with F r).facts isMark_vs)])) := by
  refine loops_all (n := 1) (fun f fn h => h) (by kernel_rfl) fun i hi => ?_
  obtain rfl : i = 0 := by omega
  rw [hooks_hit (show keyOf (loopAt (E0.with F r).P 156 0) = 2 by kernel_rfl)]
  refine hook_ok (E₀ := E0) (run := isMark_run) (ρ := r) (Inv := isMark_Inv s) (μ := isMark_mu s) E0_ok isMark_ok (fun F r' h => ?_) (fun _ => ⟨isMark_step h0 hsy hmax, [.int .i64 0], ?_, rfl, 0, Nat.zero_le _, rfl, rfl⟩)
  · exact bodyRun_ok E0_ok (noL_ok F (h.trans hsy)) fun _ _ => noLoop_ok
  · simp only [isMark_vs, X.bool, X.den, denL, d_wrap, d_kind, d_not, d_neg, d_slen, d_add, d_sub, d_mul, d_div, d_mod, d_lt, d_le, d_eq, d_eqb, d_eqs, d_lts, d_cat, d_sat, d_and, d_or, denSub, denIte, asB, len_R, cell_R, lsub_R]

theorem cisMark_cok : cisMark_con.Ok Tryz.prog sy := by
  intro r σ w us hsy hρ hpre hrel hins
  obtain ⟨u, rfl, g0⟩ := hins.single
  obtain ⟨s, rfl, h0⟩ := one_str g0
  rw [hρ] at h0
  have s19 : r.sym 19 [.string s] = some (.bool (shortB s)) := by rw [hsy]; rfl
  have hmax : (s.size : Int) ≤ 140737488355328 := by
    have := hpre.1
    simp only [X.bool, X.den, denL, d_wrap, d_kind, d_not, d_neg, d_slen, d_add, d_sub, d_mul, d_div, d_mod, d_lt, d_le, d_eq, d_eqb, d_eqs, d_lts, d_cat, d_sat, d_and, d_or, denSub, denIte, asB, len_R, cell_R, lsub_R, h0, s19, Option.some.injEq, shortB, decide_eq_true_eq] at this
    exact this
  have s1 : r.sym 1 [.string s] = some (.bool (markB s)) := by rw [hsy]; rfl
  have s2 : r.sym 23 [.string s] = some (.bool (markAll s)) := by rw [hsy]; rfl
  have s10 : ∀ k1 k2 k3 a b c, r.sym 10 [.int k1 a, .int k2 b, .int k3 c] = some (.bool (withinB a b c)) := fun _ _ _ _ _ _ => by rw [hsy]; rfl
  refine con_of (E := E0) E0_ok E0_glob (sy := sy) (fun F => L6_ok F hsy) (fun F => isMark_H h0 hmax hsy F) (cisMark_w r) hρ hpre hrel hins ?_ ?_
  · simp only [cisMark_con, cisMark_t, AsksL, GTree.asks, FTree.asks, FactsIn, List.append_nil, List.nil_append, List.cons_append, Option.some.injEq, exists_eq', implies_true, and_self, X.bool, X.den, denL, d_wrap, d_kind, d_not, d_neg, d_slen, d_add, d_sub, d_mul, d_div, d_mod, d_lt, d_le, d_eq, d_eqb, d_eqs, d_lts, d_cat, d_sat, d_and, d_or, denSub, denIte, asB, len_R, cell_R, lsub_R, h0, s1, s2, s10, s19]
  · simp only [cisMark_l, EndsOk, WaysOk, forall_cons, forall_nil, TgtOk, gpair, FactsIn, hold_cons, hold_nil, Option.some.injEq, Value.bool.injEq, Value.int.injEq, decide_eq_true_eq, decide_eq_false_iff_not, and_true, true_and, and_imp, X.bool, X.den, denL, d_wrap, d_kind, d_not, d_neg, d_slen, d_add, d_sub, d_mul, d_div, d_mod, d_lt, d_le, d_eq, d_eqb, d_eqs, d_lts, d_cat, d_sat, d_and, d_or, denSub, denIte, asB, len_R, cell_R, lsub_R, h0, s1, s2, s10, s19]
    (repeat' apply And.intro) <;> intros <;> simp_all [markB, markAll, withinB]
    all_goals first | omega | skip
noncomputable def cisName_con : Con := { f := 126, args := [.one (.str 0)], N := 0, M := 0, pre := [(.app 19 [.var 0], true)], out := .sbool (.app 2 [.var 0]), news := [] }
noncomputable def cisName_call : Env → CallL := fun E => acallAll E (evH E (L6 E) ((fun E => oneH 156 (hooks [(2, isName_D.hook E.facts isName_vs)])) E) 8)
noncomputable def cisName_t : GTree := (.fork (.app 10 [(.op1 .slen (.var 0)), (.num 1), (.num 24)]) (.fork (.op2 .lt (.num 0) (.op1 .slen (.var 0))) (.fork (.op2 .lt (.op2 .sat (.var 0) (.num 0)) (.num 97)) (.leaf [[]]) (.fork (.op2 .lt (.num 122) (.op2 .sat (.var 0) (.num 0))) (.leaf [[]]) (.fork (.app 24 [(.var 0)]) (.leaf [[]]) (.leaf [[]])))) .bad) (.leaf [[]]))
noncomputable def cisName_l : List (List (X × Bool) × Option Pairs) := [([((.op2 .lt (.op2 .sat (.var 0) (.num 0)) (.num 97)), true), ((.op2 .lt (.num 0) (.op1 .slen (.var 0))), true), ((.app 10 [(.op1 .slen (.var 0)), (.num 1), (.num 24)]), true), ((.app 19 [(.var 0)]), true)], some [((.app 2 [(.var 0)]), (.boo false))]),
  ([((.op2 .lt (.num 122) (.op2 .sat (.var 0) (.num 0))), true), ((.op2 .lt (.op2 .sat (.var 0) (.num 0)) (.num 97)), false), ((.op2 .lt (.num 0) (.op1 .slen (.var 0))), true), ((.app 10 [(.op1 .slen (.var 0)), (.num 1), (.num 24)]), true), ((.app 19 [(.var 0)]), true)], some [((.app 2 [(.var 0)]), (.boo false))]),
  ([((.app 24 [(.var 0)]), true), ((.op2 .lt (.num 122) (.op2 .sat (.var 0) (.num 0))), false), ((.op2 .lt (.op2 .sat (.var 0) (.num 0)) (.num 97)), false), ((.op2 .lt (.num 0) (.op1 .slen (.var 0))), true), ((.app 10 [(.op1 .slen (.var 0)), (.num 1), (.num 24)]), true), ((.app 19 [(.var 0)]), true)], some [((.app 2 [(.var 0)]), (.boo true))]),
  ([((.app 24 [(.var 0)]), false), ((.op2 .lt (.num 122) (.op2 .sat (.var 0) (.num 0))), false), ((.op2 .lt (.op2 .sat (.var 0) (.num 0)) (.num 97)), false), ((.op2 .lt (.num 0) (.op1 .slen (.var 0))), true), ((.app 10 [(.op1 .slen (.var 0)), (.num 1), (.num 24)]), true), ((.app 19 [(.var 0)]), true)], some [((.app 2 [(.var 0)]), (.boo false))]),
  ([((.op2 .lt (.num 0) (.op1 .slen (.var 0))), false), ((.app 10 [(.op1 .slen (.var 0)), (.num 1), (.num 24)]), true), ((.app 19 [(.var 0)]), true)], none),
  ([((.app 10 [(.op1 .slen (.var 0)), (.num 1), (.num 24)]), false), ((.app 19 [(.var 0)]), true)], some [((.app 2 [(.var 0)]), (.boo false))])]
theorem cisName_w (r : Rho) : cisName_con.fn.ways cisName_call E0 r cisName_con.pre cisName_t = some cisName_l := by kernel_rfl
theorem isName_H {r : Rho} {s : ByteArray} (h0 : r.val 0 = some (.string s)) (hmax : (s.size : Int) ≤ 140737488355328) (hsy : r.sym = sy) (F : List (X × Bool)) :
    LoopsOk (E0.with F r) (oneH 156 (hooks [(2, isName_D.hook (E0.with F r).facts isName_vs)])) := by
  refine loops_all (n := 1) (fun f fn h => h) (by kernel_rfl) fun i hi => ?_
  obtain rfl : i = 0 := by omega
  rw [hooks_hit (show keyOf (loopAt (E0.with F r).P 156 0) = 2 by kernel_rfl)]
  refine hook_ok (E₀ := E0) (run := isName_run) (ρ := r) (Inv := isName_Inv s) (μ := isName_mu s) E0_ok isName_ok (fun F r' h => ?_) (fun _ => ⟨isName_step h0 hsy hmax, [.int .i64 0], ?_, rfl, 0, Nat.zero_le _, rfl, rfl⟩)
  · exact bodyRun_ok E0_ok (noL_ok F (h.trans hsy)) fun _ _ => noLoop_ok
  · simp only [isName_vs, X.bool, X.den, denL, d_wrap, d_kind, d_not, d_neg, d_slen, d_add, d_sub, d_mul, d_div, d_mod, d_lt, d_le, d_eq, d_eqb, d_eqs, d_lts, d_cat, d_sat, d_and, d_or, denSub, denIte, asB, len_R, cell_R, lsub_R]

theorem cisName_cok : cisName_con.Ok Tryz.prog sy := by
  intro r σ w us hsy hρ hpre hrel hins
  obtain ⟨u, rfl, g0⟩ := hins.single
  obtain ⟨s, rfl, h0⟩ := one_str g0
  rw [hρ] at h0
  have s19 : r.sym 19 [.string s] = some (.bool (shortB s)) := by rw [hsy]; rfl
  have hmax : (s.size : Int) ≤ 140737488355328 := by
    have := hpre.1
    simp only [X.bool, X.den, denL, d_wrap, d_kind, d_not, d_neg, d_slen, d_add, d_sub, d_mul, d_div, d_mod, d_lt, d_le, d_eq, d_eqb, d_eqs, d_lts, d_cat, d_sat, d_and, d_or, denSub, denIte, asB, len_R, cell_R, lsub_R, h0, s19, Option.some.injEq, shortB, decide_eq_true_eq] at this
    exact this
  have s1 : r.sym 2 [.string s] = some (.bool (nameB s)) := by rw [hsy]; rfl
  have s2 : r.sym 24 [.string s] = some (.bool (dashAll s)) := by rw [hsy]; rfl
  have s10 : ∀ k1 k2 k3 a b c, r.sym 10 [.int k1 a, .int k2 b, .int k3 c] = some (.bool (withinB a b c)) := fun _ _ _ _ _ _ => by rw [hsy]; rfl
  refine con_of (E := E0) E0_ok E0_glob (sy := sy) (fun F => L6_ok F hsy) (fun F => isName_H h0 hmax hsy F) (cisName_w r) hρ hpre hrel hins ?_ ?_
  · simp only [cisName_con, cisName_t, AsksL, GTree.asks, FTree.asks, FactsIn, List.append_nil, List.nil_append, List.cons_append, Option.some.injEq, exists_eq', implies_true, and_self, X.bool, X.den, denL, d_wrap, d_kind, d_not, d_neg, d_slen, d_add, d_sub, d_mul, d_div, d_mod, d_lt, d_le, d_eq, d_eqb, d_eqs, d_lts, d_cat, d_sat, d_and, d_or, denSub, denIte, asB, len_R, cell_R, lsub_R, h0, s1, s2, s10, s19]
  · simp only [cisName_l, EndsOk, WaysOk, forall_cons, forall_nil, TgtOk, gpair, FactsIn, hold_cons, hold_nil, Option.some.injEq, Value.bool.injEq, Value.int.injEq, decide_eq_true_eq, decide_eq_false_iff_not, and_true, true_and, and_imp, X.bool, X.den, denL, d_wrap, d_kind, d_not, d_neg, d_slen, d_add, d_sub, d_mul, d_div, d_mod, d_lt, d_le, d_eq, d_eqb, d_eqs, d_lts, d_cat, d_sat, d_and, d_or, denSub, denIte, asB, len_R, cell_R, lsub_R, h0, s1, s2, s10, s19]
    have hbyte : (((s[(0 : Int).toNat]?.map UInt8.toNat).getD 0 : Nat) : Int) = byteAt s 0 := rfl
    simp only [hbyte, name_iff]
    (repeat' apply And.intro) <;> intros <;> first
      | trivial
      | (simp only [withinB, Bool.and_eq_true, Bool.and_eq_false_iff, decide_eq_true_eq, decide_eq_false_iff_not] at *; omega)
      | (simp only [*, Bool.true_and, Bool.and_true, Bool.false_and, Bool.and_false, decide_eq_true_eq]; done)
      | (simp_all; done)
      | (simp_all; omega)
end Go.Proofs.YtmhbhkipjjcmlaaGreatDoor.Zs

namespace Go.Proofs.YtmhbhkipjjcmlaaGreatDoor.Zs
open Go
set_option linter.unusedSimpArgs false
set_option linter.unusedVariables false

theorem sym3 (x : Pap) (k0 k1 k2 k3 k4 k5 k8 k9 k10 k11 k12 k13 : IntKind) :
    sy 3 [.int k0 x.id, .int k1 x.known, .int k2 x.kind, .int k3 x.loss, .int k4 x.pack, .int k5 x.inn, .string x.mark, .string x.goods, .int k8 x.wlo, .int k9 x.whi, .int k10 x.pieces, .int k11 x.owner, .int k12 x.count, .int k13 x.off] = some (.bool (formedB x)) := rfl
theorem sym21 (x : Pap) (k0 k1 k2 k3 k4 k5 k8 k9 k10 k11 k12 k13 : IntKind) :
    sy 21 [.int k0 x.id, .int k1 x.known, .int k2 x.kind, .int k3 x.loss, .int k4 x.pack, .int k5 x.inn, .string x.mark, .string x.goods, .int k8 x.wlo, .int k9 x.whi, .int k10 x.pieces, .int k11 x.owner, .int k12 x.count, .int k13 x.off] = some (.bool (pkB x)) := rfl
theorem sym22 (x : Pap) (k0 k1 k2 k3 k4 k5 k8 k9 k10 k11 k12 k13 : IntKind) :
    sy 22 [.int k0 x.id, .int k1 x.known, .int k2 x.kind, .int k3 x.loss, .int k4 x.pack, .int k5 x.inn, .string x.mark, .string x.goods, .int k8 x.wlo, .int k9 x.whi, .int k10 x.pieces, .int k11 x.owner, .int k12 x.count, .int k13 x.off] = some (.bool (totB x)) := rfl

noncomputable def L7 : Env → CallE := libs [cLib cwithin_con, cLib cspan_con, cLib cisMark_con, cLib cisName_con]
theorem L7_ok (F : List (X × Bool)) {r : Rho} (h : r.sym = sy) : CallsOk (E0.with F r) (L7 (E0.with F r)) := libs_ok fun c hc => by
  simp only [List.mem_cons, List.not_mem_nil, or_false] at hc
  rcases hc with rfl | rfl | rfl | rfl
  · exact lib_ok (E := E0) cwithin_cok F h
  · exact lib_ok (E := E0) cspan_cok F h
  · exact lib_ok (E := E0) cisMark_cok F h
  · exact lib_ok (E := E0) cisName_cok F h

noncomputable def pkFormed_con : Con := { f := 73, args := [.agg (papLeaves 0)], N := 0, M := 0, pre := [(.app 18 [.var 6, .var 7], true)], out := .sbool (.app 21 [.var 0, .var 1, .var 2, .var 3, .var 4, .var 5, .var 6, .var 7, .var 8, .var 9, .var 10, .var 11, .var 12, .var 13]), news := [] }
noncomputable def pkFormed_call : Env → CallL := fun E => acallAll E (evH E (L7 E) ((fun _ => noLoops) E) 6)
noncomputable def pkFormed_t : GTree := (.fork (.app 10 [(.var 3), (.num 1), (.num 20)]) (.fork (.app 10 [(.var 4), (.num 1), (.num 200)]) (.fork (.app 10 [(.var 5), (.num 0), (.num 200)]) (.fork (.op2 .eq (.var 5) (.var 4)) (.leaf [[]]) (.fork (.app 19 [(.var 6)]) (.fork (.app 1 [(.var 6)]) (.fork (.app 19 [(.var 7)]) (.fork (.app 2 [(.var 7)]) (.fork (.app 9 [(.var 8), (.var 9), (.num 1), (.num 100000)]) (.fork (.app 10 [(.var 10), (.num 1), (.num 20)]) (.leaf [[]]) (.leaf [[]])) (.leaf [[]])) (.leaf [[]])) .bad) (.leaf [[]])) .bad)) (.leaf [[]])) (.leaf [[]])) (.leaf [[]]))
noncomputable def pkFormed_l : List (List (X × Bool) × Option Pairs) := [([((.op2 .eq (.var 5) (.var 4)), true), ((.app 10 [(.var 5), (.num 0), (.num 200)]), true), ((.app 10 [(.var 4), (.num 1), (.num 200)]), true), ((.app 10 [(.var 3), (.num 1), (.num 20)]), true), ((.app 18 [(.var 6), (.var 7)]), true)], some [((.app 21 [(.var 0), (.var 1), (.var 2), (.var 3), (.var 4), (.var 5), (.var 6), (.var 7), (.var 8), (.var 9), (.var 10), (.var 11), (.var 12), (.var 13)]), (.boo false))]),
  ([((.app 10 [(.var 10), (.num 1), (.num 20)]), true), ((.app 9 [(.var 8), (.var 9), (.num 1), (.num 100000)]), true), ((.app 2 [(.var 7)]), true), ((.app 19 [(.var 7)]), true), ((.app 1 [(.var 6)]), true), ((.app 19 [(.var 6)]), true), ((.op2 .eq (.var 5) (.var 4)), false), ((.app 10 [(.var 5), (.num 0), (.num 200)]), true), ((.app 10 [(.var 4), (.num 1), (.num 200)]), true), ((.app 10 [(.var 3), (.num 1), (.num 20)]), true), ((.app 18 [(.var 6), (.var 7)]), true)], some [((.app 21 [(.var 0), (.var 1), (.var 2), (.var 3), (.var 4), (.var 5), (.var 6), (.var 7), (.var 8), (.var 9), (.var 10), (.var 11), (.var 12), (.var 13)]), (.app 10 [(.var 11), (.num 1), (.num 40)]))]),
  ([((.app 10 [(.var 10), (.num 1), (.num 20)]), false), ((.app 9 [(.var 8), (.var 9), (.num 1), (.num 100000)]), true), ((.app 2 [(.var 7)]), true), ((.app 19 [(.var 7)]), true), ((.app 1 [(.var 6)]), true), ((.app 19 [(.var 6)]), true), ((.op2 .eq (.var 5) (.var 4)), false), ((.app 10 [(.var 5), (.num 0), (.num 200)]), true), ((.app 10 [(.var 4), (.num 1), (.num 200)]), true), ((.app 10 [(.var 3), (.num 1), (.num 20)]), true), ((.app 18 [(.var 6), (.var 7)]), true)], some [((.app 21 [(.var 0), (.var 1), (.var 2), (.var 3), (.var 4), (.var 5), (.var 6), (.var 7), (.var 8), (.var 9), (.var 10), (.var 11), (.var 12), (.var 13)]), (.boo false))]),
  ([((.app 9 [(.var 8), (.var 9), (.num 1), (.num 100000)]), false), ((.app 2 [(.var 7)]), true), ((.app 19 [(.var 7)]), true), ((.app 1 [(.var 6)]), true), ((.app 19 [(.var 6)]), true), ((.op2 .eq (.var 5) (.var 4)), false), ((.app 10 [(.var 5), (.num 0), (.num 200)]), true), ((.app 10 [(.var 4), (.num 1), (.num 200)]), true), ((.app 10 [(.var 3), (.num 1), (.num 20)]), true), ((.app 18 [(.var 6), (.var 7)]), true)], some [((.app 21 [(.var 0), (.var 1), (.var 2), (.var 3), (.var 4), (.var 5), (.var 6), (.var 7), (.var 8), (.var 9), (.var 10), (.var 11), (.var 12), (.var 13)]), (.boo false))]),
  ([((.app 2 [(.var 7)]), false), ((.app 19 [(.var 7)]), true), ((.app 1 [(.var 6)]), true), ((.app 19 [(.var 6)]), true), ((.op2 .eq (.var 5) (.var 4)), false), ((.app 10 [(.var 5), (.num 0), (.num 200)]), true), ((.app 10 [(.var 4), (.num 1), (.num 200)]), true), ((.app 10 [(.var 3), (.num 1), (.num 20)]), true), ((.app 18 [(.var 6), (.var 7)]), true)], some [((.app 21 [(.var 0), (.var 1), (.var 2), (.var 3), (.var 4), (.var 5), (.var 6), (.var 7), (.var 8), (.var 9), (.var 10), (.var 11), (.var 12), (.var 13)]), (.boo false))]),
  ([((.app 19 [(.var 7)]), false), ((.app 1 [(.var 6)]), true), ((.app 19 [(.var 6)]), true), ((.op2 .eq (.var 5) (.var 4)), false), ((.app 10 [(.var 5), (.num 0), (.num 200)]), true), ((.app 10 [(.var 4), (.num 1), (.num 200)]), true), ((.app 10 [(.var 3), (.num 1), (.num 20)]), true), ((.app 18 [(.var 6), (.var 7)]), true)], none),
  ([((.app 1 [(.var 6)]), false), ((.app 19 [(.var 6)]), true), ((.op2 .eq (.var 5) (.var 4)), false), ((.app 10 [(.var 5), (.num 0), (.num 200)]), true), ((.app 10 [(.var 4), (.num 1), (.num 200)]), true), ((.app 10 [(.var 3), (.num 1), (.num 20)]), true), ((.app 18 [(.var 6), (.var 7)]), true)], some [((.app 21 [(.var 0), (.var 1), (.var 2), (.var 3), (.var 4), (.var 5), (.var 6), (.var 7), (.var 8), (.var 9), (.var 10), (.var 11), (.var 12), (.var 13)]), (.boo false))]),
  ([((.app 19 [(.var 6)]), false), ((.op2 .eq (.var 5) (.var 4)), false), ((.app 10 [(.var 5), (.num 0), (.num 200)]), true), ((.app 10 [(.var 4), (.num 1), (.num 200)]), true), ((.app 10 [(.var 3), (.num 1), (.num 20)]), true), ((.app 18 [(.var 6), (.var 7)]), true)], none),
  ([((.app 10 [(.var 5), (.num 0), (.num 200)]), false), ((.app 10 [(.var 4), (.num 1), (.num 200)]), true), ((.app 10 [(.var 3), (.num 1), (.num 20)]), true), ((.app 18 [(.var 6), (.var 7)]), true)], some [((.app 21 [(.var 0), (.var 1), (.var 2), (.var 3), (.var 4), (.var 5), (.var 6), (.var 7), (.var 8), (.var 9), (.var 10), (.var 11), (.var 12), (.var 13)]), (.boo false))]),
  ([((.app 10 [(.var 4), (.num 1), (.num 200)]), false), ((.app 10 [(.var 3), (.num 1), (.num 20)]), true), ((.app 18 [(.var 6), (.var 7)]), true)], some [((.app 21 [(.var 0), (.var 1), (.var 2), (.var 3), (.var 4), (.var 5), (.var 6), (.var 7), (.var 8), (.var 9), (.var 10), (.var 11), (.var 12), (.var 13)]), (.boo false))]),
  ([((.app 10 [(.var 3), (.num 1), (.num 20)]), false), ((.app 18 [(.var 6), (.var 7)]), true)], some [((.app 21 [(.var 0), (.var 1), (.var 2), (.var 3), (.var 4), (.var 5), (.var 6), (.var 7), (.var 8), (.var 9), (.var 10), (.var 11), (.var 12), (.var 13)]), (.boo false))])]
theorem pkFormed_w (r : Rho) : pkFormed_con.fn.ways pkFormed_call E0 r pkFormed_con.pre pkFormed_t = some pkFormed_l := by kernel_rfl
theorem pkFormed_cok : pkFormed_con.Ok Tryz.prog sy := by
  intro r σ w us hsy hρ hpre hrel hins
  obtain ⟨u0, us, rfl, g0, hi⟩ := ins_cons hins
  obtain ⟨p, k, rfl, hp⟩ := pap_agg g0
  rw [hρ] at hp
  have a0 := hp.h0
  have a1 := hp.h1
  have a2 := hp.h2
  have a3 := hp.h3
  have a4 := hp.h4
  have a5 := hp.h5
  have a6 := hp.h6
  have a7 := hp.h7
  have a8 := hp.h8
  have a9 := hp.h9
  have a10 := hp.h10
  have a11 := hp.h11
  have a12 := hp.h12
  have a13 := hp.h13
  simp only [Nat.zero_add] at a0 a1 a2 a3 a4 a5 a6 a7 a8 a9 a10 a11 a12 a13

  have hpre' := hpre
  simp only [pkFormed_con, FactsIn, X.bool, X.den, denL, d_wrap, d_kind, d_not, d_neg, d_slen, d_add, d_sub, d_mul, d_div, d_mod, d_lt, d_le, d_eq, d_eqb, d_eqs, d_lts, d_cat, d_sat, d_and, d_or, denSub, denIte, asB, len_R, cell_R, lsub_R, a0, a1, a2, a3, a4, a5, a6, a7, a8, a9, a10, a11, a12, a13, hsy, sym18, Option.some.injEq, and_true] at hpre'
  obtain ⟨sh1, sh2⟩ := short_of hpre'
  refine con_of (E := E0) E0_ok E0_glob (sy := sy) (fun F => L7_ok F hsy) (fun F => noH_ok) (pkFormed_w r) hρ hpre hrel hins ?_ ?_
  · simp only [pkFormed_con, pkFormed_t, AsksL, GTree.asks, FTree.asks, FactsIn, List.append_nil, List.nil_append, List.cons_append, Option.some.injEq, exists_eq', implies_true, and_self, X.bool, X.den, denL, d_wrap, d_kind, d_not, d_neg, d_slen, d_add, d_sub, d_mul, d_div, d_mod, d_lt, d_le, d_eq, d_eqb, d_eqs, d_lts, d_cat, d_sat, d_and, d_or, denSub, denIte, asB, len_R, cell_R, lsub_R, a0, a1, a2, a3, a4, a5, a6, a7, a8, a9, a10, a11, a12, a13, hsy, sym3, sym9, sym10, sym1, sym2, sym14, sym18, sym19, sym21, sym22, sh1, sh2, reduceCtorEq, false_implies, implies_true]
  · simp only [pkFormed_l, EndsOk, WaysOk, forall_cons, forall_nil, TgtOk, gpair, FactsIn, hold_cons, hold_nil, Option.some.injEq, Value.bool.injEq, Value.int.injEq, decide_eq_true_eq, decide_eq_false_iff_not, and_true, true_and, and_imp, X.bool, X.den, denL, d_wrap, d_kind, d_not, d_neg, d_slen, d_add, d_sub, d_mul, d_div, d_mod, d_lt, d_le, d_eq, d_eqb, d_eqs, d_lts, d_cat, d_sat, d_and, d_or, denSub, denIte, asB, len_R, cell_R, lsub_R, a0, a1, a2, a3, a4, a5, a6, a7, a8, a9, a10, a11, a12, a13, hsy, sym3, sym9, sym10, sym1, sym2, sym14, sym18, sym19, sym21, sym22, sh1, sh2, reduceCtorEq, false_implies, implies_true]
    clear hsy hρ hpre hrel hi hins g0 hp a0 a1 a2 a3 a4 a5 a6 a7 a8 a9 a10 a11 a12 a13
    (repeat' apply And.intro) <;> intros <;> (simp only [pkB, Bool.and_true, Bool.true_and, Bool.and_false, Bool.false_and, cond_true, cond_false, Bool.not_true, Bool.not_false, *]; try rfl)
noncomputable def totFormed_con : Con := { f := 74, args := [.agg (papLeaves 0)], N := 0, M := 0, pre := [(.app 18 [.var 6, .var 7], true)], out := .sbool (.app 22 [.var 0, .var 1, .var 2, .var 3, .var 4, .var 5, .var 6, .var 7, .var 8, .var 9, .var 10, .var 11, .var 12, .var 13]), news := [] }
noncomputable def totFormed_call : Env → CallL := fun E => acallAll E (evH E (L7 E) ((fun _ => noLoops) E) 6)
noncomputable def totFormed_t : GTree := (.fork (.app 10 [(.var 3), (.num 1), (.num 20)]) (.fork (.app 10 [(.var 4), (.num 0), (.num 200)]) (.fork (.app 10 [(.var 12), (.num 0), (.num 40)]) (.leaf [[]]) (.leaf [[]])) (.leaf [[]])) (.leaf [[]]))
noncomputable def totFormed_l : List (List (X × Bool) × Option Pairs) := [([((.app 10 [(.var 12), (.num 0), (.num 40)]), true), ((.app 10 [(.var 4), (.num 0), (.num 200)]), true), ((.app 10 [(.var 3), (.num 1), (.num 20)]), true), ((.app 18 [(.var 6), (.var 7)]), true)], some [((.app 22 [(.var 0), (.var 1), (.var 2), (.var 3), (.var 4), (.var 5), (.var 6), (.var 7), (.var 8), (.var 9), (.var 10), (.var 11), (.var 12), (.var 13)]), (.app 9 [(.var 8), (.var 9), (.num 0), (.num 10000000)]))]),
  ([((.app 10 [(.var 12), (.num 0), (.num 40)]), false), ((.app 10 [(.var 4), (.num 0), (.num 200)]), true), ((.app 10 [(.var 3), (.num 1), (.num 20)]), true), ((.app 18 [(.var 6), (.var 7)]), true)], some [((.app 22 [(.var 0), (.var 1), (.var 2), (.var 3), (.var 4), (.var 5), (.var 6), (.var 7), (.var 8), (.var 9), (.var 10), (.var 11), (.var 12), (.var 13)]), (.boo false))]),
  ([((.app 10 [(.var 4), (.num 0), (.num 200)]), false), ((.app 10 [(.var 3), (.num 1), (.num 20)]), true), ((.app 18 [(.var 6), (.var 7)]), true)], some [((.app 22 [(.var 0), (.var 1), (.var 2), (.var 3), (.var 4), (.var 5), (.var 6), (.var 7), (.var 8), (.var 9), (.var 10), (.var 11), (.var 12), (.var 13)]), (.boo false))]),
  ([((.app 10 [(.var 3), (.num 1), (.num 20)]), false), ((.app 18 [(.var 6), (.var 7)]), true)], some [((.app 22 [(.var 0), (.var 1), (.var 2), (.var 3), (.var 4), (.var 5), (.var 6), (.var 7), (.var 8), (.var 9), (.var 10), (.var 11), (.var 12), (.var 13)]), (.boo false))])]
theorem totFormed_w (r : Rho) : totFormed_con.fn.ways totFormed_call E0 r totFormed_con.pre totFormed_t = some totFormed_l := by kernel_rfl
theorem totFormed_cok : totFormed_con.Ok Tryz.prog sy := by
  intro r σ w us hsy hρ hpre hrel hins
  obtain ⟨u0, us, rfl, g0, hi⟩ := ins_cons hins
  obtain ⟨p, k, rfl, hp⟩ := pap_agg g0
  rw [hρ] at hp
  have a0 := hp.h0
  have a1 := hp.h1
  have a2 := hp.h2
  have a3 := hp.h3
  have a4 := hp.h4
  have a5 := hp.h5
  have a6 := hp.h6
  have a7 := hp.h7
  have a8 := hp.h8
  have a9 := hp.h9
  have a10 := hp.h10
  have a11 := hp.h11
  have a12 := hp.h12
  have a13 := hp.h13
  simp only [Nat.zero_add] at a0 a1 a2 a3 a4 a5 a6 a7 a8 a9 a10 a11 a12 a13

  have hpre' := hpre
  simp only [totFormed_con, FactsIn, X.bool, X.den, denL, d_wrap, d_kind, d_not, d_neg, d_slen, d_add, d_sub, d_mul, d_div, d_mod, d_lt, d_le, d_eq, d_eqb, d_eqs, d_lts, d_cat, d_sat, d_and, d_or, denSub, denIte, asB, len_R, cell_R, lsub_R, a0, a1, a2, a3, a4, a5, a6, a7, a8, a9, a10, a11, a12, a13, hsy, sym18, Option.some.injEq, and_true] at hpre'
  obtain ⟨sh1, sh2⟩ := short_of hpre'
  refine con_of (E := E0) E0_ok E0_glob (sy := sy) (fun F => L7_ok F hsy) (fun F => noH_ok) (totFormed_w r) hρ hpre hrel hins ?_ ?_
  · simp only [totFormed_con, totFormed_t, AsksL, GTree.asks, FTree.asks, FactsIn, List.append_nil, List.nil_append, List.cons_append, Option.some.injEq, exists_eq', implies_true, and_self, X.bool, X.den, denL, d_wrap, d_kind, d_not, d_neg, d_slen, d_add, d_sub, d_mul, d_div, d_mod, d_lt, d_le, d_eq, d_eqb, d_eqs, d_lts, d_cat, d_sat, d_and, d_or, denSub, denIte, asB, len_R, cell_R, lsub_R, a0, a1, a2, a3, a4, a5, a6, a7, a8, a9, a10, a11, a12, a13, hsy, sym3, sym9, sym10, sym1, sym2, sym14, sym18, sym19, sym21, sym22, sh1, sh2, reduceCtorEq, false_implies, implies_true]
  · simp only [totFormed_l, EndsOk, WaysOk, forall_cons, forall_nil, TgtOk, gpair, FactsIn, hold_cons, hold_nil, Option.some.injEq, Value.bool.injEq, Value.int.injEq, decide_eq_true_eq, decide_eq_false_iff_not, and_true, true_and, and_imp, X.bool, X.den, denL, d_wrap, d_kind, d_not, d_neg, d_slen, d_add, d_sub, d_mul, d_div, d_mod, d_lt, d_le, d_eq, d_eqb, d_eqs, d_lts, d_cat, d_sat, d_and, d_or, denSub, denIte, asB, len_R, cell_R, lsub_R, a0, a1, a2, a3, a4, a5, a6, a7, a8, a9, a10, a11, a12, a13, hsy, sym3, sym9, sym10, sym1, sym2, sym14, sym18, sym19, sym21, sym22, sh1, sh2, reduceCtorEq, false_implies, implies_true]
    clear hsy hρ hpre hrel hi hins g0 hp a0 a1 a2 a3 a4 a5 a6 a7 a8 a9 a10 a11 a12 a13
    (repeat' apply And.intro) <;> intros <;> (simp only [totB, Bool.and_true, Bool.true_and, Bool.and_false, Bool.false_and, cond_true, cond_false, Bool.not_true, Bool.not_false, *]; try rfl)
noncomputable def L8 : Env → CallE := libs [cLib cwithin_con, cLib pkFormed_con, cLib totFormed_con]
theorem L8_ok (F : List (X × Bool)) {r : Rho} (h : r.sym = sy) : CallsOk (E0.with F r) (L8 (E0.with F r)) := libs_ok fun c hc => by
  simp only [List.mem_cons, List.not_mem_nil, or_false] at hc
  rcases hc with rfl | rfl | rfl
  · exact lib_ok (E := E0) cwithin_cok F h
  · exact lib_ok (E := E0) pkFormed_cok F h
  · exact lib_ok (E := E0) totFormed_cok F h

noncomputable def cCheckPaper_con : Con := { f := 22, args := [.agg (papLeaves 0)], N := 0, M := 0, pre := [(.app 18 [.var 6, .var 7], true)], out := .sint .i64 (.app 14 [.var 0, .var 1, .var 2, .var 3, .var 4, .var 5, .var 6, .var 7, .var 8, .var 9, .var 10, .var 11, .var 12, .var 13]), news := [] }
noncomputable def cCheckPaper_call : Env → CallL := fun E => acallAll E (evH E (L8 E) ((fun _ => noLoops) E) 6)
noncomputable def cCheckPaper_t : GTree := (.fork (.op2 .eq (.var 2) (.num 1)) (.fork (.app 21 [(.var 0), (.var 1), (.var 2), (.var 3), (.var 4), (.var 5), (.var 6), (.var 7), (.var 8), (.var 9), (.var 10), (.var 11), (.var 12), (.var 13)]) (.fork (.op2 .eq (.var 12) (.num 0)) (.fork (.op2 .eq (.var 13) (.num 0)) (.fork (.app 10 [(.var 0), (.num 1), (.num 1000000)]) (.fork (.app 10 [(.var 1), (.num 0), (.num 1000000)]) (.leaf [[]]) (.leaf [[]])) (.leaf [[]])) (.leaf [[]])) (.leaf [[]])) (.leaf [[]])) (.fork (.op2 .eq (.var 2) (.num 2)) (.fork (.app 22 [(.var 0), (.var 1), (.var 2), (.var 3), (.var 4), (.var 5), (.var 6), (.var 7), (.var 8), (.var 9), (.var 10), (.var 11), (.var 12), (.var 13)]) (.fork (.op2 .eq (.var 5) (.num 0)) (.fork (.op2 .eqs (.var 6) (.str [])) (.fork (.op2 .eqs (.var 7) (.str [])) (.fork (.op2 .eq (.var 10) (.num 0)) (.fork (.op2 .eq (.var 11) (.num 0)) (.fork (.op2 .eq (.var 13) (.num 0)) (.fork (.app 10 [(.var 0), (.num 1), (.num 1000000)]) (.fork (.app 10 [(.var 1), (.num 0), (.num 1000000)]) (.leaf [[]]) (.leaf [[]])) (.leaf [[]])) (.leaf [[]])) (.leaf [[]])) (.leaf [[]])) (.leaf [[]])) (.leaf [[]])) (.leaf [[]])) (.leaf [[]])) (.fork (.op2 .eq (.var 2) (.num 3)) (.fork (.app 10 [(.var 13), (.num 1), (.num 1000000)]) (.fork (.op2 .eq (.var 3) (.num 0)) (.fork (.op2 .eq (.var 4) (.num 0)) (.fork (.op2 .eq (.var 5) (.num 0)) (.fork (.op2 .eqs (.var 6) (.str [])) (.fork (.op2 .eqs (.var 7) (.str [])) (.fork (.op2 .eq (.var 8) (.num 0)) (.fork (.op2 .eq (.var 9) (.num 0)) (.fork (.op2 .eq (.var 10) (.num 0)) (.fork (.op2 .eq (.var 11) (.num 0)) (.fork (.op2 .eq (.var 12) (.num 0)) (.fork (.app 10 [(.var 0), (.num 1), (.num 1000000)]) (.fork (.app 10 [(.var 1), (.num 0), (.num 1000000)]) (.leaf [[]]) (.leaf [[]])) (.leaf [[]])) (.leaf [[]])) (.leaf [[]])) (.leaf [[]])) (.leaf [[]])) (.leaf [[]])) (.leaf [[]])) (.leaf [[]])) (.leaf [[]])) (.leaf [[]])) (.leaf [[]])) (.leaf [[]])) (.leaf [[]]))))
noncomputable def cCheckPaper_l : List (List (X × Bool) × Option Pairs) := [([((.app 10 [(.var 1), (.num 0), (.num 1000000)]), true), ((.app 10 [(.var 0), (.num 1), (.num 1000000)]), true), ((.op2 .eq (.var 13) (.num 0)), true), ((.op2 .eq (.var 12) (.num 0)), true), ((.app 21 [(.var 0), (.var 1), (.var 2), (.var 3), (.var 4), (.var 5), (.var 6), (.var 7), (.var 8), (.var 9), (.var 10), (.var 11), (.var 12), (.var 13)]), true), ((.op2 .eq (.var 2) (.num 1)), true), ((.app 18 [(.var 6), (.var 7)]), true)], some [((.app 14 [(.var 0), (.var 1), (.var 2), (.var 3), (.var 4), (.var 5), (.var 6), (.var 7), (.var 8), (.var 9), (.var 10), (.var 11), (.var 12), (.var 13)]), (.num 0))]),
  ([((.app 10 [(.var 1), (.num 0), (.num 1000000)]), false), ((.app 10 [(.var 0), (.num 1), (.num 1000000)]), true), ((.op2 .eq (.var 13) (.num 0)), true), ((.op2 .eq (.var 12) (.num 0)), true), ((.app 21 [(.var 0), (.var 1), (.var 2), (.var 3), (.var 4), (.var 5), (.var 6), (.var 7), (.var 8), (.var 9), (.var 10), (.var 11), (.var 12), (.var 13)]), true), ((.op2 .eq (.var 2) (.num 1)), true), ((.app 18 [(.var 6), (.var 7)]), true)], some [((.app 14 [(.var 0), (.var 1), (.var 2), (.var 3), (.var 4), (.var 5), (.var 6), (.var 7), (.var 8), (.var 9), (.var 10), (.var 11), (.var 12), (.var 13)]), (.num 1))]),
  ([((.app 10 [(.var 0), (.num 1), (.num 1000000)]), false), ((.op2 .eq (.var 13) (.num 0)), true), ((.op2 .eq (.var 12) (.num 0)), true), ((.app 21 [(.var 0), (.var 1), (.var 2), (.var 3), (.var 4), (.var 5), (.var 6), (.var 7), (.var 8), (.var 9), (.var 10), (.var 11), (.var 12), (.var 13)]), true), ((.op2 .eq (.var 2) (.num 1)), true), ((.app 18 [(.var 6), (.var 7)]), true)], some [((.app 14 [(.var 0), (.var 1), (.var 2), (.var 3), (.var 4), (.var 5), (.var 6), (.var 7), (.var 8), (.var 9), (.var 10), (.var 11), (.var 12), (.var 13)]), (.num 1))]),
  ([((.op2 .eq (.var 13) (.num 0)), false), ((.op2 .eq (.var 12) (.num 0)), true), ((.app 21 [(.var 0), (.var 1), (.var 2), (.var 3), (.var 4), (.var 5), (.var 6), (.var 7), (.var 8), (.var 9), (.var 10), (.var 11), (.var 12), (.var 13)]), true), ((.op2 .eq (.var 2) (.num 1)), true), ((.app 18 [(.var 6), (.var 7)]), true)], some [((.app 14 [(.var 0), (.var 1), (.var 2), (.var 3), (.var 4), (.var 5), (.var 6), (.var 7), (.var 8), (.var 9), (.var 10), (.var 11), (.var 12), (.var 13)]), (.num 1))]),
  ([((.op2 .eq (.var 12) (.num 0)), false), ((.app 21 [(.var 0), (.var 1), (.var 2), (.var 3), (.var 4), (.var 5), (.var 6), (.var 7), (.var 8), (.var 9), (.var 10), (.var 11), (.var 12), (.var 13)]), true), ((.op2 .eq (.var 2) (.num 1)), true), ((.app 18 [(.var 6), (.var 7)]), true)], some [((.app 14 [(.var 0), (.var 1), (.var 2), (.var 3), (.var 4), (.var 5), (.var 6), (.var 7), (.var 8), (.var 9), (.var 10), (.var 11), (.var 12), (.var 13)]), (.num 1))]),
  ([((.app 21 [(.var 0), (.var 1), (.var 2), (.var 3), (.var 4), (.var 5), (.var 6), (.var 7), (.var 8), (.var 9), (.var 10), (.var 11), (.var 12), (.var 13)]), false), ((.op2 .eq (.var 2) (.num 1)), true), ((.app 18 [(.var 6), (.var 7)]), true)], some [((.app 14 [(.var 0), (.var 1), (.var 2), (.var 3), (.var 4), (.var 5), (.var 6), (.var 7), (.var 8), (.var 9), (.var 10), (.var 11), (.var 12), (.var 13)]), (.num 1))]),
  ([((.app 10 [(.var 1), (.num 0), (.num 1000000)]), true), ((.app 10 [(.var 0), (.num 1), (.num 1000000)]), true), ((.op2 .eq (.var 13) (.num 0)), true), ((.op2 .eq (.var 11) (.num 0)), true), ((.op2 .eq (.var 10) (.num 0)), true), ((.op2 .eqs (.var 7) (.str [])), true), ((.op2 .eqs (.var 6) (.str [])), true), ((.op2 .eq (.var 5) (.num 0)), true), ((.app 22 [(.var 0), (.var 1), (.var 2), (.var 3), (.var 4), (.var 5), (.var 6), (.var 7), (.var 8), (.var 9), (.var 10), (.var 11), (.var 12), (.var 13)]), true), ((.op2 .eq (.var 2) (.num 2)), true), ((.op2 .eq (.var 2) (.num 1)), false), ((.app 18 [(.var 6), (.var 7)]), true)], some [((.app 14 [(.var 0), (.var 1), (.var 2), (.var 3), (.var 4), (.var 5), (.var 6), (.var 7), (.var 8), (.var 9), (.var 10), (.var 11), (.var 12), (.var 13)]), (.num 0))]),
  ([((.app 10 [(.var 1), (.num 0), (.num 1000000)]), false), ((.app 10 [(.var 0), (.num 1), (.num 1000000)]), true), ((.op2 .eq (.var 13) (.num 0)), true), ((.op2 .eq (.var 11) (.num 0)), true), ((.op2 .eq (.var 10) (.num 0)), true), ((.op2 .eqs (.var 7) (.str [])), true), ((.op2 .eqs (.var 6) (.str [])), true), ((.op2 .eq (.var 5) (.num 0)), true), ((.app 22 [(.var 0), (.var 1), (.var 2), (.var 3), (.var 4), (.var 5), (.var 6), (.var 7), (.var 8), (.var 9), (.var 10), (.var 11), (.var 12), (.var 13)]), true), ((.op2 .eq (.var 2) (.num 2)), true), ((.op2 .eq (.var 2) (.num 1)), false), ((.app 18 [(.var 6), (.var 7)]), true)], some [((.app 14 [(.var 0), (.var 1), (.var 2), (.var 3), (.var 4), (.var 5), (.var 6), (.var 7), (.var 8), (.var 9), (.var 10), (.var 11), (.var 12), (.var 13)]), (.num 1))]),
  ([((.app 10 [(.var 0), (.num 1), (.num 1000000)]), false), ((.op2 .eq (.var 13) (.num 0)), true), ((.op2 .eq (.var 11) (.num 0)), true), ((.op2 .eq (.var 10) (.num 0)), true), ((.op2 .eqs (.var 7) (.str [])), true), ((.op2 .eqs (.var 6) (.str [])), true), ((.op2 .eq (.var 5) (.num 0)), true), ((.app 22 [(.var 0), (.var 1), (.var 2), (.var 3), (.var 4), (.var 5), (.var 6), (.var 7), (.var 8), (.var 9), (.var 10), (.var 11), (.var 12), (.var 13)]), true), ((.op2 .eq (.var 2) (.num 2)), true), ((.op2 .eq (.var 2) (.num 1)), false), ((.app 18 [(.var 6), (.var 7)]), true)], some [((.app 14 [(.var 0), (.var 1), (.var 2), (.var 3), (.var 4), (.var 5), (.var 6), (.var 7), (.var 8), (.var 9), (.var 10), (.var 11), (.var 12), (.var 13)]), (.num 1))]),
  ([((.op2 .eq (.var 13) (.num 0)), false), ((.op2 .eq (.var 11) (.num 0)), true), ((.op2 .eq (.var 10) (.num 0)), true), ((.op2 .eqs (.var 7) (.str [])), true), ((.op2 .eqs (.var 6) (.str [])), true), ((.op2 .eq (.var 5) (.num 0)), true), ((.app 22 [(.var 0), (.var 1), (.var 2), (.var 3), (.var 4), (.var 5), (.var 6), (.var 7), (.var 8), (.var 9), (.var 10), (.var 11), (.var 12), (.var 13)]), true), ((.op2 .eq (.var 2) (.num 2)), true), ((.op2 .eq (.var 2) (.num 1)), false), ((.app 18 [(.var 6), (.var 7)]), true)], some [((.app 14 [(.var 0), (.var 1), (.var 2), (.var 3), (.var 4), (.var 5), (.var 6), (.var 7), (.var 8), (.var 9), (.var 10), (.var 11), (.var 12), (.var 13)]), (.num 1))]),
  ([((.op2 .eq (.var 11) (.num 0)), false), ((.op2 .eq (.var 10) (.num 0)), true), ((.op2 .eqs (.var 7) (.str [])), true), ((.op2 .eqs (.var 6) (.str [])), true), ((.op2 .eq (.var 5) (.num 0)), true), ((.app 22 [(.var 0), (.var 1), (.var 2), (.var 3), (.var 4), (.var 5), (.var 6), (.var 7), (.var 8), (.var 9), (.var 10), (.var 11), (.var 12), (.var 13)]), true), ((.op2 .eq (.var 2) (.num 2)), true), ((.op2 .eq (.var 2) (.num 1)), false), ((.app 18 [(.var 6), (.var 7)]), true)], some [((.app 14 [(.var 0), (.var 1), (.var 2), (.var 3), (.var 4), (.var 5), (.var 6), (.var 7), (.var 8), (.var 9), (.var 10), (.var 11), (.var 12), (.var 13)]), (.num 1))]),
  ([((.op2 .eq (.var 10) (.num 0)), false), ((.op2 .eqs (.var 7) (.str [])), true), ((.op2 .eqs (.var 6) (.str [])), true), ((.op2 .eq (.var 5) (.num 0)), true), ((.app 22 [(.var 0), (.var 1), (.var 2), (.var 3), (.var 4), (.var 5), (.var 6), (.var 7), (.var 8), (.var 9), (.var 10), (.var 11), (.var 12), (.var 13)]), true), ((.op2 .eq (.var 2) (.num 2)), true), ((.op2 .eq (.var 2) (.num 1)), false), ((.app 18 [(.var 6), (.var 7)]), true)], some [((.app 14 [(.var 0), (.var 1), (.var 2), (.var 3), (.var 4), (.var 5), (.var 6), (.var 7), (.var 8), (.var 9), (.var 10), (.var 11), (.var 12), (.var 13)]), (.num 1))]),
  ([((.op2 .eqs (.var 7) (.str [])), false), ((.op2 .eqs (.var 6) (.str [])), true), ((.op2 .eq (.var 5) (.num 0)), true), ((.app 22 [(.var 0), (.var 1), (.var 2), (.var 3), (.var 4), (.var 5), (.var 6), (.var 7), (.var 8), (.var 9), (.var 10), (.var 11), (.var 12), (.var 13)]), true), ((.op2 .eq (.var 2) (.num 2)), true), ((.op2 .eq (.var 2) (.num 1)), false), ((.app 18 [(.var 6), (.var 7)]), true)], some [((.app 14 [(.var 0), (.var 1), (.var 2), (.var 3), (.var 4), (.var 5), (.var 6), (.var 7), (.var 8), (.var 9), (.var 10), (.var 11), (.var 12), (.var 13)]), (.num 1))]),
  ([((.op2 .eqs (.var 6) (.str [])), false), ((.op2 .eq (.var 5) (.num 0)), true), ((.app 22 [(.var 0), (.var 1), (.var 2), (.var 3), (.var 4), (.var 5), (.var 6), (.var 7), (.var 8), (.var 9), (.var 10), (.var 11), (.var 12), (.var 13)]), true), ((.op2 .eq (.var 2) (.num 2)), true), ((.op2 .eq (.var 2) (.num 1)), false), ((.app 18 [(.var 6), (.var 7)]), true)], some [((.app 14 [(.var 0), (.var 1), (.var 2), (.var 3), (.var 4), (.var 5), (.var 6), (.var 7), (.var 8), (.var 9), (.var 10), (.var 11), (.var 12), (.var 13)]), (.num 1))]),
  ([((.op2 .eq (.var 5) (.num 0)), false), ((.app 22 [(.var 0), (.var 1), (.var 2), (.var 3), (.var 4), (.var 5), (.var 6), (.var 7), (.var 8), (.var 9), (.var 10), (.var 11), (.var 12), (.var 13)]), true), ((.op2 .eq (.var 2) (.num 2)), true), ((.op2 .eq (.var 2) (.num 1)), false), ((.app 18 [(.var 6), (.var 7)]), true)], some [((.app 14 [(.var 0), (.var 1), (.var 2), (.var 3), (.var 4), (.var 5), (.var 6), (.var 7), (.var 8), (.var 9), (.var 10), (.var 11), (.var 12), (.var 13)]), (.num 1))]),
  ([((.app 22 [(.var 0), (.var 1), (.var 2), (.var 3), (.var 4), (.var 5), (.var 6), (.var 7), (.var 8), (.var 9), (.var 10), (.var 11), (.var 12), (.var 13)]), false), ((.op2 .eq (.var 2) (.num 2)), true), ((.op2 .eq (.var 2) (.num 1)), false), ((.app 18 [(.var 6), (.var 7)]), true)], some [((.app 14 [(.var 0), (.var 1), (.var 2), (.var 3), (.var 4), (.var 5), (.var 6), (.var 7), (.var 8), (.var 9), (.var 10), (.var 11), (.var 12), (.var 13)]), (.num 1))]),
  ([((.app 10 [(.var 1), (.num 0), (.num 1000000)]), true), ((.app 10 [(.var 0), (.num 1), (.num 1000000)]), true), ((.op2 .eq (.var 12) (.num 0)), true), ((.op2 .eq (.var 11) (.num 0)), true), ((.op2 .eq (.var 10) (.num 0)), true), ((.op2 .eq (.var 9) (.num 0)), true), ((.op2 .eq (.var 8) (.num 0)), true), ((.op2 .eqs (.var 7) (.str [])), true), ((.op2 .eqs (.var 6) (.str [])), true), ((.op2 .eq (.var 5) (.num 0)), true), ((.op2 .eq (.var 4) (.num 0)), true), ((.op2 .eq (.var 3) (.num 0)), true), ((.app 10 [(.var 13), (.num 1), (.num 1000000)]), true), ((.op2 .eq (.var 2) (.num 3)), true), ((.op2 .eq (.var 2) (.num 2)), false), ((.op2 .eq (.var 2) (.num 1)), false), ((.app 18 [(.var 6), (.var 7)]), true)], some [((.app 14 [(.var 0), (.var 1), (.var 2), (.var 3), (.var 4), (.var 5), (.var 6), (.var 7), (.var 8), (.var 9), (.var 10), (.var 11), (.var 12), (.var 13)]), (.num 0))]),
  ([((.app 10 [(.var 1), (.num 0), (.num 1000000)]), false), ((.app 10 [(.var 0), (.num 1), (.num 1000000)]), true), ((.op2 .eq (.var 12) (.num 0)), true), ((.op2 .eq (.var 11) (.num 0)), true), ((.op2 .eq (.var 10) (.num 0)), true), ((.op2 .eq (.var 9) (.num 0)), true), ((.op2 .eq (.var 8) (.num 0)), true), ((.op2 .eqs (.var 7) (.str [])), true), ((.op2 .eqs (.var 6) (.str [])), true), ((.op2 .eq (.var 5) (.num 0)), true), ((.op2 .eq (.var 4) (.num 0)), true), ((.op2 .eq (.var 3) (.num 0)), true), ((.app 10 [(.var 13), (.num 1), (.num 1000000)]), true), ((.op2 .eq (.var 2) (.num 3)), true), ((.op2 .eq (.var 2) (.num 2)), false), ((.op2 .eq (.var 2) (.num 1)), false), ((.app 18 [(.var 6), (.var 7)]), true)], some [((.app 14 [(.var 0), (.var 1), (.var 2), (.var 3), (.var 4), (.var 5), (.var 6), (.var 7), (.var 8), (.var 9), (.var 10), (.var 11), (.var 12), (.var 13)]), (.num 1))]),
  ([((.app 10 [(.var 0), (.num 1), (.num 1000000)]), false), ((.op2 .eq (.var 12) (.num 0)), true), ((.op2 .eq (.var 11) (.num 0)), true), ((.op2 .eq (.var 10) (.num 0)), true), ((.op2 .eq (.var 9) (.num 0)), true), ((.op2 .eq (.var 8) (.num 0)), true), ((.op2 .eqs (.var 7) (.str [])), true), ((.op2 .eqs (.var 6) (.str [])), true), ((.op2 .eq (.var 5) (.num 0)), true), ((.op2 .eq (.var 4) (.num 0)), true), ((.op2 .eq (.var 3) (.num 0)), true), ((.app 10 [(.var 13), (.num 1), (.num 1000000)]), true), ((.op2 .eq (.var 2) (.num 3)), true), ((.op2 .eq (.var 2) (.num 2)), false), ((.op2 .eq (.var 2) (.num 1)), false), ((.app 18 [(.var 6), (.var 7)]), true)], some [((.app 14 [(.var 0), (.var 1), (.var 2), (.var 3), (.var 4), (.var 5), (.var 6), (.var 7), (.var 8), (.var 9), (.var 10), (.var 11), (.var 12), (.var 13)]), (.num 1))]),
  ([((.op2 .eq (.var 12) (.num 0)), false), ((.op2 .eq (.var 11) (.num 0)), true), ((.op2 .eq (.var 10) (.num 0)), true), ((.op2 .eq (.var 9) (.num 0)), true), ((.op2 .eq (.var 8) (.num 0)), true), ((.op2 .eqs (.var 7) (.str [])), true), ((.op2 .eqs (.var 6) (.str [])), true), ((.op2 .eq (.var 5) (.num 0)), true), ((.op2 .eq (.var 4) (.num 0)), true), ((.op2 .eq (.var 3) (.num 0)), true), ((.app 10 [(.var 13), (.num 1), (.num 1000000)]), true), ((.op2 .eq (.var 2) (.num 3)), true), ((.op2 .eq (.var 2) (.num 2)), false), ((.op2 .eq (.var 2) (.num 1)), false), ((.app 18 [(.var 6), (.var 7)]), true)], some [((.app 14 [(.var 0), (.var 1), (.var 2), (.var 3), (.var 4), (.var 5), (.var 6), (.var 7), (.var 8), (.var 9), (.var 10), (.var 11), (.var 12), (.var 13)]), (.num 1))]),
  ([((.op2 .eq (.var 11) (.num 0)), false), ((.op2 .eq (.var 10) (.num 0)), true), ((.op2 .eq (.var 9) (.num 0)), true), ((.op2 .eq (.var 8) (.num 0)), true), ((.op2 .eqs (.var 7) (.str [])), true), ((.op2 .eqs (.var 6) (.str [])), true), ((.op2 .eq (.var 5) (.num 0)), true), ((.op2 .eq (.var 4) (.num 0)), true), ((.op2 .eq (.var 3) (.num 0)), true), ((.app 10 [(.var 13), (.num 1), (.num 1000000)]), true), ((.op2 .eq (.var 2) (.num 3)), true), ((.op2 .eq (.var 2) (.num 2)), false), ((.op2 .eq (.var 2) (.num 1)), false), ((.app 18 [(.var 6), (.var 7)]), true)], some [((.app 14 [(.var 0), (.var 1), (.var 2), (.var 3), (.var 4), (.var 5), (.var 6), (.var 7), (.var 8), (.var 9), (.var 10), (.var 11), (.var 12), (.var 13)]), (.num 1))]),
  ([((.op2 .eq (.var 10) (.num 0)), false), ((.op2 .eq (.var 9) (.num 0)), true), ((.op2 .eq (.var 8) (.num 0)), true), ((.op2 .eqs (.var 7) (.str [])), true), ((.op2 .eqs (.var 6) (.str [])), true), ((.op2 .eq (.var 5) (.num 0)), true), ((.op2 .eq (.var 4) (.num 0)), true), ((.op2 .eq (.var 3) (.num 0)), true), ((.app 10 [(.var 13), (.num 1), (.num 1000000)]), true), ((.op2 .eq (.var 2) (.num 3)), true), ((.op2 .eq (.var 2) (.num 2)), false), ((.op2 .eq (.var 2) (.num 1)), false), ((.app 18 [(.var 6), (.var 7)]), true)], some [((.app 14 [(.var 0), (.var 1), (.var 2), (.var 3), (.var 4), (.var 5), (.var 6), (.var 7), (.var 8), (.var 9), (.var 10), (.var 11), (.var 12), (.var 13)]), (.num 1))]),
  ([((.op2 .eq (.var 9) (.num 0)), false), ((.op2 .eq (.var 8) (.num 0)), true), ((.op2 .eqs (.var 7) (.str [])), true), ((.op2 .eqs (.var 6) (.str [])), true), ((.op2 .eq (.var 5) (.num 0)), true), ((.op2 .eq (.var 4) (.num 0)), true), ((.op2 .eq (.var 3) (.num 0)), true), ((.app 10 [(.var 13), (.num 1), (.num 1000000)]), true), ((.op2 .eq (.var 2) (.num 3)), true), ((.op2 .eq (.var 2) (.num 2)), false), ((.op2 .eq (.var 2) (.num 1)), false), ((.app 18 [(.var 6), (.var 7)]), true)], some [((.app 14 [(.var 0), (.var 1), (.var 2), (.var 3), (.var 4), (.var 5), (.var 6), (.var 7), (.var 8), (.var 9), (.var 10), (.var 11), (.var 12), (.var 13)]), (.num 1))]),
  ([((.op2 .eq (.var 8) (.num 0)), false), ((.op2 .eqs (.var 7) (.str [])), true), ((.op2 .eqs (.var 6) (.str [])), true), ((.op2 .eq (.var 5) (.num 0)), true), ((.op2 .eq (.var 4) (.num 0)), true), ((.op2 .eq (.var 3) (.num 0)), true), ((.app 10 [(.var 13), (.num 1), (.num 1000000)]), true), ((.op2 .eq (.var 2) (.num 3)), true), ((.op2 .eq (.var 2) (.num 2)), false), ((.op2 .eq (.var 2) (.num 1)), false), ((.app 18 [(.var 6), (.var 7)]), true)], some [((.app 14 [(.var 0), (.var 1), (.var 2), (.var 3), (.var 4), (.var 5), (.var 6), (.var 7), (.var 8), (.var 9), (.var 10), (.var 11), (.var 12), (.var 13)]), (.num 1))]),
  ([((.op2 .eqs (.var 7) (.str [])), false), ((.op2 .eqs (.var 6) (.str [])), true), ((.op2 .eq (.var 5) (.num 0)), true), ((.op2 .eq (.var 4) (.num 0)), true), ((.op2 .eq (.var 3) (.num 0)), true), ((.app 10 [(.var 13), (.num 1), (.num 1000000)]), true), ((.op2 .eq (.var 2) (.num 3)), true), ((.op2 .eq (.var 2) (.num 2)), false), ((.op2 .eq (.var 2) (.num 1)), false), ((.app 18 [(.var 6), (.var 7)]), true)], some [((.app 14 [(.var 0), (.var 1), (.var 2), (.var 3), (.var 4), (.var 5), (.var 6), (.var 7), (.var 8), (.var 9), (.var 10), (.var 11), (.var 12), (.var 13)]), (.num 1))]),
  ([((.op2 .eqs (.var 6) (.str [])), false), ((.op2 .eq (.var 5) (.num 0)), true), ((.op2 .eq (.var 4) (.num 0)), true), ((.op2 .eq (.var 3) (.num 0)), true), ((.app 10 [(.var 13), (.num 1), (.num 1000000)]), true), ((.op2 .eq (.var 2) (.num 3)), true), ((.op2 .eq (.var 2) (.num 2)), false), ((.op2 .eq (.var 2) (.num 1)), false), ((.app 18 [(.var 6), (.var 7)]), true)], some [((.app 14 [(.var 0), (.var 1), (.var 2), (.var 3), (.var 4), (.var 5), (.var 6), (.var 7), (.var 8), (.var 9), (.var 10), (.var 11), (.var 12), (.var 13)]), (.num 1))]),
  ([((.op2 .eq (.var 5) (.num 0)), false), ((.op2 .eq (.var 4) (.num 0)), true), ((.op2 .eq (.var 3) (.num 0)), true), ((.app 10 [(.var 13), (.num 1), (.num 1000000)]), true), ((.op2 .eq (.var 2) (.num 3)), true), ((.op2 .eq (.var 2) (.num 2)), false), ((.op2 .eq (.var 2) (.num 1)), false), ((.app 18 [(.var 6), (.var 7)]), true)], some [((.app 14 [(.var 0), (.var 1), (.var 2), (.var 3), (.var 4), (.var 5), (.var 6), (.var 7), (.var 8), (.var 9), (.var 10), (.var 11), (.var 12), (.var 13)]), (.num 1))]),
  ([((.op2 .eq (.var 4) (.num 0)), false), ((.op2 .eq (.var 3) (.num 0)), true), ((.app 10 [(.var 13), (.num 1), (.num 1000000)]), true), ((.op2 .eq (.var 2) (.num 3)), true), ((.op2 .eq (.var 2) (.num 2)), false), ((.op2 .eq (.var 2) (.num 1)), false), ((.app 18 [(.var 6), (.var 7)]), true)], some [((.app 14 [(.var 0), (.var 1), (.var 2), (.var 3), (.var 4), (.var 5), (.var 6), (.var 7), (.var 8), (.var 9), (.var 10), (.var 11), (.var 12), (.var 13)]), (.num 1))]),
  ([((.op2 .eq (.var 3) (.num 0)), false), ((.app 10 [(.var 13), (.num 1), (.num 1000000)]), true), ((.op2 .eq (.var 2) (.num 3)), true), ((.op2 .eq (.var 2) (.num 2)), false), ((.op2 .eq (.var 2) (.num 1)), false), ((.app 18 [(.var 6), (.var 7)]), true)], some [((.app 14 [(.var 0), (.var 1), (.var 2), (.var 3), (.var 4), (.var 5), (.var 6), (.var 7), (.var 8), (.var 9), (.var 10), (.var 11), (.var 12), (.var 13)]), (.num 1))]),
  ([((.app 10 [(.var 13), (.num 1), (.num 1000000)]), false), ((.op2 .eq (.var 2) (.num 3)), true), ((.op2 .eq (.var 2) (.num 2)), false), ((.op2 .eq (.var 2) (.num 1)), false), ((.app 18 [(.var 6), (.var 7)]), true)], some [((.app 14 [(.var 0), (.var 1), (.var 2), (.var 3), (.var 4), (.var 5), (.var 6), (.var 7), (.var 8), (.var 9), (.var 10), (.var 11), (.var 12), (.var 13)]), (.num 1))]),
  ([((.op2 .eq (.var 2) (.num 3)), false), ((.op2 .eq (.var 2) (.num 2)), false), ((.op2 .eq (.var 2) (.num 1)), false), ((.app 18 [(.var 6), (.var 7)]), true)], some [((.app 14 [(.var 0), (.var 1), (.var 2), (.var 3), (.var 4), (.var 5), (.var 6), (.var 7), (.var 8), (.var 9), (.var 10), (.var 11), (.var 12), (.var 13)]), (.num 1))])]
theorem cCheckPaper_w (r : Rho) : cCheckPaper_con.fn.ways cCheckPaper_call E0 r cCheckPaper_con.pre cCheckPaper_t = some cCheckPaper_l := by kernel_rfl
theorem cCheckPaper_cok : cCheckPaper_con.Ok Tryz.prog sy := by
  intro r σ w us hsy hρ hpre hrel hins
  obtain ⟨u0, us, rfl, g0, hi⟩ := ins_cons hins
  obtain ⟨p, k, rfl, hp⟩ := pap_agg g0
  rw [hρ] at hp
  have a0 := hp.h0
  have a1 := hp.h1
  have a2 := hp.h2
  have a3 := hp.h3
  have a4 := hp.h4
  have a5 := hp.h5
  have a6 := hp.h6
  have a7 := hp.h7
  have a8 := hp.h8
  have a9 := hp.h9
  have a10 := hp.h10
  have a11 := hp.h11
  have a12 := hp.h12
  have a13 := hp.h13
  simp only [Nat.zero_add] at a0 a1 a2 a3 a4 a5 a6 a7 a8 a9 a10 a11 a12 a13

  have hpre' := hpre
  simp only [cCheckPaper_con, FactsIn, X.bool, X.den, denL, d_wrap, d_kind, d_not, d_neg, d_slen, d_add, d_sub, d_mul, d_div, d_mod, d_lt, d_le, d_eq, d_eqb, d_eqs, d_lts, d_cat, d_sat, d_and, d_or, denSub, denIte, asB, len_R, cell_R, lsub_R, a0, a1, a2, a3, a4, a5, a6, a7, a8, a9, a10, a11, a12, a13, hsy, sym18, Option.some.injEq, and_true] at hpre'
  obtain ⟨sh1, sh2⟩ := short_of hpre'
  refine con_of (E := E0) E0_ok E0_glob (sy := sy) (fun F => L8_ok F hsy) (fun F => noH_ok) (cCheckPaper_w r) hρ hpre hrel hins ?_ ?_
  · simp only [cCheckPaper_con, cCheckPaper_t, AsksL, GTree.asks, FTree.asks, FactsIn, List.append_nil, List.nil_append, List.cons_append, Option.some.injEq, exists_eq', implies_true, and_self, X.bool, X.den, denL, d_wrap, d_kind, d_not, d_neg, d_slen, d_add, d_sub, d_mul, d_div, d_mod, d_lt, d_le, d_eq, d_eqb, d_eqs, d_lts, d_cat, d_sat, d_and, d_or, denSub, denIte, asB, len_R, cell_R, lsub_R, a0, a1, a2, a3, a4, a5, a6, a7, a8, a9, a10, a11, a12, a13, hsy, sym3, sym9, sym10, sym1, sym2, sym14, sym18, sym19, sym21, sym22, sh1, sh2, reduceCtorEq, false_implies, implies_true]
  · simp only [cCheckPaper_l, EndsOk, WaysOk, forall_cons, forall_nil, TgtOk, gpair, FactsIn, hold_cons, hold_nil, Option.some.injEq, Value.bool.injEq, Value.int.injEq, decide_eq_true_eq, decide_eq_false_iff_not, and_true, true_and, and_imp, X.bool, X.den, denL, d_wrap, d_kind, d_not, d_neg, d_slen, d_add, d_sub, d_mul, d_div, d_mod, d_lt, d_le, d_eq, d_eqb, d_eqs, d_lts, d_cat, d_sat, d_and, d_or, denSub, denIte, asB, len_R, cell_R, lsub_R, a0, a1, a2, a3, a4, a5, a6, a7, a8, a9, a10, a11, a12, a13, hsy, sym3, sym9, sym10, sym1, sym2, sym14, sym18, sym19, sym21, sym22, sh1, sh2, reduceCtorEq, false_implies, implies_true]
    clear hsy hρ hpre hrel hi hins g0 hp a0 a1 a2 a3 a4 a5 a6 a7 a8 a9 a10 a11 a12 a13
    (repeat' apply And.intro) <;> intros <;> (first | (simp_all [formedB, pkB, totB]; done) | (rw [if_neg]; intro hf; simp_all [formedB, totB, pkB]; done) | (cases h : formedB p <;> simp_all [formedB, totB, pkB] <;> grind))
end Go.Proofs.YtmhbhkipjjcmlaaGreatDoor.Zs
