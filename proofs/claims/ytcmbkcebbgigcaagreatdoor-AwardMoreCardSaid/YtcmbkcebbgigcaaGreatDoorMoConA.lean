/-
  Contracts of package award, over names: parties, equal parts.
-/
import Derived.Test.YtcmbkcebbgigcaaGreatDoorMoBase
import Derived.Test.YtcmbkcebbgigcaaGreatDoorMoData
import Derived.KernelRfl
set_option linter.unusedSimpArgs false
set_option linter.unusedVariables false
namespace Go.Proofs.YtcmbkcebbgigcaaGreatDoor.Zs
open Go
noncomputable def noL : Env → CallE := libs []
theorem noL_ok (F : List (X × Bool)) {r : Rho} (h : r.sym = sy) : CallsOk (E0.with F r) (noL (E0.with F r)) := libs_ok fun c hc => by
  cases hc
def idx_vs : List X := [.num 0]
def prt_vs : List X := [.num 0, .op2 .rep (.var 1) (.snoc .nil [.op1 (.kind .i64) (.num 0)])]
noncomputable def cwithin_con : Con := { f := 34, args := [.one (.int .i64 0), .one (.int .i64 1), .one (.int .i64 2)], N := 0, M := 0, pre := [], out := .sbool (.app 10 [.var 0, .var 1, .var 2]), news := [] }
noncomputable def cwithin_call : Env → CallL := fun E => acallAll E (evH E (noL E) ((fun _ => noLoops) E) 4)
def qa0 : X := .op2 .lcat (.snoc (.lsub (.var 101) (.num 0) (.var 100)) [(.op1 (.kind .i64) (.op1 (.wrap .i64) (.op2 .div (.var 0) (.var 1))))]) (.lsub (.var 101) (.op2 .add (.var 100) (.num 1)) (.op1 .len (.var 101)))
def qa1 : X := .op2 .lt (.var 100) (.num 0)
def qa2 : X := .op2 .lt (.var 100) (.op1 (.kind .i64) (.op2 .mod (.var 0) (.var 1)))
def qa3 : X := .op2 .lt (.var 100) (.op1 .len (.var 101))
def qa4 : X := .op2 .lt (.var 100) (.var 1)
def qa5 : X := .app 10 [(.op1 .len (.var 1)), (.num 1), (.num 40)]
def qa6 : X := .op2 .eq (.var 1) (.num 0)
noncomputable def cwithin_t : GTree := (.fork (.op2 .lt (.var 0) (.var 1)) (.leaf [[]]) (.leaf [[]]))
noncomputable def cwithin_l : List (List (X × Bool) × Option Pairs) := [([(.op2 .lt (.var 0) (.var 1), true)], some [(.app 10 [.var 0, .var 1, .var 2], .boo false)]),
  ([(.op2 .lt (.var 0) (.var 1), false)], some [(.app 10 [.var 0, .var 1, .var 2], .op1 .not (.op2 .lt (.var 2) (.var 0)))])]
theorem cwithin_w (r : Rho) : cwithin_con.fn.ways cwithin_call E0 r cwithin_con.pre cwithin_t = some cwithin_l := by kernel_rfl
theorem cwithin_cok : cwithin_con.Ok Tryz.prog sy := by
  intro r σ w us hsy hρ hpre hrel hins
  obtain ⟨u0, us, rfl, g0, hins⟩ := ins_cons hins
  obtain ⟨u1, us, rfl, g1, hins⟩ := ins_cons hins
  obtain ⟨u2, us, rfl, g2, hins⟩ := ins_cons hins
  obtain ⟨a, k0, rfl, h0⟩ := one_int g0
  obtain ⟨b, k1, rfl, h1⟩ := one_int g1
  obtain ⟨c, k2, rfl, h2⟩ := one_int g2
  rw [hρ] at h0 h1 h2
  have hs : r.sym 10 [.int k0 a, .int k1 b, .int k2 c] = some (.bool (withinB a b c)) := by rw [hsy]; rfl
  refine con_of (E := E0) E0_ok E0_glob (sy := sy) (fun F => noL_ok F hsy) (fun F => noH_ok) (cwithin_w r) hρ hpre hrel hins ?_ ?_
  · simp only [cwithin_con, cwithin_t, qa6, qa5, qa4, qa3, qa2, qa1, qa0, AsksL, GTree.asks, FTree.asks, FactsIn, List.append_nil, List.nil_append, List.cons_append, Option.some.injEq, exists_eq', implies_true, and_self, X.bool, X.den, denL, dX, denSub, denIte, asB, dY, h0, h1, h2, hs]
  · simp only [cwithin_l, qa6, qa5, qa4, qa3, qa2, qa1, qa0, EndsOk, WaysOk, forall_cons, forall_nil, TgtOk, gpair, FactsIn, hold_cons, hold_nil, Option.some.injEq, dZ, X.bool, X.den, denL, dX, denSub, denIte, asB, dY, h0, h1, h2, hs]
    (repeat' apply And.intro) <;> intros <;> first | trivial | (simp [withinB]; omega) | (rw [Bool.eq_iff_iff]; simp [withinB]; omega)
noncomputable def LW : Env → CallE := libs [cLib cwithin_con]
theorem LW_ok (F : List (X × Bool)) {r : Rho} (h : r.sym = sy) : CallsOk (E0.with F r) (LW (E0.with F r)) := libs_ok fun c hc => by
  simp only [List.mem_cons, List.not_mem_nil, or_false] at hc
  subst hc; exact lib_ok (E := E0) cwithin_cok F h
noncomputable def lIdx_D : LoopD := { N := 100, M := 101, size := sizeOfF 67, reads := [(0, .rows 1 whoSch (.var 0) (.var 1) false 3)], pats := [{ slots := [(0, .slx 0 1 (.var 0) (.num 0) (.op1 .len (.var 1)) (.var 2)), (1, .func (.func 46) [] []), (4, .int .i64 0), (7, .sint .i64 (.op1 .len (.var 1))), (8, .sint .i64 (.var 100))], heap := [] }], exits := [(.exit 0, { slots := [], heap := [], guard := .app 101 [.var 1] }), (.ret, { slots := [(4, .sint .i64 (.app 103 [.var 1]))], heap := [], guard := .op1 .not (.app 101 [.var 1]) })], own := [], pre := [(.app 20 [.var 1], true)] }
noncomputable def lIdx_run : Env → AF → ASt → Option (List Out) := bodyRun LW 6 (fun _ => noLoop) (loopAt Tryz.prog 67 0)
def lIdx0_F : List (X × Bool) := [(.op2 .lt (.var 100) (.num 0), false)]
noncomputable def lIdx0_t : FTree := (.fork (.op2 .lt (.var 100) (.op1 .len (.var 1))) (.fork (.app 10 [.cell 0 (.var 1) (.var 100), .num 1, .num 40]) (.leaf [.again 0 []]) (.leaf [.leave 1 []])) (.leaf [.leave 0 []]))
noncomputable def lIdx0_l : List (List (X × Bool) × Option (List (Tgt × Pairs))) := [([(.app 10 [.cell 0 (.var 1) (.var 100), .num 1, .num 40], true), (.op2 .lt (.var 100) (.op1 .len (.var 1)), true), (qa1, false)], some [(.again 0 [], [(.var 100, .op1 (.wrap .i64) (.op2 .add (.var 100) (.num 1)))])]),
  ([(.app 10 [.cell 0 (.var 1) (.var 100), .num 1, .num 40], false), (.op2 .lt (.var 100) (.op1 .len (.var 1)), true), (qa1, false)], some [(.leave 1 [], [(.app 103 [.var 1], .var 100), (.op1 .not (.app 101 [.var 1]), .boo true)])]),
  ([(.op2 .lt (.var 100) (.op1 .len (.var 1)), false), (qa1, false)], some [(.leave 0 [], [(.app 101 [.var 1], .boo true)])])]
theorem lIdx0_w (r : Rho) : lIdx_D.ways lIdx_run E0 r 0 lIdx0_F lIdx0_t = some lIdx0_l := by kernel_rfl
theorem lIdx_ok : lIdx_D.ok = true := by kernel_rfl
def lIdx_Inv (l : List Who) (j : Nat) (vals : List Value) : Prop :=
  j = 0 ∧ ∃ i : Nat, i ≤ l.length ∧ vals = [.int .i64 i] ∧ allWho (l.take i) = true
def lIdx_mu (l : List Who) (_ : Nat) (vals : List Value) : Nat := l.length - (vI (vals.getD 0 default)).toNat
theorem lIdx_step {ρ : Rho} {l : List Who} (h1 : ρ.val 1 = some (whosR l)) (hsy : ρ.sym = sy) (hmax : (l.length : Int) ≤ 1010) (j : Nat) (vals : List Value) (hI : lIdx_Inv l j vals) :
    StepOk lIdx_D lIdx_run E0 ρ (lIdx_Inv l) (lIdx_mu l) j vals := by
  obtain ⟨rfl, i, hi, rfl, hall⟩ := hI
  have hN : lIdx_D.N = 100 := rfl
  have v1 : (ρ.ext lIdx_D.N [.int .i64 i]).val 1 = some (whosR l) := by rw [ext_low _ _ _ _ (by rw [hN]; omega)]; exact h1
  have v100 : (ρ.ext lIdx_D.N [.int .i64 i]).val 100 = some (.int .i64 i) := by rw [ext_high _ _ _ _ (by rw [hN]; omega)]; rfl
  have vs : (ρ.ext lIdx_D.N [.int .i64 i]).sym = sy := hsy
  refine step_of_ways (lIdx0_w _) (F := lIdx0_F) ?_ (AsksL.ok ?_) ?_
  · simp only [lIdx0_F, FactsIn, X.bool, X.den, denL, dX, denSub, denIte, asB, dY, whos_snocN, whos_snoc0N, shrs_snocN, shrs_snoc0N, v100, Option.some.injEq, Value.bool.injEq, decide_eq_false_iff_not, and_true]
    omega
  · cases hp : l[i]? with
    | none =>
      have hge : ¬ (i : Int) < l.length := by have := List.getElem?_eq_none_iff.1 hp; omega
      simp only [lIdx0_t, qa6, qa5, qa4, qa3, qa2, qa1, qa0, lIdx0_F, AsksL, GTree.asks, FTree.asks, FactsIn, List.append_nil, List.nil_append, List.cons_append, Option.some.injEq, exists_eq', implies_true, and_self, X.bool, X.den, denL, dX, denSub, denIte, asB, dY, whos_snocN, whos_snoc0N, shrs_snocN, shrs_snoc0N, v1, v100, vs, sym10, sym20, sym100, sym101, sym102, sym103, Int.toNat_natCast, hp, hge]
      simp
    | some p => simp only [lIdx0_t, qa6, qa5, qa4, qa3, qa2, qa1, qa0, lIdx0_F, AsksL, GTree.asks, FTree.asks, FactsIn, List.append_nil, List.nil_append, List.cons_append, Option.some.injEq, exists_eq', implies_true, and_self, X.bool, X.den, denL, dX, denSub, denIte, asB, dY, whos_snocN, whos_snoc0N, shrs_snocN, shrs_snoc0N, v1, v100, vs, sym10, sym20, sym100, sym101, sym102, sym103, Int.toNat_natCast, hp, Option.bind_some, who0]
  · cases hp : l[i]? with
    | none =>
      have hge := List.getElem?_eq_none_iff.1 hp
      have hge' : ¬ (i : Int) < l.length := by omega
      simp only [lIdx0_l, qa6, qa5, qa4, qa3, qa2, qa1, qa0, EndsOk, WaysOk, forall_cons, forall_nil, TgtOk, gpair, FactsIn, hold_cons, hold_nil, Option.some.injEq, dZ, X.bool, X.den, denL, dX, denSub, denIte, asB, dY, whos_snocN, whos_snoc0N, shrs_snocN, shrs_snoc0N, v1, v100, vs, h1, hsy, sym10, sym20, sym100, sym101, sym102, sym103, Int.toNat_natCast, hp, hge']
      have hi' : i = l.length := by omega
      subst hi'
      rw [List.take_length] at hall
      simp [hall]
    | some p =>
      have hlt : i < l.length := (List.getElem?_eq_some_iff.1 hp).1
      have hlt1 : (i : Int) < l.length := by omega
      simp only [lIdx0_l, qa6, qa5, qa4, qa3, qa2, qa1, qa0, EndsOk, WaysOk, forall_cons, forall_nil, TgtOk, gpair, FactsIn, hold_cons, hold_nil, Option.some.injEq, dZ, X.bool, X.den, denL, dX, denSub, denIte, asB, dY, whos_snocN, whos_snoc0N, shrs_snocN, shrs_snoc0N, v1, v100, vs, h1, hsy, sym10, sym20, sym100, sym101, sym102, sym103, Int.toNat_natCast, hp, Option.bind_some, who0, hlt1]
      have go : withinB p.n 1 40 = true → ∃ vals', ((ρ.ext lIdx_D.N vals').val 100 = some (.int .i64 (IntKind.i64.wrap ((i : Int) + 1)))) ∧ lIdx_Inv l 0 vals' ∧ lIdx_mu l 0 vals' < lIdx_mu l 0 [.int .i64 i] := by
        intro e
        refine ⟨[.int .i64 ((i + 1 : Nat) : Int)], ?_, ⟨rfl, i + 1, by omega, rfl, allWho_next hp hall e⟩, ?_⟩
        · rw [ext_high _ _ _ _ (by rw [hN]; omega), IntWalk.i64_in _ (by omega)]; rfl
        · simp [lIdx_mu, vI]; omega
      have no := allWho_at hp
      have at_ := badAt_is hp hall
      (repeat' apply And.intro) <;> intros <;> first
        | trivial
        | (exfalso; omega)
        | (exact go (by assumption))
        | (rw [no (by assumption)]; rfl)
        | (refine ⟨(at_ (by assumption)).symm ▸ rfl, ?_⟩; rw [no (by assumption)]; rfl)
        | (simp_all; done)
noncomputable def cFind_con : Con := { f := 19, args := [whosArg 0 0], N := 1, M := 1, pre := [(.app 20 [.var 1], true)], out := .sbool (.app 100 [.var 1]), news := [] }
noncomputable def cFind_call : Env → CallL := fun E => acallAll E (evH E (LW E) ((fun E => oneH 67 (hooks [(2, lIdx_D.hook E.facts idx_vs)])) E) 6)
noncomputable def cFind_t : GTree := (.fork qa5 (.fork (.app 101 [.var 1]) (.leaf [[]]) (.leaf [[]])) (.leaf [[]]))
noncomputable def cFind_l : List (List (X × Bool) × Option Pairs) := [([(.app 101 [.var 1], true), (qa5, true), (.app 20 [.var 1], true)], some [(.app 100 [.var 1], .boo true)]),
  ([(.app 101 [.var 1], false), (qa5, true), (.app 20 [.var 1], true)], some [(.app 100 [.var 1], .op1 .not (.op1 .not (.op2 .lt (.app 103 [.var 1]) (.num 0))))]),
  ([(qa5, false), (.app 20 [.var 1], true)], some [(.app 100 [.var 1], .boo false)])]
theorem cFind_w (r : Rho) : cFind_con.fn.ways cFind_call E0 r cFind_con.pre cFind_t = some cFind_l := by kernel_rfl
theorem cFind_H {r : Rho} {l : List Who} (h1 : r.val 1 = some (whosR l)) (hsh : shortB l = true) (hsy : r.sym = sy) (F : List (X × Bool)) : LoopsOk (E0.with F r) (oneH 67 (hooks [(2, lIdx_D.hook (E0.with F r).facts idx_vs)])) := by
  have hmax := short_len hsh
  refine loops_all (n := 1) (fun f fn h => h) (by kernel_rfl) fun i hi => ?_
  obtain rfl : i = 0 := by omega
  rw [hooks_hit (show keyOf (loopAt (E0.with F r).P 67 0) = 2 by kernel_rfl)]
  refine hook_ok (E₀ := E0) (run := lIdx_run) (ρ := r) (Inv := lIdx_Inv l) (μ := lIdx_mu l) E0_ok lIdx_ok (fun F r' h => ?_) (fun _ => ⟨lIdx_step h1 hsy hmax, [.int .i64 0], ?_, rfl, 0, Nat.zero_le _, rfl, rfl⟩)
  · exact bodyRun_ok E0_ok (LW_ok F (h.trans hsy)) fun _ _ => noLoop_ok
  · simp only [idx_vs, X.bool, X.den, denL, dX, denSub, denIte, asB, dY, whos_snocN, whos_snoc0N, shrs_snocN, shrs_snoc0N]
theorem cFind_cok : cFind_con.Ok Tryz.prog sy := by
  intro r σ w us hsy hρ hpre hrel hins
  obtain ⟨l, h1⟩ := whos_at hrel (i := 0) rfl
  rw [hρ] at h1
  have h1 : r.val 1 = some (whosR l) := h1
  have hsh : shortB l = true := by
    have := hpre.1
    simpa only [X.bool, X.den, denL, dX, denSub, denIte, asB, dY, whos_snocN, whos_snoc0N, shrs_snocN, shrs_snoc0N, h1, hsy, sym20, Option.some.injEq, Value.bool.injEq] using this
  refine con_of (E := E0) E0_ok E0_glob (sy := sy) (fun F => LW_ok F hsy) (fun F => cFind_H h1 hsh hsy F) (cFind_w r) hρ hpre hrel hins ?_ ?_
  · simp only [cFind_con, cFind_t, qa6, qa5, qa4, qa3, qa2, qa1, qa0, AsksL, GTree.asks, FTree.asks, FactsIn, List.append_nil, List.nil_append, List.cons_append, Option.some.injEq, exists_eq', implies_true, and_self, X.bool, X.den, denL, dX, denSub, denIte, asB, dY, whos_snocN, whos_snoc0N, shrs_snocN, shrs_snoc0N, h1, hsy, sym10, sym20, sym100, sym101, sym102, sym103]
  · simp only [cFind_l, qa6, qa5, qa4, qa3, qa2, qa1, qa0, EndsOk, WaysOk, forall_cons, forall_nil, TgtOk, gpair, FactsIn, hold_cons, hold_nil, Option.some.injEq, dZ, X.bool, X.den, denL, dX, denSub, denIte, asB, dY, whos_snocN, whos_snoc0N, shrs_snocN, shrs_snoc0N, h1, hsy, sym10, sym20, sym100, sym101, sym102, sym103]
    have hb := badAt_nonneg l
    have hb' : ¬ badAt l < 0 := by omega
    clear hsy hρ hpre hrel hins h1 hsh
    unfold finderB
    simp only [hb', decide_false, Bool.not_false, Bool.not_true]
    (repeat' apply And.intro) <;> intros <;> simp_all
noncomputable def lPrt_D : LoopD := { N := 100, M := 102, size := sizeOfF 35, reads := [], pats := [{ slots := [(0, .sint .i64 (.var 0)), (1, .sint .i64 (.var 1)), (5, .slo 2 1 (.var 1)), (10, .sint .i64 (.var 1)), (11, .sint .i64 (.var 100))], heap := [(2, .rows 1 whoSch (.num 0) (.var 101) true 3)] }], exits := [(.exit 0, { slots := [(5, .slo 2 1 (.var 1))], heap := [(2, .rows 1 whoSch (.num 0) (.app 102 [.var 0, .var 1]) true 3)] })], own := [2], pre := [] }
noncomputable def lPrt_run : Env → AF → ASt → Option (List Out) := bodyRun noL 6 (fun _ => noLoop) (loopAt Tryz.prog 35 0)
def lPrt0_F : List (X × Bool) := [(.op2 .lt (.var 100) (.num 0), false)]
noncomputable def lPrt0_t : FTree := (.fork qa4 (.fork qa6 .bad (.fork qa3 (.fork qa2 (.fork (.op2 .lt (.var 100) (.op1 .len qa0)) (.leaf [.again 0 []]) .bad) (.leaf [.again 0 []])) .bad)) (.leaf [.leave 0 []]))
noncomputable def lPrt0_l : List (List (X × Bool) × Option (List (Tgt × Pairs))) := [([(qa6, true), (qa4, true), (qa1, false)], none),
  ([(.op2 .lt (.var 100) (.op1 .len qa0), true), (qa2, true), (qa3, true), (qa6, false), (qa4, true), (qa1, false)], some [(.again 0 [], [(.var 100, .op1 (.wrap .i64) (.op2 .add (.var 100) (.num 1))), (.var 101, .op2 .lcat (.snoc (.lsub qa0 (.num 0) (.var 100)) [.op1 (.kind .i64) (.op1 (.wrap .i64) (.op2 .add (.cell 0 qa0 (.var 100)) (.num 1)))]) (.lsub qa0 (.op2 .add (.var 100) (.num 1)) (.op1 .len qa0)))])]),
  ([(.op2 .lt (.var 100) (.op1 .len qa0), false), (qa2, true), (qa3, true), (qa6, false), (qa4, true), (qa1, false)], none),
  ([(qa2, false), (qa3, true), (qa6, false), (qa4, true), (qa1, false)], some [(.again 0 [], [(.var 100, .op1 (.wrap .i64) (.op2 .add (.var 100) (.num 1))), (.var 101, qa0)])]),
  ([(qa3, false), (qa6, false), (qa4, true), (qa1, false)], none),
  ([(qa4, false), (qa1, false)], some [(.leave 0 [], [(.app 102 [.var 0, .var 1], .var 101)])])]
theorem lPrt0_w (r : Rho) : lPrt_D.ways lPrt_run E0 r 0 lPrt0_F lPrt0_t = some lPrt0_l := by kernel_rfl
theorem lPrt_ok : lPrt_D.ok = true := by kernel_rfl
def lPrt_Inv (p c : Int) (j : Nat) (vals : List Value) : Prop :=
  j = 0 ∧ ∃ i : Nat, i ≤ c.toNat ∧ vals = [.int .i64 i, whosR (partsTo p c i)]
def lPrt_mu (c : Int) (_ : Nat) (vals : List Value) : Nat := c.toNat - (vI (vals.getD 0 default)).toNat
theorem lPrt_step {ρ : Rho} {p c : Int} {k0 k1 : IntKind} (h0 : ρ.val 0 = some (.int k0 p)) (h1 : ρ.val 1 = some (.int k1 c)) (hsy : ρ.sym = sy) (hp0 : 0 ≤ p) (hp1 : p ≤ 1000000000) (hc0 : 1 ≤ c) (hc1 : c ≤ 40) (j : Nat) (vals : List Value) (hI : lPrt_Inv p c j vals) :
    StepOk lPrt_D lPrt_run E0 ρ (lPrt_Inv p c) (lPrt_mu c) j vals := by
  obtain ⟨rfl, i, hi, rfl⟩ := hI
  have hN : lPrt_D.N = 100 := rfl
  have v0 : (ρ.ext lPrt_D.N [.int .i64 i, whosR (partsTo p c i)]).val 0 = some (.int k0 p) := by rw [ext_low _ _ _ _ (by rw [hN]; omega)]; exact h0
  have v1 : (ρ.ext lPrt_D.N [.int .i64 i, whosR (partsTo p c i)]).val 1 = some (.int k1 c) := by rw [ext_low _ _ _ _ (by rw [hN]; omega)]; exact h1
  have v100 : (ρ.ext lPrt_D.N [.int .i64 i, whosR (partsTo p c i)]).val 100 = some (.int .i64 i) := by rw [ext_high _ _ _ _ (by rw [hN]; omega)]; rfl
  have v101 : (ρ.ext lPrt_D.N [.int .i64 i, whosR (partsTo p c i)]).val 101 = some (whosR (partsTo p c i)) := by rw [ext_high _ _ _ _ (by rw [hN]; omega)]; rfl
  have vs : (ρ.ext lPrt_D.N [.int .i64 i, whosR (partsTo p c i)]).sym = sy := hsy
  have hl := partsTo_len p c i
  have hd0 := Int.tdiv_nonneg hp0 (show 0 ≤ c by omega)
  have hd1 := tdiv_leA p c hp0 (by omega)
  have w1 : IntKind.i64.wrap (p.tdiv c) = p.tdiv c := IntWalk.i64_in _ (by omega)
  have w2 : IntKind.i64.wrap (p.tdiv c + 1) = p.tdiv c + 1 := IntWalk.i64_in _ (by omega)
  have w3 : IntKind.i64.wrap ((i : Int) + 1) = ((i + 1 : Nat) : Int) := by rw [IntWalk.i64_in _ (by omega)]; rfl
  have hc : ¬ c = 0 := by omega
  have hcn : ((c.toNat : Nat) : Int) = c := Int.toNat_of_nonneg (by omega)
  refine step_of_ways (lPrt0_w _) (F := lPrt0_F) ?_ (AsksL.ok ?_) ?_
  · simp only [lPrt0_F, FactsIn, X.bool, X.den, denL, dX, denSub, denIte, asB, dY, whos_snocN, whos_snoc0N, shrs_snocN, shrs_snoc0N, v100, Option.some.injEq, Value.bool.injEq, decide_eq_false_iff_not, and_true]
    omega
  · simp only [lPrt0_t, qa6, qa5, qa4, qa3, qa2, qa1, qa0, lPrt0_F, AsksL, GTree.asks, FTree.asks, FactsIn, List.append_nil, List.nil_append, List.cons_append, Option.some.injEq, exists_eq', implies_true, and_self, X.bool, X.den, denL, dX, denSub, denIte, asB, dY, whos_snocN, whos_snoc0N, shrs_snocN, shrs_snoc0N, v0, v1, v100, v101, vs, sym10, sym20, sym100, sym101, sym102, sym103]
    try simp
  · by_cases hlt : i < c.toNat
    · have hli : i < (partsTo p c i).length := by omega
      have s1 := fun a => set_form (partsTo p c i) i a hli
      have s2 := fun b a => set_form ((partsTo p c i).set i b) i a (by rw [List.length_set]; exact hli)
      have g1 : ∀ a, ((partsTo p c i).set i a)[((i : Int)).toNat]? = some a := fun a => by rw [Int.toNat_natCast]; exact List.getElem?_set_self hli
      have hci : (i : Int) < c := by omega
      have hnx : (partsTo p c i).set i ⟨partR p c i⟩ = partsTo p c (i + 1) := partsTo_set p c i hlt
      have hli' : (i : Int) < ((partsTo p c i).length : Int) := by omega
      have go : ∃ vals', ((ρ.ext lPrt_D.N vals').val 100 = some (.int .i64 ((i + 1 : Nat) : Int)) ∧ (ρ.ext lPrt_D.N vals').val 101 = some (whosR (partsTo p c (i + 1)))) ∧ lPrt_Inv p c 0 vals' ∧ lPrt_mu c 0 vals' < lPrt_mu c 0 [.int .i64 i, whosR (partsTo p c i)] := by
        refine ⟨[.int .i64 ((i + 1 : Nat) : Int), whosR (partsTo p c (i + 1))], ⟨?_, ?_⟩, ⟨rfl, i + 1, by omega, rfl⟩, ?_⟩
        · rw [ext_high _ _ _ _ (by rw [hN]; omega)]; rfl
        · rw [ext_high _ _ _ _ (by rw [hN]; omega)]; rfl
        · simp [lPrt_mu, vI]; omega
      by_cases hm : (i : Int) < p.tmod c
      · have hp : partR p c i = p.tdiv c + 1 := by unfold partR; rw [if_pos hm]
        rw [hp] at hnx
        simp only [lPrt0_l, qa6, qa5, qa4, qa3, qa2, qa1, qa0, EndsOk, WaysOk, forall_cons, forall_nil, TgtOk, gpair, FactsIn, hold_cons, hold_nil, Option.some.injEq, dZ, X.bool, X.den, denL, dX, denSub, denIte, asB, dY, whos_snocN, whos_snoc0N, shrs_snocN, shrs_snoc0N, v0, v1, v100, v101, vs, h0, h1, hsy, sym10, sym20, sym100, sym101, sym102, sym103, w1, s1, s2]
        simp only [EndsOk, WaysOk, forall_cons, forall_nil, TgtOk, gpair, FactsIn, hold_cons, hold_nil, Option.some.injEq, dZ, X.bool, X.den, denL, dX, denSub, denIte, asB, dY, whos_snocN, whos_snoc0N, shrs_snocN, shrs_snoc0N, w1, s1, s2, g1, Option.bind_some, who0, w2, w3]
        simp only [EndsOk, WaysOk, forall_cons, forall_nil, TgtOk, gpair, FactsIn, hold_cons, hold_nil, Option.some.injEq, dZ, X.bool, X.den, denL, dX, denSub, denIte, asB, dY, whos_snocN, whos_snoc0N, shrs_snocN, shrs_snoc0N, List.length_set, List.set_set, hnx, hl, hcn, w3, beq_iff_eq]
        (repeat' apply And.intro) <;> intros <;> first
          | trivial
          | (exfalso; omega)
          | (exact go)
      · have hp : partR p c i = p.tdiv c := by unfold partR; rw [if_neg hm]; omega
        rw [hp] at hnx
        simp only [lPrt0_l, qa6, qa5, qa4, qa3, qa2, qa1, qa0, EndsOk, WaysOk, forall_cons, forall_nil, TgtOk, gpair, FactsIn, hold_cons, hold_nil, Option.some.injEq, dZ, X.bool, X.den, denL, dX, denSub, denIte, asB, dY, whos_snocN, whos_snoc0N, shrs_snocN, shrs_snoc0N, v0, v1, v100, v101, vs, h0, h1, hsy, sym10, sym20, sym100, sym101, sym102, sym103, w1, s1, s2]
        simp only [EndsOk, WaysOk, forall_cons, forall_nil, TgtOk, gpair, FactsIn, hold_cons, hold_nil, Option.some.injEq, dZ, X.bool, X.den, denL, dX, denSub, denIte, asB, dY, whos_snocN, whos_snoc0N, shrs_snocN, shrs_snoc0N, w1, s1, s2, g1, Option.bind_some, who0, w2, w3]
        simp only [EndsOk, WaysOk, forall_cons, forall_nil, TgtOk, gpair, FactsIn, hold_cons, hold_nil, Option.some.injEq, dZ, X.bool, X.den, denL, dX, denSub, denIte, asB, dY, whos_snocN, whos_snoc0N, shrs_snocN, shrs_snoc0N, List.length_set, List.set_set, hnx, hl, hcn, w3, beq_iff_eq]
        (repeat' apply And.intro) <;> intros <;> first
          | trivial
          | (exfalso; omega)
          | (exact go)
    · have hi' : i = c.toNat := by omega
      subst hi'
      have hci : ¬ ((c.toNat : Nat) : Int) < c := by omega
      simp only [lPrt0_l, qa6, qa5, qa4, qa3, qa2, qa1, qa0, EndsOk, WaysOk, forall_cons, forall_nil, TgtOk, gpair, FactsIn, hold_cons, hold_nil, Option.some.injEq, dZ, X.bool, X.den, denL, dX, denSub, denIte, asB, dY, whos_snocN, whos_snoc0N, shrs_snocN, shrs_snoc0N, v0, v1, v100, v101, vs, h0, h1, hsy, sym10, sym20, sym100, sym101, sym102, sym103, hci]
      simp [partsR]
noncomputable def cParts_con : Con := { f := 35, args := [.one (.int .i64 0), .one (.int .i64 1)], N := 2, M := 3, pre := [(.app 10 [.var 0, .num 0, .num 1000000000], true), (.app 10 [.var 1, .num 1, .num 40], true)], out := .slo 2 1 (.var 1), news := [(2, .rows 1 whoSch (.num 0) (.app 102 [.var 0, .var 1]) true 3)] }
noncomputable def cParts_call : Env → CallL := fun E => acallAll E (evH E (noL E) ((fun E => oneH 35 (hooks [(3, lPrt_D.hook E.facts prt_vs)])) E) 6)
noncomputable def cParts_t : GTree := (.fork (.op2 .lt (.num 1000000000) (.var 1)) .bad (.fork (.op2 .lt (.var 1) (.num 0)) .bad (.leaf [[(2, 2)]])))
noncomputable def cParts_l : List (List (X × Bool) × Option Pairs) := [([(.op2 .lt (.num 1000000000) (.var 1), true), (.app 10 [.var 0, .num 0, .num 1000000000], true), (.app 10 [.var 1, .num 1, .num 40], true)], none),
  ([(.op2 .lt (.var 1) (.num 0), true), (.op2 .lt (.num 1000000000) (.var 1), false), (.app 10 [.var 0, .num 0, .num 1000000000], true), (.app 10 [.var 1, .num 1, .num 40], true)], none),
  ([(.op2 .lt (.var 1) (.num 0), false), (.op2 .lt (.num 1000000000) (.var 1), false), (.app 10 [.var 0, .num 0, .num 1000000000], true), (.app 10 [.var 1, .num 1, .num 40], true)], some [])]
theorem cParts_w (r : Rho) : cParts_con.fn.ways cParts_call E0 r cParts_con.pre cParts_t = some cParts_l := by kernel_rfl
theorem cParts_H {r : Rho} {p c : Int} {k0 k1 : IntKind} (h0 : r.val 0 = some (.int k0 p)) (h1 : r.val 1 = some (.int k1 c)) (hp0 : 0 ≤ p) (hp1 : p ≤ 1000000000) (hc0 : 1 ≤ c) (hc1 : c ≤ 40) (hsy : r.sym = sy) (F : List (X × Bool)) : LoopsOk (E0.with F r) (oneH 35 (hooks [(3, lPrt_D.hook (E0.with F r).facts prt_vs)])) := by
  refine loops_all (n := 1) (fun f fn h => h) (by kernel_rfl) fun i hi => ?_
  obtain rfl : i = 0 := by omega
  rw [hooks_hit (show keyOf (loopAt (E0.with F r).P 35 0) = 3 by kernel_rfl)]
  refine hook_ok (E₀ := E0) (run := lPrt_run) (ρ := r) (Inv := lPrt_Inv p c) (μ := lPrt_mu c) E0_ok lPrt_ok (fun F r' h => ?_) (fun _ => ⟨lPrt_step h0 h1 hsy hp0 hp1 hc0 hc1, [.int .i64 0, whosR (partsTo p c 0)], ?_, rfl, 0, Nat.zero_le _, rfl⟩)
  · exact bodyRun_ok E0_ok (noL_ok F (h.trans hsy)) fun _ _ => noLoop_ok
  · simp only [prt_vs, X.bool, X.den, denL, dX, denSub, denIte, asB, dY, whos_snocN, whos_snoc0N, shrs_snocN, shrs_snoc0N, h1, partsTo_zero]
theorem cParts_cok : cParts_con.Ok Tryz.prog sy := by
  intro r σ w us hsy hρ hpre hrel hins
  obtain ⟨u0, us, rfl, g0, hins⟩ := ins_cons hins
  obtain ⟨u1, us, rfl, g1, hins⟩ := ins_cons hins
  obtain ⟨p, k0, rfl, h0⟩ := one_int g0
  obtain ⟨c, k1, rfl, h1⟩ := one_int g1
  rw [hρ] at h0 h1
  have hw := hpre
  simp only [cParts_con, FactsIn, X.bool, X.den, denL, dX, denSub, denIte, asB, dY, whos_snocN, whos_snoc0N, shrs_snocN, shrs_snoc0N, h0, h1, hsy, sym10, Option.some.injEq, Value.bool.injEq, and_true, withinB, Bool.and_eq_true, decide_eq_true_eq] at hw
  obtain ⟨⟨hp0, hp1⟩, hc0, hc1⟩ := hw
  refine con_of (E := E0) E0_ok E0_glob (sy := sy) (fun F => noL_ok F hsy) (fun F => cParts_H h0 h1 hp0 hp1 hc0 hc1 hsy F) (cParts_w r) hρ hpre hrel hins ?_ ?_
  · simp only [cParts_con, cParts_t, qa6, qa5, qa4, qa3, qa2, qa1, qa0, AsksL, GTree.asks, FTree.asks, FactsIn, List.append_nil, List.nil_append, List.cons_append, Option.some.injEq, exists_eq', implies_true, and_self, X.bool, X.den, denL, dX, denSub, denIte, asB, dY, whos_snocN, whos_snoc0N, shrs_snocN, shrs_snoc0N, h0, h1, hsy, sym10, sym20, sym100, sym101, sym102, sym103]
  · simp only [cParts_l, qa6, qa5, qa4, qa3, qa2, qa1, qa0, EndsOk, WaysOk, forall_cons, forall_nil, TgtOk, gpair, FactsIn, hold_cons, hold_nil, Option.some.injEq, dZ, X.bool, X.den, denL, dX, denSub, denIte, asB, dY, whos_snocN, whos_snoc0N, shrs_snocN, shrs_snoc0N, h0, h1, hsy, sym10, sym20, sym100, sym101, sym102, sym103]
    clear hsy hρ hpre hrel hins h0 h1
    (repeat' apply And.intro) <;> intros <;> first | trivial | (exfalso; omega) | (simp_all; done)
end Go.Proofs.YtcmbkcebbgigcaaGreatDoor.Zs
