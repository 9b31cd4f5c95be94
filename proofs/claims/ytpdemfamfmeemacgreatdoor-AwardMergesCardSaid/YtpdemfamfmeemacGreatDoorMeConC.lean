/-
  Contracts of package award: lists of shares, accounts, changes.
-/
import Derived.Test.YtpdemfamfmeemacGreatDoorMeConA
import Derived.KernelRfl
import Derived.Test.YtpdemfamfmeemacGreatDoorMeKeys
set_option linter.unusedSimpArgs false
set_option linter.unusedVariables false
namespace Go.Proofs.YtpdemfamfmeemacGreatDoor.Zs
open Go
theorem chkS_bad {l : List Shr} {i : Nat} {p : Shr} (hl : (l.length : Int) ≤ 1000) (h : l[i]? = some p) (hb : chk1 p = false) : chkS l = 1 := by
  unfold chkS
  rw [if_neg (by omega), if_neg]
  intro ha
  have := List.all_eq_true.1 ha p (List.mem_of_getElem? h)
  rw [hb] at this; cases this
theorem chk_next {l : List Shr} {i : Nat} {p : Shr} (h : l[i]? = some p) (ha : ∀ x ∈ l.take i, chk1 x = true) (hb : chk1 p = true) : ∀ x ∈ l.take (i + 1), chk1 x = true := by
  intro x hx
  rw [List.take_add_one, h] at hx
  rcases List.mem_append.1 hx with hx | hx
  · exact ha x hx
  · simp at hx; exact hx ▸ hb
theorem chkS_two {l : List Shr} : chkS l = 2 ↔ 1000 < (l.length : Int) := by
  unfold chkS
  split
  · simp; assumption
  · split <;> simp <;> omega
def chkS_vs : List X := [.num 0]
noncomputable def lChk_D : LoopD := { N := 100, M := 101, size := sizeOfF 25, reads := [(0, .rows 2 shrSch (.var 0) (.var 1) false 25)], pats := [{ slots := [(8, .slx 0 2 (.var 0) (.num 0) (.op1 .len (.var 1)) (.var 2)), (9, .sint .i64 (.op1 .len (.var 1))), (10, .sint .i64 (.var 100))], heap := [] }], exits := [(.exit 0, { slots := [], heap := [], guard := .op2 .eq (.app 110 [.var 1]) (.num 0) }), (.ret, { slots := [(2, .int .i64 1)], heap := [], guard := .op2 .eq (.app 110 [.var 1]) (.num 1) })], own := [], pre := [(.op2 .lt (.num 1000) (.op1 .len (.var 1)), false)] }
noncomputable def lChk_run : Env → AF → ASt → Option (List Out) := bodyRun LW 6 (fun _ => noLoop) (loopAt Tryz.prog 25 0)
def lChk0_F : List (X × Bool) := [(.op2 .lt (.var 100) (.num 0), false)]
def yEC_0 : X := .app 10 [(.cell 1 (.var 1) (.var 100)), (.num (-1000000000)), (.num 1000000000)]
def yEC_1 : X := .app 110 [(.var 1)]
def yEC_2 : X := .op2 .lt (.var 100) (.op1 .len (.var 1))
def yEC_3 : X := .op2 .eq (.cell 0 (.var 1) (.var 100)) (.num 0)
def yEC_4 : X := .op2 .lt (.num 1000) (.op1 .len (.var 1))
def yEC_5 : X := .app 10 [(.cell 0 (.var 1) (.var 100)), (.num 1), (.num 40)]
def yEC_6 : X := .op2 .eq yEC_1 (.num 1)
noncomputable def lChk0_t : FTree := (.fork yEC_2 (.fork yEC_3 (.fork yEC_0 (.leaf [.again 0 []]) (.leaf [.leave 1 []])) (.fork yEC_5 (.fork yEC_0 (.leaf [.again 0 []]) (.leaf [.leave 1 []])) (.leaf [.leave 1 []]))) (.leaf [.leave 0 []]))
noncomputable def lChk0_l : List (List (X × Bool) × Option (List (Tgt × Pairs))) := [([(yEC_0, true), (yEC_3, true), (yEC_2, true), (.op2 .lt (.var 100) (.num 0), false)], some [(.again 0 [], [(.var 100, .op1 (.wrap .i64) (.op2 .add (.var 100) (.num 1)))])]),
  ([(yEC_0, false), (yEC_3, true), (yEC_2, true), (.op2 .lt (.var 100) (.num 0), false)], some [(.leave 1 [], [(yEC_6, .boo true)])]),
  ([(yEC_0, true), (yEC_5, true), (yEC_3, false), (yEC_2, true), (.op2 .lt (.var 100) (.num 0), false)], some [(.again 0 [], [(.var 100, .op1 (.wrap .i64) (.op2 .add (.var 100) (.num 1)))])]),
  ([(yEC_0, false), (yEC_5, true), (yEC_3, false), (yEC_2, true), (.op2 .lt (.var 100) (.num 0), false)], some [(.leave 1 [], [(yEC_6, .boo true)])]),
  ([(yEC_5, false), (yEC_3, false), (yEC_2, true), (.op2 .lt (.var 100) (.num 0), false)], some [(.leave 1 [], [(yEC_6, .boo true)])]),
  ([(yEC_2, false), (.op2 .lt (.var 100) (.num 0), false)], some [(.leave 0 [], [(.op2 .eq yEC_1 (.num 0), .boo true)])])]
theorem lChk0_w (r : Rho) : lChk_D.ways lChk_run E0 r 0 lChk0_F lChk0_t = some lChk0_l := by kernel_rfl
theorem lChk_ok : lChk_D.ok = true := by kernel_rfl
def lChk_Inv (l : List Shr) (j : Nat) (vals : List Value) : Prop :=
  j = 0 ∧ ∃ i : Nat, i ≤ l.length ∧ vals = [.int .i64 i] ∧ ∀ x ∈ l.take i, chk1 x = true
def lChk_mu (l : List Shr) (_ : Nat) (vals : List Value) : Nat := l.length - (vI (vals.getD 0 default)).toNat
theorem lChk_step {ρ : Rho} {l : List Shr} (h1 : ρ.val 1 = some (shrsR l)) (hsy : ρ.sym = sy) (hmax : (l.length : Int) ≤ 1000) (j : Nat) (vals : List Value) (hI : lChk_Inv l j vals) :
    StepOk lChk_D lChk_run E0 ρ (lChk_Inv l) (lChk_mu l) j vals := by
  obtain ⟨rfl, i, hi, rfl, hall⟩ := hI
  have hN : lChk_D.N = 100 := rfl
  have v1 : (ρ.ext lChk_D.N [.int .i64 i]).val 1 = some (shrsR l) := by rw [ext_low _ _ _ _ (by rw [hN]; omega)]; exact h1
  have v100 : (ρ.ext lChk_D.N [.int .i64 i]).val 100 = some (.int .i64 i) := by rw [ext_high _ _ _ _ (by rw [hN]; omega)]; rfl
  have vs : (ρ.ext lChk_D.N [.int .i64 i]).sym = sy := hsy
  refine step_of_ways (lChk0_w _) (F := lChk0_F) ?_ (AsksL.ok ?_) ?_
  · simp only [lChk0_F, FactsIn, X.bool, X.den, denL, dX, denSub, denIte, asB, dY, v100, Option.some.injEq, Value.bool.injEq, decide_eq_false_iff_not, and_true]
    omega
  · cases hp : l[i]? with
    | none =>
      have hge : ¬ (i : Int) < l.length := by have := List.getElem?_eq_none_iff.1 hp; omega
      simp only [lChk0_t, yEC_6, yEC_5, yEC_4, yEC_3, yEC_2, yEC_1, yEC_0, lChk0_F, AsksL, GTree.asks, FTree.asks, FactsIn, List.append_nil, List.nil_append, List.cons_append, Option.some.injEq, exists_eq', implies_true, and_self, X.bool, X.den, denL, dX, denSub, denIte, asB, dY, v1, v100, vs, sym10, sym110, Int.toNat_natCast, hp, hge]
      simp
    | some p => simp only [lChk0_t, yEC_6, yEC_5, yEC_4, yEC_3, yEC_2, yEC_1, yEC_0, lChk0_F, AsksL, GTree.asks, FTree.asks, FactsIn, List.append_nil, List.nil_append, List.cons_append, Option.some.injEq, exists_eq', implies_true, and_self, X.bool, X.den, denL, dX, denSub, denIte, asB, dY, v1, v100, vs, sym10, sym110, Int.toNat_natCast, hp, Option.bind_some, shr0, shr1]
  · cases hp : l[i]? with
    | none =>
      have hge := List.getElem?_eq_none_iff.1 hp
      have hge' : ¬ (i : Int) < l.length := by omega
      have hi' : i = l.length := by omega
      have hz : chkS l = 0 := (chkS_iff l).2 ⟨hmax, fun x hx => hall x (by rw [hi', List.take_length]; exact hx)⟩
      simp only [lChk0_l, yEC_6, yEC_5, yEC_4, yEC_3, yEC_2, yEC_1, yEC_0, EndsOk, WaysOk, forall_cons, forall_nil, TgtOk, gpair, FactsIn, hold_cons, hold_nil, Option.some.injEq, dZ, X.bool, X.den, denL, dX, denSub, denIte, asB, dY, v1, v100, vs, h1, hsy, sym10, sym110, Int.toNat_natCast, hp, hge']
      simp [hz]
    | some p =>
      have hlt : i < l.length := (List.getElem?_eq_some_iff.1 hp).1
      have hlt1 : (i : Int) < l.length := by omega
      have go : chk1 p = true → ∃ vals', ((ρ.ext lChk_D.N vals').val 100 = some (.int .i64 (IntKind.i64.wrap ((i : Int) + 1)))) ∧ lChk_Inv l 0 vals' ∧ lChk_mu l 0 vals' < lChk_mu l 0 [.int .i64 i] := by
        intro e
        refine ⟨[.int .i64 ((i + 1 : Nat) : Int)], ?_, ⟨rfl, i + 1, by omega, rfl, chk_next hp hall e⟩, ?_⟩
        · rw [ext_high _ _ _ _ (by rw [hN]; omega), IntWalk.i64_in _ (by omega)]; rfl
        · simp [lChk_mu, vI]; omega
      have no := chkS_bad hmax hp
      simp only [lChk0_l, yEC_6, yEC_5, yEC_4, yEC_3, yEC_2, yEC_1, yEC_0, EndsOk, WaysOk, forall_cons, forall_nil, TgtOk, gpair, FactsIn, hold_cons, hold_nil, Option.some.injEq, dZ, X.bool, X.den, denL, dX, denSub, denIte, asB, dY, v1, v100, vs, h1, hsy, sym10, sym110, Int.toNat_natCast, hp, Option.bind_some, shr0, shr1, hlt1]
      clear v1 v100 vs h1 hsy hp
      (repeat' apply And.intro) <;> intros <;> first
        | trivial
        | (exfalso; omega)
        | (exact go (by simp_all [chk1]))
        | (rw [no (by simp_all [chk1])]; rfl)
        | (simp_all; done)
noncomputable def cChk_con : Con := { f := 25, args := [shrsArg 0 0], N := 1, M := 1, pre := [], out := .sint .i64 (.app 110 [.var 1]), news := [] }
noncomputable def cChk_call : Env → CallL := fun E => acallAll E (evH E (LW E) ((fun E => oneH 25 (hooks [(4, lChk_D.hook E.facts chkS_vs)])) E) 6)
noncomputable def cChk_t : GTree := (.fork yEC_4 (.leaf [[]]) (.fork (.op2 .eq yEC_1 (.num 0)) (.fork yEC_6 (.leaf [[], []]) (.leaf [[]])) (.fork yEC_6 (.leaf [[]]) (.leaf []))))
noncomputable def cChk_l : List (List (X × Bool) × Option Pairs) := [([(yEC_4, true)], some [(yEC_1, .num 2)]),
  ([(yEC_6, true), (.op2 .eq yEC_1 (.num 0), true), (yEC_4, false)], some [(yEC_1, .num 0), (yEC_1, .num 1)]),
  ([(yEC_6, false), (.op2 .eq yEC_1 (.num 0), true), (yEC_4, false)], some [(yEC_1, .num 0)]),
  ([(yEC_6, true), (.op2 .eq yEC_1 (.num 0), false), (yEC_4, false)], some [(yEC_1, .num 1)]),
  ([(yEC_6, false), (.op2 .eq yEC_1 (.num 0), false), (yEC_4, false)], some [])]
theorem cChk_w (r : Rho) : cChk_con.fn.ways cChk_call E0 r cChk_con.pre cChk_t = some cChk_l := by kernel_rfl
theorem cChk_H {r : Rho} {l : List Shr} (h1 : r.val 1 = some (shrsR l)) (hsy : r.sym = sy) (F : List (X × Bool)) : LoopsOk (E0.with F r) (oneH 25 (hooks [(4, lChk_D.hook (E0.with F r).facts chkS_vs)])) := by
  refine loops_all (n := 1) (fun f fn h => h) (by kernel_rfl) fun i hi => ?_
  obtain rfl : i = 0 := by omega
  rw [hooks_hit (show keyOf (loopAt (E0.with F r).P 25 0) = 4 by kernel_rfl)]
  refine hook_ok (E₀ := E0) (run := lChk_run) (ρ := r) (Inv := lChk_Inv l) (μ := lChk_mu l) E0_ok lChk_ok (fun F r' h => ?_) (fun hp => ⟨lChk_step h1 hsy ?_, [.int .i64 0], ?_, rfl, 0, Nat.zero_le _, rfl, fun x hx => by cases hx⟩)
  · exact bodyRun_ok E0_ok (LW_ok F (h.trans hsy)) fun _ _ => noLoop_ok
  · simp only [lChk_D, FactsIn, X.bool, X.den, denL, dX, denSub, denIte, asB, dY, h1, Option.some.injEq, Value.bool.injEq, decide_eq_false_iff_not, and_true] at hp
    omega
  · simp only [chkS_vs, X.bool, X.den, denL, dX, denSub, denIte, asB, dY]
theorem cChk_cok : cChk_con.Ok Tryz.prog sy := by
  intro r σ w us hsy hρ hpre hrel hins
  obtain ⟨l, h1⟩ := shrs_at hrel (i := 0) rfl
  rw [hρ] at h1
  have h1 : r.val 1 = some (shrsR l) := h1
  refine con_of (E := E0) E0_ok E0_glob (sy := sy) (fun F => LW_ok F hsy) (fun F => cChk_H h1 hsy F) (cChk_w r) hρ hpre hrel hins ?_ ?_
  · simp only [cChk_con, cChk_t, yEC_6, yEC_5, yEC_4, yEC_3, yEC_2, yEC_1, yEC_0, AsksL, GTree.asks, FTree.asks, FactsIn, List.append_nil, List.nil_append, List.cons_append, Option.some.injEq, exists_eq', implies_true, and_self, X.bool, X.den, denL, dX, denSub, denIte, asB, dY, h1, hsy, sym10, sym110]
  · simp only [cChk_l, yEC_6, yEC_5, yEC_4, yEC_3, yEC_2, yEC_1, yEC_0, EndsOk, WaysOk, forall_cons, forall_nil, TgtOk, gpair, FactsIn, hold_cons, hold_nil, Option.some.injEq, dZ, X.bool, X.den, denL, dX, denSub, denIte, asB, dY, h1, hsy, sym10, sym110]
    have h2 := @chkS_two l
    clear hsy hρ hpre hrel hins h1
    (repeat' apply And.intro) <;> intros <;> first
      | trivial
      | (exfalso; omega)
      | (simp_all; done)
      | (exfalso; simp_all; omega)
      | (have := h2.2 (by assumption); simp_all; done)
open Go
theorem keys_len (m : List Shr) : ((keysS m).map Who.mk).length = m.length := by
  simp [keysS]
theorem keys_has {m : List Shr} {k : Int} (h : k ∈ keysS m) : hasK m k = true := by
  unfold keysS at h
  rw [List.mem_mergeSort] at h
  obtain ⟨x, hx, rfl⟩ := List.mem_map.1 h
  exact List.any_eq_true.2 ⟨x, hx, by simp⟩
theorem chg_len (m : List Shr) : (chgOf m).length = m.length := by simp [chgOf, keysS]
theorem keys_at {m : List Shr} {i : Nat} {k : Who} (h : ((keysS m).map Who.mk)[i]? = some k) : k.n ∈ keysS m ∧ (chgOf m)[i]? = some ⟨k.n, atK m k.n⟩ := by
  rw [List.getElem?_map] at h
  cases hk : (keysS m)[i]? with
  | none => rw [hk] at h; cases h
  | some n =>
    rw [hk] at h
    cases h
    exact ⟨List.mem_of_getElem? hk, by simp [chgOf, hk]⟩
noncomputable def orLoop (a b : LoopE) : LoopE := fun f c fr S => match a f c fr S with
  | some r => some r
  | none => b f c fr S
theorem orLoop_ok {E : Env} {a b : LoopE} (ha : LoopsOk E a) (hb : LoopsOk E b) : LoopsOk E (orLoop a b) := by
  intro f fn c hf hc c' hm fr S outs h
  unfold orLoop at h
  split at h
  · rename_i r hr
    cases h
    exact ha f fn c hf hc c' hm fr S _ hr
  · exact hb f fn c hf hc c' hm fr S _ h
noncomputable def LD : Env → CallE := libs [cLib cChk_con, skeysLib 47 74 3 113 114]
theorem LD_ok (F : List (X × Bool)) {r : Rho} (h : r.sym = sy) : CallsOk (E0.with F r) (LD (E0.with F r)) := libs_ok fun c hc => by
  simp only [List.mem_cons, List.not_mem_nil, or_false] at hc
  rcases hc with rfl | rfl
  · exact lib_ok (E := E0) cChk_cok F h
  · exact skeysLib_ok (E := E0.with F r) (Env.with_ok E0_ok F r) (r := r) rfl (fun rows => by rw [h]; exact sym113R rows) (fun rows => by rw [h]; exact sym114R rows) keysSays Tryz.underlying3 (by kernel_rfl)
def chg1_vs : List X := [.num 0, .nil]
def chg2_vs : List X := [.num 0, .app 112 [.var 1]]
def shr_vs : List X := [.num 0]
noncomputable def lSub_D : LoopD := { N := 100, M := 102, size := sizeOfF 8, reads := [(0, .rows 2 shrSch (.var 0) (.var 1) false 25)], pats := [{ slots := [(1, .slx 1 2 (.var 3) (.num 0) (.op1 .len (.var 4)) (.var 5)), (9, .map 2), (27, .slx 0 2 (.var 0) (.num 0) (.op1 .len (.var 1)) (.var 2)), (28, .sint .i64 (.op1 .len (.var 1))), (29, .sint .i64 (.var 100))], heap := [(2, .smap false [.int .i64] false [.int .i64] (.var 101))] }], exits := [(.exit 2, { slots := [(1, .slx 1 2 (.var 3) (.num 0) (.op1 .len (.var 4)) (.var 5)), (9, .map 2)], heap := [(2, .smap false [.int .i64] false [.int .i64] (.app 112 [.var 1]))] })], own := [2], pre := [(.op2 .eq (.app 110 [.var 1]) (.num 0), true), (.op2 .eq (.app 110 [.var 4]) (.num 0), true)] }
noncomputable def lSub_run : Env → AF → ASt → Option (List Out) := bodyRun LD 6 (fun _ => noLoop) (loopAt Tryz.prog 8 1)
def lSub0_F : List (X × Bool) := [(.op2 .lt (.var 100) (.num 0), false)]
def yED_0 : X := .app 111 [(.var 4), (.app 112 [(.var 1)])]
def yED_1 : X := .op2 (.mput 1) (.var 101) (.snoc .nil [(.op1 (.kind .i64) (.cell 0 (.var 1) (.var 100))), (.op1 (.kind .i64) (.op1 (.wrap .i64) (.op2 .add (.op2 (.mat 1) (.var 101) (.snoc .nil [(.op1 (.kind .i64) (.cell 0 (.var 1) (.var 100)))])) (.op1 (.wrap .i64) (.op2 .sub (.num 0) (.cell 1 (.var 1) (.var 100)))))))])
def yED_2 : X := .op1 (.kind .i64) (.cell 0 (.var 4) (.var 110))
def yED_3 : X := .op2 (.mput 1) (.var 101) (.snoc .nil [(.op1 (.kind .i64) (.cell 0 (.var 1) (.var 100))), (.op1 (.kind .i64) (.op1 (.wrap .i64) (.op2 .add (.num 0) (.op1 (.wrap .i64) (.op2 .sub (.num 0) (.cell 1 (.var 1) (.var 100)))))))])
def yED_4 : X := .op2 (.mput 1) (.var 111) (.snoc .nil [yED_2, (.op1 (.kind .i64) (.op1 (.wrap .i64) (.op2 .add (.op2 (.mat 1) (.var 111) (.snoc .nil [yED_2])) (.cell 1 (.var 4) (.var 110)))))])
def yED_5 : X := .snoc .nil [(.op1 (.kind .i64) (.cell 0 (.var 1) (.var 100)))]
def yED_6 : X := .op2 (.mput 1) (.var 111) (.snoc .nil [yED_2, (.op1 (.kind .i64) (.op1 (.wrap .i64) (.op2 .add (.num 0) (.cell 1 (.var 4) (.var 110)))))])
def yED_7 : X := .op1 (.kind .i64) (.cell 0 (.app 113 [yED_0]) (.var 120))
def yED_8 : X := .op2 .lt (.var 120) (.op1 .len (.app 113 [yED_0]))
def yED_9 : X := .snoc .nil [yED_2]
def yED_10 : X := .op2 .lt (.num 1000000000) (.op2 .add (.op1 .len (.var 121)) (.num 1))
def yED_11 : X := .op2 .lt (.var 120) (.op1 .len yED_0)
def yED_12 : X := .op2 .lt (.var 100) (.op1 .len (.var 1))
def yED_13 : X := .op2 .lt (.var 110) (.op1 .len (.var 4))
def yED_14 : X := .op2 .eq (.app 110 [(.var 1)]) (.num 0)
def yED_15 : X := .op2 .mhas yED_0 (.snoc .nil [yED_7])
def yED_16 : X := .op1 (.wrap .i64) (.op2 .add (.var 100) (.num 1))
def yED_17 : X := .op1 (.wrap .i64) (.op2 .add (.var 110) (.num 1))
def yED_18 : X := .op2 .eq (.app 110 [(.var 4)]) (.num 0)
def yED_19 : X := .op2 .lt (.num 1000000000) (.op1 .len yED_0)
def yED_20 : X := .op2 .lt (.var 120) (.num 0)
def yED_21 : X := .op2 .eq (.op1 .len yED_0) (.num 0)
def yED_22 : X := .op2 .lt (.var 100) (.num 0)
def yED_23 : X := .op2 .lt (.var 110) (.num 0)
def yED_24 : X := .op2 .mhas (.var 101) yED_5
def yED_25 : X := .op2 .mhas (.var 111) yED_9
def yED_26 : X := .op1 (.wrap .i64) (.op2 .add (.var 120) (.num 1))
noncomputable def lSub0_t : FTree := (.fork yED_12 (.fork yED_24 (.fork (.op2 .mhas yED_1 yED_5) (.fork (.op2 .eq (.op2 (.mat 1) yED_1 yED_5) (.num 0)) (.leaf [.again 0 []]) (.leaf [.again 0 []])) (.leaf [.again 0 []])) (.fork (.op2 .mhas yED_3 yED_5) (.fork (.op2 .eq (.op2 (.mat 1) yED_3 yED_5) (.num 0)) (.leaf [.again 0 []]) (.leaf [.again 0 []])) (.leaf [.again 0 []]))) (.leaf [.leave 0 []]))
noncomputable def lSub0_l : List (List (X × Bool) × Option (List (Tgt × Pairs))) := [([(.op2 .eq (.op2 (.mat 1) yED_1 yED_5) (.num 0), true), (.op2 .mhas yED_1 yED_5, true), (yED_24, true), (yED_12, true), (yED_22, false)], some [(.again 0 [], [(.var 100, yED_16), (.var 101, .op2 .mdel yED_1 yED_5)])]),
  ([(.op2 .eq (.op2 (.mat 1) yED_1 yED_5) (.num 0), false), (.op2 .mhas yED_1 yED_5, true), (yED_24, true), (yED_12, true), (yED_22, false)], some [(.again 0 [], [(.var 100, yED_16), (.var 101, yED_1)])]),
  ([(.op2 .mhas yED_1 yED_5, false), (yED_24, true), (yED_12, true), (yED_22, false)], some [(.again 0 [], [(.var 100, yED_16), (.var 101, .op2 .mdel yED_1 yED_5)])]),
  ([(.op2 .eq (.op2 (.mat 1) yED_3 yED_5) (.num 0), true), (.op2 .mhas yED_3 yED_5, true), (yED_24, false), (yED_12, true), (yED_22, false)], some [(.again 0 [], [(.var 100, yED_16), (.var 101, .op2 .mdel yED_3 yED_5)])]),
  ([(.op2 .eq (.op2 (.mat 1) yED_3 yED_5) (.num 0), false), (.op2 .mhas yED_3 yED_5, true), (yED_24, false), (yED_12, true), (yED_22, false)], some [(.again 0 [], [(.var 100, yED_16), (.var 101, yED_3)])]),
  ([(.op2 .mhas yED_3 yED_5, false), (yED_24, false), (yED_12, true), (yED_22, false)], some [(.again 0 [], [(.var 100, yED_16), (.var 101, .op2 .mdel yED_3 yED_5)])]),
  ([(yED_12, false), (yED_22, false)], some [(.leave 0 [], [(.app 112 [.var 1], .var 101)])])]
theorem lSub0_w (r : Rho) : lSub_D.ways lSub_run E0 r 0 lSub0_F lSub0_t = some lSub0_l := by kernel_rfl
theorem lSub_ok : lSub_D.ok = true := by kernel_rfl
def lSub_Inv (a b : List Shr) (j : Nat) (vals : List Value) : Prop :=
  j = 0 ∧ ∃ i : Nat, i ≤ a.length ∧ vals = [.int .i64 i, shrsR (accA (a.take i))]
def lSub_mu (a b : List Shr) (_ : Nat) (vals : List Value) : Nat := a.length - (vI (vals.getD 0 default)).toNat
set_option maxHeartbeats 1000000 in
theorem lSub_step {ρ : Rho} {a b : List Shr} (h1 : ρ.val 1 = some (shrsR a)) (h4 : ρ.val 4 = some (shrsR b)) (hsy : ρ.sym = sy) (hca : chkS a = 0) (hcb : chkS b = 0) (j : Nat) (vals : List Value) (hI : lSub_Inv a b j vals) :
    StepOk lSub_D lSub_run E0 ρ (lSub_Inv a b) (lSub_mu a b) j vals := by
  obtain ⟨rfl, i, hi, rfl⟩ := hI
  have hN : lSub_D.N = 100 := rfl
  obtain ⟨hla, hga⟩ := (chkS_iff a).1 hca
  obtain ⟨hlb, hgb⟩ := (chkS_iff b).1 hcb
  have v1 : (ρ.ext lSub_D.N [.int .i64 i, shrsR (accA (a.take i))]).val 1 = some (shrsR a) := by rw [ext_low _ _ _ _ (by rw [hN]; omega)]; exact h1
  have v4 : (ρ.ext lSub_D.N [.int .i64 i, shrsR (accA (a.take i))]).val 4 = some (shrsR b) := by rw [ext_low _ _ _ _ (by rw [hN]; omega)]; exact h4
  have v100 : (ρ.ext lSub_D.N [.int .i64 i, shrsR (accA (a.take i))]).val 100 = some (.int .i64 i) := by rw [ext_high _ _ _ _ (by rw [hN]; omega)]; rfl
  have v101 : (ρ.ext lSub_D.N [.int .i64 i, shrsR (accA (a.take i))]).val 101 = some (shrsR (accA (a.take i))) := by rw [ext_high _ _ _ _ (by rw [hN]; omega)]; rfl
  have vs : (ρ.ext lSub_D.N [.int .i64 i, shrsR (accA (a.take i))]).sym = sy := hsy
  have hF : FactsIn (ρ.ext lSub_D.N [.int .i64 i, shrsR (accA (a.take i))]) lSub0_F := by
    simp only [lSub0_F, FactsIn, X.bool, X.den, denL, dX, denSub, denIte, asB, dY, v100, Option.some.injEq, Value.bool.injEq, decide_eq_false_iff_not, and_true]
    omega
  suffices both : AsksL (ρ.ext lSub_D.N [.int .i64 i, shrsR (accA (a.take i))]) (lSub0_t.asks lSub0_F) ∧ WaysOk lSub_D ρ (lSub_Inv a b) (lSub_mu a b) 0 [.int .i64 i, shrsR (accA (a.take i))] lSub0_l from step_of_ways (lSub0_w _) hF both.1.ok both.2
  have hacc : AccOk i (accA (a.take i)) := accA_ok hga i hi
  cases hp : a[i]? with
  | none =>
    have hge := List.getElem?_eq_none_iff.1 hp
    have hge' : ¬ (i : Int) < a.length := by omega
    have hl : a.take i = a := List.take_of_length_le hge
    refine ⟨?_, ?_⟩
    · simp only [lSub0_t, yED_26, yED_25, yED_24, yED_23, yED_22, yED_21, yED_20, yED_19, yED_18, yED_17, yED_16, yED_15, yED_14, yED_13, yED_12, yED_11, yED_10, yED_9, yED_8, yED_7, yED_6, yED_5, yED_4, yED_3, yED_2, yED_1, yED_0, lSub0_F, AsksL, GTree.asks, FTree.asks, FactsIn, List.append_nil, List.nil_append, List.cons_append, Option.some.injEq, exists_eq', implies_true, and_self, X.bool, X.den, denL, dX, denSub, denIte, asB, dY, d_hasS, d_putS, d_delS, has_put, v1, v4, v100, v101, vs, sym10, sym110, sym111, sym112, sym113, sym114, sym115, Int.toNat_natCast, hp, hge']
      try simp
    · simp only [lSub0_l, yED_26, yED_25, yED_24, yED_23, yED_22, yED_21, yED_20, yED_19, yED_18, yED_17, yED_16, yED_15, yED_14, yED_13, yED_12, yED_11, yED_10, yED_9, yED_8, yED_7, yED_6, yED_5, yED_4, yED_3, yED_2, yED_1, yED_0, EndsOk, WaysOk, forall_cons, forall_nil, TgtOk, gpair, FactsIn, hold_cons, hold_nil, Option.some.injEq, dZ, X.bool, X.den, denL, dX, denSub, denIte, asB, dY, d_hasS, d_putS, d_delS, has_put, beq_iff_eq, beq_eq_false_iff_ne, ne_eq, v1, v4, v100, v101, vs, h1, h4, hsy, sym10, sym110, sym111, sym112, sym113, sym114, sym115, Int.toNat_natCast, hp, hge']
      simp [hl]
  | some p =>
    have hlt : i < a.length := (List.getElem?_eq_some_iff.1 hp).1
    have hlt1 : (i : Int) < a.length := by omega
    have hc := (chk1_iff p).1 (hga p (List.mem_of_getElem? hp))
    have hnext : accA (a.take (i + 1)) = addK (accA (a.take i)) p.party (-p.pence) := by
      rw [List.take_add_one, hp]; exact accA_snoc _ p
    have hw : IntKind.i64.wrap ((i : Int) + 1) = ((i + 1 : Nat) : Int) := by rw [IntWalk.i64_in _ (by omega)]; rfl
    generalize hm : accA (a.take i) = m at hacc hnext v1 v4 v100 v101 vs hF ⊢
    have hat := acc_at hacc p.party
    have w1 : IntKind.i64.wrap (0 - p.pence) = -p.pence := by rw [IntWalk.i64_in _ (by omega)]; omega
    have w2 : IntKind.i64.wrap (atK m p.party + -p.pence) = atK m p.party + -p.pence := IntWalk.i64_in _ (by omega)
    have go : ∀ mm, mm = accA (a.take (i + 1)) → ∃ vals', ((ρ.ext lSub_D.N vals').val 100 = some (.int .i64 ((i + 1 : Nat) : Int)) ∧ (ρ.ext lSub_D.N vals').val 101 = some (shrsR mm)) ∧ lSub_Inv a b 0 vals' ∧ lSub_mu a b 0 vals' < lSub_mu a b 0 [.int .i64 i, shrsR m] := by
      rintro mm rfl
      refine ⟨[.int .i64 ((i + 1 : Nat) : Int), shrsR (accA (a.take (i + 1)))], ⟨?_, ?_⟩, ⟨rfl, i + 1, by omega, rfl⟩, ?_⟩
      · rw [ext_high _ _ _ _ (by rw [hN]; omega)]; rfl
      · rw [ext_high _ _ _ _ (by rw [hN]; omega)]; rfl
      · simp [lSub_mu, vI]; omega
    have hz : atK m p.party + -p.pence = 0 → delK p.party (putK p.party (atK m p.party + -p.pence) m) = accA (a.take (i + 1)) := fun h => by rw [hnext]; unfold addK; rw [if_pos h]
    have hnz : ¬ atK m p.party + -p.pence = 0 → putK p.party (atK m p.party + -p.pence) m = accA (a.take (i + 1)) := fun h => by rw [hnext]; unfold addK; rw [if_neg h]
    have hgp : ∀ v, den2 (.mat 1) (shrsR (putK p.party v m)) (whosR [⟨p.party⟩]) = some (.int .i64 v) := fun v => by rw [d_atS, has_put, at_put]; rfl
    cases hh : hasK m p.party with
    | true =>
      have hgm : den2 (.mat 1) (shrsR m) (whosR [⟨p.party⟩]) = some (.int .i64 (atK m p.party)) := by rw [d_atS, hh]; rfl
      refine ⟨?_, ?_⟩
      all_goals (simp only [lSub0_t, yED_26, yED_25, yED_24, yED_23, yED_22, yED_21, yED_20, yED_19, yED_18, yED_17, yED_16, yED_15, yED_14, yED_13, yED_12, yED_11, yED_10, yED_9, yED_8, yED_7, yED_6, yED_5, yED_4, yED_3, yED_2, yED_1, yED_0, lSub0_F, lSub0_l, AsksL, GTree.asks, FTree.asks, FactsIn, List.append_nil, List.nil_append, List.cons_append, Option.some.injEq, exists_eq', implies_true, and_self, X.bool, X.den, denL, dX, denSub, denIte, asB, dY, d_hasS, d_putS, d_delS, has_put, EndsOk, WaysOk, forall_cons, forall_nil, TgtOk, gpair, FactsIn, hold_cons, hold_nil, Option.some.injEq, dZ, X.bool, X.den, denL, dX, denSub, denIte, asB, dY, d_hasS, d_putS, d_delS, has_put, beq_iff_eq, beq_eq_false_iff_ne, ne_eq, v1, v4, v100, v101, vs, h1, h4, hsy, sym10, sym110, sym111, sym112, sym113, sym114, sym115, Int.toNat_natCast, hp, Option.bind_some, shr0, shr1, hlt1, hh, hgm, hgp, hw, w2, w1, reduceCtorEq, false_implies, implies_true, true_implies, and_self])
      all_goals (clear v1 v4 v100 v101 vs h1 h4 hsy hp hF hgm hgp)
      all_goals ((repeat' apply And.intro) <;> intros <;> first
        | trivial
        | (exfalso; omega)
        | (exact absurd trivial (by assumption))
        | (exact go _ (hz (by assumption)))
        | (exact go _ (hnz (by assumption))))
    | false =>
      have h0 := at_none hh
      have w3 : IntKind.i64.wrap (0 + -p.pence) = -p.pence := by rw [IntWalk.i64_in _ (by omega)]; omega
      rw [h0, Int.zero_add] at hz hnz
      refine ⟨?_, ?_⟩
      all_goals (simp only [lSub0_t, yED_26, yED_25, yED_24, yED_23, yED_22, yED_21, yED_20, yED_19, yED_18, yED_17, yED_16, yED_15, yED_14, yED_13, yED_12, yED_11, yED_10, yED_9, yED_8, yED_7, yED_6, yED_5, yED_4, yED_3, yED_2, yED_1, yED_0, lSub0_F, lSub0_l, AsksL, GTree.asks, FTree.asks, FactsIn, List.append_nil, List.nil_append, List.cons_append, Option.some.injEq, exists_eq', implies_true, and_self, X.bool, X.den, denL, dX, denSub, denIte, asB, dY, d_hasS, d_putS, d_delS, has_put, EndsOk, WaysOk, forall_cons, forall_nil, TgtOk, gpair, FactsIn, hold_cons, hold_nil, Option.some.injEq, dZ, X.bool, X.den, denL, dX, denSub, denIte, asB, dY, d_hasS, d_putS, d_delS, has_put, beq_iff_eq, beq_eq_false_iff_ne, ne_eq, v1, v4, v100, v101, vs, h1, h4, hsy, sym10, sym110, sym111, sym112, sym113, sym114, sym115, Int.toNat_natCast, hp, Option.bind_some, shr0, shr1, hlt1, hh, hgp, hw, w3, w1, reduceCtorEq, false_implies, implies_true, true_implies, and_self])
      all_goals (clear v1 v4 v100 v101 vs h1 h4 hsy hp hF hgp)
      all_goals ((repeat' apply And.intro) <;> intros <;> first
        | trivial
        | (exfalso; omega)
        | (exact absurd trivial (by assumption))
        | (exact go _ (hz (by assumption)))
        | (exact go _ (hnz (by assumption))))
noncomputable def lAdd_D : LoopD := { N := 110, M := 112, size := sizeOfF 8, reads := [(1, .rows 2 shrSch (.var 3) (.var 4) false 25)], pats := [{ slots := [(9, .map 2), (41, .slx 1 2 (.var 3) (.num 0) (.op1 .len (.var 4)) (.var 5)), (42, .sint .i64 (.op1 .len (.var 4))), (43, .sint .i64 (.var 110))], heap := [(2, .smap false [.int .i64] false [.int .i64] (.var 111))] }], exits := [(.exit 4, { slots := [(9, .map 2)], heap := [(2, .smap false [.int .i64] false [.int .i64] (.app 111 [.var 4, .app 112 [.var 1]]))] })], own := [2], pre := [(.op2 .eq (.app 110 [.var 1]) (.num 0), true), (.op2 .eq (.app 110 [.var 4]) (.num 0), true)] }
noncomputable def lAdd_run : Env → AF → ASt → Option (List Out) := bodyRun LD 6 (fun _ => noLoop) (loopAt Tryz.prog 8 2)
def lAdd0_F : List (X × Bool) := [(.op2 .lt (.var 110) (.num 0), false)]
noncomputable def lAdd0_t : FTree := (.fork yED_13 (.fork yED_25 (.fork (.op2 .mhas yED_4 yED_9) (.fork (.op2 .eq (.op2 (.mat 1) yED_4 yED_9) (.num 0)) (.leaf [.again 0 []]) (.leaf [.again 0 []])) (.leaf [.again 0 []])) (.fork (.op2 .mhas yED_6 yED_9) (.fork (.op2 .eq (.op2 (.mat 1) yED_6 yED_9) (.num 0)) (.leaf [.again 0 []]) (.leaf [.again 0 []])) (.leaf [.again 0 []]))) (.leaf [.leave 0 []]))
noncomputable def lAdd0_l : List (List (X × Bool) × Option (List (Tgt × Pairs))) := [([(.op2 .eq (.op2 (.mat 1) yED_4 yED_9) (.num 0), true), (.op2 .mhas yED_4 yED_9, true), (yED_25, true), (yED_13, true), (yED_23, false)], some [(.again 0 [], [(.var 110, yED_17), (.var 111, .op2 .mdel yED_4 yED_9)])]),
  ([(.op2 .eq (.op2 (.mat 1) yED_4 yED_9) (.num 0), false), (.op2 .mhas yED_4 yED_9, true), (yED_25, true), (yED_13, true), (yED_23, false)], some [(.again 0 [], [(.var 110, yED_17), (.var 111, yED_4)])]),
  ([(.op2 .mhas yED_4 yED_9, false), (yED_25, true), (yED_13, true), (yED_23, false)], some [(.again 0 [], [(.var 110, yED_17), (.var 111, .op2 .mdel yED_4 yED_9)])]),
  ([(.op2 .eq (.op2 (.mat 1) yED_6 yED_9) (.num 0), true), (.op2 .mhas yED_6 yED_9, true), (yED_25, false), (yED_13, true), (yED_23, false)], some [(.again 0 [], [(.var 110, yED_17), (.var 111, .op2 .mdel yED_6 yED_9)])]),
  ([(.op2 .eq (.op2 (.mat 1) yED_6 yED_9) (.num 0), false), (.op2 .mhas yED_6 yED_9, true), (yED_25, false), (yED_13, true), (yED_23, false)], some [(.again 0 [], [(.var 110, yED_17), (.var 111, yED_6)])]),
  ([(.op2 .mhas yED_6 yED_9, false), (yED_25, false), (yED_13, true), (yED_23, false)], some [(.again 0 [], [(.var 110, yED_17), (.var 111, .op2 .mdel yED_6 yED_9)])]),
  ([(yED_13, false), (yED_23, false)], some [(.leave 0 [], [(yED_0, .var 111)])])]
theorem lAdd0_w (r : Rho) : lAdd_D.ways lAdd_run E0 r 0 lAdd0_F lAdd0_t = some lAdd0_l := by kernel_rfl
theorem lAdd_ok : lAdd_D.ok = true := by kernel_rfl
def lAdd_Inv (a b : List Shr) (j : Nat) (vals : List Value) : Prop :=
  j = 0 ∧ ∃ i : Nat, i ≤ b.length ∧ vals = [.int .i64 i, shrsR (accB (accA a) (b.take i))]
def lAdd_mu (a b : List Shr) (_ : Nat) (vals : List Value) : Nat := b.length - (vI (vals.getD 0 default)).toNat
set_option maxHeartbeats 1000000 in
theorem lAdd_step {ρ : Rho} {a b : List Shr} (h1 : ρ.val 1 = some (shrsR a)) (h4 : ρ.val 4 = some (shrsR b)) (hsy : ρ.sym = sy) (hca : chkS a = 0) (hcb : chkS b = 0) (j : Nat) (vals : List Value) (hI : lAdd_Inv a b j vals) :
    StepOk lAdd_D lAdd_run E0 ρ (lAdd_Inv a b) (lAdd_mu a b) j vals := by
  obtain ⟨rfl, i, hi, rfl⟩ := hI
  have hN : lAdd_D.N = 110 := rfl
  obtain ⟨hla, hga⟩ := (chkS_iff a).1 hca
  obtain ⟨hlb, hgb⟩ := (chkS_iff b).1 hcb
  have v1 : (ρ.ext lAdd_D.N [.int .i64 i, shrsR (accB (accA a) (b.take i))]).val 1 = some (shrsR a) := by rw [ext_low _ _ _ _ (by rw [hN]; omega)]; exact h1
  have v4 : (ρ.ext lAdd_D.N [.int .i64 i, shrsR (accB (accA a) (b.take i))]).val 4 = some (shrsR b) := by rw [ext_low _ _ _ _ (by rw [hN]; omega)]; exact h4
  have v110 : (ρ.ext lAdd_D.N [.int .i64 i, shrsR (accB (accA a) (b.take i))]).val 110 = some (.int .i64 i) := by rw [ext_high _ _ _ _ (by rw [hN]; omega)]; rfl
  have v111 : (ρ.ext lAdd_D.N [.int .i64 i, shrsR (accB (accA a) (b.take i))]).val 111 = some (shrsR (accB (accA a) (b.take i))) := by rw [ext_high _ _ _ _ (by rw [hN]; omega)]; rfl
  have vs : (ρ.ext lAdd_D.N [.int .i64 i, shrsR (accB (accA a) (b.take i))]).sym = sy := hsy
  have hF : FactsIn (ρ.ext lAdd_D.N [.int .i64 i, shrsR (accB (accA a) (b.take i))]) lAdd0_F := by
    simp only [lAdd0_F, FactsIn, X.bool, X.den, denL, dX, denSub, denIte, asB, dY, v110, Option.some.injEq, Value.bool.injEq, decide_eq_false_iff_not, and_true]
    omega
  suffices both : AsksL (ρ.ext lAdd_D.N [.int .i64 i, shrsR (accB (accA a) (b.take i))]) (lAdd0_t.asks lAdd0_F) ∧ WaysOk lAdd_D ρ (lAdd_Inv a b) (lAdd_mu a b) 0 [.int .i64 i, shrsR (accB (accA a) (b.take i))] lAdd0_l from step_of_ways (lAdd0_w _) hF both.1.ok both.2
  have hacc : AccOk (a.length + i) (accB (accA a) (b.take i)) := accB_ok (by have := accA_ok hga a.length (Nat.le_refl _); rwa [List.take_length] at this) hgb i hi
  cases hp : b[i]? with
  | none =>
    have hge := List.getElem?_eq_none_iff.1 hp
    have hge' : ¬ (i : Int) < b.length := by omega
    have hl : b.take i = b := List.take_of_length_le hge
    refine ⟨?_, ?_⟩
    · simp only [lAdd0_t, yED_26, yED_25, yED_24, yED_23, yED_22, yED_21, yED_20, yED_19, yED_18, yED_17, yED_16, yED_15, yED_14, yED_13, yED_12, yED_11, yED_10, yED_9, yED_8, yED_7, yED_6, yED_5, yED_4, yED_3, yED_2, yED_1, yED_0, lAdd0_F, AsksL, GTree.asks, FTree.asks, FactsIn, List.append_nil, List.nil_append, List.cons_append, Option.some.injEq, exists_eq', implies_true, and_self, X.bool, X.den, denL, dX, denSub, denIte, asB, dY, d_hasS, d_putS, d_delS, has_put, v1, v4, v110, v111, vs, sym10, sym110, sym111, sym112, sym113, sym114, sym115, Int.toNat_natCast, hp, hge']
      try simp
    · simp only [lAdd0_l, yED_26, yED_25, yED_24, yED_23, yED_22, yED_21, yED_20, yED_19, yED_18, yED_17, yED_16, yED_15, yED_14, yED_13, yED_12, yED_11, yED_10, yED_9, yED_8, yED_7, yED_6, yED_5, yED_4, yED_3, yED_2, yED_1, yED_0, EndsOk, WaysOk, forall_cons, forall_nil, TgtOk, gpair, FactsIn, hold_cons, hold_nil, Option.some.injEq, dZ, X.bool, X.den, denL, dX, denSub, denIte, asB, dY, d_hasS, d_putS, d_delS, has_put, beq_iff_eq, beq_eq_false_iff_ne, ne_eq, v1, v4, v110, v111, vs, h1, h4, hsy, sym10, sym110, sym111, sym112, sym113, sym114, sym115, Int.toNat_natCast, hp, hge']
      simp [hl]
  | some p =>
    have hlt : i < b.length := (List.getElem?_eq_some_iff.1 hp).1
    have hlt1 : (i : Int) < b.length := by omega
    have hc := (chk1_iff p).1 (hgb p (List.mem_of_getElem? hp))
    have hnext : accB (accA a) (b.take (i + 1)) = addK (accB (accA a) (b.take i)) p.party (p.pence) := by
      rw [List.take_add_one, hp]; exact accB_snoc _ _ p
    have hw : IntKind.i64.wrap ((i : Int) + 1) = ((i + 1 : Nat) : Int) := by rw [IntWalk.i64_in _ (by omega)]; rfl
    generalize hm : accB (accA a) (b.take i) = m at hacc hnext v1 v4 v110 v111 vs hF ⊢
    have hat := acc_at hacc p.party
    have w2 : IntKind.i64.wrap (atK m p.party + p.pence) = atK m p.party + p.pence := IntWalk.i64_in _ (by omega)
    have go : ∀ mm, mm = accB (accA a) (b.take (i + 1)) → ∃ vals', ((ρ.ext lAdd_D.N vals').val 110 = some (.int .i64 ((i + 1 : Nat) : Int)) ∧ (ρ.ext lAdd_D.N vals').val 111 = some (shrsR mm)) ∧ lAdd_Inv a b 0 vals' ∧ lAdd_mu a b 0 vals' < lAdd_mu a b 0 [.int .i64 i, shrsR m] := by
      rintro mm rfl
      refine ⟨[.int .i64 ((i + 1 : Nat) : Int), shrsR (accB (accA a) (b.take (i + 1)))], ⟨?_, ?_⟩, ⟨rfl, i + 1, by omega, rfl⟩, ?_⟩
      · rw [ext_high _ _ _ _ (by rw [hN]; omega)]; rfl
      · rw [ext_high _ _ _ _ (by rw [hN]; omega)]; rfl
      · simp [lAdd_mu, vI]; omega
    have hz : atK m p.party + p.pence = 0 → delK p.party (putK p.party (atK m p.party + p.pence) m) = accB (accA a) (b.take (i + 1)) := fun h => by rw [hnext]; unfold addK; rw [if_pos h]
    have hnz : ¬ atK m p.party + p.pence = 0 → putK p.party (atK m p.party + p.pence) m = accB (accA a) (b.take (i + 1)) := fun h => by rw [hnext]; unfold addK; rw [if_neg h]
    have hgp : ∀ v, den2 (.mat 1) (shrsR (putK p.party v m)) (whosR [⟨p.party⟩]) = some (.int .i64 v) := fun v => by rw [d_atS, has_put, at_put]; rfl
    cases hh : hasK m p.party with
    | true =>
      have hgm : den2 (.mat 1) (shrsR m) (whosR [⟨p.party⟩]) = some (.int .i64 (atK m p.party)) := by rw [d_atS, hh]; rfl
      refine ⟨?_, ?_⟩
      all_goals (simp only [lAdd0_t, yED_26, yED_25, yED_24, yED_23, yED_22, yED_21, yED_20, yED_19, yED_18, yED_17, yED_16, yED_15, yED_14, yED_13, yED_12, yED_11, yED_10, yED_9, yED_8, yED_7, yED_6, yED_5, yED_4, yED_3, yED_2, yED_1, yED_0, lAdd0_F, lAdd0_l, AsksL, GTree.asks, FTree.asks, FactsIn, List.append_nil, List.nil_append, List.cons_append, Option.some.injEq, exists_eq', implies_true, and_self, X.bool, X.den, denL, dX, denSub, denIte, asB, dY, d_hasS, d_putS, d_delS, has_put, EndsOk, WaysOk, forall_cons, forall_nil, TgtOk, gpair, FactsIn, hold_cons, hold_nil, Option.some.injEq, dZ, X.bool, X.den, denL, dX, denSub, denIte, asB, dY, d_hasS, d_putS, d_delS, has_put, beq_iff_eq, beq_eq_false_iff_ne, ne_eq, v1, v4, v110, v111, vs, h1, h4, hsy, sym10, sym110, sym111, sym112, sym113, sym114, sym115, Int.toNat_natCast, hp, Option.bind_some, shr0, shr1, hlt1, hh, hgm, hgp, hw, w2, reduceCtorEq, false_implies, implies_true, true_implies, and_self])
      all_goals (clear v1 v4 v110 v111 vs h1 h4 hsy hp hF hgm hgp)
      all_goals ((repeat' apply And.intro) <;> intros <;> first
        | trivial
        | (exfalso; omega)
        | (exact absurd trivial (by assumption))
        | (exact go _ (hz (by assumption)))
        | (exact go _ (hnz (by assumption))))
    | false =>
      have h0 := at_none hh
      have w3 : IntKind.i64.wrap (0 + p.pence) = p.pence := by rw [IntWalk.i64_in _ (by omega)]; omega
      rw [h0, Int.zero_add] at hz hnz
      refine ⟨?_, ?_⟩
      all_goals (simp only [lAdd0_t, yED_26, yED_25, yED_24, yED_23, yED_22, yED_21, yED_20, yED_19, yED_18, yED_17, yED_16, yED_15, yED_14, yED_13, yED_12, yED_11, yED_10, yED_9, yED_8, yED_7, yED_6, yED_5, yED_4, yED_3, yED_2, yED_1, yED_0, lAdd0_F, lAdd0_l, AsksL, GTree.asks, FTree.asks, FactsIn, List.append_nil, List.nil_append, List.cons_append, Option.some.injEq, exists_eq', implies_true, and_self, X.bool, X.den, denL, dX, denSub, denIte, asB, dY, d_hasS, d_putS, d_delS, has_put, EndsOk, WaysOk, forall_cons, forall_nil, TgtOk, gpair, FactsIn, hold_cons, hold_nil, Option.some.injEq, dZ, X.bool, X.den, denL, dX, denSub, denIte, asB, dY, d_hasS, d_putS, d_delS, has_put, beq_iff_eq, beq_eq_false_iff_ne, ne_eq, v1, v4, v110, v111, vs, h1, h4, hsy, sym10, sym110, sym111, sym112, sym113, sym114, sym115, Int.toNat_natCast, hp, Option.bind_some, shr0, shr1, hlt1, hh, hgp, hw, w3, reduceCtorEq, false_implies, implies_true, true_implies, and_self])
      all_goals (clear v1 v4 v110 v111 vs h1 h4 hsy hp hF hgp)
      all_goals ((repeat' apply And.intro) <;> intros <;> first
        | trivial
        | (exfalso; omega)
        | (exact absurd trivial (by assumption))
        | (exact go _ (hz (by assumption)))
        | (exact go _ (hnz (by assumption))))
noncomputable def lShr_D : LoopD := { N := 120, M := 124, size := sizeOfF 27, reads := [(2, .smap false [.int .i64] false [.int .i64] (.app 111 [.var 4, .app 112 [.var 1]])), (113, .rows 1 [.int .i64] (.num 0) (.app 113 [.app 111 [.var 4, .app 112 [.var 1]]]) true 3)], pats := [{ slots := [(0, .map 2), (3, .nilslice), (8, .slo 113 1 (.op1 .len (.app 111 [.var 4, .app 112 [.var 1]]))), (9, .sint .i64 (.op1 .len (.app 111 [.var 4, .app 112 [.var 1]]))), (10, .sint .i64 (.var 120))], heap := [] }, { slots := [(0, .map 2), (3, .slo 122 2 (.op1 .len (.var 121))), (8, .slo 113 1 (.op1 .len (.app 111 [.var 4, .app 112 [.var 1]]))), (9, .sint .i64 (.op1 .len (.app 111 [.var 4, .app 112 [.var 1]]))), (10, .sint .i64 (.var 120))], heap := [(122, .rows 2 shrSch (.num 0) (.var 121) true 25)] }], exits := [(.exit 0, { slots := [(3, .slo 122 2 (.op1 .len (.app 115 [.app 111 [.var 4, .app 112 [.var 1]]])))], heap := [(122, .rows 2 shrSch (.num 0) (.app 115 [.app 111 [.var 4, .app 112 [.var 1]]]) true 25)] })], own := [], pre := [(.op2 .eq (.app 110 [.var 1]) (.num 0), true), (.op2 .eq (.app 110 [.var 4]) (.num 0), true), (.op2 .eq (.op1 .len (.app 111 [.var 4, .app 112 [.var 1]])) (.num 0), false)] }
noncomputable def lShr_run : Env → AF → ASt → Option (List Out) := bodyRun LD 6 (fun _ => noLoop) (loopAt Tryz.prog 27 0)
def lShr0_F : List (X × Bool) := [(.op2 .lt (.var 120) (.num 0), false), (.op2 .lt (.var 120) (.op1 .len (.app 111 [.var 4, .app 112 [.var 1]])), true)]
def lShr1_F : List (X × Bool) := [(.op2 .lt (.var 120) (.num 0), false)]
noncomputable def lShr0_t : FTree := (.fork yED_8 (.fork yED_15 (.leaf [.again 1 [(122, 125)]]) (.leaf [.again 1 [(122, 125)]])) .bad)
noncomputable def lShr0_l : List (List (X × Bool) × Option (List (Tgt × Pairs))) := [([(yED_15, true), (yED_8, true), (yED_20, false), (yED_11, true)], some [(.again 1 [(122, 125)], [(.op1 .len (.var 121), .num 1), (.var 120, yED_26), (.var 121, .snoc .nil [yED_7, .op1 (.kind .i64) (.op2 (.mat 1) yED_0 (.snoc .nil [yED_7]))])])]),
  ([(yED_15, false), (yED_8, true), (yED_20, false), (yED_11, true)], some [(.again 1 [(122, 125)], [(.op1 .len (.var 121), .num 1), (.var 120, yED_26), (.var 121, .snoc .nil [yED_7, .op1 (.kind .i64) (.num 0)])])]),
  ([(yED_8, false), (yED_20, false), (yED_11, true)], none)]
theorem lShr0_w (r : Rho) : lShr_D.ways lShr_run E0 r 0 lShr0_F lShr0_t = some lShr0_l := by kernel_rfl
noncomputable def lShr1_t : FTree := (.fork yED_11 (.fork yED_8 (.fork yED_15 (.fork yED_10 .bad (.leaf [.again 1 [(122, 125)]])) (.fork yED_10 .bad (.leaf [.again 1 [(122, 125)]]))) .bad) (.leaf [.leave 0 [(122, 122)]]))
noncomputable def lShr1_l : List (List (X × Bool) × Option (List (Tgt × Pairs))) := [([(yED_10, true), (yED_15, true), (yED_8, true), (yED_11, true), (yED_20, false)], none),
  ([(yED_10, false), (yED_15, true), (yED_8, true), (yED_11, true), (yED_20, false)], some [(.again 1 [(122, 125)], [(.op1 .len (.var 121), .op2 .add (.op1 .len (.var 121)) (.num 1)), (.var 120, yED_26), (.var 121, .snoc (.var 121) [yED_7, .op1 (.kind .i64) (.op2 (.mat 1) yED_0 (.snoc .nil [yED_7]))])])]),
  ([(yED_10, true), (yED_15, false), (yED_8, true), (yED_11, true), (yED_20, false)], none),
  ([(yED_10, false), (yED_15, false), (yED_8, true), (yED_11, true), (yED_20, false)], some [(.again 1 [(122, 125)], [(.op1 .len (.var 121), .op2 .add (.op1 .len (.var 121)) (.num 1)), (.var 120, yED_26), (.var 121, .snoc (.var 121) [yED_7, .op1 (.kind .i64) (.num 0)])])]),
  ([(yED_8, false), (yED_11, true), (yED_20, false)], none),
  ([(yED_11, false), (yED_20, false)], some [(.leave 0 [(122, 122)], [(.op1 .len (.app 115 [yED_0]), .op1 .len (.var 121)), (.app 115 [yED_0], .var 121)])])]
theorem lShr1_w (r : Rho) : lShr_D.ways lShr_run E0 r 1 lShr1_F lShr1_t = some lShr1_l := by kernel_rfl
theorem lShr_ok : lShr_D.ok = true := by kernel_rfl
def lShr_Inv (m : List Shr) (j : Nat) (vals : List Value) : Prop :=
  ∃ i : Nat, i ≤ m.length ∧ ((j = 0 ∧ vals = [.int .i64 i] ∧ i = 0) ∨ (j = 1 ∧ vals = [.int .i64 i, shrsR ((chgOf m).take i)] ∧ i ≠ 0))
def lShr_mu (m : List Shr) (_ : Nat) (vals : List Value) : Nat := m.length - (vI (vals.getD 0 default)).toNat
set_option maxHeartbeats 1000000 in
theorem lShr_step0 {ρ : Rho} {a b m : List Shr} (h1 : ρ.val 1 = some (shrsR a)) (h4 : ρ.val 4 = some (shrsR b)) (hsy : ρ.sym = sy) (hm : accB (accA a) b = m) (hne : m.length ≠ 0) (hmax : m.length ≤ 2000) {i : Nat} (hi : i ≤ m.length) (hi0 : i = 0) :
    StepOk lShr_D lShr_run E0 ρ (lShr_Inv m) (lShr_mu m) 0 [.int .i64 i] := by
  have hN : lShr_D.N = 120 := rfl
  have v1 : (ρ.ext lShr_D.N [.int .i64 i]).val 1 = some (shrsR a) := by rw [ext_low _ _ _ _ (by rw [hN]; omega)]; exact h1
  have v4 : (ρ.ext lShr_D.N [.int .i64 i]).val 4 = some (shrsR b) := by rw [ext_low _ _ _ _ (by rw [hN]; omega)]; exact h4
  have v120 : (ρ.ext lShr_D.N [.int .i64 i]).val 120 = some (.int .i64 i) := by rw [ext_high _ _ _ _ (by rw [hN]; omega)]; rfl
  have vs : (ρ.ext lShr_D.N [.int .i64 i]).sym = sy := hsy
  have kl := keys_len m
  have hF : FactsIn (ρ.ext lShr_D.N [.int .i64 i]) lShr0_F := by
    simp only [lShr0_F, FactsIn, X.bool, X.den, denL, dX, denSub, denIte, asB, dY, v1, v4, v120, vs, sym10, sym110, sym111, sym112, sym113, sym114, sym115, hm, Option.some.injEq, Value.bool.injEq, decide_eq_false_iff_not, decide_eq_true_eq, and_true]
    omega
  suffices both : AsksL (ρ.ext lShr_D.N [.int .i64 i]) (lShr0_t.asks lShr0_F) ∧ WaysOk lShr_D ρ (lShr_Inv m) (lShr_mu m) 0 [.int .i64 i] lShr0_l from step_of_ways (lShr0_w _) hF both.1.ok both.2
  cases hp : ((keysS m).map Who.mk)[i]? with
    | none =>
      have hge := List.getElem?_eq_none_iff.1 hp
      rw [keys_len] at hge
      exact absurd hge (by omega)
    | some k =>
      have hlt : i < m.length := by have := (List.getElem?_eq_some_iff.1 hp).1; omega
      have hlt1 : (i : Int) < m.length := by omega
      have hw : IntKind.i64.wrap ((i : Int) + 1) = ((i + 1 : Nat) : Int) := by rw [IntWalk.i64_in _ (by omega)]; rfl
      obtain ⟨hk, hc⟩ := keys_at hp
      have hh := keys_has hk
      have hgm : den2 (.mat 1) (shrsR m) (whosR [⟨k.n⟩]) = some (.int .i64 (atK m k.n)) := by rw [d_atS, hh]; rfl
      have hnext : (chgOf m).take (i + 1) = (chgOf m).take i ++ [⟨k.n, atK m k.n⟩] := by rw [List.take_add_one, hc]; rfl
      have hcl := chg_len m
      have hil : ((chgOf m).take i).length = i := by rw [List.length_take]; omega
      have go : ∃ vals', ((match (ρ.ext lShr_D.N vals').val 121 with | some v => den1 .len v | none => none) = some (.int .i64 (1)) ∧ (ρ.ext lShr_D.N vals').val 120 = some (.int .i64 ((i + 1 : Nat) : Int)) ∧ (ρ.ext lShr_D.N vals').val 121 = some (shrsR [⟨k.n, atK m k.n⟩])) ∧ lShr_Inv m 1 vals' ∧ lShr_mu m 1 vals' < lShr_mu m 0 [.int .i64 i] := by
        have e121 : (ρ.ext lShr_D.N [.int .i64 ((i + 1 : Nat) : Int), shrsR ((chgOf m).take (i + 1))]).val 121 = some (shrsR ((chgOf m).take (i + 1))) := by rw [ext_high _ _ _ _ (by rw [hN]; omega)]; rfl
        refine ⟨[.int .i64 ((i + 1 : Nat) : Int), shrsR ((chgOf m).take (i + 1))], ⟨?_, ?_, ?_⟩, ⟨i + 1, by omega, .inr ⟨rfl, rfl, by omega⟩⟩, by simp [lShr_mu, vI]; omega⟩
        · rw [e121]
          refine (shrs_len _).trans ?_
          rw [hnext, List.length_append]
          subst hi0; rfl
        · rw [ext_high _ _ _ _ (by rw [hN]; omega)]; rfl
        · rw [e121, hnext]; subst hi0; rfl
      refine ⟨?_, ?_⟩
      all_goals (simp only [lShr0_t, yED_26, yED_25, yED_24, yED_23, yED_22, yED_21, yED_20, yED_19, yED_18, yED_17, yED_16, yED_15, yED_14, yED_13, yED_12, yED_11, yED_10, yED_9, yED_8, yED_7, yED_6, yED_5, yED_4, yED_3, yED_2, yED_1, yED_0, lShr0_F, lShr0_l, AsksL, GTree.asks, FTree.asks, FactsIn, List.append_nil, List.nil_append, List.cons_append, Option.some.injEq, exists_eq', implies_true, and_self, X.bool, X.den, denL, dX, denSub, denIte, asB, dY, d_hasS, d_putS, d_delS, has_put, EndsOk, WaysOk, forall_cons, forall_nil, TgtOk, gpair, FactsIn, hold_cons, hold_nil, Option.some.injEq, dZ, X.bool, X.den, denL, dX, denSub, denIte, asB, dY, d_hasS, d_putS, d_delS, has_put, beq_iff_eq, beq_eq_false_iff_ne, ne_eq, v1, v4, v120, vs, h1, h4, hsy, sym10, sym110, sym111, sym112, sym113, sym114, sym115, hm, kl, Int.toNat_natCast, hp, Option.bind_some, who0, hlt1, hh, hgm, hw, hil, reduceCtorEq, false_implies, implies_true, true_implies, and_self])
      all_goals (clear v1 v4 v120 vs h1 h4 hsy hp hF hgm)
      all_goals ((repeat' apply And.intro) <;> intros <;> first
        | trivial
        | (exfalso; omega)
        | (exact absurd trivial (by assumption))
        | (exact go)
        | (rw [hil] at go; exact go))
set_option maxHeartbeats 1000000 in
theorem lShr_step1 {ρ : Rho} {a b m : List Shr} (h1 : ρ.val 1 = some (shrsR a)) (h4 : ρ.val 4 = some (shrsR b)) (hsy : ρ.sym = sy) (hm : accB (accA a) b = m) (hne : m.length ≠ 0) (hmax : m.length ≤ 2000) {i : Nat} (hi : i ≤ m.length) (hi0 : i ≠ 0) :
    StepOk lShr_D lShr_run E0 ρ (lShr_Inv m) (lShr_mu m) 1 [.int .i64 i, shrsR ((chgOf m).take i)] := by
  have hN : lShr_D.N = 120 := rfl
  have v1 : (ρ.ext lShr_D.N [.int .i64 i, shrsR ((chgOf m).take i)]).val 1 = some (shrsR a) := by rw [ext_low _ _ _ _ (by rw [hN]; omega)]; exact h1
  have v4 : (ρ.ext lShr_D.N [.int .i64 i, shrsR ((chgOf m).take i)]).val 4 = some (shrsR b) := by rw [ext_low _ _ _ _ (by rw [hN]; omega)]; exact h4
  have v120 : (ρ.ext lShr_D.N [.int .i64 i, shrsR ((chgOf m).take i)]).val 120 = some (.int .i64 i) := by rw [ext_high _ _ _ _ (by rw [hN]; omega)]; rfl
  have v121 : (ρ.ext lShr_D.N [.int .i64 i, shrsR ((chgOf m).take i)]).val 121 = some (shrsR ((chgOf m).take i)) := by rw [ext_high _ _ _ _ (by rw [hN]; omega)]; rfl
  have vs : (ρ.ext lShr_D.N [.int .i64 i, shrsR ((chgOf m).take i)]).sym = sy := hsy
  have kl := keys_len m
  have hF : FactsIn (ρ.ext lShr_D.N [.int .i64 i, shrsR ((chgOf m).take i)]) lShr1_F := by
    simp only [lShr1_F, FactsIn, X.bool, X.den, denL, dX, denSub, denIte, asB, dY, v1, v4, v120, v121, vs, sym10, sym110, sym111, sym112, sym113, sym114, sym115, hm, Option.some.injEq, Value.bool.injEq, decide_eq_false_iff_not, decide_eq_true_eq, and_true]
    omega
  suffices both : AsksL (ρ.ext lShr_D.N [.int .i64 i, shrsR ((chgOf m).take i)]) (lShr1_t.asks lShr1_F) ∧ WaysOk lShr_D ρ (lShr_Inv m) (lShr_mu m) 1 [.int .i64 i, shrsR ((chgOf m).take i)] lShr1_l from step_of_ways (lShr1_w _) hF both.1.ok both.2
  cases hp : ((keysS m).map Who.mk)[i]? with
    | none =>
      have hge := List.getElem?_eq_none_iff.1 hp
      rw [keys_len] at hge
      have hge' : ¬ (i : Int) < m.length := by omega
      have hl : (chgOf m).take i = chgOf m := List.take_of_length_le (by rw [chg_len]; omega)
      refine ⟨?_, ?_⟩
      · simp only [lShr1_t, yED_26, yED_25, yED_24, yED_23, yED_22, yED_21, yED_20, yED_19, yED_18, yED_17, yED_16, yED_15, yED_14, yED_13, yED_12, yED_11, yED_10, yED_9, yED_8, yED_7, yED_6, yED_5, yED_4, yED_3, yED_2, yED_1, yED_0, lShr1_F, AsksL, GTree.asks, FTree.asks, FactsIn, List.append_nil, List.nil_append, List.cons_append, Option.some.injEq, exists_eq', implies_true, and_self, X.bool, X.den, denL, dX, denSub, denIte, asB, dY, d_hasS, d_putS, d_delS, has_put, v1, v4, v120, v121, vs, sym10, sym110, sym111, sym112, sym113, sym114, sym115, hm, kl, Int.toNat_natCast, hp, hge']
        try simp
      · simp only [lShr1_l, yED_26, yED_25, yED_24, yED_23, yED_22, yED_21, yED_20, yED_19, yED_18, yED_17, yED_16, yED_15, yED_14, yED_13, yED_12, yED_11, yED_10, yED_9, yED_8, yED_7, yED_6, yED_5, yED_4, yED_3, yED_2, yED_1, yED_0, EndsOk, WaysOk, forall_cons, forall_nil, TgtOk, gpair, FactsIn, hold_cons, hold_nil, Option.some.injEq, dZ, X.bool, X.den, denL, dX, denSub, denIte, asB, dY, d_hasS, d_putS, d_delS, has_put, beq_iff_eq, beq_eq_false_iff_ne, ne_eq, v1, v4, v120, v121, vs, h1, h4, hsy, sym10, sym110, sym111, sym112, sym113, sym114, sym115, hm, kl, Int.toNat_natCast, hp, hge']
        simp [hl]
    | some k =>
      have hlt : i < m.length := by have := (List.getElem?_eq_some_iff.1 hp).1; omega
      have hlt1 : (i : Int) < m.length := by omega
      have hw : IntKind.i64.wrap ((i : Int) + 1) = ((i + 1 : Nat) : Int) := by rw [IntWalk.i64_in _ (by omega)]; rfl
      obtain ⟨hk, hc⟩ := keys_at hp
      have hh := keys_has hk
      have hgm : den2 (.mat 1) (shrsR m) (whosR [⟨k.n⟩]) = some (.int .i64 (atK m k.n)) := by rw [d_atS, hh]; rfl
      have hnext : (chgOf m).take (i + 1) = (chgOf m).take i ++ [⟨k.n, atK m k.n⟩] := by rw [List.take_add_one, hc]; rfl
      have hcl := chg_len m
      have hil : ((chgOf m).take i).length = i := by rw [List.length_take]; omega
      have go : ∃ vals', ((match (ρ.ext lShr_D.N vals').val 121 with | some v => den1 .len v | none => none) = some (.int .i64 ((((chgOf m).take i).length : Int) + 1)) ∧ (ρ.ext lShr_D.N vals').val 120 = some (.int .i64 ((i + 1 : Nat) : Int)) ∧ (ρ.ext lShr_D.N vals').val 121 = some (shrsR ((chgOf m).take i ++ [⟨k.n, atK m k.n⟩]))) ∧ lShr_Inv m 1 vals' ∧ lShr_mu m 1 vals' < lShr_mu m 1 [.int .i64 i, shrsR ((chgOf m).take i)] := by
        have e121 : (ρ.ext lShr_D.N [.int .i64 ((i + 1 : Nat) : Int), shrsR ((chgOf m).take (i + 1))]).val 121 = some (shrsR ((chgOf m).take (i + 1))) := by rw [ext_high _ _ _ _ (by rw [hN]; omega)]; rfl
        refine ⟨[.int .i64 ((i + 1 : Nat) : Int), shrsR ((chgOf m).take (i + 1))], ⟨?_, ?_, ?_⟩, ⟨i + 1, by omega, .inr ⟨rfl, rfl, by omega⟩⟩, by simp [lShr_mu, vI]; omega⟩
        · rw [e121]
          refine (shrs_len _).trans ?_
          rw [hnext, List.length_append]
          rfl
        · rw [ext_high _ _ _ _ (by rw [hN]; omega)]; rfl
        · rw [e121, hnext]
      refine ⟨?_, ?_⟩
      all_goals (simp only [lShr1_t, yED_26, yED_25, yED_24, yED_23, yED_22, yED_21, yED_20, yED_19, yED_18, yED_17, yED_16, yED_15, yED_14, yED_13, yED_12, yED_11, yED_10, yED_9, yED_8, yED_7, yED_6, yED_5, yED_4, yED_3, yED_2, yED_1, yED_0, lShr1_F, lShr1_l, AsksL, GTree.asks, FTree.asks, FactsIn, List.append_nil, List.nil_append, List.cons_append, Option.some.injEq, exists_eq', implies_true, and_self, X.bool, X.den, denL, dX, denSub, denIte, asB, dY, d_hasS, d_putS, d_delS, has_put, EndsOk, WaysOk, forall_cons, forall_nil, TgtOk, gpair, FactsIn, hold_cons, hold_nil, Option.some.injEq, dZ, X.bool, X.den, denL, dX, denSub, denIte, asB, dY, d_hasS, d_putS, d_delS, has_put, beq_iff_eq, beq_eq_false_iff_ne, ne_eq, v1, v4, v120, v121, vs, h1, h4, hsy, sym10, sym110, sym111, sym112, sym113, sym114, sym115, hm, kl, Int.toNat_natCast, hp, Option.bind_some, who0, hlt1, hh, hgm, hw, hil, reduceCtorEq, false_implies, implies_true, true_implies, and_self])
      all_goals (clear v1 v4 v120 v121 vs h1 h4 hsy hp hF hgm)
      all_goals ((repeat' apply And.intro) <;> intros <;> first
        | trivial
        | (exfalso; omega)
        | (exact absurd trivial (by assumption))
        | (exact go)
        | (rw [hil] at go; exact go))
theorem lShr_step {ρ : Rho} {a b m : List Shr} (h1 : ρ.val 1 = some (shrsR a)) (h4 : ρ.val 4 = some (shrsR b)) (hsy : ρ.sym = sy) (hm : accB (accA a) b = m) (hne : m.length ≠ 0) (hmax : m.length ≤ 2000) (j : Nat) (vals : List Value) (hI : lShr_Inv m j vals) :
    StepOk lShr_D lShr_run E0 ρ (lShr_Inv m) (lShr_mu m) j vals := by
  obtain ⟨i, hi, ⟨rfl, rfl, hi0⟩ | ⟨rfl, rfl, hi0⟩⟩ := hI
  · exact lShr_step0 h1 h4 hsy hm hne hmax hi hi0
  · exact lShr_step1 h1 h4 hsy hm hne hmax hi hi0
noncomputable def cChgE_con : Con := { f := 8, args := [shrsArg 0 0, shrsArg 1 3], N := 2, M := 2, pre := [(.op2 .eq (.app 110 [.var 1]) (.num 0), false)], out := .tuple [.nilslice, .sint .i64 (.app 110 [.var 1])], news := [] }
noncomputable def cChgE_call : Env → CallL := fun E => acallAll E (evH E (LD E) ((fun E => orLoop (oneH 8 (hooks [(10, lSub_D.hook E.facts chg1_vs), (15, lAdd_D.hook E.facts chg2_vs)])) (oneH 27 (hooks [(3, lShr_D.hook E.facts shr_vs)]))) E) 8)
noncomputable def cChgE_t : GTree := (.leaf [[]])
noncomputable def cChgE_l : List (List (X × Bool) × Option Pairs) := [([(yED_14, false)], some [])]
theorem cChgE_w (r : Rho) : cChgE_con.fn.ways cChgE_call E0 r cChgE_con.pre cChgE_t = some cChgE_l := by kernel_rfl
theorem acc_all {a b : List Shr} (hca : chkS a = 0) (hcb : chkS b = 0) : AccOk (a.length + b.length) (accB (accA a) b) := by
  have ha := ((chkS_iff a).1 hca).2
  have hb := ((chkS_iff b).1 hcb).2
  have h1 := accA_ok ha a.length (Nat.le_refl _)
  rw [List.take_length] at h1
  have h2 := accB_ok h1 hb b.length (Nat.le_refl _)
  rwa [List.take_length] at h2
theorem acc_max {a b : List Shr} (hca : chkS a = 0) (hcb : chkS b = 0) : (accB (accA a) b).length ≤ 2000 := by
  have h := (acc_all hca hcb).1
  have h1 := ((chkS_iff a).1 hca).1
  have h2 := ((chkS_iff b).1 hcb).1
  omega
theorem chg_H {r : Rho} {a b : List Shr} (h1 : r.val 1 = some (shrsR a)) (h4 : r.val 4 = some (shrsR b)) (hsy : r.sym = sy) (F : List (X × Bool)) :
    LoopsOk (E0.with F r) (orLoop (oneH 8 (hooks [(10, lSub_D.hook (E0.with F r).facts chg1_vs), (15, lAdd_D.hook (E0.with F r).facts chg2_vs)])) (oneH 27 (hooks [(3, lShr_D.hook (E0.with F r).facts shr_vs)]))) := by
  refine orLoop_ok (loops_all (n := 3) (fun f fn h => h) (by kernel_rfl) fun i hi => ?_) (loops_all (n := 1) (fun f fn h => h) (by kernel_rfl) fun i hi => ?_)
  · have h012 : i = 0 ∨ i = 1 ∨ i = 2 := by omega
    rcases h012 with rfl | rfl | rfl
    · rw [hooks_miss (show Nat.beq (keyOf (loopAt (E0.with F r).P 8 0)) 10 = false by kernel_rfl), hooks_miss (show Nat.beq (keyOf (loopAt (E0.with F r).P 8 0)) 15 = false by kernel_rfl)]
      exact noLoop_ok
    · rw [hooks_hit (show keyOf (loopAt (E0.with F r).P 8 1) = 10 by kernel_rfl)]
      refine hook_ok (E₀ := E0) (run := lSub_run) (ρ := r) (Inv := lSub_Inv a b) (μ := lSub_mu a b) E0_ok lSub_ok (fun F r' h => ?_) (fun hp => ?_)
      · exact bodyRun_ok E0_ok (LD_ok F (h.trans hsy)) fun _ _ => noLoop_ok
      · simp only [lSub_D, FactsIn, X.bool, X.den, denL, dX, denSub, denIte, asB, dY, h1, h4, hsy, sym10, sym110, sym111, sym112, sym113, sym114, sym115, Option.some.injEq, Value.bool.injEq, and_true, beq_iff_eq, beq_eq_false_iff_ne, ne_eq] at hp
        obtain ⟨hca, hcb⟩ := hp
        refine ⟨lSub_step h1 h4 hsy hca hcb, [.int .i64 0, .tuple #[]], ?_, rfl, 0, Nat.zero_le _, rfl⟩
        simp only [chg1_vs, X.bool, X.den, denL, dX, denSub, denIte, asB, dY, h1, h4, hsy, sym10, sym110, sym111, sym112, sym113, sym114, sym115]
    · rw [hooks_miss (show Nat.beq (keyOf (loopAt (E0.with F r).P 8 2)) 10 = false by kernel_rfl), hooks_hit (show keyOf (loopAt (E0.with F r).P 8 2) = 15 by kernel_rfl)]
      refine hook_ok (E₀ := E0) (run := lAdd_run) (ρ := r) (Inv := lAdd_Inv a b) (μ := lAdd_mu a b) E0_ok lAdd_ok (fun F r' h => ?_) (fun hp => ?_)
      · exact bodyRun_ok E0_ok (LD_ok F (h.trans hsy)) fun _ _ => noLoop_ok
      · simp only [lAdd_D, FactsIn, X.bool, X.den, denL, dX, denSub, denIte, asB, dY, h1, h4, hsy, sym10, sym110, sym111, sym112, sym113, sym114, sym115, Option.some.injEq, Value.bool.injEq, and_true, beq_iff_eq, beq_eq_false_iff_ne, ne_eq] at hp
        obtain ⟨hca, hcb⟩ := hp
        refine ⟨lAdd_step h1 h4 hsy hca hcb, [.int .i64 0, shrsR (accA a)], ?_, rfl, 0, Nat.zero_le _, rfl⟩
        simp only [chg2_vs, X.bool, X.den, denL, dX, denSub, denIte, asB, dY, h1, h4, hsy, sym10, sym110, sym111, sym112, sym113, sym114, sym115]
  · obtain rfl : i = 0 := by omega
    rw [hooks_hit (show keyOf (loopAt (E0.with F r).P 27 0) = 3 by kernel_rfl)]
    refine hook_ok (E₀ := E0) (run := lShr_run) (ρ := r) (Inv := lShr_Inv (accB (accA a) b)) (μ := lShr_mu (accB (accA a) b)) E0_ok lShr_ok (fun F r' h => ?_) (fun hp => ?_)
    · exact bodyRun_ok E0_ok (LD_ok F (h.trans hsy)) fun _ _ => noLoop_ok
    · simp only [lShr_D, FactsIn, X.bool, X.den, denL, dX, denSub, denIte, asB, dY, h1, h4, hsy, sym10, sym110, sym111, sym112, sym113, sym114, sym115, Option.some.injEq, Value.bool.injEq, and_true, beq_iff_eq, beq_eq_false_iff_ne, ne_eq] at hp
      obtain ⟨hca, hcb, hne⟩ := hp
      refine ⟨lShr_step h1 h4 hsy rfl (by omega) (acc_max hca hcb), [.int .i64 0], ?_, 0, Nat.zero_le _, .inl ⟨rfl, rfl, rfl⟩⟩
      simp only [shr_vs, X.bool, X.den, denL, dX, denSub, denIte, asB, dY, h1, h4, hsy, sym10, sym110, sym111, sym112, sym113, sym114, sym115]
theorem cChgE_cok : cChgE_con.Ok Tryz.prog sy := by
  intro r σ w us hsy hρ hpre hrel hins
  obtain ⟨a, h1⟩ := shrs_at hrel (i := 0) rfl
  obtain ⟨b, h4⟩ := shrs_at hrel (i := 1) rfl
  rw [hρ] at h1 h4
  have h1 : r.val 1 = some (shrsR a) := h1
  have h4 : r.val 4 = some (shrsR b) := h4
  have hp := hpre
  simp only [cChgE_con, FactsIn, X.bool, X.den, denL, dX, denSub, denIte, asB, dY, h1, h4, hsy, sym10, sym110, sym111, sym112, sym113, sym114, sym115, Option.some.injEq, Value.bool.injEq, and_true, beq_iff_eq, beq_eq_false_iff_ne, ne_eq] at hp
  obtain hca := hp
  refine con_of (E := E0) E0_ok E0_glob (sy := sy) (fun F => LD_ok F hsy) (fun F => chg_H h1 h4 hsy F) (cChgE_w r) hρ hpre hrel hins ?_ ?_
  · simp only [cChgE_con, cChgE_t, yED_26, yED_25, yED_24, yED_23, yED_22, yED_21, yED_20, yED_19, yED_18, yED_17, yED_16, yED_15, yED_14, yED_13, yED_12, yED_11, yED_10, yED_9, yED_8, yED_7, yED_6, yED_5, yED_4, yED_3, yED_2, yED_1, yED_0, AsksL, GTree.asks, FTree.asks, FactsIn, List.append_nil, List.nil_append, List.cons_append, Option.some.injEq, exists_eq', implies_true, and_self, X.bool, X.den, denL, dX, denSub, denIte, asB, dY, d_hasS, d_putS, d_delS, has_put, h1, h4, hsy, sym10, sym110, sym111, sym112, sym113, sym114, sym115]
    try simp
  · simp only [cChgE_l, yED_26, yED_25, yED_24, yED_23, yED_22, yED_21, yED_20, yED_19, yED_18, yED_17, yED_16, yED_15, yED_14, yED_13, yED_12, yED_11, yED_10, yED_9, yED_8, yED_7, yED_6, yED_5, yED_4, yED_3, yED_2, yED_1, yED_0, EndsOk, WaysOk, forall_cons, forall_nil, TgtOk, gpair, FactsIn, hold_cons, hold_nil, Option.some.injEq, dZ, X.bool, X.den, denL, dX, denSub, denIte, asB, dY, d_hasS, d_putS, d_delS, has_put, beq_iff_eq, beq_eq_false_iff_ne, ne_eq, h1, h4, hsy, sym10, sym110, sym111, sym112, sym113, sym114, sym115]
    clear hsy hρ hpre hrel hins h1 h4
    (repeat' apply And.intro) <;> intros <;> first
      | trivial
      | (exfalso; omega)
      | (simp_all; done)
      | (exfalso; simp_all; omega)
noncomputable def cChgF_con : Con := { f := 8, args := [shrsArg 0 0, shrsArg 1 3], N := 2, M := 2, pre := [(.op2 .eq (.app 110 [.var 1]) (.num 0), true), (.op2 .eq (.app 110 [.var 4]) (.num 0), false)], out := .tuple [.nilslice, .sint .i64 (.app 110 [.var 4])], news := [] }
noncomputable def cChgF_call : Env → CallL := fun E => acallAll E (evH E (LD E) ((fun E => orLoop (oneH 8 (hooks [(10, lSub_D.hook E.facts chg1_vs), (15, lAdd_D.hook E.facts chg2_vs)])) (oneH 27 (hooks [(3, lShr_D.hook E.facts shr_vs)]))) E) 8)
noncomputable def cChgF_t : GTree := (.leaf [[]])
noncomputable def cChgF_l : List (List (X × Bool) × Option Pairs) := [([(yED_14, true), (yED_18, false)], some [(.app 110 [.var 4], .app 110 [.var 4])])]
theorem cChgF_w (r : Rho) : cChgF_con.fn.ways cChgF_call E0 r cChgF_con.pre cChgF_t = some cChgF_l := by kernel_rfl
theorem cChgF_cok : cChgF_con.Ok Tryz.prog sy := by
  intro r σ w us hsy hρ hpre hrel hins
  obtain ⟨a, h1⟩ := shrs_at hrel (i := 0) rfl
  obtain ⟨b, h4⟩ := shrs_at hrel (i := 1) rfl
  rw [hρ] at h1 h4
  have h1 : r.val 1 = some (shrsR a) := h1
  have h4 : r.val 4 = some (shrsR b) := h4
  have hp := hpre
  simp only [cChgF_con, FactsIn, X.bool, X.den, denL, dX, denSub, denIte, asB, dY, h1, h4, hsy, sym10, sym110, sym111, sym112, sym113, sym114, sym115, Option.some.injEq, Value.bool.injEq, and_true, beq_iff_eq, beq_eq_false_iff_ne, ne_eq] at hp
  obtain ⟨hca, hcb⟩ := hp
  refine con_of (E := E0) E0_ok E0_glob (sy := sy) (fun F => LD_ok F hsy) (fun F => chg_H h1 h4 hsy F) (cChgF_w r) hρ hpre hrel hins ?_ ?_
  · simp only [cChgF_con, cChgF_t, yED_26, yED_25, yED_24, yED_23, yED_22, yED_21, yED_20, yED_19, yED_18, yED_17, yED_16, yED_15, yED_14, yED_13, yED_12, yED_11, yED_10, yED_9, yED_8, yED_7, yED_6, yED_5, yED_4, yED_3, yED_2, yED_1, yED_0, AsksL, GTree.asks, FTree.asks, FactsIn, List.append_nil, List.nil_append, List.cons_append, Option.some.injEq, exists_eq', implies_true, and_self, X.bool, X.den, denL, dX, denSub, denIte, asB, dY, d_hasS, d_putS, d_delS, has_put, h1, h4, hsy, sym10, sym110, sym111, sym112, sym113, sym114, sym115]
    try simp
  · simp only [cChgF_l, yED_26, yED_25, yED_24, yED_23, yED_22, yED_21, yED_20, yED_19, yED_18, yED_17, yED_16, yED_15, yED_14, yED_13, yED_12, yED_11, yED_10, yED_9, yED_8, yED_7, yED_6, yED_5, yED_4, yED_3, yED_2, yED_1, yED_0, EndsOk, WaysOk, forall_cons, forall_nil, TgtOk, gpair, FactsIn, hold_cons, hold_nil, Option.some.injEq, dZ, X.bool, X.den, denL, dX, denSub, denIte, asB, dY, d_hasS, d_putS, d_delS, has_put, beq_iff_eq, beq_eq_false_iff_ne, ne_eq, h1, h4, hsy, sym10, sym110, sym111, sym112, sym113, sym114, sym115]
    clear hsy hρ hpre hrel hins h1 h4
    (repeat' apply And.intro) <;> intros <;> first
      | trivial
      | (exfalso; omega)
      | (simp_all; done)
      | (exfalso; simp_all; omega)
noncomputable def cChg0_con : Con := { f := 8, args := [shrsArg 0 0, shrsArg 1 3], N := 2, M := 2, pre := [(.op2 .eq (.app 110 [.var 1]) (.num 0), true), (.op2 .eq (.app 110 [.var 4]) (.num 0), true), (.op2 .eq (.op1 .len (.app 111 [.var 4, .app 112 [.var 1]])) (.num 0), true)], out := .tuple [.nilslice, .int .i64 0], news := [] }
noncomputable def cChg0_call : Env → CallL := fun E => acallAll E (evH E (LD E) ((fun E => orLoop (oneH 8 (hooks [(10, lSub_D.hook E.facts chg1_vs), (15, lAdd_D.hook E.facts chg2_vs)])) (oneH 27 (hooks [(3, lShr_D.hook E.facts shr_vs)]))) E) 8)
noncomputable def cChg0_t : GTree := (.fork (.app 114 [yED_0]) (.fork yED_19 .bad (.leaf [[]])) .bad)
noncomputable def cChg0_l : List (List (X × Bool) × Option Pairs) := [([(yED_19, true), (.app 114 [yED_0], true), (yED_14, true), (yED_18, true), (yED_21, true)], none),
  ([(yED_19, false), (.app 114 [yED_0], true), (yED_14, true), (yED_18, true), (yED_21, true)], some []),
  ([(.app 114 [yED_0], false), (yED_14, true), (yED_18, true), (yED_21, true)], none)]
theorem cChg0_w (r : Rho) : cChg0_con.fn.ways cChg0_call E0 r cChg0_con.pre cChg0_t = some cChg0_l := by kernel_rfl
theorem cChg0_cok : cChg0_con.Ok Tryz.prog sy := by
  intro r σ w us hsy hρ hpre hrel hins
  obtain ⟨a, h1⟩ := shrs_at hrel (i := 0) rfl
  obtain ⟨b, h4⟩ := shrs_at hrel (i := 1) rfl
  rw [hρ] at h1 h4
  have h1 : r.val 1 = some (shrsR a) := h1
  have h4 : r.val 4 = some (shrsR b) := h4
  have hp := hpre
  simp only [cChg0_con, FactsIn, X.bool, X.den, denL, dX, denSub, denIte, asB, dY, h1, h4, hsy, sym10, sym110, sym111, sym112, sym113, sym114, sym115, Option.some.injEq, Value.bool.injEq, and_true, beq_iff_eq, beq_eq_false_iff_ne, ne_eq] at hp
  obtain ⟨hca, hcb, hne⟩ := hp
  have hmax := acc_max hca hcb
  have hword := word_ok (acc_all hca hcb)
  refine con_of (E := E0) E0_ok E0_glob (sy := sy) (fun F => LD_ok F hsy) (fun F => chg_H h1 h4 hsy F) (cChg0_w r) hρ hpre hrel hins ?_ ?_
  · simp only [cChg0_con, cChg0_t, yED_26, yED_25, yED_24, yED_23, yED_22, yED_21, yED_20, yED_19, yED_18, yED_17, yED_16, yED_15, yED_14, yED_13, yED_12, yED_11, yED_10, yED_9, yED_8, yED_7, yED_6, yED_5, yED_4, yED_3, yED_2, yED_1, yED_0, AsksL, GTree.asks, FTree.asks, FactsIn, List.append_nil, List.nil_append, List.cons_append, Option.some.injEq, exists_eq', implies_true, and_self, X.bool, X.den, denL, dX, denSub, denIte, asB, dY, d_hasS, d_putS, d_delS, has_put, h1, h4, hsy, sym10, sym110, sym111, sym112, sym113, sym114, sym115]
    try simp
  · simp only [cChg0_l, yED_26, yED_25, yED_24, yED_23, yED_22, yED_21, yED_20, yED_19, yED_18, yED_17, yED_16, yED_15, yED_14, yED_13, yED_12, yED_11, yED_10, yED_9, yED_8, yED_7, yED_6, yED_5, yED_4, yED_3, yED_2, yED_1, yED_0, EndsOk, WaysOk, forall_cons, forall_nil, TgtOk, gpair, FactsIn, hold_cons, hold_nil, Option.some.injEq, dZ, X.bool, X.den, denL, dX, denSub, denIte, asB, dY, d_hasS, d_putS, d_delS, has_put, beq_iff_eq, beq_eq_false_iff_ne, ne_eq, h1, h4, hsy, sym10, sym110, sym111, sym112, sym113, sym114, sym115]
    clear hsy hρ hpre hrel hins h1 h4
    (repeat' apply And.intro) <;> intros <;> first
      | trivial
      | (exfalso; omega)
      | (simp_all; done)
      | (exfalso; simp_all; omega)
noncomputable def cChg1_con : Con := { f := 8, args := [shrsArg 0 0, shrsArg 1 3], N := 2, M := 3, pre := [(.op2 .eq (.app 110 [.var 1]) (.num 0), true), (.op2 .eq (.app 110 [.var 4]) (.num 0), true), (.op2 .eq (.op1 .len (.app 111 [.var 4, .app 112 [.var 1]])) (.num 0), false)], out := .tuple [.slo 2 2 (.op1 .len (.app 115 [.app 111 [.var 4, .app 112 [.var 1]]])), .int .i64 0], news := [(2, .rows 2 shrSch (.num 0) (.app 115 [.app 111 [.var 4, .app 112 [.var 1]]]) true 25)] }
noncomputable def cChg1_call : Env → CallL := fun E => acallAll E (evH E (LD E) ((fun E => orLoop (oneH 8 (hooks [(10, lSub_D.hook E.facts chg1_vs), (15, lAdd_D.hook E.facts chg2_vs)])) (oneH 27 (hooks [(3, lShr_D.hook E.facts shr_vs)]))) E) 8)
noncomputable def cChg1_t : GTree := (.fork (.app 114 [yED_0]) (.fork yED_19 .bad (.leaf [[(2, 122)]])) .bad)
noncomputable def cChg1_l : List (List (X × Bool) × Option Pairs) := [([(yED_19, true), (.app 114 [yED_0], true), (yED_14, true), (yED_18, true), (yED_21, false)], none),
  ([(yED_19, false), (.app 114 [yED_0], true), (yED_14, true), (yED_18, true), (yED_21, false)], some [(.op1 .len (.app 115 [yED_0]), .op1 .len (.app 115 [yED_0])), (.app 115 [yED_0], .app 115 [yED_0])]),
  ([(.app 114 [yED_0], false), (yED_14, true), (yED_18, true), (yED_21, false)], none)]
theorem cChg1_w (r : Rho) : cChg1_con.fn.ways cChg1_call E0 r cChg1_con.pre cChg1_t = some cChg1_l := by kernel_rfl
theorem cChg1_cok : cChg1_con.Ok Tryz.prog sy := by
  intro r σ w us hsy hρ hpre hrel hins
  obtain ⟨a, h1⟩ := shrs_at hrel (i := 0) rfl
  obtain ⟨b, h4⟩ := shrs_at hrel (i := 1) rfl
  rw [hρ] at h1 h4
  have h1 : r.val 1 = some (shrsR a) := h1
  have h4 : r.val 4 = some (shrsR b) := h4
  have hp := hpre
  simp only [cChg1_con, FactsIn, X.bool, X.den, denL, dX, denSub, denIte, asB, dY, h1, h4, hsy, sym10, sym110, sym111, sym112, sym113, sym114, sym115, Option.some.injEq, Value.bool.injEq, and_true, beq_iff_eq, beq_eq_false_iff_ne, ne_eq] at hp
  obtain ⟨hca, hcb, hne⟩ := hp
  have hmax := acc_max hca hcb
  have hword := word_ok (acc_all hca hcb)
  refine con_of (E := E0) E0_ok E0_glob (sy := sy) (fun F => LD_ok F hsy) (fun F => chg_H h1 h4 hsy F) (cChg1_w r) hρ hpre hrel hins ?_ ?_
  · simp only [cChg1_con, cChg1_t, yED_26, yED_25, yED_24, yED_23, yED_22, yED_21, yED_20, yED_19, yED_18, yED_17, yED_16, yED_15, yED_14, yED_13, yED_12, yED_11, yED_10, yED_9, yED_8, yED_7, yED_6, yED_5, yED_4, yED_3, yED_2, yED_1, yED_0, AsksL, GTree.asks, FTree.asks, FactsIn, List.append_nil, List.nil_append, List.cons_append, Option.some.injEq, exists_eq', implies_true, and_self, X.bool, X.den, denL, dX, denSub, denIte, asB, dY, d_hasS, d_putS, d_delS, has_put, h1, h4, hsy, sym10, sym110, sym111, sym112, sym113, sym114, sym115]
    try simp
  · simp only [cChg1_l, yED_26, yED_25, yED_24, yED_23, yED_22, yED_21, yED_20, yED_19, yED_18, yED_17, yED_16, yED_15, yED_14, yED_13, yED_12, yED_11, yED_10, yED_9, yED_8, yED_7, yED_6, yED_5, yED_4, yED_3, yED_2, yED_1, yED_0, EndsOk, WaysOk, forall_cons, forall_nil, TgtOk, gpair, FactsIn, hold_cons, hold_nil, Option.some.injEq, dZ, X.bool, X.den, denL, dX, denSub, denIte, asB, dY, d_hasS, d_putS, d_delS, has_put, beq_iff_eq, beq_eq_false_iff_ne, ne_eq, h1, h4, hsy, sym10, sym110, sym111, sym112, sym113, sym114, sym115]
    clear hsy hρ hpre hrel hins h1 h4
    (repeat' apply And.intro) <;> intros <;> first
      | trivial
      | (exfalso; omega)
      | (simp_all; done)
      | (exfalso; simp_all; omega)
end Go.Proofs.YtpdemfamfmeemacGreatDoor.Zs
