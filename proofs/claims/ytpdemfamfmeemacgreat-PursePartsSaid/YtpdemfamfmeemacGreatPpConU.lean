/-
  Contracts of package purse: the postings made by an hour.
-/
import Derived.Test.YtpdemfamfmeemacGreatPpConR
import Derived.KernelRfl
set_option linter.unusedSimpArgs false
set_option linter.unusedVariables false
namespace Go.Proofs.YtpdemfamfmeemacGreat.Zs
open Go
theorem hour_snoc (l : List Ptg) (p : Ptg) (h : Int) : hourP (l ++ [p]) h = if p.hour ≤ h then hourP l h ++ [p] else hourP l h := by
  unfold hourP
  rw [List.filter_append]
  by_cases e : p.hour ≤ h <;> simp [e]
theorem hour_len (l : List Ptg) (h : Int) : (hourP l h).length ≤ l.length := List.length_filter_le _ _
noncomputable def L8 : Env → CallE := libs [cLib cChk_con]
theorem L8_ok (F : List (X × Bool)) {r : Rho} (h : r.sym = sy) : CallsOk (E0.with F r) (L8 (E0.with F r)) := libs_ok fun c hc => by
  simp only [List.mem_cons, List.not_mem_nil, or_false] at hc
  subst hc; exact lib_ok (E := E0) cChk_cok F h
def up_vs : List X := [.num 0]
noncomputable def lUp_D : LoopD := { N := 100, M := 111, size := sizeOfF 62, reads := [(0, .rows 8 ptgSch (.var 0) (.var 1) false 36), (1, .cells [.sint .i64 (.var 3)] 3), (2, .cells [.slx 0 8 (.var 0) (.num 0) (.op1 .len (.var 1)) (.var 2)] 22), (3, .cells [.func (.func 37) [] [.ptr 1 0]] 73)], pats := [{ slots := [(0, .yield 6), (1, .ptr 2 0), (2, .ptr 3 0), (15, .slx 0 8 (.var 0) (.num 0) (.op1 .len (.var 1)) (.var 2)), (16, .sint .i64 (.op1 .len (.var 1))), (17, .sint .i64 (.var 100))], heap := [(4, .cells [.nilslice] 22), (6, .loop { state := .ready, pending := none, tmps := buildT [(2, .ptr 4 0)], size := 13, src := .at_ 61 3, defers := 5 })] }, { slots := [(0, .yield 6), (1, .ptr 2 0), (2, .ptr 3 0), (15, .slx 0 8 (.var 0) (.num 0) (.op1 .len (.var 1)) (.var 2)), (16, .sint .i64 (.op1 .len (.var 1))), (17, .sint .i64 (.var 100))], heap := [(4, .cells [.slo 110 8 (.op1 .len (.var 101))] 22), (110, .rows 8 ptgSch (.num 0) (.var 101) true 36), (6, .loop { state := .ready, pending := none, tmps := buildT [(2, .ptr 4 0)], size := 13, src := .at_ 61 3, defers := 5 })] }], exits := [(.exit 0, { slots := [], heap := [(4, .cells [.nilslice] 22), (6, .loop { state := .ready, pending := none, tmps := buildT [(2, .ptr 4 0)], size := 13, src := .at_ 61 3, defers := 5 })], guard := .op2 .eq (.op1 .len (.app 58 [.var 1, .var 3])) (.num 0) }), (.exit 0, { slots := [], heap := [(4, .cells [.slo 110 8 (.op1 .len (.app 58 [.var 1, .var 3]))] 22), (110, .rows 8 ptgSch (.num 0) (.app 58 [.var 1, .var 3]) true 36), (6, .loop { state := .ready, pending := none, tmps := buildT [(2, .ptr 4 0)], size := 13, src := .at_ 61 3, defers := 5 })], guard := .op1 .not (.op2 .eq (.op1 .len (.app 58 [.var 1, .var 3])) (.num 0)) })], own := [4, 6], pre := [(.app 20 [.var 1], true)] }
noncomputable def lUp_run : Env → AF → ASt → Option (List Out) := bodyRun L8 9 (fun _ => noLoop) (loopAt Tryz.prog 62 0)
def lUp0_F : List (X × Bool) := [(.op2 .lt (.var 100) (.num 0), false)]
def lUp1_F : List (X × Bool) := [(.op2 .lt (.var 100) (.num 0), false)]
def yPU_0 : X := .op2 .lt (.var 100) (.op1 .len (.var 1))
def yPU_1 : X := .op2 .lt (.var 3) (.cell 1 (.var 1) (.var 100))
def yPU_2 : X := .app 58 [(.var 1), (.var 3)]
def yPU_3 : X := .op2 .lt (.var 100) (.num 0)
def yPU_4 : X := .op1 (.wrap .i64) (.op2 .add (.var 100) (.num 1))
def yPU_5 : X := .op1 .len (.var 101)
noncomputable def lUp0_t : FTree := (.fork yPU_0 (.fork yPU_1 (.leaf [.again 0 []]) (.leaf [.again 1 [(110, 115)]])) (.leaf [.leave 0 []]))
noncomputable def lUp0_l : List (List (X × Bool) × Option (List (Tgt × Pairs))) := [([(yPU_1, true), (yPU_0, true), (yPU_3, false)], some [(.again 0 [], [(.var 100, yPU_4)])]),
  ([(yPU_1, false), (yPU_0, true), (yPU_3, false)], some [(.again 1 [(110, 115)], [(.var 100, yPU_4), (yPU_5, .num 1), (.var 101, .snoc .nil [.op1 (.kind .i64) (.cell 0 (.var 1) (.var 100)), .op1 (.kind .i64) (.cell 1 (.var 1) (.var 100)), .op1 (.kind .u8) (.cell 2 (.var 1) (.var 100)), .op1 (.kind .i64) (.cell 3 (.var 1) (.var 100)), .op1 (.kind .i64) (.cell 4 (.var 1) (.var 100)), .op1 (.kind .i64) (.cell 5 (.var 1) (.var 100)), .op1 (.kind .i64) (.cell 6 (.var 1) (.var 100)), .op1 (.kind .i64) (.cell 7 (.var 1) (.var 100))])])]),
  ([(yPU_0, false), (yPU_3, false)], some [(.leave 0 [], [(.op2 .eq (.op1 .len yPU_2) (.num 0), .boo true)])])]
theorem lUp0_w (r : Rho) : lUp_D.ways lUp_run E0 r 0 lUp0_F lUp0_t = some lUp0_l := by kernel_rfl
noncomputable def lUp1_t : FTree := (.fork yPU_0 (.fork yPU_1 (.leaf [.again 1 [(110, 110)]]) (.fork (.op2 .lt (.num 1000000000) (.op2 .add yPU_5 (.num 1))) .bad (.leaf [.again 1 [(110, 115)]]))) (.leaf [.leave 1 [(110, 110)]]))
noncomputable def lUp1_l : List (List (X × Bool) × Option (List (Tgt × Pairs))) := [([(yPU_1, true), (yPU_0, true), (yPU_3, false)], some [(.again 1 [(110, 110)], [(.var 100, yPU_4), (yPU_5, yPU_5), (.var 101, .var 101)])]),
  ([(.op2 .lt (.num 1000000000) (.op2 .add yPU_5 (.num 1)), true), (yPU_1, false), (yPU_0, true), (yPU_3, false)], none),
  ([(.op2 .lt (.num 1000000000) (.op2 .add yPU_5 (.num 1)), false), (yPU_1, false), (yPU_0, true), (yPU_3, false)], some [(.again 1 [(110, 115)], [(.var 100, yPU_4), (yPU_5, .op2 .add yPU_5 (.num 1)), (.var 101, .snoc (.var 101) [.op1 (.kind .i64) (.cell 0 (.var 1) (.var 100)), .op1 (.kind .i64) (.cell 1 (.var 1) (.var 100)), .op1 (.kind .u8) (.cell 2 (.var 1) (.var 100)), .op1 (.kind .i64) (.cell 3 (.var 1) (.var 100)), .op1 (.kind .i64) (.cell 4 (.var 1) (.var 100)), .op1 (.kind .i64) (.cell 5 (.var 1) (.var 100)), .op1 (.kind .i64) (.cell 6 (.var 1) (.var 100)), .op1 (.kind .i64) (.cell 7 (.var 1) (.var 100))])])]),
  ([(yPU_0, false), (yPU_3, false)], some [(.leave 1 [(110, 110)], [(.op1 .len yPU_2, yPU_5), (yPU_2, .var 101), (.op1 .not (.op2 .eq (.op1 .len yPU_2) (.num 0)), .boo true)])])]
theorem lUp1_w (r : Rho) : lUp_D.ways lUp_run E0 r 1 lUp1_F lUp1_t = some lUp1_l := by kernel_rfl
theorem lUp_ok : lUp_D.ok = true := by kernel_rfl
def lUp_Inv (l : List Ptg) (h : Int) (j : Nat) (vals : List Value) : Prop :=
  ∃ i : Nat, i ≤ l.length ∧ ((j = 0 ∧ vals = [.int .i64 i] ∧ hourP (l.take i) h = []) ∨ (j = 1 ∧ vals = [.int .i64 i, ptgsR (hourP (l.take i) h)] ∧ hourP (l.take i) h ≠ []))
def lUp_mu (l : List Ptg) (_ : Nat) (vals : List Value) : Nat := l.length - (vI (vals.getD 0 default)).toNat
set_option maxHeartbeats 1000000 in
theorem lUp_step0 {ρ : Rho} {l : List Ptg} {h : Int} {k3 : IntKind} (h1 : ρ.val 1 = some (ptgsR l)) (h3 : ρ.val 3 = some (.int k3 h)) (hsy : ρ.sym = sy) (hmax : (l.length : Int) ≤ 1010) {i : Nat} (hi : i ≤ l.length) (hn : hourP (l.take i) h = []) :
    StepOk lUp_D lUp_run E0 ρ (lUp_Inv l h) (lUp_mu l) 0 [.int .i64 i] := by
  have hN : lUp_D.N = 100 := rfl
  have v1 : (ρ.ext lUp_D.N [.int .i64 i]).val 1 = some (ptgsR l) := by rw [ext_low _ _ _ _ (by rw [hN]; omega)]; exact h1
  have v3 : (ρ.ext lUp_D.N [.int .i64 i]).val 3 = some (.int k3 h) := by rw [ext_low _ _ _ _ (by rw [hN]; omega)]; exact h3
  have v100 : (ρ.ext lUp_D.N [.int .i64 i]).val 100 = some (.int .i64 i) := by rw [ext_high _ _ _ _ (by rw [hN]; omega)]; rfl
  have vs : (ρ.ext lUp_D.N [.int .i64 i]).sym = sy := hsy
  have hF : FactsIn (ρ.ext lUp_D.N [.int .i64 i]) lUp0_F := by
    simp only [lUp0_F, FactsIn, X.bool, X.den, denL, dX, denSub, denIte, asB, dY, v100, Option.some.injEq, Value.bool.injEq, decide_eq_false_iff_not, and_true]
    omega
  suffices both : AsksL (ρ.ext lUp_D.N [.int .i64 i]) (lUp0_t.asks lUp0_F) ∧ WaysOk lUp_D ρ (lUp_Inv l h) (lUp_mu l) 0 [.int .i64 i] lUp0_l from step_of_ways (lUp0_w _) hF both.1.ok both.2
  have hlen := hour_len (l.take i) h
  have hti : (l.take i).length = i := by simp; omega
  cases hp : l[i]? with
  | none =>
    have hge := List.getElem?_eq_none_iff.1 hp
    have hge' : ¬ (i : Int) < l.length := by omega
    have hl : l.take i = l := List.take_of_length_le hge
    refine ⟨?_, ?_⟩
    · simp only [lUp0_t, yPU_5, yPU_4, yPU_3, yPU_2, yPU_1, yPU_0, lUp0_F, AsksL, GTree.asks, FTree.asks, FactsIn, List.append_nil, List.nil_append, List.cons_append, Option.some.injEq, exists_eq', implies_true, and_self, X.bool, X.den, denL, dX, denSub, denIte, asB, dY, ptgs_snoc, ptgs_snoc0, snoc_nil, v1, v3, v100, vs, sym5, sym6, sym20, sym58, Int.toNat_natCast, hp, hge']
      try simp
    · simp only [lUp0_l, yPU_5, yPU_4, yPU_3, yPU_2, yPU_1, yPU_0, EndsOk, WaysOk, forall_cons, forall_nil, TgtOk, gpair, FactsIn, hold_cons, hold_nil, Option.some.injEq, dZ, X.bool, X.den, denL, dX, denSub, denIte, asB, dY, ptgs_snoc, ptgs_snoc0, snoc_nil, beq_iff_eq, beq_eq_false_iff_ne, ne_eq, v1, v3, v100, vs, h1, h3, hsy, sym5, sym6, sym20, sym58, Int.toNat_natCast, hp, hge']
      rw [hl] at hn
      simp [hl, hn]
  | some p =>
    have hlt : i < l.length := (List.getElem?_eq_some_iff.1 hp).1
    have hlt1 : (i : Int) < l.length := by omega
    have hw : IntKind.i64.wrap ((i : Int) + 1) = ((i + 1 : Nat) : Int) := by rw [IntWalk.i64_in _ (by omega)]; rfl
    have hnext : hourP (l.take (i + 1)) h = if p.hour ≤ h then hourP (l.take i) h ++ [p] else hourP (l.take i) h := by
      rw [List.take_add_one, hp]; exact hour_snoc _ p h
    have goA : ¬ h < p.hour → ∃ vals', ((ρ.ext lUp_D.N vals').val 100 = some (.int .i64 ((i + 1 : Nat) : Int)) ∧ (match (ρ.ext lUp_D.N vals').val 101 with | some v => den1 .len v | none => none) = some (.int .i64 (1 : Int)) ∧ (ρ.ext lUp_D.N vals').val 101 = some (ptgsR [p])) ∧ lUp_Inv l h 1 vals' ∧ lUp_mu l 1 vals' < lUp_mu l 0 [.int .i64 i] := by
        intro hc0
        have hc : p.hour ≤ h := by omega
        have e101 : (ρ.ext lUp_D.N [.int .i64 ((i + 1 : Nat) : Int), ptgsR (hourP (l.take (i + 1)) h)]).val 101 = some (ptgsR (hourP (l.take (i + 1)) h)) := by rw [ext_high _ _ _ _ (by rw [hN]; omega)]; rfl
        refine ⟨[.int .i64 ((i + 1 : Nat) : Int), ptgsR (hourP (l.take (i + 1)) h)], ⟨?_, ?_, ?_⟩, ⟨i + 1, by omega, .inr ⟨rfl, rfl, by rw [hnext]; simp [hc, hn]⟩⟩, by simp [lUp_mu, vI]; omega⟩
        · rw [ext_high _ _ _ _ (by rw [hN]; omega)]; rfl
        · rw [e101, hnext]
          refine (ptgs_len _).trans ?_
          simp [hc, hn]
        · rw [e101, hnext]; simp [hc, hn]
    have goK : h < p.hour → ∃ vals', (ρ.ext lUp_D.N vals').val 100 = some (.int .i64 ((i + 1 : Nat) : Int)) ∧ lUp_Inv l h 0 vals' ∧ lUp_mu l 0 vals' < lUp_mu l 0 [.int .i64 i] := by
        intro hc0
        have hc : ¬ p.hour ≤ h := by omega
        refine ⟨[.int .i64 ((i + 1 : Nat) : Int)], ?_, ⟨i + 1, by omega, .inl ⟨rfl, rfl, by rw [hnext]; simp [hc, hn]⟩⟩, by simp [lUp_mu, vI]; omega⟩
        rw [ext_high _ _ _ _ (by rw [hN]; omega)]; rfl
    refine ⟨?_, ?_⟩
    · simp only [lUp0_t, yPU_5, yPU_4, yPU_3, yPU_2, yPU_1, yPU_0, lUp0_F, AsksL, GTree.asks, FTree.asks, FactsIn, List.append_nil, List.nil_append, List.cons_append, Option.some.injEq, exists_eq', implies_true, and_self, X.bool, X.den, denL, dX, denSub, denIte, asB, dY, ptgs_snoc, ptgs_snoc0, snoc_nil, v1, v3, v100, vs, sym5, sym6, sym20, sym58, Int.toNat_natCast, hp, Option.bind_some, ptg0, ptg1, ptg2, ptg3, ptg4, ptg5, ptg6, ptg7]
      try simp
      try omega
    · simp only [lUp0_l, yPU_5, yPU_4, yPU_3, yPU_2, yPU_1, yPU_0, EndsOk, WaysOk, forall_cons, forall_nil, TgtOk, gpair, FactsIn, hold_cons, hold_nil, Option.some.injEq, dZ, X.bool, X.den, denL, dX, denSub, denIte, asB, dY, ptgs_snoc, ptgs_snoc0, snoc_nil, beq_iff_eq, beq_eq_false_iff_ne, ne_eq, v1, v3, v100, vs, h1, h3, hsy, sym5, sym6, sym20, sym58, Int.toNat_natCast, hp, Option.bind_some, ptg0, ptg1, ptg2, ptg3, ptg4, ptg5, ptg6, ptg7, hlt1, hw]
      clear v1 v3 v100 vs h1 h3 hsy hp hF hnext
      (repeat' apply And.intro) <;> intros <;> first
        | trivial
        | (exfalso; omega)
        | (exact goA (by assumption))
        | (exact goK (by assumption))
set_option maxHeartbeats 1000000 in
theorem lUp_step1 {ρ : Rho} {l : List Ptg} {h : Int} {k3 : IntKind} (h1 : ρ.val 1 = some (ptgsR l)) (h3 : ρ.val 3 = some (.int k3 h)) (hsy : ρ.sym = sy) (hmax : (l.length : Int) ≤ 1010) {i : Nat} (hi : i ≤ l.length) (hn : hourP (l.take i) h ≠ []) :
    StepOk lUp_D lUp_run E0 ρ (lUp_Inv l h) (lUp_mu l) 1 [.int .i64 i, ptgsR (hourP (l.take i) h)] := by
  have hN : lUp_D.N = 100 := rfl
  have v1 : (ρ.ext lUp_D.N [.int .i64 i, ptgsR (hourP (l.take i) h)]).val 1 = some (ptgsR l) := by rw [ext_low _ _ _ _ (by rw [hN]; omega)]; exact h1
  have v3 : (ρ.ext lUp_D.N [.int .i64 i, ptgsR (hourP (l.take i) h)]).val 3 = some (.int k3 h) := by rw [ext_low _ _ _ _ (by rw [hN]; omega)]; exact h3
  have v100 : (ρ.ext lUp_D.N [.int .i64 i, ptgsR (hourP (l.take i) h)]).val 100 = some (.int .i64 i) := by rw [ext_high _ _ _ _ (by rw [hN]; omega)]; rfl
  have v101 : (ρ.ext lUp_D.N [.int .i64 i, ptgsR (hourP (l.take i) h)]).val 101 = some (ptgsR (hourP (l.take i) h)) := by rw [ext_high _ _ _ _ (by rw [hN]; omega)]; rfl
  have vs : (ρ.ext lUp_D.N [.int .i64 i, ptgsR (hourP (l.take i) h)]).sym = sy := hsy
  have hF : FactsIn (ρ.ext lUp_D.N [.int .i64 i, ptgsR (hourP (l.take i) h)]) lUp1_F := by
    simp only [lUp1_F, FactsIn, X.bool, X.den, denL, dX, denSub, denIte, asB, dY, v100, Option.some.injEq, Value.bool.injEq, decide_eq_false_iff_not, and_true]
    omega
  suffices both : AsksL (ρ.ext lUp_D.N [.int .i64 i, ptgsR (hourP (l.take i) h)]) (lUp1_t.asks lUp1_F) ∧ WaysOk lUp_D ρ (lUp_Inv l h) (lUp_mu l) 1 [.int .i64 i, ptgsR (hourP (l.take i) h)] lUp1_l from step_of_ways (lUp1_w _) hF both.1.ok both.2
  have hlen := hour_len (l.take i) h
  have hti : (l.take i).length = i := by simp; omega
  cases hp : l[i]? with
  | none =>
    have hge := List.getElem?_eq_none_iff.1 hp
    have hge' : ¬ (i : Int) < l.length := by omega
    have hl : l.take i = l := List.take_of_length_le hge
    refine ⟨?_, ?_⟩
    · simp only [lUp1_t, yPU_5, yPU_4, yPU_3, yPU_2, yPU_1, yPU_0, lUp1_F, AsksL, GTree.asks, FTree.asks, FactsIn, List.append_nil, List.nil_append, List.cons_append, Option.some.injEq, exists_eq', implies_true, and_self, X.bool, X.den, denL, dX, denSub, denIte, asB, dY, ptgs_snoc, ptgs_snoc0, snoc_nil, v1, v3, v100, v101, vs, sym5, sym6, sym20, sym58, Int.toNat_natCast, hp, hge']
      try simp
    · simp only [lUp1_l, yPU_5, yPU_4, yPU_3, yPU_2, yPU_1, yPU_0, EndsOk, WaysOk, forall_cons, forall_nil, TgtOk, gpair, FactsIn, hold_cons, hold_nil, Option.some.injEq, dZ, X.bool, X.den, denL, dX, denSub, denIte, asB, dY, ptgs_snoc, ptgs_snoc0, snoc_nil, beq_iff_eq, beq_eq_false_iff_ne, ne_eq, v1, v3, v100, v101, vs, h1, h3, hsy, sym5, sym6, sym20, sym58, Int.toNat_natCast, hp, hge']
      rw [hl] at hn
      simp [hl, hn]
  | some p =>
    have hlt : i < l.length := (List.getElem?_eq_some_iff.1 hp).1
    have hlt1 : (i : Int) < l.length := by omega
    have hw : IntKind.i64.wrap ((i : Int) + 1) = ((i + 1 : Nat) : Int) := by rw [IntWalk.i64_in _ (by omega)]; rfl
    have hnext : hourP (l.take (i + 1)) h = if p.hour ≤ h then hourP (l.take i) h ++ [p] else hourP (l.take i) h := by
      rw [List.take_add_one, hp]; exact hour_snoc _ p h
    have goA : ¬ h < p.hour → ∃ vals', ((ρ.ext lUp_D.N vals').val 100 = some (.int .i64 ((i + 1 : Nat) : Int)) ∧ (match (ρ.ext lUp_D.N vals').val 101 with | some v => den1 .len v | none => none) = some (.int .i64 (((hourP (l.take i) h).length + 1) : Int)) ∧ (ρ.ext lUp_D.N vals').val 101 = some (ptgsR (hourP (l.take i) h ++ [p]))) ∧ lUp_Inv l h 1 vals' ∧ lUp_mu l 1 vals' < lUp_mu l 1 [.int .i64 i, ptgsR (hourP (l.take i) h)] := by
        intro hc0
        have hc : p.hour ≤ h := by omega
        have e101 : (ρ.ext lUp_D.N [.int .i64 ((i + 1 : Nat) : Int), ptgsR (hourP (l.take (i + 1)) h)]).val 101 = some (ptgsR (hourP (l.take (i + 1)) h)) := by rw [ext_high _ _ _ _ (by rw [hN]; omega)]; rfl
        refine ⟨[.int .i64 ((i + 1 : Nat) : Int), ptgsR (hourP (l.take (i + 1)) h)], ⟨?_, ?_, ?_⟩, ⟨i + 1, by omega, .inr ⟨rfl, rfl, by rw [hnext]; simp [hc, hn]⟩⟩, by simp [lUp_mu, vI]; omega⟩
        · rw [ext_high _ _ _ _ (by rw [hN]; omega)]; rfl
        · rw [e101, hnext]
          refine (ptgs_len _).trans ?_
          simp [hc, hn]
        · rw [e101, hnext]; simp [hc, hn]
    have goK : h < p.hour → ∃ vals', ((ρ.ext lUp_D.N vals').val 100 = some (.int .i64 ((i + 1 : Nat) : Int)) ∧ (match (ρ.ext lUp_D.N vals').val 101 with | some v => den1 .len v | none => none) = some (.int .i64 ((hourP (l.take i) h).length : Int)) ∧ (ρ.ext lUp_D.N vals').val 101 = some (ptgsR (hourP (l.take i) h))) ∧ lUp_Inv l h 1 vals' ∧ lUp_mu l 1 vals' < lUp_mu l 1 [.int .i64 i, ptgsR (hourP (l.take i) h)] := by
        intro hc0
        have hc : ¬ p.hour ≤ h := by omega
        have e101 : (ρ.ext lUp_D.N [.int .i64 ((i + 1 : Nat) : Int), ptgsR (hourP (l.take (i + 1)) h)]).val 101 = some (ptgsR (hourP (l.take (i + 1)) h)) := by rw [ext_high _ _ _ _ (by rw [hN]; omega)]; rfl
        refine ⟨[.int .i64 ((i + 1 : Nat) : Int), ptgsR (hourP (l.take (i + 1)) h)], ⟨?_, ?_, ?_⟩, ⟨i + 1, by omega, .inr ⟨rfl, rfl, by rw [hnext]; simp [hc, hn]⟩⟩, by simp [lUp_mu, vI]; omega⟩
        · rw [ext_high _ _ _ _ (by rw [hN]; omega)]; rfl
        · rw [e101, hnext]
          refine (ptgs_len _).trans ?_
          simp [hc, hn]
        · rw [e101, hnext]; simp [hc, hn]
    refine ⟨?_, ?_⟩
    · simp only [lUp1_t, yPU_5, yPU_4, yPU_3, yPU_2, yPU_1, yPU_0, lUp1_F, AsksL, GTree.asks, FTree.asks, FactsIn, List.append_nil, List.nil_append, List.cons_append, Option.some.injEq, exists_eq', implies_true, and_self, X.bool, X.den, denL, dX, denSub, denIte, asB, dY, ptgs_snoc, ptgs_snoc0, snoc_nil, v1, v3, v100, v101, vs, sym5, sym6, sym20, sym58, Int.toNat_natCast, hp, Option.bind_some, ptg0, ptg1, ptg2, ptg3, ptg4, ptg5, ptg6, ptg7]
      try simp
      try omega
    · simp only [lUp1_l, yPU_5, yPU_4, yPU_3, yPU_2, yPU_1, yPU_0, EndsOk, WaysOk, forall_cons, forall_nil, TgtOk, gpair, FactsIn, hold_cons, hold_nil, Option.some.injEq, dZ, X.bool, X.den, denL, dX, denSub, denIte, asB, dY, ptgs_snoc, ptgs_snoc0, snoc_nil, beq_iff_eq, beq_eq_false_iff_ne, ne_eq, v1, v3, v100, v101, vs, h1, h3, hsy, sym5, sym6, sym20, sym58, Int.toNat_natCast, hp, Option.bind_some, ptg0, ptg1, ptg2, ptg3, ptg4, ptg5, ptg6, ptg7, hlt1, hw]
      clear v1 v3 v100 v101 vs h1 h3 hsy hp hF hnext
      (repeat' apply And.intro) <;> intros <;> first
        | trivial
        | (exfalso; omega)
        | (exact goA (by assumption))
        | (exact goK (by assumption))
theorem lUp_step {ρ : Rho} {l : List Ptg} {h : Int} {k3 : IntKind} (h1 : ρ.val 1 = some (ptgsR l)) (h3 : ρ.val 3 = some (.int k3 h)) (hsy : ρ.sym = sy) (hmax : (l.length : Int) ≤ 1010) (j : Nat) (vals : List Value) (hI : lUp_Inv l h j vals) :
    StepOk lUp_D lUp_run E0 ρ (lUp_Inv l h) (lUp_mu l) j vals := by
  obtain ⟨i, hi, ⟨rfl, rfl, hn⟩ | ⟨rfl, rfl, hn⟩⟩ := hI
  · exact lUp_step0 h1 h3 hsy hmax hi hn
  · exact lUp_step1 h1 h3 hsy hmax hi hn
noncomputable def cUpN_con : Con := { f := 14, args := [ptgsArg 0 0, .one (.int .i64 3)], N := 1, M := 1, pre := [(.app 20 [.var 1], true), (.op2 .eq (.app 6 [.var 1]) (.num 0), true), (.op2 .eq (.op1 .len (.app 58 [.var 1, .var 3])) (.num 0), true)], out := .nilslice, news := [] }
noncomputable def cUpN_call : Env → CallL := fun E => acallAll E (evH E (L8 E) ((fun E => oneH 62 (hooks [(3, lUp_D.hook E.facts up_vs)])) E) 10)
noncomputable def cUpN_t : GTree := (.leaf [[]])
noncomputable def cUpN_l : List (List (X × Bool) × Option Pairs) := [([(.app 20 [.var 1], true), (.op2 .eq (.app 6 [.var 1]) (.num 0), true), (.op2 .eq (.op1 .len yPU_2) (.num 0), true)], some [])]
theorem cUpN_w (r : Rho) : cUpN_con.fn.ways cUpN_call E0 r cUpN_con.pre cUpN_t = some cUpN_l := by kernel_rfl
theorem lUp_H {r : Rho} {l : List Ptg} {h : Int} {k3 : IntKind} (h1 : r.val 1 = some (ptgsR l)) (h3 : r.val 3 = some (.int k3 h)) (hmax : (l.length : Int) ≤ 1010) (hsy : r.sym = sy) (F : List (X × Bool)) :
    LoopsOk (E0.with F r) (oneH 62 (hooks [(3, lUp_D.hook (E0.with F r).facts up_vs)])) := by
  refine loops_all (n := 1) (fun f fn h => h) (by kernel_rfl) fun i hi => ?_
  obtain rfl : i = 0 := by omega
  rw [hooks_hit (show keyOf (loopAt (E0.with F r).P 62 0) = 3 by kernel_rfl)]
  refine hook_ok (E₀ := E0) (run := lUp_run) (ρ := r) (Inv := lUp_Inv l h) (μ := lUp_mu l) E0_ok lUp_ok (fun F r' h => ?_) (fun _ => ⟨lUp_step h1 h3 hsy hmax, [.int .i64 0], ?_, 0, Nat.zero_le _, .inl ⟨rfl, rfl, rfl⟩⟩)
  · exact bodyRun_ok E0_ok (L8_ok F (h.trans hsy)) fun _ _ => noLoop_ok
  · simp only [up_vs, X.bool, X.den, denL, dX, denSub, denIte, asB, dY]
theorem cUpN_cok : cUpN_con.Ok Tryz.prog sy := by
  intro r σ w us hsy hρ hpre hrel hins
  obtain ⟨u0, us, rfl, g0, hi⟩ := ins_cons hins
  obtain ⟨u1, us, rfl, g1, hi⟩ := ins_cons hi
  obtain ⟨h, k3, rfl, h3⟩ := one_int g1
  obtain ⟨l, h1⟩ := ptgs_at hrel (i := 0) rfl
  rw [hρ] at h1 h3
  have h1 : r.val 1 = some (ptgsR l) := h1
  have hmax : (l.length : Int) ≤ 1010 := by
    have := hpre.1
    simp only [X.bool, X.den, denL, dX, denSub, denIte, asB, dY, h1, hsy, sym20, Option.some.injEq, Value.bool.injEq] at this
    exact short_len this
  refine con_of (E := E0) E0_ok E0_glob (sy := sy) (fun F => L8_ok F hsy) (fun F => lUp_H h1 h3 hmax hsy F) (cUpN_w r) hρ hpre hrel hins ?_ ?_
  · simp only [cUpN_con, cUpN_t, yPU_5, yPU_4, yPU_3, yPU_2, yPU_1, yPU_0, AsksL, GTree.asks, FTree.asks, FactsIn, List.append_nil, List.nil_append, List.cons_append, Option.some.injEq, exists_eq', implies_true, and_self, X.bool, X.den, denL, dX, denSub, denIte, asB, dY, h1, h3, hsy, sym5, sym6, sym20, sym58]
    try simp
  · simp only [cUpN_l, yPU_5, yPU_4, yPU_3, yPU_2, yPU_1, yPU_0, EndsOk, WaysOk, forall_cons, forall_nil, TgtOk, gpair, FactsIn, hold_cons, hold_nil, Option.some.injEq, dZ, X.bool, X.den, denL, dX, denSub, denIte, asB, dY, h1, h3, hsy, sym5, sym6, sym20, sym58]
    try simp
noncomputable def cUpY_con : Con := { f := 14, args := [ptgsArg 0 0, .one (.int .i64 3)], N := 1, M := 2, pre := [(.app 20 [.var 1], true), (.op2 .eq (.app 6 [.var 1]) (.num 0), true), (.op2 .eq (.op1 .len (.app 58 [.var 1, .var 3])) (.num 0), false)], out := .slo 1 8 (.op1 .len (.app 58 [.var 1, .var 3])), news := [(1, .rows 8 ptgSch (.num 0) (.app 58 [.var 1, .var 3]) true 36)] }
noncomputable def cUpY_call : Env → CallL := fun E => acallAll E (evH E (L8 E) ((fun E => oneH 62 (hooks [(3, lUp_D.hook E.facts up_vs)])) E) 10)
noncomputable def cUpY_t : GTree := (.leaf [[(1, 110)]])
noncomputable def cUpY_l : List (List (X × Bool) × Option Pairs) := [([(.app 20 [.var 1], true), (.op2 .eq (.app 6 [.var 1]) (.num 0), true), (.op2 .eq (.op1 .len yPU_2) (.num 0), false)], some [(.op1 .len yPU_2, .op1 .len yPU_2), (yPU_2, yPU_2)])]
theorem cUpY_w (r : Rho) : cUpY_con.fn.ways cUpY_call E0 r cUpY_con.pre cUpY_t = some cUpY_l := by kernel_rfl
theorem cUpY_cok : cUpY_con.Ok Tryz.prog sy := by
  intro r σ w us hsy hρ hpre hrel hins
  obtain ⟨u0, us, rfl, g0, hi⟩ := ins_cons hins
  obtain ⟨u1, us, rfl, g1, hi⟩ := ins_cons hi
  obtain ⟨h, k3, rfl, h3⟩ := one_int g1
  obtain ⟨l, h1⟩ := ptgs_at hrel (i := 0) rfl
  rw [hρ] at h1 h3
  have h1 : r.val 1 = some (ptgsR l) := h1
  have hmax : (l.length : Int) ≤ 1010 := by
    have := hpre.1
    simp only [X.bool, X.den, denL, dX, denSub, denIte, asB, dY, h1, hsy, sym20, Option.some.injEq, Value.bool.injEq] at this
    exact short_len this
  refine con_of (E := E0) E0_ok E0_glob (sy := sy) (fun F => L8_ok F hsy) (fun F => lUp_H h1 h3 hmax hsy F) (cUpY_w r) hρ hpre hrel hins ?_ ?_
  · simp only [cUpY_con, cUpY_t, yPU_5, yPU_4, yPU_3, yPU_2, yPU_1, yPU_0, AsksL, GTree.asks, FTree.asks, FactsIn, List.append_nil, List.nil_append, List.cons_append, Option.some.injEq, exists_eq', implies_true, and_self, X.bool, X.den, denL, dX, denSub, denIte, asB, dY, h1, h3, hsy, sym5, sym6, sym20, sym58]
    try simp
  · simp only [cUpY_l, yPU_5, yPU_4, yPU_3, yPU_2, yPU_1, yPU_0, EndsOk, WaysOk, forall_cons, forall_nil, TgtOk, gpair, FactsIn, hold_cons, hold_nil, Option.some.injEq, dZ, X.bool, X.den, denL, dX, denSub, denIte, asB, dY, h1, h3, hsy, sym5, sym6, sym20, sym58]
    try simp
end Go.Proofs.YtpdemfamfmeemacGreat.Zs
