/-
  Contracts of package purse: the postings for a parcel.
-/
import Derived.Test.YtpdemfamfmeemacGreatPpConU
import Derived.KernelRfl
set_option linter.unusedSimpArgs false
set_option linter.unusedVariables false
namespace Go.Proofs.YtpdemfamfmeemacGreat.Zs
open Go
theorem of_snoc (l : List Ptg) (p : Ptg) (h : Int) : ofP (l ++ [p]) h = if p.parcel = h then ofP l h ++ [p] else ofP l h := by
  unfold ofP
  rw [List.filter_append]
  by_cases e : p.parcel = h <;> simp [e]
theorem of_len (l : List Ptg) (h : Int) : (ofP l h).length ≤ l.length := List.length_filter_le _ _
noncomputable def L8o : Env → CallE := libs [cLib cChk_con]
theorem L8o_ok (F : List (X × Bool)) {r : Rho} (h : r.sym = sy) : CallsOk (E0.with F r) (L8o (E0.with F r)) := libs_ok fun c hc => by
  simp only [List.mem_cons, List.not_mem_nil, or_false] at hc
  subst hc; exact lib_ok (E := E0) cChk_cok F h
def of_vs : List X := [.num 0]
noncomputable def lOf_D : LoopD := { N := 100, M := 111, size := sizeOfF 62, reads := [(0, .rows 8 ptgSch (.var 0) (.var 1) false 36), (1, .cells [.sint .i64 (.var 3)] 3), (2, .cells [.slx 0 8 (.var 0) (.num 0) (.op1 .len (.var 1)) (.var 2)] 22), (3, .cells [.func (.func 39) [] [.ptr 1 0]] 73)], pats := [{ slots := [(0, .yield 6), (1, .ptr 2 0), (2, .ptr 3 0), (15, .slx 0 8 (.var 0) (.num 0) (.op1 .len (.var 1)) (.var 2)), (16, .sint .i64 (.op1 .len (.var 1))), (17, .sint .i64 (.var 100))], heap := [(4, .cells [.nilslice] 22), (6, .loop { state := .ready, pending := none, tmps := buildT [(2, .ptr 4 0)], size := 13, src := .at_ 61 3, defers := 5 })] }, { slots := [(0, .yield 6), (1, .ptr 2 0), (2, .ptr 3 0), (15, .slx 0 8 (.var 0) (.num 0) (.op1 .len (.var 1)) (.var 2)), (16, .sint .i64 (.op1 .len (.var 1))), (17, .sint .i64 (.var 100))], heap := [(4, .cells [.slo 110 8 (.op1 .len (.var 101))] 22), (110, .rows 8 ptgSch (.num 0) (.var 101) true 36), (6, .loop { state := .ready, pending := none, tmps := buildT [(2, .ptr 4 0)], size := 13, src := .at_ 61 3, defers := 5 })] }], exits := [(.exit 0, { slots := [], heap := [(4, .cells [.nilslice] 22), (6, .loop { state := .ready, pending := none, tmps := buildT [(2, .ptr 4 0)], size := 13, src := .at_ 61 3, defers := 5 })], guard := .op2 .eq (.op1 .len (.app 60 [.var 1, .var 3])) (.num 0) }), (.exit 0, { slots := [], heap := [(4, .cells [.slo 110 8 (.op1 .len (.app 60 [.var 1, .var 3]))] 22), (110, .rows 8 ptgSch (.num 0) (.app 60 [.var 1, .var 3]) true 36), (6, .loop { state := .ready, pending := none, tmps := buildT [(2, .ptr 4 0)], size := 13, src := .at_ 61 3, defers := 5 })], guard := .op1 .not (.op2 .eq (.op1 .len (.app 60 [.var 1, .var 3])) (.num 0)) })], own := [4, 6], pre := [(.app 20 [.var 1], true)] }
noncomputable def lOf_run : Env → AF → ASt → Option (List Out) := bodyRun L8o 9 (fun _ => noLoop) (loopAt Tryz.prog 62 0)
def lOf0_F : List (X × Bool) := [(.op2 .lt (.var 100) (.num 0), false)]
def lOf1_F : List (X × Bool) := [(.op2 .lt (.var 100) (.num 0), false)]
def yPO_0 : X := .op2 .lt (.var 100) (.op1 .len (.var 1))
def yPO_1 : X := .op2 .eq (.cell 4 (.var 1) (.var 100)) (.var 3)
def yPO_2 : X := .app 60 [(.var 1), (.var 3)]
def yPO_3 : X := .op2 .lt (.var 100) (.num 0)
def yPO_4 : X := .op1 (.wrap .i64) (.op2 .add (.var 100) (.num 1))
def yPO_5 : X := .op1 .len (.var 101)
noncomputable def lOf0_t : FTree := (.fork yPO_0 (.fork yPO_1 (.leaf [.again 1 [(110, 115)]]) (.leaf [.again 0 []])) (.leaf [.leave 0 []]))
noncomputable def lOf0_l : List (List (X × Bool) × Option (List (Tgt × Pairs))) := [([(yPO_1, true), (yPO_0, true), (yPO_3, false)], some [(.again 1 [(110, 115)], [(.var 100, yPO_4), (yPO_5, .num 1), (.var 101, .snoc .nil [.op1 (.kind .i64) (.cell 0 (.var 1) (.var 100)), .op1 (.kind .i64) (.cell 1 (.var 1) (.var 100)), .op1 (.kind .u8) (.cell 2 (.var 1) (.var 100)), .op1 (.kind .i64) (.cell 3 (.var 1) (.var 100)), .op1 (.kind .i64) (.cell 4 (.var 1) (.var 100)), .op1 (.kind .i64) (.cell 5 (.var 1) (.var 100)), .op1 (.kind .i64) (.cell 6 (.var 1) (.var 100)), .op1 (.kind .i64) (.cell 7 (.var 1) (.var 100))])])]),
  ([(yPO_1, false), (yPO_0, true), (yPO_3, false)], some [(.again 0 [], [(.var 100, yPO_4)])]),
  ([(yPO_0, false), (yPO_3, false)], some [(.leave 0 [], [(.op2 .eq (.op1 .len yPO_2) (.num 0), .boo true)])])]
theorem lOf0_w (r : Rho) : lOf_D.ways lOf_run E0 r 0 lOf0_F lOf0_t = some lOf0_l := by kernel_rfl
noncomputable def lOf1_t : FTree := (.fork yPO_0 (.fork yPO_1 (.fork (.op2 .lt (.num 1000000000) (.op2 .add yPO_5 (.num 1))) .bad (.leaf [.again 1 [(110, 115)]])) (.leaf [.again 1 [(110, 110)]])) (.leaf [.leave 1 [(110, 110)]]))
noncomputable def lOf1_l : List (List (X × Bool) × Option (List (Tgt × Pairs))) := [([(.op2 .lt (.num 1000000000) (.op2 .add yPO_5 (.num 1)), true), (yPO_1, true), (yPO_0, true), (yPO_3, false)], none),
  ([(.op2 .lt (.num 1000000000) (.op2 .add yPO_5 (.num 1)), false), (yPO_1, true), (yPO_0, true), (yPO_3, false)], some [(.again 1 [(110, 115)], [(.var 100, yPO_4), (yPO_5, .op2 .add yPO_5 (.num 1)), (.var 101, .snoc (.var 101) [.op1 (.kind .i64) (.cell 0 (.var 1) (.var 100)), .op1 (.kind .i64) (.cell 1 (.var 1) (.var 100)), .op1 (.kind .u8) (.cell 2 (.var 1) (.var 100)), .op1 (.kind .i64) (.cell 3 (.var 1) (.var 100)), .op1 (.kind .i64) (.cell 4 (.var 1) (.var 100)), .op1 (.kind .i64) (.cell 5 (.var 1) (.var 100)), .op1 (.kind .i64) (.cell 6 (.var 1) (.var 100)), .op1 (.kind .i64) (.cell 7 (.var 1) (.var 100))])])]),
  ([(yPO_1, false), (yPO_0, true), (yPO_3, false)], some [(.again 1 [(110, 110)], [(.var 100, yPO_4), (yPO_5, yPO_5), (.var 101, .var 101)])]),
  ([(yPO_0, false), (yPO_3, false)], some [(.leave 1 [(110, 110)], [(.op1 .len yPO_2, yPO_5), (yPO_2, .var 101), (.op1 .not (.op2 .eq (.op1 .len yPO_2) (.num 0)), .boo true)])])]
theorem lOf1_w (r : Rho) : lOf_D.ways lOf_run E0 r 1 lOf1_F lOf1_t = some lOf1_l := by kernel_rfl
theorem lOf_ok : lOf_D.ok = true := by kernel_rfl
def lOf_Inv (l : List Ptg) (h : Int) (j : Nat) (vals : List Value) : Prop :=
  ∃ i : Nat, i ≤ l.length ∧ ((j = 0 ∧ vals = [.int .i64 i] ∧ ofP (l.take i) h = []) ∨ (j = 1 ∧ vals = [.int .i64 i, ptgsR (ofP (l.take i) h)] ∧ ofP (l.take i) h ≠ []))
def lOf_mu (l : List Ptg) (_ : Nat) (vals : List Value) : Nat := l.length - (vI (vals.getD 0 default)).toNat
set_option maxHeartbeats 1000000 in
theorem lOf_step0 {ρ : Rho} {l : List Ptg} {h : Int} {k3 : IntKind} (h1 : ρ.val 1 = some (ptgsR l)) (h3 : ρ.val 3 = some (.int k3 h)) (hsy : ρ.sym = sy) (hmax : (l.length : Int) ≤ 1010) {i : Nat} (hi : i ≤ l.length) (hn : ofP (l.take i) h = []) :
    StepOk lOf_D lOf_run E0 ρ (lOf_Inv l h) (lOf_mu l) 0 [.int .i64 i] := by
  have hN : lOf_D.N = 100 := rfl
  have v1 : (ρ.ext lOf_D.N [.int .i64 i]).val 1 = some (ptgsR l) := by rw [ext_low _ _ _ _ (by rw [hN]; omega)]; exact h1
  have v3 : (ρ.ext lOf_D.N [.int .i64 i]).val 3 = some (.int k3 h) := by rw [ext_low _ _ _ _ (by rw [hN]; omega)]; exact h3
  have v100 : (ρ.ext lOf_D.N [.int .i64 i]).val 100 = some (.int .i64 i) := by rw [ext_high _ _ _ _ (by rw [hN]; omega)]; rfl
  have vs : (ρ.ext lOf_D.N [.int .i64 i]).sym = sy := hsy
  have hF : FactsIn (ρ.ext lOf_D.N [.int .i64 i]) lOf0_F := by
    simp only [lOf0_F, FactsIn, X.bool, X.den, denL, dX, denSub, denIte, asB, dY, v100, Option.some.injEq, Value.bool.injEq, decide_eq_false_iff_not, and_true]
    omega
  suffices both : AsksL (ρ.ext lOf_D.N [.int .i64 i]) (lOf0_t.asks lOf0_F) ∧ WaysOk lOf_D ρ (lOf_Inv l h) (lOf_mu l) 0 [.int .i64 i] lOf0_l from step_of_ways (lOf0_w _) hF both.1.ok both.2
  have hlen := of_len (l.take i) h
  have hti : (l.take i).length = i := by simp; omega
  cases hp : l[i]? with
  | none =>
    have hge := List.getElem?_eq_none_iff.1 hp
    have hge' : ¬ (i : Int) < l.length := by omega
    have hl : l.take i = l := List.take_of_length_le hge
    refine ⟨?_, ?_⟩
    · simp only [lOf0_t, yPO_5, yPO_4, yPO_3, yPO_2, yPO_1, yPO_0, lOf0_F, AsksL, GTree.asks, FTree.asks, FactsIn, List.append_nil, List.nil_append, List.cons_append, Option.some.injEq, exists_eq', implies_true, and_self, X.bool, X.den, denL, dX, denSub, denIte, asB, dY, ptgs_snoc, ptgs_snoc0, snoc_nil, v1, v3, v100, vs, sym5, sym6, sym20, sym60, Int.toNat_natCast, hp, hge']
      try simp
    · simp only [lOf0_l, yPO_5, yPO_4, yPO_3, yPO_2, yPO_1, yPO_0, EndsOk, WaysOk, forall_cons, forall_nil, TgtOk, gpair, FactsIn, hold_cons, hold_nil, Option.some.injEq, dZ, X.bool, X.den, denL, dX, denSub, denIte, asB, dY, ptgs_snoc, ptgs_snoc0, snoc_nil, beq_iff_eq, beq_eq_false_iff_ne, ne_eq, v1, v3, v100, vs, h1, h3, hsy, sym5, sym6, sym20, sym60, Int.toNat_natCast, hp, hge']
      rw [hl] at hn
      simp [hl, hn]
  | some p =>
    have hlt : i < l.length := (List.getElem?_eq_some_iff.1 hp).1
    have hlt1 : (i : Int) < l.length := by omega
    have hw : IntKind.i64.wrap ((i : Int) + 1) = ((i + 1 : Nat) : Int) := by rw [IntWalk.i64_in _ (by omega)]; rfl
    have hnext : ofP (l.take (i + 1)) h = if p.parcel = h then ofP (l.take i) h ++ [p] else ofP (l.take i) h := by
      rw [List.take_add_one, hp]; exact of_snoc _ p h
    have goA : p.parcel = h → ∃ vals', ((ρ.ext lOf_D.N vals').val 100 = some (.int .i64 ((i + 1 : Nat) : Int)) ∧ (match (ρ.ext lOf_D.N vals').val 101 with | some v => den1 .len v | none => none) = some (.int .i64 (1 : Int)) ∧ (ρ.ext lOf_D.N vals').val 101 = some (ptgsR [p])) ∧ lOf_Inv l h 1 vals' ∧ lOf_mu l 1 vals' < lOf_mu l 0 [.int .i64 i] := by
        intro hc0
        have hc : p.parcel = h := hc0
        have e101 : (ρ.ext lOf_D.N [.int .i64 ((i + 1 : Nat) : Int), ptgsR (ofP (l.take (i + 1)) h)]).val 101 = some (ptgsR (ofP (l.take (i + 1)) h)) := by rw [ext_high _ _ _ _ (by rw [hN]; omega)]; rfl
        refine ⟨[.int .i64 ((i + 1 : Nat) : Int), ptgsR (ofP (l.take (i + 1)) h)], ⟨?_, ?_, ?_⟩, ⟨i + 1, by omega, .inr ⟨rfl, rfl, by rw [hnext]; simp [hc, hn]⟩⟩, by simp [lOf_mu, vI]; omega⟩
        · rw [ext_high _ _ _ _ (by rw [hN]; omega)]; rfl
        · rw [e101, hnext]
          refine (ptgs_len _).trans ?_
          simp [hc, hn]
        · rw [e101, hnext]; simp [hc, hn]
    have goK : ¬ p.parcel = h → ∃ vals', (ρ.ext lOf_D.N vals').val 100 = some (.int .i64 ((i + 1 : Nat) : Int)) ∧ lOf_Inv l h 0 vals' ∧ lOf_mu l 0 vals' < lOf_mu l 0 [.int .i64 i] := by
        intro hc0
        have hc : ¬ p.parcel = h := hc0
        refine ⟨[.int .i64 ((i + 1 : Nat) : Int)], ?_, ⟨i + 1, by omega, .inl ⟨rfl, rfl, by rw [hnext]; simp [hc, hn]⟩⟩, by simp [lOf_mu, vI]; omega⟩
        rw [ext_high _ _ _ _ (by rw [hN]; omega)]; rfl
    refine ⟨?_, ?_⟩
    · simp only [lOf0_t, yPO_5, yPO_4, yPO_3, yPO_2, yPO_1, yPO_0, lOf0_F, AsksL, GTree.asks, FTree.asks, FactsIn, List.append_nil, List.nil_append, List.cons_append, Option.some.injEq, exists_eq', implies_true, and_self, X.bool, X.den, denL, dX, denSub, denIte, asB, dY, ptgs_snoc, ptgs_snoc0, snoc_nil, v1, v3, v100, vs, sym5, sym6, sym20, sym60, Int.toNat_natCast, hp, Option.bind_some, ptg0, ptg1, ptg2, ptg3, ptg4, ptg5, ptg6, ptg7]
      try simp
      try omega
    · simp only [lOf0_l, yPO_5, yPO_4, yPO_3, yPO_2, yPO_1, yPO_0, EndsOk, WaysOk, forall_cons, forall_nil, TgtOk, gpair, FactsIn, hold_cons, hold_nil, Option.some.injEq, dZ, X.bool, X.den, denL, dX, denSub, denIte, asB, dY, ptgs_snoc, ptgs_snoc0, snoc_nil, beq_iff_eq, beq_eq_false_iff_ne, ne_eq, v1, v3, v100, vs, h1, h3, hsy, sym5, sym6, sym20, sym60, Int.toNat_natCast, hp, Option.bind_some, ptg0, ptg1, ptg2, ptg3, ptg4, ptg5, ptg6, ptg7, hlt1, hw]
      clear v1 v3 v100 vs h1 h3 hsy hp hF hnext
      (repeat' apply And.intro) <;> intros <;> first
        | trivial
        | (exfalso; omega)
        | (exact goA (by assumption))
        | (exact goK (by assumption))
set_option maxHeartbeats 1000000 in
theorem lOf_step1 {ρ : Rho} {l : List Ptg} {h : Int} {k3 : IntKind} (h1 : ρ.val 1 = some (ptgsR l)) (h3 : ρ.val 3 = some (.int k3 h)) (hsy : ρ.sym = sy) (hmax : (l.length : Int) ≤ 1010) {i : Nat} (hi : i ≤ l.length) (hn : ofP (l.take i) h ≠ []) :
    StepOk lOf_D lOf_run E0 ρ (lOf_Inv l h) (lOf_mu l) 1 [.int .i64 i, ptgsR (ofP (l.take i) h)] := by
  have hN : lOf_D.N = 100 := rfl
  have v1 : (ρ.ext lOf_D.N [.int .i64 i, ptgsR (ofP (l.take i) h)]).val 1 = some (ptgsR l) := by rw [ext_low _ _ _ _ (by rw [hN]; omega)]; exact h1
  have v3 : (ρ.ext lOf_D.N [.int .i64 i, ptgsR (ofP (l.take i) h)]).val 3 = some (.int k3 h) := by rw [ext_low _ _ _ _ (by rw [hN]; omega)]; exact h3
  have v100 : (ρ.ext lOf_D.N [.int .i64 i, ptgsR (ofP (l.take i) h)]).val 100 = some (.int .i64 i) := by rw [ext_high _ _ _ _ (by rw [hN]; omega)]; rfl
  have v101 : (ρ.ext lOf_D.N [.int .i64 i, ptgsR (ofP (l.take i) h)]).val 101 = some (ptgsR (ofP (l.take i) h)) := by rw [ext_high _ _ _ _ (by rw [hN]; omega)]; rfl
  have vs : (ρ.ext lOf_D.N [.int .i64 i, ptgsR (ofP (l.take i) h)]).sym = sy := hsy
  have hF : FactsIn (ρ.ext lOf_D.N [.int .i64 i, ptgsR (ofP (l.take i) h)]) lOf1_F := by
    simp only [lOf1_F, FactsIn, X.bool, X.den, denL, dX, denSub, denIte, asB, dY, v100, Option.some.injEq, Value.bool.injEq, decide_eq_false_iff_not, and_true]
    omega
  suffices both : AsksL (ρ.ext lOf_D.N [.int .i64 i, ptgsR (ofP (l.take i) h)]) (lOf1_t.asks lOf1_F) ∧ WaysOk lOf_D ρ (lOf_Inv l h) (lOf_mu l) 1 [.int .i64 i, ptgsR (ofP (l.take i) h)] lOf1_l from step_of_ways (lOf1_w _) hF both.1.ok both.2
  have hlen := of_len (l.take i) h
  have hti : (l.take i).length = i := by simp; omega
  cases hp : l[i]? with
  | none =>
    have hge := List.getElem?_eq_none_iff.1 hp
    have hge' : ¬ (i : Int) < l.length := by omega
    have hl : l.take i = l := List.take_of_length_le hge
    refine ⟨?_, ?_⟩
    · simp only [lOf1_t, yPO_5, yPO_4, yPO_3, yPO_2, yPO_1, yPO_0, lOf1_F, AsksL, GTree.asks, FTree.asks, FactsIn, List.append_nil, List.nil_append, List.cons_append, Option.some.injEq, exists_eq', implies_true, and_self, X.bool, X.den, denL, dX, denSub, denIte, asB, dY, ptgs_snoc, ptgs_snoc0, snoc_nil, v1, v3, v100, v101, vs, sym5, sym6, sym20, sym60, Int.toNat_natCast, hp, hge']
      try simp
    · simp only [lOf1_l, yPO_5, yPO_4, yPO_3, yPO_2, yPO_1, yPO_0, EndsOk, WaysOk, forall_cons, forall_nil, TgtOk, gpair, FactsIn, hold_cons, hold_nil, Option.some.injEq, dZ, X.bool, X.den, denL, dX, denSub, denIte, asB, dY, ptgs_snoc, ptgs_snoc0, snoc_nil, beq_iff_eq, beq_eq_false_iff_ne, ne_eq, v1, v3, v100, v101, vs, h1, h3, hsy, sym5, sym6, sym20, sym60, Int.toNat_natCast, hp, hge']
      rw [hl] at hn
      simp [hl, hn]
  | some p =>
    have hlt : i < l.length := (List.getElem?_eq_some_iff.1 hp).1
    have hlt1 : (i : Int) < l.length := by omega
    have hw : IntKind.i64.wrap ((i : Int) + 1) = ((i + 1 : Nat) : Int) := by rw [IntWalk.i64_in _ (by omega)]; rfl
    have hnext : ofP (l.take (i + 1)) h = if p.parcel = h then ofP (l.take i) h ++ [p] else ofP (l.take i) h := by
      rw [List.take_add_one, hp]; exact of_snoc _ p h
    have goA : p.parcel = h → ∃ vals', ((ρ.ext lOf_D.N vals').val 100 = some (.int .i64 ((i + 1 : Nat) : Int)) ∧ (match (ρ.ext lOf_D.N vals').val 101 with | some v => den1 .len v | none => none) = some (.int .i64 (((ofP (l.take i) h).length + 1) : Int)) ∧ (ρ.ext lOf_D.N vals').val 101 = some (ptgsR (ofP (l.take i) h ++ [p]))) ∧ lOf_Inv l h 1 vals' ∧ lOf_mu l 1 vals' < lOf_mu l 1 [.int .i64 i, ptgsR (ofP (l.take i) h)] := by
        intro hc0
        have hc : p.parcel = h := hc0
        have e101 : (ρ.ext lOf_D.N [.int .i64 ((i + 1 : Nat) : Int), ptgsR (ofP (l.take (i + 1)) h)]).val 101 = some (ptgsR (ofP (l.take (i + 1)) h)) := by rw [ext_high _ _ _ _ (by rw [hN]; omega)]; rfl
        refine ⟨[.int .i64 ((i + 1 : Nat) : Int), ptgsR (ofP (l.take (i + 1)) h)], ⟨?_, ?_, ?_⟩, ⟨i + 1, by omega, .inr ⟨rfl, rfl, by rw [hnext]; simp [hc, hn]⟩⟩, by simp [lOf_mu, vI]; omega⟩
        · rw [ext_high _ _ _ _ (by rw [hN]; omega)]; rfl
        · rw [e101, hnext]
          refine (ptgs_len _).trans ?_
          simp [hc, hn]
        · rw [e101, hnext]; simp [hc, hn]
    have goK : ¬ p.parcel = h → ∃ vals', ((ρ.ext lOf_D.N vals').val 100 = some (.int .i64 ((i + 1 : Nat) : Int)) ∧ (match (ρ.ext lOf_D.N vals').val 101 with | some v => den1 .len v | none => none) = some (.int .i64 ((ofP (l.take i) h).length : Int)) ∧ (ρ.ext lOf_D.N vals').val 101 = some (ptgsR (ofP (l.take i) h))) ∧ lOf_Inv l h 1 vals' ∧ lOf_mu l 1 vals' < lOf_mu l 1 [.int .i64 i, ptgsR (ofP (l.take i) h)] := by
        intro hc0
        have hc : ¬ p.parcel = h := hc0
        have e101 : (ρ.ext lOf_D.N [.int .i64 ((i + 1 : Nat) : Int), ptgsR (ofP (l.take (i + 1)) h)]).val 101 = some (ptgsR (ofP (l.take (i + 1)) h)) := by rw [ext_high _ _ _ _ (by rw [hN]; omega)]; rfl
        refine ⟨[.int .i64 ((i + 1 : Nat) : Int), ptgsR (ofP (l.take (i + 1)) h)], ⟨?_, ?_, ?_⟩, ⟨i + 1, by omega, .inr ⟨rfl, rfl, by rw [hnext]; simp [hc, hn]⟩⟩, by simp [lOf_mu, vI]; omega⟩
        · rw [ext_high _ _ _ _ (by rw [hN]; omega)]; rfl
        · rw [e101, hnext]
          refine (ptgs_len _).trans ?_
          simp [hc, hn]
        · rw [e101, hnext]; simp [hc, hn]
    refine ⟨?_, ?_⟩
    · simp only [lOf1_t, yPO_5, yPO_4, yPO_3, yPO_2, yPO_1, yPO_0, lOf1_F, AsksL, GTree.asks, FTree.asks, FactsIn, List.append_nil, List.nil_append, List.cons_append, Option.some.injEq, exists_eq', implies_true, and_self, X.bool, X.den, denL, dX, denSub, denIte, asB, dY, ptgs_snoc, ptgs_snoc0, snoc_nil, v1, v3, v100, v101, vs, sym5, sym6, sym20, sym60, Int.toNat_natCast, hp, Option.bind_some, ptg0, ptg1, ptg2, ptg3, ptg4, ptg5, ptg6, ptg7]
      try simp
      try omega
    · simp only [lOf1_l, yPO_5, yPO_4, yPO_3, yPO_2, yPO_1, yPO_0, EndsOk, WaysOk, forall_cons, forall_nil, TgtOk, gpair, FactsIn, hold_cons, hold_nil, Option.some.injEq, dZ, X.bool, X.den, denL, dX, denSub, denIte, asB, dY, ptgs_snoc, ptgs_snoc0, snoc_nil, beq_iff_eq, beq_eq_false_iff_ne, ne_eq, v1, v3, v100, v101, vs, h1, h3, hsy, sym5, sym6, sym20, sym60, Int.toNat_natCast, hp, Option.bind_some, ptg0, ptg1, ptg2, ptg3, ptg4, ptg5, ptg6, ptg7, hlt1, hw]
      clear v1 v3 v100 v101 vs h1 h3 hsy hp hF hnext
      (repeat' apply And.intro) <;> intros <;> first
        | trivial
        | (exfalso; omega)
        | (exact goA (by assumption))
        | (exact goK (by assumption))
theorem lOf_step {ρ : Rho} {l : List Ptg} {h : Int} {k3 : IntKind} (h1 : ρ.val 1 = some (ptgsR l)) (h3 : ρ.val 3 = some (.int k3 h)) (hsy : ρ.sym = sy) (hmax : (l.length : Int) ≤ 1010) (j : Nat) (vals : List Value) (hI : lOf_Inv l h j vals) :
    StepOk lOf_D lOf_run E0 ρ (lOf_Inv l h) (lOf_mu l) j vals := by
  obtain ⟨i, hi, ⟨rfl, rfl, hn⟩ | ⟨rfl, rfl, hn⟩⟩ := hI
  · exact lOf_step0 h1 h3 hsy hmax hi hn
  · exact lOf_step1 h1 h3 hsy hmax hi hn
noncomputable def cOfN_con : Con := { f := 16, args := [ptgsArg 0 0, .one (.int .i64 3)], N := 1, M := 1, pre := [(.app 20 [.var 1], true), (.op2 .eq (.app 6 [.var 1]) (.num 0), true), (.op2 .eq (.op1 .len (.app 60 [.var 1, .var 3])) (.num 0), true)], out := .nilslice, news := [] }
noncomputable def cOfN_call : Env → CallL := fun E => acallAll E (evH E (L8o E) ((fun E => oneH 62 (hooks [(3, lOf_D.hook E.facts of_vs)])) E) 10)
noncomputable def cOfN_t : GTree := (.leaf [[]])
noncomputable def cOfN_l : List (List (X × Bool) × Option Pairs) := [([(.app 20 [.var 1], true), (.op2 .eq (.app 6 [.var 1]) (.num 0), true), (.op2 .eq (.op1 .len yPO_2) (.num 0), true)], some [])]
theorem cOfN_w (r : Rho) : cOfN_con.fn.ways cOfN_call E0 r cOfN_con.pre cOfN_t = some cOfN_l := by kernel_rfl
theorem lOf_H {r : Rho} {l : List Ptg} {h : Int} {k3 : IntKind} (h1 : r.val 1 = some (ptgsR l)) (h3 : r.val 3 = some (.int k3 h)) (hmax : (l.length : Int) ≤ 1010) (hsy : r.sym = sy) (F : List (X × Bool)) :
    LoopsOk (E0.with F r) (oneH 62 (hooks [(3, lOf_D.hook (E0.with F r).facts of_vs)])) := by
  refine loops_all (n := 1) (fun f fn h => h) (by kernel_rfl) fun i hi => ?_
  obtain rfl : i = 0 := by omega
  rw [hooks_hit (show keyOf (loopAt (E0.with F r).P 62 0) = 3 by kernel_rfl)]
  refine hook_ok (E₀ := E0) (run := lOf_run) (ρ := r) (Inv := lOf_Inv l h) (μ := lOf_mu l) E0_ok lOf_ok (fun F r' h => ?_) (fun _ => ⟨lOf_step h1 h3 hsy hmax, [.int .i64 0], ?_, 0, Nat.zero_le _, .inl ⟨rfl, rfl, rfl⟩⟩)
  · exact bodyRun_ok E0_ok (L8o_ok F (h.trans hsy)) fun _ _ => noLoop_ok
  · simp only [of_vs, X.bool, X.den, denL, dX, denSub, denIte, asB, dY]
theorem cOfN_cok : cOfN_con.Ok Tryz.prog sy := by
  intro r σ w us hsy hρ hpre hrel hins
  obtain ⟨u0, us, rfl, g0, hi⟩ := ins_cons hins
  obtain ⟨u1, us, rfl, g1, hi⟩ := ins_cons hi
  obtain ⟨h, k3, rfl, h3⟩ := one_int g1
  obtain ⟨l, h1⟩ := ptgs_at hrel (i := 0) rfl
  rw [hρ] at h1 h3
  have h1 : r.val 1 = some (ptgsR l) := h1
  have hmax : (l.length : Int) ≤ 1010 := by
    have := hpre.1
    simp only [X.bool, X.den, denL, dX, denSub, denIte, asB, dY, h1, hsy, sym20, Option.some.injEq, Value.bool.injEq] at this
    exact short_len this
  refine con_of (E := E0) E0_ok E0_glob (sy := sy) (fun F => L8o_ok F hsy) (fun F => lOf_H h1 h3 hmax hsy F) (cOfN_w r) hρ hpre hrel hins ?_ ?_
  · simp only [cOfN_con, cOfN_t, yPO_5, yPO_4, yPO_3, yPO_2, yPO_1, yPO_0, AsksL, GTree.asks, FTree.asks, FactsIn, List.append_nil, List.nil_append, List.cons_append, Option.some.injEq, exists_eq', implies_true, and_self, X.bool, X.den, denL, dX, denSub, denIte, asB, dY, h1, h3, hsy, sym5, sym6, sym20, sym60]
    try simp
  · simp only [cOfN_l, yPO_5, yPO_4, yPO_3, yPO_2, yPO_1, yPO_0, EndsOk, WaysOk, forall_cons, forall_nil, TgtOk, gpair, FactsIn, hold_cons, hold_nil, Option.some.injEq, dZ, X.bool, X.den, denL, dX, denSub, denIte, asB, dY, h1, h3, hsy, sym5, sym6, sym20, sym60]
    try simp
noncomputable def cOfY_con : Con := { f := 16, args := [ptgsArg 0 0, .one (.int .i64 3)], N := 1, M := 2, pre := [(.app 20 [.var 1], true), (.op2 .eq (.app 6 [.var 1]) (.num 0), true), (.op2 .eq (.op1 .len (.app 60 [.var 1, .var 3])) (.num 0), false)], out := .slo 1 8 (.op1 .len (.app 60 [.var 1, .var 3])), news := [(1, .rows 8 ptgSch (.num 0) (.app 60 [.var 1, .var 3]) true 36)] }
noncomputable def cOfY_call : Env → CallL := fun E => acallAll E (evH E (L8o E) ((fun E => oneH 62 (hooks [(3, lOf_D.hook E.facts of_vs)])) E) 10)
noncomputable def cOfY_t : GTree := (.leaf [[(1, 110)]])
noncomputable def cOfY_l : List (List (X × Bool) × Option Pairs) := [([(.app 20 [.var 1], true), (.op2 .eq (.app 6 [.var 1]) (.num 0), true), (.op2 .eq (.op1 .len yPO_2) (.num 0), false)], some [(.op1 .len yPO_2, .op1 .len yPO_2), (yPO_2, yPO_2)])]
theorem cOfY_w (r : Rho) : cOfY_con.fn.ways cOfY_call E0 r cOfY_con.pre cOfY_t = some cOfY_l := by kernel_rfl
theorem cOfY_cok : cOfY_con.Ok Tryz.prog sy := by
  intro r σ w us hsy hρ hpre hrel hins
  obtain ⟨u0, us, rfl, g0, hi⟩ := ins_cons hins
  obtain ⟨u1, us, rfl, g1, hi⟩ := ins_cons hi
  obtain ⟨h, k3, rfl, h3⟩ := one_int g1
  obtain ⟨l, h1⟩ := ptgs_at hrel (i := 0) rfl
  rw [hρ] at h1 h3
  have h1 : r.val 1 = some (ptgsR l) := h1
  have hmax : (l.length : Int) ≤ 1010 := by
    have := hpre.1
    simp only [X.bool, X.den, denL, dX, denSub, denIte, asB, dY, h1, hsy, sym20, Option.some.injEq, Value.bool.injEq] at this
    exact short_len this
  refine con_of (E := E0) E0_ok E0_glob (sy := sy) (fun F => L8o_ok F hsy) (fun F => lOf_H h1 h3 hmax hsy F) (cOfY_w r) hρ hpre hrel hins ?_ ?_
  · simp only [cOfY_con, cOfY_t, yPO_5, yPO_4, yPO_3, yPO_2, yPO_1, yPO_0, AsksL, GTree.asks, FTree.asks, FactsIn, List.append_nil, List.nil_append, List.cons_append, Option.some.injEq, exists_eq', implies_true, and_self, X.bool, X.den, denL, dX, denSub, denIte, asB, dY, h1, h3, hsy, sym5, sym6, sym20, sym60]
    try simp
  · simp only [cOfY_l, yPO_5, yPO_4, yPO_3, yPO_2, yPO_1, yPO_0, EndsOk, WaysOk, forall_cons, forall_nil, TgtOk, gpair, FactsIn, hold_cons, hold_nil, Option.some.injEq, dZ, X.bool, X.den, denL, dX, denSub, denIte, asB, dY, h1, h3, hsy, sym5, sym6, sym20, sym60]
    try simp
noncomputable def cUpE_con : Con := { f := 14, args := [ptgsArg 0 0, .one (.int .i64 3)], N := 1, M := 1, pre := [(.app 20 [.var 1], true), (.op2 .eq (.app 6 [.var 1]) (.num 0), false)], out := .nilslice, news := [] }
noncomputable def cUpE_call : Env → CallL := fun E => acallAll E (evH E (L8o E) ((fun _ => noLoops) E) 10)
noncomputable def cUpE_t : GTree := (.leaf [[]])
noncomputable def cUpE_l : List (List (X × Bool) × Option Pairs) := [([(.app 20 [.var 1], true), (.op2 .eq (.app 6 [.var 1]) (.num 0), false)], some [])]
theorem cUpE_w (r : Rho) : cUpE_con.fn.ways cUpE_call E0 r cUpE_con.pre cUpE_t = some cUpE_l := by kernel_rfl
theorem cUpE_cok : cUpE_con.Ok Tryz.prog sy := by
  intro r σ w us hsy hρ hpre hrel hins
  obtain ⟨u0, us, rfl, g0, hi⟩ := ins_cons hins
  obtain ⟨u1, us, rfl, g1, hi⟩ := ins_cons hi
  obtain ⟨h, k3, rfl, h3⟩ := one_int g1
  obtain ⟨l, h1⟩ := ptgs_at hrel (i := 0) rfl
  rw [hρ] at h1 h3
  have h1 : r.val 1 = some (ptgsR l) := h1
  have hmax : (l.length : Int) ≤ 1010 := by
    have := hpre.1
    simp only [X.bool, X.den, denL, dX, denSub, denIte, asB, dY, h1, hsy, sym20, Option.some.injEq, Value.bool.injEq] at this
    exact short_len this
  refine con_of (E := E0) E0_ok E0_glob (sy := sy) (fun F => L8o_ok F hsy) (fun F => noH_ok) (cUpE_w r) hρ hpre hrel hins ?_ ?_
  · simp only [cUpE_con, cUpE_t, yPO_5, yPO_4, yPO_3, yPO_2, yPO_1, yPO_0, AsksL, GTree.asks, FTree.asks, FactsIn, List.append_nil, List.nil_append, List.cons_append, Option.some.injEq, exists_eq', implies_true, and_self, X.bool, X.den, denL, dX, denSub, denIte, asB, dY, h1, h3, hsy, sym5, sym6, sym20, sym60]
    try simp
  · simp only [cUpE_l, yPO_5, yPO_4, yPO_3, yPO_2, yPO_1, yPO_0, EndsOk, WaysOk, forall_cons, forall_nil, TgtOk, gpair, FactsIn, hold_cons, hold_nil, Option.some.injEq, dZ, X.bool, X.den, denL, dX, denSub, denIte, asB, dY, h1, h3, hsy, sym5, sym6, sym20, sym60]
    try simp
noncomputable def cOfE_con : Con := { f := 16, args := [ptgsArg 0 0, .one (.int .i64 3)], N := 1, M := 1, pre := [(.app 20 [.var 1], true), (.op2 .eq (.app 6 [.var 1]) (.num 0), false)], out := .nilslice, news := [] }
noncomputable def cOfE_call : Env → CallL := fun E => acallAll E (evH E (L8o E) ((fun _ => noLoops) E) 10)
noncomputable def cOfE_t : GTree := (.leaf [[]])
noncomputable def cOfE_l : List (List (X × Bool) × Option Pairs) := [([(.app 20 [.var 1], true), (.op2 .eq (.app 6 [.var 1]) (.num 0), false)], some [])]
theorem cOfE_w (r : Rho) : cOfE_con.fn.ways cOfE_call E0 r cOfE_con.pre cOfE_t = some cOfE_l := by kernel_rfl
theorem cOfE_cok : cOfE_con.Ok Tryz.prog sy := by
  intro r σ w us hsy hρ hpre hrel hins
  obtain ⟨u0, us, rfl, g0, hi⟩ := ins_cons hins
  obtain ⟨u1, us, rfl, g1, hi⟩ := ins_cons hi
  obtain ⟨h, k3, rfl, h3⟩ := one_int g1
  obtain ⟨l, h1⟩ := ptgs_at hrel (i := 0) rfl
  rw [hρ] at h1 h3
  have h1 : r.val 1 = some (ptgsR l) := h1
  have hmax : (l.length : Int) ≤ 1010 := by
    have := hpre.1
    simp only [X.bool, X.den, denL, dX, denSub, denIte, asB, dY, h1, hsy, sym20, Option.some.injEq, Value.bool.injEq] at this
    exact short_len this
  refine con_of (E := E0) E0_ok E0_glob (sy := sy) (fun F => L8o_ok F hsy) (fun F => noH_ok) (cOfE_w r) hρ hpre hrel hins ?_ ?_
  · simp only [cOfE_con, cOfE_t, yPO_5, yPO_4, yPO_3, yPO_2, yPO_1, yPO_0, AsksL, GTree.asks, FTree.asks, FactsIn, List.append_nil, List.nil_append, List.cons_append, Option.some.injEq, exists_eq', implies_true, and_self, X.bool, X.den, denL, dX, denSub, denIte, asB, dY, h1, h3, hsy, sym5, sym6, sym20, sym60]
    try simp
  · simp only [cOfE_l, yPO_5, yPO_4, yPO_3, yPO_2, yPO_1, yPO_0, EndsOk, WaysOk, forall_cons, forall_nil, TgtOk, gpair, FactsIn, hold_cons, hold_nil, Option.some.injEq, dZ, X.bool, X.den, denL, dX, denSub, denIte, asB, dY, h1, h3, hsy, sym5, sym6, sym20, sym60]
    try simp
end Go.Proofs.YtpdemfamfmeemacGreat.Zs
