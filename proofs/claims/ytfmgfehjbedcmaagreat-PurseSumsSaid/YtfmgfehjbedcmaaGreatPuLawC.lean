/-
  The law PurseSums.
-/
import Derived.Test.YtfmgfehjbedcmaaGreatPuDataK
import Derived.Test.YtfmgfehjbedcmaaGreatPuConZ
import Derived.Test.YtfmgfehjbedcmaaGreatPuConU
import Derived.Test.YtfmgfehjbedcmaaGreatPuConV
import Derived.Test.YtfmgfehjbedcmaaGreatPuRunZ
import Derived.KernelRfl
set_option linter.unusedSimpArgs false
set_option linter.unusedVariables false
namespace Go.Proofs.YtfmgfehjbedcmaaGreat.Zs
open Go
set_option linter.unusedSimpArgs false
set_option linter.unusedVariables false

def kqw (k : IntKind) : Nat → IntKind
  | 0 => k
  | _ + 1 => .i64
theorem mem_only {α : Type} {P : α → Prop} {a : α} (h : P a) : ∀ b ∈ [a], P b := fun b hb => by rw [List.mem_singleton.1 hb]; exact h
theorem iR_cell (l : List Int) (k : IntKind) (i : Int) : denCell 0 (rowsV (intRows l)) (.int k i) = (l[i.toNat]?).bind fun n => some (.int .i64 n) := zs_cell l k i
theorem iR_len (l : List Int) : (intRows l).length = l.length := by simp [intRows]
theorem party_le {w : Nat} (h : w ≤ 40) : partyB (w : Int) = true := by
  simp only [partyB, withinB, Bool.or_eq_true, Bool.and_eq_true, decide_eq_true_eq]
  omega
theorem sum_take {f : Int → Int} {l : List Int} {i : Nat} {c : Int} (h : l[i]? = some c) : ((l.take (i + 1)).map f).sum = ((l.take i).map f).sum + f c := by
  rw [List.take_add_one, h]
  simp
/-- The book of an hour. -/
structure NowK (l : List Ptg) (h : Int) : Prop where
  chk : (checkP (hourP l h)).2 = 0
  sh : shortB (hourP l h) = true
  up : uptoP (hourP l h) = hourP l h
  bk : BookK (hourP l h)
theorem NowK.fAll {l : List Ptg} {h : Int} (k : NowK l h) {c : Int} (hc : c ∈ soldK (hourP l h)) : soldW (hourP l h) c ≤ 1000000000 ∧ heldW (hourP l h) c = heldZ (hourP l h) c ∧ 0 ≤ heldZ (hourP l h) c ∧ 0 ≤ sumH (hourP l h) c 41 :=
  ⟨k.bk.good.soldB c, k.bk.good.heldW c, k.bk.good.heldN c, sumH_nonneg (fun w => k.bk.good.hasN w c) 41⟩

structure Asc (pre : List Ptg) : Prop where
  pw : pre.Pairwise fun p q => p.hour ≤ q.hour
  top : ∀ q ∈ pre, q.hour ≤ lastH pre
theorem Asc.snoc {pre : List Ptg} {p : Ptg} (h : Asc pre) (hr : refusedP pre p = 0) : Asc (pre ++ [p]) := by
  have hh := (accepted hr).hour
  refine ⟨List.pairwise_append.2 ⟨h.pw, List.pairwise_singleton _ _, fun a ha b hb => ?_⟩, fun q hq => ?_⟩
  · rw [List.mem_singleton.1 hb]
    exact Int.le_trans (h.top a ha) hh
  · rw [lastH_snoc]
    rcases List.mem_append.1 hq with hq | hq
    · exact Int.le_trans (h.top q hq) hh
    · rw [List.mem_singleton.1 hq]; exact Int.le_refl _
theorem chk_asc : ∀ (l pre : List Ptg), Asc pre → (chkP pre l).2 = 0 → Asc (pre ++ l)
  | [], pre, h, _ => by rwa [List.append_nil]
  | p :: r, pre, h, hc => by
    by_cases e : refusedP pre p = 0
    · simp only [chkP, if_pos e] at hc
      have := chk_asc r (pre ++ [p]) (h.snoc e) hc
      rwa [List.append_assoc] at this
    · simp only [chkP, if_neg e] at hc
      exact absurd hc e
theorem hour_part (h : Int) : ∀ l : List Ptg, (l.Pairwise fun p q => p.hour ≤ q.hour) → l.take (hourP l h).length = hourP l h ∧ ∀ p, l[(hourP l h).length]? = some p → h < p.hour
  | [], _ => ⟨rfl, fun p hp => by cases hp⟩
  | q :: r, hw => by
    obtain ⟨h1, h2⟩ := List.pairwise_cons.1 hw
    obtain ⟨i1, i2⟩ := hour_part h r h2
    by_cases c : q.hour ≤ h
    · have e : hourP (q :: r) h = q :: hourP r h := by simp [hourP, c]
      rw [e, List.length_cons, List.take_succ_cons, i1]
      refine ⟨rfl, fun p hp => i2 p ?_⟩
      simpa using hp
    · have e : hourP (q :: r) h = [] := by
        unfold hourP
        rw [List.filter_eq_nil_iff]
        intro a ha
        simp only [decide_eq_true_eq]
        rcases List.mem_cons.1 ha with rfl | ha
        · exact c
        · have := h1 a ha; omega
      rw [e]
      refine ⟨rfl, fun p hp => ?_⟩
      simp only [List.length_nil, List.getElem?_cons_zero, Option.some.injEq] at hp
      subst hp
      omega
theorem check_hours {l : List Ptg} (h0 : (checkP l).2 = 0) (h : Int) : l.take (hourP l h).length = hourP l h ∧ ∀ p, l[(hourP l h).length]? = some p → h < p.hour :=
  hour_part h l (chk_asc l [] ⟨.nil, fun q hq => by cases hq⟩ h0).pw

noncomputable def LM : Env → CallE := libs [cLib cChk_con, cLib cUpN_con, cLib cUpY_con, cLib cParN_con, cLib cParY_con, cLib cSold_con, cLib cHeldOf_con, cLib cHas_con, cLib cHeldA_con, fun _ => aliveL]
theorem LM_ok (F : List (X × Bool)) {r : Rho} (h : r.sym = sy) : CallsOk (E1.with F r) (LM (E1.with F r)) := libs_ok fun c hc => by
  simp only [List.mem_cons, List.not_mem_nil, or_false] at hc
  rcases hc with rfl | rfl | rfl | rfl | rfl | rfl | rfl | rfl | rfl | rfl
  · exact lib_ok (E := E1) cChk_cok F h
  · exact lib_ok (E := E1) cUpN_cok F h
  · exact lib_ok (E := E1) cUpY_cok F h
  · exact lib_ok (E := E1) cParN_cok F h
  · exact lib_ok (E := E1) cParY_cok F h
  · exact lib_ok (E := E1) cSold_cok F h
  · exact lib_ok (E := E1) cHeldOf_cok F h
  · exact lib_ok (E := E1) cHas_cok F h
  · exact lib_ok (E := E1) cHeldA_cok F h
  · exact alive_ok F r

def in_vs : List X := [.num 0, .app 42 [.app 58 [.var 1, .var 3], (.cell 0 (.app 37 [.app 51 [.app 58 [.var 1, .var 3]]]) (.var 200))], .var 202]
def out_vs : List X := [.num 0, .num 0, .num 0]

noncomputable def lIn_D : LoopD := { N := 300, M := 303, size := sizeOfF 7, reads := [(100, .rows 8 ptgSch (.num 0) (.app 58 [.var 1, .var 3]) true 36), (101, .rows 1 [.int .i64] (.num 0) (.app 37 [.app 51 [.app 58 [.var 1, .var 3]]]) true 3)], pats := [{ slots := [(5, .slo 100 8 (.op1 .len (.app 58 [.var 1, .var 3]))), (8, .slo 101 1 (.op1 .len (.app 51 [.app 58 [.var 1, .var 3]]))), (6, .sint .i64 (.var 201)), (9, .sint .i64 (.var 200)), (10, .sint .i64 (.app 41 [.app 58 [.var 1, .var 3], (.cell 0 (.app 37 [.app 51 [.app 58 [.var 1, .var 3]]]) (.var 200))])), (7, .sint .i64 (.var 302)), (14, .sint .i64 (.var 301)), (15, .sint .i64 (.var 300))], heap := [] }], exits := [(.exit 2, { slots := [(5, .slo 100 8 (.op1 .len (.app 58 [.var 1, .var 3]))), (8, .slo 101 1 (.op1 .len (.app 51 [.app 58 [.var 1, .var 3]]))), (6, .sint .i64 (.var 201)), (9, .sint .i64 (.var 200)), (10, .sint .i64 (.app 41 [.app 58 [.var 1, .var 3], (.cell 0 (.app 37 [.app 51 [.app 58 [.var 1, .var 3]]]) (.var 200))])), (7, .sint .i64 (.op1 (.wrap .i64) (.op2 .add (.var 202) (.app 39 [.app 58 [.var 1, .var 3], (.cell 0 (.app 37 [.app 51 [.app 58 [.var 1, .var 3]]]) (.var 200))])))), (14, .sint .i64 (.app 41 [.app 58 [.var 1, .var 3], (.cell 0 (.app 37 [.app 51 [.app 58 [.var 1, .var 3]]]) (.var 200))]))], heap := [] })], own := [], pre := [(.op2 .lt (.var 202) (.num 0), false), (.op2 .lt (.num 1000000000000000) (.var 202), false), (.app 20 [.app 58 [.var 1, .var 3]], true), (.op2 .eq (.app 6 [.app 58 [.var 1, .var 3]]) (.num 0), true), (.app 10 [(.cell 0 (.app 37 [.app 51 [.app 58 [.var 1, .var 3]]]) (.var 200)), .num 10, .num 10000007], true), (.op2 .lt (.var 200) (.num 0), false), (.op2 .lt (.var 200) (.op1 .len (.app 51 [.app 58 [.var 1, .var 3]])), true), (.op2 .lt (.var 200) (.op1 .len (.app 37 [.app 51 [.app 58 [.var 1, .var 3]]])), true)] }
noncomputable def lIn_run : Env → AF → ASt → Option (List Out) := bodyRun LM 9 (fun _ => noLoop) (loopAt Tryz.prog 7 1)
def lIn0_F : List (X × Bool) := [(.op2 .lt (.var 202) (.num 0), false), (.op2 .lt (.num 1000000000000000) (.var 202), false), (.app 20 [.app 58 [.var 1, .var 3]], true), (.op2 .eq (.app 6 [.app 58 [.var 1, .var 3]]) (.num 0), true), (.app 10 [(.cell 0 (.app 37 [.app 51 [.app 58 [.var 1, .var 3]]]) (.var 200)), .num 10, .num 10000007], true), (.op2 .lt (.var 200) (.num 0), false), (.op2 .lt (.var 200) (.op1 .len (.app 51 [.app 58 [.var 1, .var 3]])), true), (.op2 .lt (.var 200) (.op1 .len (.app 37 [.app 51 [.app 58 [.var 1, .var 3]]])), true), (.op2 .lt (.var 300) (.num 0), false)]
noncomputable def lIn0_t : FTree := (.fork (.op2 .lt (.num 40) (.var 300)) (.leaf [(.leave 0 [])]) (.fork (.app 31 [(.var 300)]) (.fork (.op2 .lt (.app 40 [(.app 58 [(.var 1), (.var 3)]), (.var 300), (.cell 0 (.app 37 [(.app 51 [(.app 58 [(.var 1), (.var 3)])])]) (.var 200))]) (.num 0)) .bad (.leaf [(.again 0 [])])) .bad))
noncomputable def lIn0_l : List (List (X × Bool) × Option (List (Tgt × Pairs))) := [([((.op2 .lt (.num 40) (.var 300)), true), ((.op2 .lt (.var 202) (.num 0)), false), ((.op2 .lt (.num 1000000000000000) (.var 202)), false), ((.app 20 [(.app 58 [(.var 1), (.var 3)])]), true), ((.op2 .eq (.app 6 [(.app 58 [(.var 1), (.var 3)])]) (.num 0)), true), ((.app 10 [(.cell 0 (.app 37 [(.app 51 [(.app 58 [(.var 1), (.var 3)])])]) (.var 200)), (.num 10), (.num 10000007)]), true), ((.op2 .lt (.var 200) (.num 0)), false), ((.op2 .lt (.var 200) (.op1 .len (.app 51 [(.app 58 [(.var 1), (.var 3)])]))), true), ((.op2 .lt (.var 200) (.op1 .len (.app 37 [(.app 51 [(.app 58 [(.var 1), (.var 3)])])]))), true), ((.op2 .lt (.var 300) (.num 0)), false)], some [((.leave 0 []), [((.op1 (.wrap .i64) (.op2 .add (.var 202) (.app 39 [(.app 58 [(.var 1), (.var 3)]), (.cell 0 (.app 37 [(.app 51 [(.app 58 [(.var 1), (.var 3)])])]) (.var 200))]))), (.var 302)), ((.app 41 [(.app 58 [(.var 1), (.var 3)]), (.cell 0 (.app 37 [(.app 51 [(.app 58 [(.var 1), (.var 3)])])]) (.var 200))]), (.var 301))])]),
  ([((.op2 .lt (.app 40 [(.app 58 [(.var 1), (.var 3)]), (.var 300), (.cell 0 (.app 37 [(.app 51 [(.app 58 [(.var 1), (.var 3)])])]) (.var 200))]) (.num 0)), true), ((.app 31 [(.var 300)]), true), ((.op2 .lt (.num 40) (.var 300)), false), ((.op2 .lt (.var 202) (.num 0)), false), ((.op2 .lt (.num 1000000000000000) (.var 202)), false), ((.app 20 [(.app 58 [(.var 1), (.var 3)])]), true), ((.op2 .eq (.app 6 [(.app 58 [(.var 1), (.var 3)])]) (.num 0)), true), ((.app 10 [(.cell 0 (.app 37 [(.app 51 [(.app 58 [(.var 1), (.var 3)])])]) (.var 200)), (.num 10), (.num 10000007)]), true), ((.op2 .lt (.var 200) (.num 0)), false), ((.op2 .lt (.var 200) (.op1 .len (.app 51 [(.app 58 [(.var 1), (.var 3)])]))), true), ((.op2 .lt (.var 200) (.op1 .len (.app 37 [(.app 51 [(.app 58 [(.var 1), (.var 3)])])]))), true), ((.op2 .lt (.var 300) (.num 0)), false)], none),
  ([((.op2 .lt (.app 40 [(.app 58 [(.var 1), (.var 3)]), (.var 300), (.cell 0 (.app 37 [(.app 51 [(.app 58 [(.var 1), (.var 3)])])]) (.var 200))]) (.num 0)), false), ((.app 31 [(.var 300)]), true), ((.op2 .lt (.num 40) (.var 300)), false), ((.op2 .lt (.var 202) (.num 0)), false), ((.op2 .lt (.num 1000000000000000) (.var 202)), false), ((.app 20 [(.app 58 [(.var 1), (.var 3)])]), true), ((.op2 .eq (.app 6 [(.app 58 [(.var 1), (.var 3)])]) (.num 0)), true), ((.app 10 [(.cell 0 (.app 37 [(.app 51 [(.app 58 [(.var 1), (.var 3)])])]) (.var 200)), (.num 10), (.num 10000007)]), true), ((.op2 .lt (.var 200) (.num 0)), false), ((.op2 .lt (.var 200) (.op1 .len (.app 51 [(.app 58 [(.var 1), (.var 3)])]))), true), ((.op2 .lt (.var 200) (.op1 .len (.app 37 [(.app 51 [(.app 58 [(.var 1), (.var 3)])])]))), true), ((.op2 .lt (.var 300) (.num 0)), false)], some [((.again 0 []), [((.var 302), (.op1 (.wrap .i64) (.op2 .add (.var 302) (.app 40 [(.app 58 [(.var 1), (.var 3)]), (.var 300), (.cell 0 (.app 37 [(.app 51 [(.app 58 [(.var 1), (.var 3)])])]) (.var 200))])))), ((.var 301), (.op1 (.wrap .i64) (.op2 .add (.var 301) (.app 40 [(.app 58 [(.var 1), (.var 3)]), (.var 300), (.cell 0 (.app 37 [(.app 51 [(.app 58 [(.var 1), (.var 3)])])]) (.var 200))])))), ((.var 300), (.op1 (.wrap .i64) (.op2 .add (.var 300) (.num 1))))])]),
  ([((.app 31 [(.var 300)]), false), ((.op2 .lt (.num 40) (.var 300)), false), ((.op2 .lt (.var 202) (.num 0)), false), ((.op2 .lt (.num 1000000000000000) (.var 202)), false), ((.app 20 [(.app 58 [(.var 1), (.var 3)])]), true), ((.op2 .eq (.app 6 [(.app 58 [(.var 1), (.var 3)])]) (.num 0)), true), ((.app 10 [(.cell 0 (.app 37 [(.app 51 [(.app 58 [(.var 1), (.var 3)])])]) (.var 200)), (.num 10), (.num 10000007)]), true), ((.op2 .lt (.var 200) (.num 0)), false), ((.op2 .lt (.var 200) (.op1 .len (.app 51 [(.app 58 [(.var 1), (.var 3)])]))), true), ((.op2 .lt (.var 200) (.op1 .len (.app 37 [(.app 51 [(.app 58 [(.var 1), (.var 3)])])]))), true), ((.op2 .lt (.var 300) (.num 0)), false)], none)]
theorem lIn0_w (r : Rho) : lIn_D.ways lIn_run E1 r 0 lIn0_F lIn0_t = some lIn0_l := by kernel_rfl
theorem lIn_ok : lIn_D.ok = true := by kernel_rfl
def lIn_Inv (m : List Ptg) (c q : Int) (kq : IntKind) (j : Nat) (vals : List Value) : Prop :=
  j = 0 ∧ ∃ w : Nat, w ≤ 41 ∧ vals = [.int .i64 w, .int .i64 (heldW m c + sumH m c w), .int (kqw kq w) (q + sumH m c w)]
def lIn_mu (_ : Nat) (vals : List Value) : Nat := 100 - (vI (vals.getD 0 default)).toNat
set_option maxRecDepth 100000 in
set_option maxHeartbeats 2000000 in
theorem lIn_step {ρ : Rho} {l : List Ptg} {h c q : Int} {k3 kk kq : IntKind} {i : Nat} (h1 : ρ.val 1 = some (ptgsR l)) (h3 : ρ.val 3 = some (.int k3 h)) (h200 : ρ.val 200 = some (.int kk i)) (h202 : ρ.val 202 = some (.int kq q)) (hsy : ρ.sym = sy) (k : NowK l h) (hc : (soldK (hourP l h))[i]? = some c) (hq0 : 0 ≤ q) (hq1 : q ≤ 1000000000000000)
    (j : Nat) (vals : List Value) (hI : lIn_Inv (hourP l h) c q kq j vals) : StepOk lIn_D lIn_run E1 ρ (lIn_Inv (hourP l h) c q kq) lIn_mu j vals := by
  obtain ⟨rfl, w, hw, rfl⟩ := hI
  have hN : lIn_D.N = 300 := rfl
  have v1 : (ρ.ext lIn_D.N [.int .i64 w, .int .i64 (heldW (hourP l h) c + sumH (hourP l h) c w), .int (kqw kq w) (q + sumH (hourP l h) c w)]).val 1 = some (ptgsR l) := by rw [ext_low _ _ _ _ (by rw [hN]; omega)]; exact h1
  have v3 : (ρ.ext lIn_D.N [.int .i64 w, .int .i64 (heldW (hourP l h) c + sumH (hourP l h) c w), .int (kqw kq w) (q + sumH (hourP l h) c w)]).val 3 = some (.int k3 h) := by rw [ext_low _ _ _ _ (by rw [hN]; omega)]; exact h3
  have v200 : (ρ.ext lIn_D.N [.int .i64 w, .int .i64 (heldW (hourP l h) c + sumH (hourP l h) c w), .int (kqw kq w) (q + sumH (hourP l h) c w)]).val 200 = some (.int kk i) := by rw [ext_low _ _ _ _ (by rw [hN]; omega)]; exact h200
  have v202 : (ρ.ext lIn_D.N [.int .i64 w, .int .i64 (heldW (hourP l h) c + sumH (hourP l h) c w), .int (kqw kq w) (q + sumH (hourP l h) c w)]).val 202 = some (.int kq q) := by rw [ext_low _ _ _ _ (by rw [hN]; omega)]; exact h202
  have v300 : (ρ.ext lIn_D.N [.int .i64 w, .int .i64 (heldW (hourP l h) c + sumH (hourP l h) c w), .int (kqw kq w) (q + sumH (hourP l h) c w)]).val 300 = some (.int .i64 w) := by rw [ext_high _ _ _ _ (by rw [hN]; omega)]; rfl
  have v301 : (ρ.ext lIn_D.N [.int .i64 w, .int .i64 (heldW (hourP l h) c + sumH (hourP l h) c w), .int (kqw kq w) (q + sumH (hourP l h) c w)]).val 301 = some (.int .i64 (heldW (hourP l h) c + sumH (hourP l h) c w)) := by rw [ext_high _ _ _ _ (by rw [hN]; omega)]; rfl
  have v302 : (ρ.ext lIn_D.N [.int .i64 w, .int .i64 (heldW (hourP l h) c + sumH (hourP l h) c w), .int (kqw kq w) (q + sumH (hourP l h) c w)]).val 302 = some (.int (kqw kq w) (q + sumH (hourP l h) c w)) := by rw [ext_high _ _ _ _ (by rw [hN]; omega)]; rfl
  have vs : (ρ.ext lIn_D.N [.int .i64 w, .int .i64 (heldW (hourP l h) c + sumH (hourP l h) c w), .int (kqw kq w) (q + sumH (hourP l h) c w)]).sym = sy := hsy

  obtain ⟨b1, b2, b3, b4⟩ := k.fAll (List.mem_of_getElem? hc)
  obtain ⟨⟨b5, b6⟩, b7⟩ := k.bk.inr c (List.mem_of_getElem? hc)
  have b8 : withinB c 10 10000007 = true := by simp only [withinB, Bool.and_eq_true, decide_eq_true_eq]; omega
  have hi1 : i < (soldK (hourP l h)).length := (List.getElem?_eq_some_iff.1 hc).1
  have hi2 : (i : Int) < (soldK (hourP l h)).length := by omega
  have hi3 : (i : Int) < (soldV (hourP l h)).length := by rw [k.bk.n1]; omega
  have hK : sortZ (soldV (hourP l h)) = soldK (hourP l h) := rfl
  have hF : FactsIn (ρ.ext lIn_D.N [.int .i64 w, .int .i64 (heldW (hourP l h) c + sumH (hourP l h) c w), .int (kqw kq w) (q + sumH (hourP l h) c w)]) lIn0_F := by
    simp only [lIn0_F, FactsIn, X.bool, X.den, denL, d_wrap, d_kind, d_not, d_neg, d_slen, d_add, d_sub, d_mul, d_div, d_mod, d_lt, d_le, d_eq, d_eqb, d_eqs, d_lts, d_cat, d_sat, d_and, d_or, denSub, denIte, asB, ptgs_len, ptgs_cell, ptgs_lsub, rows_len, iR_len, iR_cell, v1, v3, v200, v202, v300, vs, sym6, sym10, sym20, sym31, sym35, sym37, sym38, sym39, sym40, sym41, sym42, sym47, sym48, sym51, sym52, sym58, sym32, sym33v, k.chk, k.sh, k.up, hK, Int.toNat_natCast, hc, Option.bind_some, b8, Option.some.injEq, Value.bool.injEq, decide_eq_false_iff_not, decide_eq_true_eq, and_true, true_and, beq_self_eq_true]
    try omega
  suffices both : AsksL (ρ.ext lIn_D.N [.int .i64 w, .int .i64 (heldW (hourP l h) c + sumH (hourP l h) c w), .int (kqw kq w) (q + sumH (hourP l h) c w)]) (lIn0_t.asks lIn0_F) ∧ WaysOk lIn_D ρ (lIn_Inv (hourP l h) c q kq) lIn_mu 0 [.int .i64 w, .int .i64 (heldW (hourP l h) c + sumH (hourP l h) c w), .int (kqw kq w) (q + sumH (hourP l h) c w)] lIn0_l from step_of_ways (lIn0_w _) hF both.1.ok both.2
  have hz : heldZ (hourP l h) c = soldW (hourP l h) c - sumH (hourP l h) c 41 := rfl
  have m1 := sumH_mono (fun w => k.bk.good.hasN w c) (show w ≤ 41 from hw)
  have m2 := sumH_nonneg (fun w => k.bk.good.hasN w c) w
  by_cases h40 : 40 < w
  · have e : w = 41 := by omega
    subst e
    have g1 : (40 : Int) < ((41 : Nat) : Int) := by decide
    have hw2 : IntKind.i64.wrap (q + sumH (hourP l h) c 41) = q + sumH (hourP l h) c 41 := IntWalk.i64_in _ (by omega)
    have e1 : heldW (hourP l h) c + sumH (hourP l h) c 41 = soldW (hourP l h) c := by rw [b2, hz]; omega
    refine ⟨?_, ?_⟩
    · simp only [lIn0_t, lIn0_F, AsksL, GTree.asks, FTree.asks, FactsIn, List.append_nil, List.nil_append, List.cons_append, Option.some.injEq, exists_eq', implies_true, and_self, X.bool, X.den, denL, d_wrap, d_kind, d_not, d_neg, d_slen, d_add, d_sub, d_mul, d_div, d_mod, d_lt, d_le, d_eq, d_eqb, d_eqs, d_lts, d_cat, d_sat, d_and, d_or, denSub, d_ite2, d_eq_ite2, asB, ptgs_len, ptgs_cell, ptgs_lsub, rows_len, iR_len, iR_cell, valRows_len, v1, v3, v200, v202, v300, v301, v302, vs, sym6, sym10, sym20, sym31, sym35, sym37, sym38, sym39, sym40, sym41, sym42, sym47, sym48, sym51, sym52, sym58, sym32, sym33v, k.chk, k.sh, k.up, hK, Int.toNat_natCast, hc, Option.bind_some, b8, g1]
      try simp
    · simp only [lIn0_l, EndsOk, WaysOk, forall_cons, forall_nil, TgtOk, gpair, FactsIn, hold_cons, hold_nil, Option.some.injEq, Value.bool.injEq, Value.int.injEq, decide_eq_true_eq, decide_eq_false_iff_not, and_true, true_and, and_imp, X.bool, X.den, denL, d_wrap, d_kind, d_not, d_neg, d_slen, d_add, d_sub, d_mul, d_div, d_mod, d_lt, d_le, d_eq, d_eqb, d_eqs, d_lts, d_cat, d_sat, d_and, d_or, denSub, d_ite2, d_eq_ite2, asB, ptgs_len, ptgs_cell, ptgs_lsub, beq_iff_eq, beq_eq_false_iff_ne, ne_eq, rows_len, iR_len, iR_cell, valRows_len, v1, v3, v200, v202, v300, v301, v302, vs, h1, h3, h200, h202, hsy, sym6, sym10, sym20, sym31, sym35, sym37, sym38, sym39, sym40, sym41, sym42, sym47, sym48, sym51, sym52, sym58, sym32, sym33v, k.chk, k.sh, k.up, hK, Int.toNat_natCast, hc, Option.bind_some, b8, g1, hasAll_is, hw2]
      simp [e1, kqw]
  · have g1 : ¬ (40 : Int) < (w : Int) := by omega
    have g2 := party_le (show w ≤ 40 by omega)
    have g3 : ¬ hasW (hourP l h) (w : Int) c < 0 := by have := k.bk.good.hasN (w : Int) c; omega
    have m3 := sumH_mono (fun w => k.bk.good.hasN w c) (show w + 1 ≤ 41 by omega)
    have m4 := sumH_succ (hourP l h) c w
    have hw1 : IntKind.i64.wrap ((w : Int) + 1) = ((w + 1 : Nat) : Int) := by rw [IntWalk.i64_in _ (by omega)]; rfl
    have hw2 : IntKind.i64.wrap (q + sumH (hourP l h) c w + hasW (hourP l h) (w : Int) c) = q + sumH (hourP l h) c (w + 1) := by rw [IntWalk.i64_in _ (by omega)]; omega
    have hw3 : IntKind.i64.wrap (heldW (hourP l h) c + sumH (hourP l h) c w + hasW (hourP l h) (w : Int) c) = heldW (hourP l h) c + sumH (hourP l h) c (w + 1) := by rw [IntWalk.i64_in _ (by omega)]; omega
    have go : ∃ vals', ((ρ.ext lIn_D.N vals').val 302 = some (.int .i64 (q + sumH (hourP l h) c (w + 1))) ∧ (ρ.ext lIn_D.N vals').val 301 = some (.int .i64 (heldW (hourP l h) c + sumH (hourP l h) c (w + 1))) ∧ (ρ.ext lIn_D.N vals').val 300 = some (.int .i64 ((w + 1 : Nat) : Int))) ∧ lIn_Inv (hourP l h) c q kq 0 vals' ∧ lIn_mu 0 vals' < lIn_mu 0 [.int .i64 w, .int .i64 (heldW (hourP l h) c + sumH (hourP l h) c w), .int (kqw kq w) (q + sumH (hourP l h) c w)] := by
      refine ⟨[.int .i64 ((w + 1 : Nat) : Int), .int .i64 (heldW (hourP l h) c + sumH (hourP l h) c (w + 1)), .int .i64 (q + sumH (hourP l h) c (w + 1))], ⟨?_, ?_, ?_⟩, ⟨rfl, w + 1, by omega, rfl⟩, ?_⟩
      · rw [ext_high _ _ _ _ (by rw [hN]; omega)]; rfl
      · rw [ext_high _ _ _ _ (by rw [hN]; omega)]; rfl
      · rw [ext_high _ _ _ _ (by rw [hN]; omega)]; rfl
      · first | (simp [lIn_mu, vI]; done) | (simp [lIn_mu, vI]; omega)
    refine ⟨?_, ?_⟩
    · simp only [lIn0_t, lIn0_F, AsksL, GTree.asks, FTree.asks, FactsIn, List.append_nil, List.nil_append, List.cons_append, Option.some.injEq, exists_eq', implies_true, and_self, X.bool, X.den, denL, d_wrap, d_kind, d_not, d_neg, d_slen, d_add, d_sub, d_mul, d_div, d_mod, d_lt, d_le, d_eq, d_eqb, d_eqs, d_lts, d_cat, d_sat, d_and, d_or, denSub, d_ite2, d_eq_ite2, asB, ptgs_len, ptgs_cell, ptgs_lsub, rows_len, iR_len, iR_cell, valRows_len, v1, v3, v200, v202, v300, v301, v302, vs, sym6, sym10, sym20, sym31, sym35, sym37, sym38, sym39, sym40, sym41, sym42, sym47, sym48, sym51, sym52, sym58, sym32, sym33v, k.chk, k.sh, k.up, hK, Int.toNat_natCast, hc, Option.bind_some, b8, g1, g2]
      try simp
    · simp only [lIn0_l, EndsOk, WaysOk, forall_cons, forall_nil, TgtOk, gpair, FactsIn, hold_cons, hold_nil, Option.some.injEq, Value.bool.injEq, Value.int.injEq, decide_eq_true_eq, decide_eq_false_iff_not, and_true, true_and, and_imp, X.bool, X.den, denL, d_wrap, d_kind, d_not, d_neg, d_slen, d_add, d_sub, d_mul, d_div, d_mod, d_lt, d_le, d_eq, d_eqb, d_eqs, d_lts, d_cat, d_sat, d_and, d_or, denSub, d_ite2, d_eq_ite2, asB, ptgs_len, ptgs_cell, ptgs_lsub, beq_iff_eq, beq_eq_false_iff_ne, ne_eq, rows_len, iR_len, iR_cell, valRows_len, v1, v3, v200, v202, v300, v301, v302, vs, h1, h3, h200, h202, hsy, sym6, sym10, sym20, sym31, sym35, sym37, sym38, sym39, sym40, sym41, sym42, sym47, sym48, sym51, sym52, sym58, sym32, sym33v, k.chk, k.sh, k.up, hK, Int.toNat_natCast, hc, Option.bind_some, b8, g1, g2, g3, hw1, hw2, hw3]
      clear v1 v3 v200 v202 v300 v301 v302 vs h1 h3 h200 h202 hsy hF hc
      (repeat' apply And.intro) <;> intros <;> first
        | trivial
        | (exact go)
        | contradiction
        | (exfalso; omega)
        | (exfalso; simp_all; done)
theorem int_of_lt {ρ : Rho} {n : Nat} {b : Bool} (h : (X.op2 .lt (.var n) (.num 0)).bool ρ = some b) : ∃ k m, ρ.val n = some (.int k m) := by
  unfold X.bool at h
  simp only [X.den] at h
  cases e : ρ.val n with
  | none => rw [e] at h; simp [asB] at h
  | some v =>
    rw [e] at h
    cases v <;> first | exact ⟨_, _, rfl⟩ | (simp [den2, asB] at h; done) | (exfalso; revert h; simp [den2, asB])
theorem in_body : loopsOf (loopAt Tryz.prog 7 0) = [loopAt Tryz.prog 7 1] := by kernel_rfl
theorem in_key : keyOf (loopAt Tryz.prog 7 1) = 18 := by kernel_rfl
theorem lIn_H {r : Rho} {l : List Ptg} {h : Int} {k3 : IntKind} (h1 : r.val 1 = some (ptgsR l)) (h3 : r.val 3 = some (.int k3 h)) (hsy : r.sym = sy) (F : List (X × Bool)) :
    ∀ c' ∈ loopsOf (loopAt Tryz.prog 7 0), CodeOk (E1.with F r) none (.loop c') (hooks [(18, lIn_D.hook (E1.with F r).facts in_vs)] c') := by
  rw [in_body]
  refine mem_only (P := fun c' => CodeOk (E1.with F r) none (.loop c') (hooks [(18, lIn_D.hook (E1.with F r).facts in_vs)] c')) ?_
  show CodeOk (E1.with F r) none (.loop (loopAt Tryz.prog 7 1)) (hooks [(18, lIn_D.hook (E1.with F r).facts in_vs)] (loopAt Tryz.prog 7 1))
  rw [hooks_hit in_key]
  have hK : sortZ (soldV (hourP l h)) = soldK (hourP l h) := rfl
  let cOf : Int := match r.val 200 with | some (.int _ n) => (((soldK (hourP l h))[n.toNat]?).getD 0) | _ => 0
  let kOf : IntKind := match r.val 202 with | some (.int k _) => k | _ => .i64
  let qOf : Int := match r.val 202 with | some (.int _ n) => n | _ => 0
  refine hook_ok (E₀ := E1) (run := lIn_run) (ρ := r) (Inv := lIn_Inv (hourP l h) cOf qOf kOf) (μ := lIn_mu) E1_ok lIn_ok (fun F r' h => ?_) (fun hp => ?_)
  · exact bodyRun_ok E1_ok (LM_ok F (h.trans hsy)) fun _ _ => noLoop_ok
  · have hq1 := hp.2.2.1
    have hq2 := hp.2.2.2.1
    simp only [X.bool, X.den, denL, d_wrap, d_kind, d_not, d_neg, d_slen, d_add, d_sub, d_mul, d_div, d_mod, d_lt, d_le, d_eq, d_eqb, d_eqs, d_lts, d_cat, d_sat, d_and, d_or, denSub, denIte, asB, ptgs_len, ptgs_cell, ptgs_lsub, h1, h3, hsy, sym6, sym10, sym20, sym31, sym35, sym37, sym38, sym39, sym40, sym41, sym42, sym47, sym48, sym51, sym52, sym58, sym32, sym33v, Option.some.injEq, Value.bool.injEq, decide_eq_true_eq, beq_iff_eq] at hq1 hq2
    have hup : uptoP (hourP l h) = (hourP l h) := upto_full hq2
    have hp1 := hp.1
    have hp2 := hp.2.1
    have hp3 := hp.2.2.2.2.2.1
    have hp4 := hp.2.2.2.2.2.2.2.1
    obtain ⟨kq, q, h202⟩ : ∃ kq q, r.val 202 = some (.int kq q) := int_of_lt hp1
    obtain ⟨kk, n, h200⟩ : ∃ kk n, r.val 200 = some (.int kk n) := int_of_lt hp3
    simp only [X.bool, X.den, denL, d_wrap, d_kind, d_not, d_neg, d_slen, d_add, d_sub, d_mul, d_div, d_mod, d_lt, d_le, d_eq, d_eqb, d_eqs, d_lts, d_cat, d_sat, d_and, d_or, denSub, denIte, asB, ptgs_len, ptgs_cell, ptgs_lsub, h202, Option.some.injEq, Value.bool.injEq, decide_eq_false_iff_not] at hp1 hp2
    have hp5 := hp.2.2.2.2.2.2.1
    simp only [X.bool, X.den, denL, d_wrap, d_kind, d_not, d_neg, d_slen, d_add, d_sub, d_mul, d_div, d_mod, d_lt, d_le, d_eq, d_eqb, d_eqs, d_lts, d_cat, d_sat, d_and, d_or, denSub, denIte, asB, ptgs_len, ptgs_cell, ptgs_lsub, rows_len, iR_len, h1, h3, h200, hsy, sym6, sym10, sym20, sym31, sym35, sym37, sym38, sym39, sym40, sym41, sym42, sym47, sym48, sym51, sym52, sym58, sym32, sym33v, hup, hK, Option.some.injEq, Value.bool.injEq, decide_eq_false_iff_not, decide_eq_true_eq] at hp3 hp4 hp5
    have hne : (hourP l h) ≠ [] := fun e => by
      rw [e] at hp5
      have : (soldV []).length = 0 := rfl
      rw [this] at hp5
      omega
    have k : NowK l h := ⟨hq2, hq1, hup, book_of hq2 hne⟩
    obtain ⟨i, rfl⟩ : ∃ i : Nat, n = (i : Int) := ⟨n.toNat, by omega⟩
    have hi : i < (soldK (hourP l h)).length := by omega
    have hc : (soldK (hourP l h))[i]? = some cOf := by
      show (soldK (hourP l h))[i]? = some (match r.val 200 with | some (.int _ n) => (((soldK (hourP l h))[n.toNat]?).getD 0) | _ => 0)
      rw [h200]
      simp only [Int.toNat_natCast, List.getElem?_eq_getElem hi, Option.getD_some]
    have hq : qOf = q := by
      show (match r.val 202 with | some (.int _ n) => n | _ => 0) = q
      rw [h202]
    have hk : kOf = kq := by
      show (match r.val 202 with | some (.int k _) => k | _ => .i64) = kq
      rw [h202]
    rw [hq, hk]
    refine ⟨lIn_step h1 h3 h200 h202 hsy k hc (by omega) (by omega), _, ?_, rfl, 0, by omega, rfl⟩
    simp only [in_vs, X.bool, X.den, denL, d_wrap, d_kind, d_not, d_neg, d_slen, d_add, d_sub, d_mul, d_div, d_mod, d_lt, d_le, d_eq, d_eqb, d_eqs, d_lts, d_cat, d_sat, d_and, d_or, denSub, denIte, asB, ptgs_len, ptgs_cell, ptgs_lsub, iR_cell, h1, h3, h200, h202, hsy, sym6, sym10, sym20, sym31, sym35, sym37, sym38, sym39, sym40, sym41, sym42, sym47, sym48, sym51, sym52, sym58, sym32, sym33v, k.up, hK, Int.toNat_natCast, hc, Option.bind_some]
    simp [sumH, kqw]

noncomputable def lOut_D : LoopD := { N := 200, M := 203, size := sizeOfF 7, reads := [(100, .rows 8 ptgSch (.num 0) (.app 58 [.var 1, .var 3]) true 36), (101, .rows 1 [.int .i64] (.num 0) (.app 37 [.app 51 [.app 58 [.var 1, .var 3]]]) true 3)], pats := [{ slots := [(5, .slo 100 8 (.op1 .len (.app 58 [.var 1, .var 3]))), (8, .slo 101 1 (.op1 .len (.app 51 [.app 58 [.var 1, .var 3]]))), (6, .sint .i64 (.var 201)), (7, .sint .i64 (.var 202)), (9, .sint .i64 (.var 200))], heap := [] }], exits := [(.exit 0, { slots := [(5, .slo 100 8 (.op1 .len (.app 58 [.var 1, .var 3]))), (6, .sint .i64 (.app 47 [.app 58 [.var 1, .var 3]])), (7, .sint .i64 (.app 48 [.app 58 [.var 1, .var 3]]))], heap := [] })], own := [], pre := [(.app 20 [.app 58 [.var 1, .var 3]], true), (.op2 .eq (.app 6 [.app 58 [.var 1, .var 3]]) (.num 0), true), (.op2 .eq (.op1 .len (.app 58 [.var 1, .var 3])) (.num 0), false)] }
noncomputable def lOut_run : Env → AF → ASt → Option (List Out) := bodyRun LM 9 (fun E => hooks [(18, lIn_D.hook E.facts in_vs)]) (loopAt Tryz.prog 7 0)
def lOut0_F : List (X × Bool) := [(.op2 .lt (.var 202) (.num 0), false), (.op2 .lt (.num 1000000000000000) (.var 202), false), (.op2 .lt (.var 200) (.num 0), false), (.app 20 [.app 58 [.var 1, .var 3]], true), (.op2 .eq (.app 6 [.app 58 [.var 1, .var 3]]) (.num 0), true)]
noncomputable def lOut0_t : FTree := (.fork (.op2 .lt (.var 200) (.op1 .len (.app 51 [(.app 58 [(.var 1), (.var 3)])]))) (.fork (.op2 .lt (.var 200) (.op1 .len (.app 37 [(.app 51 [(.app 58 [(.var 1), (.var 3)])])]))) (.fork (.app 10 [(.cell 0 (.app 37 [(.app 51 [(.app 58 [(.var 1), (.var 3)])])]) (.var 200)), (.num 10), (.num 10000007)]) (.fork (.op2 .lt (.num 0) (.app 41 [(.app 58 [(.var 1), (.var 3)]), (.cell 0 (.app 37 [(.app 51 [(.app 58 [(.var 1), (.var 3)])])]) (.var 200))])) (.fork (.op2 .lt (.app 42 [(.app 58 [(.var 1), (.var 3)]), (.cell 0 (.app 37 [(.app 51 [(.app 58 [(.var 1), (.var 3)])])]) (.var 200))]) (.num 0)) .bad (.fork (.op2 .eq (.app 41 [(.app 58 [(.var 1), (.var 3)]), (.cell 0 (.app 37 [(.app 51 [(.app 58 [(.var 1), (.var 3)])])]) (.var 200))]) (.app 41 [(.app 58 [(.var 1), (.var 3)]), (.cell 0 (.app 37 [(.app 51 [(.app 58 [(.var 1), (.var 3)])])]) (.var 200))])) (.leaf [(.again 0 [])]) .bad)) .bad) .bad) .bad) (.leaf [(.leave 0 [])]))
noncomputable def lOut0_l : List (List (X × Bool) × Option (List (Tgt × Pairs))) := [([((.op2 .lt (.app 42 [(.app 58 [(.var 1), (.var 3)]), (.cell 0 (.app 37 [(.app 51 [(.app 58 [(.var 1), (.var 3)])])]) (.var 200))]) (.num 0)), true), ((.op2 .lt (.num 0) (.app 41 [(.app 58 [(.var 1), (.var 3)]), (.cell 0 (.app 37 [(.app 51 [(.app 58 [(.var 1), (.var 3)])])]) (.var 200))])), true), ((.app 10 [(.cell 0 (.app 37 [(.app 51 [(.app 58 [(.var 1), (.var 3)])])]) (.var 200)), (.num 10), (.num 10000007)]), true), ((.op2 .lt (.var 200) (.op1 .len (.app 37 [(.app 51 [(.app 58 [(.var 1), (.var 3)])])]))), true), ((.op2 .lt (.var 200) (.op1 .len (.app 51 [(.app 58 [(.var 1), (.var 3)])]))), true), ((.op2 .lt (.var 202) (.num 0)), false), ((.op2 .lt (.num 1000000000000000) (.var 202)), false), ((.op2 .lt (.var 200) (.num 0)), false), ((.app 20 [(.app 58 [(.var 1), (.var 3)])]), true), ((.op2 .eq (.app 6 [(.app 58 [(.var 1), (.var 3)])]) (.num 0)), true)], none),
  ([((.op2 .eq (.app 41 [(.app 58 [(.var 1), (.var 3)]), (.cell 0 (.app 37 [(.app 51 [(.app 58 [(.var 1), (.var 3)])])]) (.var 200))]) (.app 41 [(.app 58 [(.var 1), (.var 3)]), (.cell 0 (.app 37 [(.app 51 [(.app 58 [(.var 1), (.var 3)])])]) (.var 200))])), true), ((.op2 .lt (.app 42 [(.app 58 [(.var 1), (.var 3)]), (.cell 0 (.app 37 [(.app 51 [(.app 58 [(.var 1), (.var 3)])])]) (.var 200))]) (.num 0)), false), ((.op2 .lt (.num 0) (.app 41 [(.app 58 [(.var 1), (.var 3)]), (.cell 0 (.app 37 [(.app 51 [(.app 58 [(.var 1), (.var 3)])])]) (.var 200))])), true), ((.app 10 [(.cell 0 (.app 37 [(.app 51 [(.app 58 [(.var 1), (.var 3)])])]) (.var 200)), (.num 10), (.num 10000007)]), true), ((.op2 .lt (.var 200) (.op1 .len (.app 37 [(.app 51 [(.app 58 [(.var 1), (.var 3)])])]))), true), ((.op2 .lt (.var 200) (.op1 .len (.app 51 [(.app 58 [(.var 1), (.var 3)])]))), true), ((.op2 .lt (.var 202) (.num 0)), false), ((.op2 .lt (.num 1000000000000000) (.var 202)), false), ((.op2 .lt (.var 200) (.num 0)), false), ((.app 20 [(.app 58 [(.var 1), (.var 3)])]), true), ((.op2 .eq (.app 6 [(.app 58 [(.var 1), (.var 3)])]) (.num 0)), true)], some [((.again 0 []), [((.var 201), (.op1 (.wrap .i64) (.op2 .add (.var 201) (.app 41 [(.app 58 [(.var 1), (.var 3)]), (.cell 0 (.app 37 [(.app 51 [(.app 58 [(.var 1), (.var 3)])])]) (.var 200))])))), ((.var 202), (.op1 (.wrap .i64) (.op2 .add (.var 202) (.app 39 [(.app 58 [(.var 1), (.var 3)]), (.cell 0 (.app 37 [(.app 51 [(.app 58 [(.var 1), (.var 3)])])]) (.var 200))])))), ((.var 200), (.op1 (.wrap .i64) (.op2 .add (.var 200) (.num 1))))])]),
  ([((.op2 .eq (.app 41 [(.app 58 [(.var 1), (.var 3)]), (.cell 0 (.app 37 [(.app 51 [(.app 58 [(.var 1), (.var 3)])])]) (.var 200))]) (.app 41 [(.app 58 [(.var 1), (.var 3)]), (.cell 0 (.app 37 [(.app 51 [(.app 58 [(.var 1), (.var 3)])])]) (.var 200))])), false), ((.op2 .lt (.app 42 [(.app 58 [(.var 1), (.var 3)]), (.cell 0 (.app 37 [(.app 51 [(.app 58 [(.var 1), (.var 3)])])]) (.var 200))]) (.num 0)), false), ((.op2 .lt (.num 0) (.app 41 [(.app 58 [(.var 1), (.var 3)]), (.cell 0 (.app 37 [(.app 51 [(.app 58 [(.var 1), (.var 3)])])]) (.var 200))])), true), ((.app 10 [(.cell 0 (.app 37 [(.app 51 [(.app 58 [(.var 1), (.var 3)])])]) (.var 200)), (.num 10), (.num 10000007)]), true), ((.op2 .lt (.var 200) (.op1 .len (.app 37 [(.app 51 [(.app 58 [(.var 1), (.var 3)])])]))), true), ((.op2 .lt (.var 200) (.op1 .len (.app 51 [(.app 58 [(.var 1), (.var 3)])]))), true), ((.op2 .lt (.var 202) (.num 0)), false), ((.op2 .lt (.num 1000000000000000) (.var 202)), false), ((.op2 .lt (.var 200) (.num 0)), false), ((.app 20 [(.app 58 [(.var 1), (.var 3)])]), true), ((.op2 .eq (.app 6 [(.app 58 [(.var 1), (.var 3)])]) (.num 0)), true)], none),
  ([((.op2 .lt (.num 0) (.app 41 [(.app 58 [(.var 1), (.var 3)]), (.cell 0 (.app 37 [(.app 51 [(.app 58 [(.var 1), (.var 3)])])]) (.var 200))])), false), ((.app 10 [(.cell 0 (.app 37 [(.app 51 [(.app 58 [(.var 1), (.var 3)])])]) (.var 200)), (.num 10), (.num 10000007)]), true), ((.op2 .lt (.var 200) (.op1 .len (.app 37 [(.app 51 [(.app 58 [(.var 1), (.var 3)])])]))), true), ((.op2 .lt (.var 200) (.op1 .len (.app 51 [(.app 58 [(.var 1), (.var 3)])]))), true), ((.op2 .lt (.var 202) (.num 0)), false), ((.op2 .lt (.num 1000000000000000) (.var 202)), false), ((.op2 .lt (.var 200) (.num 0)), false), ((.app 20 [(.app 58 [(.var 1), (.var 3)])]), true), ((.op2 .eq (.app 6 [(.app 58 [(.var 1), (.var 3)])]) (.num 0)), true)], none),
  ([((.app 10 [(.cell 0 (.app 37 [(.app 51 [(.app 58 [(.var 1), (.var 3)])])]) (.var 200)), (.num 10), (.num 10000007)]), false), ((.op2 .lt (.var 200) (.op1 .len (.app 37 [(.app 51 [(.app 58 [(.var 1), (.var 3)])])]))), true), ((.op2 .lt (.var 200) (.op1 .len (.app 51 [(.app 58 [(.var 1), (.var 3)])]))), true), ((.op2 .lt (.var 202) (.num 0)), false), ((.op2 .lt (.num 1000000000000000) (.var 202)), false), ((.op2 .lt (.var 200) (.num 0)), false), ((.app 20 [(.app 58 [(.var 1), (.var 3)])]), true), ((.op2 .eq (.app 6 [(.app 58 [(.var 1), (.var 3)])]) (.num 0)), true)], none),
  ([((.op2 .lt (.var 200) (.op1 .len (.app 37 [(.app 51 [(.app 58 [(.var 1), (.var 3)])])]))), false), ((.op2 .lt (.var 200) (.op1 .len (.app 51 [(.app 58 [(.var 1), (.var 3)])]))), true), ((.op2 .lt (.var 202) (.num 0)), false), ((.op2 .lt (.num 1000000000000000) (.var 202)), false), ((.op2 .lt (.var 200) (.num 0)), false), ((.app 20 [(.app 58 [(.var 1), (.var 3)])]), true), ((.op2 .eq (.app 6 [(.app 58 [(.var 1), (.var 3)])]) (.num 0)), true)], none),
  ([((.op2 .lt (.var 200) (.op1 .len (.app 51 [(.app 58 [(.var 1), (.var 3)])]))), false), ((.op2 .lt (.var 202) (.num 0)), false), ((.op2 .lt (.num 1000000000000000) (.var 202)), false), ((.op2 .lt (.var 200) (.num 0)), false), ((.app 20 [(.app 58 [(.var 1), (.var 3)])]), true), ((.op2 .eq (.app 6 [(.app 58 [(.var 1), (.var 3)])]) (.num 0)), true)], some [((.leave 0 []), [((.app 47 [(.app 58 [(.var 1), (.var 3)])]), (.var 201)), ((.app 48 [(.app 58 [(.var 1), (.var 3)])]), (.var 202))])])]
theorem lOut0_w (r : Rho) : lOut_D.ways lOut_run E1 r 0 lOut0_F lOut0_t = some lOut0_l := by kernel_rfl
theorem lOut_ok : lOut_D.ok = true := by kernel_rfl
def lOut_Inv (m : List Ptg) (j : Nat) (vals : List Value) : Prop :=
  j = 0 ∧ ∃ i : Nat, i ≤ (soldK m).length ∧ vals = [.int .i64 i, .int .i64 (((soldK m).take i).map fun c => soldW m c).sum, .int .i64 (((soldK m).take i).map fun c => sumH m c 41).sum]
def lOut_mu (m : List Ptg) (_ : Nat) (vals : List Value) : Nat := (soldK m).length - (vI (vals.getD 0 default)).toNat
theorem NowK.sums {l : List Ptg} {h : Int} (k : NowK l h) (i : Nat) : (0 ≤ (((soldK (hourP l h)).take i).map fun c => soldW (hourP l h) c).sum ∧ (((soldK (hourP l h)).take i).map fun c => soldW (hourP l h) c).sum ≤ 400000000000) ∧ (0 ≤ (((soldK (hourP l h)).take i).map fun c => sumH (hourP l h) c 41).sum ∧ (((soldK (hourP l h)).take i).map fun c => sumH (hourP l h) c 41).sum ≤ 400000000000) := by
  have hl : ((soldK (hourP l h)).take i).length ≤ 400 := by
    rw [List.length_take]
    have := k.bk.n1
    have := k.bk.l1
    omega
  have a := sum_le (f := fun c => soldW (hourP l h) c) (b := 1000000000) ((soldK (hourP l h)).take i) fun c hc => by
    have hc' := List.mem_of_mem_take hc
    have h1 := (k.bk.inr c hc').2
    have h2 := (k.fAll hc').1
    exact ⟨by omega, h2⟩
  have b := sum_le (f := fun c => sumH (hourP l h) c 41) (b := 1000000000) ((soldK (hourP l h)).take i) fun c hc => by
    have hc' := List.mem_of_mem_take hc
    obtain ⟨h1, _, h3, h4⟩ := k.fAll hc'
    have hz : heldZ (hourP l h) c = soldW (hourP l h) c - sumH (hourP l h) c 41 := rfl
    exact ⟨h4, by omega⟩
  omega
set_option maxRecDepth 100000 in
set_option maxHeartbeats 2000000 in
theorem lOut_step {ρ : Rho} {l : List Ptg} {h : Int} {k3 : IntKind} (h1 : ρ.val 1 = some (ptgsR l)) (h3 : ρ.val 3 = some (.int k3 h)) (hsy : ρ.sym = sy) (k : NowK l h) (j : Nat) (vals : List Value) (hI : lOut_Inv (hourP l h) j vals) : StepOk lOut_D lOut_run E1 ρ (lOut_Inv (hourP l h)) (lOut_mu (hourP l h)) j vals := by
  obtain ⟨rfl, i, hi, rfl⟩ := hI
  have hN : lOut_D.N = 200 := rfl
  have v1 : (ρ.ext lOut_D.N [.int .i64 i, .int .i64 (((soldK (hourP l h)).take i).map fun c => soldW (hourP l h) c).sum, .int .i64 (((soldK (hourP l h)).take i).map fun c => sumH (hourP l h) c 41).sum]).val 1 = some (ptgsR l) := by rw [ext_low _ _ _ _ (by rw [hN]; omega)]; exact h1
  have v3 : (ρ.ext lOut_D.N [.int .i64 i, .int .i64 (((soldK (hourP l h)).take i).map fun c => soldW (hourP l h) c).sum, .int .i64 (((soldK (hourP l h)).take i).map fun c => sumH (hourP l h) c 41).sum]).val 3 = some (.int k3 h) := by rw [ext_low _ _ _ _ (by rw [hN]; omega)]; exact h3
  have v200 : (ρ.ext lOut_D.N [.int .i64 i, .int .i64 (((soldK (hourP l h)).take i).map fun c => soldW (hourP l h) c).sum, .int .i64 (((soldK (hourP l h)).take i).map fun c => sumH (hourP l h) c 41).sum]).val 200 = some (.int .i64 i) := by rw [ext_high _ _ _ _ (by rw [hN]; omega)]; rfl
  have v201 : (ρ.ext lOut_D.N [.int .i64 i, .int .i64 (((soldK (hourP l h)).take i).map fun c => soldW (hourP l h) c).sum, .int .i64 (((soldK (hourP l h)).take i).map fun c => sumH (hourP l h) c 41).sum]).val 201 = some (.int .i64 (((soldK (hourP l h)).take i).map fun c => soldW (hourP l h) c).sum) := by rw [ext_high _ _ _ _ (by rw [hN]; omega)]; rfl
  have v202 : (ρ.ext lOut_D.N [.int .i64 i, .int .i64 (((soldK (hourP l h)).take i).map fun c => soldW (hourP l h) c).sum, .int .i64 (((soldK (hourP l h)).take i).map fun c => sumH (hourP l h) c 41).sum]).val 202 = some (.int .i64 (((soldK (hourP l h)).take i).map fun c => sumH (hourP l h) c 41).sum) := by rw [ext_high _ _ _ _ (by rw [hN]; omega)]; rfl
  have vs : (ρ.ext lOut_D.N [.int .i64 i, .int .i64 (((soldK (hourP l h)).take i).map fun c => soldW (hourP l h) c).sum, .int .i64 (((soldK (hourP l h)).take i).map fun c => sumH (hourP l h) c 41).sum]).sym = sy := hsy

  obtain ⟨⟨s1, s2⟩, ⟨s3, s4⟩⟩ := k.sums i
  have hK : sortZ (soldV (hourP l h)) = (soldK (hourP l h)) := rfl
  have hn1 := k.bk.n1
  have hF : FactsIn (ρ.ext lOut_D.N [.int .i64 i, .int .i64 (((soldK (hourP l h)).take i).map fun c => soldW (hourP l h) c).sum, .int .i64 (((soldK (hourP l h)).take i).map fun c => sumH (hourP l h) c 41).sum]) lOut0_F := by
    simp only [lOut0_F, FactsIn, X.bool, X.den, denL, d_wrap, d_kind, d_not, d_neg, d_slen, d_add, d_sub, d_mul, d_div, d_mod, d_lt, d_le, d_eq, d_eqb, d_eqs, d_lts, d_cat, d_sat, d_and, d_or, denSub, denIte, asB, ptgs_len, ptgs_cell, ptgs_lsub, v1, v3, v200, v202, vs, sym6, sym10, sym20, sym31, sym35, sym37, sym38, sym39, sym40, sym41, sym42, sym47, sym48, sym51, sym52, sym58, sym32, sym33v, k.chk, k.sh, Option.some.injEq, Value.bool.injEq, decide_eq_false_iff_not, decide_eq_true_eq, and_true, true_and, beq_self_eq_true]
    try omega
  suffices both : AsksL (ρ.ext lOut_D.N [.int .i64 i, .int .i64 (((soldK (hourP l h)).take i).map fun c => soldW (hourP l h) c).sum, .int .i64 (((soldK (hourP l h)).take i).map fun c => sumH (hourP l h) c 41).sum]) (lOut0_t.asks lOut0_F) ∧ WaysOk lOut_D ρ (lOut_Inv (hourP l h)) (lOut_mu (hourP l h)) 0 [.int .i64 i, .int .i64 (((soldK (hourP l h)).take i).map fun c => soldW (hourP l h) c).sum, .int .i64 (((soldK (hourP l h)).take i).map fun c => sumH (hourP l h) c 41).sum] lOut0_l from step_of_ways (lOut0_w _) hF both.1.ok both.2
  cases hc : (soldK (hourP l h))[i]? with
  | none =>
    have hge := List.getElem?_eq_none_iff.1 hc
    have hge' : ¬ (i : Int) < (soldV (hourP l h)).length := by omega
    have hl : (soldK (hourP l h)).take i = (soldK (hourP l h)) := List.take_of_length_le hge
    refine ⟨?_, ?_⟩
    · simp only [lOut0_t, lOut0_F, AsksL, GTree.asks, FTree.asks, FactsIn, List.append_nil, List.nil_append, List.cons_append, Option.some.injEq, exists_eq', implies_true, and_self, X.bool, X.den, denL, d_wrap, d_kind, d_not, d_neg, d_slen, d_add, d_sub, d_mul, d_div, d_mod, d_lt, d_le, d_eq, d_eqb, d_eqs, d_lts, d_cat, d_sat, d_and, d_or, denSub, d_ite2, d_eq_ite2, asB, ptgs_len, ptgs_cell, ptgs_lsub, rows_len, iR_len, iR_cell, valRows_len, v1, v3, v200, v201, v202, vs, sym6, sym10, sym20, sym31, sym35, sym37, sym38, sym39, sym40, sym41, sym42, sym47, sym48, sym51, sym52, sym58, sym32, sym33v, k.chk, k.sh, k.up, hK, Int.toNat_natCast, hc, hge']
      try simp
    · simp only [lOut0_l, EndsOk, WaysOk, forall_cons, forall_nil, TgtOk, gpair, FactsIn, hold_cons, hold_nil, Option.some.injEq, Value.bool.injEq, Value.int.injEq, decide_eq_true_eq, decide_eq_false_iff_not, and_true, true_and, and_imp, X.bool, X.den, denL, d_wrap, d_kind, d_not, d_neg, d_slen, d_add, d_sub, d_mul, d_div, d_mod, d_lt, d_le, d_eq, d_eqb, d_eqs, d_lts, d_cat, d_sat, d_and, d_or, denSub, d_ite2, d_eq_ite2, asB, ptgs_len, ptgs_cell, ptgs_lsub, beq_iff_eq, beq_eq_false_iff_ne, ne_eq, rows_len, iR_len, iR_cell, valRows_len, v1, v3, v200, v201, v202, vs, h1, h3, hsy, sym6, sym10, sym20, sym31, sym35, sym37, sym38, sym39, sym40, sym41, sym42, sym47, sym48, sym51, sym52, sym58, sym32, sym33v, k.chk, k.sh, k.up, hK, Int.toNat_natCast, hc, hge', hasAll_is]
      simp [hl]
  | some c =>
    have hlt : i < (soldK (hourP l h)).length := (List.getElem?_eq_some_iff.1 hc).1
    have hlt1 : (i : Int) < (soldV (hourP l h)).length := by omega
    have hlt2 : (i : Int) < (soldK (hourP l h)).length := by omega
    have hl1 := k.bk.l1
    obtain ⟨⟨b5, b6⟩, b7⟩ := k.bk.inr c (List.mem_of_getElem? hc)
    obtain ⟨b1, b2, b3, b4⟩ := k.fAll (List.mem_of_getElem? hc)
    have b8 : withinB c 10 10000007 = true := by simp only [withinB, Bool.and_eq_true, decide_eq_true_eq]; omega
    have b9 : ¬ heldW (hourP l h) c < 0 := by omega
    have hz : heldZ (hourP l h) c = soldW (hourP l h) c - sumH (hourP l h) c 41 := rfl
    have hw1 : IntKind.i64.wrap ((i : Int) + 1) = ((i + 1 : Nat) : Int) := by rw [IntWalk.i64_in _ (by omega)]; rfl
    have t1 := sum_take (f := fun c => soldW (hourP l h) c) hc
    have t2 := sum_take (f := fun c => sumH (hourP l h) c 41) hc
    have hw2 : IntKind.i64.wrap ((((soldK (hourP l h)).take i).map fun c => soldW (hourP l h) c).sum + soldW (hourP l h) c) = (((soldK (hourP l h)).take (i + 1)).map fun c => soldW (hourP l h) c).sum := by rw [t1]; exact IntWalk.i64_in _ (by omega)
    have hw3 : IntKind.i64.wrap ((((soldK (hourP l h)).take i).map fun c => sumH (hourP l h) c 41).sum + sumH (hourP l h) c 41) = (((soldK (hourP l h)).take (i + 1)).map fun c => sumH (hourP l h) c 41).sum := by rw [t2]; exact IntWalk.i64_in _ (by omega)
    have go : ∃ vals', ((ρ.ext lOut_D.N vals').val 201 = some (.int .i64 (((soldK (hourP l h)).take (i + 1)).map fun c => soldW (hourP l h) c).sum) ∧ (ρ.ext lOut_D.N vals').val 202 = some (.int .i64 (((soldK (hourP l h)).take (i + 1)).map fun c => sumH (hourP l h) c 41).sum) ∧ (ρ.ext lOut_D.N vals').val 200 = some (.int .i64 ((i + 1 : Nat) : Int))) ∧ lOut_Inv (hourP l h) 0 vals' ∧ lOut_mu (hourP l h) 0 vals' < lOut_mu (hourP l h) 0 [.int .i64 i, .int .i64 (((soldK (hourP l h)).take i).map fun c => soldW (hourP l h) c).sum, .int .i64 (((soldK (hourP l h)).take i).map fun c => sumH (hourP l h) c 41).sum] := by
      refine ⟨[.int .i64 ((i + 1 : Nat) : Int), .int .i64 (((soldK (hourP l h)).take (i + 1)).map fun c => soldW (hourP l h) c).sum, .int .i64 (((soldK (hourP l h)).take (i + 1)).map fun c => sumH (hourP l h) c 41).sum], ⟨?_, ?_, ?_⟩, ⟨rfl, i + 1, by omega, rfl⟩, ?_⟩
      · rw [ext_high _ _ _ _ (by rw [hN]; omega)]; rfl
      · rw [ext_high _ _ _ _ (by rw [hN]; omega)]; rfl
      · rw [ext_high _ _ _ _ (by rw [hN]; omega)]; rfl
      · first | (simp [lOut_mu, vI]; done) | (simp [lOut_mu, vI]; omega)
    refine ⟨?_, ?_⟩
    · simp only [lOut0_t, lOut0_F, AsksL, GTree.asks, FTree.asks, FactsIn, List.append_nil, List.nil_append, List.cons_append, Option.some.injEq, exists_eq', implies_true, and_self, X.bool, X.den, denL, d_wrap, d_kind, d_not, d_neg, d_slen, d_add, d_sub, d_mul, d_div, d_mod, d_lt, d_le, d_eq, d_eqb, d_eqs, d_lts, d_cat, d_sat, d_and, d_or, denSub, d_ite2, d_eq_ite2, asB, ptgs_len, ptgs_cell, ptgs_lsub, rows_len, iR_len, iR_cell, valRows_len, v1, v3, v200, v201, v202, vs, sym6, sym10, sym20, sym31, sym35, sym37, sym38, sym39, sym40, sym41, sym42, sym47, sym48, sym51, sym52, sym58, sym32, sym33v, k.chk, k.sh, k.up, hK, Int.toNat_natCast, hc, Option.bind_some, b8, hlt1, hlt2, hasAll_is]
      try simp
    · simp only [lOut0_l, EndsOk, WaysOk, forall_cons, forall_nil, TgtOk, gpair, FactsIn, hold_cons, hold_nil, Option.some.injEq, Value.bool.injEq, Value.int.injEq, decide_eq_true_eq, decide_eq_false_iff_not, and_true, true_and, and_imp, X.bool, X.den, denL, d_wrap, d_kind, d_not, d_neg, d_slen, d_add, d_sub, d_mul, d_div, d_mod, d_lt, d_le, d_eq, d_eqb, d_eqs, d_lts, d_cat, d_sat, d_and, d_or, denSub, d_ite2, d_eq_ite2, asB, ptgs_len, ptgs_cell, ptgs_lsub, beq_iff_eq, beq_eq_false_iff_ne, ne_eq, rows_len, iR_len, iR_cell, valRows_len, v1, v3, v200, v201, v202, vs, h1, h3, hsy, sym6, sym10, sym20, sym31, sym35, sym37, sym38, sym39, sym40, sym41, sym42, sym47, sym48, sym51, sym52, sym58, sym32, sym33v, k.chk, k.sh, k.up, hK, Int.toNat_natCast, hc, Option.bind_some, b8, b9, b7, hlt1, hlt2, hasAll_is, hw1, hw2, hw3]
      clear v1 v3 v200 v201 v202 vs h1 h3 hsy hF hc
      (repeat' apply And.intro) <;> intros <;> first
        | trivial
        | (exact go)
        | contradiction
        | (exfalso; omega)
        | (exfalso; simp_all; done)
theorem now_pre {r : Rho} {l : List Ptg} {h : Int} (a : (X.app 20 [.app 58 [.var 1, .var 3]]).bool r = some true) (b : (X.op2 .eq (.app 6 [.app 58 [.var 1, .var 3]]) (.num 0)).bool r = some true) (c : (X.op2 .eq (.op1 .len (.app 58 [.var 1, .var 3])) (.num 0)).bool r = some false) : (r.sym = sy) → r.val 1 = some (ptgsR l) → (∀ {k3 : IntKind}, r.val 3 = some (.int k3 h) → NowK l h) := fun hsy h1 => fun h3 => by
  simp only [X.bool, X.den, denL, d_wrap, d_kind, d_not, d_neg, d_slen, d_add, d_sub, d_mul, d_div, d_mod, d_lt, d_le, d_eq, d_eqb, d_eqs, d_lts, d_cat, d_sat, d_and, d_or, denSub, denIte, asB, ptgs_len, ptgs_cell, ptgs_lsub, h1, h3, hsy, sym6, sym10, sym20, sym31, sym35, sym37, sym38, sym39, sym40, sym41, sym42, sym47, sym48, sym51, sym52, sym58, sym32, sym33v, Option.some.injEq, Value.bool.injEq, decide_eq_true_eq, beq_iff_eq] at a b c
  refine ⟨b, a, upto_full b, book_of b fun e => ?_⟩
  rw [e] at c
  simp at c
theorem lOut_H {r : Rho} {l : List Ptg} {h : Int} {k3 : IntKind} (h1 : r.val 1 = some (ptgsR l)) (h3 : r.val 3 = some (.int k3 h)) (hsy : r.sym = sy) (F : List (X × Bool)) :
    LoopsOk (E1.with F r) (oneH 7 (hooks [(10, lOut_D.hook (E1.with F r).facts out_vs)])) := by
  refine loops_all (n := 2) (fun f fn h => h) (by kernel_rfl) fun i hi => ?_
  have h01 : i = 0 ∨ i = 1 := by omega
  rcases h01 with rfl | rfl
  · rw [hooks_hit (show keyOf (loopAt (E1.with F r).P 7 0) = 10 by kernel_rfl)]
    refine hook_in (E₀ := E1) (run := lOut_run) (ρ := r) (Inv := lOut_Inv (hourP l h)) (μ := lOut_mu (hourP l h)) E1_ok lOut_ok (fun F vals => ?_) (fun hpre => ⟨lOut_step h1 h3 hsy (now_pre hpre.1 hpre.2.1 hpre.2.2.1 hsy h1 h3), [.int .i64 0, .int .i64 0, .int .i64 0], by simp only [out_vs, X.bool, X.den, denL, d_wrap, d_kind, d_not, d_neg, d_slen, d_add, d_sub, d_mul, d_div, d_mod, d_lt, d_le, d_eq, d_eqb, d_eqs, d_lts, d_cat, d_sat, d_and, d_or, denSub, denIte, asB, ptgs_len, ptgs_cell, ptgs_lsub], rfl, 0, Nat.zero_le _, rfl⟩)
    have hN : lOut_D.N = 200 := rfl
    exact bodyRun_ok E1_ok (LM_ok F (r := r.ext lOut_D.N vals) hsy) (lIn_H (r := r.ext lOut_D.N vals) (by rw [ext_low _ _ _ _ (by rw [hN]; omega)]; exact h1) (by rw [ext_low _ _ _ _ (by rw [hN]; omega)]; exact h3) hsy F)
  · rw [hooks_miss (show Nat.beq (keyOf (loopAt (E1.with F r).P 7 1)) 10 = false by kernel_rfl)]
    exact fun f S outs h => by cases h

noncomputable def pw_fn : FnD := { f := 7, args := argsAV [ptgsArg 60 0, .one (.int .i64 3)], heap := hRoot ++ argsBlk [ptgsArg 60 0, .one (.int .i64 3)], N := 100, M := 100, out := .sbool (.boo true), news := [] }
noncomputable def pw_call : Env → CallL := fun E => acallAll E (evH E (LM E) ((fun E => oneH 7 (hooks [(10, lOut_D.hook E.facts out_vs)])) E) 9)
noncomputable def pw_pre : List (X × Bool) := []
noncomputable def pw_t : GTree := (.fork (.op2 .lt (.num 24) (.op1 .len (.var 1))) (.leaf [[]]) (.fork (.app 20 [(.var 1)]) (.fork (.op2 .eq (.app 6 [(.var 1)]) (.num 0)) (.fork (.op2 .eq (.op1 .len (.app 58 [(.var 1), (.var 3)])) (.num 0)) (.fork (.app 20 [(.app 58 [(.var 1), (.var 3)])]) (.fork (.op2 .eq (.app 6 [(.app 58 [(.var 1), (.var 3)])]) (.num 0)) (.leaf [[]]) .bad) .bad) (.fork (.app 20 [(.app 58 [(.var 1), (.var 3)])]) (.fork (.op2 .eq (.app 6 [(.app 58 [(.var 1), (.var 3)])]) (.num 0)) (.fork (.app 38 [(.app 51 [(.app 58 [(.var 1), (.var 3)])])]) (.fork (.op2 .lt (.num 1000000000) (.op1 .len (.app 51 [(.app 58 [(.var 1), (.var 3)])]))) .bad (.fork (.op2 .eq (.op1 .len (.app 51 [(.app 58 [(.var 1), (.var 3)])])) (.num 0)) .bad (.fork (.app 35 [(.app 52 [(.app 58 [(.var 1), (.var 3)])])]) (.fork (.op2 .lt (.num 1000000000) (.op1 .len (.app 52 [(.app 58 [(.var 1), (.var 3)])]))) .bad (.leaf [[]])) .bad))) .bad) .bad) .bad)) (.leaf [[]])) .bad))
noncomputable def pw_l : List (List (X × Bool) × Option Pairs) := [([((.op2 .lt (.num 24) (.op1 .len (.var 1))), true)], some []),
  ([((.op2 .eq (.app 6 [(.app 58 [(.var 1), (.var 3)])]) (.num 0)), true), ((.app 20 [(.app 58 [(.var 1), (.var 3)])]), true), ((.op2 .eq (.op1 .len (.app 58 [(.var 1), (.var 3)])) (.num 0)), true), ((.op2 .eq (.app 6 [(.var 1)]) (.num 0)), true), ((.app 20 [(.var 1)]), true), ((.op2 .lt (.num 24) (.op1 .len (.var 1))), false)], some []),
  ([((.op2 .eq (.app 6 [(.app 58 [(.var 1), (.var 3)])]) (.num 0)), false), ((.app 20 [(.app 58 [(.var 1), (.var 3)])]), true), ((.op2 .eq (.op1 .len (.app 58 [(.var 1), (.var 3)])) (.num 0)), true), ((.op2 .eq (.app 6 [(.var 1)]) (.num 0)), true), ((.app 20 [(.var 1)]), true), ((.op2 .lt (.num 24) (.op1 .len (.var 1))), false)], none),
  ([((.app 20 [(.app 58 [(.var 1), (.var 3)])]), false), ((.op2 .eq (.op1 .len (.app 58 [(.var 1), (.var 3)])) (.num 0)), true), ((.op2 .eq (.app 6 [(.var 1)]) (.num 0)), true), ((.app 20 [(.var 1)]), true), ((.op2 .lt (.num 24) (.op1 .len (.var 1))), false)], none),
  ([((.op2 .lt (.num 1000000000) (.op1 .len (.app 51 [(.app 58 [(.var 1), (.var 3)])]))), true), ((.app 38 [(.app 51 [(.app 58 [(.var 1), (.var 3)])])]), true), ((.op2 .eq (.app 6 [(.app 58 [(.var 1), (.var 3)])]) (.num 0)), true), ((.app 20 [(.app 58 [(.var 1), (.var 3)])]), true), ((.op2 .eq (.op1 .len (.app 58 [(.var 1), (.var 3)])) (.num 0)), false), ((.op2 .eq (.app 6 [(.var 1)]) (.num 0)), true), ((.app 20 [(.var 1)]), true), ((.op2 .lt (.num 24) (.op1 .len (.var 1))), false)], none),
  ([((.op2 .eq (.op1 .len (.app 51 [(.app 58 [(.var 1), (.var 3)])])) (.num 0)), true), ((.op2 .lt (.num 1000000000) (.op1 .len (.app 51 [(.app 58 [(.var 1), (.var 3)])]))), false), ((.app 38 [(.app 51 [(.app 58 [(.var 1), (.var 3)])])]), true), ((.op2 .eq (.app 6 [(.app 58 [(.var 1), (.var 3)])]) (.num 0)), true), ((.app 20 [(.app 58 [(.var 1), (.var 3)])]), true), ((.op2 .eq (.op1 .len (.app 58 [(.var 1), (.var 3)])) (.num 0)), false), ((.op2 .eq (.app 6 [(.var 1)]) (.num 0)), true), ((.app 20 [(.var 1)]), true), ((.op2 .lt (.num 24) (.op1 .len (.var 1))), false)], none),
  ([((.op2 .lt (.num 1000000000) (.op1 .len (.app 52 [(.app 58 [(.var 1), (.var 3)])]))), true), ((.app 35 [(.app 52 [(.app 58 [(.var 1), (.var 3)])])]), true), ((.op2 .eq (.op1 .len (.app 51 [(.app 58 [(.var 1), (.var 3)])])) (.num 0)), false), ((.op2 .lt (.num 1000000000) (.op1 .len (.app 51 [(.app 58 [(.var 1), (.var 3)])]))), false), ((.app 38 [(.app 51 [(.app 58 [(.var 1), (.var 3)])])]), true), ((.op2 .eq (.app 6 [(.app 58 [(.var 1), (.var 3)])]) (.num 0)), true), ((.app 20 [(.app 58 [(.var 1), (.var 3)])]), true), ((.op2 .eq (.op1 .len (.app 58 [(.var 1), (.var 3)])) (.num 0)), false), ((.op2 .eq (.app 6 [(.var 1)]) (.num 0)), true), ((.app 20 [(.var 1)]), true), ((.op2 .lt (.num 24) (.op1 .len (.var 1))), false)], none),
  ([((.op2 .lt (.num 1000000000) (.op1 .len (.app 52 [(.app 58 [(.var 1), (.var 3)])]))), false), ((.app 35 [(.app 52 [(.app 58 [(.var 1), (.var 3)])])]), true), ((.op2 .eq (.op1 .len (.app 51 [(.app 58 [(.var 1), (.var 3)])])) (.num 0)), false), ((.op2 .lt (.num 1000000000) (.op1 .len (.app 51 [(.app 58 [(.var 1), (.var 3)])]))), false), ((.app 38 [(.app 51 [(.app 58 [(.var 1), (.var 3)])])]), true), ((.op2 .eq (.app 6 [(.app 58 [(.var 1), (.var 3)])]) (.num 0)), true), ((.app 20 [(.app 58 [(.var 1), (.var 3)])]), true), ((.op2 .eq (.op1 .len (.app 58 [(.var 1), (.var 3)])) (.num 0)), false), ((.op2 .eq (.app 6 [(.var 1)]) (.num 0)), true), ((.app 20 [(.var 1)]), true), ((.op2 .lt (.num 24) (.op1 .len (.var 1))), false)], some [((.boo true), (.op2 .eq (.op1 (.wrap .i64) (.op2 .add (.app 33 [(.app 32 [(.app 52 [(.app 58 [(.var 1), (.var 3)])])])]) (.app 48 [(.app 58 [(.var 1), (.var 3)])]))) (.app 47 [(.app 58 [(.var 1), (.var 3)])])))]),
  ([((.app 35 [(.app 52 [(.app 58 [(.var 1), (.var 3)])])]), false), ((.op2 .eq (.op1 .len (.app 51 [(.app 58 [(.var 1), (.var 3)])])) (.num 0)), false), ((.op2 .lt (.num 1000000000) (.op1 .len (.app 51 [(.app 58 [(.var 1), (.var 3)])]))), false), ((.app 38 [(.app 51 [(.app 58 [(.var 1), (.var 3)])])]), true), ((.op2 .eq (.app 6 [(.app 58 [(.var 1), (.var 3)])]) (.num 0)), true), ((.app 20 [(.app 58 [(.var 1), (.var 3)])]), true), ((.op2 .eq (.op1 .len (.app 58 [(.var 1), (.var 3)])) (.num 0)), false), ((.op2 .eq (.app 6 [(.var 1)]) (.num 0)), true), ((.app 20 [(.var 1)]), true), ((.op2 .lt (.num 24) (.op1 .len (.var 1))), false)], none),
  ([((.app 38 [(.app 51 [(.app 58 [(.var 1), (.var 3)])])]), false), ((.op2 .eq (.app 6 [(.app 58 [(.var 1), (.var 3)])]) (.num 0)), true), ((.app 20 [(.app 58 [(.var 1), (.var 3)])]), true), ((.op2 .eq (.op1 .len (.app 58 [(.var 1), (.var 3)])) (.num 0)), false), ((.op2 .eq (.app 6 [(.var 1)]) (.num 0)), true), ((.app 20 [(.var 1)]), true), ((.op2 .lt (.num 24) (.op1 .len (.var 1))), false)], none),
  ([((.op2 .eq (.app 6 [(.app 58 [(.var 1), (.var 3)])]) (.num 0)), false), ((.app 20 [(.app 58 [(.var 1), (.var 3)])]), true), ((.op2 .eq (.op1 .len (.app 58 [(.var 1), (.var 3)])) (.num 0)), false), ((.op2 .eq (.app 6 [(.var 1)]) (.num 0)), true), ((.app 20 [(.var 1)]), true), ((.op2 .lt (.num 24) (.op1 .len (.var 1))), false)], none),
  ([((.app 20 [(.app 58 [(.var 1), (.var 3)])]), false), ((.op2 .eq (.op1 .len (.app 58 [(.var 1), (.var 3)])) (.num 0)), false), ((.op2 .eq (.app 6 [(.var 1)]) (.num 0)), true), ((.app 20 [(.var 1)]), true), ((.op2 .lt (.num 24) (.op1 .len (.var 1))), false)], none),
  ([((.op2 .eq (.app 6 [(.var 1)]) (.num 0)), false), ((.app 20 [(.var 1)]), true), ((.op2 .lt (.num 24) (.op1 .len (.var 1))), false)], some []),
  ([((.app 20 [(.var 1)]), false), ((.op2 .lt (.num 24) (.op1 .len (.var 1))), false)], none)]
theorem pw_w (r : Rho) : pw_fn.ways pw_call E1 r pw_pre pw_t = some pw_l := by kernel_rfl
theorem now_of {l : List Ptg} {h : Int} (h0 : (checkP l).2 = 0) (hl : (l.length : Int) ≤ 1010) : (checkP (hourP l h)).2 = 0 ∧ shortB (hourP l h) = true ∧ uptoP (hourP l h) = hourP l h ∧ (hourP l h ≠ [] → NowK l h) := by
  have hc : (checkP (hourP l h)).2 = 0 := by
    have := check_take h0 (hourP l h).length
    rwa [(check_hours h0 h).1] at this
  have hs : shortB (hourP l h) = true := len_short (by have : (hourP l h).length ≤ l.length := List.length_filter_le _ _; omega)
  exact ⟨hc, hs, upto_full hc, fun hne => ⟨hc, hs, upto_full hc, book_of hc hne⟩⟩
theorem NowK.fin {l : List Ptg} {h : Int} (k : NowK l h) : (IntKind.i64.wrap (IntKind.i64.wrap ((heldV (hourP l h)).map valZ).sum + ((soldK (hourP l h)).map fun c => sumH (hourP l h) c 41).sum) == ((soldK (hourP l h)).map fun c => soldW (hourP l h) c).sum) = true := by
  have t := k.bk.tot
  obtain ⟨⟨s1, s2⟩, ⟨s3, s4⟩⟩ := k.sums (soldK (hourP l h)).length
  rw [List.take_length] at s1 s2 s3 s4
  rw [IntWalk.i64_in (((heldV (hourP l h)).map valZ).sum) (by omega), IntWalk.i64_in _ (by omega), t]
  exact beq_self_eq_true _
theorem pw_60 : (buildH pw_fn.heap).get 60 = some (.rows 8 ptgSch (.var 0) (.var 1) false 36) := by kernel_rfl
theorem pw_out (σ : Sig) : pw_fn.out.inst σ = some (.bool true) := rfl
set_option maxRecDepth 100000 in
set_option maxHeartbeats 4000000 in
theorem pw_true {r : Rho} {σ : Sig} {w : World} {us : List Value} (hsy : r.sym = sy) (hρ : σ.rho = r) (hA : ∀ g id, E1.glob g = some id → ∃ κ, σ id = some (g, κ)) (hrel : (memOf pw_fn.heap 100).rel Tryz.prog σ w (fun b => w.heap.size ≤ b)) (hins : Ins σ pw_fn.args us) :
    Calls Tryz.prog 7 us.toArray w fun e w' => e = .returned (.bool true) ∧ Kept (fun b => w.heap.size ≤ b) w w' := by
  obtain ⟨u0, us, rfl, g0, hi⟩ := ins_cons hins
  obtain ⟨u1, us, rfl, g1, hi⟩ := ins_cons hi
  obtain ⟨h, k3, rfl, h3⟩ := one_int g1
  obtain ⟨l, h1⟩ := ptgs_at hrel (i := 60) pw_60
  rw [hρ] at h1 h3
  have h1 : r.val 1 = some (ptgsR l) := h1
  suffices both : AsksL r (pw_t.asks pw_pre) ∧ EndsOk r pw_l from law_of (E := E1) (D := pw_fn) E1_ok (fun F => LM_ok F hsy) (fun F => lOut_H h1 h3 hsy F) (pw_w r) hρ hA trivial hrel hins both.1 both.2 pw_out
  by_cases h24 : 24 < (l.length : Int)
  · refine ⟨?_, ?_⟩
    · simp only [pw_pre, pw_t, AsksL, GTree.asks, FTree.asks, FactsIn, List.append_nil, List.nil_append, List.cons_append, Option.some.injEq, exists_eq', implies_true, and_self, X.bool, X.den, denL, d_wrap, d_kind, d_not, d_neg, d_slen, d_add, d_sub, d_mul, d_div, d_mod, d_lt, d_le, d_eq, d_eqb, d_eqs, d_lts, d_cat, d_sat, d_and, d_or, denSub, d_ite2, d_eq_ite2, asB, ptgs_len, ptgs_cell, ptgs_lsub, rows_len, iR_len, iR_cell, valRows_len, h1, h3, hsy, sym6, sym10, sym20, sym31, sym35, sym37, sym38, sym39, sym40, sym41, sym42, sym47, sym48, sym51, sym52, sym58, sym32, sym33v, h24]
      try simp [h24]
    · simp only [pw_l, EndsOk, WaysOk, forall_cons, forall_nil, TgtOk, gpair, FactsIn, hold_cons, hold_nil, Option.some.injEq, Value.bool.injEq, Value.int.injEq, decide_eq_true_eq, decide_eq_false_iff_not, and_true, true_and, and_imp, X.bool, X.den, denL, d_wrap, d_kind, d_not, d_neg, d_slen, d_add, d_sub, d_mul, d_div, d_mod, d_lt, d_le, d_eq, d_eqb, d_eqs, d_lts, d_cat, d_sat, d_and, d_or, denSub, d_ite2, d_eq_ite2, asB, ptgs_len, ptgs_cell, ptgs_lsub, beq_iff_eq, beq_eq_false_iff_ne, ne_eq, rows_len, iR_len, iR_cell, valRows_len, h1, h3, hsy, sym6, sym10, sym20, sym31, sym35, sym37, sym38, sym39, sym40, sym41, sym42, sym47, sym48, sym51, sym52, sym58, sym32, sym33v, h24]
      clear hρ hrel hi hins g0 g1 h1 h3 hsy hA
      (repeat' apply And.intro) <;> intros <;> first
        | (exact True.intro)
        | rfl
        | contradiction
        | (exfalso; omega)
        | (exfalso; simp_all; done)
        | (simp_all; done)
  have hmax : (l.length : Int) ≤ 1010 := by omega
  have hsl : shortB l = true := len_short hmax
  by_cases h0 : (checkP l).2 = 0
  · obtain ⟨n1, n2, n3, n4⟩ := now_of (h := h) h0 hmax
    by_cases hz : (hourP l h) = []
    · have hz0 : (hourP l h).length = 0 := by rw [hz]; rfl
      refine ⟨?_, ?_⟩
      · simp only [pw_pre, pw_t, AsksL, GTree.asks, FTree.asks, FactsIn, List.append_nil, List.nil_append, List.cons_append, Option.some.injEq, exists_eq', implies_true, and_self, X.bool, X.den, denL, d_wrap, d_kind, d_not, d_neg, d_slen, d_add, d_sub, d_mul, d_div, d_mod, d_lt, d_le, d_eq, d_eqb, d_eqs, d_lts, d_cat, d_sat, d_and, d_or, denSub, d_ite2, d_eq_ite2, asB, ptgs_len, ptgs_cell, ptgs_lsub, rows_len, iR_len, iR_cell, valRows_len, h1, h3, hsy, sym6, sym10, sym20, sym31, sym35, sym37, sym38, sym39, sym40, sym41, sym42, sym47, sym48, sym51, sym52, sym58, sym32, sym33v, h24, h0, hsl, n1, n2, n3, hz0]
        try simp [h24]
      · simp only [pw_l, EndsOk, WaysOk, forall_cons, forall_nil, TgtOk, gpair, FactsIn, hold_cons, hold_nil, Option.some.injEq, Value.bool.injEq, Value.int.injEq, decide_eq_true_eq, decide_eq_false_iff_not, and_true, true_and, and_imp, X.bool, X.den, denL, d_wrap, d_kind, d_not, d_neg, d_slen, d_add, d_sub, d_mul, d_div, d_mod, d_lt, d_le, d_eq, d_eqb, d_eqs, d_lts, d_cat, d_sat, d_and, d_or, denSub, d_ite2, d_eq_ite2, asB, ptgs_len, ptgs_cell, ptgs_lsub, beq_iff_eq, beq_eq_false_iff_ne, ne_eq, rows_len, iR_len, iR_cell, valRows_len, h1, h3, hsy, sym6, sym10, sym20, sym31, sym35, sym37, sym38, sym39, sym40, sym41, sym42, sym47, sym48, sym51, sym52, sym58, sym32, sym33v, h24, h0, hsl, n1, n2, n3, hz0]
        clear hρ hrel hi hins g0 g1 h1 h3 hsy hA
        (repeat' apply And.intro) <;> intros <;> first
          | (exact True.intro)
          | rfl
          | contradiction
          | (exfalso; omega)
          | (exfalso; simp_all; done)
          | (simp_all; done)
    · have k := n4 hz
      have hnz : ¬ ((hourP l h).length : Int) = 0 := by
        intro e
        exact hz (List.eq_nil_of_length_eq_zero (by omega))
      have q1 := k.bk.wk
      have q2 := k.bk.wz
      have q3 : ¬ (1000000000 : Int) < (soldV (hourP l h)).length := by have := k.bk.l1; omega
      have q4 : ¬ (1000000000 : Int) < (heldV (hourP l h)).length := by have := k.bk.l2; omega
      have q5 : ¬ ((soldV (hourP l h)).length : Int) = 0 := by have := k.bk.ne; omega
      have q6 := k.fin
      refine ⟨?_, ?_⟩
      · simp only [pw_pre, pw_t, AsksL, GTree.asks, FTree.asks, FactsIn, List.append_nil, List.nil_append, List.cons_append, Option.some.injEq, exists_eq', implies_true, and_self, X.bool, X.den, denL, d_wrap, d_kind, d_not, d_neg, d_slen, d_add, d_sub, d_mul, d_div, d_mod, d_lt, d_le, d_eq, d_eqb, d_eqs, d_lts, d_cat, d_sat, d_and, d_or, denSub, d_ite2, d_eq_ite2, asB, ptgs_len, ptgs_cell, ptgs_lsub, rows_len, iR_len, iR_cell, valRows_len, h1, h3, hsy, sym6, sym10, sym20, sym31, sym35, sym37, sym38, sym39, sym40, sym41, sym42, sym47, sym48, sym51, sym52, sym58, sym32, sym33v, h24, h0, hsl, n1, n2, n3, hnz, q1, q2, q3, q4, q5, q6, hasAll_is]
        try simp [h24]
      · simp only [pw_l, EndsOk, WaysOk, forall_cons, forall_nil, TgtOk, gpair, FactsIn, hold_cons, hold_nil, Option.some.injEq, Value.bool.injEq, Value.int.injEq, decide_eq_true_eq, decide_eq_false_iff_not, and_true, true_and, and_imp, X.bool, X.den, denL, d_wrap, d_kind, d_not, d_neg, d_slen, d_add, d_sub, d_mul, d_div, d_mod, d_lt, d_le, d_eq, d_eqb, d_eqs, d_lts, d_cat, d_sat, d_and, d_or, denSub, d_ite2, d_eq_ite2, asB, ptgs_len, ptgs_cell, ptgs_lsub, beq_iff_eq, beq_eq_false_iff_ne, ne_eq, rows_len, iR_len, iR_cell, valRows_len, h1, h3, hsy, sym6, sym10, sym20, sym31, sym35, sym37, sym38, sym39, sym40, sym41, sym42, sym47, sym48, sym51, sym52, sym58, sym32, sym33v, h24, h0, hsl, n1, n2, n3, hnz, q1, q2, q3, q4, q5, q6, hasAll_is]
        clear hρ hrel hi hins g0 g1 h1 h3 hsy hA
        (repeat' apply And.intro) <;> intros <;> first
          | (exact True.intro)
          | rfl
          | contradiction
          | (exfalso; omega)
          | (exfalso; simp_all; done)
          | (simp_all; done)
  · refine ⟨?_, ?_⟩
    · simp only [pw_pre, pw_t, AsksL, GTree.asks, FTree.asks, FactsIn, List.append_nil, List.nil_append, List.cons_append, Option.some.injEq, exists_eq', implies_true, and_self, X.bool, X.den, denL, d_wrap, d_kind, d_not, d_neg, d_slen, d_add, d_sub, d_mul, d_div, d_mod, d_lt, d_le, d_eq, d_eqb, d_eqs, d_lts, d_cat, d_sat, d_and, d_or, denSub, d_ite2, d_eq_ite2, asB, ptgs_len, ptgs_cell, ptgs_lsub, rows_len, iR_len, iR_cell, valRows_len, h1, h3, hsy, sym6, sym10, sym20, sym31, sym35, sym37, sym38, sym39, sym40, sym41, sym42, sym47, sym48, sym51, sym52, sym58, sym32, sym33v, h24, h0, hsl]
      try simp [h24, h0]
    · simp only [pw_l, EndsOk, WaysOk, forall_cons, forall_nil, TgtOk, gpair, FactsIn, hold_cons, hold_nil, Option.some.injEq, Value.bool.injEq, Value.int.injEq, decide_eq_true_eq, decide_eq_false_iff_not, and_true, true_and, and_imp, X.bool, X.den, denL, d_wrap, d_kind, d_not, d_neg, d_slen, d_add, d_sub, d_mul, d_div, d_mod, d_lt, d_le, d_eq, d_eqb, d_eqs, d_lts, d_cat, d_sat, d_and, d_or, denSub, d_ite2, d_eq_ite2, asB, ptgs_len, ptgs_cell, ptgs_lsub, beq_iff_eq, beq_eq_false_iff_ne, ne_eq, rows_len, iR_len, iR_cell, valRows_len, h1, h3, hsy, sym6, sym10, sym20, sym31, sym35, sym37, sym38, sym39, sym40, sym41, sym42, sym47, sym48, sym51, sym52, sym58, sym32, sym33v, h24, h0, hsl]
      clear hρ hrel hi hins g0 g1 h1 h3 hsy hA
      (repeat' apply And.intro) <;> intros <;> first
        | (exact True.intro)
        | rfl
        | contradiction
        | (exfalso; omega)
        | (exfalso; simp_all; done)
        | (simp_all; done)

noncomputable def pwNil_fn : FnD := { f := 7, args := argsAV [.nils, .one (.int .i64 3)], heap := hRoot ++ argsBlk [.nils, .one (.int .i64 3)], N := 100, M := 100, out := .sbool (.boo true), news := [] }
noncomputable def pwNil_call : Env → CallL := fun E => acallAll E (evH E (LM E) ((fun _ => noLoops) E) 10)
noncomputable def pwNil_pre : List (X × Bool) := []
noncomputable def pwNil_t : GTree := (.leaf [[]])
noncomputable def pwNil_l : List (List (X × Bool) × Option Pairs) := [([], some [])]
theorem pwNil_w (r : Rho) : pwNil_fn.ways pwNil_call E1 r pwNil_pre pwNil_t = some pwNil_l := by kernel_rfl
theorem pwNil_out (σ : Sig) : pwNil_fn.out.inst σ = some (.bool true) := rfl
set_option maxRecDepth 100000 in
set_option maxHeartbeats 4000000 in
theorem pwNil_true {r : Rho} {σ : Sig} {w : World} {us : List Value} (hsy : r.sym = sy) (hρ : σ.rho = r) (hA : ∀ g id, E1.glob g = some id → ∃ κ, σ id = some (g, κ)) (hrel : (memOf pwNil_fn.heap 100).rel Tryz.prog σ w (fun b => w.heap.size ≤ b)) (hins : Ins σ pwNil_fn.args us) :
    Calls Tryz.prog 7 us.toArray w fun e w' => e = .returned (.bool true) ∧ Kept (fun b => w.heap.size ≤ b) w w' := by
  obtain ⟨u0, us, rfl, g0, hi⟩ := ins_cons hins
  obtain ⟨u1, us, rfl, g1, hi⟩ := ins_cons hi
  obtain ⟨h, k3, rfl, h3⟩ := one_int g1
  rw [hρ] at h3
  suffices both : AsksL r (pwNil_t.asks pwNil_pre) ∧ EndsOk r pwNil_l from law_of (E := E1) (D := pwNil_fn) E1_ok (fun F => LM_ok F hsy) (fun F => noH_ok) (pwNil_w r) hρ hA trivial hrel hins both.1 both.2 pwNil_out
  refine ⟨?_, ?_⟩
  · simp only [pwNil_pre, pwNil_t, AsksL, GTree.asks, FTree.asks, FactsIn, List.append_nil, List.nil_append, List.cons_append, Option.some.injEq, exists_eq', implies_true, and_self, X.bool, X.den, denL, d_wrap, d_kind, d_not, d_neg, d_slen, d_add, d_sub, d_mul, d_div, d_mod, d_lt, d_le, d_eq, d_eqb, d_eqs, d_lts, d_cat, d_sat, d_and, d_or, denSub, denIte, asB, ptgs_len, ptgs_cell, ptgs_lsub, h3, hsy]
    try simp
  · simp only [pwNil_l, EndsOk, WaysOk, forall_cons, forall_nil, TgtOk, gpair, FactsIn, hold_cons, hold_nil, Option.some.injEq, Value.bool.injEq, Value.int.injEq, decide_eq_true_eq, decide_eq_false_iff_not, and_true, true_and, and_imp, X.bool, X.den, denL, d_wrap, d_kind, d_not, d_neg, d_slen, d_add, d_sub, d_mul, d_div, d_mod, d_lt, d_le, d_eq, d_eqb, d_eqs, d_lts, d_cat, d_sat, d_and, d_or, denSub, denIte, asB, ptgs_len, ptgs_cell, ptgs_lsub, h3, hsy]
    try simp

end Go.Proofs.YtfmgfehjbedcmaaGreat.Zs
