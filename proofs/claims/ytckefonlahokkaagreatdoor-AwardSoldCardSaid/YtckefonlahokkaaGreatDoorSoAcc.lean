/-
  The mathematics of sales that count: no model.
-/
import Derived.Test.YtckefonlahokkaaGreatDoorSoConE
set_option linter.unusedSimpArgs false
set_option linter.unusedVariables false
namespace Go.Proofs.YtckefonlahokkaaGreatDoor.Zs
open Go
theorem hasR_put (y : Rec5) : ∀ (m : List Rec5) (k : Int), hasR (putR y m) k = (decide (y.k = k) || hasR m k)
  | [], k => by unfold putR hasR; simp [Bool.beq_eq_decide_eq]
  | x :: m, k => by
    have ih := hasR_put y m k
    unfold hasR at ih ⊢
    unfold putR
    by_cases h : x.k = y.k
    · rw [if_pos h]
      simp only [List.any_cons, h]
      cases hb : (y.k == k) with
      | true => simp [beq_iff_eq.1 hb]
      | false => simp [beq_eq_false_iff_ne.1 hb]
    · rw [if_neg h]
      simp only [List.any_cons, ih]
      cases (x.k == k) <;> simp
theorem getR_cons (x : Rec5) (m : List Rec5) (k : Int) : getR (x :: m) k = if x.k = k then x else getR m k := by
  unfold getR
  by_cases h : x.k = k
  · simp [h]
  · have h' : (x.k == k) = false := beq_eq_false_iff_ne.2 h
    simp only [List.find?_cons, h', h, if_false]
theorem getR_put (y : Rec5) : ∀ (m : List Rec5) (k : Int), getR (putR y m) k = if y.k = k then y else getR m k
  | [], k => by unfold putR; rw [getR_cons]
  | x :: m, k => by
    unfold putR
    by_cases h : x.k = y.k
    · rw [if_pos h, getR_cons, getR_cons]
      by_cases h2 : y.k = k
      · simp [h2]
      · rw [if_neg h2, if_neg h2, if_neg (by rw [h]; exact h2)]
    · rw [if_neg h, getR_cons, getR_cons, getR_put y m k]
      by_cases h2 : x.k = k
      · rw [if_pos h2, if_pos h2, if_neg (by intro e; exact h (h2.trans e.symm))]
      · rw [if_neg h2, if_neg h2]
theorem atF_cons (x : Flg) (m : List Flg) (k : Int) : atF (x :: m) k = if x.k = k then x.b else atF m k := by
  unfold atF
  by_cases h : x.k = k
  · simp [h]
  · have h' : (x.k == k) = false := beq_eq_false_iff_ne.2 h
    simp only [List.find?_cons, h', h, if_false]
theorem atF_put (k : Int) (b : Bool) : ∀ (m : List Flg) (k' : Int), atF (putF k b m) k' = if k = k' then b else atF m k'
  | [], k' => by unfold putF; rw [atF_cons]
  | x :: m, k' => by
    unfold putF
    by_cases h : x.k = k
    · rw [if_pos h, atF_cons, atF_cons]
      by_cases h2 : k = k'
      · simp [h2]
      · rw [if_neg h2, if_neg h2, if_neg (by rw [h]; exact h2)]
    · rw [if_neg h, atF_cons, atF_cons, atF_put k b m k']
      by_cases h2 : x.k = k'
      · rw [if_pos h2, if_pos h2, if_neg (by intro e; exact h (h2.trans e.symm))]
      · rw [if_neg h2, if_neg h2]
theorem atF_del (k : Int) : ∀ (m : List Flg) {k' : Int}, k ≠ k' → atF (delF k m) k' = atF m k'
  | [], k', _ => rfl
  | x :: m, k', h => by
    unfold delF
    by_cases h1 : x.k = k
    · rw [if_pos h1, atF_cons, if_neg (by rw [h1]; exact h)]
    · rw [if_neg h1, atF_cons, atF_cons, atF_del k m h]
def OkL (l : List Sal9) : Prop := ∀ i x, l[i]? = some x → refS (l.take i) x = 0
theorem okL_snoc {l : List Sal9} {y : Sal9} (h : OkL (l ++ [y])) : OkL l ∧ refS l y = 0 := by
  refine ⟨fun i x hi => ?_, ?_⟩
  · have hil := (List.getElem?_eq_some_iff.1 hi).1
    have := h i x (by rw [List.getElem?_append_left hil]; exact hi)
    rwa [List.take_append_of_le_length (by omega)] at this
  · have := h l.length y (by simp)
    simpa using this
theorem okL_pre {a b : List Sal9} (h : OkL (a ++ b)) : OkL a := fun i x hi => by
  have hil := (List.getElem?_eq_some_iff.1 hi).1
  have := h i x (by rw [List.getElem?_append_left hil]; exact hi)
  rwa [List.take_append_of_le_length (by omega)] at this
theorem ok_of_chk {l : List Sal9} (h : chkE l = 0) : OkL l := fun i x hi => (chk_ref h hi).2
def Unv (l : List Sal9) (x : Sal9) : Prop := x.of_ = 0 ∧ atF (voidM l) x.id = false
structure GoodS (l : List Sal9) : Prop where
  ids : l.Pairwise fun x y => x.id ≠ y.id
  rec_ : ∀ x ∈ l, hasR (recM l) x.id = true ∧ getR (recM l) x.id = recOf x
  from_ : ∀ k, hasR (recM l) k = true → ∃ x ∈ l, x.id = k
  sold : ∀ x ∈ l, Unv l x → atF (soldM l) x.parcel = true
  one : ∀ x ∈ l, ∀ z ∈ l, Unv l x → Unv l z → x.parcel = z.parcel → x.id = z.id
  asc : l.Pairwise fun x y => x.known ≤ y.known
  last : ∀ x ∈ l, x.known ≤ lastS l
theorem ref_zero {pre : List Sal9} {x : Sal9} (h : refS pre x = 0) : saleB x = true ∧ hasR (recM pre) x.id = false ∧ lastS pre ≤ x.known ∧
    ((x.of_ = 0 ∧ atF (soldM pre) x.parcel = false) ∨ (x.of_ ≠ 0 ∧ hasR (recM pre) x.of_ = true ∧ (getR (recM pre) x.of_).of_ = 0 ∧ atF (voidM pre) x.of_ = false)) := by
  have h1 := ref_sale h
  unfold refS at h
  rw [h1] at h
  cases h2 : hasR (recM pre) x.id with
  | true => rw [h2] at h; simp at h
  | false =>
    rw [h2] at h
    by_cases h3 : x.known < lastS pre
    · rw [decide_eq_true h3] at h; simp at h
    · rw [decide_eq_false h3] at h
      refine ⟨h1, rfl, by omega, ?_⟩
      by_cases h4 : x.of_ = 0
      · left
        cases h5 : atF (soldM pre) x.parcel with
        | false => exact ⟨h4, rfl⟩
        | true => rw [h5] at h; simp [h4] at h
      · right
        have h4' : (x.of_ == 0) = false := beq_eq_false_iff_ne.2 h4
        rw [h4'] at h
        cases h5 : hasR (recM pre) x.of_ with
        | false => rw [h5] at h; simp at h
        | true =>
          rw [h5] at h
          by_cases h6 : (getR (recM pre) x.of_).of_ = 0
          · cases h7 : atF (voidM pre) x.of_ with
            | false => exact ⟨h4, rfl, h6, rfl⟩
            | true => rw [h7] at h; simp [h6] at h
          · have h6' : ((getR (recM pre) x.of_).of_ == 0) = false := beq_eq_false_iff_ne.2 h6
            rw [h6'] at h; simp at h
theorem sale_parcel {x : Sal9} (h : saleB x = true) : (x.of_ = 0 → x.parcel ≠ 0) ∧ (x.of_ ≠ 0 → x.parcel = 0) := by
  unfold saleB at h
  refine ⟨fun h0 => ?_, fun h0 => ?_⟩
  · rw [if_pos h0] at h
    simp only [Bool.and_eq_true] at h
    have := h.2.2.1
    unfold withinB at this
    simp at this
    omega
  · rw [if_neg h0] at h
    simp only [Bool.and_eq_true, beq_iff_eq] at h
    exact h.2.2.1
theorem good_snoc {l : List Sal9} {y : Sal9} (g : GoodS l) (h : refS l y = 0) : GoodS (l ++ [y]) := by
  obtain ⟨h1, h2, h3, h4⟩ := ref_zero h
  obtain ⟨p1, p2⟩ := sale_parcel h1
  have hy : ∀ x ∈ l, x.id ≠ y.id := fun x hx e => by
    have := (g.rec_ x hx).1
    rw [e, h2] at this; cases this
  have hrec : recM (l ++ [y]) = putR (recOf y) (recM l) := recM_snoc l y
  have hk : (recOf y).k = y.id := rfl
  -- who is unvoided now was so before
  have hun : ∀ x ∈ l, Unv (l ++ [y]) x → Unv l x := fun x hx hu => by
    refine ⟨hu.1, ?_⟩
    have := hu.2
    rw [voidM_snoc] at this
    split at this
    · exact this
    · rw [atF_put] at this
      split at this
      · cases this
      · exact this
  have hmem : ∀ x, x ∈ l ++ [y] → x ∈ l ∨ x = y := fun x hx => by simpa using hx
  have hold : ∀ x ∈ l, Unv (l ++ [y]) x → atF (soldM (l ++ [y])) x.parcel = true := fun x hx hu => by
    have hs := g.sold x hx (hun x hx hu)
    rw [soldM_snoc]
    unfold soldStep
    rcases h4 with ⟨h0, h5⟩ | ⟨h0, h5, h6, h7⟩
    · rw [if_neg (p1 h0), if_pos h0, atF_put]
      split
      · rfl
      · exact hs
    · rw [if_pos (p2 h0), if_neg h0]
      have hne : y.id ≠ y.of_ := fun e => by rw [e, h5] at h2; cases h2
      obtain ⟨w, hw, hwi⟩ := g.from_ _ h5
      have hg : getR (putR (recOf y) (recM l)) y.of_ = recOf w := by
        rw [getR_put, if_neg (by rw [hk]; exact hne), ← hwi]
        exact (g.rec_ w hw).2
      rw [hg]
      have hwu : Unv l w := by
        refine ⟨?_, by rw [hwi]; exact h7⟩
        rw [← hwi, (g.rec_ w hw).2] at h6
        exact h6
      have hxw : x.id ≠ y.of_ := fun e => by
        have := hu.2
        rw [voidM_snoc, if_neg h0, atF_put, if_pos e.symm] at this
        cases this
      have hpp : (recOf w).parcel ≠ x.parcel := fun e => hxw ((g.one x hx w hw (hun x hx hu) hwu e.symm).trans hwi)
      rw [atF_del _ _ hpp]
      exact hs
  refine ⟨?_, ?_, ?_, ?_, ?_, ?_, ?_⟩
  · rw [List.pairwise_append]
    exact ⟨g.ids, List.pairwise_singleton .., fun x hx z hz => by rw [List.mem_singleton.1 hz]; exact hy x hx⟩
  · intro x hx
    rw [hrec, hasR_put, getR_put, hk]
    rcases hmem x hx with hx | rfl
    · rw [if_neg (fun e => hy x hx e.symm), (g.rec_ x hx).1]
      exact ⟨by simp, (g.rec_ x hx).2⟩
    · exact ⟨by simp, if_pos rfl⟩
  · intro k hk'
    rw [hrec, hasR_put, hk] at hk'
    by_cases e : y.id = k
    · exact ⟨y, by simp, e⟩
    · rw [decide_eq_false e, Bool.false_or] at hk'
      obtain ⟨x, hx, hxk⟩ := g.from_ k hk'
      exact ⟨x, by simp [hx], hxk⟩
  · intro x hx hu
    rcases hmem x hx with hx | rfl
    · exact hold x hx hu
    · rw [soldM_snoc]
      unfold soldStep
      rw [if_neg (p1 hu.1), atF_put, if_pos rfl]
  · have new : ∀ x ∈ l, Unv (l ++ [y]) x → Unv (l ++ [y]) y → x.parcel ≠ y.parcel := fun x hx hu hv e => by
      rcases h4 with ⟨h0, h5⟩ | ⟨h0, _⟩
      · have := g.sold x hx (hun x hx hu)
        rw [e, h5] at this; cases this
      · exact h0 hv.1
    intro x hx z hz hu hv e
    rcases hmem x hx with hx | hx <;> rcases hmem z hz with hz | hz
    · exact g.one x hx z hz (hun x hx hu) (hun z hz hv) e
    · rw [hz] at e hv; exact absurd e (new x hx hu hv)
    · rw [hx] at e hu; exact absurd e.symm (new z hz hv hu)
    · rw [hx, hz]
  · rw [List.pairwise_append]
    exact ⟨g.asc, List.pairwise_singleton .., fun x hx z hz => by rw [List.mem_singleton.1 hz]; have := g.last x hx; omega⟩
  · intro x hx
    rw [lastS_snoc]
    rcases hmem x hx with hx | rfl
    · have := g.last x hx; omega
    · exact Int.le_refl _
theorem good_nil : GoodS [] := by
  refine ⟨List.Pairwise.nil, fun x hx => (by cases hx), fun k h => ?_, fun x hx => (by cases hx), fun x hx => (by cases hx), List.Pairwise.nil, fun x hx => (by cases hx)⟩
  simp [recM, hasR] at h
theorem good_of : ∀ (n : Nat) (l : List Sal9), l.length = n → OkL l → GoodS l
  | 0, l, hn, _ => by rw [List.length_eq_zero_iff.1 hn]; exact good_nil
  | n + 1, l, hn, h => by
    have hne : l ≠ [] := fun e => by rw [e] at hn; cases hn
    have hl := List.dropLast_concat_getLast hne
    rw [← hl] at h ⊢
    obtain ⟨a, b⟩ := okL_snoc h
    exact good_snoc (good_of n _ (by simp [hn]) a) b
theorem split_known (K : Int) : ∀ (l : List Sal9), l.Pairwise (fun x y => x.known ≤ y.known) → ∃ a b, l = a ++ b ∧ (∀ x ∈ a, x.known ≤ K) ∧ (∀ x ∈ b, K < x.known)
  | [], _ => ⟨[], [], rfl, fun x hx => (by cases hx), fun x hx => (by cases hx)⟩
  | x :: l, h => by
    obtain ⟨hx, hl⟩ := List.pairwise_cons.1 h
    by_cases hk : x.known ≤ K
    · obtain ⟨a, b, rfl, ha, hb⟩ := split_known K l hl
      refine ⟨x :: a, b, rfl, fun z hz => ?_, hb⟩
      rcases List.mem_cons.1 hz with rfl | hz
      · exact hk
      · exact ha z hz
    · refine ⟨[], x :: l, rfl, fun z hz => (by cases hz), fun z hz => ?_⟩
      rcases List.mem_cons.1 hz with rfl | hz
      · omega
      · have := hx z hz; omega
theorem voidK_split {a b : List Sal9} {K : Int} (ha : ∀ x ∈ a, x.known ≤ K) (hb : ∀ x ∈ b, K < x.known) : voidK (a ++ b) K = voidM a := by
  have k1 : ∀ (a : List Sal9) (m : List Flg), (∀ x ∈ a, x.known ≤ K) → a.foldl (fun m x => if x.of_ ≠ 0 ∧ x.known ≤ K then putF x.of_ true m else m) m = a.foldl (fun m x => if x.of_ = 0 then m else putF x.of_ true m) m := by
    intro a
    induction a with
    | nil => intro m _; rfl
    | cons x a ih =>
      intro m h
      have hx := h x (List.mem_cons_self ..)
      simp only [List.foldl_cons]
      rw [show (if x.of_ ≠ 0 ∧ x.known ≤ K then putF x.of_ true m else m) = (if x.of_ = 0 then m else putF x.of_ true m) by by_cases h0 : x.of_ = 0 <;> simp [h0, hx]]
      exact ih _ fun z hz => h z (List.mem_cons_of_mem _ hz)
  have k2 : ∀ (b : List Sal9) (m : List Flg), (∀ x ∈ b, K < x.known) → b.foldl (fun m x => if x.of_ ≠ 0 ∧ x.known ≤ K then putF x.of_ true m else m) m = m := by
    intro b
    induction b with
    | nil => intro m _; rfl
    | cons x b ih =>
      intro m h
      have hx := h x (List.mem_cons_self ..)
      simp only [List.foldl_cons]
      rw [if_neg (by omega)]
      exact ih _ fun z hz => h z (List.mem_cons_of_mem _ hz)
  unfold voidK voidM
  rw [List.foldl_append, k2 b _ hb, k1 a _ ha]
theorem count_one {l : List Sal9} (h : chkE l = 0) (K : Int) : (countS l K).Pairwise fun x y => x.parcel ≠ y.parcel := by
  have g := good_of _ l rfl (ok_of_chk h)
  obtain ⟨a, b, rfl, ha, hb⟩ := split_known K l g.asc
  have ga := good_of _ a rfl (okL_pre (ok_of_chk h))
  have hv := voidK_split ha hb
  unfold countS
  rw [List.filter_append, List.pairwise_append]
  have hcb : ∀ x ∈ b, cntB (a ++ b) K x = false := fun x hx => by
    have := hb x hx
    unfold cntB
    rw [decide_eq_false (by omega)]
    simp
  have hnb : b.filter (cntB (a ++ b) K) = [] := List.filter_eq_nil_iff.2 fun x hx => by rw [hcb x hx]; decide
  rw [hnb]
  refine ⟨?_, List.Pairwise.nil, fun x _ z hz => by cases hz⟩
  have hu : ∀ x, cntB (a ++ b) K x = true → Unv a x := fun x hx => by
    unfold cntB at hx
    rw [hv] at hx
    simp only [Bool.and_eq_true, beq_iff_eq, Bool.not_eq_true'] at hx
    exact ⟨hx.1.1, hx.2⟩
  rw [List.pairwise_filter]
  refine ga.ids.imp_of_mem fun {x y} hx hy hid hc1 hc2 e => ?_
  exact hid (ga.one x hx y hy (hu x hc1) (hu y hc2) e)
open Go
theorem find_one : ∀ (c : List Sal9), c.Pairwise (fun x y => x.parcel ≠ y.parcel) → ∀ x ∈ c, c.find? (fun z => z.parcel == x.parcel) = some x
  | [], _, x, hx => by cases hx
  | y :: c, h, x, hx => by
    obtain ⟨hy, hc⟩ := List.pairwise_cons.1 h
    rcases List.mem_cons.1 hx with rfl | hx
    · simp
    · have hne : (y.parcel == x.parcel) = false := beq_eq_false_iff_ne.2 (hy x hx)
      rw [List.find?_cons, hne]
      exact find_one c hc x hx
theorem prc_miss (k : Int) : ∀ (c : List Sal9) (m : List Shr), (∀ z ∈ c, z.parcel ≠ k) → atP (c.foldl (fun m x => putK x.parcel x.price m) m) k = atP m k
  | [], m, _ => rfl
  | y :: c, m, h => by
    rw [List.foldl_cons, prc_miss k c _ fun z hz => h z (List.mem_cons_of_mem _ hz), atP_put, if_neg (h y (List.mem_cons_self ..))]
theorem prc_hit : ∀ (c : List Sal9) (m : List Shr), c.Pairwise (fun x y => x.parcel ≠ y.parcel) → ∀ x ∈ c, atP (c.foldl (fun m x => putK x.parcel x.price m) m) x.parcel = x.price
  | [], m, _, x, hx => by cases hx
  | y :: c, m, h, x, hx => by
    obtain ⟨hy, hc⟩ := List.pairwise_cons.1 h
    rw [List.foldl_cons]
    rcases List.mem_cons.1 hx with rfl | hx
    · rw [prc_miss _ c _ fun z hz e => hy z hz e.symm, atP_put, if_pos rfl]
    · exact prc_hit c _ hc x hx
theorem count_mem {l : List Sal9} {K : Int} {x : Sal9} (h : x ∈ countS l K) : x ∈ l ∧ x.of_ = 0 := by
  obtain ⟨hm, hc⟩ := List.mem_filter.1 h
  unfold cntB at hc
  simp only [Bool.and_eq_true, beq_iff_eq] at hc
  exact ⟨hm, hc.1.1⟩
theorem sorted_mem {l : List Who} {w : Who} : w ∈ sortedW l ↔ w ∈ l := by
  unfold sortedW
  rw [List.mem_map]
  constructor
  · rintro ⟨n, hn, rfl⟩
    obtain ⟨v, hv, rfl⟩ := List.mem_map.1 (List.mem_mergeSort.1 hn)
    exact hv
  · intro h
    exact ⟨w.n, List.mem_mergeSort.2 (List.mem_map.2 ⟨w, h, rfl⟩), rfl⟩
theorem sorted_len (l : List Who) : (sortedW l).length = l.length := by simp [sortedW]
theorem sorted_lt {l : List Who} (h : l.Pairwise fun x y => x.n ≠ y.n) : (sortedW l).Pairwise fun x y => x.n < y.n := by
  unfold sortedW
  rw [List.pairwise_map]
  have h1 : ((l.map Who.n).mergeSort fun x y => decide (x ≤ y)).Pairwise fun x y => decide (x ≤ y) = true :=
    List.pairwise_mergeSort (fun a b c hab hbc => by simp at *; omega) (fun a b => by simp; omega) _
  have h2 : ((l.map Who.n).mergeSort fun x y => decide (x ≤ y)).Pairwise fun x y => x ≠ y :=
    (List.mergeSort_perm _ _).symm.pairwise (by rw [List.pairwise_map]; exact h) (fun {a b} hab => hab.symm)
  exact (h1.and h2).imp fun {a b} hab => by
    have := hab.1
    simp at this
    have := hab.2
    show a < b
    omega
structure SoldOk (l : List Sal9) (K : Int) (s : List Who) : Prop where
  up : ∀ i, i + 1 < s.length → (s.getD i ⟨0⟩).n < (s.getD (i + 1) ⟨0⟩).n
  at_ : ∀ w ∈ s, ∃ x, saleAt l w.n K = some x ∧ x.parcel = w.n ∧ x.price = atP (prcM l K) w.n ∧ 1 ≤ x.price ∧ x.price ≤ 1000000000
  one : s.Pairwise fun x y => x.n ≠ y.n
theorem sold_ok {l : List Sal9} (h : chkE l = 0) (K : Int) : SoldOk l K (sortedW (cntW l K)) := by
  have hc := count_one h K
  have hw : (cntW l K).Pairwise fun x y => x.n ≠ y.n := by
    unfold cntW
    rw [List.pairwise_map]
    exact hc
  have hlt := sorted_lt hw
  refine ⟨fun i hi => ?_, fun w hw => ?_, hlt.imp fun {a b} hab => by omega⟩
  · rw [List.getD_eq_getElem?_getD, List.getD_eq_getElem?_getD, List.getElem?_eq_getElem (by omega), List.getElem?_eq_getElem hi]
    exact List.pairwise_iff_getElem.1 hlt i (i + 1) (by omega) hi (by omega)
  · obtain ⟨x, hx, rfl⟩ := List.mem_map.1 (sorted_mem.1 hw)
    obtain ⟨hm, h0⟩ := count_mem hx
    have hp := sale_price (chk_sale h hm) h0
    exact ⟨x, find_one _ hc x hx, rfl, (prc_hit _ [] hc x hx).symm, hp.1, hp.2⟩
theorem seen_has : ∀ (l : List Who) (k : Int), (∀ x ∈ l, x.n ≠ k) → atF (seenF l) k = false := by
  have key : ∀ (l : List Who) (m : List Flg) (k : Int), (∀ x ∈ l, x.n ≠ k) → atF (l.foldl (fun m x => putF x.n true m) m) k = atF m k := by
    intro l
    induction l with
    | nil => intro m k _; rfl
    | cons y l ih =>
      intro m k h
      rw [List.foldl_cons, ih _ k fun z hz => h z (List.mem_cons_of_mem _ hz), atF_put, if_neg (h y (List.mem_cons_self ..))]
  intro l k h
  exact (key l [] k h).trans rfl
theorem twice_one {l : List Who} (h : l.Pairwise fun x y => x.n ≠ y.n) : twiceW l = false := by
  refine twice_no fun k hk => ?_
  unfold seenAt
  refine seen_has _ _ fun x hx => ?_
  obtain ⟨i, hi, rfl⟩ := List.getElem_of_mem hx
  rw [List.length_take] at hi
  rw [List.getElem_take, List.getD_eq_getElem?_getD, List.getElem?_eq_getElem hk]
  exact List.pairwise_iff_getElem.1 h i k (by omega) hk (by omega)
theorem sumP_app (m : List Shr) (a b : List Who) : sumP9 m (a ++ b) = sumP9 m a + sumP9 m b := by
  have key : ∀ (b : List Who) (s : Int), b.foldl (fun s x => s + atP m x.n) s = s + b.foldl (fun s x => s + atP m x.n) 0 := by
    intro b
    induction b with
    | nil => intro s; simp
    | cons x b ih => intro s; rw [List.foldl_cons, List.foldl_cons, ih, ih (0 + _)]; omega
  unfold sumP9
  rw [List.foldl_append, key]
theorem turn_at {s : List Who} {t i : Nat} (ht : t < s.length) (hi : i < s.length) : (turnW s t)[i]? = s[(i + t) % s.length]? := by
  unfold turnW
  by_cases h : i < s.length - t
  · rw [List.getElem?_append_left (by rw [List.length_drop]; exact h), List.getElem?_drop, Nat.mod_eq_of_lt (by omega), Nat.add_comm]
  · rw [List.getElem?_append_right (by rw [List.length_drop]; omega), List.length_drop, List.getElem?_take]
    have e : (i + t) % s.length = i - (s.length - t) := by
      rw [show i + t = (i - (s.length - t)) + s.length by omega, Nat.add_mod_right, Nat.mod_eq_of_lt (by omega)]
    rw [e, if_pos (by omega)]
theorem turn_len (s : List Who) (t : Nat) : (turnW s t).length = s.length := by
  unfold turnW
  rw [List.length_append, List.length_drop, List.length_take]
  omega
theorem turn_sum (m : List Shr) (s : List Who) (t : Nat) : sumP9 m (turnW s t) = sumP9 m s := by
  have h : sumP9 m s = sumP9 m (s.take t ++ s.drop t) := by rw [List.take_append_drop]
  rw [h]
  unfold turnW
  rw [sumP_app, sumP_app]
  omega
theorem turn_one {s : List Who} (t : Nat) (h : s.Pairwise fun x y => x.n ≠ y.n) : (turnW s t).Pairwise fun x y => x.n ≠ y.n := by
  rw [← List.take_append_drop t s, List.pairwise_append] at h
  unfold turnW
  rw [List.pairwise_append]
  exact ⟨h.2.1, h.1, fun x hx z hz => (h.2.2 z hz x hx).symm⟩
theorem turn_mem {s : List Who} {t : Nat} {w : Who} : w ∈ turnW s t ↔ w ∈ s := by
  unfold turnW
  rw [List.mem_append, or_comm, ← List.mem_append, List.take_append_drop]
theorem value_of {l : List Sal9} (h : chkE l = 0) (hl : l.length ≤ 30) (K : Int) {b : List Who} (hb : b.length ≤ l.length) (h1 : b.Pairwise fun x y => x.n ≠ y.n) (h2 : ∀ w ∈ b, 1 ≤ atP (prcM l K) w.n) :
    valS l b K = sumP9 (prcM l K) b ∧ valE l b K = 0 := by
  refine val_ok h (by omega) (twice_one h1) ?_ ?_
  · rw [List.all_eq_true]
    intro w hw
    have := h2 w hw
    simp
    omega
  · have := (sumP9_le (prc_bound h K) b 0).2
    unfold sumP9
    omega
end Go.Proofs.YtckefonlahokkaaGreatDoor.Zs
