/-
  The mathematics of accounts and of how a price is divided: no model.
-/
import Derived.Test.YtcmbkcebbgigcaaGreatDoorMoData
set_option linter.unusedSimpArgs false
set_option linter.unusedVariables false
namespace Go.Proofs.YtcmbkcebbgigcaaGreatDoor.Zs
open Go
theorem keys_len (m : List Shr) : ((keysS m).map Who.mk).length = m.length := by
  simp [keysS]
theorem keys_has {m : List Shr} {k : Int} (h : k ∈ keysS m) : hasK m k = true := by
  unfold keysS at h
  rw [List.mem_mergeSort] at h
  obtain ⟨x, hx, rfl⟩ := List.mem_map.1 h
  exact List.any_eq_true.2 ⟨x, hx, by simp⟩
theorem chg_len (m : List Shr) : (chgOf m).length = m.length := by simp [chgOf, keysS]
theorem keys_at {m : List Shr} {i : Nat} {k : Who} (h : ((keysS m).map Who.mk)[i]? = some k) : k.n ∈ keysS m ∧ (chgOf m)[i]? = some ⟨k.n, atK m k.n⟩ := by
  rw [List.getElem?_map] at h
  cases hk : (keysS m)[i]? with
  | none => rw [hk] at h; cases h
  | some n =>
    rw [hk] at h
    cases h
    exact ⟨List.mem_of_getElem? hk, by simp [chgOf, hk]⟩
theorem acc_all {a b : List Shr} (hca : chkS a = 0) (hcb : chkS b = 0) : AccOk (a.length + b.length) (accB (accA a) b) := by
  have ha := ((chkS_iff a).1 hca).2
  have hb := ((chkS_iff b).1 hcb).2
  have h1 := accA_ok ha a.length (Nat.le_refl _)
  rw [List.take_length] at h1
  have h2 := accB_ok h1 hb b.length (Nat.le_refl _)
  rwa [List.take_length] at h2
theorem acc_max {a b : List Shr} (hca : chkS a = 0) (hcb : chkS b = 0) : (accB (accA a) b).length ≤ 2000 := by
  have h := (acc_all hca hcb).1
  have h1 := ((chkS_iff a).1 hca).1
  have h2 := ((chkS_iff b).1 hcb).1
  omega
theorem wrap_id {a : Int} (h : wideB a = true) : IntKind.i64.wrap a = a := by
  rw [wide_iff] at h
  exact IntWalk.i64_in _ (by omega)
theorem wrap_neg {a : Int} (h : wideB a = true) : IntKind.i64.wrap (0 - a) = -a := by
  rw [wide_iff] at h
  rw [IntWalk.i64_in _ (by omega)]
  omega
theorem wrap_lowN {n : Int} (d : Int) (h : wideB n = true) : IntKind.i64.wrap (n.tdiv (gcdI n d)) = lowN n d := wrap_id (tdiv_wide _ h)
theorem wrap_lowD {d : Int} (n : Int) (h : wideB d = true) : IntKind.i64.wrap (d.tdiv (gcdI n d)) = lowD n d := wrap_id (tdiv_wide _ h)
open Go
def sumP (l : List Shr) (k : Int) : Int := (l.map fun x => if x.party = k then x.pence else 0).sum
def NoD (m : List Shr) : Prop := (m.map Shr.party).Nodup ∧ ∀ x ∈ m, x.pence ≠ 0
theorem at_cons (x : Shr) (m : List Shr) (k : Int) : atK (x :: m) k = if x.party = k then x.pence else atK m k := by
  unfold atK
  rw [List.find?_cons]
  by_cases h : x.party = k
  · simp [h]
  · rw [beq_eq_false_iff_ne.2 h, if_neg h]
theorem at_put_ne {k j : Int} (h : j ≠ k) (v : Int) : ∀ m : List Shr, atK (putK k v m) j = atK m j
  | [] => by rw [putK, at_cons, if_neg (fun e => h e.symm)]
  | x :: m => by
    rw [putK]
    split
    · rename_i hx
      rw [at_cons, at_cons, if_neg (fun e => h e.symm), if_neg (fun e => h (by rw [← e, hx]))]
    · rw [at_cons, at_cons, at_put_ne h v m]
theorem at_del_ne {k j : Int} (h : j ≠ k) : ∀ m : List Shr, atK (delK k m) j = atK m j
  | [] => rfl
  | x :: m => by
    rw [delK]
    split
    · rename_i hx
      rw [at_cons, if_neg (fun e => h (by rw [← e, hx]))]
    · rw [at_cons, at_cons, at_del_ne h m]
theorem put_keys (k v : Int) : ∀ m : List Shr, (putK k v m).map Shr.party = if k ∈ m.map Shr.party then m.map Shr.party else m.map Shr.party ++ [k]
  | [] => rfl
  | x :: m => by
    rw [putK]
    split
    · rename_i hx; simp [hx]
    · rename_i hx
      have := put_keys k v m
      rw [List.map_cons, this]
      by_cases hk : k ∈ m.map Shr.party
      · rw [if_pos hk, if_pos (by simp only [List.map_cons, List.mem_cons]; exact .inr hk)]
        rfl
      · rw [if_neg hk, if_neg (by simp only [List.map_cons, List.mem_cons]; rintro (e | e); exact hx e.symm; exact hk e)]
        rfl
theorem put_nodup {k v : Int} {m : List Shr} (h : (m.map Shr.party).Nodup) : ((putK k v m).map Shr.party).Nodup := by
  rw [put_keys]
  split
  · exact h
  · rename_i hk
    rw [List.nodup_append]
    refine ⟨h, by simp, fun a ha b hb => ?_⟩
    rw [List.mem_singleton] at hb
    rintro rfl
    exact hk (hb ▸ ha)
theorem del_keys (k : Int) : ∀ m : List Shr, (delK k m).map Shr.party = (m.map Shr.party).erase k
  | [] => rfl
  | x :: m => by
    rw [delK, List.map_cons, List.erase_cons]
    split
    · rename_i hx; simp [hx]
    · rename_i hx
      rw [beq_eq_false_iff_ne.2 hx]
      simp [del_keys k m]
theorem at_no {m : List Shr} {k : Int} (h : k ∉ m.map Shr.party) : atK m k = 0 := at_none (by
  cases hh : hasK m k with
  | false => rfl
  | true =>
    obtain ⟨x, hx, hk⟩ := List.any_eq_true.1 hh
    exact absurd (List.mem_map.2 ⟨x, hx, by simpa using hk⟩) h)
theorem at_mem {m : List Shr} (h : NoD m) (k : Int) : k ∈ m.map Shr.party ↔ atK m k ≠ 0 := by
  constructor
  · intro hk
    obtain ⟨x, hx, hxk⟩ := List.mem_map.1 hk
    unfold atK
    cases hf : m.find? fun y => y.party == k with
    | none => exact absurd hxk (by simpa using List.find?_eq_none.1 hf x hx)
    | some y => simpa using h.2 y (List.mem_of_find?_eq_some hf)
  · intro hne
    by_cases hk : k ∈ m.map Shr.party
    · exact hk
    · exact absurd (at_no hk) hne
theorem add_good {m : List Shr} (h : NoD m) (k v : Int) : NoD (addK m k v) ∧ ∀ j, atK (addK m k v) j = atK m j + if k = j then v else 0 := by
  unfold addK
  have hp := put_nodup (k := k) (v := atK m k + v) h.1
  split
  · rename_i hz
    have hd : k ∉ (delK k (putK k (atK m k + v) m)).map Shr.party := by rw [del_keys]; exact hp.not_mem_erase
    refine ⟨⟨by rw [del_keys]; exact hp.erase k, fun x hx => ?_⟩, fun j => ?_⟩
    · have hne : x.party ≠ k := fun e => hd (List.mem_map.2 ⟨x, hx, e⟩)
      rcases put_mem (del_mem hx) with hm | rfl
      · exact h.2 x hm
      · exact absurd rfl hne
    · by_cases hj : k = j
      · subst hj; rw [at_no hd, if_pos rfl]; omega
      · rw [at_del_ne (fun e => hj e.symm), at_put_ne (fun e => hj e.symm), if_neg hj]; omega
  · rename_i hz
    refine ⟨⟨hp, fun x hx => ?_⟩, fun j => ?_⟩
    · rcases put_mem hx with hm | rfl
      · exact h.2 x hm
      · exact hz
    · by_cases hj : k = j
      · subst hj; rw [at_put, if_pos rfl]
      · rw [at_put_ne (fun e => hj e.symm), if_neg hj]; omega
theorem sumP_cons (x : Shr) (l : List Shr) (k : Int) : sumP (x :: l) k = (if x.party = k then x.pence else 0) + sumP l k := by simp [sumP]
theorem accB_good : ∀ (l m : List Shr), NoD m → NoD (accB m l) ∧ ∀ k, atK (accB m l) k = atK m k + sumP l k
  | [], m, h => ⟨h, fun k => by simp [accB, sumP]⟩
  | x :: l, m, h => by
    obtain ⟨h1, h2⟩ := add_good h x.party x.pence
    obtain ⟨h3, h4⟩ := accB_good l (addK m x.party x.pence) h1
    refine ⟨h3, fun k => ?_⟩
    show atK (accB (addK m x.party x.pence) l) k = _
    rw [h4 k, h2 k, sumP_cons]; omega
theorem accA_goes : ∀ (l m : List Shr), NoD m → NoD (l.foldl (fun m x => addK m x.party (-x.pence)) m) ∧ ∀ k, atK (l.foldl (fun m x => addK m x.party (-x.pence)) m) k = atK m k - sumP l k
  | [], m, h => ⟨h, fun k => by simp [sumP]⟩
  | x :: l, m, h => by
    obtain ⟨h1, h2⟩ := add_good h x.party (-x.pence)
    obtain ⟨h3, h4⟩ := accA_goes l (addK m x.party (-x.pence)) h1
    refine ⟨h3, fun k => ?_⟩
    rw [List.foldl_cons, h4 k, h2 k, sumP_cons]
    split <;> omega
theorem nod_nil : NoD [] := ⟨.nil, fun x hx => by cases hx⟩
theorem chg_good (a b : List Shr) : NoD (accB (accA a) b) ∧ ∀ k, atK (accB (accA a) b) k = sumP b k - sumP a k := by
  obtain ⟨h1, h2⟩ := accA_goes a [] nod_nil
  obtain ⟨h3, h4⟩ := accB_good b (accA a) h1
  refine ⟨h3, fun k => ?_⟩
  have := h2 k
  rw [h4 k, show accA a = a.foldl (fun m x => addK m x.party (-x.pence)) [] from rfl, this]
  simp [atK]; omega
theorem chg_mem {m : List Shr} (h : NoD m) {x : Shr} (hx : x ∈ chgOf m) : x.pence ≠ 0 ∧ x.pence = atK m x.party := by
  obtain ⟨k, hk, rfl⟩ := List.mem_map.1 hx
  unfold keysS at hk
  rw [List.mem_mergeSort] at hk
  exact ⟨(at_mem h k).1 hk, rfl⟩
theorem sum_one (f : Int → Int) (k : Int) : ∀ l : List Int, l.Nodup → (l.map fun x => if x = k then f x else 0).sum = if k ∈ l then f k else 0
  | [], _ => rfl
  | x :: l, h => by
    have hn := List.nodup_cons.1 h
    rw [List.map_cons, List.sum_cons, sum_one f k l hn.2]
    by_cases e : x = k
    · subst e; simp [hn.1]
    · have : (k ∈ x :: l) ↔ k ∈ l := by rw [List.mem_cons]; exact ⟨fun h => h.elim (fun h => absurd h.symm e) id, .inr⟩
      simp only [if_neg e, this]; omega
theorem sumP_chg {m : List Shr} (h : NoD m) (k : Int) : sumP (chgOf m) k = atK m k := by
  unfold sumP chgOf
  rw [List.map_map]
  have hk : (keysS m).Nodup := (List.mergeSort_perm _ _).nodup_iff.2 h.1
  have := sum_one (atK m) k (keysS m) hk
  refine Eq.trans ?_ (this.trans ?_)
  · rfl
  · by_cases hm : k ∈ keysS m
    · rw [if_pos hm]
    · rw [if_neg hm]
      unfold keysS at hm
      rw [List.mem_mergeSort] at hm
      exact (at_no hm).symm
theorem sumK_is {l : List Shr} {B : Int} (hB : 0 ≤ B) (h : ∀ x ∈ l, -B ≤ x.pence ∧ x.pence ≤ B) (hl : (l.length : Int) * B ≤ 9223372036854775807) (k : Int) (i : Nat) (hi : i ≤ l.length) :
    sumK (l.take i) k = sumP (l.take i) k ∧ -(i * B) ≤ sumP (l.take i) k ∧ sumP (l.take i) k ≤ i * B := by
  induction i with
  | zero => exact ⟨rfl, by simp [sumP], by simp [sumP]⟩
  | succ i ih =>
    obtain ⟨h1, h2, h3⟩ := ih (by omega)
    have hx : l[i]? = some l[i] := List.getElem?_eq_getElem (by omega)
    have hb := h l[i] (List.getElem_mem _)
    have hs : sumP (l.take i ++ [l[i]]) k = sumP (l.take i) k + if l[i].party = k then l[i].pence else 0 := by simp only [sumP, List.map_append, List.map_cons, List.map_nil, List.sum_append, List.sum_cons, List.sum_nil, Int.add_zero]
    have hm : ((i + 1 : Nat) : Int) * B = i * B + B := by rw [Int.natCast_add, Int.add_mul]; simp
    have hm2 : ((i + 1 : Nat) : Int) * B ≤ l.length * B := Int.mul_le_mul_of_nonneg_right (by omega) hB
    rw [List.take_add_one, hx]
    show sumK (_ ++ [l[i]]) k = sumP (_ ++ [l[i]]) k ∧ _
    rw [sumK_snoc, hs, h1]
    by_cases hp : l[i].party = k
    · simp only [if_pos hp]
      refine ⟨IntWalk.i64_in _ (by omega), ?_, ?_⟩
      · show -(_ * B) ≤ sumP (_ ++ [l[i]]) k; rw [hs, if_pos hp]; omega
      · show sumP (_ ++ [l[i]]) k ≤ _; rw [hs, if_pos hp]; omega
    · simp only [if_neg hp]
      refine ⟨by omega, ?_, ?_⟩
      · show -(_ * B) ≤ sumP (_ ++ [l[i]]) k; rw [hs, if_neg hp]; omega
      · show sumP (_ ++ [l[i]]) k ≤ _; rw [hs, if_neg hp]; omega
theorem sumK_chk {l : List Shr} (h : chkS l = 0) (k : Int) : sumK l k = sumP l k ∧ -1000000000000 ≤ sumP l k ∧ sumP l k ≤ 1000000000000 := by
  obtain ⟨h1, h2⟩ := (chkS_iff l).1 h
  have := sumK_is (B := 1000000000) (by omega) (fun x hx => ((chk1_iff x).1 (h2 x hx)).2) (by omega) k l.length (Nat.le_refl _)
  rw [List.take_length] at this
  exact ⟨this.1, by omega, by omega⟩
theorem of_sum {a b : List Shr} (ha : chkS a = 0) (hb : chkS b = 0) (k : Int) : sumK (chgOf (accB (accA a) b)) k = sumP b k - sumP a k ∧ IntKind.i64.wrap (sumK a k + sumK (chgOf (accB (accA a) b)) k) = sumK b k := by
  obtain ⟨hg, hat⟩ := chg_good a b
  have hacc := acc_all ha hb
  obtain ⟨la, _⟩ := (chkS_iff a).1 ha
  obtain ⟨lb, _⟩ := (chkS_iff b).1 hb
  have hmax := acc_max ha hb
  have hlen := chg_len (accB (accA a) b)
  have := sumK_is (l := chgOf (accB (accA a) b)) (B := 2000000000000) (by omega) (fun x hx => by
    have h1 := (chg_mem hg hx).2
    have h2 := acc_at hacc x.party
    omega) (by omega) k _ (Nat.le_refl _)
  rw [List.take_length] at this
  have e : sumK (chgOf (accB (accA a) b)) k = sumP b k - sumP a k := by rw [this.1, sumP_chg hg, hat]
  obtain ⟨a1, a2, a3⟩ := sumK_chk ha k
  obtain ⟨b1, b2, b3⟩ := sumK_chk hb k
  refine ⟨e, ?_⟩
  rw [e, a1, b1, IntWalk.i64_in _ (by omega)]
  omega
open Go
open Go
def GoodV (d : Div9) : Prop := (0 ≤ d.rc ∧ d.rc ≤ 100000) ∧ (0 ≤ d.rs ∧ d.rs ≤ 100000) ∧ (0 ≤ d.nu ∧ d.nu ≤ d.de) ∧ (1 ≤ d.de ∧ d.de ≤ 1000000) ∧ (1 ≤ d.p ∧ d.p ≤ 1000000000) ∧ (0 ≤ d.h ∧ d.h ≤ 1000000) ∧ (0 ≤ d.ca ∧ d.ca ≤ 40) ∧ (0 ≤ d.ke ∧ d.ke ≤ 40) ∧ (0 ≤ d.si ∧ d.si ≤ d.h)
def divOf (r : Rat9) (s : Sal9) : Div9 := ⟨r.cart, r.store, r.num, r.den, s.price, s.hour, s.carter, s.keeper, s.since⟩
theorem low_is {x y n d : Int} (h : lowR x y = (n, d, 0)) : 1 ≤ d ∧ d ≤ 1000000 := by
  unfold lowR at h
  split at h
  · rename_i hb
    unfold lowB at hb
    have := valid_spec hb
    injection h with h1 h2
    injection h2 with h2 h3
    rw [h1, h2] at this
    omega
  · injection h with h1 h2
    injection h2 with h2 h3
    omega
theorem part_good {n d : Int} (h : partB n d = true) : (0 ≤ n ∧ n ≤ d) ∧ 1 ≤ d ∧ d ≤ 1000000 := by
  simp only [partB, withinB, Bool.and_eq_true, decide_eq_true_eq] at h
  obtain ⟨h1, h2, h3⟩ := h
  refine ⟨⟨h2, h3⟩, ?_⟩
  unfold normR at h1
  split at h1
  · split at h1
    · exact low_is h1
    · exact low_is h1
  · injection h1 with h1 h2
    injection h2 with h2 h3
    omega
theorem gives_all {r : Rat9} {s : Sal9} {l : List Who} (h : givesB r s l = true) : rateB r = true ∧ saleB s = true ∧ r.of_ = 0 ∧ s.of_ = 0 ∧ finderB l = true := by
  simp only [givesB, Bool.and_eq_true, beq_iff_eq] at h
  exact ⟨h.1.1, h.1.2.1, h.1.2.2.1, h.1.2.2.2, h.2⟩
theorem gives_good {r : Rat9} {s : Sal9} {l : List Who} (h : givesB r s l = true) : GoodV (divOf r s) := by
  obtain ⟨h1, h2, h3, h4, _⟩ := gives_all h
  simp only [rateB, h3, if_pos, Bool.and_eq_true] at h1
  simp only [saleB, h4, if_pos, Bool.and_eq_true, Bool.or_eq_true, beq_iff_eq] at h2
  simp only [withinB, Bool.and_eq_true, decide_eq_true_eq] at h1 h2
  have hp := part_good h1.2.2.2.1
  simp only [GoodV, divOf]
  omega
theorem finder_iff {l : List Who} (h : finderB l = true) : 1 ≤ (l.length : Int) ∧ (l.length : Int) ≤ 40 ∧ ∀ x ∈ l, 1 ≤ x.n ∧ x.n ≤ 40 := by
  simp only [finderB, withinB, allWho, Bool.and_eq_true, decide_eq_true_eq, List.all_eq_true] at h
  exact ⟨h.1.1, h.1.2, h.2⟩
theorem hours_le {h si : Int} (h0 : 0 ≤ h ∧ h ≤ 1000000) (h1 : 0 ≤ si ∧ si ≤ h) : 0 ≤ (h - si + 99).tdiv 100 ∧ (h - si + 99).tdiv 100 ≤ 10001 := by
  have e : (h - si + 99).tdiv 100 = (h - si + 99) / 100 := Int.tdiv_eq_ediv_of_nonneg (by omega)
  rw [e]
  omega
theorem store_le {rs q : Int} (h0 : 0 ≤ rs ∧ rs ≤ 100000) (h1 : 0 ≤ q ∧ q ≤ 10001) : 0 ≤ rs * q ∧ rs * q ≤ 1000100000 := by
  refine ⟨Int.mul_nonneg h0.1 h1.1, ?_⟩
  have := Int.mul_le_mul h0.2 h1.2 h1.1 (by omega)
  omega
theorem stor_wraps {d : Div9} (g : GoodV d) : IntKind.i64.wrap (d.h - d.si) = d.h - d.si ∧ IntKind.i64.wrap (d.h - d.si + 100) = d.h - d.si + 100 ∧ IntKind.i64.wrap (d.h - d.si + 100 - 1) = d.h - d.si + 99 ∧ IntKind.i64.wrap ((d.h - d.si + 99).tdiv 100) = (d.h - d.si + 99).tdiv 100 ∧ IntKind.i64.wrap (d.rs * (d.h - d.si + 99).tdiv 100) = d.rs * (d.h - d.si + 99).tdiv 100 := by
  obtain ⟨_, g2, _, _, _, g6, _, _, g9⟩ := g
  have h1 := hours_le g6 g9
  have h2 := store_le g2 h1
  refine ⟨IntWalk.i64_in _ (by omega), IntWalk.i64_in _ (by omega), ?_, IntWalk.i64_in _ (by omega), IntWalk.i64_in _ (by omega)⟩
  rw [IntWalk.i64_in _ (by omega)]
  omega
theorem prod_in {p nu de : Int} (h0 : 1 ≤ p ∧ p ≤ 1000000000) (h1 : 0 ≤ nu ∧ nu ≤ de) (h2 : 1 ≤ de ∧ de ≤ 1000000) : 0 ≤ p * nu ∧ p * nu ≤ 1000000000000000 := by
  refine ⟨Int.mul_nonneg (by omega) h1.1, ?_⟩
  have := Int.mul_le_mul h0.2 (show nu ≤ 1000000 by omega) h1.1 (by omega)
  omega
theorem quot_in {p nu de : Int} (h0 : 1 ≤ p ∧ p ≤ 1000000000) (h1 : 0 ≤ nu ∧ nu ≤ de) (h2 : 1 ≤ de ∧ de ≤ 1000000) : 0 ≤ (p * nu).tdiv de ∧ (p * nu).tdiv de ≤ p := by
  have hp := prod_in h0 h1 h2
  rw [Int.tdiv_eq_ediv_of_nonneg hp.1]
  refine ⟨Int.ediv_nonneg hp.1 (by omega), ?_⟩
  have : p * nu ≤ p * de := Int.mul_le_mul_of_nonneg_left h1.2 (by omega)
  exact Int.ediv_le_of_le_mul (by omega) this
theorem find_wraps {d : Div9} (g : GoodV d) : IntKind.i64.wrap (d.p * d.nu) = d.p * d.nu ∧ IntKind.i64.wrap ((d.p * d.nu).tdiv d.de) = (d.p * d.nu).tdiv d.de := by
  obtain ⟨_, _, g3, g4, g5, _⟩ := g
  have h1 := prod_in g5 g3 g4
  have h2 := quot_in g5 g3 g4
  exact ⟨IntWalk.i64_in _ (by omega), IntWalk.i64_in _ (by omega)⟩
theorem cart_in {d : Div9} (g : GoodV d) : 0 ≤ cart9 d ∧ cart9 d ≤ d.p := by
  obtain ⟨g1, _, _, _, g5, _⟩ := g
  unfold cart9
  split <;> omega
theorem stor_in {d : Div9} (g : GoodV d) : 0 ≤ stor9 d ∧ stor9 d ≤ d.p - cart9 d := by
  have hc := cart_in g
  obtain ⟨_, g2, _, _, _, g6, _, _, g9⟩ := g
  have h2 := store_le g2 (hours_le g6 g9)
  unfold stor9
  split <;> omega
theorem find_in {d : Div9} (g : GoodV d) : 0 ≤ find9 d ∧ find9 d ≤ d.p - cart9 d - stor9 d := by
  have hc := stor_in g
  obtain ⟨_, _, g3, g4, g5, _⟩ := g
  have h2 := quot_in g5 g3 g4
  unfold find9
  omega
theorem payTo_next (d : Div9) (l : List Who) (n : Nat) : payTo d l (n + 1) = payTo d l n ++ [⟨(l.getD n ⟨0⟩).n, partR (find9 d) l.length n⟩] := by
  simp [payTo, List.range_succ]
theorem acc_next (d : Div9) (l : List Who) (n : Nat) {x : Who} (h : l[n]? = some x) : accB [] (payTo d l (n + 1)) = addK (accB [] (payTo d l n)) x.n (partR (find9 d) l.length n) := by
  rw [payTo_next, accB_snoc]
  have : l.getD n ⟨0⟩ = x := by rw [List.getD_eq_getElem?_getD, h]; rfl
  rw [this]
theorem pay_chk {d : Div9} (g : GoodV d) {l : List Who} (hl : finderB l = true) (n : Nat) (hn : n ≤ l.length) : ∀ x ∈ payTo d l n, chk1 x = true := by
  obtain ⟨h1, h2, h3⟩ := finder_iff hl
  have hc := cart_in g
  have hs := stor_in g
  have hf := find_in g
  have g' := g
  obtain ⟨_, _, _, _, g5, _, g7, g8, _⟩ := g'
  intro x hx
  rw [chk1_iff]
  simp only [payTo, List.mem_cons, List.mem_map, List.mem_range] at hx
  rcases hx with rfl | rfl | ⟨k, hk, rfl⟩
  · simp only; omega
  · simp only; omega
  · have hg : l[k]? = some l[k] := List.getElem?_eq_getElem (by omega)
    have hm := h3 l[k] (List.getElem_mem _)
    have e : l.getD k ⟨0⟩ = l[k] := by rw [List.getD_eq_getElem?_getD, hg]; rfl
    have hp := part_bounds (find9 d) l.length k hf.1 (by omega)
    have ht := tdiv_leA (find9 d) l.length hf.1 (by omega)
    have hs2 : partR (find9 d) l.length k ≤ find9 d := by
      unfold partR
      have h3 := Int.mul_tdiv_add_tmod (find9 d) l.length
      have h5 : (find9 d).tdiv l.length ≤ l.length * (find9 d).tdiv l.length := by
        have := Int.mul_le_mul_of_nonneg_right (show (1 : Int) ≤ l.length by omega) (Int.tdiv_nonneg hf.1 (show (0 : Int) ≤ l.length by omega))
        omega
      split <;> omega
    rw [e]
    simp only
    omega
theorem pay_len (d : Div9) (l : List Who) (n : Nat) : (payTo d l n).length = n + 2 := by simp [payTo]
theorem pay_acc {d : Div9} (g : GoodV d) {l : List Who} (hl : finderB l = true) (n : Nat) (hn : n ≤ l.length) : AccOk (n + 2) (accB [] (payTo d l n)) := by
  have h := accB_ok (m := []) (l := payTo d l n) (n := 0) ⟨Nat.le_refl 0, fun x hx => by cases hx⟩ (pay_chk g hl n hn) (n + 2) (by rw [pay_len]; exact Nat.le_refl _)
  rw [List.take_of_length_le (by rw [pay_len]; exact Nat.le_refl _), Nat.zero_add] at h
  exact h
theorem payS {d : Div9} (g : GoodV d) {l : List Who} (hl : finderB l = true) : chkS (payL d l) = 0 := by
  rw [chkS_iff]
  refine ⟨?_, pay_chk g hl _ (Nat.le_refl _)⟩
  have := finder_iff hl
  have e : (payL d l).length = l.length + 2 := pay_len d l l.length
  omega
open Go
def Div9.at (d : Div9) (p : Int) : Div9 := ⟨d.rc, d.rs, d.nu, d.de, p, d.h, d.ca, d.ke, d.si⟩
def Div9.by_ (d : Div9) (nu de : Int) : Div9 := ⟨d.rc, d.rs, nu, de, d.p, d.h, d.ca, d.ke, d.si⟩
theorem quot_grows {p p' nu de : Int} (h0 : 1 ≤ p) (h : p ≤ p') (h1 : 0 ≤ nu ∧ nu ≤ de) (h2 : 1 ≤ de) : (p * nu).tdiv de ≤ (p' * nu).tdiv de ∧ (p' * nu).tdiv de ≤ (p * nu).tdiv de + (p' - p) := by
  have n1 : 0 ≤ p * nu := Int.mul_nonneg (by omega) h1.1
  have n2 : 0 ≤ p' * nu := Int.mul_nonneg (by omega) h1.1
  rw [Int.tdiv_eq_ediv_of_nonneg n1, Int.tdiv_eq_ediv_of_nonneg n2]
  have hm : p * nu ≤ p' * nu := Int.mul_le_mul_of_nonneg_right h h1.1
  refine ⟨Int.ediv_le_ediv (by omega) hm, ?_⟩
  have e : p' * nu = p * nu + (p' - p) * nu := by rw [← Int.add_mul]; congr 1; omega
  have hd : (p' - p) * nu ≤ (p' - p) * de := Int.mul_le_mul_of_nonneg_left h1.2 (by omega)
  have : p' * nu ≤ p * nu + (p' - p) * de := by omega
  refine Int.le_trans (Int.ediv_le_ediv (show (0 : Int) < de by omega) this) ?_
  rw [Int.add_mul_ediv_right _ _ (by omega)]
  exact Int.le_refl _
theorem min_or (a b : Int) : min a b = a ∧ a ≤ b ∨ min a b = b ∧ b ≤ a := by
  rcases Int.le_total a b with h | h
  · exact .inl ⟨Int.min_eq_left h, h⟩
  · exact .inr ⟨Int.min_eq_right h, h⟩
theorem chain_p {x y q q' p p' : Int} (hx : 0 ≤ x) (hy : 0 ≤ y) (hp : 1 ≤ p) (h : p ≤ p') (hq : 0 ≤ q) (h1 : q ≤ q') (h2 : q' ≤ q + (p' - p)) :
    min x p ≤ min x p' ∧ min y (p - min x p) ≤ min y (p' - min x p') ∧ min q (p - min x p - min y (p - min x p)) ≤ min q' (p' - min x p' - min y (p' - min x p')) ∧
    p - min x p - min y (p - min x p) - min q (p - min x p - min y (p - min x p)) ≤ p' - min x p' - min y (p' - min x p') - min q' (p' - min x p' - min y (p' - min x p')) := by
  have a := min_or x p
  have a' := min_or x p'
  generalize min x p = c at *
  generalize min x p' = c' at *
  have b := min_or y (p - c)
  have b' := min_or y (p' - c')
  generalize min y (p - c) = s at *
  generalize min y (p' - c') = s' at *
  have e := min_or q (p - c - s)
  have e' := min_or q' (p' - c' - s')
  generalize min q (p - c - s) = f at *
  generalize min q' (p' - c' - s') = f' at *
  omega
theorem chain_q {r q q' : Int} (h1 : q ≤ q') : min q r ≤ min q' r ∧ r - min q' r ≤ r - min q r := by
  have e := min_or q r
  have e' := min_or q' r
  omega
theorem more_price {d : Div9} {p : Int} (g : GoodV d) (g' : GoodV (d.at p)) (h : d.p ≤ p) :
    cart9 d ≤ cart9 (d.at p) ∧ stor9 d ≤ stor9 (d.at p) ∧ find9 d ≤ find9 (d.at p) ∧ rest9 d ≤ rest9 (d.at p) := by
  have hs := store_le g.2.1 (hours_le g.2.2.2.2.2.1 g.2.2.2.2.2.2.2.2)
  have hq := quot_grows (nu := d.nu) (de := d.de) g.2.2.2.2.1.1 h g.2.2.1 g.2.2.2.1.1
  have hq0 := quot_in g.2.2.2.2.1 g.2.2.1 g.2.2.2.1
  have hx : 0 ≤ (if d.ca = 0 then 0 else d.rc) := by have := g.1.1; split <;> omega
  have hy : 0 ≤ (if d.ke = 0 then 0 else d.rs * (d.h - d.si + 99).tdiv 100) := by have := hs.1; split <;> omega
  have hp := g.2.2.2.2.1.1
  simp only [cart9, stor9, find9, rest9, Div9.at]
  exact chain_p hx hy hp h hq0.1 hq.1 hq.2
theorem quot_more {p nu de nu' de' : Int} (h0 : 1 ≤ p) (h1 : 0 ≤ nu) (h2 : 1 ≤ de) (h3 : 0 ≤ nu') (h4 : 1 ≤ de') (h : nu * de' ≤ nu' * de) : (p * nu).tdiv de ≤ (p * nu').tdiv de' := by
  have n1 : 0 ≤ p * nu := Int.mul_nonneg (by omega) h1
  have n2 : 0 ≤ p * nu' := Int.mul_nonneg (by omega) h3
  rw [Int.tdiv_eq_ediv_of_nonneg n1, Int.tdiv_eq_ediv_of_nonneg n2]
  rw [Int.le_ediv_iff_mul_le (by omega)]
  have a1 : (p * nu / de) * de ≤ p * nu := Int.ediv_mul_le _ (by omega)
  have a2 : (p * nu / de) * de * de' ≤ p * nu * de' := Int.mul_le_mul_of_nonneg_right a1 (by omega)
  have a3 : p * nu * de' ≤ p * nu' * de := by
    rw [Int.mul_assoc, Int.mul_assoc]
    exact Int.mul_le_mul_of_nonneg_left h (by omega)
  have a4 : (p * nu / de) * de' * de ≤ p * nu' * de := by
    have : (p * nu / de) * de' * de = (p * nu / de) * de * de' := by rw [Int.mul_assoc, Int.mul_assoc, Int.mul_comm de' de]
    omega
  exact Int.le_of_mul_le_mul_right a4 (by omega)
theorem more_part {d : Div9} {nu de : Int} (g : GoodV d) (g' : GoodV (d.by_ nu de)) (h : d.nu * de ≤ nu * d.de) :
    find9 d ≤ find9 (d.by_ nu de) ∧ rest9 (d.by_ nu de) ≤ rest9 d := by
  have hq := quot_more g.2.2.2.2.1.1 g.2.2.1.1 g.2.2.2.1.1 g'.2.2.1.1 g'.2.2.2.1.1 h
  simp only [Div9.by_] at hq
  simp only [cart9, stor9, find9, rest9, Div9.by_]
  exact chain_q hq
theorem part_is {p c : Int} {k : Nat} (hp : 0 ≤ p) (hk : (k : Int) < c) : partR p c k = (p + (c - 1 - k)) / c := by
  unfold partR
  rw [Int.tdiv_eq_ediv_of_nonneg hp, Int.tmod_eq_emod_of_nonneg hp]
  have h1 := Int.mul_ediv_add_emod p c
  have h2 := Int.emod_nonneg p (show c ≠ 0 by omega)
  have h3 := Int.emod_lt_of_pos p (show 0 < c by omega)
  have e : p + (c - 1 - k) = (p % c + (c - 1 - k)) + (p / c) * c := by rw [Int.mul_comm]; omega
  rw [e, Int.add_mul_ediv_right _ _ (by omega)]
  generalize p % c = m at *
  split
  · have : (m + (c - 1 - (k : Int))) / c = 1 := by
      have e2 : m + (c - 1 - (k : Int)) = (m - 1 - k) + 1 * c := by omega
      rw [e2, Int.add_mul_ediv_right _ _ (by omega), Int.ediv_eq_zero_of_lt (by omega) (by omega)]
      rfl
    omega
  · have : (m + (c - 1 - (k : Int))) / c = 0 := Int.ediv_eq_zero_of_lt (by omega) (by omega)
    omega
theorem part_more {p p' c : Int} {k : Nat} (hp : 0 ≤ p) (h : p ≤ p') (hk : (k : Int) < c) : partR p c k ≤ partR p' c k := by
  rw [part_is hp hk, part_is (by omega) hk]
  exact Int.ediv_le_ediv (by omega) (by omega)
theorem sumP_le {f f' : Nat → Int} {w : Nat → Int} (k : Int) : ∀ l : List Nat, (∀ i ∈ l, f i ≤ f' i) → sumP (l.map fun i => ⟨w i, f i⟩) k ≤ sumP (l.map fun i => ⟨w i, f' i⟩) k
  | [], _ => Int.le_refl _
  | i :: l, h => by
    simp only [List.map_cons, sumP_cons]
    have h1 := h i List.mem_cons_self
    have h2 := sumP_le (w := w) k l fun j hj => h j (List.mem_cons_of_mem _ hj)
    split <;> omega
theorem pay_more {d : Div9} {p : Int} (g : GoodV d) (g' : GoodV (d.at p)) (h : d.p ≤ p) (l : List Who) (k : Int) : sumP (payL d l) k ≤ sumP (payL (d.at p) l) k := by
  obtain ⟨h1, h2, h3, _⟩ := more_price g g' h
  unfold payL payTo
  simp only [sumP_cons]
  have e1 : (d.at p).ca = d.ca := rfl
  have e2 : (d.at p).ke = d.ke := rfl
  rw [e1, e2]
  have h4 := sumP_le (w := fun k => (l.getD k ⟨0⟩).n) k (List.range l.length) (f := fun k => partR (find9 d) l.length k) (f' := fun k => partR (find9 (d.at p)) l.length k) (fun i hi => part_more (find_in g).1 h3 (by have := List.mem_range.1 hi; omega))
  split <;> split <;> omega
theorem had_is {d : Div9} (g : GoodV d) {l : List Who} (hl : finderB l = true) (k : Int) : sumK (chgOf (accB (accA []) (payL d l))) k = sumP (payL d l) k := by
  have := (of_sum (a := []) (b := payL d l) (by decide) (payS g hl) k).1
  rw [this]
  have e : sumP [] k = 0 := rfl
  rw [e]; omega
theorem had_more {d : Div9} {p : Int} (g : GoodV d) (g' : GoodV (d.at p)) (h : d.p ≤ p) {l : List Who} (hl : finderB l = true) (k : Int) :
    sumK (chgOf (accB (accA []) (payL d l))) k ≤ sumK (chgOf (accB (accA []) (payL (d.at p) l))) k := by
  rw [had_is g hl, had_is g' hl]
  exact pay_more g g' h l k
theorem had_none {m : List Shr} (h : m.length = 0) (k : Int) : sumK (chgOf m) k = 0 := by
  have : m = [] := List.length_eq_zero_iff.1 h
  subst this
  simp [chgOf, keysS, sumK]
theorem short_had {r : Rat9} {s : Sal9} {l : List Who} (hg : givesB r s l = true) : shortB (chgOf (accB (accA []) (payL (divOf r s) l))) = true := by
  have h : AccOk (l.length + 2) (accB (accA []) (payL (divOf r s) l)) := pay_acc (gives_good hg) (gives_all hg).2.2.2.2 l.length (Nat.le_refl _)
  have h2 := finder_iff (gives_all hg).2.2.2.2
  refine len_short ?_
  rw [chg_len]
  have := h.1
  omega
end Go.Proofs.YtcmbkcebbgigcaaGreatDoor.Zs
