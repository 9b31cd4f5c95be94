/-
  Fractions over whole numbers: greatest common divisors, lowest terms, sums, products, orders.
-/
import Derived.Test.YtcmbkcebbgigcaaGreatDoorMoEvS
import Derived.IntWalk
set_option linter.unusedSimpArgs false
set_option linter.unusedVariables false
namespace Go.Proofs.YtcmbkcebbgigcaaGreatDoor.Zs
def withinB (n low high : Int) : Bool := decide (low ≤ n) && decide (n ≤ high)
def gcdI (a b : Int) : Int := (Int.gcd a b : Nat)
def lastE : Nat → Int → Int → Int
  | 0, a, _ => a
  | n + 1, a, b => if b = 0 then a else lastE n b (a.tmod b)
def lastI (a b : Int) : Int := lastE (b.natAbs + 1) a b
def wideB (a : Int) : Bool := decide (-4000000000000000000 ≤ a) && decide (a ≤ 4000000000000000000)
def validB (n d : Int) : Bool := withinB d 1 1000000 && (withinB n (-1000000000000) 1000000000000 && gcdI n d == 1)
def lowN (n d : Int) : Int := n.tdiv (gcdI n d)
def lowD (n d : Int) : Int := d.tdiv (gcdI n d)
def lowB (n d : Int) : Bool := validB (lowN n d) (lowD n d)
def canB (n d : Int) : Bool := wideB n && (wideB d && decide (0 < d))
def lowR (n d : Int) : Int × Int × Int := if lowB n d = true then (lowN n d, lowD n d, 0) else (0, 0, 2)
def numB (n d : Int) : Bool := !(d == 0) && (withinB n (-1000000000000000) 1000000000000000 && withinB d (-1000000000000000) 1000000000000000)
def normR (n d : Int) : Int × Int × Int := if numB n d = true then (if d < 0 then lowR (-n) (-d) else lowR n d) else (0, 0, 1)
theorem wide_iff (a : Int) : wideB a = true ↔ -4000000000000000000 ≤ a ∧ a ≤ 4000000000000000000 := by simp [wideB]
theorem gcd_tmod (a b : Int) : gcdI b (a.tmod b) = gcdI a b := by
  unfold gcdI
  congr 1
  rw [Int.gcd_comm a b]
  simp only [Int.gcd, Int.natAbs_tmod]
  rw [Nat.gcd_comm b.natAbs (a.natAbs % b.natAbs), ← Nat.gcd_rec]
theorem tmod_lt (a b : Int) (h : b ≠ 0) : (a.tmod b).natAbs < b.natAbs := by
  rw [Int.natAbs_tmod]
  exact Nat.mod_lt _ (by omega)
theorem lastE_more : ∀ (n : Nat) (a b : Int), b.natAbs < n → lastE n a b = lastE (b.natAbs + 1) a b
  | 0, a, b, h => by omega
  | n + 1, a, b, h => by
    by_cases hb : b = 0
    · simp [lastE, hb]
    · have h1 := tmod_lt a b hb
      simp only [lastE, hb, if_false]
      rw [lastE_more n b (a.tmod b) (by omega)]
      cases hk : b.natAbs with
      | zero => omega
      | succ k => rw [lastE_more (k + 1) b (a.tmod b) (by omega)]
termination_by n => n
theorem lastI_zero (a : Int) : lastI a 0 = a := by simp [lastI, lastE]
theorem lastI_step (a b : Int) (h : b ≠ 0) : lastI a b = lastI b (a.tmod b) := by
  have h1 := tmod_lt a b h
  conv => lhs; unfold lastI
  simp only [lastE, h, if_false]
  exact lastE_more _ _ _ h1
theorem lastI_gcd : ∀ (n : Nat) (a b : Int), b.natAbs < n → ((lastI a b).natAbs : Int) = gcdI a b
  | 0, a, b, h => by omega
  | n + 1, a, b, h => by
    by_cases hb : b = 0
    · subst hb
      simp [lastI_zero, gcdI]
    · have h1 := tmod_lt a b hb
      rw [lastI_step a b hb, lastI_gcd n b (a.tmod b) (by omega), gcd_tmod]
theorem last_gcd (a b : Int) : ((lastI a b).natAbs : Int) = gcdI a b := lastI_gcd _ a b (Nat.lt_succ_self _)
theorem wide_tmod {a b : Int} (hb : wideB b = true) (h : b ≠ 0) : wideB (a.tmod b) = true := by
  have := tmod_lt a b h
  rw [wide_iff] at *
  omega
theorem last_wide {a b : Int} (ha : wideB a = true) (hb : wideB b = true) : wideB (lastI a b) = true := by
  have key : ∀ (n : Nat) (a b : Int), b.natAbs < n → wideB a = true → wideB b = true → wideB (lastI a b) = true := by
    intro n
    induction n with
    | zero => intro a b h; omega
    | succ n ih =>
      intro a b h ha hb
      by_cases h0 : b = 0
      · subst h0; rw [lastI_zero]; exact ha
      · have := tmod_lt a b h0
        rw [lastI_step a b h0]
        exact ih b (a.tmod b) (by omega) hb (wide_tmod hb h0)
  exact key _ a b (Nat.lt_succ_self _) ha hb
theorem low_spec (n d : Int) (hd : 0 < d) : 0 < gcdI n d ∧ lowN n d * gcdI n d = n ∧ lowD n d * gcdI n d = d ∧ 0 < lowD n d ∧ gcdI (lowN n d) (lowD n d) = 1 := by
  have hg : 0 < Int.gcd n d := Nat.gcd_pos_of_pos_right _ (by omega)
  have h0 : 0 < gcdI n d := by unfold gcdI; omega
  have h1 : lowN n d * gcdI n d = n := Int.tdiv_mul_cancel (Int.gcd_dvd_left n d)
  have h2 : lowD n d * gcdI n d = d := Int.tdiv_mul_cancel (Int.gcd_dvd_right n d)
  have h3 : 0 < lowD n d := by
    rcases Int.lt_trichotomy (lowD n d) 0 with h | h | h
    · have := Int.mul_neg_of_neg_of_pos h h0; omega
    · rw [h] at h2; omega
    · exact h
  refine ⟨h0, h1, h2, h3, ?_⟩
  have hm : Int.gcd (lowN n d * gcdI n d) (lowD n d * gcdI n d) = Int.gcd n d := by rw [h1, h2]
  have hz : (gcdI n d).natAbs = Int.gcd n d := by simp [gcdI]
  rw [Int.gcd, Int.natAbs_mul, Int.natAbs_mul, Nat.gcd_mul_right, hz] at hm
  have : ((lowN n d).natAbs.gcd (lowD n d).natAbs) = 1 := Nat.eq_of_mul_eq_mul_right hg (by omega)
  unfold gcdI
  rw [Int.gcd, this]; rfl
theorem valid_spec {n d : Int} (h : validB n d = true) : 1 ≤ d ∧ d ≤ 1000000 ∧ -1000000000000 ≤ n ∧ n ≤ 1000000000000 ∧ gcdI n d = 1 := by
  simp only [validB, withinB, Bool.and_eq_true, decide_eq_true_eq, beq_iff_eq] at h
  omega
theorem valid_low {n d : Int} (hd : 0 < d) : lowB n d = (withinB (lowD n d) 1 1000000 && withinB (lowN n d) (-1000000000000) 1000000000000) := by
  obtain ⟨_, _, _, _, h⟩ := low_spec n d hd
  simp [lowB, validB, h]
theorem can_iff (n d : Int) : canB n d = true ↔ wideB n = true ∧ wideB d = true ∧ 0 < d := by simp [canB]
theorem tdiv_wide {n : Int} (g : Int) (h : wideB n = true) : wideB (n.tdiv g) = true := by
  have : (n.tdiv g).natAbs ≤ n.natAbs := by rw [Int.natAbs_tdiv]; exact Nat.div_le_self _ _
  rw [wide_iff] at *
  omega
theorem gcd_ne {n d : Int} (h : 0 < d) : gcdI n d ≠ 0 := by
  have := (low_spec n d h).1
  omega
open Go
def vI : Value → Int
  | .int _ n => n
  | _ => 0
def vS : Value → ByteArray
  | .string s => s
  | _ => default
def lastK (k k' : IntKind) (a b : Int) : IntKind := if b = 0 then k else if a.tmod b = 0 then k' else .i64
theorem lastK_step (k k' : IntKind) (a b : Int) (h : b ≠ 0) : lastK k' .i64 b (a.tmod b) = lastK k k' a b := by
  unfold lastK
  rw [if_neg h]
  split
  · rfl
  · split <;> rfl
structure Who where
  n : Int
instance : DecidableEq Who := fun a b =>
  decidable_of_iff (a.n = b.n) ⟨fun h => by cases a; cases b; simp_all, fun h => by subst h; simp⟩
def Who.row (p : Who) : List Value :=
  [.int .i64 p.n]
def toWho (l : List Value) : Who := {
  n := vI (l.getD 0 default) }
def whoSch : List CK := [.int .i64]
theorem who_row {r : List Value} (h : RowFits whoSch r) : r = (toWho r).row := by
  unfold whoSch at h
  rcases h with _ | ⟨⟨a0, rfl⟩, h⟩
  cases h
  rfl
theorem whos_of {rows : List (List Value)} (h : ∀ r ∈ rows, RowFits whoSch r) : rows = (rows.map toWho).map Who.row := by
  rw [List.map_map]
  conv => lhs; rw [← List.map_id rows]
  exact List.map_congr_left fun r hr => who_row (h r hr)
def whosV : Value → List Who
  | .tuple l => l.toList.map fun v => match v with | .agg c => toWho c.toList | _ => toWho []
  | _ => []
def whosR (l : List Who) : Value := rowsV (l.map Who.row)
theorem whosV_R (l : List Who) : whosV (whosR l) = l := by
  simp only [whosV, whosR, rowsV, List.toList_toArray, List.map_map]
  conv => rhs; rw [← List.map_id l]
  exact List.map_congr_left fun p _ => rfl
structure Shr where
  party : Int
  pence : Int
instance : DecidableEq Shr := fun a b =>
  decidable_of_iff (a.party = b.party ∧ a.pence = b.pence) ⟨fun h => by cases a; cases b; simp_all, fun h => by subst h; simp⟩
def Shr.row (p : Shr) : List Value :=
  [.int .i64 p.party, .int .i64 p.pence]
def toShr (l : List Value) : Shr := {
  party := vI (l.getD 0 default),
  pence := vI (l.getD 1 default) }
def shrSch : List CK := [.int .i64, .int .i64]
theorem shr_row {r : List Value} (h : RowFits shrSch r) : r = (toShr r).row := by
  unfold shrSch at h
  rcases h with _ | ⟨⟨a0, rfl⟩, h⟩
  rcases h with _ | ⟨⟨a1, rfl⟩, h⟩
  cases h
  rfl
theorem shrs_of {rows : List (List Value)} (h : ∀ r ∈ rows, RowFits shrSch r) : rows = (rows.map toShr).map Shr.row := by
  rw [List.map_map]
  conv => lhs; rw [← List.map_id rows]
  exact List.map_congr_left fun r hr => shr_row (h r hr)
def shrsV : Value → List Shr
  | .tuple l => l.toList.map fun v => match v with | .agg c => toShr c.toList | _ => toShr []
  | _ => []
def shrsR (l : List Shr) : Value := rowsV (l.map Shr.row)
theorem shrsV_R (l : List Shr) : shrsV (shrsR l) = l := by
  simp only [shrsV, shrsR, rowsV, List.toList_toArray, List.map_map]
  conv => rhs; rw [← List.map_id l]
  exact List.map_congr_left fun p _ => rfl
structure Rat9 where
  id : Int
  known : Int
  from_ : Int
  goods : ByteArray
  num : Int
  den : Int
  cart : Int
  store : Int
  of_ : Int
instance : DecidableEq Rat9 := fun a b =>
  decidable_of_iff (a.id = b.id ∧ a.known = b.known ∧ a.from_ = b.from_ ∧ a.goods = b.goods ∧ a.num = b.num ∧ a.den = b.den ∧ a.cart = b.cart ∧ a.store = b.store ∧ a.of_ = b.of_) ⟨fun h => by cases a; cases b; simp_all, fun h => by subst h; simp⟩
def Rat9.row (p : Rat9) : List Value :=
  [.int .i64 p.id, .int .i64 p.known, .int .i64 p.from_, .string p.goods, .int .i64 p.num, .int .i64 p.den, .int .i64 p.cart, .int .i64 p.store, .int .i64 p.of_]
def toRat9 (l : List Value) : Rat9 := {
  id := vI (l.getD 0 default),
  known := vI (l.getD 1 default),
  from_ := vI (l.getD 2 default),
  goods := vS (l.getD 3 default),
  num := vI (l.getD 4 default),
  den := vI (l.getD 5 default),
  cart := vI (l.getD 6 default),
  store := vI (l.getD 7 default),
  of_ := vI (l.getD 8 default) }
def ratSch : List CK := [.int .i64, .int .i64, .int .i64, .str, .int .i64, .int .i64, .int .i64, .int .i64, .int .i64]
theorem rat_row {r : List Value} (h : RowFits ratSch r) : r = (toRat9 r).row := by
  unfold ratSch at h
  rcases h with _ | ⟨⟨a0, rfl⟩, h⟩
  rcases h with _ | ⟨⟨a1, rfl⟩, h⟩
  rcases h with _ | ⟨⟨a2, rfl⟩, h⟩
  rcases h with _ | ⟨⟨a3, rfl⟩, h⟩
  rcases h with _ | ⟨⟨a4, rfl⟩, h⟩
  rcases h with _ | ⟨⟨a5, rfl⟩, h⟩
  rcases h with _ | ⟨⟨a6, rfl⟩, h⟩
  rcases h with _ | ⟨⟨a7, rfl⟩, h⟩
  rcases h with _ | ⟨⟨a8, rfl⟩, h⟩
  cases h
  rfl
structure Sal9 where
  id : Int
  known : Int
  hour : Int
  parcel : Int
  price : Int
  carter : Int
  keeper : Int
  since : Int
  of_ : Int
instance : DecidableEq Sal9 := fun a b =>
  decidable_of_iff (a.id = b.id ∧ a.known = b.known ∧ a.hour = b.hour ∧ a.parcel = b.parcel ∧ a.price = b.price ∧ a.carter = b.carter ∧ a.keeper = b.keeper ∧ a.since = b.since ∧ a.of_ = b.of_) ⟨fun h => by cases a; cases b; simp_all, fun h => by subst h; simp⟩
def Sal9.row (p : Sal9) : List Value :=
  [.int .i64 p.id, .int .i64 p.known, .int .i64 p.hour, .int .i64 p.parcel, .int .i64 p.price, .int .i64 p.carter, .int .i64 p.keeper, .int .i64 p.since, .int .i64 p.of_]
def toSal9 (l : List Value) : Sal9 := {
  id := vI (l.getD 0 default),
  known := vI (l.getD 1 default),
  hour := vI (l.getD 2 default),
  parcel := vI (l.getD 3 default),
  price := vI (l.getD 4 default),
  carter := vI (l.getD 5 default),
  keeper := vI (l.getD 6 default),
  since := vI (l.getD 7 default),
  of_ := vI (l.getD 8 default) }
def salSch : List CK := [.int .i64, .int .i64, .int .i64, .int .i64, .int .i64, .int .i64, .int .i64, .int .i64, .int .i64]
theorem sal_row {r : List Value} (h : RowFits salSch r) : r = (toSal9 r).row := by
  unfold salSch at h
  rcases h with _ | ⟨⟨a0, rfl⟩, h⟩
  rcases h with _ | ⟨⟨a1, rfl⟩, h⟩
  rcases h with _ | ⟨⟨a2, rfl⟩, h⟩
  rcases h with _ | ⟨⟨a3, rfl⟩, h⟩
  rcases h with _ | ⟨⟨a4, rfl⟩, h⟩
  rcases h with _ | ⟨⟨a5, rfl⟩, h⟩
  rcases h with _ | ⟨⟨a6, rfl⟩, h⟩
  rcases h with _ | ⟨⟨a7, rfl⟩, h⟩
  rcases h with _ | ⟨⟨a8, rfl⟩, h⟩
  cases h
  rfl
structure Fra2 where
  num : Int
  den : Int
instance : DecidableEq Fra2 := fun a b =>
  decidable_of_iff (a.num = b.num ∧ a.den = b.den) ⟨fun h => by cases a; cases b; simp_all, fun h => by subst h; simp⟩
def Fra2.row (p : Fra2) : List Value :=
  [.int .i64 p.num, .int .i64 p.den]
def toFra2 (l : List Value) : Fra2 := {
  num := vI (l.getD 0 default),
  den := vI (l.getD 1 default) }
def fraSch : List CK := [.int .i64, .int .i64]
theorem fra_row {r : List Value} (h : RowFits fraSch r) : r = (toFra2 r).row := by
  unfold fraSch at h
  rcases h with _ | ⟨⟨a0, rfl⟩, h⟩
  rcases h with _ | ⟨⟨a1, rfl⟩, h⟩
  cases h
  rfl
def shortB {α : Type} (l : List α) : Bool := decide ((l.length : Int) ≤ 1010)
def allWho (l : List Who) : Bool := l.all fun x => withinB x.n 1 40
def badAt (l : List Who) : Int := (l.findIdx fun x => !(withinB x.n 1 40) : Nat)
def finderB (l : List Who) : Bool := withinB (l.length : Int) 1 40 && allWho l
def partR (p c : Int) (k : Nat) : Int := p.tdiv c + (if (k : Int) < p.tmod c then 1 else 0)
def partsTo (p c : Int) (i : Nat) : List Who := (List.range c.toNat).map fun k => ⟨if k < i then partR p c k else 0⟩
def partsR (p c : Int) : List Who := partsTo p c c.toNat
theorem partsTo_len (p c : Int) (i : Nat) : (partsTo p c i).length = c.toNat := by simp [partsTo]
theorem partsTo_get (p c : Int) (i k : Nat) (h : k < c.toNat) : (partsTo p c i)[k]? = some ⟨if k < i then partR p c k else 0⟩ := by
  simp [partsTo, h]
theorem partsTo_zero (p c : Int) : partsTo p c 0 = List.replicate c.toNat ⟨0⟩ := by
  apply List.ext_getElem?
  intro k
  by_cases h : k < c.toNat
  · rw [partsTo_get _ _ _ _ h]
    simp [h]
  · rw [List.getElem?_eq_none (by rw [partsTo_len]; omega), List.getElem?_eq_none (by simp; omega)]
theorem partsTo_set (p c : Int) (i : Nat) (h : i < c.toNat) : (partsTo p c i).set i ⟨partR p c i⟩ = partsTo p c (i + 1) := by
  apply List.ext_getElem?
  intro k
  rw [List.getElem?_set]
  by_cases hk : k < c.toNat
  · rw [partsTo_get _ _ _ _ hk, partsTo_get _ _ _ _ hk, partsTo_len]
    by_cases e : i = k
    · subst e; simp [h]
    · rw [if_neg e]
      congr 2
      by_cases h1 : k < i
      · rw [if_pos h1, if_pos (by omega)]
      · rw [if_neg h1, if_neg (by omega)]
  · rw [List.getElem?_eq_none (by rw [partsTo_len]; omega), List.getElem?_eq_none (by rw [partsTo_len]; omega), partsTo_len]
    rw [if_neg (by omega)]
theorem part_bounds (p c : Int) (k : Nat) (hp : 0 ≤ p) (hc : 0 < c) : 0 ≤ partR p c k ∧ partR p c k ≤ p.tdiv c + 1 ∧ p.tdiv c ≤ partR p c k := by
  have := Int.tdiv_nonneg hp (Int.le_of_lt hc)
  unfold partR
  split <;> omega
theorem tdiv_leA (p c : Int) (hp : 0 ≤ p) (hc : 0 < c) : p.tdiv c ≤ p := by
  have h1 := Int.tdiv_nonneg hp (Int.le_of_lt hc)
  have h3 := Int.mul_tdiv_add_tmod p c
  have h4 := Int.tmod_nonneg c hp
  have h5 : p.tdiv c ≤ c * p.tdiv c := by
    have := Int.mul_le_mul_of_nonneg_right (show (1 : Int) ≤ c by omega) h1
    omega
  omega
def hasK (m : List Shr) (k : Int) : Bool := m.any fun x => x.party == k
def atK (m : List Shr) (k : Int) : Int := ((m.find? fun x => x.party == k).map Shr.pence).getD 0
def putK (k v : Int) : List Shr → List Shr
  | [] => [⟨k, v⟩]
  | x :: m => if x.party = k then ⟨k, v⟩ :: m else x :: putK k v m
def delK (k : Int) : List Shr → List Shr
  | [] => []
  | x :: m => if x.party = k then m else x :: delK k m
def addK (m : List Shr) (k v : Int) : List Shr := if atK m k + v = 0 then delK k (putK k (atK m k + v) m) else putK k (atK m k + v) m
def accA (l : List Shr) : List Shr := l.foldl (fun m x => addK m x.party (-x.pence)) []
def accB (m l : List Shr) : List Shr := l.foldl (fun m x => addK m x.party x.pence) m
def chk1 (x : Shr) : Bool := (x.party == 0 || withinB x.party 1 40) && withinB x.pence (-1000000000) 1000000000
def chkS (l : List Shr) : Int := if 1000 < (l.length : Int) then 2 else if l.all chk1 then 0 else 1
def keysS (m : List Shr) : List Int := (m.map Shr.party).mergeSort fun x y => decide (x ≤ y)
def chgOf (m : List Shr) : List Shr := (keysS m).map fun k => ⟨k, atK m k⟩
theorem chk1_iff (x : Shr) : chk1 x = true ↔ (0 ≤ x.party ∧ x.party ≤ 40) ∧ -1000000000 ≤ x.pence ∧ x.pence ≤ 1000000000 := by
  simp [chk1, withinB]; omega
theorem chkS_iff (l : List Shr) : chkS l = 0 ↔ (l.length : Int) ≤ 1000 ∧ ∀ x ∈ l, chk1 x = true := by
  unfold chkS
  split
  · constructor
    · intro h; omega
    · intro h; omega
  · split
    · rename_i h; simp only [List.all_eq_true] at h; exact ⟨fun _ => ⟨by omega, h⟩, fun _ => rfl⟩
    · rename_i h; simp only [List.all_eq_true] at h; constructor
      · intro h'; omega
      · intro h'; exact absurd h'.2 h
theorem has_put (m : List Shr) (k v : Int) : hasK (putK k v m) k = true := by
  induction m with
  | nil => simp [putK, hasK]
  | cons x m ih =>
    simp only [putK]
    split
    · simp [hasK]
    · simp only [hasK, List.any_cons, Bool.or_eq_true] at ih ⊢; exact .inr ih
theorem at_put (m : List Shr) (k v : Int) : atK (putK k v m) k = v := by
  induction m with
  | nil => simp [putK, atK]
  | cons x m ih =>
    simp only [putK]
    split
    · simp [atK]
    · rename_i h
      simp only [atK, List.find?_cons, beq_eq_false_iff_ne.2 h] at ih ⊢
      exact ih
theorem at_none {m : List Shr} {k : Int} (h : hasK m k = false) : atK m k = 0 := by
  have : m.find? (fun x => x.party == k) = none := List.find?_eq_none.2 fun x hx => by
    have := List.any_eq_false.1 h x hx
    simpa using this
  simp [atK, this]
def AccOk (n : Nat) (m : List Shr) : Prop := m.length ≤ n ∧ ∀ x ∈ m, (0 ≤ x.party ∧ x.party ≤ 40) ∧ -(1000000000 * (n : Int)) ≤ x.pence ∧ x.pence ≤ 1000000000 * (n : Int)
theorem acc_at {n : Nat} {m : List Shr} (h : AccOk n m) (k : Int) : -(1000000000 * (n : Int)) ≤ atK m k ∧ atK m k ≤ 1000000000 * (n : Int) := by
  unfold atK
  cases hf : m.find? fun x => x.party == k with
  | none => simp; omega
  | some x =>
    have := (h.2 x (List.mem_of_find?_eq_some hf)).2
    simpa using this
theorem put_mem {k v : Int} : ∀ {m : List Shr} {x : Shr}, x ∈ putK k v m → x ∈ m ∨ x = ⟨k, v⟩
  | [], x, h => by simp only [putK, List.mem_singleton] at h; exact .inr h
  | y :: m, x, h => by
    simp only [putK] at h
    split at h
    · rcases List.mem_cons.1 h with h | h
      · exact .inr h
      · exact .inl (List.mem_cons_of_mem _ h)
    · rcases List.mem_cons.1 h with h | h
      · exact .inl (h ▸ List.mem_cons_self)
      · rcases put_mem h with h | h
        · exact .inl (List.mem_cons_of_mem _ h)
        · exact .inr h
theorem del_mem {k : Int} : ∀ {m : List Shr} {x : Shr}, x ∈ delK k m → x ∈ m
  | [], x, h => h
  | y :: m, x, h => by
    simp only [delK] at h
    split at h
    · exact List.mem_cons_of_mem _ h
    · rcases List.mem_cons.1 h with h | h
      · exact h ▸ List.mem_cons_self
      · exact List.mem_cons_of_mem _ (del_mem h)
theorem put_len (k v : Int) : ∀ m : List Shr, (putK k v m).length ≤ m.length + 1
  | [] => by simp [putK]
  | y :: m => by
    have := put_len k v m
    simp only [putK]
    split <;> simp <;> omega
theorem del_len (k : Int) : ∀ m : List Shr, (delK k m).length ≤ m.length
  | [] => by simp [delK]
  | y :: m => by
    have := del_len k m
    simp only [delK]
    split <;> simp <;> omega
theorem acc_put {n : Nat} {m : List Shr} (h : AccOk n m) {k v : Int} (hk : 0 ≤ k ∧ k ≤ 40) (hv : -1000000000 ≤ v ∧ v ≤ 1000000000) : AccOk (n + 1) (putK k (atK m k + v) m) := by
  have ha := acc_at h k
  refine ⟨by have := put_len k (atK m k + v) m; have := h.1; omega, fun x hx => ?_⟩
  rcases put_mem hx with hx | rfl
  · have := h.2 x hx
    refine ⟨this.1, ?_⟩
    omega
  · exact ⟨hk, by simp only; omega⟩
theorem acc_add {n : Nat} {m : List Shr} (h : AccOk n m) {k v : Int} (hk : 0 ≤ k ∧ k ≤ 40) (hv : -1000000000 ≤ v ∧ v ≤ 1000000000) : AccOk (n + 1) (addK m k v) := by
  have hp := acc_put h hk hv
  unfold addK
  split
  · exact ⟨Nat.le_trans (del_len _ _) hp.1, fun x hx => hp.2 x (del_mem hx)⟩
  · exact hp
theorem accA_snoc (l : List Shr) (x : Shr) : accA (l ++ [x]) = addK (accA l) x.party (-x.pence) := by simp [accA]
theorem accB_snoc (m l : List Shr) (x : Shr) : accB m (l ++ [x]) = addK (accB m l) x.party x.pence := by simp [accB]
theorem accA_ok {l : List Shr} (h : ∀ x ∈ l, chk1 x = true) (i : Nat) (hi : i ≤ l.length) : AccOk i (accA (l.take i)) := by
  induction i with
  | zero => exact ⟨Nat.le_refl 0, fun x hx => by cases hx⟩
  | succ i ih =>
    have hx : l[i]? = some l[i] := List.getElem?_eq_getElem (by omega)
    have hc := (chk1_iff _).1 (h l[i] (List.getElem_mem _))
    rw [List.take_add_one, hx]
    show AccOk _ (accA (_ ++ [l[i]]))
    rw [accA_snoc]
    exact acc_add (ih (by omega)) hc.1 (by omega)
theorem accB_ok {m l : List Shr} {n : Nat} (hm : AccOk n m) (h : ∀ x ∈ l, chk1 x = true) (i : Nat) (hi : i ≤ l.length) : AccOk (n + i) (accB m (l.take i)) := by
  induction i with
  | zero => exact hm
  | succ i ih =>
    have hx : l[i]? = some l[i] := List.getElem?_eq_getElem (by omega)
    have hc := (chk1_iff _).1 (h l[i] (List.getElem_mem _))
    rw [List.take_add_one, hx]
    show AccOk _ (accB m (_ ++ [l[i]]))
    rw [accB_snoc]
    exact acc_add (ih (by omega)) hc.1 hc.2
def sumK (l : List Shr) (k : Int) : Int := l.foldl (fun s x => if x.party = k then IntKind.i64.wrap (s + x.pence) else s) 0
theorem sumK_snoc (l : List Shr) (k : Int) (x : Shr) : sumK (l ++ [x]) k = if x.party = k then IntKind.i64.wrap (sumK l k + x.pence) else sumK l k := by simp [sumK]
def bigBS {α : Type} (l : List α) : Bool := decide ((l.length : Int) ≤ 5000)
def mrgTo (l : List Shr) (n : Nat) : List Shr := ((List.range n).filter fun (p : Nat) => !(sumK l (p : Int) == 0)).map fun (p : Nat) => ⟨(p : Int), sumK l (p : Int)⟩
def mrgR (l : List Shr) : List Shr := mrgTo l 41
def negAll (a : List Shr) : List Shr := a.map fun x => ⟨x.party, IntKind.i64.wrap (0 - x.pence)⟩
def in12 (l : List Shr) : Bool := l.all fun x => decide (-1000000000000 ≤ x.pence) && decide (x.pence ≤ 1000000000000)
def bothS (a b : List Shr) : List Shr := b ++ negAll a
def byteAt (s : ByteArray) (i : Nat) : Int := (((s[i]?.map UInt8.toNat).getD 0 : Nat) : Int)
def goodsC (n : Int) : Bool := (decide (97 ≤ n) && decide (n ≤ 122)) || ((decide (48 ≤ n) && decide (n ≤ 57)) || n == 45)
def allUpto (p : Int → Bool) (s : ByteArray) : Nat → Bool
  | 0 => true
  | i + 1 => allUpto p s i && p (byteAt s i)
def goodsAll (s : ByteArray) : Bool := allUpto goodsC s s.size
def nameB (s : ByteArray) : Bool := withinB s.size 1 24 && ((decide (97 ≤ byteAt s 0) && decide (byteAt s 0 ≤ 122)) && (!(s == bytesOf [97, 108, 108]) && goodsAll s))
def partB (n d : Int) : Bool := decide (normR n d = (n, d, 0)) && withinB n 0 d
def rateB (x : Rat9) : Bool :=
  (withinB x.id 1 1000000 && (withinB x.known 0 1000000 && withinB x.of_ 0 1000000)) &&
  (if x.of_ = 0 then withinB x.from_ 0 1000000 && ((x.goods == bytesOf [] || nameB x.goods) && (partB x.num x.den && (withinB x.cart 0 100000 && withinB x.store 0 100000)))
   else x.from_ == 0 && (x.goods == bytesOf [] && (x.num == 0 && (x.den == 0 && (x.cart == 0 && x.store == 0)))))
def saleB (x : Sal9) : Bool :=
  (withinB x.id 1 1000000 && (withinB x.known 0 1000000 && withinB x.of_ 0 1000000)) &&
  (if x.of_ = 0 then withinB x.hour 0 x.known && (withinB x.parcel 10 10000007 && (withinB x.price 1 1000000000 && ((x.carter == 0 || withinB x.carter 1 40) && (x.keeper == 0 && x.since == 0 || withinB x.keeper 1 40 && withinB x.since 0 x.hour))))
   else x.hour == 0 && (x.parcel == 0 && (x.price == 0 && (x.carter == 0 && (x.keeper == 0 && x.since == 0)))))
def givesB (r : Rat9) (s : Sal9) (l : List Who) : Bool := (rateB r && (saleB s && (r.of_ == 0 && s.of_ == 0))) && finderB l
structure Div9 where
  rc : Int
  rs : Int
  nu : Int
  de : Int
  p : Int
  h : Int
  ca : Int
  ke : Int
  si : Int
def cart9 (d : Div9) : Int := min (if d.ca = 0 then 0 else d.rc) d.p
def stor9 (d : Div9) : Int := min (if d.ke = 0 then 0 else d.rs * (d.h - d.si + 99).tdiv 100) (d.p - cart9 d)
def find9 (d : Div9) : Int := min ((d.p * d.nu).tdiv d.de) (d.p - cart9 d - stor9 d)
def rest9 (d : Div9) : Int := d.p - cart9 d - stor9 d - find9 d
def payTo (d : Div9) (l : List Who) (n : Nat) : List Shr :=
  ⟨d.ca, cart9 d⟩ :: ⟨d.ke, stor9 d⟩ :: (List.range n).map fun k => ⟨(l.getD k ⟨0⟩).n, partR (find9 d) l.length k⟩
def payL (d : Div9) (l : List Who) : List Shr := payTo d l l.length
def isShr (v : Value) : Bool := match v with
  | .agg c => match c.toList with
    | [.int .i64 _, .int .i64 _] => true
    | _ => false
  | _ => false
def isShrs (x : Value) : Bool := match x with
  | .tuple a => a.toList.all isShr
  | _ => false
theorem shrs_is {x : Value} (h : isShrs x = true) : x = shrsR (shrsV x) := by
  unfold isShrs at h
  split at h
  · rename_i a
    have key : ∀ l : List Value, l.all isShr = true → l = ((l.map fun v => match v with | .agg c => toShr c.toList | _ => toShr []).map Shr.row).map fun r => Value.agg r.toArray := by
      intro l
      induction l with
      | nil => intro _; rfl
      | cons v l ih =>
        intro h
        rw [List.all_cons, Bool.and_eq_true] at h
        simp only [List.map_cons]
        rw [← ih h.2]
        congr 1
        have hv := h.1
        unfold isShr at hv
        split at hv
        · rename_i c
          split at hv
          · rename_i m n e
            obtain ⟨l⟩ := c
            simp only at e
            subst e
            rfl
          · cases hv
        · cases hv
    unfold shrsR shrsV rowsV
    congr 1
    apply Array.ext'
    rw [List.toList_toArray]
    exact key a.toList h
  · cases h
theorem is_shrs (l : List Shr) : isShrs (shrsR l) = true := by
  simp only [isShrs, shrsR, rowsV, List.toList_toArray, List.all_map, List.all_eq_true]
  intro x _
  rfl
def sy : Nat → List Value → Option Value
  | 10, [.int _ a, .int _ b, .int _ c] => some (.bool (withinB a b c))
  | 20, [a] => some (.bool (shortB (whosV a)))
  | 21, [a] => some (.bool (shortB (shrsV a)))
  | 100, [a] => some (.bool (finderB (whosV a)))
  | 101, [a] => some (.bool (allWho (whosV a)))
  | 102, [.int _ p, .int _ c] => some (whosR (partsR p c))
  | 103, [a] => some (.int .i64 (badAt (whosV a)))
  | 110, [a] => some (.int .i64 (chkS (shrsV a)))
  | 111, [a, b] => some (shrsR (accB (shrsV b) (shrsV a)))
  | 112, [a] => some (shrsR (accA (shrsV a)))
  | 113, [.tuple rs] => some (rowsV (oneRows (sortK (rowsOf rs))))
  | 114, [.tuple rs] => some (.bool (wordK (rowsOf rs)))
  | 115, [a] => some (shrsR (chgOf (shrsV a)))
  | 116, [a, .int _ k] => some (.int .i64 (sumK (shrsV a) k))
  | 117, [a] => some (shrsR (accB (accA []) (shrsV a)))
  | 118, [a] => some (shrsR (accB (accA (shrsV a)) []))
  | 22, [a] => some (.bool (bigBS (shrsV a)))
  | 119, [a, b] => some (.bool (decide (shrsV a = shrsV b)))
  | 120, [a] => some (shrsR (mrgR (shrsV a)))
  | 121, [a] => some (shrsR (negAll (shrsV a)))
  | 122, [a] => some (.bool (in12 (shrsV a)))
  | 123, [a, b] => some (shrsR (bothS (shrsV a) (shrsV b)))
  | 50, [.int _ a, .int _ b] => some (.int .i64 (gcdI a b))
  | 52, [.int k a, .int k' b] => some (.int (lastK k k' a b) (lastI a b))
  | 53, [.int _ n, .int _ d] => some (.int .i64 (lowN n d))
  | 54, [.int _ n, .int _ d] => some (.int .i64 (lowD n d))
  | 58, [.int _ n, .int _ d] => some (.bool (canB n d))
  | 59, [.int _ a] => some (.int .i64 a.natAbs)
  | 55, [.int _ a] => some (.bool (wideB a))
  | 70, [.int _ n, .int _ d] => some (.int .i64 (normR n d).1)
  | 71, [.int _ n, .int _ d] => some (.int .i64 (normR n d).2.1)
  | 72, [.int _ n, .int _ d] => some (.int .i64 (normR n d).2.2)
  | 24, [.string s] => some (.bool (goodsAll s))
  | 133, [.string s] => some (.bool (nameB s))
  | 132, [.int _ n, .int _ d] => some (.bool (partB n d))
  | 140, [.int _ rc, .int _ rs, .int _ nu, .int _ de, .int _ p, .int _ h, .int _ ca, .int _ ke, .int _ si] => some (.int .i64 (cart9 ⟨rc, rs, nu, de, p, h, ca, ke, si⟩))
  | 141, [.int _ rc, .int _ rs, .int _ nu, .int _ de, .int _ p, .int _ h, .int _ ca, .int _ ke, .int _ si] => some (.int .i64 (stor9 ⟨rc, rs, nu, de, p, h, ca, ke, si⟩))
  | 142, [.int _ rc, .int _ rs, .int _ nu, .int _ de, .int _ p, .int _ h, .int _ ca, .int _ ke, .int _ si] => some (.int .i64 (find9 ⟨rc, rs, nu, de, p, h, ca, ke, si⟩))
  | 143, [.int _ rc, .int _ rs, .int _ nu, .int _ de, .int _ p, .int _ h, .int _ ca, .int _ ke, .int _ si] => some (.int .i64 (rest9 ⟨rc, rs, nu, de, p, h, ca, ke, si⟩))
  | 144, [.int _ rc, .int _ rs, .int _ nu, .int _ de, .int _ p, .int _ h, .int _ ca, .int _ ke, .int _ si, l] => some (shrsR (payL ⟨rc, rs, nu, de, p, h, ca, ke, si⟩ (whosV l)))
  | 130, [.int _ a0, .int _ a1, .int _ a2, .string a3, .int _ a4, .int _ a5, .int _ a6, .int _ a7, .int _ a8] => some (.bool (rateB ⟨a0, a1, a2, a3, a4, a5, a6, a7, a8⟩))
  | 131, [.int _ b0, .int _ b1, .int _ b2, .int _ b3, .int _ b4, .int _ b5, .int _ b6, .int _ b7, .int _ b8] => some (.bool (saleB ⟨b0, b1, b2, b3, b4, b5, b6, b7, b8⟩))
  | 146, [.int _ a0, .int _ a1, .int _ a2, .string a3, .int _ a4, .int _ a5, .int _ a6, .int _ a7, .int _ a8, .int _ b0, .int _ b1, .int _ b2, .int _ b3, .int _ b4, .int _ b5, .int _ b6, .int _ b7, .int _ b8, l] => some (.bool (givesB ⟨a0, a1, a2, a3, a4, a5, a6, a7, a8⟩ ⟨b0, b1, b2, b3, b4, b5, b6, b7, b8⟩ (whosV l)))
  | 147, [.int _ rc, .int _ rs, .int _ nu, .int _ de, .int _ p, .int _ h, .int _ ca, .int _ ke, .int _ si, x] => some (.bool (isShrs x && decide (shrsV x = accB [] (payTo ⟨rc, rs, nu, de, p, h, ca, ke, si⟩ [] 0))))
  | _, _ => none
open Go
theorem d_wrap (k k' : IntKind) (n : Int) : den1 (.wrap k) (.int k' n) = some (.int k (k.wrap n)) := rfl
theorem d_kind (k k' : IntKind) (n : Int) : den1 (.kind k) (.int k' n) = some (.int k n) := rfl
theorem d_not (b : Bool) : den1 .not (.bool b) = some (.bool (!b)) := rfl
theorem d_neg (k' : IntKind) (n : Int) : den1 .neg (.int k' n) = some (.int .i64 (-n)) := rfl
theorem d_slen (s : ByteArray) : den1 .slen (.string s) = some (.int .i64 s.size) := rfl
theorem d_add (k k' : IntKind) (m n : Int) : den2 .add (.int k m) (.int k' n) = some (.int .i64 (m + n)) := rfl
theorem d_sub (k k' : IntKind) (m n : Int) : den2 .sub (.int k m) (.int k' n) = some (.int .i64 (m - n)) := rfl
theorem d_mul (k k' : IntKind) (m n : Int) : den2 .mul (.int k m) (.int k' n) = some (.int .i64 (m * n)) := rfl
theorem d_div (k k' : IntKind) (m n : Int) : den2 .div (.int k m) (.int k' n) = some (.int .i64 (m.tdiv n)) := rfl
theorem d_mod (k k' : IntKind) (m n : Int) : den2 .mod (.int k m) (.int k' n) = some (.int .i64 (m.tmod n)) := rfl
theorem d_lt (k k' : IntKind) (m n : Int) : den2 .lt (.int k m) (.int k' n) = some (.bool (decide (m < n))) := rfl
theorem d_le (k k' : IntKind) (m n : Int) : den2 .le (.int k m) (.int k' n) = some (.bool (decide (m ≤ n))) := rfl
theorem d_eq (k k' : IntKind) (m n : Int) : den2 .eq (.int k m) (.int k' n) = some (.bool (m == n)) := rfl
theorem d_eqb (a b : Bool) : den2 .eqb (.bool a) (.bool b) = some (.bool (a == b)) := rfl
theorem d_eqs (a b : ByteArray) : den2 .eqs (.string a) (.string b) = some (.bool (a == b)) := rfl
theorem d_lts (a b : ByteArray) : den2 .lts (.string a) (.string b) = some (.bool (Op.bytesLess a.toList b.toList)) := rfl
theorem d_cat (a b : ByteArray) : den2 .cat (.string a) (.string b) = some (.string (a ++ b)) := rfl
theorem d_sat (a : ByteArray) (k : IntKind) (n : Int) : den2 .sat (.string a) (.int k n) = some (.int .u8 ((a[n.toNat]?.map UInt8.toNat).getD 0)) := rfl
theorem d_and (a b : Bool) : den2 .and (.bool a) (.bool b) = some (.bool (a && b)) := rfl
theorem d_or (a b : Bool) : den2 .or (.bool a) (.bool b) = some (.bool (a || b)) := rfl
theorem d_mhas (a : List (List Value)) (k : List Value) : den2 .mhas (rowsV a) (rowsV [k]) = some (.bool (mapHas a k)) := by
  simp only [rowsV, den2, rowsOf_V, keyRow_V]
theorem d_mat (j : Nat) (a : List (List Value)) (k : List Value) : den2 (.mat j) (rowsV a) (rowsV [k]) = mapAt a k j := by
  simp only [rowsV, den2, rowsOf_V, keyRow_V]
theorem d_mput (n : Nat) (a : List (List Value)) (k : List Value) : den2 (.mput n) (rowsV a) (rowsV [k]) = some (rowsV (putRow (k.take n) k a)) := by
  simp only [rowsV, den2, rowsOf_V, keyRow_V]
theorem whos_len (l : List Who) : den1 .len (whosR l) = some (.int .i64 l.length) := by simp [den1, whosR, rowsV]
theorem whos_cell (j : Nat) (l : List Who) (k : IntKind) (n : Int) : denCell j (whosR l) (.int k n) = (l[n.toNat]?).bind fun p => p.row[j]? := by
  simp only [denCell, whosR, rowsV, List.getElem?_toArray, List.getElem?_map]
  cases l[n.toNat]? <;> simp
theorem whos_lsub (l : List Who) (k k' : IntKind) (a b : Int) : denLsub (whosR l) (.int k a) (.int k' b) = some (whosR ((l.take b.toNat).drop a.toNat)) := by
  simp only [whosR, rowsV, denLsub]
  congr 2
  apply Array.ext'
  simp [List.map_take, List.map_drop, List.extract_eq_take_drop, List.drop_take]
theorem whos_snoc (l : List Who) (x : Who) : denSnoc (whosR l) [.int .i64 x.n] = some (whosR (l ++ [x])) := by
  simp [denSnoc, whosR, rowsV, Who.row]
theorem whos_snoc0 (x : Who) : denSnoc (.tuple #[]) [.int .i64 x.n] = some (whosR [x]) := whos_snoc [] x
theorem who0 (p : Who) : p.row[0]? = some (.int .i64 p.n) := rfl
def whosArg (i b : Nat) : Arg := .list i 1 whoSch 3 b (b + 1) (b + 2)
theorem whos_at {P : Program} {l : List (Nat × ABlock)} {N i : Nat} {b x : X} {own : Bool} {t : TypeId} {σ : Sig} {w : World} {Wr : Nat → Prop} (hrel : (memOf l N).rel P σ w Wr) (hg : (buildH l).get i = some (.rows 1 whoSch b x own t)) :
    ∃ ps : List Who, x.den σ.rho = some (whosR ps) := by
  obtain ⟨rows, h1, h2⟩ := rows_at hrel hg
  exact ⟨rows.map toWho, by rw [h1, whosR, ← whos_of h2]⟩
theorem shrs_len (l : List Shr) : den1 .len (shrsR l) = some (.int .i64 l.length) := by simp [den1, shrsR, rowsV]
theorem shrs_cell (j : Nat) (l : List Shr) (k : IntKind) (n : Int) : denCell j (shrsR l) (.int k n) = (l[n.toNat]?).bind fun p => p.row[j]? := by
  simp only [denCell, shrsR, rowsV, List.getElem?_toArray, List.getElem?_map]
  cases l[n.toNat]? <;> simp
theorem shrs_lsub (l : List Shr) (k k' : IntKind) (a b : Int) : denLsub (shrsR l) (.int k a) (.int k' b) = some (shrsR ((l.take b.toNat).drop a.toNat)) := by
  simp only [shrsR, rowsV, denLsub]
  congr 2
  apply Array.ext'
  simp [List.map_take, List.map_drop, List.extract_eq_take_drop, List.drop_take]
theorem shrs_snoc (l : List Shr) (x : Shr) : denSnoc (shrsR l) [.int .i64 x.party, .int .i64 x.pence] = some (shrsR (l ++ [x])) := by
  simp [denSnoc, shrsR, rowsV, Shr.row]
theorem shrs_snoc0 (x : Shr) : denSnoc (.tuple #[]) [.int .i64 x.party, .int .i64 x.pence] = some (shrsR [x]) := shrs_snoc [] x
theorem shr0 (p : Shr) : p.row[0]? = some (.int .i64 p.party) := rfl
theorem shr1 (p : Shr) : p.row[1]? = some (.int .i64 p.pence) := rfl
def shrsArg (i b : Nat) : Arg := .list i 2 shrSch 57 b (b + 1) (b + 2)
theorem shrs_at {P : Program} {l : List (Nat × ABlock)} {N i : Nat} {b x : X} {own : Bool} {t : TypeId} {σ : Sig} {w : World} {Wr : Nat → Prop} (hrel : (memOf l N).rel P σ w Wr) (hg : (buildH l).get i = some (.rows 2 shrSch b x own t)) :
    ∃ ps : List Shr, x.den σ.rho = some (shrsR ps) := by
  obtain ⟨rows, h1, h2⟩ := rows_at hrel hg
  exact ⟨rows.map toShr, by rw [h1, shrsR, ← shrs_of h2]⟩
theorem rat0 (p : Rat9) : p.row[0]? = some (.int .i64 p.id) := rfl
theorem rat1 (p : Rat9) : p.row[1]? = some (.int .i64 p.known) := rfl
theorem rat2 (p : Rat9) : p.row[2]? = some (.int .i64 p.from_) := rfl
theorem rat3 (p : Rat9) : p.row[3]? = some (.string p.goods) := rfl
theorem rat4 (p : Rat9) : p.row[4]? = some (.int .i64 p.num) := rfl
theorem rat5 (p : Rat9) : p.row[5]? = some (.int .i64 p.den) := rfl
theorem rat6 (p : Rat9) : p.row[6]? = some (.int .i64 p.cart) := rfl
theorem rat7 (p : Rat9) : p.row[7]? = some (.int .i64 p.store) := rfl
theorem rat8 (p : Rat9) : p.row[8]? = some (.int .i64 p.of_) := rfl
def ratLeaves (v : Nat) : List Leaf := [.int .i64 (v + 0), .int .i64 (v + 1), .int .i64 (v + 2), .str (v + 3), .int .i64 (v + 4), .int .i64 (v + 5), .int .i64 (v + 6), .int .i64 (v + 7), .int .i64 (v + 8)]
structure Rat9At (ρ : Rho) (v : Nat) (k : Nat → IntKind) (p : Rat9) : Prop where
  h0 : ρ.val (v + 0) = some (.int (k 0) p.id)
  h1 : ρ.val (v + 1) = some (.int (k 1) p.known)
  h2 : ρ.val (v + 2) = some (.int (k 2) p.from_)
  h3 : ρ.val (v + 3) = some (.string p.goods)
  h4 : ρ.val (v + 4) = some (.int (k 4) p.num)
  h5 : ρ.val (v + 5) = some (.int (k 5) p.den)
  h6 : ρ.val (v + 6) = some (.int (k 6) p.cart)
  h7 : ρ.val (v + 7) = some (.int (k 7) p.store)
  h8 : ρ.val (v + 8) = some (.int (k 8) p.of_)
theorem rat_agg {σ : Sig} {v : Nat} {u : Value} (h : (Arg.agg (ratLeaves v)).av.inst σ = some u) : ∃ (p : Rat9) (k : Nat → IntKind), u = .agg p.row.toArray ∧ Rat9At σ.rho v k p := by
  obtain ⟨vs, rfl, gs⟩ := AV.inst_agg h
  obtain ⟨x0, vs, rfl, g0, gs⟩ := ins_cons gs
  obtain ⟨x1, vs, rfl, g1, gs⟩ := ins_cons gs
  obtain ⟨x2, vs, rfl, g2, gs⟩ := ins_cons gs
  obtain ⟨x3, vs, rfl, g3, gs⟩ := ins_cons gs
  obtain ⟨x4, vs, rfl, g4, gs⟩ := ins_cons gs
  obtain ⟨x5, vs, rfl, g5, gs⟩ := ins_cons gs
  obtain ⟨x6, vs, rfl, g6, gs⟩ := ins_cons gs
  obtain ⟨x7, vs, rfl, g7, gs⟩ := ins_cons gs
  obtain ⟨x8, vs, rfl, g8, gs⟩ := ins_cons gs
  cases gs
  obtain ⟨a0, k0, rfl, h0⟩ := one_int g0
  obtain ⟨a1, k1, rfl, h1⟩ := one_int g1
  obtain ⟨a2, k2, rfl, h2⟩ := one_int g2
  obtain ⟨a3, rfl, h3⟩ := one_str g3
  obtain ⟨a4, k4, rfl, h4⟩ := one_int g4
  obtain ⟨a5, k5, rfl, h5⟩ := one_int g5
  obtain ⟨a6, k6, rfl, h6⟩ := one_int g6
  obtain ⟨a7, k7, rfl, h7⟩ := one_int g7
  obtain ⟨a8, k8, rfl, h8⟩ := one_int g8
  exact ⟨⟨a0, a1, a2, a3, a4, a5, a6, a7, a8⟩, fun i => [k0, k1, k2, .i64, k4, k5, k6, k7, k8].getD i .i64, rfl, ⟨h0, h1, h2, h3, h4, h5, h6, h7, h8⟩⟩
theorem sal0 (p : Sal9) : p.row[0]? = some (.int .i64 p.id) := rfl
theorem sal1 (p : Sal9) : p.row[1]? = some (.int .i64 p.known) := rfl
theorem sal2 (p : Sal9) : p.row[2]? = some (.int .i64 p.hour) := rfl
theorem sal3 (p : Sal9) : p.row[3]? = some (.int .i64 p.parcel) := rfl
theorem sal4 (p : Sal9) : p.row[4]? = some (.int .i64 p.price) := rfl
theorem sal5 (p : Sal9) : p.row[5]? = some (.int .i64 p.carter) := rfl
theorem sal6 (p : Sal9) : p.row[6]? = some (.int .i64 p.keeper) := rfl
theorem sal7 (p : Sal9) : p.row[7]? = some (.int .i64 p.since) := rfl
theorem sal8 (p : Sal9) : p.row[8]? = some (.int .i64 p.of_) := rfl
def salLeaves (v : Nat) : List Leaf := [.int .i64 (v + 0), .int .i64 (v + 1), .int .i64 (v + 2), .int .i64 (v + 3), .int .i64 (v + 4), .int .i64 (v + 5), .int .i64 (v + 6), .int .i64 (v + 7), .int .i64 (v + 8)]
structure Sal9At (ρ : Rho) (v : Nat) (k : Nat → IntKind) (p : Sal9) : Prop where
  h0 : ρ.val (v + 0) = some (.int (k 0) p.id)
  h1 : ρ.val (v + 1) = some (.int (k 1) p.known)
  h2 : ρ.val (v + 2) = some (.int (k 2) p.hour)
  h3 : ρ.val (v + 3) = some (.int (k 3) p.parcel)
  h4 : ρ.val (v + 4) = some (.int (k 4) p.price)
  h5 : ρ.val (v + 5) = some (.int (k 5) p.carter)
  h6 : ρ.val (v + 6) = some (.int (k 6) p.keeper)
  h7 : ρ.val (v + 7) = some (.int (k 7) p.since)
  h8 : ρ.val (v + 8) = some (.int (k 8) p.of_)
theorem sal_agg {σ : Sig} {v : Nat} {u : Value} (h : (Arg.agg (salLeaves v)).av.inst σ = some u) : ∃ (p : Sal9) (k : Nat → IntKind), u = .agg p.row.toArray ∧ Sal9At σ.rho v k p := by
  obtain ⟨vs, rfl, gs⟩ := AV.inst_agg h
  obtain ⟨x0, vs, rfl, g0, gs⟩ := ins_cons gs
  obtain ⟨x1, vs, rfl, g1, gs⟩ := ins_cons gs
  obtain ⟨x2, vs, rfl, g2, gs⟩ := ins_cons gs
  obtain ⟨x3, vs, rfl, g3, gs⟩ := ins_cons gs
  obtain ⟨x4, vs, rfl, g4, gs⟩ := ins_cons gs
  obtain ⟨x5, vs, rfl, g5, gs⟩ := ins_cons gs
  obtain ⟨x6, vs, rfl, g6, gs⟩ := ins_cons gs
  obtain ⟨x7, vs, rfl, g7, gs⟩ := ins_cons gs
  obtain ⟨x8, vs, rfl, g8, gs⟩ := ins_cons gs
  cases gs
  obtain ⟨a0, k0, rfl, h0⟩ := one_int g0
  obtain ⟨a1, k1, rfl, h1⟩ := one_int g1
  obtain ⟨a2, k2, rfl, h2⟩ := one_int g2
  obtain ⟨a3, k3, rfl, h3⟩ := one_int g3
  obtain ⟨a4, k4, rfl, h4⟩ := one_int g4
  obtain ⟨a5, k5, rfl, h5⟩ := one_int g5
  obtain ⟨a6, k6, rfl, h6⟩ := one_int g6
  obtain ⟨a7, k7, rfl, h7⟩ := one_int g7
  obtain ⟨a8, k8, rfl, h8⟩ := one_int g8
  exact ⟨⟨a0, a1, a2, a3, a4, a5, a6, a7, a8⟩, fun i => [k0, k1, k2, k3, k4, k5, k6, k7, k8].getD i .i64, rfl, ⟨h0, h1, h2, h3, h4, h5, h6, h7, h8⟩⟩
theorem fra0 (p : Fra2) : p.row[0]? = some (.int .i64 p.num) := rfl
theorem fra1 (p : Fra2) : p.row[1]? = some (.int .i64 p.den) := rfl
def fraLeaves (v : Nat) : List Leaf := [.int .i64 (v + 0), .int .i64 (v + 1)]
structure Fra2At (ρ : Rho) (v : Nat) (k : Nat → IntKind) (p : Fra2) : Prop where
  h0 : ρ.val (v + 0) = some (.int (k 0) p.num)
  h1 : ρ.val (v + 1) = some (.int (k 1) p.den)
theorem fra_agg {σ : Sig} {v : Nat} {u : Value} (h : (Arg.agg (fraLeaves v)).av.inst σ = some u) : ∃ (p : Fra2) (k : Nat → IntKind), u = .agg p.row.toArray ∧ Fra2At σ.rho v k p := by
  obtain ⟨vs, rfl, gs⟩ := AV.inst_agg h
  obtain ⟨x0, vs, rfl, g0, gs⟩ := ins_cons gs
  obtain ⟨x1, vs, rfl, g1, gs⟩ := ins_cons gs
  cases gs
  obtain ⟨a0, k0, rfl, h0⟩ := one_int g0
  obtain ⟨a1, k1, rfl, h1⟩ := one_int g1
  exact ⟨⟨a0, a1⟩, fun i => [k0, k1].getD i .i64, rfl, ⟨h0, h1⟩⟩
theorem whos_lcat (a b : List Who) : den2 .lcat (whosR a) (whosR b) = some (whosR (a ++ b)) := by
  simp [den2, whosR, rowsV]
theorem whos_rep (k : IntKind) (n : Int) (x : Who) : den2 .rep (.int k n) (whosR [x]) = some (whosR (List.replicate n.toNat x)) := by
  simp [den2, whosR, rowsV]
theorem shrs_lcat (a b : List Shr) : den2 .lcat (shrsR a) (shrsR b) = some (shrsR (a ++ b)) := by
  simp [den2, shrsR, rowsV]
theorem sym10 (k0 k1 k2 : IntKind) (a b c : Int) : sy 10 [.int k0 a, .int k1 b, .int k2 c] = some (.bool (withinB a b c)) := rfl
theorem sym20 (l : List Who) : sy 20 [whosR l] = some (.bool (shortB l)) := congrArg (fun l => some (Value.bool (shortB l))) (whosV_R l)
theorem sym21 (l : List Shr) : sy 21 [shrsR l] = some (.bool (shortB l)) := congrArg (fun l => some (Value.bool (shortB l))) (shrsV_R l)
theorem sym100 (l : List Who) : sy 100 [whosR l] = some (.bool (finderB l)) := congrArg (fun l => some (Value.bool (finderB l))) (whosV_R l)
theorem sym101 (l : List Who) : sy 101 [whosR l] = some (.bool (allWho l)) := congrArg (fun l => some (Value.bool (allWho l))) (whosV_R l)
theorem sym102 (k0 k1 : IntKind) (p c : Int) : sy 102 [.int k0 p, .int k1 c] = some (whosR (partsR p c)) := rfl
theorem sym103 (l : List Who) : sy 103 [whosR l] = some (.int .i64 (badAt l)) := congrArg (fun l => some (Value.int .i64 (badAt l))) (whosV_R l)
theorem whos_snocN (l : List Who) (n : Int) : denSnoc (whosR l) [.int .i64 n] = some (whosR (l ++ [⟨n⟩])) := whos_snoc l ⟨n⟩
theorem whos_snoc0N (n : Int) : denSnoc (.tuple #[]) [.int .i64 n] = some (whosR [⟨n⟩]) := whos_snoc0 ⟨n⟩
theorem shrs_snocN (l : List Shr) (a b : Int) : denSnoc (shrsR l) [.int .i64 a, .int .i64 b] = some (shrsR (l ++ [⟨a, b⟩])) := shrs_snoc l ⟨a, b⟩
theorem shrs_snoc0N (a b : Int) : denSnoc (.tuple #[]) [.int .i64 a, .int .i64 b] = some (shrsR [⟨a, b⟩]) := shrs_snoc0 ⟨a, b⟩
theorem set_form {α : Type} (L : List α) (i : Nat) (a : α) (h : i < L.length) :
    (((L.take ((i : Int)).toNat).drop ((0 : Int)).toNat ++ [a]) ++ ((L.take ((L.length : Int)).toNat).drop ((i : Int) + 1).toNat)) = L.set i a := by
  rw [List.set_eq_take_append_cons_drop, if_pos h]
  have e1 : ((i : Int) + 1).toNat = i + 1 := by omega
  simp only [Int.toNat_natCast, e1, List.take_length, Int.toNat_zero, List.drop_zero, List.append_assoc, List.singleton_append]
theorem allWho_at {l : List Who} {i : Nat} {x : Who} (h : l[i]? = some x) (hb : withinB x.n 1 40 = false) : allWho l = false := by
  cases ha : allWho l with
  | false => rfl
  | true =>
    have := List.all_eq_true.1 ha x (List.mem_of_getElem? h)
    rw [hb] at this; cases this
theorem allWho_next {l : List Who} {i : Nat} {x : Who} (h : l[i]? = some x) (ha : allWho (l.take i) = true) (hb : withinB x.n 1 40 = true) : allWho (l.take (i + 1)) = true := by
  unfold allWho at *
  rw [List.take_add_one, h, List.all_append, ha]
  simp [hb]
theorem badAt_is {l : List Who} {i : Nat} {x : Who} (h : l[i]? = some x) (ha : allWho (l.take i) = true) (hb : withinB x.n 1 40 = false) : badAt l = i := by
  unfold badAt
  obtain ⟨hi, rfl⟩ := List.getElem?_eq_some_iff.1 h
  have : (l.findIdx fun x => !(withinB x.n 1 40)) = i := by
    rw [List.findIdx_eq hi]
    refine ⟨by simp [hb], fun j hj => ?_⟩
    have := List.all_eq_true.1 ha (l[j]) (List.mem_take_iff_getElem.2 ⟨j, by omega, rfl⟩)
    simp [this]
  rw [this]
theorem badAt_nonneg (l : List Who) : 0 ≤ badAt l := by unfold badAt; omega
theorem parts_get (p c : Int) (k : Nat) (h : k < c.toNat) : (partsR p c)[k]? = some ⟨partR p c k⟩ := by
  unfold partsR
  rw [partsTo_get _ _ _ _ h, if_pos h]
theorem parts_len (p c : Int) : (partsR p c).length = c.toNat := partsTo_len p c c.toNat
theorem sym113R (rows : List (List Value)) : sy 113 [rowsV rows] = some (rowsV (oneRows (sortK rows))) := congrArg (fun l => some (rowsV (oneRows (sortK l)))) (rowsOf_V rows)
theorem sym114R (rows : List (List Value)) : sy 114 [rowsV rows] = some (.bool (wordK rows)) := congrArg (fun l => some (Value.bool (wordK l))) (rowsOf_V rows)
theorem keys_rows (m : List Shr) : sortK (m.map Shr.row) = keysS m := by
  unfold sortK keysS
  rw [List.map_map, show keyI ∘ Shr.row = Shr.party from funext fun _ => rfl]
theorem sym113 (m : List Shr) : sy 113 [shrsR m] = some (whosR ((keysS m).map Who.mk)) := by
  refine (sym113R (m.map Shr.row)).trans ?_
  rw [keys_rows]
  unfold whosR oneRows
  rw [List.map_map]
  exact congrArg (fun l => some (rowsV l)) (List.map_congr_left fun x _ => rfl)
theorem sym114 (m : List Shr) : sy 114 [shrsR m] = some (.bool (m.all fun x => wordI x.party)) := by
  refine (sym114R (m.map Shr.row)).trans ?_
  unfold wordK
  rw [List.all_map]
  rfl
theorem sym115 (m : List Shr) : sy 115 [shrsR m] = some (shrsR (chgOf m)) := congrArg (fun l => some (shrsR (chgOf l))) (shrsV_R m)
theorem word_ok {n : Nat} {m : List Shr} (h : AccOk n m) : (m.all fun x => wordI x.party) = true := List.all_eq_true.2 fun x hx => by
  have := (h.2 x hx).1
  unfold wordI Lit.wf
  have e1 : IntKind.min .i64 = -9223372036854775808 := rfl
  have e2 : IntKind.max .i64 = 9223372036854775807 := rfl
  simp only [e1, e2, Bool.and_eq_true, decide_eq_true_eq]
  omega
theorem begins_S (k : Int) (x : Shr) : begins [.int .i64 k] x.row = decide (x.party = k) := by
  simp only [Shr.row, begins, sameV]
  rw [Bool.eq_iff_iff]
  simp
  exact eq_comm
theorem has_S (m : List Shr) (k : Int) : mapHas (m.map Shr.row) [.int .i64 k] = hasK m k := by
  simp only [mapHas, hasK, List.any_map]
  congr 1
  funext x
  simp only [Function.comp, begins_S]
  rw [Bool.eq_iff_iff]; simp
theorem at_S (m : List Shr) (k : Int) : mapAt (m.map Shr.row) [.int .i64 k] 1 = if hasK m k then some (.int .i64 (atK m k)) else none := by
  induction m with
  | nil => rfl
  | cons x m ih =>
    simp only [mapAt, mapRow, List.map_cons, List.find?_cons, begins_S, hasK, List.any_cons, atK] at ih ⊢
    by_cases h : x.party = k
    · simp [h, Shr.row]
    · have h' : (x.party == k) = false := beq_eq_false_iff_ne.2 h
      simp only [h, decide_false, h', Bool.false_or]
      exact ih
theorem put_S (m : List Shr) (k v : Int) : putRow [.int .i64 k] [.int .i64 k, .int .i64 v] (m.map Shr.row) = (putK k v m).map Shr.row := by
  induction m with
  | nil => rfl
  | cons x m ih =>
    simp only [List.map_cons, putRow, begins_S, putK]
    by_cases h : x.party = k
    · simp [h, Shr.row]
    · simp [h, ih]
theorem del_S (m : List Shr) (k : Int) : delRow [.int .i64 k] (m.map Shr.row) = (delK k m).map Shr.row := by
  induction m with
  | nil => rfl
  | cons x m ih =>
    simp only [List.map_cons, delRow, begins_S, delK]
    by_cases h : x.party = k
    · simp [h]
    · simp [h, ih]
theorem d_hasS (m : List Shr) (k : Int) : den2 .mhas (shrsR m) (whosR [⟨k⟩]) = some (.bool (hasK m k)) := (d_mhas _ _).trans (by rw [show (Who.mk k).row = [.int .i64 k] from rfl, has_S])
theorem d_atS (m : List Shr) (k : Int) : den2 (.mat 1) (shrsR m) (whosR [⟨k⟩]) = if hasK m k then some (.int .i64 (atK m k)) else none := (d_mat 1 _ _).trans (at_S m k)
theorem d_putS (m : List Shr) (k v : Int) : den2 (.mput 1) (shrsR m) (shrsR [⟨k, v⟩]) = some (shrsR (putK k v m)) := (d_mput 1 _ _).trans (congrArg (fun l => some (rowsV l)) (put_S m k v))
theorem d_delS (m : List Shr) (k : Int) : den2 .mdel (shrsR m) (whosR [⟨k⟩]) = some (shrsR (delK k m)) := by
  simp only [shrsR, whosR, rowsV, den2, List.map_cons, List.map_nil]
  rw [rowsOf_V]
  exact congrArg (fun l => some (rowsV l)) (del_S m k)
theorem sym116 (l : List Shr) (kk : IntKind) (k : Int) : sy 116 [shrsR l, .int kk k] = some (.int .i64 (sumK l k)) := congrArg (fun l => some (Value.int .i64 (sumK l k))) (shrsV_R l)
theorem sym117 (b : List Shr) : sy 117 [shrsR b] = some (shrsR (accB (accA []) b)) := congrArg (fun l => some (shrsR (accB (accA []) l))) (shrsV_R b)
theorem sym50 (k0 k1 : IntKind) (a b : Int) : sy 50 [.int k0 a, .int k1 b] = some (.int .i64 (gcdI a b)) := rfl
theorem sym52 (k0 k1 : IntKind) (a b : Int) : sy 52 [.int k0 a, .int k1 b] = some (.int (lastK k0 k1 a b) (lastI a b)) := rfl
theorem sym53 (k0 k1 : IntKind) (a b : Int) : sy 53 [.int k0 a, .int k1 b] = some (.int .i64 (lowN a b)) := rfl
theorem sym54 (k0 k1 : IntKind) (a b : Int) : sy 54 [.int k0 a, .int k1 b] = some (.int .i64 (lowD a b)) := rfl
theorem sym58 (k0 k1 : IntKind) (a b : Int) : sy 58 [.int k0 a, .int k1 b] = some (.bool (canB a b)) := rfl
theorem sym59 (k0 : IntKind) (a : Int) : sy 59 [.int k0 a] = some (.int .i64 a.natAbs) := rfl
theorem sym55 (k0 : IntKind) (a : Int) : sy 55 [.int k0 a] = some (.bool (wideB a)) := rfl
theorem sym70 (k0 k1 : IntKind) (a b : Int) : sy 70 [.int k0 a, .int k1 b] = some (.int .i64 (normR a b).1) := rfl
theorem sym71 (k0 k1 : IntKind) (a b : Int) : sy 71 [.int k0 a, .int k1 b] = some (.int .i64 (normR a b).2.1) := rfl
theorem sym72 (k0 k1 : IntKind) (a b : Int) : sy 72 [.int k0 a, .int k1 b] = some (.int .i64 (normR a b).2.2) := rfl
theorem sym132 (k0 k1 : IntKind) (a b : Int) : sy 132 [.int k0 a, .int k1 b] = some (.bool (partB a b)) := rfl
theorem sym24 (s : ByteArray) : sy 24 [.string s] = some (.bool (goodsAll s)) := rfl
theorem sym133 (s : ByteArray) : sy 133 [.string s] = some (.bool (nameB s)) := rfl
theorem sym140 (k0 k1 k2 k3 k4 k5 k6 k7 k8 : IntKind) (rc rs nu de p h ca ke si : Int) : sy 140 [.int k0 rc, .int k1 rs, .int k2 nu, .int k3 de, .int k4 p, .int k5 h, .int k6 ca, .int k7 ke, .int k8 si] = some (.int .i64 (cart9 ⟨rc, rs, nu, de, p, h, ca, ke, si⟩)) := rfl
theorem sym141 (k0 k1 k2 k3 k4 k5 k6 k7 k8 : IntKind) (rc rs nu de p h ca ke si : Int) : sy 141 [.int k0 rc, .int k1 rs, .int k2 nu, .int k3 de, .int k4 p, .int k5 h, .int k6 ca, .int k7 ke, .int k8 si] = some (.int .i64 (stor9 ⟨rc, rs, nu, de, p, h, ca, ke, si⟩)) := rfl
theorem sym142 (k0 k1 k2 k3 k4 k5 k6 k7 k8 : IntKind) (rc rs nu de p h ca ke si : Int) : sy 142 [.int k0 rc, .int k1 rs, .int k2 nu, .int k3 de, .int k4 p, .int k5 h, .int k6 ca, .int k7 ke, .int k8 si] = some (.int .i64 (find9 ⟨rc, rs, nu, de, p, h, ca, ke, si⟩)) := rfl
theorem sym143 (k0 k1 k2 k3 k4 k5 k6 k7 k8 : IntKind) (rc rs nu de p h ca ke si : Int) : sy 143 [.int k0 rc, .int k1 rs, .int k2 nu, .int k3 de, .int k4 p, .int k5 h, .int k6 ca, .int k7 ke, .int k8 si] = some (.int .i64 (rest9 ⟨rc, rs, nu, de, p, h, ca, ke, si⟩)) := rfl
theorem sym144 (k0 k1 k2 k3 k4 k5 k6 k7 k8 : IntKind) (rc rs nu de p h ca ke si : Int) (l : List Who) : sy 144 [.int k0 rc, .int k1 rs, .int k2 nu, .int k3 de, .int k4 p, .int k5 h, .int k6 ca, .int k7 ke, .int k8 si, whosR l] = some (shrsR (payL ⟨rc, rs, nu, de, p, h, ca, ke, si⟩ l)) := congrArg (fun l => some (shrsR (payL _ l))) (whosV_R l)
theorem sym130 (k0 k1 k2 k4 k5 k6 k7 k8 : IntKind) (a0 a1 a2 a4 a5 a6 a7 a8 : Int) (a3 : ByteArray) : sy 130 [.int k0 a0, .int k1 a1, .int k2 a2, .string a3, .int k4 a4, .int k5 a5, .int k6 a6, .int k7 a7, .int k8 a8] = some (.bool (rateB ⟨a0, a1, a2, a3, a4, a5, a6, a7, a8⟩)) := rfl
theorem sym131 (j0 j1 j2 j3 j4 j5 j6 j7 j8 : IntKind) (b0 b1 b2 b3 b4 b5 b6 b7 b8 : Int) : sy 131 [.int j0 b0, .int j1 b1, .int j2 b2, .int j3 b3, .int j4 b4, .int j5 b5, .int j6 b6, .int j7 b7, .int j8 b8] = some (.bool (saleB ⟨b0, b1, b2, b3, b4, b5, b6, b7, b8⟩)) := rfl
theorem sym146 (k0 k1 k2 k4 k5 k6 k7 k8 j0 j1 j2 j3 j4 j5 j6 j7 j8 : IntKind) (a0 a1 a2 a4 a5 a6 a7 a8 b0 b1 b2 b3 b4 b5 b6 b7 b8 : Int) (a3 : ByteArray) (l : List Who) : sy 146 [.int k0 a0, .int k1 a1, .int k2 a2, .string a3, .int k4 a4, .int k5 a5, .int k6 a6, .int k7 a7, .int k8 a8, .int j0 b0, .int j1 b1, .int j2 b2, .int j3 b3, .int j4 b4, .int j5 b5, .int j6 b6, .int j7 b7, .int j8 b8, whosR l] = some (.bool (givesB ⟨a0, a1, a2, a3, a4, a5, a6, a7, a8⟩ ⟨b0, b1, b2, b3, b4, b5, b6, b7, b8⟩ l)) := congrArg (fun l => some (Value.bool (givesB _ _ l))) (whosV_R l)
theorem sym147 (k0 k1 k2 k3 k4 k5 k6 k7 k8 : IntKind) (rc rs nu de p h ca ke si : Int) (x : Value) : sy 147 [.int k0 rc, .int k1 rs, .int k2 nu, .int k3 de, .int k4 p, .int k5 h, .int k6 ca, .int k7 ke, .int k8 si, x] = some (.bool (isShrs x && decide (shrsV x = accB [] (payTo ⟨rc, rs, nu, de, p, h, ca, ke, si⟩ [] 0))) ) := rfl
theorem short_len {α : Type} {l : List α} (h : shortB l = true) : (l.length : Int) ≤ 1010 := by simpa [shortB] using h
theorem len_short {α : Type} {l : List α} (h : (l.length : Int) ≤ 1010) : shortB l = true := by simpa [shortB] using h
theorem dX : (∀ (k k' : IntKind) (n : Int), den1 (.wrap k) (.int k' n) = some (.int k (k.wrap n))) ∧ (∀ (k k' : IntKind) (n : Int), den1 (.kind k) (.int k' n) = some (.int k n)) ∧ (∀ (b : Bool), den1 .not (.bool b) = some (.bool (!b))) ∧ (∀ (k' : IntKind) (n : Int), den1 .neg (.int k' n) = some (.int .i64 (-n))) ∧ (∀ (s : ByteArray), den1 .slen (.string s) = some (.int .i64 s.size)) ∧ (∀ (k k' : IntKind) (m n : Int), den2 .add (.int k m) (.int k' n) = some (.int .i64 (m + n))) ∧ (∀ (k k' : IntKind) (m n : Int), den2 .sub (.int k m) (.int k' n) = some (.int .i64 (m - n))) ∧ (∀ (k k' : IntKind) (m n : Int), den2 .mul (.int k m) (.int k' n) = some (.int .i64 (m * n))) ∧ (∀ (k k' : IntKind) (m n : Int), den2 .div (.int k m) (.int k' n) = some (.int .i64 (m.tdiv n))) ∧ (∀ (k k' : IntKind) (m n : Int), den2 .mod (.int k m) (.int k' n) = some (.int .i64 (m.tmod n))) ∧ (∀ (k k' : IntKind) (m n : Int), den2 .lt (.int k m) (.int k' n) = some (.bool (decide (m < n)))) ∧ (∀ (k k' : IntKind) (m n : Int), den2 .le (.int k m) (.int k' n) = some (.bool (decide (m ≤ n)))) ∧ (∀ (k k' : IntKind) (m n : Int), den2 .eq (.int k m) (.int k' n) = some (.bool (m == n))) ∧ (∀ (a b : Bool), den2 .eqb (.bool a) (.bool b) = some (.bool (a == b))) ∧ (∀ (a b : ByteArray), den2 .eqs (.string a) (.string b) = some (.bool (a == b))) ∧ (∀ (a b : ByteArray), den2 .lts (.string a) (.string b) = some (.bool (Op.bytesLess a.toList b.toList))) ∧ (∀ (a b : ByteArray), den2 .cat (.string a) (.string b) = some (.string (a ++ b))) ∧ (∀ (a : ByteArray) (k : IntKind) (n : Int), den2 .sat (.string a) (.int k n) = some (.int .u8 ((a[n.toNat]?.map UInt8.toNat).getD 0))) ∧ (∀ (a b : Bool), den2 .and (.bool a) (.bool b) = some (.bool (a && b))) ∧ (∀ (a b : Bool), den2 .or (.bool a) (.bool b) = some (.bool (a || b))) := ⟨@d_wrap, @d_kind, @d_not, @d_neg, @d_slen, @d_add, @d_sub, @d_mul, @d_div, @d_mod, @d_lt, @d_le, @d_eq, @d_eqb, @d_eqs, @d_lts, @d_cat, @d_sat, @d_and, @d_or⟩
theorem dY : (∀ (l : List Who), den1 .len (whosR l) = some (.int .i64 l.length)) ∧ (∀ (j : Nat) (l : List Who) (k : IntKind) (n : Int), denCell j (whosR l) (.int k n) = (l[n.toNat]?).bind fun p => p.row[j]?) ∧ (∀ (l : List Who) (k k' : IntKind) (a b : Int), denLsub (whosR l) (.int k a) (.int k' b) = some (whosR ((l.take b.toNat).drop a.toNat))) ∧ (∀ (a b : List Who), den2 .lcat (whosR a) (whosR b) = some (whosR (a ++ b))) ∧ (∀ (k : IntKind) (n : Int) (x : Who), den2 .rep (.int k n) (whosR [x]) = some (whosR (List.replicate n.toNat x))) ∧ (∀ (l : List Shr), den1 .len (shrsR l) = some (.int .i64 l.length)) ∧ (∀ (j : Nat) (l : List Shr) (k : IntKind) (n : Int), denCell j (shrsR l) (.int k n) = (l[n.toNat]?).bind fun p => p.row[j]?) ∧ (∀ (l : List Shr) (k k' : IntKind) (a b : Int), denLsub (shrsR l) (.int k a) (.int k' b) = some (shrsR ((l.take b.toNat).drop a.toNat))) ∧ (∀ (a b : List Shr), den2 .lcat (shrsR a) (shrsR b) = some (shrsR (a ++ b))) := ⟨@whos_len, @whos_cell, @whos_lsub, @whos_lcat, @whos_rep, @shrs_len, @shrs_cell, @shrs_lsub, @shrs_lcat⟩
theorem dZ : (∀ (b b2 : Bool), (Value.bool b = Value.bool b2) = (b = b2)) ∧ (∀ (k : IntKind) (n : Int) (k2 : IntKind) (n2 : Int), (Value.int k n = Value.int k2 n2) = (k = k2 ∧ n = n2)) ∧ (∀ {p : Prop} [Decidable p], (decide p = true) = p) ∧ (∀ {p : Prop} [Decidable p], decide p = false ↔ ¬ p) ∧ (∀ (p : Prop), (p ∧ True) = p) ∧ (∀ (p : Prop), (True ∧ p) = p) ∧ (∀ {a b c : Prop}, (a ∧ b → c) ↔ (a → b → c)) := ⟨@Value.bool.injEq, @Value.int.injEq, @decide_eq_true_eq, @decide_eq_false_iff_not, @and_true, @true_and, @and_imp⟩
end Go.Proofs.YtcmbkcebbgigcaaGreatDoor.Zs
