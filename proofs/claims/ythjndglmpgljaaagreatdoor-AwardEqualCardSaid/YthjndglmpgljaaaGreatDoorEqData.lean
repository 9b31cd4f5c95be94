/-
  Lists of parties and of shares as plain data; what is said of them.
-/
import Derived.Test.YthjndglmpgljaaaGreatDoorEqEvK
import Derived.IntWalk
set_option linter.unusedSimpArgs false
set_option linter.unusedVariables false
namespace Go.Proofs.YthjndglmpgljaaaGreatDoor.Zs
open Go
set_option linter.unusedSimpArgs false
set_option linter.unusedVariables false

def withinB (n low high : Int) : Bool := decide (low ≤ n) && decide (n ≤ high)
def vI : Value → Int
  | .int _ n => n
  | _ => 0
structure Who where
  n : Int
instance : DecidableEq Who := fun a b =>
  decidable_of_iff (a.n = b.n) ⟨fun h => by cases a; cases b; simp_all, fun h => by subst h; simp⟩
def Who.row (p : Who) : List Value :=
  [.int .i64 p.n]
def toWho (l : List Value) : Who := {
  n := vI (l.getD 0 default) }
def whoSch : List CK := [.int .i64]
theorem who_row {r : List Value} (h : RowFits whoSch r) : r = (toWho r).row := by
  unfold whoSch at h
  rcases h with _ | ⟨⟨a0, rfl⟩, h⟩
  cases h
  rfl
theorem toWho_row (p : Who) : toWho p.row = p := rfl
theorem whos_of {rows : List (List Value)} (h : ∀ r ∈ rows, RowFits whoSch r) : rows = (rows.map toWho).map Who.row := by
  rw [List.map_map]
  conv => lhs; rw [← List.map_id rows]
  exact List.map_congr_left fun r hr => who_row (h r hr)
/-- The rows of a list that a name stands for. -/
def whosV : Value → List Who
  | .tuple l => l.toList.map fun v => match v with | .agg c => toWho c.toList | _ => toWho []
  | _ => []
def whosR (l : List Who) : Value := rowsV (l.map Who.row)
theorem whosV_R (l : List Who) : whosV (whosR l) = l := by
  simp only [whosV, whosR, rowsV, List.toList_toArray, List.map_map]
  conv => rhs; rw [← List.map_id l]
  exact List.map_congr_left fun p _ => rfl
structure Shr where
  party : Int
  pence : Int
instance : DecidableEq Shr := fun a b =>
  decidable_of_iff (a.party = b.party ∧ a.pence = b.pence) ⟨fun h => by cases a; cases b; simp_all, fun h => by subst h; simp⟩
def Shr.row (p : Shr) : List Value :=
  [.int .i64 p.party, .int .i64 p.pence]
def toShr (l : List Value) : Shr := {
  party := vI (l.getD 0 default),
  pence := vI (l.getD 1 default) }
def shrSch : List CK := [.int .i64, .int .i64]
theorem shr_row {r : List Value} (h : RowFits shrSch r) : r = (toShr r).row := by
  unfold shrSch at h
  rcases h with _ | ⟨⟨a0, rfl⟩, h⟩
  rcases h with _ | ⟨⟨a1, rfl⟩, h⟩
  cases h
  rfl
theorem toShr_row (p : Shr) : toShr p.row = p := rfl
theorem shrs_of {rows : List (List Value)} (h : ∀ r ∈ rows, RowFits shrSch r) : rows = (rows.map toShr).map Shr.row := by
  rw [List.map_map]
  conv => lhs; rw [← List.map_id rows]
  exact List.map_congr_left fun r hr => shr_row (h r hr)
/-- The rows of a list that a name stands for. -/
def shrsV : Value → List Shr
  | .tuple l => l.toList.map fun v => match v with | .agg c => toShr c.toList | _ => toShr []
  | _ => []
def shrsR (l : List Shr) : Value := rowsV (l.map Shr.row)
theorem shrsV_R (l : List Shr) : shrsV (shrsR l) = l := by
  simp only [shrsV, shrsR, rowsV, List.toList_toArray, List.map_map]
  conv => rhs; rw [← List.map_id l]
  exact List.map_congr_left fun p _ => rfl
def shortB {α : Type} (l : List α) : Bool := decide ((l.length : Int) ≤ 1010)
/-- Are all parties? -/
def allWho (l : List Who) : Bool := l.all fun x => withinB x.n 1 40
/-- The first one that is none. -/
def badAt (l : List Who) : Int := (l.findIdx fun x => !(withinB x.n 1 40) : Nat)
def finderB (l : List Who) : Bool := withinB (l.length : Int) 1 40 && allWho l
/-- Equal parts: the k-th one, the first ones of them, their sum. -/
def partR (p c : Int) (k : Nat) : Int := p.tdiv c + (if (k : Int) < p.tmod c then 1 else 0)
def partsTo (p c : Int) (i : Nat) : List Who := (List.range c.toNat).map fun k => ⟨if k < i then partR p c k else 0⟩
def partsR (p c : Int) : List Who := partsTo p c c.toNat
def sumTo (p c : Int) : Nat → Int
  | 0 => 0
  | i + 1 => sumTo p c i + partR p c i
theorem partsTo_len (p c : Int) (i : Nat) : (partsTo p c i).length = c.toNat := by simp [partsTo]
theorem partsTo_get (p c : Int) (i k : Nat) (h : k < c.toNat) : (partsTo p c i)[k]? = some ⟨if k < i then partR p c k else 0⟩ := by
  simp [partsTo, h]
theorem partsTo_zero (p c : Int) : partsTo p c 0 = List.replicate c.toNat ⟨0⟩ := by
  apply List.ext_getElem?
  intro k
  by_cases h : k < c.toNat
  · rw [partsTo_get _ _ _ _ h]
    simp [h]
  · rw [List.getElem?_eq_none (by rw [partsTo_len]; omega), List.getElem?_eq_none (by simp; omega)]
theorem partsTo_set (p c : Int) (i : Nat) (h : i < c.toNat) : (partsTo p c i).set i ⟨partR p c i⟩ = partsTo p c (i + 1) := by
  apply List.ext_getElem?
  intro k
  rw [List.getElem?_set]
  by_cases hk : k < c.toNat
  · rw [partsTo_get _ _ _ _ hk, partsTo_get _ _ _ _ hk, partsTo_len]
    by_cases e : i = k
    · subst e; simp [h]
    · rw [if_neg e]
      congr 2
      by_cases h1 : k < i
      · rw [if_pos h1, if_pos (by omega)]
      · rw [if_neg h1, if_neg (by omega)]
  · rw [List.getElem?_eq_none (by rw [partsTo_len]; omega), List.getElem?_eq_none (by rw [partsTo_len]; omega), partsTo_len]
    rw [if_neg (by omega)]
theorem sumTo_is (p c : Int) (hp : 0 ≤ p) (hc : 0 < c) (i : Nat) : sumTo p c i = i * p.tdiv c + min (i : Int) (p.tmod c) := by
  induction i with
  | zero =>
    have := Int.tmod_nonneg c hp
    simp [sumTo]; omega
  | succ i ih =>
    simp only [sumTo, ih, partR]
    have : ((i + 1 : Nat) : Int) * p.tdiv c = (i : Int) * p.tdiv c + p.tdiv c := by rw [Int.natCast_add, Int.add_mul]; simp
    rw [this]
    split <;> omega
theorem sumTo_all (p c : Int) (hp : 0 ≤ p) (hc : 0 < c) : sumTo p c c.toNat = p := by
  rw [sumTo_is p c hp hc]
  have h1 : ((c.toNat : Nat) : Int) = c := Int.toNat_of_nonneg (by omega)
  have h2 := Int.tmod_lt_of_pos p hc
  have h3 := Int.mul_tdiv_add_tmod p c
  rw [h1]
  omega
theorem part_bounds (p c : Int) (k : Nat) (hp : 0 ≤ p) (hc : 0 < c) : 0 ≤ partR p c k ∧ partR p c k ≤ p.tdiv c + 1 ∧ p.tdiv c ≤ partR p c k := by
  have := Int.tdiv_nonneg hp (Int.le_of_lt hc)
  unfold partR
  split <;> omega
theorem tdiv_le (p c : Int) (hp : 0 ≤ p) (hc : 0 < c) : p.tdiv c ≤ p := by
  have h1 := Int.tdiv_nonneg hp (Int.le_of_lt hc)
  have h3 := Int.mul_tdiv_add_tmod p c
  have h4 := Int.tmod_nonneg c hp
  have h5 : p.tdiv c ≤ c * p.tdiv c := by
    have := Int.mul_le_mul_of_nonneg_right (show (1 : Int) ≤ c by omega) h1
    omega
  omega
theorem sumTo_le (p c : Int) (hp : 0 ≤ p) (hc : 0 < c) (i : Nat) (h : i ≤ c.toNat) : 0 ≤ sumTo p c i ∧ sumTo p c i ≤ p := by
  have hm : ∀ j, 0 ≤ sumTo p c j := fun j => by
    rw [sumTo_is p c hp hc]
    have := Int.tdiv_nonneg hp (Int.le_of_lt hc)
    have h2 := Int.tmod_nonneg c hp
    have h3 := Int.mul_nonneg (show (0 : Int) ≤ j by omega) this
    omega
  refine ⟨hm i, ?_⟩
  have key : ∀ d : Nat, sumTo p c i ≤ sumTo p c (i + d) := fun d => by
    induction d with
    | zero => exact Int.le_refl _
    | succ d ih =>
      have := (part_bounds p c (i + d) hp hc).1
      rw [← Nat.add_assoc]
      simp only [sumTo]
      omega
  have := key (c.toNat - i)
  rw [Nat.add_sub_cancel' h, sumTo_all p c hp hc] at this
  exact this

/-- What the signs in terms stand for. -/
def sy : Nat → List Value → Option Value
  | 10, [.int _ a, .int _ b, .int _ c] => some (.bool (withinB a b c))
  | 20, [a] => some (.bool (shortB (whosV a)))
  | 21, [a] => some (.bool (shortB (shrsV a)))
  | 100, [a] => some (.bool (finderB (whosV a)))
  | 101, [a] => some (.bool (allWho (whosV a)))
  | 102, [.int _ p, .int _ c] => some (whosR (partsR p c))
  | 103, [a] => some (.int .i64 (badAt (whosV a)))
  | _, _ => none
end Go.Proofs.YthjndglmpgljaaaGreatDoor.Zs

/-
  The same as names stand for them.
-/
namespace Go.Proofs.YthjndglmpgljaaaGreatDoor.Zs
open Go
set_option linter.unusedSimpArgs false
set_option linter.unusedVariables false

theorem d_wrap (k k' : IntKind) (n : Int) : den1 (.wrap k) (.int k' n) = some (.int k (k.wrap n)) := rfl
theorem d_kind (k k' : IntKind) (n : Int) : den1 (.kind k) (.int k' n) = some (.int k n) := rfl
theorem d_not (b : Bool) : den1 .not (.bool b) = some (.bool (!b)) := rfl
theorem d_neg (k' : IntKind) (n : Int) : den1 .neg (.int k' n) = some (.int .i64 (-n)) := rfl
theorem d_slen (s : ByteArray) : den1 .slen (.string s) = some (.int .i64 s.size) := rfl
theorem d_add (k k' : IntKind) (m n : Int) : den2 .add (.int k m) (.int k' n) = some (.int .i64 (m + n)) := rfl
theorem d_sub (k k' : IntKind) (m n : Int) : den2 .sub (.int k m) (.int k' n) = some (.int .i64 (m - n)) := rfl
theorem d_mul (k k' : IntKind) (m n : Int) : den2 .mul (.int k m) (.int k' n) = some (.int .i64 (m * n)) := rfl
theorem d_div (k k' : IntKind) (m n : Int) : den2 .div (.int k m) (.int k' n) = some (.int .i64 (m.tdiv n)) := rfl
theorem d_mod (k k' : IntKind) (m n : Int) : den2 .mod (.int k m) (.int k' n) = some (.int .i64 (m.tmod n)) := rfl
theorem d_lt (k k' : IntKind) (m n : Int) : den2 .lt (.int k m) (.int k' n) = some (.bool (decide (m < n))) := rfl
theorem d_le (k k' : IntKind) (m n : Int) : den2 .le (.int k m) (.int k' n) = some (.bool (decide (m ≤ n))) := rfl
theorem d_eq (k k' : IntKind) (m n : Int) : den2 .eq (.int k m) (.int k' n) = some (.bool (m == n)) := rfl
theorem d_eqb (a b : Bool) : den2 .eqb (.bool a) (.bool b) = some (.bool (a == b)) := rfl
theorem d_eqs (a b : ByteArray) : den2 .eqs (.string a) (.string b) = some (.bool (a == b)) := rfl
theorem d_lts (a b : ByteArray) : den2 .lts (.string a) (.string b) = some (.bool (Op.bytesLess a.toList b.toList)) := rfl
theorem d_cat (a b : ByteArray) : den2 .cat (.string a) (.string b) = some (.string (a ++ b)) := rfl
theorem d_sat (a : ByteArray) (k : IntKind) (n : Int) : den2 .sat (.string a) (.int k n) = some (.int .u8 ((a[n.toNat]?.map UInt8.toNat).getD 0)) := rfl
theorem d_and (a b : Bool) : den2 .and (.bool a) (.bool b) = some (.bool (a && b)) := rfl
theorem d_or (a b : Bool) : den2 .or (.bool a) (.bool b) = some (.bool (a || b)) := rfl
theorem d_len (l : Array Value) : den1 .len (.tuple l) = some (.int .i64 l.size) := rfl

theorem snoc_nil (r : List Value) : denSnoc (.tuple #[]) r = some (rowsV [r]) := by simp [denSnoc, rowsV]
theorem d_mhas (a : List (List Value)) (k : List Value) : den2 .mhas (rowsV a) (rowsV [k]) = some (.bool (mapHas a k)) := by
  simp only [rowsV, den2, rowsOf_V, keyRow_V]
theorem d_mat (j : Nat) (a : List (List Value)) (k : List Value) : den2 (.mat j) (rowsV a) (rowsV [k]) = mapAt a k j := by
  simp only [rowsV, den2, rowsOf_V, keyRow_V]
theorem d_mput (n : Nat) (a : List (List Value)) (k : List Value) : den2 (.mput n) (rowsV a) (rowsV [k]) = some (rowsV (putRow (k.take n) k a)) := by
  simp only [rowsV, den2, rowsOf_V, keyRow_V]
theorem putRow_new {k row : List Value} : ∀ {rows : List (List Value)}, mapHas rows k = false → putRow k row rows = rows ++ [row]
  | [], _ => rfl
  | r :: l, h => by
    simp only [mapHas, List.any_cons, Bool.or_eq_false_iff] at h
    simp only [putRow, h.1, putRow_new (rows := l) h.2, List.cons_append]

theorem mapAt_none {k : List Value} {j : Nat} {rows : List (List Value)} (h : mapHas rows k = false) : mapAt rows k j = none := by
  unfold mapAt mapRow
  cases hf : rows.find? (begins k) with
  | none => rfl
  | some r =>
    have h1 := List.find?_some hf
    have h2 := List.mem_of_find?_eq_some hf
    have : mapHas rows k = true := List.any_eq_true.2 ⟨r, h2, h1⟩
    rw [h] at this; cases this
theorem whos_len (l : List Who) : den1 .len (whosR l) = some (.int .i64 l.length) := by simp [den1, whosR, rowsV]
theorem whos_cell (j : Nat) (l : List Who) (k : IntKind) (n : Int) : denCell j (whosR l) (.int k n) = (l[n.toNat]?).bind fun p => p.row[j]? := by
  simp only [denCell, whosR, rowsV, List.getElem?_toArray, List.getElem?_map]
  cases l[n.toNat]? <;> simp
theorem whos_lsub (l : List Who) (k k' : IntKind) (a b : Int) : denLsub (whosR l) (.int k a) (.int k' b) = some (whosR ((l.take b.toNat).drop a.toNat)) := by
  simp only [whosR, rowsV, denLsub]
  congr 2
  apply Array.ext'
  simp [List.map_take, List.map_drop, List.extract_eq_take_drop, List.drop_take]
theorem whos_snoc (l : List Who) (x : Who) : denSnoc (whosR l) [.int .i64 x.n] = some (whosR (l ++ [x])) := by
  simp [denSnoc, whosR, rowsV, Who.row]
theorem whos_snoc0 (x : Who) : denSnoc (.tuple #[]) [.int .i64 x.n] = some (whosR [x]) := whos_snoc [] x
theorem who0 (p : Who) : p.row[0]? = some (.int .i64 p.n) := rfl
def whoLeaves (v : Nat) : List Leaf := [.int .i64 (v + 0)]
/-- The values of the names of a record. -/
structure WhoAt (ρ : Rho) (v : Nat) (k : Nat → IntKind) (p : Who) : Prop where
  h0 : ρ.val (v + 0) = some (.int (k 0) p.n)
theorem who_agg {σ : Sig} {v : Nat} {u : Value} (h : (Arg.agg (whoLeaves v)).av.inst σ = some u) : ∃ (p : Who) (k : Nat → IntKind), u = .agg p.row.toArray ∧ WhoAt σ.rho v k p := by
  obtain ⟨vs, rfl, gs⟩ := AV.inst_agg h
  obtain ⟨x0, vs, rfl, g0, gs⟩ := ins_cons gs
  cases gs
  obtain ⟨a0, k0, rfl, h0⟩ := one_int g0
  exact ⟨⟨a0⟩, fun i => [k0].getD i .i64, rfl, ⟨h0⟩⟩
/-- A list, as a parameter. -/
def whosArg (i b : Nat) : Arg := .list i 1 whoSch 3 b (b + 1) (b + 2)
theorem whos_at {P : Program} {l : List (Nat × ABlock)} {N i : Nat} {b x : X} {own : Bool} {t : TypeId} {σ : Sig} {w : World} {Wr : Nat → Prop} (hrel : (memOf l N).rel P σ w Wr) (hg : (buildH l).get i = some (.rows 1 whoSch b x own t)) :
    ∃ ps : List Who, x.den σ.rho = some (whosR ps) := by
  obtain ⟨rows, h1, h2⟩ := rows_at hrel hg
  exact ⟨rows.map toWho, by rw [h1, whosR, ← whos_of h2]⟩
theorem whos_cap {σ : Sig} {i b : Nat} {u : Value} {l : List Who} (h : (whosArg i b).av.inst σ = some u) (h1 : σ.rho.val (b + 1) = some (whosR l)) : ∃ kc cap, σ.rho.val (b + 2) = some (.int kc cap) ∧ (l.length : Int) ≤ cap := by
  obtain ⟨_, _, _, _, kn, kc, _, _, _, e4, e5, e6, _⟩ := inst_slx h
  obtain ⟨q, hq⟩ := X.nat_iff.1 e5
  obtain ⟨q', hq'⟩ := X.nat_iff.1 e4
  simp only [X.den, h1, whos_len, Option.some.injEq, Value.int.injEq] at hq'
  exact ⟨q, kc, hq, by omega⟩
theorem who_eq {p q : Who} (h0 : p.n = q.n) : p = q := by
  cases p; cases q; simp_all
theorem shrs_len (l : List Shr) : den1 .len (shrsR l) = some (.int .i64 l.length) := by simp [den1, shrsR, rowsV]
theorem shrs_cell (j : Nat) (l : List Shr) (k : IntKind) (n : Int) : denCell j (shrsR l) (.int k n) = (l[n.toNat]?).bind fun p => p.row[j]? := by
  simp only [denCell, shrsR, rowsV, List.getElem?_toArray, List.getElem?_map]
  cases l[n.toNat]? <;> simp
theorem shrs_lsub (l : List Shr) (k k' : IntKind) (a b : Int) : denLsub (shrsR l) (.int k a) (.int k' b) = some (shrsR ((l.take b.toNat).drop a.toNat)) := by
  simp only [shrsR, rowsV, denLsub]
  congr 2
  apply Array.ext'
  simp [List.map_take, List.map_drop, List.extract_eq_take_drop, List.drop_take]
theorem shrs_snoc (l : List Shr) (x : Shr) : denSnoc (shrsR l) [.int .i64 x.party, .int .i64 x.pence] = some (shrsR (l ++ [x])) := by
  simp [denSnoc, shrsR, rowsV, Shr.row]
theorem shrs_snoc0 (x : Shr) : denSnoc (.tuple #[]) [.int .i64 x.party, .int .i64 x.pence] = some (shrsR [x]) := shrs_snoc [] x
theorem shr0 (p : Shr) : p.row[0]? = some (.int .i64 p.party) := rfl
theorem shr1 (p : Shr) : p.row[1]? = some (.int .i64 p.pence) := rfl
def shrLeaves (v : Nat) : List Leaf := [.int .i64 (v + 0), .int .i64 (v + 1)]
/-- The values of the names of a record. -/
structure ShrAt (ρ : Rho) (v : Nat) (k : Nat → IntKind) (p : Shr) : Prop where
  h0 : ρ.val (v + 0) = some (.int (k 0) p.party)
  h1 : ρ.val (v + 1) = some (.int (k 1) p.pence)
theorem shr_agg {σ : Sig} {v : Nat} {u : Value} (h : (Arg.agg (shrLeaves v)).av.inst σ = some u) : ∃ (p : Shr) (k : Nat → IntKind), u = .agg p.row.toArray ∧ ShrAt σ.rho v k p := by
  obtain ⟨vs, rfl, gs⟩ := AV.inst_agg h
  obtain ⟨x0, vs, rfl, g0, gs⟩ := ins_cons gs
  obtain ⟨x1, vs, rfl, g1, gs⟩ := ins_cons gs
  cases gs
  obtain ⟨a0, k0, rfl, h0⟩ := one_int g0
  obtain ⟨a1, k1, rfl, h1⟩ := one_int g1
  exact ⟨⟨a0, a1⟩, fun i => [k0, k1].getD i .i64, rfl, ⟨h0, h1⟩⟩
/-- A list, as a parameter. -/
def shrsArg (i b : Nat) : Arg := .list i 2 shrSch 67 b (b + 1) (b + 2)
theorem shrs_at {P : Program} {l : List (Nat × ABlock)} {N i : Nat} {b x : X} {own : Bool} {t : TypeId} {σ : Sig} {w : World} {Wr : Nat → Prop} (hrel : (memOf l N).rel P σ w Wr) (hg : (buildH l).get i = some (.rows 2 shrSch b x own t)) :
    ∃ ps : List Shr, x.den σ.rho = some (shrsR ps) := by
  obtain ⟨rows, h1, h2⟩ := rows_at hrel hg
  exact ⟨rows.map toShr, by rw [h1, shrsR, ← shrs_of h2]⟩
theorem shrs_cap {σ : Sig} {i b : Nat} {u : Value} {l : List Shr} (h : (shrsArg i b).av.inst σ = some u) (h1 : σ.rho.val (b + 1) = some (shrsR l)) : ∃ kc cap, σ.rho.val (b + 2) = some (.int kc cap) ∧ (l.length : Int) ≤ cap := by
  obtain ⟨_, _, _, _, kn, kc, _, _, _, e4, e5, e6, _⟩ := inst_slx h
  obtain ⟨q, hq⟩ := X.nat_iff.1 e5
  obtain ⟨q', hq'⟩ := X.nat_iff.1 e4
  simp only [X.den, h1, shrs_len, Option.some.injEq, Value.int.injEq] at hq'
  exact ⟨q, kc, hq, by omega⟩
theorem shr_eq {p q : Shr} (h0 : p.party = q.party) (h1 : p.pence = q.pence) : p = q := by
  cases p; cases q; simp_all
theorem whos_lcat (a b : List Who) : den2 .lcat (whosR a) (whosR b) = some (whosR (a ++ b)) := by
  simp [den2, whosR, rowsV]
theorem whos_rep (k : IntKind) (n : Int) (x : Who) : den2 .rep (.int k n) (whosR [x]) = some (whosR (List.replicate n.toNat x)) := by
  simp [den2, whosR, rowsV]
theorem shrs_lcat (a b : List Shr) : den2 .lcat (shrsR a) (shrsR b) = some (shrsR (a ++ b)) := by
  simp [den2, shrsR, rowsV]
theorem shrs_rep (k : IntKind) (n : Int) (x : Shr) : den2 .rep (.int k n) (shrsR [x]) = some (shrsR (List.replicate n.toNat x)) := by
  simp [den2, shrsR, rowsV]
theorem sym10 (k0 k1 k2 : IntKind) (a b c : Int) : sy 10 [.int k0 a, .int k1 b, .int k2 c] = some (.bool (withinB a b c)) := rfl
theorem sym20 (l : List Who) : sy 20 [whosR l] = some (.bool (shortB l)) := congrArg (fun l => some (Value.bool (shortB l))) (whosV_R l)
theorem sym21 (l : List Shr) : sy 21 [shrsR l] = some (.bool (shortB l)) := congrArg (fun l => some (Value.bool (shortB l))) (shrsV_R l)
theorem sym100 (l : List Who) : sy 100 [whosR l] = some (.bool (finderB l)) := congrArg (fun l => some (Value.bool (finderB l))) (whosV_R l)
theorem sym101 (l : List Who) : sy 101 [whosR l] = some (.bool (allWho l)) := congrArg (fun l => some (Value.bool (allWho l))) (whosV_R l)
theorem sym102 (k0 k1 : IntKind) (p c : Int) : sy 102 [.int k0 p, .int k1 c] = some (whosR (partsR p c)) := rfl
theorem sym103 (l : List Who) : sy 103 [whosR l] = some (.int .i64 (badAt l)) := congrArg (fun l => some (Value.int .i64 (badAt l))) (whosV_R l)
theorem whos_snocN (l : List Who) (n : Int) : denSnoc (whosR l) [.int .i64 n] = some (whosR (l ++ [⟨n⟩])) := whos_snoc l ⟨n⟩
theorem whos_snoc0N (n : Int) : denSnoc (.tuple #[]) [.int .i64 n] = some (whosR [⟨n⟩]) := whos_snoc0 ⟨n⟩
theorem shrs_snocN (l : List Shr) (a b : Int) : denSnoc (shrsR l) [.int .i64 a, .int .i64 b] = some (shrsR (l ++ [⟨a, b⟩])) := shrs_snoc l ⟨a, b⟩
theorem shrs_snoc0N (a b : Int) : denSnoc (.tuple #[]) [.int .i64 a, .int .i64 b] = some (shrsR [⟨a, b⟩]) := shrs_snoc0 ⟨a, b⟩
theorem set_form {α : Type} (L : List α) (i : Nat) (a : α) (h : i < L.length) :
    (((L.take ((i : Int)).toNat).drop ((0 : Int)).toNat ++ [a]) ++ ((L.take ((L.length : Int)).toNat).drop ((i : Int) + 1).toNat)) = L.set i a := by
  rw [List.set_eq_take_append_cons_drop, if_pos h]
  have e1 : ((i : Int) + 1).toNat = i + 1 := by omega
  simp only [Int.toNat_natCast, e1, List.take_length, Int.toNat_zero, List.drop_zero, List.append_assoc, List.singleton_append]
theorem allWho_at {l : List Who} {i : Nat} {x : Who} (h : l[i]? = some x) (hb : withinB x.n 1 40 = false) : allWho l = false := by
  cases ha : allWho l with
  | false => rfl
  | true =>
    have := List.all_eq_true.1 ha x (List.mem_of_getElem? h)
    rw [hb] at this; cases this
theorem allWho_next {l : List Who} {i : Nat} {x : Who} (h : l[i]? = some x) (ha : allWho (l.take i) = true) (hb : withinB x.n 1 40 = true) : allWho (l.take (i + 1)) = true := by
  unfold allWho at *
  rw [List.take_add_one, h, List.all_append, ha]
  simp [hb]
theorem badAt_is {l : List Who} {i : Nat} {x : Who} (h : l[i]? = some x) (ha : allWho (l.take i) = true) (hb : withinB x.n 1 40 = false) : badAt l = i := by
  unfold badAt
  obtain ⟨hi, rfl⟩ := List.getElem?_eq_some_iff.1 h
  have : (l.findIdx fun x => !(withinB x.n 1 40)) = i := by
    rw [List.findIdx_eq hi]
    refine ⟨by simp [hb], fun j hj => ?_⟩
    have := List.all_eq_true.1 ha (l[j]) (List.mem_take_iff_getElem.2 ⟨j, by omega, rfl⟩)
    simp [this]
  rw [this]
theorem badAt_nonneg (l : List Who) : 0 ≤ badAt l := by unfold badAt; omega
theorem parts_get (p c : Int) (k : Nat) (h : k < c.toNat) : (partsR p c)[k]? = some ⟨partR p c k⟩ := by
  unfold partsR
  rw [partsTo_get _ _ _ _ h, if_pos h]
theorem parts_len (p c : Int) : (partsR p c).length = c.toNat := partsTo_len p c c.toNat
theorem part_anti (p c : Int) {i j : Nat} (h : i ≤ j) : partR p c j ≤ partR p c i := by
  unfold partR
  split <;> split <;> omega

theorem short_len {α : Type} {l : List α} (h : shortB l = true) : (l.length : Int) ≤ 1010 := by simpa [shortB] using h
theorem len_short {α : Type} {l : List α} (h : (l.length : Int) ≤ 1010) : shortB l = true := by simpa [shortB] using h
end Go.Proofs.YthjndglmpgljaaaGreatDoor.Zs
