/-
  Lists of parties and of shares as plain data; what is said of them.
-/
import Derived.Test.YtpdemfamfmeemacGreatDoorMeEvS
import Derived.IntWalk
set_option linter.unusedSimpArgs false
set_option linter.unusedVariables false
namespace Go.Proofs.YtpdemfamfmeemacGreatDoor.Zs
open Go
def withinB (n low high : Int) : Bool := decide (low ≤ n) && decide (n ≤ high)
def vI : Value → Int
  | .int _ n => n
  | _ => 0
structure Who where
  n : Int
instance : DecidableEq Who := fun a b =>
  decidable_of_iff (a.n = b.n) ⟨fun h => by cases a; cases b; simp_all, fun h => by subst h; simp⟩
def Who.row (p : Who) : List Value :=
  [.int .i64 p.n]
def toWho (l : List Value) : Who := {
  n := vI (l.getD 0 default) }
def whosV : Value → List Who
  | .tuple l => l.toList.map fun v => match v with | .agg c => toWho c.toList | _ => toWho []
  | _ => []
def whosR (l : List Who) : Value := rowsV (l.map Who.row)
structure Shr where
  party : Int
  pence : Int
instance : DecidableEq Shr := fun a b =>
  decidable_of_iff (a.party = b.party ∧ a.pence = b.pence) ⟨fun h => by cases a; cases b; simp_all, fun h => by subst h; simp⟩
def Shr.row (p : Shr) : List Value :=
  [.int .i64 p.party, .int .i64 p.pence]
def toShr (l : List Value) : Shr := {
  party := vI (l.getD 0 default),
  pence := vI (l.getD 1 default) }
def shrSch : List CK := [.int .i64, .int .i64]
theorem shr_row {r : List Value} (h : RowFits shrSch r) : r = (toShr r).row := by
  unfold shrSch at h
  rcases h with _ | ⟨⟨a0, rfl⟩, h⟩
  rcases h with _ | ⟨⟨a1, rfl⟩, h⟩
  cases h
  rfl
theorem shrs_of {rows : List (List Value)} (h : ∀ r ∈ rows, RowFits shrSch r) : rows = (rows.map toShr).map Shr.row := by
  rw [List.map_map]
  conv => lhs; rw [← List.map_id rows]
  exact List.map_congr_left fun r hr => shr_row (h r hr)
def shrsV : Value → List Shr
  | .tuple l => l.toList.map fun v => match v with | .agg c => toShr c.toList | _ => toShr []
  | _ => []
def shrsR (l : List Shr) : Value := rowsV (l.map Shr.row)
theorem shrsV_R (l : List Shr) : shrsV (shrsR l) = l := by
  simp only [shrsV, shrsR, rowsV, List.toList_toArray, List.map_map]
  conv => rhs; rw [← List.map_id l]
  exact List.map_congr_left fun p _ => rfl
def shortB {α : Type} (l : List α) : Bool := decide ((l.length : Int) ≤ 1010)
def allWho (l : List Who) : Bool := l.all fun x => withinB x.n 1 40
def badAt (l : List Who) : Int := (l.findIdx fun x => !(withinB x.n 1 40) : Nat)
def finderB (l : List Who) : Bool := withinB (l.length : Int) 1 40 && allWho l
def partR (p c : Int) (k : Nat) : Int := p.tdiv c + (if (k : Int) < p.tmod c then 1 else 0)
def partsTo (p c : Int) (i : Nat) : List Who := (List.range c.toNat).map fun k => ⟨if k < i then partR p c k else 0⟩
def partsR (p c : Int) : List Who := partsTo p c c.toNat
def hasK (m : List Shr) (k : Int) : Bool := m.any fun x => x.party == k
def atK (m : List Shr) (k : Int) : Int := ((m.find? fun x => x.party == k).map Shr.pence).getD 0
def putK (k v : Int) : List Shr → List Shr
  | [] => [⟨k, v⟩]
  | x :: m => if x.party = k then ⟨k, v⟩ :: m else x :: putK k v m
def delK (k : Int) : List Shr → List Shr
  | [] => []
  | x :: m => if x.party = k then m else x :: delK k m
def addK (m : List Shr) (k v : Int) : List Shr := if atK m k + v = 0 then delK k (putK k (atK m k + v) m) else putK k (atK m k + v) m
def accA (l : List Shr) : List Shr := l.foldl (fun m x => addK m x.party (-x.pence)) []
def accB (m l : List Shr) : List Shr := l.foldl (fun m x => addK m x.party x.pence) m
def chk1 (x : Shr) : Bool := (x.party == 0 || withinB x.party 1 40) && withinB x.pence (-1000000000) 1000000000
def chkS (l : List Shr) : Int := if 1000 < (l.length : Int) then 2 else if l.all chk1 then 0 else 1
def keysS (m : List Shr) : List Int := (m.map Shr.party).mergeSort fun x y => decide (x ≤ y)
def chgOf (m : List Shr) : List Shr := (keysS m).map fun k => ⟨k, atK m k⟩
theorem chk1_iff (x : Shr) : chk1 x = true ↔ (0 ≤ x.party ∧ x.party ≤ 40) ∧ -1000000000 ≤ x.pence ∧ x.pence ≤ 1000000000 := by
  simp [chk1, withinB]; omega
theorem chkS_iff (l : List Shr) : chkS l = 0 ↔ (l.length : Int) ≤ 1000 ∧ ∀ x ∈ l, chk1 x = true := by
  unfold chkS
  split
  · constructor
    · intro h; omega
    · intro h; omega
  · split
    · rename_i h; simp only [List.all_eq_true] at h; exact ⟨fun _ => ⟨by omega, h⟩, fun _ => rfl⟩
    · rename_i h; simp only [List.all_eq_true] at h; constructor
      · intro h'; omega
      · intro h'; exact absurd h'.2 h
theorem has_put (m : List Shr) (k v : Int) : hasK (putK k v m) k = true := by
  induction m with
  | nil => simp [putK, hasK]
  | cons x m ih =>
    simp only [putK]
    split
    · simp [hasK]
    · simp only [hasK, List.any_cons, Bool.or_eq_true] at ih ⊢; exact .inr ih
theorem at_put (m : List Shr) (k v : Int) : atK (putK k v m) k = v := by
  induction m with
  | nil => simp [putK, atK]
  | cons x m ih =>
    simp only [putK]
    split
    · simp [atK]
    · rename_i h
      simp only [atK, List.find?_cons, beq_eq_false_iff_ne.2 h] at ih ⊢
      exact ih
theorem at_none {m : List Shr} {k : Int} (h : hasK m k = false) : atK m k = 0 := by
  have : m.find? (fun x => x.party == k) = none := List.find?_eq_none.2 fun x hx => by
    have := List.any_eq_false.1 h x hx
    simpa using this
  simp [atK, this]
def AccOk (n : Nat) (m : List Shr) : Prop := m.length ≤ n ∧ ∀ x ∈ m, (0 ≤ x.party ∧ x.party ≤ 40) ∧ -(1000000000 * (n : Int)) ≤ x.pence ∧ x.pence ≤ 1000000000 * (n : Int)
theorem acc_at {n : Nat} {m : List Shr} (h : AccOk n m) (k : Int) : -(1000000000 * (n : Int)) ≤ atK m k ∧ atK m k ≤ 1000000000 * (n : Int) := by
  unfold atK
  cases hf : m.find? fun x => x.party == k with
  | none => simp; omega
  | some x =>
    have := (h.2 x (List.mem_of_find?_eq_some hf)).2
    simpa using this
theorem put_mem {k v : Int} : ∀ {m : List Shr} {x : Shr}, x ∈ putK k v m → x ∈ m ∨ x = ⟨k, v⟩
  | [], x, h => by simp only [putK, List.mem_singleton] at h; exact .inr h
  | y :: m, x, h => by
    simp only [putK] at h
    split at h
    · rcases List.mem_cons.1 h with h | h
      · exact .inr h
      · exact .inl (List.mem_cons_of_mem _ h)
    · rcases List.mem_cons.1 h with h | h
      · exact .inl (h ▸ List.mem_cons_self)
      · rcases put_mem h with h | h
        · exact .inl (List.mem_cons_of_mem _ h)
        · exact .inr h
theorem del_mem {k : Int} : ∀ {m : List Shr} {x : Shr}, x ∈ delK k m → x ∈ m
  | [], x, h => h
  | y :: m, x, h => by
    simp only [delK] at h
    split at h
    · exact List.mem_cons_of_mem _ h
    · rcases List.mem_cons.1 h with h | h
      · exact h ▸ List.mem_cons_self
      · exact List.mem_cons_of_mem _ (del_mem h)
theorem put_len (k v : Int) : ∀ m : List Shr, (putK k v m).length ≤ m.length + 1
  | [] => by simp [putK]
  | y :: m => by
    have := put_len k v m
    simp only [putK]
    split <;> simp <;> omega
theorem del_len (k : Int) : ∀ m : List Shr, (delK k m).length ≤ m.length
  | [] => by simp [delK]
  | y :: m => by
    have := del_len k m
    simp only [delK]
    split <;> simp <;> omega
theorem acc_put {n : Nat} {m : List Shr} (h : AccOk n m) {k v : Int} (hk : 0 ≤ k ∧ k ≤ 40) (hv : -1000000000 ≤ v ∧ v ≤ 1000000000) : AccOk (n + 1) (putK k (atK m k + v) m) := by
  have ha := acc_at h k
  refine ⟨by have := put_len k (atK m k + v) m; have := h.1; omega, fun x hx => ?_⟩
  rcases put_mem hx with hx | rfl
  · have := h.2 x hx
    refine ⟨this.1, ?_⟩
    omega
  · exact ⟨hk, by simp only; omega⟩
theorem acc_add {n : Nat} {m : List Shr} (h : AccOk n m) {k v : Int} (hk : 0 ≤ k ∧ k ≤ 40) (hv : -1000000000 ≤ v ∧ v ≤ 1000000000) : AccOk (n + 1) (addK m k v) := by
  have hp := acc_put h hk hv
  unfold addK
  split
  · exact ⟨Nat.le_trans (del_len _ _) hp.1, fun x hx => hp.2 x (del_mem hx)⟩
  · exact hp
theorem accA_snoc (l : List Shr) (x : Shr) : accA (l ++ [x]) = addK (accA l) x.party (-x.pence) := by simp [accA]
theorem accB_snoc (m l : List Shr) (x : Shr) : accB m (l ++ [x]) = addK (accB m l) x.party x.pence := by simp [accB]
theorem accA_ok {l : List Shr} (h : ∀ x ∈ l, chk1 x = true) (i : Nat) (hi : i ≤ l.length) : AccOk i (accA (l.take i)) := by
  induction i with
  | zero => exact ⟨Nat.le_refl 0, fun x hx => by cases hx⟩
  | succ i ih =>
    have hx : l[i]? = some l[i] := List.getElem?_eq_getElem (by omega)
    have hc := (chk1_iff _).1 (h l[i] (List.getElem_mem _))
    rw [List.take_add_one, hx]
    show AccOk _ (accA (_ ++ [l[i]]))
    rw [accA_snoc]
    exact acc_add (ih (by omega)) hc.1 (by omega)
theorem accB_ok {m l : List Shr} {n : Nat} (hm : AccOk n m) (h : ∀ x ∈ l, chk1 x = true) (i : Nat) (hi : i ≤ l.length) : AccOk (n + i) (accB m (l.take i)) := by
  induction i with
  | zero => exact hm
  | succ i ih =>
    have hx : l[i]? = some l[i] := List.getElem?_eq_getElem (by omega)
    have hc := (chk1_iff _).1 (h l[i] (List.getElem_mem _))
    rw [List.take_add_one, hx]
    show AccOk _ (accB m (_ ++ [l[i]]))
    rw [accB_snoc]
    exact acc_add (ih (by omega)) hc.1 hc.2
def sumK (l : List Shr) (k : Int) : Int := l.foldl (fun s x => if x.party = k then IntKind.i64.wrap (s + x.pence) else s) 0
theorem sumK_snoc (l : List Shr) (k : Int) (x : Shr) : sumK (l ++ [x]) k = if x.party = k then IntKind.i64.wrap (sumK l k + x.pence) else sumK l k := by simp [sumK]
def bigB {α : Type} (l : List α) : Bool := decide ((l.length : Int) ≤ 5000)
def mrgTo (l : List Shr) (n : Nat) : List Shr := ((List.range n).filter fun (p : Nat) => !(sumK l (p : Int) == 0)).map fun (p : Nat) => ⟨(p : Int), sumK l (p : Int)⟩
def mrgR (l : List Shr) : List Shr := mrgTo l 41
theorem mrgTo_next (l : List Shr) (n : Nat) : mrgTo l (n + 1) = if sumK l (n : Int) = 0 then mrgTo l n else mrgTo l n ++ [⟨(n : Int), sumK l (n : Int)⟩] := by
  unfold mrgTo
  rw [List.range_succ, List.filter_append, List.map_append]
  by_cases h : sumK l (n : Int) = 0
  · simp [h, List.filter]
  · simp [h, List.filter, beq_eq_false_iff_ne.2 h]
def negAll (a : List Shr) : List Shr := a.map fun x => ⟨x.party, IntKind.i64.wrap (0 - x.pence)⟩
def in12 (l : List Shr) : Bool := l.all fun x => decide (-1000000000000 ≤ x.pence) && decide (x.pence ≤ 1000000000000)
def bothS (a b : List Shr) : List Shr := b ++ negAll a
def sy : Nat → List Value → Option Value
  | 10, [.int _ a, .int _ b, .int _ c] => some (.bool (withinB a b c))
  | 20, [a] => some (.bool (shortB (whosV a)))
  | 21, [a] => some (.bool (shortB (shrsV a)))
  | 100, [a] => some (.bool (finderB (whosV a)))
  | 101, [a] => some (.bool (allWho (whosV a)))
  | 102, [.int _ p, .int _ c] => some (whosR (partsR p c))
  | 103, [a] => some (.int .i64 (badAt (whosV a)))
  | 110, [a] => some (.int .i64 (chkS (shrsV a)))
  | 111, [a, b] => some (shrsR (accB (shrsV b) (shrsV a)))
  | 112, [a] => some (shrsR (accA (shrsV a)))
  | 113, [.tuple rs] => some (rowsV (oneRows (sortK (rowsOf rs))))
  | 114, [.tuple rs] => some (.bool (wordK (rowsOf rs)))
  | 115, [a] => some (shrsR (chgOf (shrsV a)))
  | 116, [a, .int _ k] => some (.int .i64 (sumK (shrsV a) k))
  | 117, [a] => some (shrsR (accB (accA []) (shrsV a)))
  | 118, [a] => some (shrsR (accB (accA (shrsV a)) []))
  | 22, [a] => some (.bool (bigB (shrsV a)))
  | 119, [a, b] => some (.bool (decide (shrsV a = shrsV b)))
  | 120, [a] => some (shrsR (mrgR (shrsV a)))
  | 121, [a] => some (shrsR (negAll (shrsV a)))
  | 122, [a] => some (.bool (in12 (shrsV a)))
  | 123, [a, b] => some (shrsR (bothS (shrsV a) (shrsV b)))
  | _, _ => none
open Go
theorem d_wrap (k k' : IntKind) (n : Int) : den1 (.wrap k) (.int k' n) = some (.int k (k.wrap n)) := rfl
theorem d_kind (k k' : IntKind) (n : Int) : den1 (.kind k) (.int k' n) = some (.int k n) := rfl
theorem d_not (b : Bool) : den1 .not (.bool b) = some (.bool (!b)) := rfl
theorem d_neg (k' : IntKind) (n : Int) : den1 .neg (.int k' n) = some (.int .i64 (-n)) := rfl
theorem d_slen (s : ByteArray) : den1 .slen (.string s) = some (.int .i64 s.size) := rfl
theorem d_add (k k' : IntKind) (m n : Int) : den2 .add (.int k m) (.int k' n) = some (.int .i64 (m + n)) := rfl
theorem d_sub (k k' : IntKind) (m n : Int) : den2 .sub (.int k m) (.int k' n) = some (.int .i64 (m - n)) := rfl
theorem d_mul (k k' : IntKind) (m n : Int) : den2 .mul (.int k m) (.int k' n) = some (.int .i64 (m * n)) := rfl
theorem d_div (k k' : IntKind) (m n : Int) : den2 .div (.int k m) (.int k' n) = some (.int .i64 (m.tdiv n)) := rfl
theorem d_mod (k k' : IntKind) (m n : Int) : den2 .mod (.int k m) (.int k' n) = some (.int .i64 (m.tmod n)) := rfl
theorem d_lt (k k' : IntKind) (m n : Int) : den2 .lt (.int k m) (.int k' n) = some (.bool (decide (m < n))) := rfl
theorem d_le (k k' : IntKind) (m n : Int) : den2 .le (.int k m) (.int k' n) = some (.bool (decide (m ≤ n))) := rfl
theorem d_eq (k k' : IntKind) (m n : Int) : den2 .eq (.int k m) (.int k' n) = some (.bool (m == n)) := rfl
theorem d_eqb (a b : Bool) : den2 .eqb (.bool a) (.bool b) = some (.bool (a == b)) := rfl
theorem d_eqs (a b : ByteArray) : den2 .eqs (.string a) (.string b) = some (.bool (a == b)) := rfl
theorem d_lts (a b : ByteArray) : den2 .lts (.string a) (.string b) = some (.bool (Op.bytesLess a.toList b.toList)) := rfl
theorem d_cat (a b : ByteArray) : den2 .cat (.string a) (.string b) = some (.string (a ++ b)) := rfl
theorem d_sat (a : ByteArray) (k : IntKind) (n : Int) : den2 .sat (.string a) (.int k n) = some (.int .u8 ((a[n.toNat]?.map UInt8.toNat).getD 0)) := rfl
theorem d_and (a b : Bool) : den2 .and (.bool a) (.bool b) = some (.bool (a && b)) := rfl
theorem d_or (a b : Bool) : den2 .or (.bool a) (.bool b) = some (.bool (a || b)) := rfl
theorem d_mhas (a : List (List Value)) (k : List Value) : den2 .mhas (rowsV a) (rowsV [k]) = some (.bool (mapHas a k)) := by
  simp only [rowsV, den2, rowsOf_V, keyRow_V]
theorem d_mat (j : Nat) (a : List (List Value)) (k : List Value) : den2 (.mat j) (rowsV a) (rowsV [k]) = mapAt a k j := by
  simp only [rowsV, den2, rowsOf_V, keyRow_V]
theorem d_mput (n : Nat) (a : List (List Value)) (k : List Value) : den2 (.mput n) (rowsV a) (rowsV [k]) = some (rowsV (putRow (k.take n) k a)) := by
  simp only [rowsV, den2, rowsOf_V, keyRow_V]
theorem whos_len (l : List Who) : den1 .len (whosR l) = some (.int .i64 l.length) := by simp [den1, whosR, rowsV]
theorem whos_cell (j : Nat) (l : List Who) (k : IntKind) (n : Int) : denCell j (whosR l) (.int k n) = (l[n.toNat]?).bind fun p => p.row[j]? := by
  simp only [denCell, whosR, rowsV, List.getElem?_toArray, List.getElem?_map]
  cases l[n.toNat]? <;> simp
theorem whos_lsub (l : List Who) (k k' : IntKind) (a b : Int) : denLsub (whosR l) (.int k a) (.int k' b) = some (whosR ((l.take b.toNat).drop a.toNat)) := by
  simp only [whosR, rowsV, denLsub]
  congr 2
  apply Array.ext'
  simp [List.map_take, List.map_drop, List.extract_eq_take_drop, List.drop_take]
theorem whos_snoc (l : List Who) (x : Who) : denSnoc (whosR l) [.int .i64 x.n] = some (whosR (l ++ [x])) := by
  simp [denSnoc, whosR, rowsV, Who.row]
theorem whos_snoc0 (x : Who) : denSnoc (.tuple #[]) [.int .i64 x.n] = some (whosR [x]) := whos_snoc [] x
theorem who0 (p : Who) : p.row[0]? = some (.int .i64 p.n) := rfl
theorem shrs_len (l : List Shr) : den1 .len (shrsR l) = some (.int .i64 l.length) := by simp [den1, shrsR, rowsV]
theorem shrs_cell (j : Nat) (l : List Shr) (k : IntKind) (n : Int) : denCell j (shrsR l) (.int k n) = (l[n.toNat]?).bind fun p => p.row[j]? := by
  simp only [denCell, shrsR, rowsV, List.getElem?_toArray, List.getElem?_map]
  cases l[n.toNat]? <;> simp
theorem shrs_lsub (l : List Shr) (k k' : IntKind) (a b : Int) : denLsub (shrsR l) (.int k a) (.int k' b) = some (shrsR ((l.take b.toNat).drop a.toNat)) := by
  simp only [shrsR, rowsV, denLsub]
  congr 2
  apply Array.ext'
  simp [List.map_take, List.map_drop, List.extract_eq_take_drop, List.drop_take]
theorem shrs_snoc (l : List Shr) (x : Shr) : denSnoc (shrsR l) [.int .i64 x.party, .int .i64 x.pence] = some (shrsR (l ++ [x])) := by
  simp [denSnoc, shrsR, rowsV, Shr.row]
theorem shrs_snoc0 (x : Shr) : denSnoc (.tuple #[]) [.int .i64 x.party, .int .i64 x.pence] = some (shrsR [x]) := shrs_snoc [] x
theorem shr0 (p : Shr) : p.row[0]? = some (.int .i64 p.party) := rfl
theorem shr1 (p : Shr) : p.row[1]? = some (.int .i64 p.pence) := rfl
def shrsArg (i b : Nat) : Arg := .list i 2 shrSch 25 b (b + 1) (b + 2)
theorem shrs_at {P : Program} {l : List (Nat × ABlock)} {N i : Nat} {b x : X} {own : Bool} {t : TypeId} {σ : Sig} {w : World} {Wr : Nat → Prop} (hrel : (memOf l N).rel P σ w Wr) (hg : (buildH l).get i = some (.rows 2 shrSch b x own t)) :
    ∃ ps : List Shr, x.den σ.rho = some (shrsR ps) := by
  obtain ⟨rows, h1, h2⟩ := rows_at hrel hg
  exact ⟨rows.map toShr, by rw [h1, shrsR, ← shrs_of h2]⟩
theorem shr_eq {p q : Shr} (h0 : p.party = q.party) (h1 : p.pence = q.pence) : p = q := by
  cases p; cases q; simp_all
theorem whos_lcat (a b : List Who) : den2 .lcat (whosR a) (whosR b) = some (whosR (a ++ b)) := by
  simp [den2, whosR, rowsV]
theorem whos_rep (k : IntKind) (n : Int) (x : Who) : den2 .rep (.int k n) (whosR [x]) = some (whosR (List.replicate n.toNat x)) := by
  simp [den2, whosR, rowsV]
theorem shrs_lcat (a b : List Shr) : den2 .lcat (shrsR a) (shrsR b) = some (shrsR (a ++ b)) := by
  simp [den2, shrsR, rowsV]
theorem sym10 (k0 k1 k2 : IntKind) (a b c : Int) : sy 10 [.int k0 a, .int k1 b, .int k2 c] = some (.bool (withinB a b c)) := rfl
theorem sym21 (l : List Shr) : sy 21 [shrsR l] = some (.bool (shortB l)) := congrArg (fun l => some (Value.bool (shortB l))) (shrsV_R l)
theorem whos_snocN (l : List Who) (n : Int) : denSnoc (whosR l) [.int .i64 n] = some (whosR (l ++ [⟨n⟩])) := whos_snoc l ⟨n⟩
theorem whos_snoc0N (n : Int) : denSnoc (.tuple #[]) [.int .i64 n] = some (whosR [⟨n⟩]) := whos_snoc0 ⟨n⟩
theorem shrs_snocN (l : List Shr) (a b : Int) : denSnoc (shrsR l) [.int .i64 a, .int .i64 b] = some (shrsR (l ++ [⟨a, b⟩])) := shrs_snoc l ⟨a, b⟩
theorem shrs_snoc0N (a b : Int) : denSnoc (.tuple #[]) [.int .i64 a, .int .i64 b] = some (shrsR [⟨a, b⟩]) := shrs_snoc0 ⟨a, b⟩
theorem sym110 (l : List Shr) : sy 110 [shrsR l] = some (.int .i64 (chkS l)) := congrArg (fun l => some (Value.int .i64 (chkS l))) (shrsV_R l)
theorem sym111 (l m : List Shr) : sy 111 [shrsR l, shrsR m] = some (shrsR (accB m l)) := by
  show some (shrsR (accB (shrsV (shrsR m)) (shrsV (shrsR l)))) = _
  rw [shrsV_R, shrsV_R]
theorem sym112 (l : List Shr) : sy 112 [shrsR l] = some (shrsR (accA l)) := congrArg (fun l => some (shrsR (accA l))) (shrsV_R l)
theorem sym113R (rows : List (List Value)) : sy 113 [rowsV rows] = some (rowsV (oneRows (sortK rows))) := congrArg (fun l => some (rowsV (oneRows (sortK l)))) (rowsOf_V rows)
theorem sym114R (rows : List (List Value)) : sy 114 [rowsV rows] = some (.bool (wordK rows)) := congrArg (fun l => some (Value.bool (wordK l))) (rowsOf_V rows)
theorem keys_rows (m : List Shr) : sortK (m.map Shr.row) = keysS m := by
  unfold sortK keysS
  rw [List.map_map, show keyI ∘ Shr.row = Shr.party from funext fun _ => rfl]
theorem sym113 (m : List Shr) : sy 113 [shrsR m] = some (whosR ((keysS m).map Who.mk)) := by
  refine (sym113R (m.map Shr.row)).trans ?_
  rw [keys_rows]
  unfold whosR oneRows
  rw [List.map_map]
  exact congrArg (fun l => some (rowsV l)) (List.map_congr_left fun x _ => rfl)
theorem sym114 (m : List Shr) : sy 114 [shrsR m] = some (.bool (m.all fun x => wordI x.party)) := by
  refine (sym114R (m.map Shr.row)).trans ?_
  unfold wordK
  rw [List.all_map]
  rfl
theorem sym115 (m : List Shr) : sy 115 [shrsR m] = some (shrsR (chgOf m)) := congrArg (fun l => some (shrsR (chgOf l))) (shrsV_R m)
theorem word_ok {n : Nat} {m : List Shr} (h : AccOk n m) : (m.all fun x => wordI x.party) = true := List.all_eq_true.2 fun x hx => by
  have := (h.2 x hx).1
  unfold wordI Lit.wf
  have e1 : IntKind.min .i64 = -9223372036854775808 := rfl
  have e2 : IntKind.max .i64 = 9223372036854775807 := rfl
  simp only [e1, e2, Bool.and_eq_true, decide_eq_true_eq]
  omega
theorem begins_S (k : Int) (x : Shr) : begins [.int .i64 k] x.row = decide (x.party = k) := by
  simp only [Shr.row, begins, sameV]
  rw [Bool.eq_iff_iff]
  simp
  exact eq_comm
theorem has_S (m : List Shr) (k : Int) : mapHas (m.map Shr.row) [.int .i64 k] = hasK m k := by
  simp only [mapHas, hasK, List.any_map]
  congr 1
  funext x
  simp only [Function.comp, begins_S]
  rw [Bool.eq_iff_iff]; simp
theorem at_S (m : List Shr) (k : Int) : mapAt (m.map Shr.row) [.int .i64 k] 1 = if hasK m k then some (.int .i64 (atK m k)) else none := by
  induction m with
  | nil => rfl
  | cons x m ih =>
    simp only [mapAt, mapRow, List.map_cons, List.find?_cons, begins_S, hasK, List.any_cons, atK] at ih ⊢
    by_cases h : x.party = k
    · simp [h, Shr.row]
    · have h' : (x.party == k) = false := beq_eq_false_iff_ne.2 h
      simp only [h, decide_false, h', Bool.false_or]
      exact ih
theorem put_S (m : List Shr) (k v : Int) : putRow [.int .i64 k] [.int .i64 k, .int .i64 v] (m.map Shr.row) = (putK k v m).map Shr.row := by
  induction m with
  | nil => rfl
  | cons x m ih =>
    simp only [List.map_cons, putRow, begins_S, putK]
    by_cases h : x.party = k
    · simp [h, Shr.row]
    · simp [h, ih]
theorem del_S (m : List Shr) (k : Int) : delRow [.int .i64 k] (m.map Shr.row) = (delK k m).map Shr.row := by
  induction m with
  | nil => rfl
  | cons x m ih =>
    simp only [List.map_cons, delRow, begins_S, delK]
    by_cases h : x.party = k
    · simp [h]
    · simp [h, ih]
theorem d_hasS (m : List Shr) (k : Int) : den2 .mhas (shrsR m) (whosR [⟨k⟩]) = some (.bool (hasK m k)) := (d_mhas _ _).trans (by rw [show (Who.mk k).row = [.int .i64 k] from rfl, has_S])
theorem d_atS (m : List Shr) (k : Int) : den2 (.mat 1) (shrsR m) (whosR [⟨k⟩]) = if hasK m k then some (.int .i64 (atK m k)) else none := (d_mat 1 _ _).trans (at_S m k)
theorem d_putS (m : List Shr) (k v : Int) : den2 (.mput 1) (shrsR m) (shrsR [⟨k, v⟩]) = some (shrsR (putK k v m)) := (d_mput 1 _ _).trans (congrArg (fun l => some (rowsV l)) (put_S m k v))
theorem d_delS (m : List Shr) (k : Int) : den2 .mdel (shrsR m) (whosR [⟨k⟩]) = some (shrsR (delK k m)) := by
  simp only [shrsR, whosR, rowsV, den2, List.map_cons, List.map_nil]
  rw [rowsOf_V]
  exact congrArg (fun l => some (rowsV l)) (del_S m k)
theorem sym116 (l : List Shr) (kk : IntKind) (k : Int) : sy 116 [shrsR l, .int kk k] = some (.int .i64 (sumK l k)) := congrArg (fun l => some (Value.int .i64 (sumK l k))) (shrsV_R l)
theorem sym117 (b : List Shr) : sy 117 [shrsR b] = some (shrsR (accB (accA []) b)) := congrArg (fun l => some (shrsR (accB (accA []) l))) (shrsV_R b)
theorem sym118 (a : List Shr) : sy 118 [shrsR a] = some (shrsR (accB (accA a) [])) := congrArg (fun l => some (shrsR (accB (accA l) []))) (shrsV_R a)
theorem accB_nil (m : List Shr) : accB m [] = m := rfl
theorem sym22 (l : List Shr) : sy 22 [shrsR l] = some (.bool (bigB l)) := congrArg (fun l => some (Value.bool (bigB l))) (shrsV_R l)
theorem sym119 (a b : List Shr) : sy 119 [shrsR a, shrsR b] = some (.bool (decide (a = b))) := by
  show some (Value.bool (decide (shrsV (shrsR a) = shrsV (shrsR b)))) = _
  rw [shrsV_R, shrsV_R]
theorem sym120 (l : List Shr) : sy 120 [shrsR l] = some (shrsR (mrgR l)) := congrArg (fun l => some (shrsR (mrgR l))) (shrsV_R l)
theorem sym121 (l : List Shr) : sy 121 [shrsR l] = some (shrsR (negAll l)) := congrArg (fun l => some (shrsR (negAll l))) (shrsV_R l)
theorem sym122 (l : List Shr) : sy 122 [shrsR l] = some (.bool (in12 l)) := congrArg (fun l => some (Value.bool (in12 l))) (shrsV_R l)
theorem sym123 (a b : List Shr) : sy 123 [shrsR a, shrsR b] = some (shrsR (bothS a b)) := congr (congrArg (fun a b => some (shrsR (bothS a b))) (shrsV_R a)) (shrsV_R b)
theorem short_len {α : Type} {l : List α} (h : shortB l = true) : (l.length : Int) ≤ 1010 := by simpa [shortB] using h
theorem dX : (∀ (k k' : IntKind) (n : Int), den1 (.wrap k) (.int k' n) = some (.int k (k.wrap n))) ∧ (∀ (k k' : IntKind) (n : Int), den1 (.kind k) (.int k' n) = some (.int k n)) ∧ (∀ (b : Bool), den1 .not (.bool b) = some (.bool (!b))) ∧ (∀ (k' : IntKind) (n : Int), den1 .neg (.int k' n) = some (.int .i64 (-n))) ∧ (∀ (s : ByteArray), den1 .slen (.string s) = some (.int .i64 s.size)) ∧ (∀ (k k' : IntKind) (m n : Int), den2 .add (.int k m) (.int k' n) = some (.int .i64 (m + n))) ∧ (∀ (k k' : IntKind) (m n : Int), den2 .sub (.int k m) (.int k' n) = some (.int .i64 (m - n))) ∧ (∀ (k k' : IntKind) (m n : Int), den2 .mul (.int k m) (.int k' n) = some (.int .i64 (m * n))) ∧ (∀ (k k' : IntKind) (m n : Int), den2 .div (.int k m) (.int k' n) = some (.int .i64 (m.tdiv n))) ∧ (∀ (k k' : IntKind) (m n : Int), den2 .mod (.int k m) (.int k' n) = some (.int .i64 (m.tmod n))) ∧ (∀ (k k' : IntKind) (m n : Int), den2 .lt (.int k m) (.int k' n) = some (.bool (decide (m < n)))) ∧ (∀ (k k' : IntKind) (m n : Int), den2 .le (.int k m) (.int k' n) = some (.bool (decide (m ≤ n)))) ∧ (∀ (k k' : IntKind) (m n : Int), den2 .eq (.int k m) (.int k' n) = some (.bool (m == n))) ∧ (∀ (a b : Bool), den2 .eqb (.bool a) (.bool b) = some (.bool (a == b))) ∧ (∀ (a b : ByteArray), den2 .eqs (.string a) (.string b) = some (.bool (a == b))) ∧ (∀ (a b : ByteArray), den2 .lts (.string a) (.string b) = some (.bool (Op.bytesLess a.toList b.toList))) ∧ (∀ (a b : ByteArray), den2 .cat (.string a) (.string b) = some (.string (a ++ b))) ∧ (∀ (a : ByteArray) (k : IntKind) (n : Int), den2 .sat (.string a) (.int k n) = some (.int .u8 ((a[n.toNat]?.map UInt8.toNat).getD 0))) ∧ (∀ (a b : Bool), den2 .and (.bool a) (.bool b) = some (.bool (a && b))) ∧ (∀ (a b : Bool), den2 .or (.bool a) (.bool b) = some (.bool (a || b))) := ⟨@d_wrap, @d_kind, @d_not, @d_neg, @d_slen, @d_add, @d_sub, @d_mul, @d_div, @d_mod, @d_lt, @d_le, @d_eq, @d_eqb, @d_eqs, @d_lts, @d_cat, @d_sat, @d_and, @d_or⟩
theorem dY : (∀ (l : List Who), den1 .len (whosR l) = some (.int .i64 l.length)) ∧ (∀ (j : Nat) (l : List Who) (k : IntKind) (n : Int), denCell j (whosR l) (.int k n) = (l[n.toNat]?).bind fun p => p.row[j]?) ∧ (∀ (l : List Who) (k k' : IntKind) (a b : Int), denLsub (whosR l) (.int k a) (.int k' b) = some (whosR ((l.take b.toNat).drop a.toNat))) ∧ (∀ (a b : List Who), den2 .lcat (whosR a) (whosR b) = some (whosR (a ++ b))) ∧ (∀ (k : IntKind) (n : Int) (x : Who), den2 .rep (.int k n) (whosR [x]) = some (whosR (List.replicate n.toNat x))) ∧ (∀ (l : List Shr), den1 .len (shrsR l) = some (.int .i64 l.length)) ∧ (∀ (j : Nat) (l : List Shr) (k : IntKind) (n : Int), denCell j (shrsR l) (.int k n) = (l[n.toNat]?).bind fun p => p.row[j]?) ∧ (∀ (l : List Shr) (k k' : IntKind) (a b : Int), denLsub (shrsR l) (.int k a) (.int k' b) = some (shrsR ((l.take b.toNat).drop a.toNat))) ∧ (∀ (a b : List Shr), den2 .lcat (shrsR a) (shrsR b) = some (shrsR (a ++ b))) ∧ (∀ (l : List Who) (n : Int), denSnoc (whosR l) [.int .i64 n] = some (whosR (l ++ [⟨n⟩]))) ∧ (∀ (n : Int), denSnoc (.tuple #[]) [.int .i64 n] = some (whosR [⟨n⟩])) ∧ (∀ (l : List Shr) (a b : Int), denSnoc (shrsR l) [.int .i64 a, .int .i64 b] = some (shrsR (l ++ [⟨a, b⟩]))) ∧ (∀ (a b : Int), denSnoc (.tuple #[]) [.int .i64 a, .int .i64 b] = some (shrsR [⟨a, b⟩])) := ⟨@whos_len, @whos_cell, @whos_lsub, @whos_lcat, @whos_rep, @shrs_len, @shrs_cell, @shrs_lsub, @shrs_lcat, @whos_snocN, @whos_snoc0N, @shrs_snocN, @shrs_snoc0N⟩
theorem dZ : (∀ (b b2 : Bool), (Value.bool b = Value.bool b2) = (b = b2)) ∧ (∀ (k : IntKind) (n : Int) (k2 : IntKind) (n2 : Int), (Value.int k n = Value.int k2 n2) = (k = k2 ∧ n = n2)) ∧ (∀ {p : Prop} [Decidable p], (decide p = true) = p) ∧ (∀ {p : Prop} [Decidable p], decide p = false ↔ ¬ p) ∧ (∀ (p : Prop), (p ∧ True) = p) ∧ (∀ (p : Prop), (True ∧ p) = p) ∧ (∀ {a b c : Prop}, (a ∧ b → c) ↔ (a → b → c)) := ⟨@Value.bool.injEq, @Value.int.injEq, @decide_eq_true_eq, @decide_eq_false_iff_not, @and_true, @true_and, @and_imp⟩
end Go.Proofs.YtpdemfamfmeemacGreatDoor.Zs
