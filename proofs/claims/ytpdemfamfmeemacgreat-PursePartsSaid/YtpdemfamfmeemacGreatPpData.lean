/-
  Postings as plain data, and what a ledger has of those that were accepted.
-/
import Derived.Test.YtpdemfamfmeemacGreatPpEvK
import Derived.IntWalk
set_option linter.unusedSimpArgs false
set_option linter.unusedVariables false
namespace Go.Proofs.YtpdemfamfmeemacGreat.Zs
open Go
def withinB (n low high : Int) : Bool := decide (low ≤ n) && decide (n ≤ high)
def vI : Value → Int
  | .int _ n => n
  | _ => 0
structure Ptg where
  id : Int
  hour : Int
  kind : Int
  party : Int
  parcel : Int
  amount : Int
  reason : Int
  known : Int
instance : DecidableEq Ptg := fun a b =>
  decidable_of_iff (a.id = b.id ∧ a.hour = b.hour ∧ a.kind = b.kind ∧ a.party = b.party ∧ a.parcel = b.parcel ∧ a.amount = b.amount ∧ a.reason = b.reason ∧ a.known = b.known) ⟨fun h => by cases a; cases b; simp_all, fun h => by subst h; simp⟩
def Ptg.row (p : Ptg) : List Value :=
  [.int .i64 p.id, .int .i64 p.hour, .int .u8 p.kind, .int .i64 p.party, .int .i64 p.parcel, .int .i64 p.amount, .int .i64 p.reason, .int .i64 p.known]
def toPtg (l : List Value) : Ptg := {
  id := vI (l.getD 0 default),
  hour := vI (l.getD 1 default),
  kind := vI (l.getD 2 default),
  party := vI (l.getD 3 default),
  parcel := vI (l.getD 4 default),
  amount := vI (l.getD 5 default),
  reason := vI (l.getD 6 default),
  known := vI (l.getD 7 default) }
def ptgSch : List CK := [.int .i64, .int .i64, .int .u8, .int .i64, .int .i64, .int .i64, .int .i64, .int .i64]
theorem ptg_row {r : List Value} (h : RowFits ptgSch r) : r = (toPtg r).row := by
  unfold ptgSch at h
  rcases h with _ | ⟨⟨a0, rfl⟩, h⟩
  rcases h with _ | ⟨⟨a1, rfl⟩, h⟩
  rcases h with _ | ⟨⟨a2, rfl⟩, h⟩
  rcases h with _ | ⟨⟨a3, rfl⟩, h⟩
  rcases h with _ | ⟨⟨a4, rfl⟩, h⟩
  rcases h with _ | ⟨⟨a5, rfl⟩, h⟩
  rcases h with _ | ⟨⟨a6, rfl⟩, h⟩
  rcases h with _ | ⟨⟨a7, rfl⟩, h⟩
  cases h
  rfl
theorem ptgs_of {rows : List (List Value)} (h : ∀ r ∈ rows, RowFits ptgSch r) : rows = (rows.map toPtg).map Ptg.row := by
  rw [List.map_map]
  conv => lhs; rw [← List.map_id rows]
  exact List.map_congr_left fun r hr => ptg_row (h r hr)
def ptgsV : Value → List Ptg
  | .tuple l => l.toList.map fun v => match v with | .agg c => toPtg c.toList | _ => toPtg []
  | _ => []
def ptgsR (l : List Ptg) : Value := rowsV (l.map Ptg.row)
theorem ptgsV_R (l : List Ptg) : ptgsV (ptgsR l) = l := by
  simp only [ptgsV, ptgsR, rowsV, List.toList_toArray, List.map_map]
  conv => rhs; rw [← List.map_id l]
  exact List.map_congr_left fun p _ => rfl
def shortB {α : Type} (l : List α) : Bool := decide ((l.length : Int) ≤ 1010)
def kindB (party kind : Int) : Bool :=
  bif decide (kind = 1) then decide (party = 0) else bif decide (kind = 2) || decide (kind = 3) then decide (party = 0) || withinB party 1 40 else false
def formB (p : Ptg) : Bool := withinB p.id 1 1000000 && (withinB p.reason 1 1000000 && (withinB p.hour 0 1000000 && (withinB p.known 0 p.hour && (withinB p.parcel 10 10000007 && (withinB p.amount 1 1000000000 && kindB p.party p.kind)))))
def mine (p : Ptg) (w c : Int) : Bool := decide (p.party = w) && decide (p.parcel = c)
def hasStep (w c : Int) (n : Int) (p : Ptg) : Int :=
  bif mine p w c then (bif decide (p.kind = 2) then IntKind.i64.wrap (n + p.amount) else bif decide (p.kind = 3) then IntKind.i64.wrap (n - p.amount) else n) else n
def hasW (l : List Ptg) (w c : Int) : Int := l.foldl (hasStep w c) 0
def soldStep (c : Int) (n : Int) (p : Ptg) : Int := bif decide (p.kind = 1) && decide (p.parcel = c) then IntKind.i64.wrap (n + p.amount) else n
def soldW (l : List Ptg) (c : Int) : Int := l.foldl (soldStep c) 0
def heldTo (l : List Ptg) (c : Int) : Nat → Int
  | 0 => soldW l c
  | n + 1 => IntKind.i64.wrap (heldTo l c n - hasW l (n : Int) c)
def heldW (l : List Ptg) (c : Int) : Int := heldTo l c 41
def payB (w c : Int) (p : Ptg) : Bool := decide (p.kind = 2) && (decide (p.party = w) && decide (p.parcel = c))
def zeroP : Ptg := ⟨0, 0, 0, 0, 0, 0, 0, 0⟩
def lastPay (l : List Ptg) (w c : Int) : Ptg := l.foldl (fun a p => bif payB w c p then p else a) zeroP
def paidB (l : List Ptg) (w c : Int) : Bool := l.any (payB w c)
def thereB (l : List Ptg) (n : Int) : Bool := l.any fun q => decide (q.id = n)
def lastH (l : List Ptg) : Int := l.foldl (fun _ p => p.hour) 0
def refusedP (l : List Ptg) (p : Ptg) : Int :=
  bif decide (400 ≤ l.length) then 2 else bif !(formB p) then 1 else bif thereB l p.id then 6
  else bif decide (0 < l.length) && decide (p.hour < lastH l) then 7
  else bif decide (p.kind = 1) then (bif decide (0 < soldW l p.parcel) then 6 else 0)
  else bif decide (soldW l p.parcel = 0) then 5
  else bif decide (p.kind = 2) then (bif decide (heldW l p.parcel < p.amount) then 70 else 0)
  else bif decide (hasW l p.party p.parcel < p.amount) then 70
  else bif decide (p.known ≤ (lastPay l p.party p.parcel).known) then 71 else 0
def chkP (pre : List Ptg) : List Ptg → Int × Int
  | [] => (0, 0)
  | p :: r => if refusedP pre p = 0 then chkP (pre ++ [p]) r else (pre.length, refusedP pre p)
def checkP (l : List Ptg) : Int × Int := chkP [] l
def appendP (l : List Ptg) (p : Ptg) : Int := if (checkP l).2 ≠ 0 then (checkP l).2 else refusedP l p
def uptoP (l : List Ptg) : List Ptg := if (checkP l).2 = 0 then l else l.take (checkP l).1.toNat
def atI (rows : List (List Value)) (key : List Value) (j : Nat) : Int := match mapAt rows key j with
  | some (.int _ n) => n
  | _ => 0
def kI (n : Int) : List Value := [.int .i64 n]
def kA (w c : Int) : List Value := [.int .i64 w, .int .i64 c]
def irow (n v : Int) : List Value := [.int .i64 n, .int .i64 v]
def arow (w c v : Int) : List Value := [.int .i64 w, .int .i64 c, .int .i64 v]
def idsV (l : List Ptg) : List (List Value) := l.foldl (fun m p => putRow (kI p.id) [.int .i64 p.id, .bool true] m) []
def soldV (l : List Ptg) : List (List Value) := l.foldl (fun m p => bif decide (p.kind = 1) then putRow (kI p.parcel) (irow p.parcel p.amount) m else m) []
def heldV (l : List Ptg) : List (List Value) := l.foldl (fun m p =>
  bif decide (p.kind = 1) then putRow (kI p.parcel) (irow p.parcel p.amount) m
  else bif decide (p.kind = 2) then putRow (kI p.parcel) (irow p.parcel (IntKind.i64.wrap (atI m (kI p.parcel) 1 - p.amount))) m
  else putRow (kI p.parcel) (irow p.parcel (IntKind.i64.wrap (atI m (kI p.parcel) 1 + p.amount))) m) []
def hasV (l : List Ptg) : List (List Value) := l.foldl (fun m p =>
  bif decide (p.kind = 1) then m
  else bif decide (p.kind = 2) then putRow (kA p.party p.parcel) (arow p.party p.parcel (IntKind.i64.wrap (atI m (kA p.party p.parcel) 2 + p.amount))) m
  else putRow (kA p.party p.parcel) (arow p.party p.parcel (IntKind.i64.wrap (atI m (kA p.party p.parcel) 2 - p.amount))) m) []
def knownV (l : List Ptg) : List (List Value) := l.foldl (fun m p => bif decide (p.kind = 2) then putRow (kA p.party p.parcel) (arow p.party p.parcel p.known) m else m) []
def highP (l : List Ptg) : Int := l.foldl (fun n p => max n p.id) 0
def lastX (l : List Ptg) : Int := ((l.length - 1 : Nat) : Int)
def partyB (n : Int) : Bool := decide (n = 0) || withinB n 1 40
def hourP (l : List Ptg) (h : Int) : List Ptg := l.filter fun p => decide (p.hour ≤ h)
def keyZ (r : List Value) : Int := match r with
  | .int _ n :: _ => n
  | _ => 0
def valZ (r : List Value) : Int := match r with
  | _ :: .int _ n :: _ => n
  | _ => 0
def valRows (rows : List (List Value)) : List (List Value) := (rows.map valZ).map fun n => [.int .i64 n]
def wz (n : Int) : Bool := decide (-9223372036854775808 ≤ n) && decide (n ≤ 9223372036854775807)
def wordsZ (rows : List (List Value)) : Bool := rows.all fun r => wz (keyZ r) && wz (valZ r)
def genP (i : Nat) : Ptg := ⟨(i : Int) + 1, i, 1, 0, 10 * ((i : Int) + 1), 1 + (i : Int), 1, 0⟩
def genL (n : Nat) : List Ptg := (List.range n).map genP
def sortZ (rows : List (List Value)) : List Int := (rows.map keyZ).mergeSort fun x y => decide (x ≤ y)
def intRows (l : List Int) : List (List Value) := l.map fun n => [.int .i64 n]
def wordsK (rows : List (List Value)) : Bool := rows.all fun r => wz (keyZ r)
def hasAll (l : List Ptg) (c : Int) : Nat → Int
  | 0 => 0
  | n + 1 => hasAll l c n + hasW l n c
def soldK (l : List Ptg) : List Int := sortZ (soldV l)
def atZ (l : List Int) (n : Int) : Nat := (l.reverse.dropWhile fun x => decide (n < x)).length
def putZ (l : List Int) (n : Int) : List Int := bif decide (0 < atZ l n) && decide (l[atZ l n - 1]? = some n) then l else l.take (atZ l n) ++ n :: l.drop (atZ l n)
def parcZ (l : List Ptg) : List Int := l.foldl (fun a p => putZ a p.parcel) []
def ofP (l : List Ptg) (c : Int) : List Ptg := l.filter fun p => decide (p.parcel = c)
def sumHeld (l : List Ptg) (ks : List Int) : Int := ks.foldl (fun n c => IntKind.i64.wrap (n + heldW l c)) 0
def inC (c : Int) : Bool := withinB c 10 10000007
def soldE (l : List Ptg) (c : Int) : Int := bif decide ((checkP l).2 = 0) then (bif inC c then (bif decide (soldW l c = 0) then 5 else 0) else 1) else (checkP l).2
def soldA (l : List Ptg) (c : Int) : Int := bif decide (soldE l c = 0) then soldW l c else 0
def hasE (l : List Ptg) (w c : Int) : Int := bif decide ((checkP l).2 = 0) then (bif partyB w && inC c then 0 else 1) else (checkP l).2
def hasA (l : List Ptg) (w c : Int) : Int := bif decide (hasE l w c = 0) then hasW l w c else 0
def hofE (l : List Ptg) (c : Int) : Int := bif decide ((checkP l).2 = 0) then (bif inC c then 0 else 1) else (checkP l).2
def hofA (l : List Ptg) (c : Int) : Int := bif decide (hofE l c = 0) then heldW l c else 0
def heldA (l : List Ptg) : Int := bif decide ((checkP l).2 = 0) then sumHeld l (parcZ l) else 0
def int1 : Value → Bool
  | .agg r => (match r.toList with
    | [.int .i64 _] => true
    | _ => false)
  | _ => false
def sy : Nat → List Value → Option Value
  | 10, [.int _ a, .int _ b, .int _ c] => some (.bool (withinB a b c))
  | 20, [a] => some (.bool (shortB (ptgsV a)))
  | 30, [.int _ a, .int _ b] => some (.bool (kindB a b))
  | 31, [.int _ a] => some (.bool (partyB a))
  | 58, [a, .int _ h] => some (ptgsR (hourP (ptgsV a) h))
  | 40, [a, .int _ w, .int _ c] => some (.int .i64 (hasW (ptgsV a) w c))
  | 41, [a, .int _ c] => some (.int .i64 (soldW (ptgsV a) c))
  | 42, [a, .int _ c] => some (.int .i64 (heldW (ptgsV a) c))
  | 43, [a, .int _ w, .int _ c, .int _ j] => (lastPay (ptgsV a) w c).row[j.toNat]?
  | 44, [a, .int _ w, .int _ c] => some (.bool (paidB (ptgsV a) w c))
  | 45, [a, .int _ c, .int _ n] => some (.int .i64 (heldTo (ptgsV a) c n.toNat))
  | 4, [a, .int _ b0, .int _ b1, .int _ b2, .int _ b3, .int _ b4, .int _ b5, .int _ b6, .int _ b7] => some (.int .i64 (refusedP (ptgsV a) ⟨b0, b1, b2, b3, b4, b5, b6, b7⟩))
  | 11, [a, .int _ b0, .int _ b1, .int _ b2, .int _ b3, .int _ b4, .int _ b5, .int _ b6, .int _ b7] => some (.int .i64 (appendP (ptgsV a) ⟨b0, b1, b2, b3, b4, b5, b6, b7⟩))
  | 63, [.int _ b0, .int _ b1, .int _ b2, .int _ b3, .int _ b4, .int _ b5, .int _ b6, .int _ b7] => some (.bool (formB ⟨b0, b1, b2, b3, b4, b5, b6, b7⟩))
  | 46, [a, .int _ n] => some (.bool (thereB (ptgsV a) n))
  | 5, [a] => some (.int .i64 (checkP (ptgsV a)).1)
  | 6, [a] => some (.int .i64 (checkP (ptgsV a)).2)
  | 7, [a, b] => some (.bool (decide (ptgsV a = ptgsV b)))
  | 50, [a] => some (rowsV (idsV (uptoP (ptgsV a))))
  | 51, [a] => some (rowsV (soldV (uptoP (ptgsV a))))
  | 52, [a] => some (rowsV (heldV (uptoP (ptgsV a))))
  | 53, [a] => some (rowsV (hasV (uptoP (ptgsV a))))
  | 54, [a] => some (rowsV (knownV (uptoP (ptgsV a))))
  | 57, [a] => some (.int .i64 (lastX (ptgsV a)))
  | 55, [a] => some (.int .i64 (highP (uptoP (ptgsV a))))
  | 56, [a] => some (.int .i64 (lastH (uptoP (ptgsV a))))
  | 32, [.tuple a] => some (rowsV (valRows (rowsOf a)))
  | 33, [.tuple a] => some (.int .i64 (IntKind.i64.wrap ((rowsOf a).map keyZ).sum))
  | 35, [.tuple a] => some (.bool (wordsZ (rowsOf a)))
  | 36, [.int _ n] => some (ptgsR (genL n.toNat))
  | 37, [.tuple a] => some (rowsV (intRows (sortZ (rowsOf a))))
  | 38, [.tuple a] => some (.bool (wordsK (rowsOf a)))
  | 39, [a, .int _ c] => some (.int .i64 (hasAll (ptgsV a) c 41))
  | 47, [a] => some (.int .i64 (((soldK (ptgsV a)).map fun c => soldW (ptgsV a) c).sum))
  | 48, [a] => some (.int .i64 (((soldK (ptgsV a)).map fun c => hasAll (ptgsV a) c 41).sum))
  | 59, [a] => some (rowsV (intRows (parcZ (ptgsV a))))
  | 60, [a, .int _ c] => some (ptgsR (ofP (ptgsV a) c))
  | 62, [.tuple a, .int _ n] => some (.int .i64 (atZ ((rowsOf a).map keyZ) n))
  | 64, [a, .int _ c] => some (.int .i64 (soldE (ptgsV a) c))
  | 65, [a, .int _ c] => some (.int .i64 (soldA (ptgsV a) c))
  | 66, [a, .int _ w, .int _ c] => some (.int .i64 (hasE (ptgsV a) w c))
  | 67, [a, .int _ w, .int _ c] => some (.int .i64 (hasA (ptgsV a) w c))
  | 68, [a, .int _ c] => some (.int .i64 (hofE (ptgsV a) c))
  | 69, [a, .int _ c] => some (.int .i64 (hofA (ptgsV a) c))
  | 70, [a] => some (.int .i64 (heldA (ptgsV a)))
  | 71, [a, .tuple b] => some (.int .i64 (sumHeld (ptgsV a) ((rowsOf b).map keyZ)))
  | 72, [.tuple a] => some (.bool (a.toList.all int1))
  | _, _ => none
open Go
theorem d_wrap (k k' : IntKind) (n : Int) : den1 (.wrap k) (.int k' n) = some (.int k (k.wrap n)) := rfl
theorem d_kind (k k' : IntKind) (n : Int) : den1 (.kind k) (.int k' n) = some (.int k n) := rfl
theorem d_not (b : Bool) : den1 .not (.bool b) = some (.bool (!b)) := rfl
theorem d_neg (k' : IntKind) (n : Int) : den1 .neg (.int k' n) = some (.int .i64 (-n)) := rfl
theorem d_slen (s : ByteArray) : den1 .slen (.string s) = some (.int .i64 s.size) := rfl
theorem d_add (k k' : IntKind) (m n : Int) : den2 .add (.int k m) (.int k' n) = some (.int .i64 (m + n)) := rfl
theorem d_sub (k k' : IntKind) (m n : Int) : den2 .sub (.int k m) (.int k' n) = some (.int .i64 (m - n)) := rfl
theorem d_mul (k k' : IntKind) (m n : Int) : den2 .mul (.int k m) (.int k' n) = some (.int .i64 (m * n)) := rfl
theorem d_div (k k' : IntKind) (m n : Int) : den2 .div (.int k m) (.int k' n) = some (.int .i64 (m.tdiv n)) := rfl
theorem d_mod (k k' : IntKind) (m n : Int) : den2 .mod (.int k m) (.int k' n) = some (.int .i64 (m.tmod n)) := rfl
theorem d_lt (k k' : IntKind) (m n : Int) : den2 .lt (.int k m) (.int k' n) = some (.bool (decide (m < n))) := rfl
theorem d_le (k k' : IntKind) (m n : Int) : den2 .le (.int k m) (.int k' n) = some (.bool (decide (m ≤ n))) := rfl
theorem d_eq (k k' : IntKind) (m n : Int) : den2 .eq (.int k m) (.int k' n) = some (.bool (m == n)) := rfl
theorem d_eqb (a b : Bool) : den2 .eqb (.bool a) (.bool b) = some (.bool (a == b)) := rfl
theorem d_eqs (a b : ByteArray) : den2 .eqs (.string a) (.string b) = some (.bool (a == b)) := rfl
theorem d_lts (a b : ByteArray) : den2 .lts (.string a) (.string b) = some (.bool (Op.bytesLess a.toList b.toList)) := rfl
theorem d_cat (a b : ByteArray) : den2 .cat (.string a) (.string b) = some (.string (a ++ b)) := rfl
theorem d_sat (a : ByteArray) (k : IntKind) (n : Int) : den2 .sat (.string a) (.int k n) = some (.int .u8 ((a[n.toNat]?.map UInt8.toNat).getD 0)) := rfl
theorem d_and (a b : Bool) : den2 .and (.bool a) (.bool b) = some (.bool (a && b)) := rfl
theorem d_or (a b : Bool) : den2 .or (.bool a) (.bool b) = some (.bool (a || b)) := rfl
theorem snoc_nil (r : List Value) : denSnoc (.tuple #[]) r = some (rowsV [r]) := by simp [denSnoc, rowsV]
theorem d_mhas (a : List (List Value)) (k : List Value) : den2 .mhas (rowsV a) (rowsV [k]) = some (.bool (mapHas a k)) := by
  simp only [rowsV, den2, rowsOf_V, keyRow_V]
theorem d_mat (j : Nat) (a : List (List Value)) (k : List Value) : den2 (.mat j) (rowsV a) (rowsV [k]) = mapAt a k j := by
  simp only [rowsV, den2, rowsOf_V, keyRow_V]
theorem d_mput (n : Nat) (a : List (List Value)) (k : List Value) : den2 (.mput n) (rowsV a) (rowsV [k]) = some (rowsV (putRow (k.take n) k a)) := by
  simp only [rowsV, den2, rowsOf_V, keyRow_V]
theorem putRow_new {k row : List Value} : ∀ {rows : List (List Value)}, mapHas rows k = false → putRow k row rows = rows ++ [row]
  | [], _ => rfl
  | r :: l, h => by
    simp only [mapHas, List.any_cons, Bool.or_eq_false_iff] at h
    simp only [putRow, h.1, putRow_new (rows := l) h.2, List.cons_append]
theorem mapAt_none {k : List Value} {j : Nat} {rows : List (List Value)} (h : mapHas rows k = false) : mapAt rows k j = none := by
  unfold mapAt mapRow
  cases hf : rows.find? (begins k) with
  | none => rfl
  | some r =>
    have h1 := List.find?_some hf
    have h2 := List.mem_of_find?_eq_some hf
    have : mapHas rows k = true := List.any_eq_true.2 ⟨r, h2, h1⟩
    rw [h] at this; cases this
theorem ptgs_len (l : List Ptg) : den1 .len (ptgsR l) = some (.int .i64 l.length) := by simp [den1, ptgsR, rowsV]
theorem ptgs_cell (j : Nat) (l : List Ptg) (k : IntKind) (n : Int) : denCell j (ptgsR l) (.int k n) = (l[n.toNat]?).bind fun p => p.row[j]? := by
  simp only [denCell, ptgsR, rowsV, List.getElem?_toArray, List.getElem?_map]
  cases l[n.toNat]? <;> simp
theorem ptgs_lsub (l : List Ptg) (k k' : IntKind) (a b : Int) : denLsub (ptgsR l) (.int k a) (.int k' b) = some (ptgsR ((l.take b.toNat).drop a.toNat)) := by
  simp only [ptgsR, rowsV, denLsub]
  congr 2
  apply Array.ext'
  simp [List.map_take, List.map_drop, List.extract_eq_take_drop, List.drop_take]
theorem dX : (∀ (k k' : IntKind) (n : Int), den1 (.wrap k) (.int k' n) = some (.int k (k.wrap n))) ∧ (∀ (k k' : IntKind) (n : Int), den1 (.kind k) (.int k' n) = some (.int k n)) ∧ (∀ (b : Bool), den1 .not (.bool b) = some (.bool (!b))) ∧ (∀ (k' : IntKind) (n : Int), den1 .neg (.int k' n) = some (.int .i64 (-n))) ∧ (∀ (s : ByteArray), den1 .slen (.string s) = some (.int .i64 s.size)) ∧ (∀ (k k' : IntKind) (m n : Int), den2 .add (.int k m) (.int k' n) = some (.int .i64 (m + n))) ∧ (∀ (k k' : IntKind) (m n : Int), den2 .sub (.int k m) (.int k' n) = some (.int .i64 (m - n))) ∧ (∀ (k k' : IntKind) (m n : Int), den2 .mul (.int k m) (.int k' n) = some (.int .i64 (m * n))) ∧ (∀ (k k' : IntKind) (m n : Int), den2 .div (.int k m) (.int k' n) = some (.int .i64 (m.tdiv n))) ∧ (∀ (k k' : IntKind) (m n : Int), den2 .mod (.int k m) (.int k' n) = some (.int .i64 (m.tmod n))) ∧ (∀ (k k' : IntKind) (m n : Int), den2 .lt (.int k m) (.int k' n) = some (.bool (decide (m < n)))) ∧ (∀ (k k' : IntKind) (m n : Int), den2 .le (.int k m) (.int k' n) = some (.bool (decide (m ≤ n)))) ∧ (∀ (k k' : IntKind) (m n : Int), den2 .eq (.int k m) (.int k' n) = some (.bool (m == n))) ∧ (∀ (a b : Bool), den2 .eqb (.bool a) (.bool b) = some (.bool (a == b))) ∧ (∀ (a b : ByteArray), den2 .eqs (.string a) (.string b) = some (.bool (a == b))) ∧ (∀ (a b : ByteArray), den2 .lts (.string a) (.string b) = some (.bool (Op.bytesLess a.toList b.toList))) ∧ (∀ (a b : ByteArray), den2 .cat (.string a) (.string b) = some (.string (a ++ b))) ∧ (∀ (a : ByteArray) (k : IntKind) (n : Int), den2 .sat (.string a) (.int k n) = some (.int .u8 ((a[n.toNat]?.map UInt8.toNat).getD 0))) ∧ (∀ (a b : Bool), den2 .and (.bool a) (.bool b) = some (.bool (a && b))) ∧ (∀ (a b : Bool), den2 .or (.bool a) (.bool b) = some (.bool (a || b))) := ⟨@d_wrap, @d_kind, @d_not, @d_neg, @d_slen, @d_add, @d_sub, @d_mul, @d_div, @d_mod, @d_lt, @d_le, @d_eq, @d_eqb, @d_eqs, @d_lts, @d_cat, @d_sat, @d_and, @d_or⟩
theorem dY : (∀ (l : List Ptg), den1 .len (ptgsR l) = some (.int .i64 l.length)) ∧ (∀ (j : Nat) (l : List Ptg) (k : IntKind) (n : Int), denCell j (ptgsR l) (.int k n) = (l[n.toNat]?).bind fun p => p.row[j]?) ∧ (∀ (l : List Ptg) (k k' : IntKind) (a b : Int), denLsub (ptgsR l) (.int k a) (.int k' b) = some (ptgsR ((l.take b.toNat).drop a.toNat))) := ⟨@ptgs_len, @ptgs_cell, @ptgs_lsub⟩
theorem dZ : (∀ (b b2 : Bool), (Value.bool b = Value.bool b2) = (b = b2)) ∧ (∀ (k : IntKind) (n : Int) (k2 : IntKind) (n2 : Int), (Value.int k n = Value.int k2 n2) = (k = k2 ∧ n = n2)) ∧ (∀ {p : Prop} [Decidable p], (decide p = true) = p) ∧ (∀ {p : Prop} [Decidable p], decide p = false ↔ ¬ p) ∧ (∀ (p : Prop), (p ∧ True) = p) ∧ (∀ (p : Prop), (True ∧ p) = p) ∧ (∀ {a b c : Prop}, (a ∧ b → c) ↔ (a → b → c)) := ⟨@Value.bool.injEq, @Value.int.injEq, @decide_eq_true_eq, @decide_eq_false_iff_not, @and_true, @true_and, @and_imp⟩
theorem ptgs_snoc (l : List Ptg) (x : Ptg) : denSnoc (ptgsR l) [.int .i64 x.id, .int .i64 x.hour, .int .u8 x.kind, .int .i64 x.party, .int .i64 x.parcel, .int .i64 x.amount, .int .i64 x.reason, .int .i64 x.known] = some (ptgsR (l ++ [x])) := by
  simp [denSnoc, ptgsR, rowsV, Ptg.row]
theorem ptgs_snoc0 (x : Ptg) : denSnoc (.tuple #[]) [.int .i64 x.id, .int .i64 x.hour, .int .u8 x.kind, .int .i64 x.party, .int .i64 x.parcel, .int .i64 x.amount, .int .i64 x.reason, .int .i64 x.known] = some (ptgsR [x]) := ptgs_snoc [] x
theorem ptg0 (p : Ptg) : p.row[0]? = some (.int .i64 p.id) := rfl
theorem ptg1 (p : Ptg) : p.row[1]? = some (.int .i64 p.hour) := rfl
theorem ptg2 (p : Ptg) : p.row[2]? = some (.int .u8 p.kind) := rfl
theorem ptg3 (p : Ptg) : p.row[3]? = some (.int .i64 p.party) := rfl
theorem ptg4 (p : Ptg) : p.row[4]? = some (.int .i64 p.parcel) := rfl
theorem ptg5 (p : Ptg) : p.row[5]? = some (.int .i64 p.amount) := rfl
theorem ptg6 (p : Ptg) : p.row[6]? = some (.int .i64 p.reason) := rfl
theorem ptg7 (p : Ptg) : p.row[7]? = some (.int .i64 p.known) := rfl
def ptgLeaves (v : Nat) : List Leaf := [.int .i64 (v + 0), .int .i64 (v + 1), .int .u8 (v + 2), .int .i64 (v + 3), .int .i64 (v + 4), .int .i64 (v + 5), .int .i64 (v + 6), .int .i64 (v + 7)]
structure PtgAt (ρ : Rho) (v : Nat) (k : Nat → IntKind) (p : Ptg) : Prop where
  h0 : ρ.val (v + 0) = some (.int (k 0) p.id)
  h1 : ρ.val (v + 1) = some (.int (k 1) p.hour)
  h2 : ρ.val (v + 2) = some (.int (k 2) p.kind)
  h3 : ρ.val (v + 3) = some (.int (k 3) p.party)
  h4 : ρ.val (v + 4) = some (.int (k 4) p.parcel)
  h5 : ρ.val (v + 5) = some (.int (k 5) p.amount)
  h6 : ρ.val (v + 6) = some (.int (k 6) p.reason)
  h7 : ρ.val (v + 7) = some (.int (k 7) p.known)
theorem ptg_agg {σ : Sig} {v : Nat} {u : Value} (h : (Arg.agg (ptgLeaves v)).av.inst σ = some u) : ∃ (p : Ptg) (k : Nat → IntKind), u = .agg p.row.toArray ∧ PtgAt σ.rho v k p := by
  obtain ⟨vs, rfl, gs⟩ := AV.inst_agg h
  obtain ⟨x0, vs, rfl, g0, gs⟩ := ins_cons gs
  obtain ⟨x1, vs, rfl, g1, gs⟩ := ins_cons gs
  obtain ⟨x2, vs, rfl, g2, gs⟩ := ins_cons gs
  obtain ⟨x3, vs, rfl, g3, gs⟩ := ins_cons gs
  obtain ⟨x4, vs, rfl, g4, gs⟩ := ins_cons gs
  obtain ⟨x5, vs, rfl, g5, gs⟩ := ins_cons gs
  obtain ⟨x6, vs, rfl, g6, gs⟩ := ins_cons gs
  obtain ⟨x7, vs, rfl, g7, gs⟩ := ins_cons gs
  cases gs
  obtain ⟨a0, k0, rfl, h0⟩ := one_int g0
  obtain ⟨a1, k1, rfl, h1⟩ := one_int g1
  obtain ⟨a2, k2, rfl, h2⟩ := one_int g2
  obtain ⟨a3, k3, rfl, h3⟩ := one_int g3
  obtain ⟨a4, k4, rfl, h4⟩ := one_int g4
  obtain ⟨a5, k5, rfl, h5⟩ := one_int g5
  obtain ⟨a6, k6, rfl, h6⟩ := one_int g6
  obtain ⟨a7, k7, rfl, h7⟩ := one_int g7
  exact ⟨⟨a0, a1, a2, a3, a4, a5, a6, a7⟩, fun i => [k0, k1, k2, k3, k4, k5, k6, k7].getD i .i64, rfl, ⟨h0, h1, h2, h3, h4, h5, h6, h7⟩⟩
def ptgsArg (i b : Nat) : Arg := .list i 8 ptgSch 36 b (b + 1) (b + 2)
theorem ptgs_at {P : Program} {l : List (Nat × ABlock)} {N i : Nat} {b x : X} {own : Bool} {t : TypeId} {σ : Sig} {w : World} {Wr : Nat → Prop} (hrel : (memOf l N).rel P σ w Wr) (hg : (buildH l).get i = some (.rows 8 ptgSch b x own t)) :
    ∃ ps : List Ptg, x.den σ.rho = some (ptgsR ps) := by
  obtain ⟨rows, h1, h2⟩ := rows_at hrel hg
  exact ⟨rows.map toPtg, by rw [h1, ptgsR, ← ptgs_of h2]⟩
theorem ptgs_cap {σ : Sig} {i b : Nat} {u : Value} {l : List Ptg} (h : (ptgsArg i b).av.inst σ = some u) (h1 : σ.rho.val (b + 1) = some (ptgsR l)) : ∃ kc cap, σ.rho.val (b + 2) = some (.int kc cap) ∧ (l.length : Int) ≤ cap := by
  obtain ⟨_, _, _, _, kn, kc, _, _, _, e4, e5, e6, _⟩ := inst_slx h
  obtain ⟨q, hq⟩ := X.nat_iff.1 e5
  obtain ⟨q', hq'⟩ := X.nat_iff.1 e4
  simp only [X.den, h1, ptgs_len, Option.some.injEq, Value.int.injEq] at hq'
  exact ⟨q, kc, hq, by omega⟩
theorem ptg_eq {p q : Ptg} (h0 : p.id = q.id) (h1 : p.hour = q.hour) (h2 : p.kind = q.kind) (h3 : p.party = q.party) (h4 : p.parcel = q.parcel) (h5 : p.amount = q.amount) (h6 : p.reason = q.reason) (h7 : p.known = q.known) : p = q := by
  cases p; cases q; simp_all
theorem sym10 (k0 k1 k2 : IntKind) (a b c : Int) : sy 10 [.int k0 a, .int k1 b, .int k2 c] = some (.bool (withinB a b c)) := rfl
theorem sym30 (k0 k1 : IntKind) (a b : Int) : sy 30 [.int k0 a, .int k1 b] = some (.bool (kindB a b)) := rfl
theorem sym32 (rows : List (List Value)) : sy 32 [rowsV rows] = some (rowsV (valRows rows)) := congrArg (fun l => some (rowsV (valRows l))) (rowsOf_V rows)
theorem sym33 (l : List Int) : sy 33 [rowsV (l.map fun n => [.int .i64 n])] = some (.int .i64 (IntKind.i64.wrap l.sum)) := by
  refine (congrArg (fun l => some (Value.int .i64 (IntKind.i64.wrap (l.map keyZ).sum))) (rowsOf_V _)).trans ?_
  simp only [List.map_map]
  rw [show (keyZ ∘ fun n => [Value.int .i64 n]) = fun n => n from rfl, List.map_id']
theorem sym35 (rows : List (List Value)) : sy 35 [rowsV rows] = some (.bool (wordsZ rows)) := congrArg (fun l => some (Value.bool (wordsZ l))) (rowsOf_V rows)
theorem sym31 (k0 : IntKind) (a : Int) : sy 31 [.int k0 a] = some (.bool (partyB a)) := rfl
theorem sym58 (l : List Ptg) (k0 : IntKind) (h : Int) : sy 58 [ptgsR l, .int k0 h] = some (ptgsR (hourP l h)) := congrArg (fun l => some (ptgsR (hourP l h))) (ptgsV_R l)
theorem sym20 (l : List Ptg) : sy 20 [ptgsR l] = some (Value.bool (shortB l)) := congrArg (fun l => some (Value.bool (shortB l))) (ptgsV_R l)
theorem sym40 (l : List Ptg) (k0 k1 : IntKind) (w c : Int) : sy 40 [ptgsR l, .int k0 w, .int k1 c] = some (Value.int .i64 (hasW l w c)) := congrArg (fun l => some (Value.int .i64 (hasW l w c))) (ptgsV_R l)
theorem sym41 (l : List Ptg) (k0 : IntKind) (c : Int) : sy 41 [ptgsR l, .int k0 c] = some (Value.int .i64 (soldW l c)) := congrArg (fun l => some (Value.int .i64 (soldW l c))) (ptgsV_R l)
theorem sym42 (l : List Ptg) (k0 : IntKind) (c : Int) : sy 42 [ptgsR l, .int k0 c] = some (Value.int .i64 (heldW l c)) := congrArg (fun l => some (Value.int .i64 (heldW l c))) (ptgsV_R l)
theorem sym43 (l : List Ptg) (k0 k1 k2 : IntKind) (w c j : Int) : sy 43 [ptgsR l, .int k0 w, .int k1 c, .int k2 j] = (lastPay l w c).row[j.toNat]? := congrArg (fun l => (lastPay l w c).row[j.toNat]?) (ptgsV_R l)
theorem sym44 (l : List Ptg) (k0 k1 : IntKind) (w c : Int) : sy 44 [ptgsR l, .int k0 w, .int k1 c] = some (Value.bool (paidB l w c)) := congrArg (fun l => some (Value.bool (paidB l w c))) (ptgsV_R l)
theorem sym46 (l : List Ptg) (k0 : IntKind) (n : Int) : sy 46 [ptgsR l, .int k0 n] = some (Value.bool (thereB l n)) := congrArg (fun l => some (Value.bool (thereB l n))) (ptgsV_R l)
theorem sym45 (l : List Ptg) (k0 k1 : IntKind) (c n : Int) : sy 45 [ptgsR l, .int k0 c, .int k1 n] = some (Value.int .i64 (heldTo l c n.toNat)) := congrArg (fun l => some (Value.int .i64 (heldTo l c n.toNat))) (ptgsV_R l)
theorem sym4 (l : List Ptg) (k0 k1 k2 k3 k4 k5 k6 k7 : IntKind) (x : Ptg) : sy 4 [ptgsR l, .int k0 x.id, .int k1 x.hour, .int k2 x.kind, .int k3 x.party, .int k4 x.parcel, .int k5 x.amount, .int k6 x.reason, .int k7 x.known] = some (.int .i64 (refusedP l x)) := congrArg (fun l => some (Value.int .i64 (refusedP l x))) (ptgsV_R l)
theorem sym63 (k0 k1 k2 k3 k4 k5 k6 k7 : IntKind) (x : Ptg) : sy 63 [.int k0 x.id, .int k1 x.hour, .int k2 x.kind, .int k3 x.party, .int k4 x.parcel, .int k5 x.amount, .int k6 x.reason, .int k7 x.known] = some (.bool (formB x)) := rfl
theorem sym5 (l : List Ptg) : sy 5 [ptgsR l] = some (Value.int .i64 (checkP l).1) := congrArg (fun l => some (Value.int .i64 (checkP l).1)) (ptgsV_R l)
theorem sym6 (l : List Ptg) : sy 6 [ptgsR l] = some (Value.int .i64 (checkP l).2) := congrArg (fun l => some (Value.int .i64 (checkP l).2)) (ptgsV_R l)
theorem sym7 (a b : List Ptg) : sy 7 [ptgsR a, ptgsR b] = some (.bool (decide (a = b))) := congr (congrArg (fun a b => some (Value.bool (decide (a = b)))) (ptgsV_R a)) (ptgsV_R b)
theorem sym50 (l : List Ptg) : sy 50 [ptgsR l] = some (rowsV (idsV (uptoP l))) := congrArg (fun l => some (rowsV (idsV (uptoP l)))) (ptgsV_R l)
theorem sym51 (l : List Ptg) : sy 51 [ptgsR l] = some (rowsV (soldV (uptoP l))) := congrArg (fun l => some (rowsV (soldV (uptoP l)))) (ptgsV_R l)
theorem sym52 (l : List Ptg) : sy 52 [ptgsR l] = some (rowsV (heldV (uptoP l))) := congrArg (fun l => some (rowsV (heldV (uptoP l)))) (ptgsV_R l)
theorem sym53 (l : List Ptg) : sy 53 [ptgsR l] = some (rowsV (hasV (uptoP l))) := congrArg (fun l => some (rowsV (hasV (uptoP l)))) (ptgsV_R l)
theorem sym54 (l : List Ptg) : sy 54 [ptgsR l] = some (rowsV (knownV (uptoP l))) := congrArg (fun l => some (rowsV (knownV (uptoP l)))) (ptgsV_R l)
theorem sym57 (l : List Ptg) : sy 57 [ptgsR l] = some (Value.int .i64 (lastX l)) := congrArg (fun l => some (Value.int .i64 (lastX l))) (ptgsV_R l)
theorem sym55 (l : List Ptg) : sy 55 [ptgsR l] = some (Value.int .i64 (highP (uptoP l))) := congrArg (fun l => some (Value.int .i64 (highP (uptoP l)))) (ptgsV_R l)
theorem sym56 (l : List Ptg) : sy 56 [ptgsR l] = some (Value.int .i64 (lastH (uptoP l))) := congrArg (fun l => some (Value.int .i64 (lastH (uptoP l)))) (ptgsV_R l)
theorem sym59 (l : List Ptg) : sy 59 [ptgsR l] = some (rowsV (intRows (parcZ l))) := congrArg (fun l => some (rowsV (intRows (parcZ l)))) (ptgsV_R l)
theorem sym60 (l : List Ptg) (k0 : IntKind) (c : Int) : sy 60 [ptgsR l, .int k0 c] = some (ptgsR (ofP l c)) := congrArg (fun l => some (ptgsR (ofP l c))) (ptgsV_R l)
theorem sym64 (l : List Ptg) (k0 : IntKind) (c : Int) : sy 64 [ptgsR l, .int k0 c] = some (Value.int .i64 (soldE l c)) := congrArg (fun l => some (Value.int .i64 (soldE l c))) (ptgsV_R l)
theorem sym65 (l : List Ptg) (k0 : IntKind) (c : Int) : sy 65 [ptgsR l, .int k0 c] = some (Value.int .i64 (soldA l c)) := congrArg (fun l => some (Value.int .i64 (soldA l c))) (ptgsV_R l)
theorem sym66 (l : List Ptg) (k0 k1 : IntKind) (w c : Int) : sy 66 [ptgsR l, .int k0 w, .int k1 c] = some (Value.int .i64 (hasE l w c)) := congrArg (fun l => some (Value.int .i64 (hasE l w c))) (ptgsV_R l)
theorem sym67 (l : List Ptg) (k0 k1 : IntKind) (w c : Int) : sy 67 [ptgsR l, .int k0 w, .int k1 c] = some (Value.int .i64 (hasA l w c)) := congrArg (fun l => some (Value.int .i64 (hasA l w c))) (ptgsV_R l)
theorem sym68 (l : List Ptg) (k0 : IntKind) (c : Int) : sy 68 [ptgsR l, .int k0 c] = some (Value.int .i64 (hofE l c)) := congrArg (fun l => some (Value.int .i64 (hofE l c))) (ptgsV_R l)
theorem sym69 (l : List Ptg) (k0 : IntKind) (c : Int) : sy 69 [ptgsR l, .int k0 c] = some (Value.int .i64 (hofA l c)) := congrArg (fun l => some (Value.int .i64 (hofA l c))) (ptgsV_R l)
theorem sym70 (l : List Ptg) : sy 70 [ptgsR l] = some (Value.int .i64 (heldA l)) := congrArg (fun l => some (Value.int .i64 (heldA l))) (ptgsV_R l)
theorem keyZ_ints (l : List Int) : (l.map fun n => [Value.int .i64 n]).map keyZ = l := by
  simp only [List.map_map]
  rw [show (keyZ ∘ fun n => [Value.int .i64 n]) = fun n => n from rfl, List.map_id']
theorem sym62 (l : List Int) (k : IntKind) (n : Int) : sy 62 [rowsV (l.map fun n => [.int .i64 n]), .int k n] = some (.int .i64 (atZ l n)) := by
  refine (congrArg (fun l => some (Value.int .i64 (atZ (l.map keyZ) n))) (rowsOf_V _)).trans ?_
  rw [keyZ_ints]
theorem sym71 (a : List Ptg) (l : List Int) : sy 71 [ptgsR a, rowsV (l.map fun n => [.int .i64 n])] = some (.int .i64 (sumHeld a l)) := by
  refine (congr (congrArg (fun a l => some (Value.int .i64 (sumHeld a (l.map keyZ)))) (ptgsV_R a)) (rowsOf_V _)).trans ?_
  rw [keyZ_ints]
theorem sym72 (l : List Int) : sy 72 [rowsV (l.map fun n => [.int .i64 n])] = some (.bool true) := by
  show some (Value.bool (List.all (((l.map fun n => [Value.int .i64 n]).map fun r => Value.agg r.toArray).toArray.toList) int1)) = _
  rw [List.all_eq_true.2]
  intro v hv
  simp only [List.mem_map] at hv
  obtain ⟨r, ⟨n, _, rfl⟩, rfl⟩ := hv
  rfl
theorem ints_of : ∀ l : List Value, l.all int1 = true → ∃ m : List Int, l = (m.map fun n => [Value.int .i64 n]).map fun r => Value.agg r.toArray
  | [], _ => ⟨[], rfl⟩
  | v :: l, h => by
    rw [List.all_cons, Bool.and_eq_true] at h
    obtain ⟨m, rfl⟩ := ints_of l h.2
    have h1 := h.1
    unfold int1 at h1
    split at h1
    · rename_i r
      split at h1
      · rename_i n e
        refine ⟨n :: m, ?_⟩
        have : r = [Value.int .i64 n].toArray := by rw [← e]
        rw [this]; rfl
      · cases h1
    · cases h1
theorem ints_at {v : Value} (h : sy 72 [v] = some (.bool true)) : ∃ m : List Int, v = rowsV (m.map fun n => [Value.int .i64 n]) := by
  cases v with
  | tuple a =>
    have h : some (Value.bool (a.toList.all int1)) = some (.bool true) := h
    rw [Option.some.injEq, Value.bool.injEq] at h
    obtain ⟨m, e⟩ := ints_of _ h
    exact ⟨m, congrArg Value.tuple (by rw [← e])⟩
  | _ => cases h
theorem short_len {α : Type} {l : List α} (h : shortB l = true) : (l.length : Int) ≤ 1010 := by simpa [shortB] using h
theorem len_short {α : Type} {l : List α} (h : (l.length : Int) ≤ 1010) : shortB l = true := by simpa [shortB] using h
theorem short_take {α : Type} {l : List α} (h : shortB l = true) (i : Nat) : shortB (l.take i) = true := by
  have := short_len h
  refine len_short ?_
  simp only [List.length_take]
  omega
theorem rows_len (a : List (List Value)) : den1 .len (rowsV a) = some (.int .i64 a.length) := by simp [den1, rowsV]
theorem d_ite2 (b : Bool) (x y : Value) : denIte (some (.bool b)) (some x) (some y) = some (bif b then x else y) := by cases b <;> rfl
open Go
theorem has_put {key row : List Value} (hb : begins key row = true) : ∀ rows : List (List Value), mapHas (putRow key row rows) key = true
  | [] => by simp [putRow, mapHas, hb]
  | r :: l => by
    cases h : begins key r with
    | true => simp [putRow, h, mapHas, hb]
    | false =>
      have := has_put hb l
      unfold mapHas at *
      simp only [putRow, h, List.any_cons, this, Bool.or_true]
theorem at_put {key row : List Value} (hb : begins key row = true) (j : Nat) : ∀ rows : List (List Value), mapAt (putRow key row rows) key j = row[j]?
  | [] => by simp [putRow, mapAt, mapRow, hb]
  | r :: l => by
    cases h : begins key r with
    | true => simp [putRow, h, mapAt, mapRow, hb]
    | false =>
      have := at_put hb j l
      unfold mapAt mapRow at *
      simp only [putRow, h, List.find?_cons]
      exact this
theorem has_ne {key row key' : List Value} (hd : ∀ r, begins key r = true → begins key' r = false) (hb : begins key row = true) : ∀ rows : List (List Value), mapHas (putRow key row rows) key' = mapHas rows key'
  | [] => by simp [putRow, mapHas, hd _ hb]
  | r :: l => by
    cases h : begins key r with
    | true => simp [putRow, h, mapHas, hd _ hb, hd _ h]
    | false =>
      have := has_ne hd hb l
      unfold mapHas at *
      simp only [putRow, h, List.any_cons, this]
theorem at_ne {key row key' : List Value} (hd : ∀ r, begins key r = true → begins key' r = false) (hb : begins key row = true) (j : Nat) : ∀ rows : List (List Value), mapAt (putRow key row rows) key' j = mapAt rows key' j
  | [] => by simp [putRow, mapAt, mapRow, hd _ hb]
  | r :: l => by
    cases h : begins key r with
    | true => simp [putRow, h, mapAt, mapRow, hd _ hb, hd _ h]
    | false =>
      have := at_ne hd hb j l
      unfold mapAt mapRow at *
      simp only [putRow, h, List.find?_cons]
      cases begins key' r with
      | true => rfl
      | false => exact this
theorem begins_kI {n : Int} {r : List Value} (h : begins (kI n) r = true) : ∃ l, r = .int .i64 n :: l := by
  cases r with
  | nil => simp [kI, begins] at h
  | cons a l =>
    simp only [kI, begins, Bool.and_true] at h
    cases a <;> simp only [sameV] at h <;> first
      | (cases h; done)
      | (simp only [Bool.and_eq_true, decide_eq_true_eq, beq_iff_eq] at h; obtain ⟨rfl, rfl⟩ := h; exact ⟨l, rfl⟩)
theorem apart_kI {n m : Int} (h : ¬ n = m) : ∀ r, begins (kI n) r = true → begins (kI m) r = false := by
  intro r hr
  obtain ⟨l, rfl⟩ := begins_kI hr
  have : (m == n) = false := by simpa using fun e => h e.symm
  simp [kI, begins, sameV, this]
theorem begins_kA {n q : Int} {r : List Value} (h : begins (kA n q) r = true) : ∃ l, r = .int .i64 n :: .int .i64 q :: l := by
  cases r with
  | nil => simp [kA, begins] at h
  | cons a l =>
    cases l with
    | nil => simp [kA, begins] at h
    | cons b l =>
      simp only [kA, begins, Bool.and_true, Bool.and_eq_true] at h
      obtain ⟨h1, h2⟩ := h
      cases a <;> simp only [sameV] at h1 <;> first
        | (cases h1; done)
        | skip
      cases b <;> simp only [sameV] at h2 <;> first
        | (cases h2; done)
        | skip
      simp only [Bool.and_eq_true, decide_eq_true_eq, beq_iff_eq] at h1 h2
      obtain ⟨rfl, rfl⟩ := h1
      obtain ⟨rfl, rfl⟩ := h2
      exact ⟨l, rfl⟩
theorem apart_kA {n q m s : Int} (h : ¬ (n = m ∧ q = s)) : ∀ r, begins (kA n q) r = true → begins (kA m s) r = false := by
  intro r hr
  obtain ⟨l, rfl⟩ := begins_kA hr
  simp only [kA, begins, sameV, decide_true, Bool.true_and, Bool.and_true]
  cases h1 : (m == n) with
  | false => rfl
  | true =>
    cases h2 : (s == q) with
    | false => rfl
    | true => exact absurd ⟨(eq_of_beq h1).symm, (eq_of_beq h2).symm⟩ h
theorem begin_i (n : Int) (l : List Value) : begins (kI n) (.int .i64 n :: l) = true := by simp [kI, begins, sameV]
theorem begin_a (n q : Int) (l : List Value) : begins (kA n q) (.int .i64 n :: .int .i64 q :: l) = true := by simp [kA, begins, sameV]
def sumH (l : List Ptg) (c : Int) : Nat → Int
  | 0 => 0
  | n + 1 => sumH l c n + hasW l (n : Int) c
theorem sumH_succ (l : List Ptg) (c : Int) (n : Nat) : sumH l c (n + 1) = sumH l c n + hasW l (n : Int) c := rfl
def heldZ (l : List Ptg) (c : Int) : Int := soldW l c - sumH l c 41
theorem sumH_nonneg {l : List Ptg} {c : Int} (h : ∀ w, 0 ≤ hasW l w c) : ∀ n, 0 ≤ sumH l c n
  | 0 => Int.le_refl _
  | n + 1 => by have := sumH_nonneg h n; have := h (n : Int); simp only [sumH]; omega
theorem sumH_mono {l : List Ptg} {c : Int} (h : ∀ w, 0 ≤ hasW l w c) {m n : Nat} (hmn : m ≤ n) : sumH l c m ≤ sumH l c n := by
  induction n with
  | zero => obtain rfl : m = 0 := by omega
            exact Int.le_refl _
  | succ n ih =>
    rcases Nat.lt_or_ge n m with h1 | h1
    · obtain rfl : m = n + 1 := by omega
      exact Int.le_refl _
    · have := ih h1
      have := h (n : Int)
      simp only [sumH]; omega
theorem has_le {l : List Ptg} {c : Int} (h : ∀ w, 0 ≤ hasW l w c) {w : Int} (h0 : 0 ≤ w) (h1 : w ≤ 40) : hasW l w c ≤ sumH l c 41 := by
  obtain ⟨k, rfl⟩ := Int.eq_ofNat_of_zero_le h0
  have h2 : sumH l c (k + 1) ≤ sumH l c 41 := sumH_mono h (by omega)
  have h3 := sumH_nonneg h k
  rw [sumH_succ] at h2
  omega
theorem heldTo_is {l : List Ptg} {c : Int} (h : ∀ w, 0 ≤ hasW l w c) (h0 : 0 ≤ heldZ l c) (h1 : 0 ≤ soldW l c) (h2 : soldW l c ≤ 1000000000) : ∀ n, n ≤ 41 → heldTo l c n = soldW l c - sumH l c n
  | 0, _ => by simp [heldTo, sumH]
  | n + 1, hn => by
    have ih := heldTo_is h h0 h1 h2 n (by omega)
    have h3 : sumH l c (n + 1) ≤ sumH l c 41 := sumH_mono h hn
    have h4 := sumH_nonneg h (n + 1)
    unfold heldZ at h0
    simp only [heldTo, ih]
    rw [sumH_succ] at h3 h4
    rw [IntWalk.i64_in _ (by omega), sumH_succ]
    omega
theorem heldW_is {l : List Ptg} {c : Int} (h : ∀ w, 0 ≤ hasW l w c) (h0 : 0 ≤ heldZ l c) (h1 : 0 ≤ soldW l c) (h2 : soldW l c ≤ 1000000000) : heldW l c = heldZ l c := heldTo_is h h0 h1 h2 41 (Nat.le_refl _)
theorem sumH_same {l l' : List Ptg} {c : Int} (h : ∀ w, hasW l' w c = hasW l w c) : ∀ n, sumH l' c n = sumH l c n
  | 0 => rfl
  | n + 1 => by simp only [sumH, sumH_same h n, h]
theorem sumH_add {l l' : List Ptg} {c w d : Int} (h : ∀ v, ¬ v = w → hasW l' v c = hasW l v c) (hw : hasW l' w c = hasW l w c + d) (h0 : 0 ≤ w) : ∀ n : Nat, sumH l' c n = sumH l c n + (if w < (n : Int) then d else 0)
  | 0 => by simp only [sumH]; rw [if_neg (by omega)]; omega
  | n + 1 => by
    have ih := sumH_add h hw h0 n
    simp only [sumH, ih]
    by_cases e : (n : Int) = w
    · rw [e, hw, if_neg (by omega), if_pos (by omega)]; omega
    · rw [h _ e]
      by_cases q : w < (n : Int)
      · rw [if_pos q, if_pos (by omega)]; omega
      · rw [if_neg q, if_neg (by omega)]; omega
structure FormP (p : Ptg) : Prop where
  id : 1 ≤ p.id ∧ p.id ≤ 1000000
  reason : 1 ≤ p.reason ∧ p.reason ≤ 1000000
  hour : 0 ≤ p.hour ∧ p.hour ≤ 1000000
  known : 0 ≤ p.known ∧ p.known ≤ p.hour
  parcel : 10 ≤ p.parcel ∧ p.parcel ≤ 10000007
  amount : 1 ≤ p.amount ∧ p.amount ≤ 1000000000
  kind : (p.kind = 1 ∧ p.party = 0) ∨ p.kind = 2 ∨ p.kind = 3
  party : 0 ≤ p.party ∧ p.party ≤ 40
theorem form_of {p : Ptg} (h : formB p = true) : FormP p := by
  simp only [formB, withinB, Bool.and_eq_true, decide_eq_true_eq] at h
  obtain ⟨h1, h2, h3, h4, h5, h6, h7⟩ := h
  unfold kindB at h7
  by_cases k1 : p.kind = 1
  · simp only [k1, decide_true, cond_true, decide_eq_true_eq] at h7
    exact ⟨h1, h2, h3, h4, h5, h6, .inl ⟨k1, h7⟩, by omega⟩
  · by_cases k2 : p.kind = 2 ∨ p.kind = 3
    · have : (decide (p.kind = 2) || decide (p.kind = 3)) = true := by simpa using k2
      simp only [k1, decide_false, cond_false, this, cond_true, withinB, Bool.or_eq_true, Bool.and_eq_true, decide_eq_true_eq] at h7
      exact ⟨h1, h2, h3, h4, h5, h6, .inr k2, by omega⟩
    · have : (decide (p.kind = 2) || decide (p.kind = 3)) = false := by simpa using k2
      simp [k1, this] at h7
structure Acc (pre : List Ptg) (p : Ptg) : Prop where
  len : pre.length < 400
  form : FormP p
  formB : formB p = true
  new : thereB pre p.id = false
  kind1 : p.kind = 1 → soldW pre p.parcel ≤ 0
  kind2 : p.kind = 2 → ¬ soldW pre p.parcel = 0 ∧ p.amount ≤ heldW pre p.parcel
  kind3 : p.kind = 3 → ¬ soldW pre p.parcel = 0 ∧ p.amount ≤ hasW pre p.party p.parcel
  hour : lastH pre ≤ p.hour
theorem accepted {pre : List Ptg} {p : Ptg} (h : refusedP pre p = 0) : Acc pre p := by
  unfold refusedP at h
  by_cases c0 : 400 ≤ pre.length
  · simp [c0] at h
  cases c1 : formB p with
  | false => simp [c0, c1] at h
  | true =>
    have hf := form_of c1
    cases c2 : thereB pre p.id with
    | true => simp [c0, c1, c2] at h
    | false =>
      simp only [c0, c1, c2, decide_false, Bool.not_true, cond_false] at h
      by_cases c3 : 0 < pre.length ∧ p.hour < lastH pre
      · simp [c3] at h
      · have c3' : (decide (0 < pre.length) && decide (p.hour < lastH pre)) = false := by
          rw [Bool.and_eq_false_iff]
          simp only [decide_eq_false_iff_not]
          by_cases q : 0 < pre.length
          · exact .inr fun q' => c3 ⟨q, q'⟩
          · exact .inl q
        simp only [c3', cond_false] at h
        have hh : lastH pre ≤ p.hour := by
          rcases Nat.eq_zero_or_pos pre.length with q | q
          · rw [List.eq_nil_of_length_eq_zero q]
            exact hf.hour.1
          · have : ¬ p.hour < lastH pre := fun e => c3 ⟨q, e⟩
            omega
        refine ⟨by omega, hf, c1, c2, fun k => ?_, fun k => ?_, fun k => ?_, hh⟩
        · by_cases e : 0 < soldW pre p.parcel
          · simp [k, e] at h
          · omega
        · have k1 : ¬ p.kind = 1 := by omega
          by_cases e : soldW pre p.parcel = 0
          · simp [k, e] at h
          · refine ⟨e, ?_⟩
            by_cases e2 : heldW pre p.parcel < p.amount
            · simp [k, e, e2] at h
            · omega
        · by_cases e : soldW pre p.parcel = 0
          · simp [k, e] at h
          · refine ⟨e, ?_⟩
            by_cases e2 : hasW pre p.party p.parcel < p.amount
            · simp [k, e, e2] at h
            · omega
structure GoodL (pre : List Ptg) : Prop where
  formed : ∀ q ∈ pre, formB q = true
  len : pre.length ≤ 400
  ids : idsV pre = pre.map fun q => [.int .i64 q.id, .bool true]
  soldB : ∀ c, soldW pre c ≤ 1000000000
  hasN : ∀ w c, 0 ≤ hasW pre w c
  heldN : ∀ c, 0 ≤ heldZ pre c
  sold : ∀ c, (mapHas (soldV pre) (kI c) = false ∧ soldW pre c = 0) ∨ (mapHas (soldV pre) (kI c) = true ∧ mapAt (soldV pre) (kI c) 1 = some (.int .i64 (soldW pre c)) ∧ 0 < soldW pre c)
  held : ∀ c, (mapHas (heldV pre) (kI c) = false ∧ soldW pre c = 0) ∨ (mapHas (heldV pre) (kI c) = true ∧ mapAt (heldV pre) (kI c) 1 = some (.int .i64 (heldZ pre c)) ∧ 0 < soldW pre c)
  has : ∀ w c, (mapHas (hasV pre) (kA w c) = false ∧ hasW pre w c = 0 ∧ paidB pre w c = false) ∨ (mapHas (hasV pre) (kA w c) = true ∧ mapAt (hasV pre) (kA w c) 2 = some (.int .i64 (hasW pre w c)) ∧ paidB pre w c = true)
  known : ∀ w c, (mapHas (knownV pre) (kA w c) = false ∧ paidB pre w c = false) ∨ (mapHas (knownV pre) (kA w c) = true ∧ mapAt (knownV pre) (kA w c) 2 = some (.int .i64 (lastPay pre w c).known) ∧ paidB pre w c = true)
theorem goodL_nil : GoodL [] := by
  refine ⟨(fun q h => by cases h), Nat.zero_le _, rfl, fun c => by simp [soldW], fun w c => by simp [hasW], fun c => ?_, fun c => .inl ⟨rfl, rfl⟩, fun c => .inl ⟨rfl, rfl⟩, fun w c => .inl ⟨rfl, rfl, rfl⟩, fun w c => .inl ⟨rfl, rfl⟩⟩
  have : ∀ n, sumH [] c n = 0 := fun n => by
    induction n with
    | zero => rfl
    | succ n ih => simp [sumH, ih, hasW]
  simp [heldZ, this, soldW]
theorem GoodL.soldN {pre : List Ptg} (h : GoodL pre) (c : Int) : 0 ≤ soldW pre c := by
  rcases h.sold c with ⟨_, e⟩ | ⟨_, _, e⟩ <;> omega
theorem GoodL.heldW {pre : List Ptg} (h : GoodL pre) (c : Int) : heldW pre c = heldZ pre c := heldW_is (fun w => h.hasN w c) (h.heldN c) (h.soldN c) (h.soldB c)
theorem GoodL.idHas {pre : List Ptg} (h : GoodL pre) (n : Int) : mapHas (idsV pre) (kI n) = thereB pre n := by
  rw [h.ids]
  unfold mapHas thereB
  rw [List.any_map]
  congr 1
  funext q
  simp only [Function.comp, kI, begins, sameV, decide_true, Bool.true_and, Bool.and_true]
  rw [Bool.eq_iff_iff]; simp; exact eq_comm
theorem GoodL.idAt {pre : List Ptg} (h : GoodL pre) {n : Int} (hn : thereB pre n = true) : mapAt (idsV pre) (kI n) 1 = some (.bool true) := by
  have hh := h.idHas n
  rw [hn] at hh
  unfold mapAt mapRow
  cases hf : (idsV pre).find? (begins (kI n)) with
  | none =>
    rw [List.find?_eq_none] at hf
    unfold mapHas at hh
    rw [List.any_eq_true] at hh
    obtain ⟨r, h1, h2⟩ := hh
    exact absurd h2 (hf r h1)
  | some r =>
    have := List.mem_of_find?_eq_some hf
    rw [h.ids] at this
    obtain ⟨q, _, rfl⟩ := List.mem_map.1 this
    rfl
theorem atI_of {rows : List (List Value)} {key : List Value} {j : Nat} {n : Int} (h : mapAt rows key j = some (.int .i64 n)) : atI rows key j = n := by simp [atI, h]
theorem atI_none {rows : List (List Value)} {key : List Value} {j : Nat} (h : mapHas rows key = false) : atI rows key j = 0 := by
  have : mapAt rows key j = none := by
    unfold mapAt mapRow
    cases hf : rows.find? (begins key) with
    | none => rfl
    | some r =>
      have h1 := List.find?_some hf
      have h2 := List.mem_of_find?_eq_some hf
      have : mapHas rows key = true := List.any_eq_true.2 ⟨r, h2, h1⟩
      rw [h] at this; cases this
  simp [atI, this]
theorem idsV_snoc (l : List Ptg) (p : Ptg) : idsV (l ++ [p]) = putRow (kI p.id) [.int .i64 p.id, .bool true] (idsV l) := by simp [idsV]
theorem soldV_snoc (l : List Ptg) (p : Ptg) : soldV (l ++ [p]) = bif decide (p.kind = 1) then putRow (kI p.parcel) (irow p.parcel p.amount) (soldV l) else soldV l := by simp [soldV]
theorem heldV_snoc (l : List Ptg) (p : Ptg) : heldV (l ++ [p]) = bif decide (p.kind = 1) then putRow (kI p.parcel) (irow p.parcel p.amount) (heldV l)
  else bif decide (p.kind = 2) then putRow (kI p.parcel) (irow p.parcel (IntKind.i64.wrap (atI (heldV l) (kI p.parcel) 1 - p.amount))) (heldV l)
  else putRow (kI p.parcel) (irow p.parcel (IntKind.i64.wrap (atI (heldV l) (kI p.parcel) 1 + p.amount))) (heldV l) := by simp [heldV]
theorem hasV_snoc (l : List Ptg) (p : Ptg) : hasV (l ++ [p]) = bif decide (p.kind = 1) then hasV l
  else bif decide (p.kind = 2) then putRow (kA p.party p.parcel) (arow p.party p.parcel (IntKind.i64.wrap (atI (hasV l) (kA p.party p.parcel) 2 + p.amount))) (hasV l)
  else putRow (kA p.party p.parcel) (arow p.party p.parcel (IntKind.i64.wrap (atI (hasV l) (kA p.party p.parcel) 2 - p.amount))) (hasV l) := by simp [hasV]
theorem knownV_snoc (l : List Ptg) (p : Ptg) : knownV (l ++ [p]) = bif decide (p.kind = 2) then putRow (kA p.party p.parcel) (arow p.party p.parcel p.known) (knownV l) else knownV l := by simp [knownV]
theorem highP_snoc (l : List Ptg) (p : Ptg) : highP (l ++ [p]) = max (highP l) p.id := by simp [highP]
theorem lastH_snoc (l : List Ptg) (p : Ptg) : lastH (l ++ [p]) = p.hour := by simp [lastH]
theorem hasW_snoc' (l : List Ptg) (p : Ptg) (w c : Int) : hasW (l ++ [p]) w c = hasStep w c (hasW l w c) p := by simp [hasW]
theorem soldW_snoc' (l : List Ptg) (p : Ptg) (c : Int) : soldW (l ++ [p]) c = soldStep c (soldW l c) p := by simp [soldW]
theorem lastPay_snoc (l : List Ptg) (p : Ptg) (w c : Int) : lastPay (l ++ [p]) w c = bif payB w c p then p else lastPay l w c := by simp [lastPay]
theorem paidB_snoc (l : List Ptg) (p : Ptg) (w c : Int) : paidB (l ++ [p]) w c = (paidB l w c || payB w c p) := by simp [paidB]
theorem begin_ir (n v : Int) : begins (kI n) (irow n v) = true := begin_i _ _
theorem begin_ar (n q v : Int) : begins (kA n q) (arow n q v) = true := begin_a _ _ _
theorem GoodL.snoc {pre : List Ptg} {p : Ptg} (h : GoodL pre) (hr : refusedP pre p = 0) : GoodL (pre ++ [p]) := by
  have A := accepted hr
  have hf := A.form
  have ha := hf.amount
  have hids : idsV (pre ++ [p]) = (pre ++ [p]).map fun q => [.int .i64 q.id, .bool true] := by
    rw [idsV_snoc, putRow_new (by rw [h.idHas]; exact A.new), h.ids]
    simp
  have hformed : ∀ q ∈ pre ++ [p], Zs.formB q = true := fun q hq => by
    rcases List.mem_append.1 hq with hq | hq
    · exact h.formed q hq
    · rw [List.mem_singleton.1 hq]; exact A.formB
  have hlen : (pre ++ [p]).length ≤ 400 := by have := A.len; simp; omega
  rcases hf.kind with ⟨k1, kp⟩ | k2 | k3
  · -- a sale
    have hs0 : soldW pre p.parcel = 0 := by have := A.kind1 k1; have := h.soldN p.parcel; omega
    have hhas : ∀ w c, hasW (pre ++ [p]) w c = hasW pre w c := fun w c => by
      rw [hasW_snoc']
      simp [hasStep, k1]
    have hsold : ∀ c, soldW (pre ++ [p]) c = if c = p.parcel then p.amount else soldW pre c := fun c => by
      rw [soldW_snoc']
      unfold soldStep
      by_cases e : c = p.parcel
      · subst e
        rw [hs0]
        simp only [k1, decide_true, Bool.and_self, cond_true, if_true]
        rw [IntWalk.i64_in _ (by omega)]; omega
      · have : ¬ p.parcel = c := fun q => e q.symm
        simp [this, e]
    have hsum : ∀ c, sumH (pre ++ [p]) c 41 = sumH pre c 41 := fun c => sumH_same (fun w => hhas w c) 41
    have hzero : sumH pre p.parcel 41 = 0 := by
      have h1 := h.heldN p.parcel
      have h2 := sumH_nonneg (fun w => h.hasN w p.parcel) 41
      unfold heldZ at h1
      omega
    have hheld : ∀ c, heldZ (pre ++ [p]) c = if c = p.parcel then p.amount else heldZ pre c := fun c => by
      unfold heldZ
      rw [hsold, hsum]
      by_cases e : c = p.parcel
      · subst e; simp [hzero]
      · simp [e]
    have hpay : ∀ w c, payB w c p = false := fun w c => by simp [payB, k1]
    refine ⟨hformed, hlen, hids, fun c => ?_, fun w c => ?_, fun c => ?_, fun c => ?_, fun c => ?_, fun w c => ?_, fun w c => ?_⟩
    · rw [hsold]; split
      · omega
      · exact h.soldB c
    · rw [hhas]; exact h.hasN w c
    · rw [hheld]; split
      · omega
      · exact h.heldN c
    · rw [soldV_snoc, hsold]
      simp only [k1, decide_true, cond_true]
      by_cases e : c = p.parcel
      · subst e
        right
        rw [if_pos rfl]
        exact ⟨has_put (begin_ir _ _) _, at_put (begin_ir _ _) 1 _, by omega⟩
      · rw [if_neg e, has_ne (apart_kI fun q => e q.symm) (begin_ir _ _), at_ne (apart_kI fun q => e q.symm) (begin_ir _ _)]
        exact h.sold c
    · rw [heldV_snoc, hsold, hheld]
      simp only [k1, decide_true, cond_true]
      by_cases e : c = p.parcel
      · subst e
        right
        rw [if_pos rfl, if_pos rfl]
        exact ⟨has_put (begin_ir _ _) _, at_put (begin_ir _ _) 1 _, by omega⟩
      · rw [if_neg e, if_neg e, has_ne (apart_kI fun q => e q.symm) (begin_ir _ _), at_ne (apart_kI fun q => e q.symm) (begin_ir _ _)]
        exact h.held c
    · rw [hasV_snoc, hhas, paidB_snoc, hpay, Bool.or_false]
      simp only [k1, decide_true, cond_true]
      exact h.has w c
    · rw [knownV_snoc, paidB_snoc, lastPay_snoc, hpay, Bool.or_false]
      have : ¬ p.kind = 2 := by omega
      simp only [this, decide_false, cond_false]
      exact h.known w c
  · -- a payment
    obtain ⟨hs, hle⟩ := A.kind2 k2
    rw [h.heldW] at hle
    have hspos : 0 < soldW pre p.parcel := by have := h.soldN p.parcel; omega
    have hsb := h.soldB p.parcel
    have hold : hasW pre p.party p.parcel + p.amount ≤ soldW pre p.parcel := by
      have h1 := has_le (fun w => h.hasN w p.parcel) hf.party.1 hf.party.2
      unfold heldZ at hle
      omega
    have hn0 := h.hasN p.party p.parcel
    have hhas : ∀ w c, hasW (pre ++ [p]) w c = if p.party = w ∧ p.parcel = c then hasW pre w c + p.amount else hasW pre w c := fun w c => by
      rw [hasW_snoc']
      unfold hasStep mine
      by_cases e : p.party = w ∧ p.parcel = c
      · obtain ⟨rfl, rfl⟩ := e
        simp only [decide_true, Bool.and_self, cond_true, k2, and_self, if_true]
        rw [IntWalk.i64_in _ (by omega)]
      · have : (decide (p.party = w) && decide (p.parcel = c)) = false := by
          rw [Bool.and_eq_false_iff]
          simp only [decide_eq_false_iff_not]
          exact Classical.or_iff_not_imp_left.2 fun q q' => e ⟨Classical.not_not.1 q, q'⟩
        simp [this, e]
    have hsold : ∀ c, soldW (pre ++ [p]) c = soldW pre c := fun c => by
      rw [soldW_snoc']
      simp [soldStep, k2]
    have hheld : ∀ c, heldZ (pre ++ [p]) c = if p.parcel = c then heldZ pre c - p.amount else heldZ pre c := fun c => by
      unfold heldZ
      rw [hsold]
      by_cases e : p.parcel = c
      · subst e
        rw [if_pos rfl, sumH_add (l := pre) (w := p.party) (d := p.amount) (fun v hv => by rw [hhas, if_neg fun q => hv q.1.symm]) (by rw [hhas, if_pos ⟨rfl, rfl⟩]) hf.party.1 41, if_pos (by have := hf.party.2; omega)]
        omega
      · rw [if_neg e, sumH_same (l := pre) (l' := pre ++ [p]) (c := c) (fun w => by rw [hhas, if_neg fun q => e q.2]) 41]
    have hpay : ∀ w c, payB w c p = decide (p.party = w ∧ p.parcel = c) := fun w c => by simp [payB, k2]
    have dk1 : decide (p.kind = 1) = false := decide_eq_false (by omega)
    have dk2 : decide (p.kind = 2) = true := decide_eq_true k2
    refine ⟨hformed, hlen, hids, fun c => ?_, fun w c => ?_, fun c => ?_, fun c => ?_, fun c => ?_, fun w c => ?_, fun w c => ?_⟩
    · rw [hsold]; exact h.soldB c
    · rw [hhas]; have := h.hasN w c; split <;> omega
    · rw [hheld]; have := h.heldN c
      split
      · rename_i e; subst e; omega
      · omega
    · rw [soldV_snoc, hsold]
      simp only [dk1, cond_false]
      exact h.sold c
    · rw [heldV_snoc, hsold, hheld]
      simp only [dk1, dk2, cond_true, cond_false]
      by_cases e : p.parcel = c
      · subst e
        right
        rw [if_pos rfl]
        rcases h.held p.parcel with ⟨_, q⟩ | ⟨_, q, _⟩
        · omega
        · refine ⟨has_put (begin_ir _ _) _, (at_put (begin_ir _ _) 1 _).trans ?_, hspos⟩
          rw [atI_of q]
          have h1 := h.heldN p.parcel
          have h2 := sumH_nonneg (fun w => h.hasN w p.parcel) 41
          have h3 : heldZ pre p.parcel ≤ 1000000000 := by unfold heldZ; omega
          show some (Value.int .i64 (IntKind.i64.wrap _)) = _
          rw [IntWalk.i64_in _ (by omega)]
      · rw [if_neg e, has_ne (apart_kI e) (begin_ir _ _), at_ne (apart_kI e) (begin_ir _ _)]
        exact h.held c
    · rw [hasV_snoc, hhas, paidB_snoc, hpay]
      simp only [dk1, dk2, cond_true, cond_false]
      by_cases e : p.party = w ∧ p.parcel = c
      · obtain ⟨rfl, rfl⟩ := e
        right
        refine ⟨has_put (begin_ar _ _ _) _, (at_put (begin_ar _ _ _) 2 _).trans ?_, by simp⟩
        rw [if_pos ⟨rfl, rfl⟩]
        have hat : atI (hasV pre) (kA p.party p.parcel) 2 = hasW pre p.party p.parcel := by
          rcases h.has p.party p.parcel with ⟨q, q', _⟩ | ⟨_, q, _⟩
          · rw [atI_none q, q']
          · exact atI_of q
        rw [hat]
        show some (Value.int .i64 (IntKind.i64.wrap _)) = _
        rw [IntWalk.i64_in _ (by omega)]
      · rw [if_neg e, has_ne (apart_kA e) (begin_ar _ _ _), at_ne (apart_kA e) (begin_ar _ _ _), decide_eq_false e, Bool.or_false]
        exact h.has w c
    · rw [knownV_snoc, paidB_snoc, lastPay_snoc, hpay]
      simp only [dk2, cond_true]
      by_cases e : p.party = w ∧ p.parcel = c
      · obtain ⟨rfl, rfl⟩ := e
        right
        refine ⟨has_put (begin_ar _ _ _) _, (at_put (begin_ar _ _ _) 2 _).trans ?_, by simp⟩
        simp [arow]
      · rw [has_ne (apart_kA e) (begin_ar _ _ _), at_ne (apart_kA e) (begin_ar _ _ _), decide_eq_false e, Bool.or_false]
        exact h.known w c
  · -- a clawback
    obtain ⟨hs, hle⟩ := A.kind3 k3
    have hspos : 0 < soldW pre p.parcel := by have := h.soldN p.parcel; omega
    have hsb := h.soldB p.parcel
    have hn0 := h.hasN p.party p.parcel
    have hup : hasW pre p.party p.parcel ≤ soldW pre p.parcel := by
      have h1 := has_le (fun w => h.hasN w p.parcel) hf.party.1 hf.party.2
      have h2 := h.heldN p.parcel
      unfold heldZ at h2
      omega
    have hhas : ∀ w c, hasW (pre ++ [p]) w c = if p.party = w ∧ p.parcel = c then hasW pre w c + -p.amount else hasW pre w c := fun w c => by
      rw [hasW_snoc']
      unfold hasStep mine
      by_cases e : p.party = w ∧ p.parcel = c
      · obtain ⟨rfl, rfl⟩ := e
        have hk2 : ¬ p.kind = 2 := by omega
        simp only [decide_true, Bool.and_self, cond_true, k3, and_self, if_true]
        have d2 : decide ((3 : Int) = 2) = false := by decide
        simp only [d2, cond_false]
        rw [IntWalk.i64_in _ (by omega)]; omega
      · have : (decide (p.party = w) && decide (p.parcel = c)) = false := by
          rw [Bool.and_eq_false_iff]
          simp only [decide_eq_false_iff_not]
          exact Classical.or_iff_not_imp_left.2 fun q q' => e ⟨Classical.not_not.1 q, q'⟩
        simp [this, e]
    have hsold : ∀ c, soldW (pre ++ [p]) c = soldW pre c := fun c => by
      rw [soldW_snoc']
      simp [soldStep, k3]
    have hheld : ∀ c, heldZ (pre ++ [p]) c = if p.parcel = c then heldZ pre c + p.amount else heldZ pre c := fun c => by
      unfold heldZ
      rw [hsold]
      by_cases e : p.parcel = c
      · subst e
        rw [if_pos rfl, sumH_add (l := pre) (w := p.party) (d := -p.amount) (fun v hv => by rw [hhas, if_neg fun q => hv q.1.symm]) (by rw [hhas, if_pos ⟨rfl, rfl⟩]) hf.party.1 41, if_pos (by have := hf.party.2; omega)]
        omega
      · rw [if_neg e, sumH_same (l := pre) (l' := pre ++ [p]) (c := c) (fun w => by rw [hhas, if_neg fun q => e q.2]) 41]
    have hpay : ∀ w c, payB w c p = false := fun w c => by simp [payB, k3]
    have dk1 : decide (p.kind = 1) = false := decide_eq_false (by omega)
    have dk2 : decide (p.kind = 2) = false := decide_eq_false (by omega)
    refine ⟨hformed, hlen, hids, fun c => ?_, fun w c => ?_, fun c => ?_, fun c => ?_, fun c => ?_, fun w c => ?_, fun w c => ?_⟩
    · rw [hsold]; exact h.soldB c
    · rw [hhas]; have := h.hasN w c
      split
      · rename_i e; obtain ⟨rfl, rfl⟩ := e; omega
      · omega
    · rw [hheld]; have := h.heldN c
      split <;> omega
    · rw [soldV_snoc, hsold]
      simp only [dk1, cond_false]
      exact h.sold c
    · rw [heldV_snoc, hsold, hheld]
      simp only [dk1, dk2, cond_true, cond_false]
      by_cases e : p.parcel = c
      · subst e
        right
        rw [if_pos rfl]
        rcases h.held p.parcel with ⟨_, q⟩ | ⟨_, q, _⟩
        · omega
        · refine ⟨has_put (begin_ir _ _) _, (at_put (begin_ir _ _) 1 _).trans ?_, hspos⟩
          rw [atI_of q]
          have h1 := h.heldN p.parcel
          have h2 := sumH_nonneg (fun w => h.hasN w p.parcel) 41
          have h3 : heldZ pre p.parcel ≤ 1000000000 := by unfold heldZ; omega
          show some (Value.int .i64 (IntKind.i64.wrap _)) = _
          rw [IntWalk.i64_in _ (by omega)]
      · rw [if_neg e, has_ne (apart_kI e) (begin_ir _ _), at_ne (apart_kI e) (begin_ir _ _)]
        exact h.held c
    · rw [hasV_snoc, hhas, paidB_snoc, hpay, Bool.or_false]
      simp only [dk1, dk2, cond_true, cond_false]
      by_cases e : p.party = w ∧ p.parcel = c
      · obtain ⟨rfl, rfl⟩ := e
        rcases h.has p.party p.parcel with ⟨_, q, _⟩ | ⟨_, q, q2⟩
        · omega
        · right
          refine ⟨has_put (begin_ar _ _ _) _, (at_put (begin_ar _ _ _) 2 _).trans ?_, q2⟩
          rw [if_pos ⟨rfl, rfl⟩, atI_of q]
          show some (Value.int .i64 (IntKind.i64.wrap _)) = _
          rw [IntWalk.i64_in _ (by omega)]
          rfl
      · rw [if_neg e, has_ne (apart_kA e) (begin_ar _ _ _), at_ne (apart_kA e) (begin_ar _ _ _)]
        exact h.has w c
    · rw [knownV_snoc, paidB_snoc, lastPay_snoc, hpay, Bool.or_false]
      simp only [dk2, cond_false]
      exact h.known w c
theorem upto_full {l : List Ptg} (h : (checkP l).2 = 0) : uptoP l = l := by unfold uptoP; rw [if_pos h]
theorem upto_part {l : List Ptg} {i : Nat} (h : (checkP l).2 ≠ 0) (h1 : (checkP l).1 = (i : Int)) : uptoP l = l.take i := by
  unfold uptoP
  rw [if_neg h, h1, Int.toNat_natCast]
theorem chkP_step {l : List Ptg} {k : Nat} {p : Ptg} (hp : l[k]? = some p) : chkP (l.take k) (l.drop k) = if refusedP (l.take k) p = 0 then chkP (l.take (k + 1)) (l.drop (k + 1)) else (k, refusedP (l.take k) p) := by
  obtain ⟨hlt, he⟩ := List.getElem?_eq_some_iff.1 hp
  rw [List.drop_eq_getElem_cons hlt, he, chkP, List.take_add_one, hp]
  simp only [Option.toList_some, List.length_take, Nat.min_eq_left (Nat.le_of_lt hlt)]
theorem chkP00 : ∀ (l pre : List Ptg), (chkP pre l).2 = 0 → (chkP pre l).1 = 0
  | [], pre, _ => rfl
  | p :: r, pre, h => by
    simp only [chkP] at h ⊢
    split
    · rename_i e
      rw [if_pos e] at h
      exact chkP00 r _ h
    · rename_i e
      rw [if_neg e] at h
      exact absurd h e
theorem check00 (l : List Ptg) : (checkP l).2 = 0 → (checkP l).1 = 0 := chkP00 l []
theorem cond_acc (b : Bool) : (bif b then (0 : Int) == 0 else (1 : Int) == 0) = b := by cases b <;> rfl
theorem d_eq_ite2 (b : Bool) (k k' k2 : IntKind) (m n q : Int) : den2 .eq (bif b then Value.int k m else Value.int k' n) (.int k2 q) = some (.bool (bif b then m == q else n == q)) := by cases b <;> rfl
end Go.Proofs.YtpdemfamfmeemacGreat.Zs
