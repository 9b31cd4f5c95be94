/-
  Winds as plain data; what the reference of layer 2 says of them.
-/
import Derived.Test.YtpjkfjnjbekcaaaGreatDoorEvK
set_option linter.unusedSimpArgs false
set_option linter.unusedVariables false
namespace Go.Proofs.YtpjkfjnjbekcaaaGreatDoor.Zs
open Go
set_option linter.unusedSimpArgs false
set_option linter.unusedVariables false

def vI : Value → Int
  | .int _ n => n
  | _ => 0
def vB : Value → Bool
  | .bool b => b
  | _ => false
def withinB (n low high : Int) : Bool := decide (low ≤ n) && decide (n ≤ high)
def spanB (lo hi low high : Int) : Bool := decide (low ≤ lo) && decide (lo ≤ hi) && decide (hi ≤ high)
structure Wind where
  id : Int
  known : Int
  from_ : Int
  until_ : Int
  al : Int
  ah : Int
  sl : Int
  sh : Int
  of_ : Int
instance : DecidableEq Wind := fun a b =>
  decidable_of_iff (a.id = b.id ∧ a.known = b.known ∧ a.from_ = b.from_ ∧ a.until_ = b.until_ ∧ a.al = b.al ∧ a.ah = b.ah ∧ a.sl = b.sl ∧ a.sh = b.sh ∧ a.of_ = b.of_) ⟨fun h => by cases a; cases b; simp_all, fun h => by subst h; simp⟩
def Wind.row (p : Wind) : List Value :=
  [.int .i64 p.id, .int .i64 p.known, .int .i64 p.from_, .int .i64 p.until_, .int .i64 p.al, .int .i64 p.ah, .int .i64 p.sl, .int .i64 p.sh, .int .i64 p.of_]
def toWind (l : List Value) : Wind := {
  id := vI (l.getD 0 default),
  known := vI (l.getD 1 default),
  from_ := vI (l.getD 2 default),
  until_ := vI (l.getD 3 default),
  al := vI (l.getD 4 default),
  ah := vI (l.getD 5 default),
  sl := vI (l.getD 6 default),
  sh := vI (l.getD 7 default),
  of_ := vI (l.getD 8 default) }
def windSch : List CK := [.int .i64, .int .i64, .int .i64, .int .i64, .int .i64, .int .i64, .int .i64, .int .i64, .int .i64]
theorem wind_row {r : List Value} (h : RowFits windSch r) : r = (toWind r).row := by
  unfold windSch at h
  rcases h with _ | ⟨⟨a0, rfl⟩, h⟩
  rcases h with _ | ⟨⟨a1, rfl⟩, h⟩
  rcases h with _ | ⟨⟨a2, rfl⟩, h⟩
  rcases h with _ | ⟨⟨a3, rfl⟩, h⟩
  rcases h with _ | ⟨⟨a4, rfl⟩, h⟩
  rcases h with _ | ⟨⟨a5, rfl⟩, h⟩
  rcases h with _ | ⟨⟨a6, rfl⟩, h⟩
  rcases h with _ | ⟨⟨a7, rfl⟩, h⟩
  rcases h with _ | ⟨⟨a8, rfl⟩, h⟩
  cases h
  rfl
theorem toWind_row (p : Wind) : toWind p.row = p := rfl
theorem winds_of {rows : List (List Value)} (h : ∀ r ∈ rows, RowFits windSch r) : rows = (rows.map toWind).map Wind.row := by
  rw [List.map_map]
  conv => lhs; rw [← List.map_id rows]
  exact List.map_congr_left fun r hr => wind_row (h r hr)
/-- The rows of a list that a name stands for. -/
def windsV : Value → List Wind
  | .tuple l => l.toList.map fun v => match v with | .agg c => toWind c.toList | _ => toWind []
  | _ => []
def windsR (l : List Wind) : Value := rowsV (l.map Wind.row)
theorem windsV_R (l : List Wind) : windsV (windsR l) = l := by
  simp only [windsV, windsR, rowsV, List.toList_toArray, List.map_map]
  conv => rhs; rw [← List.map_id l]
  exact List.map_congr_left fun p _ => rfl

/-- Is a record well-formed by itself? -/
def windB (p : Wind) : Bool := withinB p.id 1 1000000 && (withinB p.known 0 1000000 && (withinB p.of_ 0 1000000 &&
  (if 0 < p.of_ then decide (p.from_ = 0 ∧ p.until_ = 0 ∧ p.al = 0 ∧ p.ah = 0 ∧ p.sl = 0 ∧ p.sh = 0)
   else withinB p.from_ 0 1000000 && (withinB p.until_ 0 1000000 && (decide (p.from_ ≤ p.until_) && (spanB p.al p.ah (-2) 2 && spanB p.sl p.sh (-2) 2))))))
def thereB (l : List Wind) (of_ : Int) : Bool := l.any fun q => q.id == of_ && q.of_ == 0
def againB (l : List Wind) (of_ : Int) : Bool := decide (0 < of_) && l.any fun q => q.of_ == of_
def lastKnown (l : List Wind) : Int := l.foldl (fun _ p => p.known) 0
/-- The error of a record behind others. -/
def refusedE (l : List Wind) (p : Wind) : Int :=
  if 200 ≤ l.length then 2 else if windB p = false then 1 else if l.any (fun q => q.id == p.id) then 6
  else if 0 < l.length ∧ p.known < lastKnown l then 7 else if 0 < p.of_ ∧ thereB l p.of_ = false then 5 else if againB l p.of_ = true then 6 else 0
def chkGo (pre : List Wind) : List Wind → Int × Int
  | [] => (0, 0)
  | p :: r => if refusedE pre p = 0 then chkGo (pre ++ [p]) r else (pre.length, refusedE pre p)
def checkR (l : List Wind) : Int × Int := chkGo [] l
def appendE (l : List Wind) (p : Wind) : Int := if (checkR l).2 ≠ 0 then (checkR l).2 else refusedE l p
/-- Does a record count? -/
def countsB (l : List Wind) (known : Int) (q : Wind) : Bool := q.of_ == 0 && (decide (q.known ≤ known) && !(l.any fun v => v.of_ == q.id && decide (v.known ≤ known)))
def countR (l : List Wind) (known : Int) : List Wind := l.filter (countsB l known)
def covers_ (h : Int) (q : Wind) : Bool := decide (q.from_ ≤ h) && decide (h ≤ q.until_)
def zeroW : Wind := ⟨0, 0, 0, 0, 0, 0, 0, 0, 0⟩
def atR (c : List Wind) (h : Int) : Option Wind := c.reverse.find? (covers_ h)
def shortB (l : List Wind) : Bool := decide ((l.length : Int) ≤ 1000)
def iswV (l : List Wind) : List (List Value) := l.foldl (fun m p => putRow [.int .i64 p.id] [.int .i64 p.id, .bool (p.of_ == 0)] m) []
def wdrV (l : List Wind) : List (List Value) := l.foldl (fun m p => putRow [.int .i64 p.of_] [.int .i64 p.of_, .bool true] m) []
def uptoW (l : List Wind) : List Wind := if (checkR l).2 = 0 then l else l.take (checkR l).1.toNat
/-- Withdrawn, by an hour of knowledge. -/
def voidV (l : List Wind) (known : Int) : List (List Value) := l.foldl (fun m p => if p.of_ ≠ 0 ∧ p.known ≤ known then putRow [.int .i64 p.of_] [.int .i64 p.of_, .bool true] m else m) []

/-- What is withdrawn, by an hour of knowledge. -/
def goneW (l : List Wind) (known n : Int) : Bool := l.any fun v => v.of_ == n && decide (v.known ≤ known)
/-- What the signs in terms stand for. -/
def sy : Nat → List Value → Option Value
  | 3, l => some (.bool (windB (toWind l)))
  | 4, v :: l => some (.int .i64 (refusedE (windsV v) (toWind l)))
  | 5, [v] => some (.int .i64 (checkR (windsV v)).1)
  | 6, [v] => some (.int .i64 (checkR (windsV v)).2)
  | 7, [a, b] => some (.bool (windsV a == windsV b))
  | 9, [.int _ a, .int _ b, .int _ c, .int _ d] => some (.bool (spanB a b c d))
  | 10, [.int _ a, .int _ b, .int _ c] => some (.bool (withinB a b c))
  | 11, v :: l => some (.int .i64 (appendE (windsV v) (toWind l)))
  | 14, l => some (.int .i64 (if windB (toWind l) then 0 else 1))
  | 15, [a, .int _ n] => some (.bool ((windsV a).any fun q => q.id == n))
  | 16, [a, .int _ n] => some (.bool (thereB (windsV a) n))
  | 17, [a, .int _ n] => some (.bool (againB (windsV a) n))
  | 20, [a] => some (.bool (shortB (windsV a)))
  | 21, [v, .int _ k] => some (windsR (countR (windsV v) k))
  | 22, [v, .int _ h] => some (.bool (atR (windsV v) h).isSome)
  | 23, [v, .int _ h, .int _ j] => (((atR (windsV v) h).getD zeroW).row)[j.toNat]?
  | 24, [v, .int _ k] => some (rowsV (voidV (windsV v) k))
  | 25, [v] => some (rowsV (iswV (uptoW (windsV v))))
  | 26, [v] => some (rowsV (wdrV (uptoW (windsV v))))
  | 28, [v] => some (.int .i64 (lastKnown (uptoW (windsV v))))
  | 34, [v, .int _ k, .int _ i] => some (.bool (countsB (windsV v) k (((windsV v)[i.toNat]?).getD zeroW)))
  | _, _ => none
end Go.Proofs.YtpjkfjnjbekcaaaGreatDoor.Zs

/-
  Winds as names stand for them.
-/
namespace Go.Proofs.YtpjkfjnjbekcaaaGreatDoor.Zs
open Go
set_option linter.unusedSimpArgs false
set_option linter.unusedVariables false

theorem d_wrap (k k' : IntKind) (n : Int) : den1 (.wrap k) (.int k' n) = some (.int k (k.wrap n)) := rfl
theorem d_kind (k k' : IntKind) (n : Int) : den1 (.kind k) (.int k' n) = some (.int k n) := rfl
theorem d_not (b : Bool) : den1 .not (.bool b) = some (.bool (!b)) := rfl
theorem d_neg (k' : IntKind) (n : Int) : den1 .neg (.int k' n) = some (.int .i64 (-n)) := rfl
theorem d_slen (s : ByteArray) : den1 .slen (.string s) = some (.int .i64 s.size) := rfl
theorem d_add (k k' : IntKind) (m n : Int) : den2 .add (.int k m) (.int k' n) = some (.int .i64 (m + n)) := rfl
theorem d_sub (k k' : IntKind) (m n : Int) : den2 .sub (.int k m) (.int k' n) = some (.int .i64 (m - n)) := rfl
theorem d_mul (k k' : IntKind) (m n : Int) : den2 .mul (.int k m) (.int k' n) = some (.int .i64 (m * n)) := rfl
theorem d_div (k k' : IntKind) (m n : Int) : den2 .div (.int k m) (.int k' n) = some (.int .i64 (m.tdiv n)) := rfl
theorem d_mod (k k' : IntKind) (m n : Int) : den2 .mod (.int k m) (.int k' n) = some (.int .i64 (m.tmod n)) := rfl
theorem d_lt (k k' : IntKind) (m n : Int) : den2 .lt (.int k m) (.int k' n) = some (.bool (decide (m < n))) := rfl
theorem d_le (k k' : IntKind) (m n : Int) : den2 .le (.int k m) (.int k' n) = some (.bool (decide (m ≤ n))) := rfl
theorem d_eq (k k' : IntKind) (m n : Int) : den2 .eq (.int k m) (.int k' n) = some (.bool (m == n)) := rfl
theorem d_eqb (a b : Bool) : den2 .eqb (.bool a) (.bool b) = some (.bool (a == b)) := rfl
theorem d_eqs (a b : ByteArray) : den2 .eqs (.string a) (.string b) = some (.bool (a == b)) := rfl
theorem d_lts (a b : ByteArray) : den2 .lts (.string a) (.string b) = some (.bool (Op.bytesLess a.toList b.toList)) := rfl
theorem d_cat (a b : ByteArray) : den2 .cat (.string a) (.string b) = some (.string (a ++ b)) := rfl
theorem d_sat (a : ByteArray) (k : IntKind) (n : Int) : den2 .sat (.string a) (.int k n) = some (.int .u8 ((a[n.toNat]?.map UInt8.toNat).getD 0)) := rfl
theorem d_and (a b : Bool) : den2 .and (.bool a) (.bool b) = some (.bool (a && b)) := rfl
theorem d_or (a b : Bool) : den2 .or (.bool a) (.bool b) = some (.bool (a || b)) := rfl
theorem d_len (l : Array Value) : den1 .len (.tuple l) = some (.int .i64 l.size) := rfl

theorem snoc_nil (r : List Value) : denSnoc (.tuple #[]) r = some (rowsV [r]) := by simp [denSnoc, rowsV]
theorem d_mhas (a : List (List Value)) (k : List Value) : den2 .mhas (rowsV a) (rowsV [k]) = some (.bool (mapHas a k)) := by
  simp only [rowsV, den2, rowsOf_V, keyRow_V]
theorem d_mat (j : Nat) (a : List (List Value)) (k : List Value) : den2 (.mat j) (rowsV a) (rowsV [k]) = mapAt a k j := by
  simp only [rowsV, den2, rowsOf_V, keyRow_V]
theorem d_mput (n : Nat) (a : List (List Value)) (k : List Value) : den2 (.mput n) (rowsV a) (rowsV [k]) = some (rowsV (putRow (k.take n) k a)) := by
  simp only [rowsV, den2, rowsOf_V, keyRow_V]
theorem putRow_new {k row : List Value} : ∀ {rows : List (List Value)}, mapHas rows k = false → putRow k row rows = rows ++ [row]
  | [], _ => rfl
  | r :: l, h => by
    simp only [mapHas, List.any_cons, Bool.or_eq_false_iff] at h
    simp only [putRow, h.1, putRow_new (rows := l) h.2, List.cons_append]

theorem mapAt_none {k : List Value} {j : Nat} {rows : List (List Value)} (h : mapHas rows k = false) : mapAt rows k j = none := by
  unfold mapAt mapRow
  cases hf : rows.find? (begins k) with
  | none => rfl
  | some r =>
    have h1 := List.find?_some hf
    have h2 := List.mem_of_find?_eq_some hf
    have : mapHas rows k = true := List.any_eq_true.2 ⟨r, h2, h1⟩
    rw [h] at this; cases this
theorem winds_len (l : List Wind) : den1 .len (windsR l) = some (.int .i64 l.length) := by simp [den1, windsR, rowsV]
theorem winds_cell (j : Nat) (l : List Wind) (k : IntKind) (n : Int) : denCell j (windsR l) (.int k n) = (l[n.toNat]?).bind fun p => p.row[j]? := by
  simp only [denCell, windsR, rowsV, List.getElem?_toArray, List.getElem?_map]
  cases l[n.toNat]? <;> simp
theorem winds_lsub (l : List Wind) (k k' : IntKind) (a b : Int) : denLsub (windsR l) (.int k a) (.int k' b) = some (windsR ((l.take b.toNat).drop a.toNat)) := by
  simp only [windsR, rowsV, denLsub]
  congr 2
  apply Array.ext'
  simp [List.map_take, List.map_drop, List.extract_eq_take_drop, List.drop_take]
theorem winds_snoc (l : List Wind) (x : Wind) : denSnoc (windsR l) [.int .i64 x.id, .int .i64 x.known, .int .i64 x.from_, .int .i64 x.until_, .int .i64 x.al, .int .i64 x.ah, .int .i64 x.sl, .int .i64 x.sh, .int .i64 x.of_] = some (windsR (l ++ [x])) := by
  simp [denSnoc, windsR, rowsV, Wind.row]
theorem winds_snoc0 (x : Wind) : denSnoc (.tuple #[]) [.int .i64 x.id, .int .i64 x.known, .int .i64 x.from_, .int .i64 x.until_, .int .i64 x.al, .int .i64 x.ah, .int .i64 x.sl, .int .i64 x.sh, .int .i64 x.of_] = some (windsR [x]) := winds_snoc [] x
theorem wind0 (p : Wind) : p.row[0]? = some (.int .i64 p.id) := rfl
theorem wind1 (p : Wind) : p.row[1]? = some (.int .i64 p.known) := rfl
theorem wind2 (p : Wind) : p.row[2]? = some (.int .i64 p.from_) := rfl
theorem wind3 (p : Wind) : p.row[3]? = some (.int .i64 p.until_) := rfl
theorem wind4 (p : Wind) : p.row[4]? = some (.int .i64 p.al) := rfl
theorem wind5 (p : Wind) : p.row[5]? = some (.int .i64 p.ah) := rfl
theorem wind6 (p : Wind) : p.row[6]? = some (.int .i64 p.sl) := rfl
theorem wind7 (p : Wind) : p.row[7]? = some (.int .i64 p.sh) := rfl
theorem wind8 (p : Wind) : p.row[8]? = some (.int .i64 p.of_) := rfl
def windLeaves (v : Nat) : List Leaf := [.int .i64 (v + 0), .int .i64 (v + 1), .int .i64 (v + 2), .int .i64 (v + 3), .int .i64 (v + 4), .int .i64 (v + 5), .int .i64 (v + 6), .int .i64 (v + 7), .int .i64 (v + 8)]
/-- The values of the names of a record. -/
structure WindAt (ρ : Rho) (v : Nat) (k : Nat → IntKind) (p : Wind) : Prop where
  h0 : ρ.val (v + 0) = some (.int (k 0) p.id)
  h1 : ρ.val (v + 1) = some (.int (k 1) p.known)
  h2 : ρ.val (v + 2) = some (.int (k 2) p.from_)
  h3 : ρ.val (v + 3) = some (.int (k 3) p.until_)
  h4 : ρ.val (v + 4) = some (.int (k 4) p.al)
  h5 : ρ.val (v + 5) = some (.int (k 5) p.ah)
  h6 : ρ.val (v + 6) = some (.int (k 6) p.sl)
  h7 : ρ.val (v + 7) = some (.int (k 7) p.sh)
  h8 : ρ.val (v + 8) = some (.int (k 8) p.of_)
theorem wind_agg {σ : Sig} {v : Nat} {u : Value} (h : (Arg.agg (windLeaves v)).av.inst σ = some u) : ∃ (p : Wind) (k : Nat → IntKind), u = .agg p.row.toArray ∧ WindAt σ.rho v k p := by
  obtain ⟨vs, rfl, gs⟩ := AV.inst_agg h
  obtain ⟨x0, vs, rfl, g0, gs⟩ := ins_cons gs
  obtain ⟨x1, vs, rfl, g1, gs⟩ := ins_cons gs
  obtain ⟨x2, vs, rfl, g2, gs⟩ := ins_cons gs
  obtain ⟨x3, vs, rfl, g3, gs⟩ := ins_cons gs
  obtain ⟨x4, vs, rfl, g4, gs⟩ := ins_cons gs
  obtain ⟨x5, vs, rfl, g5, gs⟩ := ins_cons gs
  obtain ⟨x6, vs, rfl, g6, gs⟩ := ins_cons gs
  obtain ⟨x7, vs, rfl, g7, gs⟩ := ins_cons gs
  obtain ⟨x8, vs, rfl, g8, gs⟩ := ins_cons gs
  cases gs
  obtain ⟨a0, k0, rfl, h0⟩ := one_int g0
  obtain ⟨a1, k1, rfl, h1⟩ := one_int g1
  obtain ⟨a2, k2, rfl, h2⟩ := one_int g2
  obtain ⟨a3, k3, rfl, h3⟩ := one_int g3
  obtain ⟨a4, k4, rfl, h4⟩ := one_int g4
  obtain ⟨a5, k5, rfl, h5⟩ := one_int g5
  obtain ⟨a6, k6, rfl, h6⟩ := one_int g6
  obtain ⟨a7, k7, rfl, h7⟩ := one_int g7
  obtain ⟨a8, k8, rfl, h8⟩ := one_int g8
  exact ⟨⟨a0, a1, a2, a3, a4, a5, a6, a7, a8⟩, fun i => [k0, k1, k2, k3, k4, k5, k6, k7, k8].getD i .i64, rfl, h0, h1, h2, h3, h4, h5, h6, h7, h8⟩
/-- A list, as a parameter. -/
def windsArg (i b : Nat) : Arg := .list i 9 windSch 26 b (b + 1) (b + 2)
theorem winds_at {P : Program} {l : List (Nat × ABlock)} {N i : Nat} {b x : X} {own : Bool} {t : TypeId} {σ : Sig} {w : World} {Wr : Nat → Prop} (hrel : (memOf l N).rel P σ w Wr) (hg : (buildH l).get i = some (.rows 9 windSch b x own t)) :
    ∃ ps : List Wind, x.den σ.rho = some (windsR ps) := by
  obtain ⟨rows, h1, h2⟩ := rows_at hrel hg
  exact ⟨rows.map toWind, by rw [h1, windsR, ← winds_of h2]⟩
theorem winds_cap {σ : Sig} {i b : Nat} {u : Value} {l : List Wind} (h : (windsArg i b).av.inst σ = some u) (h1 : σ.rho.val (b + 1) = some (windsR l)) : ∃ kc cap, σ.rho.val (b + 2) = some (.int kc cap) ∧ (l.length : Int) ≤ cap := by
  obtain ⟨_, _, _, _, kn, kc, _, _, _, e4, e5, e6, _⟩ := inst_slx h
  obtain ⟨q, hq⟩ := X.nat_iff.1 e5
  obtain ⟨q', hq'⟩ := X.nat_iff.1 e4
  simp only [X.den, h1, winds_len, Option.some.injEq, Value.int.injEq] at hq'
  exact ⟨q, kc, hq, by omega⟩
theorem wind_eq {p q : Wind} (h0 : p.id = q.id) (h1 : p.known = q.known) (h2 : p.from_ = q.from_) (h3 : p.until_ = q.until_) (h4 : p.al = q.al) (h5 : p.ah = q.ah) (h6 : p.sl = q.sl) (h7 : p.sh = q.sh) (h8 : p.of_ = q.of_) : p = q := by
  cases p; cases q; simp_all

end Go.Proofs.YtpjkfjnjbekcaaaGreatDoor.Zs

/-
  What the signs say of winds; what a check remembers of the records ahead.
-/
namespace Go.Proofs.YtpjkfjnjbekcaaaGreatDoor.Zs
open Go
set_option linter.unusedSimpArgs false
set_option linter.unusedVariables false

theorem sym3 (x : Wind) (k0 k1 k2 k3 k4 k5 k6 k7 k8 : IntKind) : sy 3 [.int k0 x.id, .int k1 x.known, .int k2 x.from_, .int k3 x.until_, .int k4 x.al, .int k5 x.ah, .int k6 x.sl, .int k7 x.sh, .int k8 x.of_] = some (.bool (windB x)) := rfl
theorem sym14 (x : Wind) (k0 k1 k2 k3 k4 k5 k6 k7 k8 : IntKind) : sy 14 [.int k0 x.id, .int k1 x.known, .int k2 x.from_, .int k3 x.until_, .int k4 x.al, .int k5 x.ah, .int k6 x.sl, .int k7 x.sh, .int k8 x.of_] = some (.int .i64 (if windB x then 0 else 1)) := rfl
theorem sym4 (l : List Wind) (x : Wind) (k0 k1 k2 k3 k4 k5 k6 k7 k8 : IntKind) : sy 4 [windsR l, .int k0 x.id, .int k1 x.known, .int k2 x.from_, .int k3 x.until_, .int k4 x.al, .int k5 x.ah, .int k6 x.sl, .int k7 x.sh, .int k8 x.of_] = some (.int .i64 (refusedE l x)) := by
  show some (Value.int .i64 (refusedE (windsV (windsR l)) x)) = _
  rw [windsV_R]
theorem sym11 (l : List Wind) (x : Wind) (k0 k1 k2 k3 k4 k5 k6 k7 k8 : IntKind) : sy 11 [windsR l, .int k0 x.id, .int k1 x.known, .int k2 x.from_, .int k3 x.until_, .int k4 x.al, .int k5 x.ah, .int k6 x.sl, .int k7 x.sh, .int k8 x.of_] = some (.int .i64 (appendE l x)) := by
  show some (Value.int .i64 (appendE (windsV (windsR l)) x)) = _
  rw [windsV_R]
theorem sym9 (k0 k1 k2 k3 : IntKind) (a b c d : Int) : sy 9 [.int k0 a, .int k1 b, .int k2 c, .int k3 d] = some (.bool (spanB a b c d)) := rfl
theorem sym10 (k0 k1 k2 : IntKind) (a b c : Int) : sy 10 [.int k0 a, .int k1 b, .int k2 c] = some (.bool (withinB a b c)) := rfl
theorem sym5 (l : List Wind) : sy 5 [windsR l] = some (.int .i64 (checkR l).1) := by show some (Value.int .i64 (checkR (windsV (windsR l))).1) = _; rw [windsV_R]
theorem sym6 (l : List Wind) : sy 6 [windsR l] = some (.int .i64 (checkR l).2) := by show some (Value.int .i64 (checkR (windsV (windsR l))).2) = _; rw [windsV_R]
theorem sym7 (a b : List Wind) : sy 7 [windsR a, windsR b] = some (.bool (a == b)) := by show some (Value.bool (windsV (windsR a) == windsV (windsR b))) = _; rw [windsV_R, windsV_R]
theorem sym15 (l : List Wind) (k : IntKind) (n : Int) : sy 15 [windsR l, .int k n] = some (.bool (l.any fun q => q.id == n)) := by show some (Value.bool ((windsV (windsR l)).any _)) = _; rw [windsV_R]
theorem sym16 (l : List Wind) (k : IntKind) (n : Int) : sy 16 [windsR l, .int k n] = some (.bool (thereB l n)) := by show some (Value.bool (thereB (windsV (windsR l)) n)) = _; rw [windsV_R]
theorem sym17 (l : List Wind) (k : IntKind) (n : Int) : sy 17 [windsR l, .int k n] = some (.bool (againB l n)) := by show some (Value.bool (againB (windsV (windsR l)) n)) = _; rw [windsV_R]
theorem sym20 (l : List Wind) : sy 20 [windsR l] = some (.bool (shortB l)) := by show some (Value.bool (shortB (windsV (windsR l)))) = _; rw [windsV_R]
theorem sym21 (l : List Wind) (k : IntKind) (n : Int) : sy 21 [windsR l, .int k n] = some (windsR (countR l n)) := by show some (windsR (countR (windsV (windsR l)) n)) = _; rw [windsV_R]
theorem sym22 (l : List Wind) (k : IntKind) (n : Int) : sy 22 [windsR l, .int k n] = some (.bool (atR l n).isSome) := by show some (Value.bool (atR (windsV (windsR l)) n).isSome) = _; rw [windsV_R]
theorem sym23 (l : List Wind) (k k' : IntKind) (n j : Int) : sy 23 [windsR l, .int k n, .int k' j] = (((atR l n).getD zeroW).row)[j.toNat]? := by show (((atR (windsV (windsR l)) n).getD zeroW).row)[j.toNat]? = _; rw [windsV_R]
theorem sym24 (l : List Wind) (k : IntKind) (n : Int) : sy 24 [windsR l, .int k n] = some (rowsV (voidV l n)) := by show some (rowsV (voidV (windsV (windsR l)) n)) = _; rw [windsV_R]
theorem sym25 (l : List Wind) : sy 25 [windsR l] = some (rowsV (iswV (uptoW l))) := by show some (rowsV (iswV (uptoW (windsV (windsR l))))) = _; rw [windsV_R]
theorem sym26 (l : List Wind) : sy 26 [windsR l] = some (rowsV (wdrV (uptoW l))) := by show some (rowsV (wdrV (uptoW (windsV (windsR l))))) = _; rw [windsV_R]
theorem sym34 (l : List Wind) (k k' : IntKind) (n i : Int) : sy 34 [windsR l, .int k n, .int k' i] = some (.bool (countsB l n ((l[i.toNat]?).getD zeroW))) := by show some (Value.bool (countsB (windsV (windsR l)) n (((windsV (windsR l))[i.toNat]?).getD zeroW))) = _; rw [windsV_R]
theorem sym28 (l : List Wind) : sy 28 [windsR l] = some (.int .i64 (lastKnown (uptoW l))) := by show some (Value.int .i64 (lastKnown (uptoW (windsV (windsR l))))) = _; rw [windsV_R]

theorem windB_iff (p : Wind) : windB p = true ↔ (1 ≤ p.id ∧ p.id ≤ 1000000) ∧ (0 ≤ p.known ∧ p.known ≤ 1000000) ∧ (0 ≤ p.of_ ∧ p.of_ ≤ 1000000) ∧
    ((0 < p.of_ ∧ p.from_ = 0 ∧ p.until_ = 0 ∧ p.al = 0 ∧ p.ah = 0 ∧ p.sl = 0 ∧ p.sh = 0) ∨
     (p.of_ ≤ 0 ∧ (0 ≤ p.from_ ∧ p.from_ ≤ 1000000) ∧ (0 ≤ p.until_ ∧ p.until_ ≤ 1000000) ∧ p.from_ ≤ p.until_ ∧ (-2 ≤ p.al ∧ p.al ≤ p.ah ∧ p.ah ≤ 2) ∧ (-2 ≤ p.sl ∧ p.sl ≤ p.sh ∧ p.sh ≤ 2))) := by
  unfold windB
  by_cases h : 0 < p.of_
  · simp [withinB, spanB, h]; omega
  · simp [withinB, spanB, h]; omega
theorem lastKnown_snoc (l : List Wind) (p : Wind) : lastKnown (l ++ [p]) = p.known := by simp [lastKnown]
theorem lastKnown_at {l : List Wind} {q : Wind} (h0 : 0 < l.length) (hq : l[((l.length : Int) - 1).toNat]? = some q) : lastKnown l = q.known := by
  rcases List.eq_nil_or_concat l with e | ⟨l', q', e⟩
  · rw [e] at h0; simp at h0
  · rw [List.concat_eq_append] at e
    subst e
    rw [show (((l' ++ [q'] : List Wind).length : Int) - 1).toNat = l'.length by simp] at hq
    simp at hq
    subst hq
    simp [lastKnown]
theorem thereB_take {l : List Wind} {i : Nat} {p : Wind} (hp : l[i]? = some p) (n : Int) : thereB (l.take (i + 1)) n = (thereB (l.take i) n || (p.id == n && p.of_ == 0)) := by
  rw [List.take_add_one, hp]
  simp [thereB]
theorem againB_take {l : List Wind} {i : Nat} {p : Wind} (hp : l[i]? = some p) (n : Int) : againB (l.take (i + 1)) n = (againB (l.take i) n || (decide (0 < n) && p.of_ == n)) := by
  rw [List.take_add_one, hp]
  simp only [againB, List.any_append, Option.toList_some, List.any_cons, List.any_nil, Bool.or_false]
  cases decide (0 < n) <;> simp
theorem refused_len (l : List Wind) (x : Wind) (h : refusedE l x = 0) : l.length < 200 := by
  unfold refusedE at h
  split at h
  · cases h
  · omega
theorem chkGo_step {l : List Wind} {k : Nat} {p : Wind} (hp : l[k]? = some p) : chkGo (l.take k) (l.drop k) = if refusedE (l.take k) p = 0 then chkGo (l.take (k + 1)) (l.drop (k + 1)) else (k, refusedE (l.take k) p) := by
  obtain ⟨hlt, he⟩ := List.getElem?_eq_some_iff.1 hp
  rw [List.drop_eq_getElem_cons hlt, he, chkGo, List.take_add_one, hp]
  simp only [Option.toList_some, List.length_take, Nat.min_eq_left (Nat.le_of_lt hlt)]
theorem chkGo00 : ∀ (l pre : List Wind), (chkGo pre l).2 = 0 → (chkGo pre l).1 = 0
  | [], pre, _ => rfl
  | p :: r, pre, h => by
    simp only [chkGo] at h ⊢
    split
    · rename_i e
      rw [if_pos e] at h
      exact chkGo00 r _ h
    · rename_i e
      rw [if_neg e] at h
      exact absurd h e
theorem check00 (l : List Wind) : (checkR l).2 = 0 → (checkR l).1 = 0 := chkGo00 l []
theorem chkGo_snoc (x : Wind) : ∀ (l pre : List Wind), (chkGo pre (l ++ [x])).2 = if (chkGo pre l).2 ≠ 0 then (chkGo pre l).2 else refusedE (pre ++ l) x
  | [], pre => by
    simp only [List.nil_append, chkGo, List.append_nil, ne_eq, not_true_eq_false, if_false]
    split
    · rename_i h; exact h.symm
    · rfl
  | p :: r, pre => by
    simp only [List.cons_append, chkGo]
    split
    · rw [chkGo_snoc x r (pre ++ [p])]; simp
    · rename_i h; simp [h]
theorem check_snoc (l : List Wind) (x : Wind) : (checkR (l ++ [x])).2 = appendE l x := by
  have := chkGo_snoc x l []
  rw [List.nil_append] at this
  exact this
theorem chkGo_len : ∀ (l pre : List Wind), (chkGo pre l).2 = 0 → l = [] ∨ pre.length + l.length ≤ 200
  | [], pre, _ => .inl rfl
  | p :: r, pre, h => by
    simp only [chkGo] at h
    split at h
    · rename_i he
      have h3 := refused_len pre p he
      rcases chkGo_len r (pre ++ [p]) h with rfl | h4
      · right; simp only [List.length_cons, List.length_nil]; omega
      · right; simp only [List.length_append, List.length_cons, List.length_nil] at h4 ⊢; omega
    · rename_i he
      exact absurd h he
theorem check_len {l : List Wind} (h : (checkR l).2 = 0) : l.length ≤ 200 := by
  rcases chkGo_len l [] h with rfl | h4
  · simp
  · simpa using h4
theorem short_len {l : List Wind} (h : shortB l = true) : (l.length : Int) ≤ 1000 := by simpa [shortB] using h
theorem len_short {l : List Wind} (h : (l.length : Int) ≤ 1000) : shortB l = true := by simpa [shortB] using h
theorem short_take {l : List Wind} (h : shortB l = true) (i : Nat) : shortB (l.take i) = true := by
  have := short_len h
  exact len_short (by simp only [List.length_take]; omega)
theorem upto_full {l : List Wind} (h : (checkR l).2 = 0) : uptoW l = l := if_pos h
theorem upto_part {l : List Wind} {i : Nat} (h : (checkR l).2 ≠ 0) (hi : (checkR l).1 = i) : uptoW l = l.take i := by rw [uptoW, if_neg h, hi]; rfl
/-- What a map of rows with int keys has behind a put. -/
theorem begins_int (n m : Int) (r : List Value) : begins [.int .i64 n] (.int .i64 m :: r) = (n == m) := by
  simp only [begins, sameV, decide_true, Bool.true_and, Bool.and_true]
theorem put_has {rows : List (List Value)} {n m : Int} {r : List Value} (hk : ∀ q ∈ rows, ∃ a l, q = .int .i64 a :: l) :
    mapHas (putRow [.int .i64 m] (.int .i64 m :: r) rows) [.int .i64 n] = (mapHas rows [.int .i64 n] || n == m) := by
  induction rows with
  | nil => simp [putRow, mapHas, begins_int]
  | cons q l ih =>
    obtain ⟨a, t, rfl⟩ := hk q (by simp)
    have ih := ih fun q hq => hk q (by simp [hq])
    simp only [putRow, begins_int]
    cases h : m == a with
    | true =>
      have h : m = a := by simpa using h
      subst h
      simp only [mapHas, List.any_cons, begins_int]
      cases n == m <;> simp
    | false =>
      simp only [mapHas, List.any_cons, begins_int] at ih ⊢
      rw [ih]; simp [Bool.or_assoc]
theorem put_at {rows : List (List Value)} {n m : Int} {v : Value} (hk : ∀ q ∈ rows, ∃ a l, q = .int .i64 a :: l) :
    mapAt (putRow [.int .i64 m] [.int .i64 m, v] rows) [.int .i64 n] 1 = if n = m then some v else mapAt rows [.int .i64 n] 1 := by
  induction rows with
  | nil =>
    by_cases h : n = m
    · subst h; simp [putRow, mapAt, mapRow, begins_int]
    · simp [putRow, mapAt, mapRow, begins_int, h]
  | cons q l ih =>
    obtain ⟨a, t, rfl⟩ := hk q (by simp)
    have ih := ih fun q hq => hk q (by simp [hq])
    simp only [putRow, begins_int]
    cases h : m == a with
    | true =>
      have h : m = a := by simpa using h
      subst h
      simp only [mapAt, mapRow, List.find?_cons, begins_int]
      by_cases h2 : n = m
      · subst h2; simp
      · have h3 : (n == m) = false := by simpa using h2
        simp only [h3, h2, if_false]
    | false =>
      simp only [mapAt, mapRow, List.find?_cons, begins_int] at ih ⊢
      by_cases h2 : n = a
      · subst h2
        have : ¬ n = m := fun e => by subst e; simp at h
        simp [this]
      · have : (n == a) = false := by simpa using h2
        simp only [this]
        exact ih
theorem put_keys {rows : List (List Value)} {m : Int} {r : List Value} (hk : ∀ q ∈ rows, ∃ a l, q = .int .i64 a :: l) : ∀ q ∈ putRow [.int .i64 m] (.int .i64 m :: r) rows, ∃ a l, q = .int .i64 a :: l := by
  induction rows with
  | nil => intro q hq; simp [putRow] at hq; exact ⟨m, r, hq⟩
  | cons p l ih =>
    have ih := ih fun q hq => hk q (by simp [hq])
    intro q hq
    simp only [putRow] at hq
    split at hq
    · rcases List.mem_cons.1 hq with rfl | hq
      · exact ⟨m, r, rfl⟩
      · exact hk q (by simp [hq])
    · rcases List.mem_cons.1 hq with rfl | hq
      · exact hk q (by simp)
      · exact ih q hq
theorem iswV_snoc (l : List Wind) (p : Wind) : iswV (l ++ [p]) = putRow [.int .i64 p.id] [.int .i64 p.id, .bool (p.of_ == 0)] (iswV l) := by simp [iswV]
theorem wdrV_snoc (l : List Wind) (p : Wind) : wdrV (l ++ [p]) = putRow [.int .i64 p.of_] [.int .i64 p.of_, .bool true] (wdrV l) := by simp [wdrV]
theorem voidV_snoc (l : List Wind) (n : Int) (p : Wind) : voidV (l ++ [p]) n = if p.of_ ≠ 0 ∧ p.known ≤ n then putRow [.int .i64 p.of_] [.int .i64 p.of_, .bool true] (voidV l n) else voidV l n := by simp [voidV]
theorem snoc_ind {P : List Wind → Prop} (h0 : P []) (h1 : ∀ l p, P l → P (l ++ [p])) (l : List Wind) : P l := by
  have : ∀ n (l : List Wind), l.length = n → P l := by
    intro n
    induction n with
    | zero => intro l h; rw [List.eq_nil_of_length_eq_zero h]; exact h0
    | succ n ih =>
      intro l h
      rcases List.eq_nil_or_concat l with rfl | ⟨l', q, rfl⟩
      · exact h0
      · rw [List.concat_eq_append] at h ⊢
        exact h1 _ _ (ih l' (by simpa using h))
  exact this _ l rfl
theorem isw_keys (l : List Wind) : ∀ q ∈ iswV l, ∃ a t, q = .int .i64 a :: t :=
  snoc_ind (P := fun l => ∀ q ∈ iswV l, ∃ a t, q = .int .i64 a :: t) (fun q h => by cases h) (fun l p ih => by rw [iswV_snoc]; exact put_keys ih) l
theorem wdr_keys (l : List Wind) : ∀ q ∈ wdrV l, ∃ a t, q = .int .i64 a :: t :=
  snoc_ind (P := fun l => ∀ q ∈ wdrV l, ∃ a t, q = .int .i64 a :: t) (fun q h => by cases h) (fun l p ih => by rw [wdrV_snoc]; exact put_keys ih) l
theorem void_keys (l : List Wind) (n : Int) : ∀ q ∈ voidV l n, ∃ a t, q = .int .i64 a :: t :=
  snoc_ind (P := fun l => ∀ q ∈ voidV l n, ∃ a t, q = .int .i64 a :: t) (fun q h => by cases h) (fun l p ih => by
    rw [voidV_snoc]
    split
    · exact put_keys ih
    · exact ih) l
theorem isw_has (l : List Wind) (n : Int) : mapHas (iswV l) [.int .i64 n] = l.any fun q => q.id == n :=
  snoc_ind (P := fun l => mapHas (iswV l) [.int .i64 n] = l.any fun q => q.id == n) rfl (fun l p ih => by
    rw [iswV_snoc, put_has (isw_keys l), ih]
    simp only [List.any_append, List.any_cons, List.any_nil, Bool.or_false]
    congr 1
    rw [Bool.eq_iff_iff]; simp; exact eq_comm) l
theorem wdr_has (l : List Wind) (n : Int) : mapHas (wdrV l) [.int .i64 n] = l.any fun q => q.of_ == n :=
  snoc_ind (P := fun l => mapHas (wdrV l) [.int .i64 n] = l.any fun q => q.of_ == n) rfl (fun l p ih => by
    rw [wdrV_snoc, put_has (wdr_keys l), ih]
    simp only [List.any_append, List.any_cons, List.any_nil, Bool.or_false]
    congr 1
    rw [Bool.eq_iff_iff]; simp; exact eq_comm) l
theorem wdr_at (l : List Wind) (n : Int) (h : (l.any fun q => q.of_ == n) = true) : mapAt (wdrV l) [.int .i64 n] 1 = some (.bool true) := by
  revert h
  refine snoc_ind (P := fun l => (l.any fun q => q.of_ == n) = true → mapAt (wdrV l) [.int .i64 n] 1 = some (.bool true)) (fun h => by cases h) (fun l p ih h => ?_) l
  rw [wdrV_snoc, put_at (wdr_keys l)]
  split
  · rfl
  · rename_i hn
    refine ih ?_
    simp only [List.any_append, List.any_cons, List.any_nil, Bool.or_false, Bool.or_eq_true] at h
    rcases h with h | h
    · exact h
    · exact absurd (by simpa using h) (fun e : p.of_ = n => hn e.symm)
/-- Records with Ids of their own. -/
def UniqW (l : List Wind) : Prop := ∀ q ∈ l, ∀ q' ∈ l, q.id = q'.id → q = q'
theorem isw_at (l : List Wind) (n : Int) : UniqW l → ((l.any fun q => q.id == n) = true → mapAt (iswV l) [.int .i64 n] 1 = some (.bool (thereB l n))) := by
  refine snoc_ind (P := fun l => UniqW l → ((l.any fun q => q.id == n) = true → mapAt (iswV l) [.int .i64 n] 1 = some (.bool (thereB l n)))) (fun _ h => by cases h) (fun l p ih hu h => ?_) l
  have hul : UniqW l := fun q hq q' hq' => hu q (by simp [hq]) q' (by simp [hq'])
  rw [iswV_snoc, put_at (isw_keys l)]
  split
  · rename_i hn
    subst hn
    congr 2
    have : thereB (l ++ [p]) p.id = (p.of_ == 0) := by
      simp only [thereB, List.any_append, List.any_cons, List.any_nil, Bool.or_false, beq_self_eq_true, Bool.true_and]
      cases hp : p.of_ == 0 with
      | true => simp
      | false =>
        simp only [Bool.or_false, List.any_eq_false, Bool.and_eq_true, not_and]
        intro q hq he
        have := hu q (by simp [hq]) p (by simp) (by simpa using he)
        rw [this, hp]; simp
    exact this.symm
  · rename_i hn
    have hl : (l.any fun q => q.id == n) = true := by
      simp only [List.any_append, List.any_cons, List.any_nil, Bool.or_false, Bool.or_eq_true] at h
      rcases h with h | h
      · exact h
      · exact absurd (by simpa using h) (fun e : p.id = n => hn e.symm)
    rw [ih hul hl]
    congr 2
    simp only [thereB, List.any_append, List.any_cons, List.any_nil, Bool.or_false]
    have : (p.id == n) = false := by
      cases h2 : p.id == n with
      | false => rfl
      | true => exact absurd (by simpa using h2) (fun e : p.id = n => hn e.symm)
    simp [this]
theorem there_not {l : List Wind} {n : Int} (h : (l.any fun q => q.id == n) = false) : thereB l n = false := by
  cases hf : thereB l n with
  | false => rfl
  | true =>
    simp only [thereB, List.any_eq_true, Bool.and_eq_true] at hf
    obtain ⟨q, h1, h2, _⟩ := hf
    have : (l.any fun q => q.id == n) = true := List.any_eq_true.2 ⟨q, h1, h2⟩
    rw [h] at this; cases this
theorem again_wdr (l : List Wind) (n : Int) : againB l n = (decide (0 < n) && l.any fun q => q.of_ == n) := rfl
theorem accepted {pre : List Wind} {p : Wind} (h : refusedE pre p = 0) : windB p = true ∧ (pre.any fun q => q.id == p.id) = false := by
  unfold refusedE at h
  split at h
  · cases h
  · split at h
    · cases h
    · split at h
      · cases h
      · rename_i h1 h2 h3
        exact ⟨by simpa using h2, by simpa using h3⟩
theorem uniq_snoc {pre : List Wind} {p : Wind} (h : UniqW pre) (hr : refusedE pre p = 0) : UniqW (pre ++ [p]) := by
  obtain ⟨h1, h2⟩ := accepted hr
  have hn : ∀ q ∈ pre, ¬ q.id = p.id := fun q hq e => by
    have : (pre.any fun q => q.id == p.id) = true := List.any_eq_true.2 ⟨q, hq, by simpa using e⟩
    rw [h2] at this; cases this
  intro q hq q' hq' e
  rcases List.mem_append.1 hq with hm | hm <;> rcases List.mem_append.1 hq' with hm' | hm'
  · exact h q hm q' hm' e
  · rw [List.mem_singleton] at hm'; rw [hm'] at e; exact absurd e (hn q hm)
  · rw [List.mem_singleton] at hm; rw [hm] at e; exact absurd e.symm (hn q' hm')
  · rw [List.mem_singleton] at hm hm'; rw [hm, hm']
theorem uniq_nil : UniqW [] := fun q h => by cases h
theorem void_has (l : List Wind) (known n : Int) (hn : n ≠ 0) : mapHas (voidV l known) [.int .i64 n] = goneW l known n :=
  snoc_ind (P := fun l => mapHas (voidV l known) [.int .i64 n] = goneW l known n) rfl (fun l p ih => by
    rw [voidV_snoc]
    simp only [goneW, List.any_append, List.any_cons, List.any_nil, Bool.or_false] at ih ⊢
    split
    · rename_i h
      rw [put_has (void_keys l known), ih]
      congr 1
      rw [Bool.eq_iff_iff]; simp [h.2]; exact eq_comm
    · rename_i h
      rw [ih]
      have : (p.of_ == n && decide (p.known ≤ known)) = false := by
        rw [Bool.and_eq_false_iff]
        by_cases h2 : p.of_ = n
        · right
          have : ¬ p.of_ = 0 := by omega
          simp; omega
        · left; simpa using h2
      rw [this, Bool.or_false]) l
theorem void_at (l : List Wind) (known n : Int) (h : mapHas (voidV l known) [.int .i64 n] = true) : mapAt (voidV l known) [.int .i64 n] 1 = some (.bool true) := by
  revert h
  refine snoc_ind (P := fun l => mapHas (voidV l known) [.int .i64 n] = true → mapAt (voidV l known) [.int .i64 n] 1 = some (.bool true)) (fun h => by cases h) (fun l p ih h => ?_) l
  rw [voidV_snoc] at h ⊢
  split
  · rename_i hc
    rw [if_pos hc, put_has (void_keys l known)] at h
    rw [put_at (void_keys l known)]
    split
    · rfl
    · rename_i hn
      refine ih ?_
      rw [Bool.or_eq_true] at h
      rcases h with h | h
      · exact h
      · exact absurd (by simpa using h) hn
  · rename_i hc
    rw [if_neg hc] at h
    exact ih h
theorem countsB_is (l : List Wind) (known : Int) (q : Wind) : countsB l known q = (q.of_ == 0 && (decide (q.known ≤ known) && !(goneW l known q.id))) := rfl
end Go.Proofs.YtpjkfjnjbekcaaaGreatDoor.Zs
