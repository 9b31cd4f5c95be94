/-
  Papers as plain data; what the reference of layer 1 says of them.
-/
import Derived.Test.YtmhbhkipjjcmlaaGreatDoorEvK
set_option linter.unusedSimpArgs false
set_option linter.unusedVariables false
namespace Go.Proofs.YtmhbhkipjjcmlaaGreatDoor.Zs
open Go
set_option linter.unusedSimpArgs false
set_option linter.unusedVariables false

def letterB (c : Int) : Bool := decide (97 ≤ c ∧ c ≤ 122) || decide (48 ≤ c ∧ c ≤ 57)
/-- A byte of a string. -/
def byteAt (s : ByteArray) (i : Nat) : Int := (((s[i]?.map UInt8.toNat).getD 0 : Nat) : Int)
def allUpto (p : Nat → Int → Bool) (s : ByteArray) : Nat → Bool
  | 0 => true
  | k + 1 => allUpto p s k && p k (byteAt s k)
def markC (_ : Nat) (c : Int) : Bool := letterB c || c == 63
def nameC (i : Nat) (c : Int) : Bool := (letterB c || c == 45) && (decide (0 < i) || decide (97 ≤ c))
def markB (s : ByteArray) : Bool := decide (0 < s.size) && decide (s.size ≤ 12) && allUpto markC s s.size
def nameB (s : ByteArray) : Bool := decide (0 < s.size) && decide (s.size ≤ 24) && allUpto nameC s s.size
def withinB (n low high : Int) : Bool := decide (low ≤ n) && decide (n ≤ high)
def spanB (lo hi low high : Int) : Bool := decide (low ≤ lo) && decide (lo ≤ hi) && decide (hi ≤ high)

structure Pap where
  id : Int
  known : Int
  kind : Int
  loss : Int
  pack : Int
  inn : Int
  mark : ByteArray
  goods : ByteArray
  wlo : Int
  whi : Int
  pieces : Int
  owner : Int
  count : Int
  off : Int
instance : DecidableEq Pap := fun a b =>
  decidable_of_iff (a.id = b.id ∧ a.known = b.known ∧ a.kind = b.kind ∧ a.loss = b.loss ∧ a.pack = b.pack ∧ a.inn = b.inn ∧ a.mark = b.mark ∧ a.goods = b.goods ∧ a.wlo = b.wlo ∧ a.whi = b.whi ∧ a.pieces = b.pieces ∧ a.owner = b.owner ∧ a.count = b.count ∧ a.off = b.off) ⟨fun h => by cases a; cases b; simp_all, fun h => by subst h; simp⟩
def Pap.row (p : Pap) : List Value :=
  [.int .i64 p.id, .int .i64 p.known, .int .u8 p.kind, .int .i64 p.loss, .int .i64 p.pack, .int .i64 p.inn, .string p.mark, .string p.goods, .int .i64 p.wlo, .int .i64 p.whi, .int .i64 p.pieces, .int .i64 p.owner, .int .i64 p.count, .int .i64 p.off]
def vI : Value → Int
  | .int _ n => n
  | _ => 0
def vS : Value → ByteArray
  | .string s => s
  | _ => ⟨#[]⟩
def toPap (l : List Value) : Pap := {
  id := vI (l.getD 0 default),
  known := vI (l.getD 1 default),
  kind := vI (l.getD 2 default),
  loss := vI (l.getD 3 default),
  pack := vI (l.getD 4 default),
  inn := vI (l.getD 5 default),
  mark := vS (l.getD 6 default),
  goods := vS (l.getD 7 default),
  wlo := vI (l.getD 8 default),
  whi := vI (l.getD 9 default),
  pieces := vI (l.getD 10 default),
  owner := vI (l.getD 11 default),
  count := vI (l.getD 12 default),
  off := vI (l.getD 13 default) }
def papSch : List CK := [.int .i64, .int .i64, .int .u8, .int .i64, .int .i64, .int .i64, .str, .str, .int .i64, .int .i64, .int .i64, .int .i64, .int .i64, .int .i64]
theorem pap_row {r : List Value} (h : RowFits papSch r) : r = (toPap r).row := by
  unfold papSch at h
  rcases h with _ | ⟨⟨a0, rfl⟩, h⟩
  rcases h with _ | ⟨⟨a1, rfl⟩, h⟩
  rcases h with _ | ⟨⟨a2, rfl⟩, h⟩
  rcases h with _ | ⟨⟨a3, rfl⟩, h⟩
  rcases h with _ | ⟨⟨a4, rfl⟩, h⟩
  rcases h with _ | ⟨⟨a5, rfl⟩, h⟩
  rcases h with _ | ⟨⟨a6, rfl⟩, h⟩
  rcases h with _ | ⟨⟨a7, rfl⟩, h⟩
  rcases h with _ | ⟨⟨a8, rfl⟩, h⟩
  rcases h with _ | ⟨⟨a9, rfl⟩, h⟩
  rcases h with _ | ⟨⟨a10, rfl⟩, h⟩
  rcases h with _ | ⟨⟨a11, rfl⟩, h⟩
  rcases h with _ | ⟨⟨a12, rfl⟩, h⟩
  rcases h with _ | ⟨⟨a13, rfl⟩, h⟩
  cases h
  rfl
theorem toPap_row (p : Pap) : toPap p.row = p := rfl
theorem paps_of {rows : List (List Value)} (h : ∀ r ∈ rows, RowFits papSch r) : rows = (rows.map toPap).map Pap.row := by
  rw [List.map_map]
  conv => lhs; rw [← List.map_id rows]
  exact List.map_congr_left fun r hr => pap_row (h r hr)
/-- The papers of a list that a name stands for. -/
def papsV : Value → List Pap
  | .tuple l => l.toList.map fun v => match v with | .agg c => toPap c.toList | _ => toPap []
  | _ => []
def papsR (l : List Pap) : Value := rowsV (l.map Pap.row)
theorem papsV_R (l : List Pap) : papsV (papsR l) = l := by
  simp only [papsV, papsR, rowsV, List.toList_toArray, List.map_map]
  conv => rhs; rw [← List.map_id l]
  exact List.map_congr_left fun p _ => rfl

def dashC (_ : Nat) (c : Int) : Bool := letterB c || c == 45
def markAll (s : ByteArray) : Bool := allUpto markC s s.size
def dashAll (s : ByteArray) : Bool := allUpto dashC s s.size
/-- What a paper's own kind asks (as the package does). -/
def pkB (p : Pap) : Bool := withinB p.loss 1 20 && (withinB p.pack 1 200 && (withinB p.inn 0 200 && ((!(p.inn == p.pack)) && (markB p.mark && (nameB p.goods && (spanB p.wlo p.whi 1 100000 && (withinB p.pieces 1 20 && withinB p.owner 1 40)))))))
def totB (p : Pap) : Bool := withinB p.loss 1 20 && (withinB p.pack 0 200 && (withinB p.count 0 40 && spanB p.wlo p.whi 0 10000000))
/-- Is a paper well-formed? (as the reference asks) -/
def formedB (p : Pap) : Bool :=
  withinB p.id 1 1000000 && (withinB p.known 0 1000000 &&
  (bif p.kind == 3 then ((p.loss == 0 && (p.pack == 0 && (p.inn == 0 && (p.mark == bytesOf [] && (p.goods == bytesOf [] && (p.wlo == 0 && (p.whi == 0 && (p.pieces == 0 && (p.owner == 0 && p.count == 0))))))))) && withinB p.off 1 1000000)
   else bif p.kind == 2 then (p.inn == 0 && (p.mark == bytesOf [] && (p.goods == bytesOf [] && (p.pieces == 0 && (p.owner == 0 && p.off == 0))))) &&
     (spanB p.wlo p.whi 0 10000000 && (withinB p.loss 1 20 && (withinB p.pack 0 200 && withinB p.count 0 40)))
   else (p.count == 0 && p.off == 0) && (p.kind == 1 && (spanB p.wlo p.whi 1 100000 && (markB p.mark && (nameB p.goods && (withinB p.loss 1 20 && (withinB p.pack 1 200 && (withinB p.inn 0 200 && ((!(p.inn == p.pack)) && (withinB p.pieces 1 20 && withinB p.owner 1 40)))))))))))

def foundB (l : List Pap) (off : Int) : Bool := l.any fun q => q.kind != 3 && q.id == off
def goneB (l : List Pap) (off : Int) : Bool := l.any fun q => q.kind == 3 && q.off == off
def lastKnown (l : List Pap) : Int := l.foldl (fun _ p => p.known) 0
/-- The error of a paper behind others (as the reference has it). -/
def refusedE (l : List Pap) (p : Pap) : Int :=
  if 300 ≤ l.length then 2 else if formedB p = false then 1 else if l.any (fun q => q.id == p.id) then 6
  else if 0 < l.length ∧ p.known < lastKnown l then 7 else if p.kind = 3 ∧ foundB l p.off = false then 5 else if p.kind = 3 ∧ goneB l p.off = true then 6 else 0
def chkGo (pre : List Pap) : List Pap → Int × Int
  | [] => (0, 0)
  | p :: r => if refusedE pre p = 0 then chkGo (pre ++ [p]) r else (pre.length, refusedE pre p)
def checkR (l : List Pap) : Int × Int := chkGo [] l
def appendE (l : List Pap) (p : Pap) : Int := if (checkR l).2 ≠ 0 then (checkR l).2 else refusedE l p
def shortB (s : ByteArray) : Bool := decide ((s.size : Int) ≤ 140737488355328)
def lenB (l : List Pap) : Bool := decide ((l.length : Int) ≤ 140737488355328)
def smallS (a b : ByteArray) : Bool := decide (a.size ≤ 100) && decide (b.size ≤ 100)
def smallP (p : Pap) : Bool := smallS p.mark p.goods
def smallB (l : List Pap) : Bool := l.all smallP
def fewB (l : List Pap) (most : Int) : Bool := decide ((l.length : Int) ≤ most) && smallB l

/-- What the maps of a check have: the kinds by their Ids, and what is withdrawn. -/
def krow (p : Pap) : List Value := [.int .i64 p.id, .int .u8 p.kind]
def vrow (n : Int) : List Value := [.int .i64 n, .bool true]
def kindsV (l : List Pap) : List (List Value) := l.foldl (fun m p => putRow [.int .i64 p.id] (krow p) m) []
def voidsV (l : List Pap) : List (List Value) := l.foldl (fun m p => if p.kind = 3 then putRow [.int .i64 p.off] (vrow p.off) m else m) []
/-- The papers ahead of the first one that is refused. -/
def uptoP (l : List Pap) : List Pap := if (checkR l).2 = 0 then l else l.take (checkR l).1.toNat
/-- What the signs in terms stand for. -/
def sy : Nat → List Value → Option Value
  | 0, [.int _ c] => some (.bool (letterB c))
  | 1, [.string s] => some (.bool (markB s))
  | 2, [.string s] => some (.bool (nameB s))
  | 3, l => some (.bool (formedB (toPap l)))
  | 4, v :: l => some (.int .i64 (refusedE (papsV v) (toPap l)))
  | 5, [v] => some (.int .i64 (checkR (papsV v)).1)
  | 6, [v] => some (.int .i64 (checkR (papsV v)).2)
  | 7, [a, b] => some (.bool (papsV a == papsV b))
  | 8, [a, .int _ n] => some (.bool (fewB (papsV a) n))
  | 9, [.int _ a, .int _ b, .int _ c, .int _ d] => some (.bool (spanB a b c d))
  | 10, [.int _ a, .int _ b, .int _ c] => some (.bool (withinB a b c))
  | 14, l => some (.int .i64 (if formedB (toPap l) then 0 else 1))
  | 15, [a, .int _ n] => some (.bool ((papsV a).any fun q => q.id == n))
  | 16, [a, .int _ n] => some (.bool (foundB (papsV a) n))
  | 17, [a, .int _ n] => some (.bool (goneB (papsV a) n))
  | 18, [.string a, .string b] => some (.bool (smallS a b))
  | 19, [.string a] => some (.bool (shortB a))
  | 20, [a] => some (.bool (lenB (papsV a)))
  | 12, [v] => some (.bool (smallB (papsV v)))
  | 11, v :: l => some (.int .i64 (appendE (papsV v) (toPap l)))
  | 25, [v] => some (rowsV (kindsV (uptoP (papsV v))))
  | 26, [v] => some (rowsV (voidsV (uptoP (papsV v))))
  | 27, [v] => some (.int .i64 ((uptoP (papsV v)).length : Int))
  | 28, [v] => some (.int .i64 (lastKnown (uptoP (papsV v))))
  | 21, l => some (.bool (pkB (toPap l)))
  | 22, l => some (.bool (totB (toPap l)))
  | 23, [.string s] => some (.bool (markAll s))
  | 24, [.string s] => some (.bool (dashAll s))
  | _, _ => none
end Go.Proofs.YtmhbhkipjjcmlaaGreatDoor.Zs

/-
  Papers as names stand for them.
-/
namespace Go.Proofs.YtmhbhkipjjcmlaaGreatDoor.Zs
open Go
set_option linter.unusedSimpArgs false
set_option linter.unusedVariables false

theorem d_wrap (k k' : IntKind) (n : Int) : den1 (.wrap k) (.int k' n) = some (.int k (k.wrap n)) := rfl
theorem d_kind (k k' : IntKind) (n : Int) : den1 (.kind k) (.int k' n) = some (.int k n) := rfl
theorem d_not (b : Bool) : den1 .not (.bool b) = some (.bool (!b)) := rfl
theorem d_neg (k' : IntKind) (n : Int) : den1 .neg (.int k' n) = some (.int .i64 (-n)) := rfl
theorem d_slen (s : ByteArray) : den1 .slen (.string s) = some (.int .i64 s.size) := rfl
theorem d_add (k k' : IntKind) (m n : Int) : den2 .add (.int k m) (.int k' n) = some (.int .i64 (m + n)) := rfl
theorem d_sub (k k' : IntKind) (m n : Int) : den2 .sub (.int k m) (.int k' n) = some (.int .i64 (m - n)) := rfl
theorem d_mul (k k' : IntKind) (m n : Int) : den2 .mul (.int k m) (.int k' n) = some (.int .i64 (m * n)) := rfl
theorem d_div (k k' : IntKind) (m n : Int) : den2 .div (.int k m) (.int k' n) = some (.int .i64 (m.tdiv n)) := rfl
theorem d_mod (k k' : IntKind) (m n : Int) : den2 .mod (.int k m) (.int k' n) = some (.int .i64 (m.tmod n)) := rfl
theorem d_lt (k k' : IntKind) (m n : Int) : den2 .lt (.int k m) (.int k' n) = some (.bool (decide (m < n))) := rfl
theorem d_le (k k' : IntKind) (m n : Int) : den2 .le (.int k m) (.int k' n) = some (.bool (decide (m ≤ n))) := rfl
theorem d_eq (k k' : IntKind) (m n : Int) : den2 .eq (.int k m) (.int k' n) = some (.bool (m == n)) := rfl
theorem d_eqb (a b : Bool) : den2 .eqb (.bool a) (.bool b) = some (.bool (a == b)) := rfl
theorem d_eqs (a b : ByteArray) : den2 .eqs (.string a) (.string b) = some (.bool (a == b)) := rfl
theorem d_lts (a b : ByteArray) : den2 .lts (.string a) (.string b) = some (.bool (Op.bytesLess a.toList b.toList)) := rfl
theorem d_cat (a b : ByteArray) : den2 .cat (.string a) (.string b) = some (.string (a ++ b)) := rfl
theorem d_sat (a : ByteArray) (k : IntKind) (n : Int) : den2 .sat (.string a) (.int k n) = some (.int .u8 ((a[n.toNat]?.map UInt8.toNat).getD 0)) := rfl
theorem d_and (a b : Bool) : den2 .and (.bool a) (.bool b) = some (.bool (a && b)) := rfl
theorem d_or (a b : Bool) : den2 .or (.bool a) (.bool b) = some (.bool (a || b)) := rfl
theorem d_len (l : Array Value) : den1 .len (.tuple l) = some (.int .i64 l.size) := rfl

theorem len_R (l : List Pap) : den1 .len (papsR l) = some (.int .i64 l.length) := by simp [den1, papsR, rowsV]
theorem cell_R (j : Nat) (l : List Pap) (k : IntKind) (n : Int) : denCell j (papsR l) (.int k n) = (l[n.toNat]?).bind fun p => p.row[j]? := by
  simp only [denCell, papsR, rowsV, List.getElem?_toArray, List.getElem?_map]
  cases l[n.toNat]? <;> simp
theorem row0 (p : Pap) : p.row[0]? = some (.int .i64 p.id) := rfl
theorem row1 (p : Pap) : p.row[1]? = some (.int .i64 p.known) := rfl
theorem row2 (p : Pap) : p.row[2]? = some (.int .u8 p.kind) := rfl
theorem row3 (p : Pap) : p.row[3]? = some (.int .i64 p.loss) := rfl
theorem row4 (p : Pap) : p.row[4]? = some (.int .i64 p.pack) := rfl
theorem row5 (p : Pap) : p.row[5]? = some (.int .i64 p.inn) := rfl
theorem row6 (p : Pap) : p.row[6]? = some (.string p.mark) := rfl
theorem row7 (p : Pap) : p.row[7]? = some (.string p.goods) := rfl
theorem row8 (p : Pap) : p.row[8]? = some (.int .i64 p.wlo) := rfl
theorem row9 (p : Pap) : p.row[9]? = some (.int .i64 p.whi) := rfl
theorem row10 (p : Pap) : p.row[10]? = some (.int .i64 p.pieces) := rfl
theorem row11 (p : Pap) : p.row[11]? = some (.int .i64 p.owner) := rfl
theorem row12 (p : Pap) : p.row[12]? = some (.int .i64 p.count) := rfl
theorem row13 (p : Pap) : p.row[13]? = some (.int .i64 p.off) := rfl

def papLeaves (v : Nat) : List Leaf := [.int .i64 v, .int .i64 (v + 1), .int .u8 (v + 2), .int .i64 (v + 3), .int .i64 (v + 4), .int .i64 (v + 5), .str (v + 6), .str (v + 7), .int .i64 (v + 8), .int .i64 (v + 9), .int .i64 (v + 10), .int .i64 (v + 11), .int .i64 (v + 12), .int .i64 (v + 13)]
/-- The values of the names of a paper. -/
structure PapAt (ρ : Rho) (v : Nat) (k : Nat → IntKind) (p : Pap) : Prop where
  h0 : ρ.val v = some (.int (k 0) p.id)
  h1 : ρ.val (v + 1) = some (.int (k 1) p.known)
  h2 : ρ.val (v + 2) = some (.int (k 2) p.kind)
  h3 : ρ.val (v + 3) = some (.int (k 3) p.loss)
  h4 : ρ.val (v + 4) = some (.int (k 4) p.pack)
  h5 : ρ.val (v + 5) = some (.int (k 5) p.inn)
  h6 : ρ.val (v + 6) = some (.string p.mark)
  h7 : ρ.val (v + 7) = some (.string p.goods)
  h8 : ρ.val (v + 8) = some (.int (k 8) p.wlo)
  h9 : ρ.val (v + 9) = some (.int (k 9) p.whi)
  h10 : ρ.val (v + 10) = some (.int (k 10) p.pieces)
  h11 : ρ.val (v + 11) = some (.int (k 11) p.owner)
  h12 : ρ.val (v + 12) = some (.int (k 12) p.count)
  h13 : ρ.val (v + 13) = some (.int (k 13) p.off)
theorem pap_agg {σ : Sig} {v : Nat} {u : Value} (h : (Arg.agg (papLeaves v)).av.inst σ = some u) : ∃ (p : Pap) (k : Nat → IntKind), u = .agg p.row.toArray ∧ PapAt σ.rho v k p := by
  obtain ⟨vs, rfl, gs⟩ := AV.inst_agg h
  obtain ⟨x0, vs, rfl, g0, gs⟩ := ins_cons gs
  obtain ⟨x1, vs, rfl, g1, gs⟩ := ins_cons gs
  obtain ⟨x2, vs, rfl, g2, gs⟩ := ins_cons gs
  obtain ⟨x3, vs, rfl, g3, gs⟩ := ins_cons gs
  obtain ⟨x4, vs, rfl, g4, gs⟩ := ins_cons gs
  obtain ⟨x5, vs, rfl, g5, gs⟩ := ins_cons gs
  obtain ⟨x6, vs, rfl, g6, gs⟩ := ins_cons gs
  obtain ⟨x7, vs, rfl, g7, gs⟩ := ins_cons gs
  obtain ⟨x8, vs, rfl, g8, gs⟩ := ins_cons gs
  obtain ⟨x9, vs, rfl, g9, gs⟩ := ins_cons gs
  obtain ⟨x10, vs, rfl, g10, gs⟩ := ins_cons gs
  obtain ⟨x11, vs, rfl, g11, gs⟩ := ins_cons gs
  obtain ⟨x12, vs, rfl, g12, gs⟩ := ins_cons gs
  obtain ⟨x13, vs, rfl, g13, gs⟩ := ins_cons gs
  cases gs
  obtain ⟨a0, k0, rfl, h0⟩ := one_int g0
  obtain ⟨a1, k1, rfl, h1⟩ := one_int g1
  obtain ⟨a2, k2, rfl, h2⟩ := one_int g2
  obtain ⟨a3, k3, rfl, h3⟩ := one_int g3
  obtain ⟨a4, k4, rfl, h4⟩ := one_int g4
  obtain ⟨a5, k5, rfl, h5⟩ := one_int g5
  obtain ⟨a6, rfl, h6⟩ := one_str g6
  obtain ⟨a7, rfl, h7⟩ := one_str g7
  obtain ⟨a8, k8, rfl, h8⟩ := one_int g8
  obtain ⟨a9, k9, rfl, h9⟩ := one_int g9
  obtain ⟨a10, k10, rfl, h10⟩ := one_int g10
  obtain ⟨a11, k11, rfl, h11⟩ := one_int g11
  obtain ⟨a12, k12, rfl, h12⟩ := one_int g12
  obtain ⟨a13, k13, rfl, h13⟩ := one_int g13
  exact ⟨⟨a0, a1, a2, a3, a4, a5, a6, a7, a8, a9, a10, a11, a12, a13⟩, fun i => [k0, k1, k2, k3, k4, k5, .i64, .i64, k8, k9, k10, k11, k12, k13].getD i .i64, rfl, h0, h1, h2, h3, h4, h5, h6, h7, h8, h9, h10, h11, h12, h13⟩

/-- A list of papers, as a parameter. -/
def papsArg (i b : Nat) : Arg := .list i 14 papSch 26 b (b + 1) (b + 2)
theorem paps_at {P : Program} {l : List (Nat × ABlock)} {N i : Nat} {b x : X} {own : Bool} {t : TypeId} {σ : Sig} {w : World} {Wr : Nat → Prop} (hrel : (memOf l N).rel P σ w Wr) (hg : (buildH l).get i = some (.rows 14 papSch b x own t)) :
    ∃ ps : List Pap, x.den σ.rho = some (papsR ps) := by
  obtain ⟨rows, h1, h2⟩ := rows_at hrel hg
  exact ⟨rows.map toPap, by rw [h1, papsR, ← paps_of h2]⟩
theorem short_of {a b : ByteArray} (h : smallS a b = true) : shortB a = true ∧ shortB b = true := by
  simp only [smallS, Bool.and_eq_true, decide_eq_true_eq] at h
  simp only [shortB, decide_eq_true_eq]
  omega
theorem sym12 (l : List Pap) : sy 12 [papsR l] = some (.bool (smallB l)) := by show some (Value.bool (smallB (papsV (papsR l)))) = _; rw [papsV_R]
theorem sym20 (l : List Pap) : sy 20 [papsR l] = some (.bool (lenB l)) := by show some (Value.bool (lenB (papsV (papsR l)))) = _; rw [papsV_R]
theorem sym8 (l : List Pap) (k : IntKind) (n : Int) : sy 8 [papsR l, .int k n] = some (.bool (fewB l n)) := by show some (Value.bool (fewB (papsV (papsR l)) n)) = _; rw [papsV_R]
theorem sym7 (a b : List Pap) : sy 7 [papsR a, papsR b] = some (.bool (a == b)) := by show some (Value.bool (papsV (papsR a) == papsV (papsR b))) = _; rw [papsV_R, papsV_R]
theorem sym15 (l : List Pap) (k : IntKind) (n : Int) : sy 15 [papsR l, .int k n] = some (.bool (l.any fun q => q.id == n)) := by show some (Value.bool ((papsV (papsR l)).any _)) = _; rw [papsV_R]
theorem sym16 (l : List Pap) (k : IntKind) (n : Int) : sy 16 [papsR l, .int k n] = some (.bool (foundB l n)) := by show some (Value.bool (foundB (papsV (papsR l)) n)) = _; rw [papsV_R]
theorem sym17 (l : List Pap) (k : IntKind) (n : Int) : sy 17 [papsR l, .int k n] = some (.bool (goneB l n)) := by show some (Value.bool (goneB (papsV (papsR l)) n)) = _; rw [papsV_R]
theorem sym18 (a b : ByteArray) : sy 18 [.string a, .string b] = some (.bool (smallS a b)) := rfl
theorem sym19 (a : ByteArray) : sy 19 [.string a] = some (.bool (shortB a)) := rfl
theorem sym5 (l : List Pap) : sy 5 [papsR l] = some (.int .i64 (checkR l).1) := by show some (Value.int .i64 (checkR (papsV (papsR l))).1) = _; rw [papsV_R]
theorem sym6 (l : List Pap) : sy 6 [papsR l] = some (.int .i64 (checkR l).2) := by show some (Value.int .i64 (checkR (papsV (papsR l))).2) = _; rw [papsV_R]
theorem lsub_R (l : List Pap) (k k' : IntKind) (a b : Int) : denLsub (papsR l) (.int k a) (.int k' b) = some (papsR ((l.take b.toNat).drop a.toNat)) := by
  simp only [papsR, rowsV, denLsub]
  congr 2
  apply Array.ext'
  simp [List.map_take, List.map_drop, List.extract_eq_take_drop, List.drop_take]
theorem sym4 (l : List Pap) (x : Pap) (k0 k1 k2 k3 k4 k5 k8 k9 k10 k11 k12 k13 : IntKind) :
    sy 4 [papsR l, .int k0 x.id, .int k1 x.known, .int k2 x.kind, .int k3 x.loss, .int k4 x.pack, .int k5 x.inn, .string x.mark, .string x.goods, .int k8 x.wlo, .int k9 x.whi, .int k10 x.pieces, .int k11 x.owner, .int k12 x.count, .int k13 x.off] = some (.int .i64 (refusedE l x)) := by
  show some (Value.int .i64 (refusedE (papsV (papsR l)) x)) = _
  rw [papsV_R]
theorem sym11 (l : List Pap) (x : Pap) (k0 k1 k2 k3 k4 k5 k8 k9 k10 k11 k12 k13 : IntKind) :
    sy 11 [papsR l, .int k0 x.id, .int k1 x.known, .int k2 x.kind, .int k3 x.loss, .int k4 x.pack, .int k5 x.inn, .string x.mark, .string x.goods, .int k8 x.wlo, .int k9 x.whi, .int k10 x.pieces, .int k11 x.owner, .int k12 x.count, .int k13 x.off] = some (.int .i64 (appendE l x)) := by
  show some (Value.int .i64 (appendE (papsV (papsR l)) x)) = _
  rw [papsV_R]
theorem sym14 (x : Pap) (k0 k1 k2 k3 k4 k5 k8 k9 k10 k11 k12 k13 : IntKind) :
    sy 14 [.int k0 x.id, .int k1 x.known, .int k2 x.kind, .int k3 x.loss, .int k4 x.pack, .int k5 x.inn, .string x.mark, .string x.goods, .int k8 x.wlo, .int k9 x.whi, .int k10 x.pieces, .int k11 x.owner, .int k12 x.count, .int k13 x.off] = some (.int .i64 (if formedB x then 0 else 1)) := rfl
theorem small_at {l : List Pap} (h : smallB l = true) {i : Nat} {p : Pap} (hp : l[i]? = some p) : smallS p.mark p.goods = true := List.all_eq_true.1 h p (List.mem_of_getElem? hp)
theorem chkGo_step {l : List Pap} {k : Nat} {p : Pap} (hp : l[k]? = some p) : chkGo (l.take k) (l.drop k) = if refusedE (l.take k) p = 0 then chkGo (l.take (k + 1)) (l.drop (k + 1)) else (k, refusedE (l.take k) p) := by
  obtain ⟨hlt, he⟩ := List.getElem?_eq_some_iff.1 hp
  rw [List.drop_eq_getElem_cons hlt, he, chkGo, List.take_add_one, hp]
  simp only [Option.toList_some, List.length_take, Nat.min_eq_left (Nat.le_of_lt hlt)]
theorem chkGo00 : ∀ (l pre : List Pap), (chkGo pre l).2 = 0 → (chkGo pre l).1 = 0
  | [], pre, _ => rfl
  | p :: r, pre, h => by
    simp only [chkGo] at h ⊢
    split
    · rename_i e
      rw [if_pos e] at h
      exact chkGo00 r _ h
    · rename_i e
      rw [if_neg e] at h
      exact absurd h e
theorem check00 (l : List Pap) : (checkR l).2 = 0 → (checkR l).1 = 0 := chkGo00 l []
theorem refused_len (l : List Pap) (x : Pap) (h : refusedE l x = 0) : l.length < 300 := by
  unfold refusedE at h
  split at h
  · cases h
  · omega
theorem sym9 (k1 k2 k3 k4 : IntKind) (a b c d : Int) : sy 9 [.int k1 a, .int k2 b, .int k3 c, .int k4 d] = some (.bool (spanB a b c d)) := rfl
theorem sym10 (k1 k2 k3 : IntKind) (a b c : Int) : sy 10 [.int k1 a, .int k2 b, .int k3 c] = some (.bool (withinB a b c)) := rfl
theorem sym1 (s : ByteArray) : sy 1 [.string s] = some (.bool (markB s)) := rfl
theorem sym2 (s : ByteArray) : sy 2 [.string s] = some (.bool (nameB s)) := rfl
theorem sym0 (k : IntKind) (c : Int) : sy 0 [.int k c] = some (.bool (letterB c)) := rfl
end Go.Proofs.YtmhbhkipjjcmlaaGreatDoor.Zs

/-
  What a check remembers of the papers ahead.
-/
namespace Go.Proofs.YtmhbhkipjjcmlaaGreatDoor.Zs
open Go
set_option linter.unusedSimpArgs false
set_option linter.unusedVariables false

theorem snoc_nil (r : List Value) : denSnoc (.tuple #[]) r = some (rowsV [r]) := by simp [denSnoc, rowsV]
theorem d_mhas (a : List (List Value)) (k : List Value) : den2 .mhas (rowsV a) (rowsV [k]) = some (.bool (mapHas a k)) := by
  simp only [rowsV, den2, rowsOf_V, keyRow_V]
theorem d_mat (j : Nat) (a : List (List Value)) (k : List Value) : den2 (.mat j) (rowsV a) (rowsV [k]) = mapAt a k j := by
  simp only [rowsV, den2, rowsOf_V, keyRow_V]
theorem d_mput (n : Nat) (a : List (List Value)) (k : List Value) : den2 (.mput n) (rowsV a) (rowsV [k]) = some (rowsV (putRow (k.take n) k a)) := by
  simp only [rowsV, den2, rowsOf_V, keyRow_V]
theorem putRow_new {k row : List Value} : ∀ {rows : List (List Value)}, mapHas rows k = false → putRow k row rows = rows ++ [row]
  | [], _ => rfl
  | r :: l, h => by
    simp only [mapHas, List.any_cons, Bool.or_eq_false_iff] at h
    simp only [putRow, h.1, putRow_new (rows := l) h.2, List.cons_append]

theorem mapAt_none {k : List Value} {j : Nat} {rows : List (List Value)} (h : mapHas rows k = false) : mapAt rows k j = none := by
  unfold mapAt mapRow
  cases hf : rows.find? (begins k) with
  | none => rfl
  | some r =>
    have h1 := List.find?_some hf
    have h2 := List.mem_of_find?_eq_some hf
    have : mapHas rows k = true := List.any_eq_true.2 ⟨r, h2, h1⟩
    rw [h] at this; cases this
/-- Papers that were accepted. -/
structure GoodP (pre : List Pap) : Prop where
  kinds : kindsV pre = pre.map krow
  voids : voidsV pre = (pre.filter fun q => q.kind == 3).map fun q => vrow q.off
  uniq : ∀ q ∈ pre, ∀ q' ∈ pre, q.id = q'.id → q.kind = q'.kind
  formed : ∀ q ∈ pre, formedB q = true
theorem goodP_nil : GoodP [] := ⟨rfl, rfl, (fun q h => by cases h), (fun q h => by cases h)⟩
theorem GoodP.has {pre : List Pap} (h : GoodP pre) (n : Int) : mapHas (kindsV pre) [.int .i64 n] = pre.any fun q => q.id == n := by
  rw [h.kinds]
  simp only [mapHas, List.any_map]
  congr 1
  funext q
  simp only [Function.comp, krow, begins, sameV, decide_true, Bool.true_and, Bool.and_true]
  rw [Bool.eq_iff_iff]; simp; exact eq_comm
theorem GoodP.gone {pre : List Pap} (h : GoodP pre) (n : Int) : mapHas (voidsV pre) [.int .i64 n] = goneB pre n := by
  rw [h.voids]
  simp only [mapHas, List.any_map, List.any_filter, goneB]
  congr 1
  funext q
  simp only [Function.comp, vrow, begins, sameV, decide_true, Bool.true_and, Bool.and_true]
  rw [Bool.eq_iff_iff]; simp; intro _; exact eq_comm
theorem GoodP.gone_at {pre : List Pap} (h : GoodP pre) {n : Int} (hg : goneB pre n = true) : mapAt (voidsV pre) [.int .i64 n] 1 = some (.bool true) := by
  have hh := h.gone n
  rw [hg] at hh
  unfold mapAt mapRow
  cases hf : (voidsV pre).find? (begins [.int .i64 n]) with
  | none =>
    rw [List.find?_eq_none] at hf
    simp only [mapHas, List.any_eq_true] at hh
    obtain ⟨r, hr, hb⟩ := hh
    exact absurd hb (hf r hr)
  | some r =>
    have hm := List.mem_of_find?_eq_some hf
    rw [h.voids] at hm
    obtain ⟨q, _, rfl⟩ := List.mem_map.1 hm
    rfl
theorem GoodP.at_ {pre : List Pap} (h : GoodP pre) {n : Int} (hg : (pre.any fun q => q.id == n) = true) : ∃ q ∈ pre, q.id = n ∧ mapAt (kindsV pre) [.int .i64 n] 1 = some (.int .u8 q.kind) := by
  have hh := h.has n
  rw [hg] at hh
  unfold mapAt mapRow
  cases hf : (kindsV pre).find? (begins [.int .i64 n]) with
  | none =>
    rw [List.find?_eq_none] at hf
    simp only [mapHas, List.any_eq_true] at hh
    obtain ⟨r, hr, hb⟩ := hh
    exact absurd hb (hf r hr)
  | some r =>
    have hm := List.mem_of_find?_eq_some hf
    have hb := List.find?_some hf
    rw [h.kinds] at hm
    obtain ⟨q, hq, rfl⟩ := List.mem_map.1 hm
    refine ⟨q, hq, ?_, rfl⟩
    simp only [krow, begins, sameV, decide_true, Bool.true_and, Bool.and_true, beq_iff_eq] at hb
    exact hb.symm
theorem GoodP.found {pre : List Pap} (h : GoodP pre) {q : Pap} (hq : q ∈ pre) : foundB pre q.id = !(q.kind == 3) := by
  rw [Bool.eq_iff_iff]
  simp only [foundB, List.any_eq_true, Bool.and_eq_true, bne_iff_ne, beq_iff_eq, Bool.not_eq_true', beq_eq_false_iff_ne]
  constructor
  · rintro ⟨q', h1, h2, h3⟩
    rw [h.uniq q hq q' h1 h3.symm]; exact h2
  · intro hk
    exact ⟨q, hq, hk, rfl⟩
theorem not_found {pre : List Pap} {n : Int} (hg : (pre.any fun q => q.id == n) = false) : foundB pre n = false := by
  cases hf : foundB pre n with
  | false => rfl
  | true =>
    simp only [foundB, List.any_eq_true, Bool.and_eq_true, beq_iff_eq] at hf
    obtain ⟨q, h1, _, h2⟩ := hf
    have : (pre.any fun q => q.id == n) = true := List.any_eq_true.2 ⟨q, h1, by simpa using h2⟩
    rw [hg] at this; cases this
theorem formed_kind {p : Pap} (h : formedB p = true) : p.kind = 1 ∨ p.kind = 2 ∨ p.kind = 3 := by
  unfold formedB at h
  cases h3 : p.kind == 3 with
  | true => right; right; simpa using h3
  | false =>
    cases h2 : p.kind == 2 with
    | true => right; left; simpa using h2
    | false =>
      simp only [h3, h2, cond_false, Bool.and_eq_true, beq_iff_eq] at h
      left; exact h.2.2.2.1
theorem formed_known {p : Pap} (h : formedB p = true) : 0 ≤ p.known := by
  simp only [formedB, withinB, Bool.and_eq_true, decide_eq_true_eq] at h
  exact h.2.1.1
theorem lastKnown_snoc (l : List Pap) (p : Pap) : lastKnown (l ++ [p]) = p.known := by simp [lastKnown]
theorem kindsV_snoc (l : List Pap) (p : Pap) : kindsV (l ++ [p]) = putRow [.int .i64 p.id] (krow p) (kindsV l) := by simp [kindsV]
theorem voidsV_snoc (l : List Pap) (p : Pap) : voidsV (l ++ [p]) = if p.kind = 3 then putRow [.int .i64 p.off] (vrow p.off) (voidsV l) else voidsV l := by simp [voidsV]
theorem accepted {pre : List Pap} {p : Pap} (h : refusedE pre p = 0) : formedB p = true ∧ (pre.any fun q => q.id == p.id) = false ∧ (p.kind = 3 → goneB pre p.off = false) := by
  unfold refusedE at h
  split at h
  · cases h
  · split at h
    · cases h
    · split at h
      · cases h
      · split at h
        · cases h
        · split at h
          · cases h
          · split at h
            · cases h
            · rename_i h1 h2 h3 h4 h5 h6
              refine ⟨by simpa using h2, by simpa using h3, fun hk => ?_⟩
              cases hg : goneB pre p.off with
              | false => rfl
              | true => exact absurd ⟨hk, hg⟩ h6
theorem GoodP.snoc {pre : List Pap} (h : GoodP pre) {p : Pap} (hr : refusedE pre p = 0) : GoodP (pre ++ [p]) := by
  obtain ⟨h1, h2, h3⟩ := accepted hr
  refine ⟨?_, ?_, ?_, ?_⟩
  · rw [kindsV_snoc, putRow_new (by rw [h.has]; exact h2), h.kinds]; simp
  · rw [voidsV_snoc]
    by_cases hk : p.kind = 3
    · rw [if_pos hk, putRow_new (by rw [h.gone]; exact h3 hk), h.voids]
      simp [hk]
    · rw [if_neg hk, h.voids]
      simp [hk]
  · have hn : ∀ q ∈ pre, ¬ q.id = p.id := fun q hq e => by
      have : (pre.any fun q => q.id == p.id) = true := List.any_eq_true.2 ⟨q, hq, by simpa using e⟩
      rw [h2] at this; cases this
    intro q hq q' hq' e
    rcases List.mem_append.1 hq with hm | hm <;> rcases List.mem_append.1 hq' with hm' | hm'
    · exact h.uniq q hm q' hm' e
    · rw [List.mem_singleton] at hm'; rw [hm'] at e; exact absurd e (hn q hm)
    · rw [List.mem_singleton] at hm; rw [hm] at e; exact absurd e.symm (hn q' hm')
    · rw [List.mem_singleton] at hm hm'; rw [hm, hm']
  · intro q hq
    rcases List.mem_append.1 hq with hq | hq
    · exact h.formed q hq
    · rw [List.mem_singleton] at hq; rw [hq]; exact h1
/-- How far a check has come, and what is left. -/
theorem chkGo_le : ∀ (l pre : List Pap), (chkGo pre l).2 ≠ 0 → ∃ k : Nat, (chkGo pre l).1 = (pre.length + k : Nat) ∧ k < l.length
  | [], pre, h => absurd rfl h
  | p :: r, pre, h => by
    simp only [chkGo] at h ⊢
    split
    · rename_i e
      rw [if_pos e] at h
      obtain ⟨k, h1, h2⟩ := chkGo_le r _ h
      exact ⟨k + 1, by rw [h1]; simp; omega, by simp; omega⟩
    · exact ⟨0, rfl, by simp⟩
theorem upto_full {l : List Pap} (h : (checkR l).2 = 0) : uptoP l = l := if_pos h
theorem upto_part {l : List Pap} {i : Nat} (h : (checkR l).2 ≠ 0) (hi : (checkR l).1 = i) : uptoP l = l.take i := by rw [uptoP, if_neg h, hi]; rfl
theorem sym25 (l : List Pap) : sy 25 [papsR l] = some (rowsV (kindsV (uptoP l))) := by show some (rowsV (kindsV (uptoP (papsV (papsR l))))) = _; rw [papsV_R]
theorem sym26 (l : List Pap) : sy 26 [papsR l] = some (rowsV (voidsV (uptoP l))) := by show some (rowsV (voidsV (uptoP (papsV (papsR l))))) = _; rw [papsV_R]
theorem sym27 (l : List Pap) : sy 27 [papsR l] = some (.int .i64 ((uptoP l).length : Int)) := by show some (Value.int .i64 ((uptoP (papsV (papsR l))).length : Int)) = _; rw [papsV_R]
theorem sym28 (l : List Pap) : sy 28 [papsR l] = some (.int .i64 (lastKnown (uptoP l))) := by show some (Value.int .i64 (lastKnown (uptoP (papsV (papsR l))))) = _; rw [papsV_R]
end Go.Proofs.YtmhbhkipjjcmlaaGreatDoor.Zs
