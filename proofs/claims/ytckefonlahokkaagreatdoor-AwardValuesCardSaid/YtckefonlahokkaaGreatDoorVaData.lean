/-
  Fractions over whole numbers: greatest common divisors, lowest terms, sums, products, orders.
-/
import Derived.Test.YtckefonlahokkaaGreatDoorVaEvS
import Derived.IntWalk
set_option linter.unusedSimpArgs false
set_option linter.unusedVariables false
namespace Go.Proofs.YtckefonlahokkaaGreatDoor.Zs
def withinB (n low high : Int) : Bool:=decide (low≤n) && decide (n≤high)
def gcdI (a b : Int) : Int:=(Int.gcd a b : Nat)
def lastE : Nat→Int→Int→Int
 | 0,a,_ => a
 | n + 1,a,b => if b = 0 then a else lastE n b (a.tmod b)
def lastI (a b : Int) : Int:=lastE (b.natAbs + 1) a b
def wideB (a : Int) : Bool:=decide (-4000000000000000000≤a) && decide (a≤4000000000000000000)
def validB (n d : Int) : Bool:=withinB d 1 1000000 && (withinB n (-1000000000000) 1000000000000 && gcdI n d == 1)
def lowN (n d : Int) : Int:=n.tdiv (gcdI n d)
def lowD (n d : Int) : Int:=d.tdiv (gcdI n d)
def lowB (n d : Int) : Bool:=validB (lowN n d) (lowD n d)
def canB (n d : Int) : Bool:=wideB n && (wideB d && decide (0 < d))
def lowR (n d : Int) : Int×Int×Int:=if lowB n d = true then (lowN n d,lowD n d,0) else (0,0,2)
def numB (n d : Int) : Bool:=!(d == 0) && (withinB n (-1000000000000000) 1000000000000000 && withinB d (-1000000000000000) 1000000000000000)
def normR (n d : Int) : Int×Int×Int:=if numB n d = true then (if d < 0 then lowR (-n) (-d) else lowR n d) else (0,0,1)
open Go
def vI : Value→Int
 | .int _ n => n
 | _ => 0
def lastK (k k' : IntKind) (a b : Int) : IntKind:=if b = 0 then k else if a.tmod b = 0 then k' else .i64
structure Who where
 n : Int
instance : DecidableEq Who:=fun a b =>
 decidable_of_iff (a.n = b.n) ⟨fun h => by cases a; cases b; simp_all,fun h => by subst h; simp⟩
def Who.row (p : Who) : List Value:=
 [.int .i64 p.n]
def toWho (l : List Value) : Who:={
 n:=vI (l.getD 0 default) }
def whoSch : List CK:=[.int .i64]
theorem who_row {r : List Value} (h : RowFits whoSch r) : r = (toWho r).row:=by
 unfold whoSch at h
 rcases h with _ | ⟨⟨a0,rfl⟩,h⟩
 cases h
 rfl
theorem whos_of {rows : List (List Value)} (h : ∀ r ∈ rows,RowFits whoSch r) : rows = (rows.map toWho).map Who.row:=by
 rw [List.map_map]
 conv => lhs; rw [← List.map_id rows]
 exact List.map_congr_left fun r hr => who_row (h r hr)
def whosV : Value→List Who
 | .tuple l => l.toList.map fun v => match v with | .agg c => toWho c.toList | _ => toWho []
 | _ => []
def whosR (l : List Who) : Value:=rowsV (l.map Who.row)
theorem whosV_R (l : List Who) : whosV (whosR l) = l:=by
 simp only [whosV,whosR,rowsV,List.toList_toArray,List.map_map]
 conv => rhs; rw [← List.map_id l]
 exact List.map_congr_left fun p _ => rfl
structure Shr where
 party : Int
 pence : Int
instance : DecidableEq Shr:=fun a b =>
 decidable_of_iff (a.party = b.party∧a.pence = b.pence) ⟨fun h => by cases a; cases b; simp_all,fun h => by subst h; simp⟩
def Shr.row (p : Shr) : List Value:=
 [.int .i64 p.party,.int .i64 p.pence]
def toShr (l : List Value) : Shr:={
 party:=vI (l.getD 0 default),
 pence:=vI (l.getD 1 default) }
def shrsV : Value→List Shr
 | .tuple l => l.toList.map fun v => match v with | .agg c => toShr c.toList | _ => toShr []
 | _ => []
def shrsR (l : List Shr) : Value:=rowsV (l.map Shr.row)
theorem shrsV_R (l : List Shr) : shrsV (shrsR l) = l:=by
 simp only [shrsV,shrsR,rowsV,List.toList_toArray,List.map_map]
 conv => rhs; rw [← List.map_id l]
 exact List.map_congr_left fun p _ => rfl
structure Rat9 where
 id : Int
 known : Int
 from_ : Int
 goods : ByteArray
 num : Int
 den : Int
 cart : Int
 store : Int
 of_ : Int
instance : DecidableEq Rat9:=fun a b =>
 decidable_of_iff (a.id = b.id∧a.known = b.known∧a.from_ = b.from_∧a.goods = b.goods∧a.num = b.num∧a.den = b.den∧a.cart = b.cart∧a.store = b.store∧a.of_ = b.of_) ⟨fun h => by cases a; cases b; simp_all,fun h => by subst h; simp⟩
def Rat9.row (p : Rat9) : List Value:=
 [.int .i64 p.id,.int .i64 p.known,.int .i64 p.from_,.string p.goods,.int .i64 p.num,.int .i64 p.den,.int .i64 p.cart,.int .i64 p.store,.int .i64 p.of_]
structure Sal9 where
 id : Int
 known : Int
 hour : Int
 parcel : Int
 price : Int
 carter : Int
 keeper : Int
 since : Int
 of_ : Int
instance : DecidableEq Sal9:=fun a b =>
 decidable_of_iff (a.id = b.id∧a.known = b.known∧a.hour = b.hour∧a.parcel = b.parcel∧a.price = b.price∧a.carter = b.carter∧a.keeper = b.keeper∧a.since = b.since∧a.of_ = b.of_) ⟨fun h => by cases a; cases b; simp_all,fun h => by subst h; simp⟩
def Sal9.row (p : Sal9) : List Value:=
 [.int .i64 p.id,.int .i64 p.known,.int .i64 p.hour,.int .i64 p.parcel,.int .i64 p.price,.int .i64 p.carter,.int .i64 p.keeper,.int .i64 p.since,.int .i64 p.of_]
def toSal9 (l : List Value) : Sal9:={
 id:=vI (l.getD 0 default),
 known:=vI (l.getD 1 default),
 hour:=vI (l.getD 2 default),
 parcel:=vI (l.getD 3 default),
 price:=vI (l.getD 4 default),
 carter:=vI (l.getD 5 default),
 keeper:=vI (l.getD 6 default),
 since:=vI (l.getD 7 default),
 of_:=vI (l.getD 8 default) }
def salSch : List CK:=[.int .i64,.int .i64,.int .i64,.int .i64,.int .i64,.int .i64,.int .i64,.int .i64,.int .i64]
theorem sal_row {r : List Value} (h : RowFits salSch r) : r = (toSal9 r).row:=by
 unfold salSch at h
 rcases h with _ | ⟨⟨a0,rfl⟩,h⟩
 rcases h with _ | ⟨⟨a1,rfl⟩,h⟩
 rcases h with _ | ⟨⟨a2,rfl⟩,h⟩
 rcases h with _ | ⟨⟨a3,rfl⟩,h⟩
 rcases h with _ | ⟨⟨a4,rfl⟩,h⟩
 rcases h with _ | ⟨⟨a5,rfl⟩,h⟩
 rcases h with _ | ⟨⟨a6,rfl⟩,h⟩
 rcases h with _ | ⟨⟨a7,rfl⟩,h⟩
 rcases h with _ | ⟨⟨a8,rfl⟩,h⟩
 cases h
 rfl
theorem sals_of {rows : List (List Value)} (h : ∀ r ∈ rows,RowFits salSch r) : rows = (rows.map toSal9).map Sal9.row:=by
 rw [List.map_map]
 conv => lhs; rw [← List.map_id rows]
 exact List.map_congr_left fun r hr => sal_row (h r hr)
def salsV : Value→List Sal9
 | .tuple l => l.toList.map fun v => match v with | .agg c => toSal9 c.toList | _ => toSal9 []
 | _ => []
def salsR (l : List Sal9) : Value:=rowsV (l.map Sal9.row)
theorem salsV_R (l : List Sal9) : salsV (salsR l) = l:=by
 simp only [salsV,salsR,rowsV,List.toList_toArray,List.map_map]
 conv => rhs; rw [← List.map_id l]
 exact List.map_congr_left fun p _ => rfl
structure Fra2 where
 num : Int
 den : Int
instance : DecidableEq Fra2:=fun a b =>
 decidable_of_iff (a.num = b.num∧a.den = b.den) ⟨fun h => by cases a; cases b; simp_all,fun h => by subst h; simp⟩
def Fra2.row (p : Fra2) : List Value:=
 [.int .i64 p.num,.int .i64 p.den]
structure Rec5 where
 k : Int
 id : Int
 known : Int
 of_ : Int
 parcel : Int
instance : DecidableEq Rec5:=fun a b =>
 decidable_of_iff (a.k = b.k∧a.id = b.id∧a.known = b.known∧a.of_ = b.of_∧a.parcel = b.parcel) ⟨fun h => by cases a; cases b; simp_all,fun h => by subst h; simp⟩
def Rec5.row (p : Rec5) : List Value:=
 [.int .i64 p.k,.int .i64 p.id,.int .i64 p.known,.int .i64 p.of_,.int .i64 p.parcel]
def recsR (l : List Rec5) : Value:=rowsV (l.map Rec5.row)
structure Flg where
 k : Int
 b : Bool
instance : DecidableEq Flg:=fun a b =>
 decidable_of_iff (a.k = b.k∧a.b = b.b) ⟨fun h => by cases a; cases b; simp_all,fun h => by subst h; simp⟩
def Flg.row (p : Flg) : List Value:=
 [.int .i64 p.k,.bool p.b]
def flgsR (l : List Flg) : Value:=rowsV (l.map Flg.row)
structure Hd3 where
 id : Int
 known : Int
 of_ : Int
instance : DecidableEq Hd3:=fun a b =>
 decidable_of_iff (a.id = b.id∧a.known = b.known∧a.of_ = b.of_) ⟨fun h => by cases a; cases b; simp_all,fun h => by subst h; simp⟩
def Hd3.row (p : Hd3) : List Value:=
 [.int .i64 p.id,.int .i64 p.known,.int .i64 p.of_]
def toHd3 (l : List Value) : Hd3:={
 id:=vI (l.getD 0 default),
 known:=vI (l.getD 1 default),
 of_:=vI (l.getD 2 default) }
def hdSch : List CK:=[.int .i64,.int .i64,.int .i64]
theorem hd_row {r : List Value} (h : RowFits hdSch r) : r = (toHd3 r).row:=by
 unfold hdSch at h
 rcases h with _ | ⟨⟨a0,rfl⟩,h⟩
 rcases h with _ | ⟨⟨a1,rfl⟩,h⟩
 rcases h with _ | ⟨⟨a2,rfl⟩,h⟩
 cases h
 rfl
theorem hds_of {rows : List (List Value)} (h : ∀ r ∈ rows,RowFits hdSch r) : rows = (rows.map toHd3).map Hd3.row:=by
 rw [List.map_map]
 conv => lhs; rw [← List.map_id rows]
 exact List.map_congr_left fun r hr => hd_row (h r hr)
def hdsV : Value→List Hd3
 | .tuple l => l.toList.map fun v => match v with | .agg c => toHd3 c.toList | _ => toHd3 []
 | _ => []
def hdsR (l : List Hd3) : Value:=rowsV (l.map Hd3.row)
theorem hdsV_R (l : List Hd3) : hdsV (hdsR l) = l:=by
 simp only [hdsV,hdsR,rowsV,List.toList_toArray,List.map_map]
 conv => rhs; rw [← List.map_id l]
 exact List.map_congr_left fun p _ => rfl
def shortB {α : Type} (l : List α) : Bool:=decide ((l.length : Int)≤1010)
def allWho (l : List Who) : Bool:=l.all fun x => withinB x.n 1 40
def badAt (l : List Who) : Int:=(l.findIdx fun x => !(withinB x.n 1 40) : Nat)
def finderB (l : List Who) : Bool:=withinB (l.length : Int) 1 40 && allWho l
def partR (p c : Int) (k : Nat) : Int:=p.tdiv c + (if (k : Int) < p.tmod c then 1 else 0)
def partsTo (p c : Int) (i : Nat) : List Who:=(List.range c.toNat).map fun k => ⟨if k < i then partR p c k else 0⟩
def partsR (p c : Int) : List Who:=partsTo p c c.toNat
def hasK (m : List Shr) (k : Int) : Bool:=m.any fun x => x.party == k
def atK (m : List Shr) (k : Int) : Int:=((m.find? fun x => x.party == k).map Shr.pence).getD 0
def putK (k v : Int) : List Shr→List Shr
 | [] => [⟨k,v⟩]
 | x :: m => if x.party = k then ⟨k,v⟩ :: m else x :: putK k v m
def delK (k : Int) : List Shr→List Shr
 | [] => []
 | x :: m => if x.party = k then m else x :: delK k m
def addK (m : List Shr) (k v : Int) : List Shr:=if atK m k + v = 0 then delK k (putK k (atK m k + v) m) else putK k (atK m k + v) m
def accA (l : List Shr) : List Shr:=l.foldl (fun m x => addK m x.party (-x.pence)) []
def accB (m l : List Shr) : List Shr:=l.foldl (fun m x => addK m x.party x.pence) m
def chk1 (x : Shr) : Bool:=(x.party == 0 || withinB x.party 1 40) && withinB x.pence (-1000000000) 1000000000
def chkS (l : List Shr) : Int:=if 1000 < (l.length : Int) then 2 else if l.all chk1 then 0 else 1
def keysS (m : List Shr) : List Int:=(m.map Shr.party).mergeSort fun x y => decide (x≤y)
def chgOf (m : List Shr) : List Shr:=(keysS m).map fun k => ⟨k,atK m k⟩
def sumK (l : List Shr) (k : Int) : Int:=l.foldl (fun s x => if x.party = k then IntKind.i64.wrap (s + x.pence) else s) 0
def bigBS {α : Type} (l : List α) : Bool:=decide ((l.length : Int)≤5000)
def mrgTo (l : List Shr) (n : Nat) : List Shr:=((List.range n).filter fun (p : Nat) => !(sumK l (p : Int) == 0)).map fun (p : Nat) => ⟨(p : Int),sumK l (p : Int)⟩
def mrgR (l : List Shr) : List Shr:=mrgTo l 41
def negAll (a : List Shr) : List Shr:=a.map fun x => ⟨x.party,IntKind.i64.wrap (0 - x.pence)⟩
def in12 (l : List Shr) : Bool:=l.all fun x => decide (-1000000000000≤x.pence) && decide (x.pence≤1000000000000)
def bothS (a b : List Shr) : List Shr:=b ++ negAll a
def byteAt (s : ByteArray) (i : Nat) : Int:=(((s[i]?.map UInt8.toNat).getD 0 : Nat) : Int)
def goodsC (n : Int) : Bool:=(decide (97≤n) && decide (n≤122)) || ((decide (48≤n) && decide (n≤57)) || n == 45)
def allUpto (p : Int→Bool) (s : ByteArray) : Nat→Bool
 | 0 => true
 | i + 1 => allUpto p s i && p (byteAt s i)
def goodsAll (s : ByteArray) : Bool:=allUpto goodsC s s.size
def nameB (s : ByteArray) : Bool:=withinB s.size 1 24 && ((decide (97≤byteAt s 0) && decide (byteAt s 0≤122)) && (!(s == bytesOf [97,108,108]) && goodsAll s))
def partB (n d : Int) : Bool:=decide (normR n d = (n,d,0)) && withinB n 0 d
def rateB (x : Rat9) : Bool:=
 (withinB x.id 1 1000000 && (withinB x.known 0 1000000 && withinB x.of_ 0 1000000)) &&
 (if x.of_ = 0 then withinB x.from_ 0 1000000 && ((x.goods == bytesOf [] || nameB x.goods) && (partB x.num x.den && (withinB x.cart 0 100000 && withinB x.store 0 100000)))
  else x.from_ == 0 && (x.goods == bytesOf [] && (x.num == 0 && (x.den == 0 && (x.cart == 0 && x.store == 0)))))
def saleB (x : Sal9) : Bool:=
 (withinB x.id 1 1000000 && (withinB x.known 0 1000000 && withinB x.of_ 0 1000000)) &&
 (if x.of_ = 0 then withinB x.hour 0 x.known && (withinB x.parcel 10 10000007 && (withinB x.price 1 1000000000 && ((x.carter == 0 || withinB x.carter 1 40) && (x.keeper == 0 && x.since == 0 || withinB x.keeper 1 40 && withinB x.since 0 x.hour))))
  else x.hour == 0 && (x.parcel == 0 && (x.price == 0 && (x.carter == 0 && (x.keeper == 0 && x.since == 0)))))
def givesB (r : Rat9) (s : Sal9) (l : List Who) : Bool:=(rateB r && (saleB s && (r.of_ == 0 && s.of_ == 0))) && finderB l
structure Div9 where
 rc : Int
 rs : Int
 nu : Int
 de : Int
 p : Int
 h : Int
 ca : Int
 ke : Int
 si : Int
def cart9 (d : Div9) : Int:=min (if d.ca = 0 then 0 else d.rc) d.p
def stor9 (d : Div9) : Int:=min (if d.ke = 0 then 0 else d.rs * (d.h - d.si + 99).tdiv 100) (d.p - cart9 d)
def find9 (d : Div9) : Int:=min ((d.p * d.nu).tdiv d.de) (d.p - cart9 d - stor9 d)
def rest9 (d : Div9) : Int:=d.p - cart9 d - stor9 d - find9 d
def payTo (d : Div9) (l : List Who) (n : Nat) : List Shr:=
 ⟨d.ca,cart9 d⟩ :: ⟨d.ke,stor9 d⟩ :: (List.range n).map fun k => ⟨(l.getD k ⟨0⟩).n,partR (find9 d) l.length k⟩
def payL (d : Div9) (l : List Who) : List Shr:=payTo d l l.length
def isShr (v : Value) : Bool:=match v with
 | .agg c => match c.toList with
   | [.int .i64 _,.int .i64 _] => true
   | _ => false
 | _ => false
def isShrs (x : Value) : Bool:=match x with
 | .tuple a => a.toList.all isShr
 | _ => false
def hasF (m : List Flg) (k : Int) : Bool:=m.any fun x => x.k == k
def atF (m : List Flg) (k : Int) : Bool:=((m.find? fun x => x.k == k).map Flg.b).getD false
def putF (k : Int) (b : Bool) : List Flg→List Flg
 | [] => [⟨k,b⟩]
 | x :: m => if x.k = k then ⟨k,b⟩ :: m else x :: putF k b m
def delF (k : Int) : List Flg→List Flg
 | [] => []
 | x :: m => if x.k = k then m else x :: delF k m
def hasR (m : List Rec5) (k : Int) : Bool:=m.any fun x => x.k == k
def getR (m : List Rec5) (k : Int) : Rec5:=(m.find? fun x => x.k == k).getD ⟨0,0,0,0,0⟩
def putR (y : Rec5) : List Rec5→List Rec5
 | [] => [y]
 | x :: m => if x.k = y.k then y :: m else x :: putR y m
def recOf (x : Sal9) : Rec5:=⟨x.id,x.id,x.known,x.of_,x.parcel⟩
def recM (l : List Sal9) : List Rec5:=l.foldl (fun m x => putR (recOf x) m) []
def voidM (l : List Sal9) : List Flg:=l.foldl (fun m x => if x.of_ = 0 then m else putF x.of_ true m) []
def soldStep (rs : List Rec5) (m : List Flg) (x : Sal9) : List Flg:=
 if x.parcel = 0 then (if x.of_ = 0 then m else delF (getR (putR (recOf x) rs) x.of_).parcel m)
 else putF x.parcel true (if x.of_ = 0 then m else delF (getR (putR (recOf x) rs) x.of_).parcel m)
def soldP (l : List Sal9) : List Rec5×List Flg:=l.foldl (fun p x => (putR (recOf x) p.1,soldStep p.1 p.2 x)) ([],[])
def soldM (l : List Sal9) : List Flg:=(soldP l).2
def lastS (l : List Sal9) : Int:=l.foldl (fun _ x => x.known) 0
theorem recM_snoc (l : List Sal9) (x : Sal9) : recM (l ++ [x]) = putR (recOf x) (recM l):=by simp [recM]
theorem voidM_snoc (l : List Sal9) (x : Sal9) : voidM (l ++ [x]) = if x.of_ = 0 then voidM l else putF x.of_ true (voidM l):=by simp [voidM]
theorem lastS_snoc (l : List Sal9) (x : Sal9) : lastS (l ++ [x]) = x.known:=by simp [lastS]
theorem soldP_fst (l : List Sal9) : (soldP l).1 = recM l:=by
 have key : ∀ (l : List Sal9) (p : List Rec5×List Flg),(l.foldl (fun p x => (putR (recOf x) p.1,soldStep p.1 p.2 x)) p).1 = l.foldl (fun m x => putR (recOf x) m) p.1:=by
  intro l
  induction l with
  | nil => intro p; rfl
  | cons x l ih => intro p; exact ih _
 exact key l _
theorem soldM_snoc (l : List Sal9) (x : Sal9) : soldM (l ++ [x]) = soldStep (recM l) (soldM l) x:=by
 unfold soldM
 rw [← soldP_fst]
 simp [soldP]
def refS (pre : List Sal9) (x : Sal9) : Int:=
 bif saleB x then bif hasR (recM pre) x.id then 6 else bif decide (x.known < lastS pre) then 7 else
  bif x.of_ == 0 then (bif atF (soldM pre) x.parcel then 61 else 0)
  else bif hasR (recM pre) x.of_ && (getR (recM pre) x.of_).of_ == 0 then (bif atF (voidM pre) x.of_ then 6 else 0) else 5
 else 1
def badS (l : List Sal9) (i : Nat) : Int:=if i = 200 then 2 else refS (l.take i) (l.getD i ⟨0,0,0,0,0,0,0,0,0⟩)
def stopS (l : List Sal9) : Option Nat:=(List.range l.length).find? fun i => !(badS l i == 0)
def chkE (l : List Sal9) : Int:=match stopS l with
 | some i => badS l i
 | none => 0
def chkI (l : List Sal9) : Int:=match stopS l with
 | some i => (i : Int)
 | none => 0
theorem stop_none {l : List Sal9} (h : ∀ i,i < l.length→badS l i = 0) : stopS l = none:=by
 unfold stopS
 rw [List.find?_eq_none]
 intro i hi
 simp [h i (List.mem_range.1 hi)]
theorem stop_some {l : List Sal9} {i : Nat} (hi : i < l.length) (h : ∀ j,j < i→badS l j = 0) (hb : badS l i≠0) : stopS l = some i:=by
 unfold stopS
 rw [List.find?_range_eq_some]
 refine ⟨by simpa using hb,List.mem_range.2 hi,fun j hj => by simp [h j hj]⟩
def voidK (l : List Sal9) (K : Int) : List Flg:=l.foldl (fun m x => if x.of_≠0∧x.known≤K then putF x.of_ true m else m) []
def cntB (l : List Sal9) (K : Int) (x : Sal9) : Bool:=(x.of_ == 0 && decide (x.known≤K)) && !(atF (voidK l K) x.id)
def countS (l : List Sal9) (K : Int) : List Sal9:=l.filter (cntB l K)
def saleAt (l : List Sal9) (p K : Int) : Option Sal9:=(countS l K).find? fun x => x.parcel == p
def saleCell (l : List Sal9) (p K : Int) (j : Int) : Option Value:=(((saleAt l p K).getD ⟨0,0,0,0,0,0,0,0,0⟩).row)[j.toNat]?
def cntW (l : List Sal9) (K : Int) : List Who:=(countS l K).map fun x => ⟨x.parcel⟩
def prcM (l : List Sal9) (K : Int) : List Shr:=(countS l K).foldl (fun m x => putK x.parcel x.price m) []
def sortedW (l : List Who) : List Who:=((l.map Who.n).mergeSort fun x y => decide (x≤y)).map Who.mk
def seenF (l : List Who) : List Flg:=l.foldl (fun m x => putF x.n true m) []
theorem seenF_snoc (l : List Who) (x : Who) : seenF (l ++ [x]) = putF x.n true (seenF l):=by simp [seenF]
def twiceW (l : List Who) : Bool:=(List.range l.length).any fun i => atF (seenF (l.take i)) (l.getD i ⟨0⟩).n
def atP (m : List Shr) (k : Int) : Int:=if hasK m k then atK m k else 0
def sumP9 (m : List Shr) (l : List Who) : Int:=l.foldl (fun s x => s + atP m x.n) 0
theorem sumP9_snoc (m : List Shr) (l : List Who) (x : Who) : sumP9 m (l ++ [x]) = sumP9 m l + atP m x.n:=by simp [sumP9]
def valE (l : List Sal9) (b : List Who) (K : Int) : Int:=
 bif chkE l == 0 then bif decide (200 < (b.length : Int)) then 2 else bif twiceW b then 6 else
  bif b.all (fun x => !(atP (prcM l K) x.n == 0)) then (bif decide (1000000000000 < sumP9 (prcM l K) b) then 2 else 0) else 61
 else chkE l
def valS (l : List Sal9) (b : List Who) (K : Int) : Int:=bif valE l b K == 0 then sumP9 (prcM l K) b else 0
def turnW (s : List Who) (t : Nat) : List Who:=s.drop t ++ s.take t
def tOf (t : Int) (n : Nat) : Nat:=((IntKind.u64.wrap t).tmod (IntKind.u64.wrap (n : Int))).toNat
def headsOf (l : List Sal9) : List Hd3:=l.map fun x => ⟨x.id,x.known,x.of_⟩
def hasH (h : List Hd3) (id : Int) : Bool:=h.any fun y => y.id == id
def nmdH (h : List Hd3) (o : Int) : Bool:=h.any fun y => y.of_ == 0 && y.id == o
def twcH (h : List Hd3) (o : Int) : Bool:=h.any fun y => y.of_ == o
def lastH (h : List Hd3) : Int:=match h[h.length - 1]? with
 | some y => y.known
 | none => 0
def hdE (h : List Hd3) (id known o : Int) : Int:=
 bif hasH h id then 6 else bif decide (0 < (h.length : Int)) && decide (known < lastH h) then 7 else bif o == 0 then 0 else
  bif nmdH h o then (bif twcH h o then 6 else 0) else 5
def vdH (h : List Hd3) (id K : Int) : Bool:=h.any fun y => y.of_ == id && decide (y.known≤K)
def cntH (h : List Hd3) (id known o K : Int) : Bool:=!(vdH h id K) && (o == 0 && decide (known≤K))
def sldB (pre : List Sal9) (p K : Int) : Bool:=pre.any fun y => y.parcel == p && cntH (headsOf pre) y.id y.known y.of_ K
def hsx (pre : List Sal9) (x : Sal9) : Int:=
 bif hdE (headsOf pre) x.id x.known x.of_ == 0 then (bif x.of_ == 0 && sldB pre x.parcel x.known then 61 else 0) else hdE (headsOf pre) x.id x.known x.of_
def hsE (l : List Sal9) (i : Int) : Int:=hsx (l.take i.toNat) (l.getD i.toNat ⟨0,0,0,0,0,0,0,0,0⟩)
def insP (l : List Who) (p : Int) : Nat:=(l.takeWhile fun w => decide (w.n < p)).length
def insW (l : List Who) (p : Int) : List Who:=l.take (insP l p) ++ (⟨p⟩ :: l.drop (insP l p))
def sameW (a b : List Who) : Bool:=decide (a.map Who.n = b.map Who.n)
def int1 : Value→Bool
 | .agg r => (match r.toList with
   | [.int .i64 _] => true
   | _ => false)
 | _ => false
def sy : Nat→List Value→Option Value
 | 10,[.int _ a,.int _ b,.int _ c] => some (.bool (withinB a b c))
 | 20,[a] => some (.bool (shortB (whosV a)))
 | 21,[a] => some (.bool (shortB (shrsV a)))
 | 100,[a] => some (.bool (finderB (whosV a)))
 | 101,[a] => some (.bool (allWho (whosV a)))
 | 102,[.int _ p,.int _ c] => some (whosR (partsR p c))
 | 103,[a] => some (.int .i64 (badAt (whosV a)))
 | 110,[a] => some (.int .i64 (chkS (shrsV a)))
 | 111,[a,b] => some (shrsR (accB (shrsV b) (shrsV a)))
 | 112,[a] => some (shrsR (accA (shrsV a)))
 | 113,[.tuple rs] => some (rowsV (oneRows (sortK (rowsOf rs))))
 | 114,[.tuple rs] => some (.bool (wordK (rowsOf rs)))
 | 115,[a] => some (shrsR (chgOf (shrsV a)))
 | 116,[a,.int _ k] => some (.int .i64 (sumK (shrsV a) k))
 | 117,[a] => some (shrsR (accB (accA []) (shrsV a)))
 | 118,[a] => some (shrsR (accB (accA (shrsV a)) []))
 | 22,[a] => some (.bool (bigBS (shrsV a)))
 | 119,[a,b] => some (.bool (decide (shrsV a = shrsV b)))
 | 120,[a] => some (shrsR (mrgR (shrsV a)))
 | 121,[a] => some (shrsR (negAll (shrsV a)))
 | 122,[a] => some (.bool (in12 (shrsV a)))
 | 123,[a,b] => some (shrsR (bothS (shrsV a) (shrsV b)))
 | 50,[.int _ a,.int _ b] => some (.int .i64 (gcdI a b))
 | 52,[.int k a,.int k' b] => some (.int (lastK k k' a b) (lastI a b))
 | 53,[.int _ n,.int _ d] => some (.int .i64 (lowN n d))
 | 54,[.int _ n,.int _ d] => some (.int .i64 (lowD n d))
 | 58,[.int _ n,.int _ d] => some (.bool (canB n d))
 | 59,[.int _ a] => some (.int .i64 a.natAbs)
 | 55,[.int _ a] => some (.bool (wideB a))
 | 70,[.int _ n,.int _ d] => some (.int .i64 (normR n d).1)
 | 71,[.int _ n,.int _ d] => some (.int .i64 (normR n d).2.1)
 | 72,[.int _ n,.int _ d] => some (.int .i64 (normR n d).2.2)
 | 24,[.string s] => some (.bool (goodsAll s))
 | 133,[.string s] => some (.bool (nameB s))
 | 132,[.int _ n,.int _ d] => some (.bool (partB n d))
 | 140,[.int _ rc,.int _ rs,.int _ nu,.int _ de,.int _ p,.int _ h,.int _ ca,.int _ ke,.int _ si] => some (.int .i64 (cart9 ⟨rc,rs,nu,de,p,h,ca,ke,si⟩))
 | 141,[.int _ rc,.int _ rs,.int _ nu,.int _ de,.int _ p,.int _ h,.int _ ca,.int _ ke,.int _ si] => some (.int .i64 (stor9 ⟨rc,rs,nu,de,p,h,ca,ke,si⟩))
 | 142,[.int _ rc,.int _ rs,.int _ nu,.int _ de,.int _ p,.int _ h,.int _ ca,.int _ ke,.int _ si] => some (.int .i64 (find9 ⟨rc,rs,nu,de,p,h,ca,ke,si⟩))
 | 143,[.int _ rc,.int _ rs,.int _ nu,.int _ de,.int _ p,.int _ h,.int _ ca,.int _ ke,.int _ si] => some (.int .i64 (rest9 ⟨rc,rs,nu,de,p,h,ca,ke,si⟩))
 | 144,[.int _ rc,.int _ rs,.int _ nu,.int _ de,.int _ p,.int _ h,.int _ ca,.int _ ke,.int _ si,l] => some (shrsR (payL ⟨rc,rs,nu,de,p,h,ca,ke,si⟩ (whosV l)))
 | 130,[.int _ a0,.int _ a1,.int _ a2,.string a3,.int _ a4,.int _ a5,.int _ a6,.int _ a7,.int _ a8] => some (.bool (rateB ⟨a0,a1,a2,a3,a4,a5,a6,a7,a8⟩))
 | 131,[.int _ b0,.int _ b1,.int _ b2,.int _ b3,.int _ b4,.int _ b5,.int _ b6,.int _ b7,.int _ b8] => some (.bool (saleB ⟨b0,b1,b2,b3,b4,b5,b6,b7,b8⟩))
 | 146,[.int _ a0,.int _ a1,.int _ a2,.string a3,.int _ a4,.int _ a5,.int _ a6,.int _ a7,.int _ a8,.int _ b0,.int _ b1,.int _ b2,.int _ b3,.int _ b4,.int _ b5,.int _ b6,.int _ b7,.int _ b8,l] => some (.bool (givesB ⟨a0,a1,a2,a3,a4,a5,a6,a7,a8⟩ ⟨b0,b1,b2,b3,b4,b5,b6,b7,b8⟩ (whosV l)))
 | 147,[.int _ rc,.int _ rs,.int _ nu,.int _ de,.int _ p,.int _ h,.int _ ca,.int _ ke,.int _ si,x] => some (.bool (isShrs x && decide (shrsV x = accB [] (payTo ⟨rc,rs,nu,de,p,h,ca,ke,si⟩ [] 0))))
 | 23,[a] => some (.bool (shortB (salsV a)))
 | 164,[a] => some (.int .i64 (chkE (salsV a)))
 | 165,[a] => some (.int .i64 (chkI (salsV a)))
 | 166,[a,.int _ K] => some (flgsR (voidK (salsV a) K))
 | 169,[a,.int _ p,.int _ K] => some (.bool (saleAt (salsV a) p K).isSome)
 | 170,[a,.int _ p,.int _ K,.int _ j] => saleCell (salsV a) p K j
 | 171,[a,.int _ K] => some (whosR (cntW (salsV a) K))
 | 172,[a,.int _ K] => some (shrsR (prcM (salsV a) K))
 | 173,[a,b,.int _ K] => some (.int .i64 (valE (salsV a) (whosV b) K))
 | 174,[a,b,.int _ K] => some (.int .i64 (valS (salsV a) (whosV b) K))
 | 175,[b] => some (.bool (twiceW (whosV b)))
 | 176,[a,b] => some (.int .i64 (sumP9 (shrsV a) (whosV b)))
 | 177,[a,b] => some (.bool ((whosV b).all fun x => !(atP (shrsV a) x.n == 0)))
 | 178,[a,.int _ t] => some (whosR (turnW (whosV a) (tOf t (whosV a).length)))
 | 180,[a] => some (hdsR (headsOf (salsV a)))
 | 181,[a,.int _ i,.int _ k,.int _ o] => some (.int .i64 (hdE (hdsV a) i k o))
 | 182,[a,.int _ i,.int _ k,.int _ o,.int _ K] => some (.bool (cntH (hdsV a) i k o K))
 | 183,[a,.int _ i] => some (.int .i64 (hsE (salsV a) i))
 | 184,[a,.int _ o] => some (.bool (nmdH (hdsV a) o))
 | 185,[a,.int _ o] => some (.bool (twcH (hdsV a) o))
 | 186,[a,.int _ i] => some (.bool (hasH (hdsV a) i))
 | 187,[a,.int _ i,.int _ K] => some (.bool (vdH (hdsV a) i K))
 | 188,[a,.int _ p] => some (.int .i64 (insP (whosV a) p : Int))
 | 190,[a,b] => some (.bool (sameW (whosV a) (whosV b)))
 | 191,[.tuple a] => some (.bool (a.toList.all int1))
 | _,_ => none
open Go
theorem d_wrap (k k' : IntKind) (n : Int) : den1 (.wrap k) (.int k' n) = some (.int k (k.wrap n)):=rfl
theorem d_kind (k k' : IntKind) (n : Int) : den1 (.kind k) (.int k' n) = some (.int k n):=rfl
theorem d_not (b : Bool) : den1 .not (.bool b) = some (.bool (!b)):=rfl
theorem d_neg (k' : IntKind) (n : Int) : den1 .neg (.int k' n) = some (.int .i64 (-n)):=rfl
theorem d_slen (s : ByteArray) : den1 .slen (.string s) = some (.int .i64 s.size):=rfl
theorem d_add (k k' : IntKind) (m n : Int) : den2 .add (.int k m) (.int k' n) = some (.int .i64 (m + n)):=rfl
theorem d_sub (k k' : IntKind) (m n : Int) : den2 .sub (.int k m) (.int k' n) = some (.int .i64 (m - n)):=rfl
theorem d_mul (k k' : IntKind) (m n : Int) : den2 .mul (.int k m) (.int k' n) = some (.int .i64 (m * n)):=rfl
theorem d_div (k k' : IntKind) (m n : Int) : den2 .div (.int k m) (.int k' n) = some (.int .i64 (m.tdiv n)):=rfl
theorem d_mod (k k' : IntKind) (m n : Int) : den2 .mod (.int k m) (.int k' n) = some (.int .i64 (m.tmod n)):=rfl
theorem d_lt (k k' : IntKind) (m n : Int) : den2 .lt (.int k m) (.int k' n) = some (.bool (decide (m < n))):=rfl
theorem d_le (k k' : IntKind) (m n : Int) : den2 .le (.int k m) (.int k' n) = some (.bool (decide (m≤n))):=rfl
theorem d_eq (k k' : IntKind) (m n : Int) : den2 .eq (.int k m) (.int k' n) = some (.bool (m == n)):=rfl
theorem d_eqb (a b : Bool) : den2 .eqb (.bool a) (.bool b) = some (.bool (a == b)):=rfl
theorem d_eqs (a b : ByteArray) : den2 .eqs (.string a) (.string b) = some (.bool (a == b)):=rfl
theorem d_lts (a b : ByteArray) : den2 .lts (.string a) (.string b) = some (.bool (Op.bytesLess a.toList b.toList)):=rfl
theorem d_cat (a b : ByteArray) : den2 .cat (.string a) (.string b) = some (.string (a ++ b)):=rfl
theorem d_sat (a : ByteArray) (k : IntKind) (n : Int) : den2 .sat (.string a) (.int k n) = some (.int .u8 ((a[n.toNat]?.map UInt8.toNat).getD 0)):=rfl
theorem d_and (a b : Bool) : den2 .and (.bool a) (.bool b) = some (.bool (a && b)):=rfl
theorem d_or (a b : Bool) : den2 .or (.bool a) (.bool b) = some (.bool (a || b)):=rfl
theorem snoc_nil (r : List Value) : denSnoc (.tuple #[]) r = some (rowsV [r]):=by simp [denSnoc,rowsV]
theorem d_mhas (a : List (List Value)) (k : List Value) : den2 .mhas (rowsV a) (rowsV [k]) = some (.bool (mapHas a k)):=by
 simp only [rowsV,den2,rowsOf_V,keyRow_V]
theorem d_mat (j : Nat) (a : List (List Value)) (k : List Value) : den2 (.mat j) (rowsV a) (rowsV [k]) = mapAt a k j:=by
 simp only [rowsV,den2,rowsOf_V,keyRow_V]
theorem d_mput (n : Nat) (a : List (List Value)) (k : List Value) : den2 (.mput n) (rowsV a) (rowsV [k]) = some (rowsV (putRow (k.take n) k a)):=by
 simp only [rowsV,den2,rowsOf_V,keyRow_V]
theorem whos_len (l : List Who) : den1 .len (whosR l) = some (.int .i64 l.length):=by simp [den1,whosR,rowsV]
theorem whos_cell (j : Nat) (l : List Who) (k : IntKind) (n : Int) : denCell j (whosR l) (.int k n) = (l[n.toNat]?).bind fun p => p.row[j]?:=by
 simp only [denCell,whosR,rowsV,List.getElem?_toArray,List.getElem?_map]
 cases l[n.toNat]? <;> simp
theorem whos_lsub (l : List Who) (k k' : IntKind) (a b : Int) : denLsub (whosR l) (.int k a) (.int k' b) = some (whosR ((l.take b.toNat).drop a.toNat)):=by
 simp only [whosR,rowsV,denLsub]
 congr 2
 apply Array.ext'
 simp [List.map_take,List.map_drop,List.extract_eq_take_drop,List.drop_take]
theorem whos_snoc (l : List Who) (x : Who) : denSnoc (whosR l) [.int .i64 x.n] = some (whosR (l ++ [x])):=by
 simp [denSnoc,whosR,rowsV,Who.row]
theorem whos_snoc0 (x : Who) : denSnoc (.tuple #[]) [.int .i64 x.n] = some (whosR [x]):=whos_snoc [] x
theorem who0 (p : Who) : p.row[0]? = some (.int .i64 p.n):=rfl
def whosArg (i b : Nat) : Arg:=.list i 1 whoSch 3 b (b + 1) (b + 2)
theorem whos_at {P : Program} {l : List (Nat×ABlock)} {N i : Nat} {b x : X} {own : Bool} {t : TypeId} {σ : Sig} {w : World} {Wr : Nat→Prop} (hrel : (memOf l N).rel P σ w Wr) (hg : (buildH l).get i = some (.rows 1 whoSch b x own t)) :
  ∃ ps : List Who,x.den σ.rho = some (whosR ps):=by
 obtain ⟨rows,h1,h2⟩:=rows_at hrel hg
 exact ⟨rows.map toWho,by rw [h1,whosR,← whos_of h2]⟩
theorem who_eq {p q : Who} (h0 : p.n = q.n) : p = q:=by
 cases p; cases q; simp_all
theorem shrs_len (l : List Shr) : den1 .len (shrsR l) = some (.int .i64 l.length):=by simp [den1,shrsR,rowsV]
theorem shrs_cell (j : Nat) (l : List Shr) (k : IntKind) (n : Int) : denCell j (shrsR l) (.int k n) = (l[n.toNat]?).bind fun p => p.row[j]?:=by
 simp only [denCell,shrsR,rowsV,List.getElem?_toArray,List.getElem?_map]
 cases l[n.toNat]? <;> simp
theorem shrs_lsub (l : List Shr) (k k' : IntKind) (a b : Int) : denLsub (shrsR l) (.int k a) (.int k' b) = some (shrsR ((l.take b.toNat).drop a.toNat)):=by
 simp only [shrsR,rowsV,denLsub]
 congr 2
 apply Array.ext'
 simp [List.map_take,List.map_drop,List.extract_eq_take_drop,List.drop_take]
theorem shrs_snoc (l : List Shr) (x : Shr) : denSnoc (shrsR l) [.int .i64 x.party,.int .i64 x.pence] = some (shrsR (l ++ [x])):=by
 simp [denSnoc,shrsR,rowsV,Shr.row]
theorem shrs_snoc0 (x : Shr) : denSnoc (.tuple #[]) [.int .i64 x.party,.int .i64 x.pence] = some (shrsR [x]):=shrs_snoc [] x
theorem sals_len (l : List Sal9) : den1 .len (salsR l) = some (.int .i64 l.length):=by simp [den1,salsR,rowsV]
theorem sals_cell (j : Nat) (l : List Sal9) (k : IntKind) (n : Int) : denCell j (salsR l) (.int k n) = (l[n.toNat]?).bind fun p => p.row[j]?:=by
 simp only [denCell,salsR,rowsV,List.getElem?_toArray,List.getElem?_map]
 cases l[n.toNat]? <;> simp
theorem sals_lsub (l : List Sal9) (k k' : IntKind) (a b : Int) : denLsub (salsR l) (.int k a) (.int k' b) = some (salsR ((l.take b.toNat).drop a.toNat)):=by
 simp only [salsR,rowsV,denLsub]
 congr 2
 apply Array.ext'
 simp [List.map_take,List.map_drop,List.extract_eq_take_drop,List.drop_take]
theorem sal0 (p : Sal9) : p.row[0]? = some (.int .i64 p.id):=rfl
theorem sal1 (p : Sal9) : p.row[1]? = some (.int .i64 p.known):=rfl
theorem sal2 (p : Sal9) : p.row[2]? = some (.int .i64 p.hour):=rfl
theorem sal3 (p : Sal9) : p.row[3]? = some (.int .i64 p.parcel):=rfl
theorem sal4 (p : Sal9) : p.row[4]? = some (.int .i64 p.price):=rfl
theorem sal5 (p : Sal9) : p.row[5]? = some (.int .i64 p.carter):=rfl
theorem sal6 (p : Sal9) : p.row[6]? = some (.int .i64 p.keeper):=rfl
theorem sal7 (p : Sal9) : p.row[7]? = some (.int .i64 p.since):=rfl
theorem sal8 (p : Sal9) : p.row[8]? = some (.int .i64 p.of_):=rfl
def salLeaves (v : Nat) : List Leaf:=[.int .i64 (v + 0),.int .i64 (v + 1),.int .i64 (v + 2),.int .i64 (v + 3),.int .i64 (v + 4),.int .i64 (v + 5),.int .i64 (v + 6),.int .i64 (v + 7),.int .i64 (v + 8)]
structure Sal9At (ρ : Rho) (v : Nat) (k : Nat→IntKind) (p : Sal9) : Prop where
 h0 : ρ.val (v + 0) = some (.int (k 0) p.id)
 h1 : ρ.val (v + 1) = some (.int (k 1) p.known)
 h2 : ρ.val (v + 2) = some (.int (k 2) p.hour)
 h3 : ρ.val (v + 3) = some (.int (k 3) p.parcel)
 h4 : ρ.val (v + 4) = some (.int (k 4) p.price)
 h5 : ρ.val (v + 5) = some (.int (k 5) p.carter)
 h6 : ρ.val (v + 6) = some (.int (k 6) p.keeper)
 h7 : ρ.val (v + 7) = some (.int (k 7) p.since)
 h8 : ρ.val (v + 8) = some (.int (k 8) p.of_)
theorem sal_agg {σ : Sig} {v : Nat} {u : Value} (h : (Arg.agg (salLeaves v)).av.inst σ = some u) : ∃ (p : Sal9) (k : Nat→IntKind),u = .agg p.row.toArray∧Sal9At σ.rho v k p:=by
 obtain ⟨vs,rfl,gs⟩:=AV.inst_agg h
 obtain ⟨x0,vs,rfl,g0,gs⟩:=ins_cons gs
 obtain ⟨x1,vs,rfl,g1,gs⟩:=ins_cons gs
 obtain ⟨x2,vs,rfl,g2,gs⟩:=ins_cons gs
 obtain ⟨x3,vs,rfl,g3,gs⟩:=ins_cons gs
 obtain ⟨x4,vs,rfl,g4,gs⟩:=ins_cons gs
 obtain ⟨x5,vs,rfl,g5,gs⟩:=ins_cons gs
 obtain ⟨x6,vs,rfl,g6,gs⟩:=ins_cons gs
 obtain ⟨x7,vs,rfl,g7,gs⟩:=ins_cons gs
 obtain ⟨x8,vs,rfl,g8,gs⟩:=ins_cons gs
 cases gs
 obtain ⟨a0,k0,rfl,h0⟩:=one_int g0
 obtain ⟨a1,k1,rfl,h1⟩:=one_int g1
 obtain ⟨a2,k2,rfl,h2⟩:=one_int g2
 obtain ⟨a3,k3,rfl,h3⟩:=one_int g3
 obtain ⟨a4,k4,rfl,h4⟩:=one_int g4
 obtain ⟨a5,k5,rfl,h5⟩:=one_int g5
 obtain ⟨a6,k6,rfl,h6⟩:=one_int g6
 obtain ⟨a7,k7,rfl,h7⟩:=one_int g7
 obtain ⟨a8,k8,rfl,h8⟩:=one_int g8
 exact ⟨⟨a0,a1,a2,a3,a4,a5,a6,a7,a8⟩,fun i => [k0,k1,k2,k3,k4,k5,k6,k7,k8].getD i .i64,rfl,⟨h0,h1,h2,h3,h4,h5,h6,h7,h8⟩⟩
def salsArg (i b : Nat) : Arg:=.list i 9 salSch 27 b (b + 1) (b + 2)
theorem sals_at {P : Program} {l : List (Nat×ABlock)} {N i : Nat} {b x : X} {own : Bool} {t : TypeId} {σ : Sig} {w : World} {Wr : Nat→Prop} (hrel : (memOf l N).rel P σ w Wr) (hg : (buildH l).get i = some (.rows 9 salSch b x own t)) :
  ∃ ps : List Sal9,x.den σ.rho = some (salsR ps):=by
 obtain ⟨rows,h1,h2⟩:=rows_at hrel hg
 exact ⟨rows.map toSal9,by rw [h1,salsR,← sals_of h2]⟩
theorem sals_cap {σ : Sig} {i b : Nat} {u : Value} {l : List Sal9} (h : (salsArg i b).av.inst σ = some u) (h1 : σ.rho.val (b + 1) = some (salsR l)) : ∃ kc cap,σ.rho.val (b + 2) = some (.int kc cap)∧(l.length : Int)≤cap:=by
 obtain ⟨_,_,_,_,kn,kc,_,_,_,e4,e5,e6,_⟩:=inst_slx h
 obtain ⟨q,hq⟩:=X.nat_iff.1 e5
 obtain ⟨q',hq'⟩:=X.nat_iff.1 e4
 simp only [X.den,h1,sals_len,Option.some.injEq,Value.int.injEq] at hq'
 exact ⟨q,kc,hq,by omega⟩
theorem recs_snoc (l : List Rec5) (x : Rec5) : denSnoc (recsR l) [.int .i64 x.k,.int .i64 x.id,.int .i64 x.known,.int .i64 x.of_,.int .i64 x.parcel] = some (recsR (l ++ [x])):=by
 simp [denSnoc,recsR,rowsV,Rec5.row]
theorem recs_snoc0 (x : Rec5) : denSnoc (.tuple #[]) [.int .i64 x.k,.int .i64 x.id,.int .i64 x.known,.int .i64 x.of_,.int .i64 x.parcel] = some (recsR [x]):=recs_snoc [] x
theorem flgs_snoc (l : List Flg) (x : Flg) : denSnoc (flgsR l) [.int .i64 x.k,.bool x.b] = some (flgsR (l ++ [x])):=by
 simp [denSnoc,flgsR,rowsV,Flg.row]
theorem flgs_snoc0 (x : Flg) : denSnoc (.tuple #[]) [.int .i64 x.k,.bool x.b] = some (flgsR [x]):=flgs_snoc [] x
theorem hds_len (l : List Hd3) : den1 .len (hdsR l) = some (.int .i64 l.length):=by simp [den1,hdsR,rowsV]
theorem hds_cell (j : Nat) (l : List Hd3) (k : IntKind) (n : Int) : denCell j (hdsR l) (.int k n) = (l[n.toNat]?).bind fun p => p.row[j]?:=by
 simp only [denCell,hdsR,rowsV,List.getElem?_toArray,List.getElem?_map]
 cases l[n.toNat]? <;> simp
theorem hds_lsub (l : List Hd3) (k k' : IntKind) (a b : Int) : denLsub (hdsR l) (.int k a) (.int k' b) = some (hdsR ((l.take b.toNat).drop a.toNat)):=by
 simp only [hdsR,rowsV,denLsub]
 congr 2
 apply Array.ext'
 simp [List.map_take,List.map_drop,List.extract_eq_take_drop,List.drop_take]
theorem hds_snoc (l : List Hd3) (x : Hd3) : denSnoc (hdsR l) [.int .i64 x.id,.int .i64 x.known,.int .i64 x.of_] = some (hdsR (l ++ [x])):=by
 simp [denSnoc,hdsR,rowsV,Hd3.row]
theorem hds_snoc0 (x : Hd3) : denSnoc (.tuple #[]) [.int .i64 x.id,.int .i64 x.known,.int .i64 x.of_] = some (hdsR [x]):=hds_snoc [] x
theorem hd0 (p : Hd3) : p.row[0]? = some (.int .i64 p.id):=rfl
theorem hd1 (p : Hd3) : p.row[1]? = some (.int .i64 p.known):=rfl
theorem hd2 (p : Hd3) : p.row[2]? = some (.int .i64 p.of_):=rfl
def hdLeaves (v : Nat) : List Leaf:=[.int .i64 (v + 0),.int .i64 (v + 1),.int .i64 (v + 2)]
structure Hd3At (ρ : Rho) (v : Nat) (k : Nat→IntKind) (p : Hd3) : Prop where
 h0 : ρ.val (v + 0) = some (.int (k 0) p.id)
 h1 : ρ.val (v + 1) = some (.int (k 1) p.known)
 h2 : ρ.val (v + 2) = some (.int (k 2) p.of_)
theorem hd_agg {σ : Sig} {v : Nat} {u : Value} (h : (Arg.agg (hdLeaves v)).av.inst σ = some u) : ∃ (p : Hd3) (k : Nat→IntKind),u = .agg p.row.toArray∧Hd3At σ.rho v k p:=by
 obtain ⟨vs,rfl,gs⟩:=AV.inst_agg h
 obtain ⟨x0,vs,rfl,g0,gs⟩:=ins_cons gs
 obtain ⟨x1,vs,rfl,g1,gs⟩:=ins_cons gs
 obtain ⟨x2,vs,rfl,g2,gs⟩:=ins_cons gs
 cases gs
 obtain ⟨a0,k0,rfl,h0⟩:=one_int g0
 obtain ⟨a1,k1,rfl,h1⟩:=one_int g1
 obtain ⟨a2,k2,rfl,h2⟩:=one_int g2
 exact ⟨⟨a0,a1,a2⟩,fun i => [k0,k1,k2].getD i .i64,rfl,⟨h0,h1,h2⟩⟩
def hdsArg (i b : Nat) : Arg:=.list i 3 hdSch 78 b (b + 1) (b + 2)
theorem hds_at {P : Program} {l : List (Nat×ABlock)} {N i : Nat} {b x : X} {own : Bool} {t : TypeId} {σ : Sig} {w : World} {Wr : Nat→Prop} (hrel : (memOf l N).rel P σ w Wr) (hg : (buildH l).get i = some (.rows 3 hdSch b x own t)) :
  ∃ ps : List Hd3,x.den σ.rho = some (hdsR ps):=by
 obtain ⟨rows,h1,h2⟩:=rows_at hrel hg
 exact ⟨rows.map toHd3,by rw [h1,hdsR,← hds_of h2]⟩
theorem whos_lcat (a b : List Who) : den2 .lcat (whosR a) (whosR b) = some (whosR (a ++ b)):=by
 simp [den2,whosR,rowsV]
theorem whos_rep (k : IntKind) (n : Int) (x : Who) : den2 .rep (.int k n) (whosR [x]) = some (whosR (List.replicate n.toNat x)):=by
 simp [den2,whosR,rowsV]
theorem shrs_lcat (a b : List Shr) : den2 .lcat (shrsR a) (shrsR b) = some (shrsR (a ++ b)):=by
 simp [den2,shrsR,rowsV]
theorem sym10 (k0 k1 k2 : IntKind) (a b c : Int) : sy 10 [.int k0 a,.int k1 b,.int k2 c] = some (.bool (withinB a b c)):=rfl
theorem whos_snocN (l : List Who) (n : Int) : denSnoc (whosR l) [.int .i64 n] = some (whosR (l ++ [⟨n⟩])):=whos_snoc l ⟨n⟩
theorem whos_snoc0N (n : Int) : denSnoc (.tuple #[]) [.int .i64 n] = some (whosR [⟨n⟩]):=whos_snoc0 ⟨n⟩
theorem shrs_snocN (l : List Shr) (a b : Int) : denSnoc (shrsR l) [.int .i64 a,.int .i64 b] = some (shrsR (l ++ [⟨a,b⟩])):=shrs_snoc l ⟨a,b⟩
theorem shrs_snoc0N (a b : Int) : denSnoc (.tuple #[]) [.int .i64 a,.int .i64 b] = some (shrsR [⟨a,b⟩]):=shrs_snoc0 ⟨a,b⟩
theorem sym113R (rows : List (List Value)) : sy 113 [rowsV rows] = some (rowsV (oneRows (sortK rows))):=congrArg (fun l => some (rowsV (oneRows (sortK l)))) (rowsOf_V rows)
theorem begins_S (k : Int) (x : Shr) : begins [.int .i64 k] x.row = decide (x.party = k):=by
 simp only [Shr.row,begins,sameV]
 rw [Bool.eq_iff_iff]
 simp
 exact eq_comm
theorem has_S (m : List Shr) (k : Int) : mapHas (m.map Shr.row) [.int .i64 k] = hasK m k:=by
 simp only [mapHas,hasK,List.any_map]
 congr 1
 funext x
 simp only [Function.comp,begins_S]
 rw [Bool.eq_iff_iff]; simp
theorem at_S (m : List Shr) (k : Int) : mapAt (m.map Shr.row) [.int .i64 k] 1 = if hasK m k then some (.int .i64 (atK m k)) else none:=by
 induction m with
 | nil => rfl
 | cons x m ih =>
   simp only [mapAt,mapRow,List.map_cons,List.find?_cons,begins_S,hasK,List.any_cons,atK] at ih ⊢
   by_cases h : x.party = k
   ·simp [h,Shr.row]
   ·have h' : (x.party == k) = false:=beq_eq_false_iff_ne.2 h
    simp only [h,decide_false,h',Bool.false_or]
    exact ih
theorem put_S (m : List Shr) (k v : Int) : putRow [.int .i64 k] [.int .i64 k,.int .i64 v] (m.map Shr.row) = (putK k v m).map Shr.row:=by
 induction m with
 | nil => rfl
 | cons x m ih =>
   simp only [List.map_cons,putRow,begins_S,putK]
   by_cases h : x.party = k
   ·simp [h,Shr.row]
   ·simp [h,ih]
theorem d_hasS (m : List Shr) (k : Int) : den2 .mhas (shrsR m) (whosR [⟨k⟩]) = some (.bool (hasK m k)):=(d_mhas _ _).trans (by rw [show (Who.mk k).row = [.int .i64 k] from rfl,has_S])
theorem d_atS (m : List Shr) (k : Int) : den2 (.mat 1) (shrsR m) (whosR [⟨k⟩]) = if hasK m k then some (.int .i64 (atK m k)) else none:=(d_mat 1 _ _).trans (at_S m k)
theorem d_putS (m : List Shr) (k v : Int) : den2 (.mput 1) (shrsR m) (shrsR [⟨k,v⟩]) = some (shrsR (putK k v m)):=(d_mput 1 _ _).trans (congrArg (fun l => some (rowsV l)) (put_S m k v))
theorem sym131 (j0 j1 j2 j3 j4 j5 j6 j7 j8 : IntKind) (b0 b1 b2 b3 b4 b5 b6 b7 b8 : Int) : sy 131 [.int j0 b0,.int j1 b1,.int j2 b2,.int j3 b3,.int j4 b4,.int j5 b5,.int j6 b6,.int j7 b7,.int j8 b8] = some (.bool (saleB ⟨b0,b1,b2,b3,b4,b5,b6,b7,b8⟩)):=rfl
theorem sym23 (l : List Sal9) : sy 23 [salsR l] = some (.bool (shortB l)):=congrArg (fun l => some (Value.bool (shortB l))) (salsV_R l)
theorem sym164 (l : List Sal9) : sy 164 [salsR l] = some (.int .i64 (chkE l)):=congrArg (fun l => some (Value.int .i64 (chkE l))) (salsV_R l)
theorem sym165 (l : List Sal9) : sy 165 [salsR l] = some (.int .i64 (chkI l)):=congrArg (fun l => some (Value.int .i64 (chkI l))) (salsV_R l)
theorem sym166 (l : List Sal9) (k : IntKind) (K : Int) : sy 166 [salsR l,.int k K] = some (flgsR (voidK l K)):=congrArg (fun l => some (flgsR (voidK l K))) (salsV_R l)
theorem sym169 (l : List Sal9) (k k' : IntKind) (p K : Int) : sy 169 [salsR l,.int k p,.int k' K] = some (.bool (saleAt l p K).isSome):=congrArg (fun l => some (Value.bool (saleAt l p K).isSome)) (salsV_R l)
theorem sym170 (l : List Sal9) (k k' k'' : IntKind) (p K j : Int) : sy 170 [salsR l,.int k p,.int k' K,.int k'' j] = saleCell l p K j:=congrArg (fun l => saleCell l p K j) (salsV_R l)
theorem begins_F (k : Int) (x : Flg) : begins [.int .i64 k] x.row = decide (x.k = k):=by
 simp only [Flg.row,begins,sameV]
 rw [Bool.eq_iff_iff]
 simp
 exact eq_comm
theorem has_F (m : List Flg) (k : Int) : mapHas (m.map Flg.row) [.int .i64 k] = hasF m k:=by
 simp only [mapHas,hasF,List.any_map]
 congr 1
 funext x
 simp only [Function.comp,begins_F]
 rw [Bool.eq_iff_iff]; simp
theorem at_F (m : List Flg) (k : Int) : mapAt (m.map Flg.row) [.int .i64 k] 1 = if hasF m k then some (.bool (atF m k)) else none:=by
 induction m with
 | nil => rfl
 | cons x m ih =>
   simp only [mapAt,mapRow,List.map_cons,List.find?_cons,begins_F,hasF,List.any_cons,atF] at ih ⊢
   by_cases h : x.k = k
   ·simp [h,Flg.row]
   ·have h' : (x.k == k) = false:=beq_eq_false_iff_ne.2 h
    simp only [h,decide_false,h',Bool.false_or]
    exact ih
theorem put_F (m : List Flg) (k : Int) (b : Bool) : putRow [.int .i64 k] [.int .i64 k,.bool b] (m.map Flg.row) = (putF k b m).map Flg.row:=by
 induction m with
 | nil => rfl
 | cons x m ih =>
   simp only [List.map_cons,putRow,begins_F,putF]
   by_cases h : x.k = k
   ·simp [h,Flg.row]
   ·simp [h,ih]
theorem del_F (m : List Flg) (k : Int) : delRow [.int .i64 k] (m.map Flg.row) = (delF k m).map Flg.row:=by
 induction m with
 | nil => rfl
 | cons x m ih =>
   simp only [List.map_cons,delRow,begins_F,delF]
   by_cases h : x.k = k
   ·simp [h]
   ·simp [h,ih]
theorem d_hasF (m : List Flg) (k : Int) : den2 .mhas (flgsR m) (whosR [⟨k⟩]) = some (.bool (hasF m k)):=(d_mhas _ _).trans (by rw [show (Who.mk k).row = [.int .i64 k] from rfl,has_F])
theorem d_atF (m : List Flg) (k : Int) : den2 (.mat 1) (flgsR m) (whosR [⟨k⟩]) = if hasF m k then some (.bool (atF m k)) else none:=(d_mat 1 _ _).trans (at_F m k)
theorem d_putF (m : List Flg) (k : Int) (b : Bool) : den2 (.mput 1) (flgsR m) (flgsR [⟨k,b⟩]) = some (flgsR (putF k b m)):=(d_mput 1 _ _).trans (congrArg (fun l => some (rowsV l)) (put_F m k b))
theorem d_delF (m : List Flg) (k : Int) : den2 .mdel (flgsR m) (whosR [⟨k⟩]) = some (flgsR (delF k m)):=by
 simp only [flgsR,whosR,rowsV,den2,List.map_cons,List.map_nil]
 rw [rowsOf_V]
 exact congrArg (fun l => some (rowsV l)) (del_F m k)
theorem begins_R5 (k : Int) (x : Rec5) : begins [.int .i64 k] x.row = decide (x.k = k):=by
 simp only [Rec5.row,begins,sameV]
 rw [Bool.eq_iff_iff]
 simp
 exact eq_comm
theorem has_R5 (m : List Rec5) (k : Int) : mapHas (m.map Rec5.row) [.int .i64 k] = hasR m k:=by
 simp only [mapHas,hasR,List.any_map]
 congr 1
 funext x
 simp only [Function.comp,begins_R5]
 rw [Bool.eq_iff_iff]; simp
theorem at_R5 (m : List Rec5) (k : Int) (j : Nat) : mapAt (m.map Rec5.row) [.int .i64 k] j = if hasR m k then (getR m k).row[j]? else none:=by
 induction m with
 | nil => rfl
 | cons x m ih =>
   simp only [mapAt,mapRow,List.map_cons,List.find?_cons,begins_R5,hasR,List.any_cons,getR] at ih ⊢
   by_cases h : x.k = k
   ·simp [h]
   ·have h' : (x.k == k) = false:=beq_eq_false_iff_ne.2 h
    simp only [h,decide_false,h',Bool.false_or]
    exact ih
theorem put_R5 (m : List Rec5) (y : Rec5) : putRow [.int .i64 y.k] y.row (m.map Rec5.row) = (putR y m).map Rec5.row:=by
 induction m with
 | nil => rfl
 | cons x m ih =>
   simp only [List.map_cons,putRow,begins_R5,putR]
   by_cases h : x.k = y.k
   ·simp [h]
   ·simp [h,ih]
theorem d_hasR5 (m : List Rec5) (k : Int) : den2 .mhas (recsR m) (whosR [⟨k⟩]) = some (.bool (hasR m k)):=(d_mhas _ _).trans (by rw [show (Who.mk k).row = [.int .i64 k] from rfl,has_R5])
theorem d_atR5 (m : List Rec5) (k : Int) (j : Nat) : den2 (.mat j) (recsR m) (whosR [⟨k⟩]) = if hasR m k then (getR m k).row[j]? else none:=(d_mat j _ _).trans (at_R5 m k j)
theorem d_putR5 (m : List Rec5) (y : Rec5) : den2 (.mput 1) (recsR m) (recsR [y]) = some (recsR (putR y m)):=(d_mput 1 _ _).trans (congrArg (fun l => some (rowsV l)) (put_R5 m y))
theorem recs_snoc0N (a b c d e : Int) : denSnoc (.tuple #[]) [.int .i64 a,.int .i64 b,.int .i64 c,.int .i64 d,.int .i64 e] = some (recsR [⟨a,b,c,d,e⟩]):=recs_snoc0 ⟨a,b,c,d,e⟩
theorem flgs_snoc0N (a : Int) (b : Bool) : denSnoc (.tuple #[]) [.int .i64 a,.bool b] = some (flgsR [⟨a,b⟩]):=flgs_snoc0 ⟨a,b⟩
theorem sym171 (l : List Sal9) (k : IntKind) (K : Int) : sy 171 [salsR l,.int k K] = some (whosR (cntW l K)):=congrArg (fun l => some (whosR (cntW l K))) (salsV_R l)
theorem sym172 (l : List Sal9) (k : IntKind) (K : Int) : sy 172 [salsR l,.int k K] = some (shrsR (prcM l K)):=congrArg (fun l => some (shrsR (prcM l K))) (salsV_R l)
theorem sym173 (l : List Sal9) (b : List Who) (k : IntKind) (K : Int) : sy 173 [salsR l,whosR b,.int k K] = some (.int .i64 (valE l b K)):=by
 show some (Value.int .i64 (valE (salsV (salsR l)) (whosV (whosR b)) K)) = _
 rw [salsV_R,whosV_R]
theorem sym174 (l : List Sal9) (b : List Who) (k : IntKind) (K : Int) : sy 174 [salsR l,whosR b,.int k K] = some (.int .i64 (valS l b K)):=by
 show some (Value.int .i64 (valS (salsV (salsR l)) (whosV (whosR b)) K)) = _
 rw [salsV_R,whosV_R]
theorem sym175 (b : List Who) : sy 175 [whosR b] = some (.bool (twiceW b)):=congrArg (fun l => some (Value.bool (twiceW l))) (whosV_R b)
theorem sym176 (m : List Shr) (b : List Who) : sy 176 [shrsR m,whosR b] = some (.int .i64 (sumP9 m b)):=by
 show some (Value.int .i64 (sumP9 (shrsV (shrsR m)) (whosV (whosR b)))) = _
 rw [shrsV_R,whosV_R]
theorem sym177 (m : List Shr) (b : List Who) : sy 177 [shrsR m,whosR b] = some (.bool (b.all fun x => !(atP m x.n == 0))):=by
 show some (Value.bool ((whosV (whosR b)).all fun x => !(atP (shrsV (shrsR m)) x.n == 0))) = _
 rw [shrsV_R,whosV_R]
theorem sym113W (l : List Who) : sy 113 [whosR l] = some (whosR (sortedW l)):=by
 refine (sym113R (l.map Who.row)).trans ?_
 have e : sortK (l.map Who.row) = (l.map Who.n).mergeSort fun x y => decide (x≤y):=by
  unfold sortK
  rw [List.map_map,show keyI ∘ Who.row = Who.n from funext fun _ => rfl]
 rw [e]
 unfold whosR oneRows sortedW
 rw [List.map_map]
 exact congrArg (fun l => some (rowsV l)) (List.map_congr_left fun x _ => rfl)
theorem sym180 (l : List Sal9) : sy 180 [salsR l] = some (hdsR (headsOf l)):=congrArg (fun l => some (hdsR (headsOf l))) (salsV_R l)
theorem sym181 (h : List Hd3) (k1 k2 k3 : IntKind) (i k o : Int) : sy 181 [hdsR h,.int k1 i,.int k2 k,.int k3 o] = some (.int .i64 (hdE h i k o)):=congrArg (fun l => some (Value.int .i64 (hdE l i k o))) (hdsV_R h)
theorem sym182 (h : List Hd3) (k1 k2 k3 k4 : IntKind) (i k o K : Int) : sy 182 [hdsR h,.int k1 i,.int k2 k,.int k3 o,.int k4 K] = some (.bool (cntH h i k o K)):=congrArg (fun l => some (Value.bool (cntH l i k o K))) (hdsV_R h)
theorem sym183 (l : List Sal9) (k : IntKind) (i : Int) : sy 183 [salsR l,.int k i] = some (.int .i64 (hsE l i)):=congrArg (fun l => some (Value.int .i64 (hsE l i))) (salsV_R l)
theorem sym184 (h : List Hd3) (k : IntKind) (o : Int) : sy 184 [hdsR h,.int k o] = some (.bool (nmdH h o)):=congrArg (fun l => some (Value.bool (nmdH l o))) (hdsV_R h)
theorem sym185 (h : List Hd3) (k : IntKind) (o : Int) : sy 185 [hdsR h,.int k o] = some (.bool (twcH h o)):=congrArg (fun l => some (Value.bool (twcH l o))) (hdsV_R h)
theorem sym186 (h : List Hd3) (k : IntKind) (o : Int) : sy 186 [hdsR h,.int k o] = some (.bool (hasH h o)):=congrArg (fun l => some (Value.bool (hasH l o))) (hdsV_R h)
theorem sym187 (h : List Hd3) (k k' : IntKind) (i K : Int) : sy 187 [hdsR h,.int k i,.int k' K] = some (.bool (vdH h i K)):=congrArg (fun l => some (Value.bool (vdH l i K))) (hdsV_R h)
theorem sym188 (l : List Who) (k : IntKind) (p : Int) : sy 188 [whosR l,.int k p] = some (.int .i64 (insP l p : Int)):=congrArg (fun l => some (Value.int .i64 (insP l p : Int))) (whosV_R l)
theorem sym190 (a b : List Who) : sy 190 [whosR a,whosR b] = some (.bool (sameW a b)):=by
 show some (Value.bool (sameW (whosV (whosR a)) (whosV (whosR b)))) = _
 rw [whosV_R,whosV_R]
theorem hds_snocN (l : List Hd3) (a b c : Int) : denSnoc (hdsR l) [.int .i64 a,.int .i64 b,.int .i64 c] = some (hdsR (l ++ [⟨a,b,c⟩])):=hds_snoc l ⟨a,b,c⟩
theorem hds_snoc0N (a b c : Int) : denSnoc (.tuple #[]) [.int .i64 a,.int .i64 b,.int .i64 c] = some (hdsR [⟨a,b,c⟩]):=hds_snoc0 ⟨a,b,c⟩
theorem heads_len (l : List Sal9) : (headsOf l).length = l.length:=List.length_map ..
theorem heads_snoc (l : List Sal9) (x : Sal9) : headsOf (l ++ [x]) = headsOf l ++ [⟨x.id,x.known,x.of_⟩]:=by simp [headsOf]
theorem heads_take (l : List Sal9) (i : Nat) : (headsOf l).take i = headsOf (l.take i):=by simp [headsOf,List.map_take]
theorem heads_at (l : List Sal9) (i : Nat) : (headsOf l)[i]? = (l[i]?).map fun x => ⟨x.id,x.known,x.of_⟩:=by simp [headsOf]
theorem sym191 (l : List Who) : sy 191 [whosR l] = some (.bool true):=by
 show some (Value.bool (List.all ((l.map Who.row).map fun r => Value.agg r.toArray).toArray.toList int1)) = _
 rw [List.all_eq_true.2]
 intro v hv
 simp only [List.mem_map] at hv
 obtain ⟨r,⟨n,_,rfl⟩,rfl⟩:=hv
 rfl
theorem ints_of : ∀ l : List Value,l.all int1 = true→∃ m : List Who,l = (m.map Who.row).map fun r => Value.agg r.toArray
 | [],_ => ⟨[],rfl⟩
 | v :: l,h => by
   rw [List.all_cons,Bool.and_eq_true] at h
   obtain ⟨m,rfl⟩:=ints_of l h.2
   have h1:=h.1
   unfold int1 at h1
   split at h1
   ·rename_i r
    split at h1
    ·rename_i n e
     refine ⟨⟨n⟩ :: m,?_⟩
     have : r = [Value.int .i64 n].toArray:=by rw [← e]
     rw [this]; rfl
    ·cases h1
   ·cases h1
theorem ints_at {v : Value} (h : sy 191 [v] = some (.bool true)) : ∃ m : List Who,v = whosR m:=by
 cases v with
 | tuple a =>
   have h' : some (Value.bool (a.toList.all int1)) = some (Value.bool true):=h
   obtain ⟨m,hm⟩:=ints_of a.toList (by simpa using h')
   refine ⟨m,?_⟩
   unfold whosR rowsV
   rw [← hm]
 | _ => cases h
theorem short_len {α : Type} {l : List α} (h : shortB l = true) : (l.length : Int)≤1010:=by simpa [shortB] using h
theorem len_short {α : Type} {l : List α} (h : (l.length : Int)≤1010) : shortB l = true:=by simpa [shortB] using h
theorem dX : (∀ (k k' : IntKind) (n : Int),den1 (.wrap k) (.int k' n) = some (.int k (k.wrap n)))∧(∀ (k k' : IntKind) (n : Int),den1 (.kind k) (.int k' n) = some (.int k n))∧(∀ (b : Bool),den1 .not (.bool b) = some (.bool (!b)))∧(∀ (k' : IntKind) (n : Int),den1 .neg (.int k' n) = some (.int .i64 (-n)))∧(∀ (s : ByteArray),den1 .slen (.string s) = some (.int .i64 s.size))∧(∀ (k k' : IntKind) (m n : Int),den2 .add (.int k m) (.int k' n) = some (.int .i64 (m + n)))∧(∀ (k k' : IntKind) (m n : Int),den2 .sub (.int k m) (.int k' n) = some (.int .i64 (m - n)))∧(∀ (k k' : IntKind) (m n : Int),den2 .mul (.int k m) (.int k' n) = some (.int .i64 (m * n)))∧(∀ (k k' : IntKind) (m n : Int),den2 .div (.int k m) (.int k' n) = some (.int .i64 (m.tdiv n)))∧(∀ (k k' : IntKind) (m n : Int),den2 .mod (.int k m) (.int k' n) = some (.int .i64 (m.tmod n)))∧(∀ (k k' : IntKind) (m n : Int),den2 .lt (.int k m) (.int k' n) = some (.bool (decide (m < n))))∧(∀ (k k' : IntKind) (m n : Int),den2 .le (.int k m) (.int k' n) = some (.bool (decide (m≤n))))∧(∀ (k k' : IntKind) (m n : Int),den2 .eq (.int k m) (.int k' n) = some (.bool (m == n)))∧(∀ (a b : Bool),den2 .eqb (.bool a) (.bool b) = some (.bool (a == b)))∧(∀ (a b : ByteArray),den2 .eqs (.string a) (.string b) = some (.bool (a == b)))∧(∀ (a b : ByteArray),den2 .lts (.string a) (.string b) = some (.bool (Op.bytesLess a.toList b.toList)))∧(∀ (a b : ByteArray),den2 .cat (.string a) (.string b) = some (.string (a ++ b)))∧(∀ (a : ByteArray) (k : IntKind) (n : Int),den2 .sat (.string a) (.int k n) = some (.int .u8 ((a[n.toNat]?.map UInt8.toNat).getD 0)))∧(∀ (a b : Bool),den2 .and (.bool a) (.bool b) = some (.bool (a && b)))∧(∀ (a b : Bool),den2 .or (.bool a) (.bool b) = some (.bool (a || b))):=⟨@d_wrap,@d_kind,@d_not,@d_neg,@d_slen,@d_add,@d_sub,@d_mul,@d_div,@d_mod,@d_lt,@d_le,@d_eq,@d_eqb,@d_eqs,@d_lts,@d_cat,@d_sat,@d_and,@d_or⟩
theorem dY : (∀ (l : List Who),den1 .len (whosR l) = some (.int .i64 l.length))∧(∀ (j : Nat) (l : List Who) (k : IntKind) (n : Int),denCell j (whosR l) (.int k n) = (l[n.toNat]?).bind fun p => p.row[j]?)∧(∀ (l : List Who) (k k' : IntKind) (a b : Int),denLsub (whosR l) (.int k a) (.int k' b) = some (whosR ((l.take b.toNat).drop a.toNat)))∧(∀ (a b : List Who),den2 .lcat (whosR a) (whosR b) = some (whosR (a ++ b)))∧(∀ (k : IntKind) (n : Int) (x : Who),den2 .rep (.int k n) (whosR [x]) = some (whosR (List.replicate n.toNat x)))∧(∀ (l : List Shr),den1 .len (shrsR l) = some (.int .i64 l.length))∧(∀ (j : Nat) (l : List Shr) (k : IntKind) (n : Int),denCell j (shrsR l) (.int k n) = (l[n.toNat]?).bind fun p => p.row[j]?)∧(∀ (l : List Shr) (k k' : IntKind) (a b : Int),denLsub (shrsR l) (.int k a) (.int k' b) = some (shrsR ((l.take b.toNat).drop a.toNat)))∧(∀ (a b : List Shr),den2 .lcat (shrsR a) (shrsR b) = some (shrsR (a ++ b))):=⟨@whos_len,@whos_cell,@whos_lsub,@whos_lcat,@whos_rep,@shrs_len,@shrs_cell,@shrs_lsub,@shrs_lcat⟩
theorem dZ : (∀ (b b2 : Bool),(Value.bool b = Value.bool b2) = (b = b2))∧(∀ (k : IntKind) (n : Int) (k2 : IntKind) (n2 : Int),(Value.int k n = Value.int k2 n2) = (k = k2∧n = n2))∧(∀ {p : Prop} [Decidable p],(decide p = true) = p)∧(∀ {p : Prop} [Decidable p],decide p = false↔¬ p)∧(∀ (p : Prop),(p∧True) = p)∧(∀ (p : Prop),(True∧p) = p)∧(∀ {a b c : Prop},(a∧b→c)↔(a→b→c)):=⟨@Value.bool.injEq,@Value.int.injEq,@decide_eq_true_eq,@decide_eq_false_iff_not,@and_true,@true_and,@and_imp⟩
end Go.Proofs.YtckefonlahokkaaGreatDoor.Zs
