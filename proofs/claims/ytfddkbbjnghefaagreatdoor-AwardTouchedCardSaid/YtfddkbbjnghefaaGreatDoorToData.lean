/-
  Fractions over whole numbers: greatest common divisors, lowest terms, sums, products, orders.
-/
import Derived.Test.YtfddkbbjnghefaaGreatDoorToEvS
import Derived.IntWalk
set_option linter.unusedSimpArgs false
set_option linter.unusedVariables false
namespace Go.Proofs.YtfddkbbjnghefaaGreatDoor.Zs
def zY (n low high : Int) : Bool:=decide (low≤n) && decide (n≤high)
def gcdI (a b : Int) : Int:=(Int.gcd a b : Nat)
def lastE : Nat→Int→Int→Int
 | 0,a,_ => a
 | n + 1,a,b => if b = 0 then a else lastE n b (a.tmod b)
def lastI (a b : Int) : Int:=lastE (b.natAbs + 1) a b
def wideB (a : Int) : Bool:=decide (-4000000000000000000≤a) && decide (a≤4000000000000000000)
def validB (n d : Int) : Bool:=zY d 1 1000000 && (zY n (-1000000000000) 1000000000000 && gcdI n d == 1)
def lowN (n d : Int) : Int:=n.tdiv (gcdI n d)
def lowD (n d : Int) : Int:=d.tdiv (gcdI n d)
def lowB (n d : Int) : Bool:=validB (lowN n d) (lowD n d)
def canB (n d : Int) : Bool:=wideB n && (wideB d && decide (0 < d))
def lowR (n d : Int) : Int×Int×Int:=if lowB n d = true then (lowN n d,lowD n d,0) else (0,0,2)
def numB (n d : Int) : Bool:=!(d == 0) && (zY n (-1000000000000000) 1000000000000000 && zY d (-1000000000000000) 1000000000000000)
def normR (n d : Int) : Int×Int×Int:=if numB n d = true then (if d < 0 then lowR (-n) (-d) else lowR n d) else (0,0,1)
theorem wide_iff (a : Int) : wideB a = true↔-4000000000000000000≤a∧a≤4000000000000000000:=by simp [wideB]
theorem gcd_tmod (a b : Int) : gcdI b (a.tmod b) = gcdI a b:=by
 unfold gcdI
 congr 1
 rw [Int.gcd_comm a b]
 simp only [Int.gcd,Int.natAbs_tmod]
 rw [Nat.gcd_comm b.natAbs (a.natAbs % b.natAbs),← Nat.gcd_rec]
theorem tmod_lt (a b : Int) (h : b≠0) : (a.tmod b).natAbs < b.natAbs:=by
 rw [Int.natAbs_tmod]
 exact Nat.mod_lt _ (by omega)
theorem lastE_more : ∀ (n : Nat) (a b : Int),b.natAbs < n→lastE n a b = lastE (b.natAbs + 1) a b
 | 0,a,b,h => by omega
 | n + 1,a,b,h => by
   by_cases hb : b = 0
   ·simp [lastE,hb]
   ·have h1:=tmod_lt a b hb
    simp only [lastE,hb,if_false]
    rw [lastE_more n b (a.tmod b) (by omega)]
    cases hk : b.natAbs with
    | zero => omega
    | succ k => rw [lastE_more (k + 1) b (a.tmod b) (by omega)]
termination_by n => n
theorem lastI_zero (a : Int) : lastI a 0 = a:=by simp [lastI,lastE]
theorem lastI_step (a b : Int) (h : b≠0) : lastI a b = lastI b (a.tmod b):=by
 have h1:=tmod_lt a b h
 conv => lhs; unfold lastI
 simp only [lastE,h,if_false]
 exact lastE_more _ _ _ h1
theorem lastI_gcd : ∀ (n : Nat) (a b : Int),b.natAbs < n→((lastI a b).natAbs : Int) = gcdI a b
 | 0,a,b,h => by omega
 | n + 1,a,b,h => by
   by_cases hb : b = 0
   ·subst hb
    simp [lastI_zero,gcdI]
   ·have h1:=tmod_lt a b hb
    rw [lastI_step a b hb,lastI_gcd n b (a.tmod b) (by omega),gcd_tmod]
theorem last_gcd (a b : Int) : ((lastI a b).natAbs : Int) = gcdI a b:=lastI_gcd _ a b (Nat.lt_succ_self _)
theorem wide_tmod {a b : Int} (hb : wideB b = true) (h : b≠0) : wideB (a.tmod b) = true:=by
 have:=tmod_lt a b h
 rw [wide_iff] at *
 omega
theorem last_wide {a b : Int} (ha : wideB a = true) (hb : wideB b = true) : wideB (lastI a b) = true:=by
 have key : ∀ (n : Nat) (a b : Int),b.natAbs < n→wideB a = true→wideB b = true→wideB (lastI a b) = true:=by
  intro n
  induction n with
  | zero => intro a b h; omega
  | succ n ih =>
    intro a b h ha hb
    by_cases h0 : b = 0
    ·subst h0; rw [lastI_zero]; exact ha
    ·have:=tmod_lt a b h0
     rw [lastI_step a b h0]
     exact ih b (a.tmod b) (by omega) hb (wide_tmod hb h0)
 exact key _ a b (Nat.lt_succ_self _) ha hb
theorem low_spec (n d : Int) (hd : 0 < d) : 0 < gcdI n d∧lowN n d * gcdI n d = n∧lowD n d * gcdI n d = d∧0 < lowD n d∧gcdI (lowN n d) (lowD n d) = 1:=by
 have hg : 0 < Int.gcd n d:=Nat.gcd_pos_of_pos_right _ (by omega)
 have h0 : 0 < gcdI n d:=by unfold gcdI; omega
 have h1 : lowN n d * gcdI n d = n:=Int.tdiv_mul_cancel (Int.gcd_dvd_left n d)
 have h2 : lowD n d * gcdI n d = d:=Int.tdiv_mul_cancel (Int.gcd_dvd_right n d)
 have h3 : 0 < lowD n d:=by
  rcases Int.lt_trichotomy (lowD n d) 0 with h | h | h
  ·have:=Int.mul_neg_of_neg_of_pos h h0; omega
  ·rw [h] at h2; omega
  ·exact h
 refine ⟨h0,h1,h2,h3,?_⟩
 have hm : Int.gcd (lowN n d * gcdI n d) (lowD n d * gcdI n d) = Int.gcd n d:=by rw [h1,h2]
 have hz : (gcdI n d).natAbs = Int.gcd n d:=by simp [gcdI]
 rw [Int.gcd,Int.natAbs_mul,Int.natAbs_mul,Nat.gcd_mul_right,hz] at hm
 have : ((lowN n d).natAbs.gcd (lowD n d).natAbs) = 1:=Nat.eq_of_mul_eq_mul_right hg (by omega)
 unfold gcdI
 rw [Int.gcd,this]; rfl
theorem valid_low {n d : Int} (hd : 0 < d) : lowB n d = (zY (lowD n d) 1 1000000 && zY (lowN n d) (-1000000000000) 1000000000000):=by
 obtain ⟨_,_,_,_,h⟩:=low_spec n d hd
 simp [lowB,validB,h]
theorem can_iff (n d : Int) : canB n d = true↔wideB n = true∧wideB d = true∧0 < d:=by simp [canB]
theorem tdiv_wide {n : Int} (g : Int) (h : wideB n = true) : wideB (n.tdiv g) = true:=by
 have : (n.tdiv g).natAbs≤n.natAbs:=by rw [Int.natAbs_tdiv]; exact Nat.div_le_self _ _
 rw [wide_iff] at *
 omega
theorem gcd_ne {n d : Int} (h : 0 < d) : gcdI n d≠0:=by
 have:=(low_spec n d h).1
 omega
open Go
def vI : Value→Int
 | .int _ n => n
 | _ => 0
def vS : Value→ByteArray
 | .string s => s
 | _ => default
def lastK (k k' : IntKind) (a b : Int) : IntKind:=if b = 0 then k else if a.tmod b = 0 then k' else .i64
theorem lastK_step (k k' : IntKind) (a b : Int) (h : b≠0) : lastK k' .i64 b (a.tmod b) = lastK k k' a b:=by
 unfold lastK
 rw [if_neg h]
 split
 ·rfl
 ·split <;> rfl
structure Who where
 n : Int
instance : DecidableEq Who:=fun a b =>
 decidable_of_iff (a.n = b.n) ⟨fun h => by cases a; cases b; simp_all,fun h => by subst h; simp⟩
def Who.row (p : Who) : List Value:=
 [.int .i64 p.n]
def zP (l : List Who) : Value:=zQ (l.map Who.row)
structure Shr where
 party : Int
 pence : Int
instance : DecidableEq Shr:=fun a b =>
 decidable_of_iff (a.party = b.party∧a.pence = b.pence) ⟨fun h => by cases a; cases b; simp_all,fun h => by subst h; simp⟩
def Shr.row (p : Shr) : List Value:=
 [.int .i64 p.party,.int .i64 p.pence]
structure Rat9 where
 id : Int
 known : Int
 from_ : Int
 goods : ByteArray
 num : Int
 den : Int
 cart : Int
 store : Int
 of_ : Int
instance : DecidableEq Rat9:=fun a b =>
 decidable_of_iff (a.id = b.id∧a.known = b.known∧a.from_ = b.from_∧a.goods = b.goods∧a.num = b.num∧a.den = b.den∧a.cart = b.cart∧a.store = b.store∧a.of_ = b.of_) ⟨fun h => by cases a; cases b; simp_all,fun h => by subst h; simp⟩
def Rat9.row (p : Rat9) : List Value:=
 [.int .i64 p.id,.int .i64 p.known,.int .i64 p.from_,.string p.goods,.int .i64 p.num,.int .i64 p.den,.int .i64 p.cart,.int .i64 p.store,.int .i64 p.of_]
def toRat9 (l : List Value) : Rat9:={
 id:=vI (l.getD 0 default),
 known:=vI (l.getD 1 default),
 from_:=vI (l.getD 2 default),
 goods:=vS (l.getD 3 default),
 num:=vI (l.getD 4 default),
 den:=vI (l.getD 5 default),
 cart:=vI (l.getD 6 default),
 store:=vI (l.getD 7 default),
 of_:=vI (l.getD 8 default) }
def ratSch : List CK:=[.int .i64,.int .i64,.int .i64,.str,.int .i64,.int .i64,.int .i64,.int .i64,.int .i64]
theorem rat_row {r : List Value} (h : RowFits ratSch r) : r = (toRat9 r).row:=by
 unfold ratSch at h
 rcases h with _ | ⟨⟨a0,rfl⟩,h⟩
 rcases h with _ | ⟨⟨a1,rfl⟩,h⟩
 rcases h with _ | ⟨⟨a2,rfl⟩,h⟩
 rcases h with _ | ⟨⟨a3,rfl⟩,h⟩
 rcases h with _ | ⟨⟨a4,rfl⟩,h⟩
 rcases h with _ | ⟨⟨a5,rfl⟩,h⟩
 rcases h with _ | ⟨⟨a6,rfl⟩,h⟩
 rcases h with _ | ⟨⟨a7,rfl⟩,h⟩
 rcases h with _ | ⟨⟨a8,rfl⟩,h⟩
 cases h
 rfl
theorem rats_of {rows : List (List Value)} (h : ∀ r ∈ rows,RowFits ratSch r) : rows = (rows.map toRat9).map Rat9.row:=by
 rw [List.map_map]
 conv => lhs; rw [← List.map_id rows]
 exact List.map_congr_left fun r hr => rat_row (h r hr)
def ratsV : Value→List Rat9
 | .tuple l => l.toList.map fun v => match v with | .agg c => toRat9 c.toList | _ => toRat9 []
 | _ => []
def ratsR (l : List Rat9) : Value:=zQ (l.map Rat9.row)
theorem ratsV_R (l : List Rat9) : ratsV (ratsR l) = l:=by
 simp only [ratsV,ratsR,zQ,List.toList_toArray,List.map_map]
 conv => rhs; rw [← List.map_id l]
 exact List.map_congr_left fun p _ => rfl
structure Sal9 where
 id : Int
 known : Int
 hour : Int
 parcel : Int
 price : Int
 carter : Int
 keeper : Int
 since : Int
 of_ : Int
instance : DecidableEq Sal9:=fun a b =>
 decidable_of_iff (a.id = b.id∧a.known = b.known∧a.hour = b.hour∧a.parcel = b.parcel∧a.price = b.price∧a.carter = b.carter∧a.keeper = b.keeper∧a.since = b.since∧a.of_ = b.of_) ⟨fun h => by cases a; cases b; simp_all,fun h => by subst h; simp⟩
def Sal9.row (p : Sal9) : List Value:=
 [.int .i64 p.id,.int .i64 p.known,.int .i64 p.hour,.int .i64 p.parcel,.int .i64 p.price,.int .i64 p.carter,.int .i64 p.keeper,.int .i64 p.since,.int .i64 p.of_]
structure Fra2 where
 num : Int
 den : Int
instance : DecidableEq Fra2:=fun a b =>
 decidable_of_iff (a.num = b.num∧a.den = b.den) ⟨fun h => by cases a; cases b; simp_all,fun h => by subst h; simp⟩
def Fra2.row (p : Fra2) : List Value:=
 [.int .i64 p.num,.int .i64 p.den]
structure Rec5 where
 k : Int
 id : Int
 known : Int
 of_ : Int
 parcel : Int
instance : DecidableEq Rec5:=fun a b =>
 decidable_of_iff (a.k = b.k∧a.id = b.id∧a.known = b.known∧a.of_ = b.of_∧a.parcel = b.parcel) ⟨fun h => by cases a; cases b; simp_all,fun h => by subst h; simp⟩
def Rec5.row (p : Rec5) : List Value:=
 [.int .i64 p.k,.int .i64 p.id,.int .i64 p.known,.int .i64 p.of_,.int .i64 p.parcel]
def recsR (l : List Rec5) : Value:=zQ (l.map Rec5.row)
structure Flg where
 k : Int
 b : Bool
instance : DecidableEq Flg:=fun a b =>
 decidable_of_iff (a.k = b.k∧a.b = b.b) ⟨fun h => by cases a; cases b; simp_all,fun h => by subst h; simp⟩
def Flg.row (p : Flg) : List Value:=
 [.int .i64 p.k,.bool p.b]
def yH (l : List Flg) : Value:=zQ (l.map Flg.row)
structure Hd3 where
 id : Int
 known : Int
 of_ : Int
instance : DecidableEq Hd3:=fun a b =>
 decidable_of_iff (a.id = b.id∧a.known = b.known∧a.of_ = b.of_) ⟨fun h => by cases a; cases b; simp_all,fun h => by subst h; simp⟩
def Hd3.row (p : Hd3) : List Value:=
 [.int .i64 p.id,.int .i64 p.known,.int .i64 p.of_]
def byteAt (s : ByteArray) (i : Nat) : Int:=(((s[i]?.map UInt8.toNat).getD 0 : Nat) : Int)
def goodsC (n : Int) : Bool:=(decide (97≤n) && decide (n≤122)) || ((decide (48≤n) && decide (n≤57)) || n == 45)
def allUpto (p : Int→Bool) (s : ByteArray) : Nat→Bool
 | 0 => true
 | i + 1 => allUpto p s i && p (byteAt s i)
def goodsAll (s : ByteArray) : Bool:=allUpto goodsC s s.size
def nameB (s : ByteArray) : Bool:=zY s.size 1 24 && ((decide (97≤byteAt s 0) && decide (byteAt s 0≤122)) && (!(s == z7 [97,108,108]) && goodsAll s))
def partB (n d : Int) : Bool:=decide (normR n d = (n,d,0)) && zY n 0 d
def rateB (x : Rat9) : Bool:=
 (zY x.id 1 1000000 && (zY x.known 0 1000000 && zY x.of_ 0 1000000)) &&
 (if x.of_ = 0 then zY x.from_ 0 1000000 && ((x.goods == z7 [] || nameB x.goods) && (partB x.num x.den && (zY x.cart 0 100000 && zY x.store 0 100000)))
  else x.from_ == 0 && (x.goods == z7 [] && (x.num == 0 && (x.den == 0 && (x.cart == 0 && x.store == 0)))))
def saleB (x : Sal9) : Bool:=
 (zY x.id 1 1000000 && (zY x.known 0 1000000 && zY x.of_ 0 1000000)) &&
 (if x.of_ = 0 then zY x.hour 0 x.known && (zY x.parcel 10 10000007 && (zY x.price 1 1000000000 && ((x.carter == 0 || zY x.carter 1 40) && (x.keeper == 0 && x.since == 0 || zY x.keeper 1 40 && zY x.since 0 x.hour))))
  else x.hour == 0 && (x.parcel == 0 && (x.price == 0 && (x.carter == 0 && (x.keeper == 0 && x.since == 0)))))
def hasF (m : List Flg) (k : Int) : Bool:=m.any fun x => x.k == k
def atF (m : List Flg) (k : Int) : Bool:=((m.find? fun x => x.k == k).map Flg.b).getD false
def putF (k : Int) (b : Bool) : List Flg→List Flg
 | [] => [⟨k,b⟩]
 | x :: m => if x.k = k then ⟨k,b⟩ :: m else x :: putF k b m
def delF (k : Int) : List Flg→List Flg
 | [] => []
 | x :: m => if x.k = k then m else x :: delF k m
def hasR (m : List Rec5) (k : Int) : Bool:=m.any fun x => x.k == k
def getR (m : List Rec5) (k : Int) : Rec5:=(m.find? fun x => x.k == k).getD ⟨0,0,0,0,0⟩
def putR (y : Rec5) : List Rec5→List Rec5
 | [] => [y]
 | x :: m => if x.k = y.k then y :: m else x :: putR y m
def zg (l : List Who) : List Who:=((l.map Who.n).mergeSort fun x y => decide (x≤y)).map Who.mk
def hasH (h : List Hd3) (id : Int) : Bool:=h.any fun y => y.id == id
def zt (l : List Rat9) : List Hd3:=l.map fun x => ⟨x.id,x.known,x.of_⟩
def recHd (x : Hd3) : Rec5:=⟨x.id,x.id,x.known,x.of_,0⟩
def recMh (h : List Hd3) : List Rec5:=h.foldl (fun m x => putR (recHd x) m) []
def voidMh (h : List Hd3) : List Flg:=h.foldl (fun m x => if x.of_ = 0 then m else putF x.of_ true m) []
def lastSh (h : List Hd3) : Int:=h.foldl (fun _ x => x.known) 0
theorem recMh_snoc (l : List Hd3) (x : Hd3) : recMh (l ++ [x]) = putR (recHd x) (recMh l):=by simp [recMh]
theorem voidMh_snoc (l : List Hd3) (x : Hd3) : voidMh (l ++ [x]) = if x.of_ = 0 then voidMh l else putF x.of_ true (voidMh l):=by simp [voidMh]
theorem lastSh_snoc (l : List Hd3) (x : Hd3) : lastSh (l ++ [x]) = x.known:=by simp [lastSh]
def refH (pre : List Hd3) (x : Hd3) : Int:=
 bif hasR (recMh pre) x.id then 6 else bif decide (x.known < lastSh pre) then 7 else
  bif x.of_ == 0 then 0
  else bif hasR (recMh pre) x.of_ && (getR (recMh pre) x.of_).of_ == 0 then (bif atF (voidMh pre) x.of_ then 6 else 0) else 5
def zy : Rat9:=⟨0,0,0,z7 [],0,0,0,0,0⟩
def badR (l : List Rat9) (i : Nat) : Int:=if i = 100 then 2 else
 bif rateB (l.getD i zy) then refH (zt (l.take i)) ⟨(l.getD i zy).id,(l.getD i zy).known,(l.getD i zy).of_⟩ else 1
def stopR (l : List Rat9) : Option Nat:=(List.range l.length).find? fun i => !(badR l i == 0)
def chkER (l : List Rat9) : Int:=match stopR l with
 | some i => badR l i
 | none => 0
def chkIR (l : List Rat9) : Int:=match stopR l with
 | some i => (i : Int)
 | none => 0
theorem stopR_none {l : List Rat9} (h : ∀ i,i < l.length→badR l i = 0) : stopR l = none:=by
 unfold stopR
 rw [List.find?_eq_none]
 intro i hi
 simp [h i (List.mem_range.1 hi)]
theorem stopR_some {l : List Rat9} {i : Nat} (hi : i < l.length) (h : ∀ j,j < i→badR l j = 0) (hb : badR l i≠0) : stopR l = some i:=by
 unfold stopR
 rw [List.find?_range_eq_some]
 refine ⟨by simpa using hb,List.mem_range.2 hi,fun j hj => by simp [h j hj]⟩
def okR9 (l : List Rat9) : Bool:=decide ((l.length : Int)≤1010) && l.all fun x => decide ((x.goods.size : Int)≤100)
def y5 (l : List Hd3) (K : Int) : List Flg:=l.foldl (fun m x => if x.of_≠0∧x.known≤K then putF x.of_ true m else m) []
theorem voidKh_snoc (l : List Hd3) (K : Int) (x : Hd3) : y5 (l ++ [x]) K = if x.of_≠0∧x.known≤K then putF x.of_ true (y5 l K) else y5 l K:=by simp [y5]
def cntR (l : List Rat9) (K : Int) (x : Rat9) : Bool:=(x.of_ == 0 && decide (x.known≤K)) && !(atF (y5 (zt l) K) x.id)
def forR (g : ByteArray) (h : Int) (x : Rat9) : Bool:=(x.goods == g || x.goods == z7 []) && decide (x.from_≤h)
def precI (g : ByteArray) (f : Int) (g' : ByteArray) (f' : Int) : Int:=
 bif Op.bytesLess g.toList g'.toList then -1 else bif Op.bytesLess g.toList g'.toList || g == g' then (bif decide (f < f') then -1 else bif decide (f' < f) then 1 else 0) else 1
def precR (a b : Rat9) : Bool:=decide (0≤precI a.goods a.from_ b.goods b.from_)
def stepR (l : List Rat9) (g : ByteArray) (h K : Int) (best : Option Rat9) (x : Rat9) : Option Rat9:=
 if (cntR l K x && forR g h x) && (match best with | none => true | some b => precR x b) then some x else best
def inFk (l : List Rat9) (g : ByteArray) (h K : Int) (i : Nat) : Option Rat9:=(l.take i).foldl (stepR l g h K) none
def inF (l : List Rat9) (g : ByteArray) (h K : Int) : Option Rat9:=l.foldl (stepR l g h K) none
theorem inFk_next {l : List Rat9} {g : ByteArray} {h K : Int} {i : Nat} {x : Rat9} (hp : l[i]? = some x) : inFk l g h K (i + 1) = stepR l g h K (inFk l g h K i) x:=by
 unfold inFk
 rw [List.take_add_one,hp]
 simp
theorem inFk_all {l : List Rat9} {g : ByteArray} {h K : Int} {i : Nat} (hi : l.length≤i) : inFk l g h K i = inF l g h K:=by
 unfold inFk inF
 rw [List.take_of_length_le hi]
def za (l : List Rat9) (g : ByteArray) (h K : Int) (j : Int) : Option Value:=(((inF l g h K).getD zy).row)[j.toNat]?
def cmpI (l : List Int) : List Int:=l.foldl (fun acc x => if acc.getLast? = some x then acc else acc ++ [x]) []
theorem cmpI_snoc (l : List Int) (x : Int) : cmpI (l ++ [x]) = if (cmpI l).getLast? = some x then cmpI l else cmpI l ++ [x]:=by unfold cmpI; rw [List.foldl_append]; rfl
def zO (l : List Who) : List Who:=(cmpI (l.map Who.n)).map Who.mk
def zj (l : List Rat9) : List Who:=l.map fun x => ⟨x.from_⟩
def begW (l : List Rat9) : List Who:=zO (zg (zj l))
def idAt (l : List Rat9) (g : ByteArray) (h K : Int) : Int:=((inF l g h K).getD zy).id
def turnStep (l : List Rat9) (g : ByteArray) (K : Int) (s : Int×List Who) (w : Who) : Int×List Who:=
 (idAt l g w.n K,if idAt l g w.n K = s.1 then s.2 else s.2 ++ [w])
def zN (l : List Rat9) (g : ByteArray) (K : Int) (i : Nat) : Int×List Who:=((begW l).take i).foldl (turnStep l g K) (0,[])
def zV (l : List Rat9) (g : ByteArray) (K : Int) : List Who:=((begW l).foldl (turnStep l g K) (0,[])).2
theorem turnsI_next {l : List Rat9} {g : ByteArray} {K : Int} {i : Nat} {w : Who} (hp : (begW l)[i]? = some w) : zN l g K (i + 1) = turnStep l g K (zN l g K i) w:=by
 unfold zN
 rw [List.take_add_one,hp]
 simp
theorem turnsI_all {l : List Rat9} {g : ByteArray} {K : Int} {i : Nat} (hi : (begW l).length≤i) : (zN l g K i).2 = zV l g K:=by
 unfold zN zV
 rw [List.take_of_length_le hi]
structure Tch where
 from_ : Int
 until_ : Int
 is : Bool
def tchStep (l m : List Rat9) (g : ByteArray) (K : Int) (s : Tch) (h next : Int) : Tch:=
 if idAt l g h K = idAt m g h K then s else ⟨if s.is then s.from_ else h,IntKind.i64.wrap (next - 1),true⟩
def yM (m : List Rat9) : List Who:=begW m ++ [⟨1000001⟩]
def tchI (l m : List Rat9) (g : ByteArray) (K : Int) : Nat→Tch
 | 0 => ⟨0,0,false⟩
 | i + 1 => tchStep l m g K (tchI l m g K i) ((yM m).getD i ⟨0⟩).n ((yM m).getD (i + 1) ⟨0⟩).n
def tch (l m : List Rat9) (g : ByteArray) (K : Int) : Tch:=tchI l m g K (begW m).length
def sy : Nat→List Value→Option Value
 | 10,[.int _ a,.int _ b,.int _ c] => some (.bool (zY a b c))
 | 113,[.tuple rs] => some (zQ (yg (sortK (rowsOf rs))))
 | 50,[.int _ a,.int _ b] => some (.int .i64 (gcdI a b))
 | 52,[.int k a,.int k' b] => some (.int (lastK k k' a b) (lastI a b))
 | 53,[.int _ n,.int _ d] => some (.int .i64 (lowN n d))
 | 54,[.int _ n,.int _ d] => some (.int .i64 (lowD n d))
 | 58,[.int _ n,.int _ d] => some (.bool (canB n d))
 | 59,[.int _ a] => some (.int .i64 a.natAbs)
 | 55,[.int _ a] => some (.bool (wideB a))
 | 70,[.int _ n,.int _ d] => some (.int .i64 (normR n d).1)
 | 71,[.int _ n,.int _ d] => some (.int .i64 (normR n d).2.1)
 | 72,[.int _ n,.int _ d] => some (.int .i64 (normR n d).2.2)
 | 24,[.string s] => some (.bool (goodsAll s))
 | 133,[.string s] => some (.bool (nameB s))
 | 132,[.int _ n,.int _ d] => some (.bool (partB n d))
 | 130,[.int _ a0,.int _ a1,.int _ a2,.string a3,.int _ a4,.int _ a5,.int _ a6,.int _ a7,.int _ a8] => some (.bool (rateB ⟨a0,a1,a2,a3,a4,a5,a6,a7,a8⟩))
 | 131,[.int _ b0,.int _ b1,.int _ b2,.int _ b3,.int _ b4,.int _ b5,.int _ b6,.int _ b7,.int _ b8] => some (.bool (saleB ⟨b0,b1,b2,b3,b4,b5,b6,b7,b8⟩))
 | 200,[a] => some (.int .i64 (chkER (ratsV a)))
 | 201,[a] => some (.int .i64 (chkIR (ratsV a)))
 | 202,[a] => some (.bool (okR9 (ratsV a)))
 | 203,[a,.int _ K] => some (yH (y5 (zt (ratsV a)) K))
 | 204,[a,.string g,.int _ h,.int _ K] => some (.bool (inF (ratsV a) g h K).isSome)
 | 205,[a,.string g,.int _ h,.int _ K,.int _ j] => za (ratsV a) g h K j
 | 207,[.string g,.int _ f,.string g',.int _ f'] => some (.int .i64 (precI g f g' f'))
 | 208,[a] => some (zP (zj (ratsV a)))
 | 209,[.tuple rs] => some (zQ (yg (cmpI ((rowsOf rs).map keyI))))
 | 210,[a,.string g,.int _ K] => some (zP (zV (ratsV a) g K))
 | 211,[a,b,.string g,.int _ K] => some (.int .i64 (tch (ratsV a) (ratsV b) g K).from_)
 | 212,[a,b,.string g,.int _ K] => some (.int .i64 (tch (ratsV a) (ratsV b) g K).until_)
 | 213,[a,b,.string g,.int _ K] => some (.bool (tch (ratsV a) (ratsV b) g K).is)
 | _,_ => none
open Go
theorem d_wrap (k k' : IntKind) (n : Int) : den1 (.wrap k) (.int k' n) = some (.int k (k.wrap n)):=rfl
theorem d_kind (k k' : IntKind) (n : Int) : den1 (.kind k) (.int k' n) = some (.int k n):=rfl
theorem d_not (b : Bool) : den1 .not (.bool b) = some (.bool (!b)):=rfl
theorem d_neg (k' : IntKind) (n : Int) : den1 .neg (.int k' n) = some (.int .i64 (-n)):=rfl
theorem d_slen (s : ByteArray) : den1 .slen (.string s) = some (.int .i64 s.size):=rfl
theorem d_add (k k' : IntKind) (m n : Int) : den2 .add (.int k m) (.int k' n) = some (.int .i64 (m + n)):=rfl
theorem d_sub (k k' : IntKind) (m n : Int) : den2 .sub (.int k m) (.int k' n) = some (.int .i64 (m - n)):=rfl
theorem d_mul (k k' : IntKind) (m n : Int) : den2 .mul (.int k m) (.int k' n) = some (.int .i64 (m * n)):=rfl
theorem d_div (k k' : IntKind) (m n : Int) : den2 .div (.int k m) (.int k' n) = some (.int .i64 (m.tdiv n)):=rfl
theorem d_mod (k k' : IntKind) (m n : Int) : den2 .mod (.int k m) (.int k' n) = some (.int .i64 (m.tmod n)):=rfl
theorem d_lt (k k' : IntKind) (m n : Int) : den2 .lt (.int k m) (.int k' n) = some (.bool (decide (m < n))):=rfl
theorem d_le (k k' : IntKind) (m n : Int) : den2 .le (.int k m) (.int k' n) = some (.bool (decide (m≤n))):=rfl
theorem d_eq (k k' : IntKind) (m n : Int) : den2 .eq (.int k m) (.int k' n) = some (.bool (m == n)):=rfl
theorem d_eqb (a b : Bool) : den2 .eqb (.bool a) (.bool b) = some (.bool (a == b)):=rfl
theorem d_eqs (a b : ByteArray) : den2 .eqs (.string a) (.string b) = some (.bool (a == b)):=rfl
theorem d_lts (a b : ByteArray) : den2 .lts (.string a) (.string b) = some (.bool (Op.bytesLess a.toList b.toList)):=rfl
theorem d_cat (a b : ByteArray) : den2 .cat (.string a) (.string b) = some (.string (a ++ b)):=rfl
theorem d_sat (a : ByteArray) (k : IntKind) (n : Int) : den2 .sat (.string a) (.int k n) = some (.int .u8 ((a[n.toNat]?.map UInt8.toNat).getD 0)):=rfl
theorem d_and (a b : Bool) : den2 .and (.bool a) (.bool b) = some (.bool (a && b)):=rfl
theorem d_or (a b : Bool) : den2 .or (.bool a) (.bool b) = some (.bool (a || b)):=rfl
theorem d_mhas (a : List (List Value)) (k : List Value) : den2 .mhas (zQ a) (zQ [k]) = some (.bool (mapHas a k)):=by
 simp only [zQ,den2,rowsOf_V,keyRow_V]
theorem d_mat (j : Nat) (a : List (List Value)) (k : List Value) : den2 (.mat j) (zQ a) (zQ [k]) = mapAt a k j:=by
 simp only [zQ,den2,rowsOf_V,keyRow_V]
theorem d_mput (n : Nat) (a : List (List Value)) (k : List Value) : den2 (.mput n) (zQ a) (zQ [k]) = some (zQ (putRow (k.take n) k a)):=by
 simp only [zQ,den2,rowsOf_V,keyRow_V]
theorem whos_len (l : List Who) : den1 .len (zP l) = some (.int .i64 l.length):=by simp [den1,zP,zQ]
theorem whos_cell (j : Nat) (l : List Who) (k : IntKind) (n : Int) : denCell j (zP l) (.int k n) = (l[n.toNat]?).bind fun p => p.row[j]?:=by
 simp only [denCell,zP,zQ,List.getElem?_toArray,List.getElem?_map]
 cases l[n.toNat]? <;> simp
theorem whos_lsub (l : List Who) (k k' : IntKind) (a b : Int) : denLsub (zP l) (.int k a) (.int k' b) = some (zP ((l.take b.toNat).drop a.toNat)):=by
 simp only [zP,zQ,denLsub]
 congr 2
 apply Array.ext'
 simp [List.map_take,List.map_drop,List.extract_eq_take_drop,List.drop_take]
theorem whos_snoc (l : List Who) (x : Who) : yP (zP l) [.int .i64 x.n] = some (zP (l ++ [x])):=by
 simp [yP,zP,zQ,Who.row]
theorem whos_snoc0 (x : Who) : yP (.tuple #[]) [.int .i64 x.n] = some (zP [x]):=whos_snoc [] x
theorem who0 (p : Who) : p.row[0]? = some (.int .i64 p.n):=rfl
theorem rats_len (l : List Rat9) : den1 .len (ratsR l) = some (.int .i64 l.length):=by simp [den1,ratsR,zQ]
theorem zU (j : Nat) (l : List Rat9) (k : IntKind) (n : Int) : denCell j (ratsR l) (.int k n) = (l[n.toNat]?).bind fun p => p.row[j]?:=by
 simp only [denCell,ratsR,zQ,List.getElem?_toArray,List.getElem?_map]
 cases l[n.toNat]? <;> simp
theorem rats_lsub (l : List Rat9) (k k' : IntKind) (a b : Int) : denLsub (ratsR l) (.int k a) (.int k' b) = some (ratsR ((l.take b.toNat).drop a.toNat)):=by
 simp only [ratsR,zQ,denLsub]
 congr 2
 apply Array.ext'
 simp [List.map_take,List.map_drop,List.extract_eq_take_drop,List.drop_take]
theorem rats_snoc (l : List Rat9) (x : Rat9) : yP (ratsR l) [.int .i64 x.id,.int .i64 x.known,.int .i64 x.from_,.string x.goods,.int .i64 x.num,.int .i64 x.den,.int .i64 x.cart,.int .i64 x.store,.int .i64 x.of_] = some (ratsR (l ++ [x])):=by
 simp [yP,ratsR,zQ,Rat9.row]
theorem rats_snoc0 (x : Rat9) : yP (.tuple #[]) [.int .i64 x.id,.int .i64 x.known,.int .i64 x.from_,.string x.goods,.int .i64 x.num,.int .i64 x.den,.int .i64 x.cart,.int .i64 x.store,.int .i64 x.of_] = some (ratsR [x]):=rats_snoc [] x
theorem rat0 (p : Rat9) : p.row[0]? = some (.int .i64 p.id):=rfl
theorem rat1 (p : Rat9) : p.row[1]? = some (.int .i64 p.known):=rfl
theorem rat2 (p : Rat9) : p.row[2]? = some (.int .i64 p.from_):=rfl
theorem rat3 (p : Rat9) : p.row[3]? = some (.string p.goods):=rfl
theorem rat4 (p : Rat9) : p.row[4]? = some (.int .i64 p.num):=rfl
theorem rat5 (p : Rat9) : p.row[5]? = some (.int .i64 p.den):=rfl
theorem rat6 (p : Rat9) : p.row[6]? = some (.int .i64 p.cart):=rfl
theorem rat7 (p : Rat9) : p.row[7]? = some (.int .i64 p.store):=rfl
theorem rat8 (p : Rat9) : p.row[8]? = some (.int .i64 p.of_):=rfl
def ratLeaves (v : Nat) : List Leaf:=[.int .i64 (v + 0),.int .i64 (v + 1),.int .i64 (v + 2),.str (v + 3),.int .i64 (v + 4),.int .i64 (v + 5),.int .i64 (v + 6),.int .i64 (v + 7),.int .i64 (v + 8)]
structure Rat9At (ρ : Rho) (v : Nat) (k : Nat→IntKind) (p : Rat9) : Prop where
 h0 : ρ.val (v + 0) = some (.int (k 0) p.id)
 h1 : ρ.val (v + 1) = some (.int (k 1) p.known)
 h2 : ρ.val (v + 2) = some (.int (k 2) p.from_)
 h3 : ρ.val (v + 3) = some (.string p.goods)
 h4 : ρ.val (v + 4) = some (.int (k 4) p.num)
 h5 : ρ.val (v + 5) = some (.int (k 5) p.den)
 h6 : ρ.val (v + 6) = some (.int (k 6) p.cart)
 h7 : ρ.val (v + 7) = some (.int (k 7) p.store)
 h8 : ρ.val (v + 8) = some (.int (k 8) p.of_)
theorem rat_agg {σ : Sig} {v : Nat} {u : Value} (h : (Arg.agg (ratLeaves v)).av.inst σ = some u) : ∃ (p : Rat9) (k : Nat→IntKind),u = .agg p.row.toArray∧Rat9At σ.rho v k p:=by
 obtain ⟨vs,rfl,gs⟩:=AV.inst_agg h
 obtain ⟨x0,vs,rfl,g0,gs⟩:=zn gs
 obtain ⟨x1,vs,rfl,g1,gs⟩:=zn gs
 obtain ⟨x2,vs,rfl,g2,gs⟩:=zn gs
 obtain ⟨x3,vs,rfl,g3,gs⟩:=zn gs
 obtain ⟨x4,vs,rfl,g4,gs⟩:=zn gs
 obtain ⟨x5,vs,rfl,g5,gs⟩:=zn gs
 obtain ⟨x6,vs,rfl,g6,gs⟩:=zn gs
 obtain ⟨x7,vs,rfl,g7,gs⟩:=zn gs
 obtain ⟨x8,vs,rfl,g8,gs⟩:=zn gs
 cases gs
 obtain ⟨a0,k0,rfl,h0⟩:=yl g0
 obtain ⟨a1,k1,rfl,h1⟩:=yl g1
 obtain ⟨a2,k2,rfl,h2⟩:=yl g2
 obtain ⟨a3,rfl,h3⟩:=one_str g3
 obtain ⟨a4,k4,rfl,h4⟩:=yl g4
 obtain ⟨a5,k5,rfl,h5⟩:=yl g5
 obtain ⟨a6,k6,rfl,h6⟩:=yl g6
 obtain ⟨a7,k7,rfl,h7⟩:=yl g7
 obtain ⟨a8,k8,rfl,h8⟩:=yl g8
 exact ⟨⟨a0,a1,a2,a3,a4,a5,a6,a7,a8⟩,fun i => [k0,k1,k2,.i64,k4,k5,k6,k7,k8].getD i .i64,rfl,⟨h0,h1,h2,h3,h4,h5,h6,h7,h8⟩⟩
def ratsArg (i b : Nat) : Arg:=.list i 9 ratSch 26 b (b + 1) (b + 2)
theorem rats_at {P : Program} {l : List (Nat×ABlock)} {N i : Nat} {b x : X} {own : Bool} {t : TypeId} {σ : Sig} {w : World} {Wr : Nat→Prop} (hrel : (memOf l N).rel P σ w Wr) (hg : (yf l).get i = some (.rows 9 ratSch b x own t)) :
  ∃ ps : List Rat9,x.den σ.rho = some (ratsR ps):=by
 obtain ⟨rows,h1,h2⟩:=rows_at hrel hg
 exact ⟨rows.map toRat9,by rw [h1,ratsR,← rats_of h2]⟩
def fraLeaves (v : Nat) : List Leaf:=[.int .i64 (v + 0),.int .i64 (v + 1)]
structure Fra2At (ρ : Rho) (v : Nat) (k : Nat→IntKind) (p : Fra2) : Prop where
 h0 : ρ.val (v + 0) = some (.int (k 0) p.num)
 h1 : ρ.val (v + 1) = some (.int (k 1) p.den)
theorem fra_agg {σ : Sig} {v : Nat} {u : Value} (h : (Arg.agg (fraLeaves v)).av.inst σ = some u) : ∃ (p : Fra2) (k : Nat→IntKind),u = .agg p.row.toArray∧Fra2At σ.rho v k p:=by
 obtain ⟨vs,rfl,gs⟩:=AV.inst_agg h
 obtain ⟨x0,vs,rfl,g0,gs⟩:=zn gs
 obtain ⟨x1,vs,rfl,g1,gs⟩:=zn gs
 cases gs
 obtain ⟨a0,k0,rfl,h0⟩:=yl g0
 obtain ⟨a1,k1,rfl,h1⟩:=yl g1
 exact ⟨⟨a0,a1⟩,fun i => [k0,k1].getD i .i64,rfl,⟨h0,h1⟩⟩
theorem recs_snoc (l : List Rec5) (x : Rec5) : yP (recsR l) [.int .i64 x.k,.int .i64 x.id,.int .i64 x.known,.int .i64 x.of_,.int .i64 x.parcel] = some (recsR (l ++ [x])):=by
 simp [yP,recsR,zQ,Rec5.row]
theorem recs_snoc0 (x : Rec5) : yP (.tuple #[]) [.int .i64 x.k,.int .i64 x.id,.int .i64 x.known,.int .i64 x.of_,.int .i64 x.parcel] = some (recsR [x]):=recs_snoc [] x
theorem flgs_snoc (l : List Flg) (x : Flg) : yP (yH l) [.int .i64 x.k,.bool x.b] = some (yH (l ++ [x])):=by
 simp [yP,yH,zQ,Flg.row]
theorem flgs_snoc0 (x : Flg) : yP (.tuple #[]) [.int .i64 x.k,.bool x.b] = some (yH [x]):=flgs_snoc [] x
theorem hd0 (p : Hd3) : p.row[0]? = some (.int .i64 p.id):=rfl
theorem hd1 (p : Hd3) : p.row[1]? = some (.int .i64 p.known):=rfl
theorem whos_lcat (a b : List Who) : den2 .lcat (zP a) (zP b) = some (zP (a ++ b)):=by
 simp [den2,zP,zQ]
theorem whos_rep (k : IntKind) (n : Int) (x : Who) : den2 .rep (.int k n) (zP [x]) = some (zP (List.replicate n.toNat x)):=by
 simp [den2,zP,zQ]
theorem sym10 (k0 k1 k2 : IntKind) (a b c : Int) : sy 10 [.int k0 a,.int k1 b,.int k2 c] = some (.bool (zY a b c)):=rfl
theorem whos_snocN (l : List Who) (n : Int) : yP (zP l) [.int .i64 n] = some (zP (l ++ [⟨n⟩])):=whos_snoc l ⟨n⟩
theorem zH (n : Int) : yP (.tuple #[]) [.int .i64 n] = some (zP [⟨n⟩]):=whos_snoc0 ⟨n⟩
theorem sym113R (rows : List (List Value)) : sy 113 [zQ rows] = some (zQ (yg (sortK rows))):=congrArg (fun l => some (zQ (yg (sortK l)))) (rowsOf_V rows)
theorem sym50 (k0 k1 : IntKind) (a b : Int) : sy 50 [.int k0 a,.int k1 b] = some (.int .i64 (gcdI a b)):=rfl
theorem sym52 (k0 k1 : IntKind) (a b : Int) : sy 52 [.int k0 a,.int k1 b] = some (.int (lastK k0 k1 a b) (lastI a b)):=rfl
theorem sym53 (k0 k1 : IntKind) (a b : Int) : sy 53 [.int k0 a,.int k1 b] = some (.int .i64 (lowN a b)):=rfl
theorem sym54 (k0 k1 : IntKind) (a b : Int) : sy 54 [.int k0 a,.int k1 b] = some (.int .i64 (lowD a b)):=rfl
theorem sym58 (k0 k1 : IntKind) (a b : Int) : sy 58 [.int k0 a,.int k1 b] = some (.bool (canB a b)):=rfl
theorem sym59 (k0 : IntKind) (a : Int) : sy 59 [.int k0 a] = some (.int .i64 a.natAbs):=rfl
theorem sym55 (k0 : IntKind) (a : Int) : sy 55 [.int k0 a] = some (.bool (wideB a)):=rfl
theorem sym70 (k0 k1 : IntKind) (a b : Int) : sy 70 [.int k0 a,.int k1 b] = some (.int .i64 (normR a b).1):=rfl
theorem sym71 (k0 k1 : IntKind) (a b : Int) : sy 71 [.int k0 a,.int k1 b] = some (.int .i64 (normR a b).2.1):=rfl
theorem sym72 (k0 k1 : IntKind) (a b : Int) : sy 72 [.int k0 a,.int k1 b] = some (.int .i64 (normR a b).2.2):=rfl
theorem sym132 (k0 k1 : IntKind) (a b : Int) : sy 132 [.int k0 a,.int k1 b] = some (.bool (partB a b)):=rfl
theorem sym24 (s : ByteArray) : sy 24 [.string s] = some (.bool (goodsAll s)):=rfl
theorem sym133 (s : ByteArray) : sy 133 [.string s] = some (.bool (nameB s)):=rfl
theorem sym130 (k0 k1 k2 k4 k5 k6 k7 k8 : IntKind) (a0 a1 a2 a4 a5 a6 a7 a8 : Int) (a3 : ByteArray) : sy 130 [.int k0 a0,.int k1 a1,.int k2 a2,.string a3,.int k4 a4,.int k5 a5,.int k6 a6,.int k7 a7,.int k8 a8] = some (.bool (rateB ⟨a0,a1,a2,a3,a4,a5,a6,a7,a8⟩)):=rfl
theorem begins_F (k : Int) (x : Flg) : y8 [.int .i64 k] x.row = decide (x.k = k):=by
 simp only [Flg.row,y8,sameV]
 rw [Bool.eq_iff_iff]
 simp
 exact eq_comm
theorem has_F (m : List Flg) (k : Int) : mapHas (m.map Flg.row) [.int .i64 k] = hasF m k:=by
 simp only [mapHas,hasF,List.any_map]
 congr 1
 funext x
 simp only [Function.comp,begins_F]
 rw [Bool.eq_iff_iff]; simp
theorem at_F (m : List Flg) (k : Int) : mapAt (m.map Flg.row) [.int .i64 k] 1 = if hasF m k then some (.bool (atF m k)) else none:=by
 induction m with
 | nil => rfl
 | cons x m ih =>
   simp only [mapAt,mapRow,List.map_cons,List.find?_cons,begins_F,hasF,List.any_cons,atF] at ih ⊢
   by_cases h : x.k = k
   ·simp [h,Flg.row]
   ·have h' : (x.k == k) = false:=beq_eq_false_iff_ne.2 h
    simp only [h,decide_false,h',Bool.false_or]
    exact ih
theorem put_F (m : List Flg) (k : Int) (b : Bool) : putRow [.int .i64 k] [.int .i64 k,.bool b] (m.map Flg.row) = (putF k b m).map Flg.row:=by
 induction m with
 | nil => rfl
 | cons x m ih =>
   simp only [List.map_cons,putRow,begins_F,putF]
   by_cases h : x.k = k
   ·simp [h,Flg.row]
   ·simp [h,ih]
theorem del_F (m : List Flg) (k : Int) : delRow [.int .i64 k] (m.map Flg.row) = (delF k m).map Flg.row:=by
 induction m with
 | nil => rfl
 | cons x m ih =>
   simp only [List.map_cons,delRow,begins_F,delF]
   by_cases h : x.k = k
   ·simp [h]
   ·simp [h,ih]
theorem yV (m : List Flg) (k : Int) : den2 .mhas (yH m) (zP [⟨k⟩]) = some (.bool (hasF m k)):=(d_mhas _ _).trans (by rw [show (Who.mk k).row = [.int .i64 k] from rfl,has_F])
theorem d_atF (m : List Flg) (k : Int) : den2 (.mat 1) (yH m) (zP [⟨k⟩]) = if hasF m k then some (.bool (atF m k)) else none:=(d_mat 1 _ _).trans (at_F m k)
theorem yU (m : List Flg) (k : Int) (b : Bool) : den2 (.mput 1) (yH m) (yH [⟨k,b⟩]) = some (yH (putF k b m)):=(d_mput 1 _ _).trans (congrArg (fun l => some (zQ l)) (put_F m k b))
theorem yW (m : List Flg) (k : Int) : den2 .mdel (yH m) (zP [⟨k⟩]) = some (yH (delF k m)):=by
 simp only [yH,zP,zQ,den2,List.map_cons,List.map_nil]
 rw [rowsOf_V]
 exact congrArg (fun l => some (zQ l)) (del_F m k)
theorem begins_R5 (k : Int) (x : Rec5) : y8 [.int .i64 k] x.row = decide (x.k = k):=by
 simp only [Rec5.row,y8,sameV]
 rw [Bool.eq_iff_iff]
 simp
 exact eq_comm
theorem has_R5 (m : List Rec5) (k : Int) : mapHas (m.map Rec5.row) [.int .i64 k] = hasR m k:=by
 simp only [mapHas,hasR,List.any_map]
 congr 1
 funext x
 simp only [Function.comp,begins_R5]
 rw [Bool.eq_iff_iff]; simp
theorem at_R5 (m : List Rec5) (k : Int) (j : Nat) : mapAt (m.map Rec5.row) [.int .i64 k] j = if hasR m k then (getR m k).row[j]? else none:=by
 induction m with
 | nil => rfl
 | cons x m ih =>
   simp only [mapAt,mapRow,List.map_cons,List.find?_cons,begins_R5,hasR,List.any_cons,getR] at ih ⊢
   by_cases h : x.k = k
   ·simp [h]
   ·have h' : (x.k == k) = false:=beq_eq_false_iff_ne.2 h
    simp only [h,decide_false,h',Bool.false_or]
    exact ih
theorem put_R5 (m : List Rec5) (y : Rec5) : putRow [.int .i64 y.k] y.row (m.map Rec5.row) = (putR y m).map Rec5.row:=by
 induction m with
 | nil => rfl
 | cons x m ih =>
   simp only [List.map_cons,putRow,begins_R5,putR]
   by_cases h : x.k = y.k
   ·simp [h]
   ·simp [h,ih]
theorem yr (m : List Rec5) (k : Int) : den2 .mhas (recsR m) (zP [⟨k⟩]) = some (.bool (hasR m k)):=(d_mhas _ _).trans (by rw [show (Who.mk k).row = [.int .i64 k] from rfl,has_R5])
theorem d_atR5 (m : List Rec5) (k : Int) (j : Nat) : den2 (.mat j) (recsR m) (zP [⟨k⟩]) = if hasR m k then (getR m k).row[j]? else none:=(d_mat j _ _).trans (at_R5 m k j)
theorem yq (m : List Rec5) (y : Rec5) : den2 (.mput 1) (recsR m) (recsR [y]) = some (recsR (putR y m)):=(d_mput 1 _ _).trans (congrArg (fun l => some (zQ l)) (put_R5 m y))
theorem zI (a b c d e : Int) : yP (.tuple #[]) [.int .i64 a,.int .i64 b,.int .i64 c,.int .i64 d,.int .i64 e] = some (recsR [⟨a,b,c,d,e⟩]):=recs_snoc0 ⟨a,b,c,d,e⟩
theorem zJ (a : Int) (b : Bool) : yP (.tuple #[]) [.int .i64 a,.bool b] = some (yH [⟨a,b⟩]):=flgs_snoc0 ⟨a,b⟩
theorem z6 (l : List Who) : sy 113 [zP l] = some (zP (zg l)):=by
 refine (sym113R (l.map Who.row)).trans ?_
 have e : sortK (l.map Who.row) = (l.map Who.n).mergeSort fun x y => decide (x≤y):=by
  unfold sortK
  rw [List.map_map,show keyI ∘ Who.row = Who.n from funext fun _ => rfl]
 rw [e]
 unfold zP yg zg
 rw [List.map_map]
 exact congrArg (fun l => some (zQ l)) (List.map_congr_left fun x _ => rfl)
theorem zi (l : List Rat9) : sy 200 [ratsR l] = some (.int .i64 (chkER l)):=congrArg (fun l => some (Value.int .i64 (chkER l))) (ratsV_R l)
theorem zG (l : List Rat9) : sy 201 [ratsR l] = some (.int .i64 (chkIR l)):=congrArg (fun l => some (Value.int .i64 (chkIR l))) (ratsV_R l)
theorem ze (l : List Rat9) : sy 202 [ratsR l] = some (.bool (okR9 l)):=congrArg (fun l => some (Value.bool (okR9 l))) (ratsV_R l)
theorem sym203 (l : List Rat9) (k : IntKind) (K : Int) : sy 203 [ratsR l,.int k K] = some (yH (y5 (zt l) K)):=congrArg (fun l => some (yH (y5 (zt l) K))) (ratsV_R l)
theorem zF (l : List Rat9) (g : ByteArray) (k k' : IntKind) (h K : Int) : sy 204 [ratsR l,.string g,.int k h,.int k' K] = some (.bool (inF l g h K).isSome):=congrArg (fun l => some (Value.bool (inF l g h K).isSome)) (ratsV_R l)
theorem zl (l : List Rat9) (g : ByteArray) (k k' k2 : IntKind) (h K j : Int) : sy 205 [ratsR l,.string g,.int k h,.int k' K,.int k2 j] = za l g h K j:=congrArg (fun l => za l g h K j) (ratsV_R l)
theorem sym207 (g g' : ByteArray) (k k' : IntKind) (f f' : Int) : sy 207 [.string g,.int k f,.string g',.int k' f'] = some (.int .i64 (precI g f g' f')):=rfl
theorem ym (l : List Rat9) : sy 208 [ratsR l] = some (zP (zj l)):=congrArg (fun l => some (zP (zj l))) (ratsV_R l)
theorem sym209R (rows : List (List Value)) : sy 209 [zQ rows] = some (zQ (yg (cmpI (rows.map keyI)))):=congrArg (fun (l : List (List Value)) => some (zQ (yg (cmpI (l.map keyI))))) (rowsOf_V rows)
theorem zZ (l : List Who) : sy 209 [zP l] = some (zP (zO l)):=by
 refine (sym209R (l.map Who.row)).trans ?_
 rw [List.map_map,show keyI ∘ Who.row = Who.n from funext fun _ => rfl]
 unfold zP yg zO
 rw [List.map_map]
 exact congrArg (fun l => some (zQ l)) (List.map_congr_left fun x _ => rfl)
theorem yk (l : List Rat9) (g : ByteArray) (k : IntKind) (K : Int) : sy 210 [ratsR l,.string g,.int k K] = some (zP (zV l g K)):=congrArg (fun l => some (zP (zV l g K))) (ratsV_R l)
theorem zx (l m : List Rat9) (g : ByteArray) (k : IntKind) (K : Int) : sy 211 [ratsR l,ratsR m,.string g,.int k K] = some (.int .i64 (tch l m g K).from_):=by
 show some (Value.int .i64 (tch (ratsV (ratsR l)) (ratsV (ratsR m)) g K).from_) = _
 rw [ratsV_R,ratsV_R]
theorem zw (l m : List Rat9) (g : ByteArray) (k : IntKind) (K : Int) : sy 212 [ratsR l,ratsR m,.string g,.int k K] = some (.int .i64 (tch l m g K).until_):=by
 show some (Value.int .i64 (tch (ratsV (ratsR l)) (ratsV (ratsR m)) g K).until_) = _
 rw [ratsV_R,ratsV_R]
theorem zq (l m : List Rat9) (g : ByteArray) (k : IntKind) (K : Int) : sy 213 [ratsR l,ratsR m,.string g,.int k K] = some (.bool (tch l m g K).is):=by
 show some (Value.bool (tch (ratsV (ratsR l)) (ratsV (ratsR m)) g K).is) = _
 rw [ratsV_R,ratsV_R]
theorem rats_snocN (l : List Rat9) (a b c : Int) (d : ByteArray) (e f g h i : Int) : yP (ratsR l) [.int .i64 a,.int .i64 b,.int .i64 c,.string d,.int .i64 e,.int .i64 f,.int .i64 g,.int .i64 h,.int .i64 i] = some (ratsR (l ++ [⟨a,b,c,d,e,f,g,h,i⟩])):=rats_snoc l ⟨a,b,c,d,e,f,g,h,i⟩
theorem rats_snoc0N (a b c : Int) (d : ByteArray) (e f g h i : Int) : yP (.tuple #[]) [.int .i64 a,.int .i64 b,.int .i64 c,.string d,.int .i64 e,.int .i64 f,.int .i64 g,.int .i64 h,.int .i64 i] = some (ratsR [⟨a,b,c,d,e,f,g,h,i⟩]):=rats_snoc0 ⟨a,b,c,d,e,f,g,h,i⟩
open Go
theorem wrap_id {a : Int} (h : wideB a = true) : IntKind.i64.wrap a = a:=by
 rw [wide_iff] at h
 exact IntWalk.i64_in _ (by omega)
theorem wrap_neg {a : Int} (h : wideB a = true) : IntKind.i64.wrap (0 - a) = -a:=by
 rw [wide_iff] at h
 rw [IntWalk.i64_in _ (by omega)]
 omega
theorem wrap_lowN {n : Int} (d : Int) (h : wideB n = true) : IntKind.i64.wrap (n.tdiv (gcdI n d)) = lowN n d:=wrap_id (tdiv_wide _ h)
theorem wrap_lowD {d : Int} (n : Int) (h : wideB d = true) : IntKind.i64.wrap (d.tdiv (gcdI n d)) = lowD n d:=wrap_id (tdiv_wide _ h)
theorem xL {ρ : Rho} {N M : Nat} {l : List Value} {i : Nat} {v : Value} (hN : N = M) (e : ρ.val i = some v) (h : i < M) : (ρ.ext N l).val i = some v:=by
 rw [ext_low _ _ _ _ (by rw [hN]; exact h)]; exact e
theorem xH {ρ : Rho} {N M : Nat} {l : List Value} {i : Nat} {v : Value} (hN : N = M) (e : l[i - M]? = some v) (h : M≤i) : (ρ.ext N l).val i = some v:=by
 rw [yZ _ _ _ _ (by rw [hN]; exact h),hN]; exact e
theorem dX : (∀ (k k' : IntKind) (n : Int),den1 (.wrap k) (.int k' n) = some (.int k (k.wrap n)))∧(∀ (k k' : IntKind) (n : Int),den1 (.kind k) (.int k' n) = some (.int k n))∧(∀ (b : Bool),den1 .not (.bool b) = some (.bool (!b)))∧(∀ (k' : IntKind) (n : Int),den1 .neg (.int k' n) = some (.int .i64 (-n)))∧(∀ (s : ByteArray),den1 .slen (.string s) = some (.int .i64 s.size))∧(∀ (k k' : IntKind) (m n : Int),den2 .add (.int k m) (.int k' n) = some (.int .i64 (m + n)))∧(∀ (k k' : IntKind) (m n : Int),den2 .sub (.int k m) (.int k' n) = some (.int .i64 (m - n)))∧(∀ (k k' : IntKind) (m n : Int),den2 .mul (.int k m) (.int k' n) = some (.int .i64 (m * n)))∧(∀ (k k' : IntKind) (m n : Int),den2 .div (.int k m) (.int k' n) = some (.int .i64 (m.tdiv n)))∧(∀ (k k' : IntKind) (m n : Int),den2 .mod (.int k m) (.int k' n) = some (.int .i64 (m.tmod n)))∧(∀ (k k' : IntKind) (m n : Int),den2 .lt (.int k m) (.int k' n) = some (.bool (decide (m < n))))∧(∀ (k k' : IntKind) (m n : Int),den2 .le (.int k m) (.int k' n) = some (.bool (decide (m≤n))))∧(∀ (k k' : IntKind) (m n : Int),den2 .eq (.int k m) (.int k' n) = some (.bool (m == n)))∧(∀ (a b : Bool),den2 .eqb (.bool a) (.bool b) = some (.bool (a == b)))∧(∀ (a b : ByteArray),den2 .eqs (.string a) (.string b) = some (.bool (a == b)))∧(∀ (a b : ByteArray),den2 .lts (.string a) (.string b) = some (.bool (Op.bytesLess a.toList b.toList)))∧(∀ (a b : ByteArray),den2 .cat (.string a) (.string b) = some (.string (a ++ b)))∧(∀ (a : ByteArray) (k : IntKind) (n : Int),den2 .sat (.string a) (.int k n) = some (.int .u8 ((a[n.toNat]?.map UInt8.toNat).getD 0)))∧(∀ (a b : Bool),den2 .and (.bool a) (.bool b) = some (.bool (a && b)))∧(∀ (a b : Bool),den2 .or (.bool a) (.bool b) = some (.bool (a || b))):=⟨@d_wrap,@d_kind,@d_not,@d_neg,@d_slen,@d_add,@d_sub,@d_mul,@d_div,@d_mod,@d_lt,@d_le,@d_eq,@d_eqb,@d_eqs,@d_lts,@d_cat,@d_sat,@d_and,@d_or⟩
theorem dY : (∀ (l : List Who),den1 .len (zP l) = some (.int .i64 l.length))∧(∀ (j : Nat) (l : List Who) (k : IntKind) (n : Int),denCell j (zP l) (.int k n) = (l[n.toNat]?).bind fun p => p.row[j]?)∧(∀ (l : List Who) (k k' : IntKind) (a b : Int),denLsub (zP l) (.int k a) (.int k' b) = some (zP ((l.take b.toNat).drop a.toNat)))∧(∀ (a b : List Who),den2 .lcat (zP a) (zP b) = some (zP (a ++ b)))∧(∀ (k : IntKind) (n : Int) (x : Who),den2 .rep (.int k n) (zP [x]) = some (zP (List.replicate n.toNat x))):=⟨@whos_len,@whos_cell,@whos_lsub,@whos_lcat,@whos_rep⟩
theorem dZ : (∀ (b b2 : Bool),(Value.bool b = Value.bool b2) = (b = b2))∧(∀ (k : IntKind) (n : Int) (k2 : IntKind) (n2 : Int),(Value.int k n = Value.int k2 n2) = (k = k2∧n = n2))∧(∀ {p : Prop} [Decidable p],(decide p = true) = p)∧(∀ {p : Prop} [Decidable p],decide p = false↔¬ p)∧(∀ (p : Prop),(p∧True) = p)∧(∀ (p : Prop),(True∧p) = p)∧(∀ {a b c : Prop},(a∧b→c)↔(a→b→c)):=⟨@Value.bool.injEq,@Value.int.injEq,@decide_eq_true_eq,@decide_eq_false_iff_not,@and_true,@true_and,@and_imp⟩
theorem gB : (∀ (ρ : Rho) (x : X),X.bool ρ x = asB (X.den ρ x))∧(∀ (ρ : Rho) (i : Nat),X.den ρ (.var i) = ρ.val i)∧(∀ (ρ : Rho) (n : Int),X.den ρ (.num n) = some (.int .i64 n))∧(∀ (ρ : Rho) (b : Bool),X.den ρ (.boo b) = some (.bool b))∧(∀ (ρ : Rho) (s : List Nat),X.den ρ (.str s) = some (.string (z7 s)))∧(∀ (ρ : Rho) (o : O1) (a : X),X.den ρ (.op1 o a) = match X.den ρ a with | some v => den1 o v | none => none)∧(∀ (ρ : Rho) (o : O2) (a b : X),X.den ρ (.op2 o a b) = match X.den ρ a with | some v => (match X.den ρ b with | some u => den2 o v u | none => none) | none => none)∧(∀ (ρ : Rho) (c a b : X),X.den ρ (.ite c a b) = zd (X.den ρ c) (X.den ρ a) (X.den ρ b))∧(∀ (ρ : Rho) (j : Nat) (l i : X),X.den ρ (.cell j l i) = match X.den ρ l with | some v => (match X.den ρ i with | some u => denCell j v u | none => none) | none => none)∧(∀ (ρ : Rho) (a lo hi : X),X.den ρ (.ssub a lo hi) = match X.den ρ a with | some v => (match X.den ρ lo with | some u => (match X.den ρ hi with | some y => denSub v u y | none => none) | none => none) | none => none)∧(∀ (ρ : Rho) (a lo hi : X),X.den ρ (.lsub a lo hi) = match X.den ρ a with | some v => (match X.den ρ lo with | some u => (match X.den ρ hi with | some y => denLsub v u y | none => none) | none => none) | none => none)∧(∀ (ρ : Rho) (l : X) (r : List X),X.den ρ (.snoc l r) = match X.den ρ l with | some v => (match denL ρ r with | some u => yP v u | none => none) | none => none)∧(∀ (ρ : Rho),X.den ρ .nil = some (.tuple #[]))∧(∀ (ρ : Rho) (s : Nat) (l : List X),X.den ρ (.app s l) = match denL ρ l with | some vs => ρ.sym s vs | none => none)∧(∀ (ρ : Rho),denL ρ [] = some [])∧(∀ (ρ : Rho) (a : X) (l : List X),denL ρ (a :: l) = match X.den ρ a with | some v => (match denL ρ l with | some vs => some (v :: vs) | none => none) | none => none)∧(∀ (s : ByteArray) (k : IntKind) (a : Int) (k1 : IntKind) (b : Int),denSub (.string s) (.int k a) (.int k1 b) = some (.string (s.extract a.toNat b.toNat)))∧(∀ (b : Bool),asB (some (.bool b)) = some b)∧((∀ (k k' : IntKind) (n : Int),den1 (.wrap k) (.int k' n) = some (.int k (k.wrap n)))∧(∀ (k k' : IntKind) (n : Int),den1 (.kind k) (.int k' n) = some (.int k n))∧(∀ (b : Bool),den1 .not (.bool b) = some (.bool (!b)))∧(∀ (k' : IntKind) (n : Int),den1 .neg (.int k' n) = some (.int .i64 (-n)))∧(∀ (s : ByteArray),den1 .slen (.string s) = some (.int .i64 s.size))∧(∀ (k k' : IntKind) (m n : Int),den2 .add (.int k m) (.int k' n) = some (.int .i64 (m + n)))∧(∀ (k k' : IntKind) (m n : Int),den2 .sub (.int k m) (.int k' n) = some (.int .i64 (m - n)))∧(∀ (k k' : IntKind) (m n : Int),den2 .mul (.int k m) (.int k' n) = some (.int .i64 (m * n)))∧(∀ (k k' : IntKind) (m n : Int),den2 .div (.int k m) (.int k' n) = some (.int .i64 (m.tdiv n)))∧(∀ (k k' : IntKind) (m n : Int),den2 .mod (.int k m) (.int k' n) = some (.int .i64 (m.tmod n)))∧(∀ (k k' : IntKind) (m n : Int),den2 .lt (.int k m) (.int k' n) = some (.bool (decide (m < n))))∧(∀ (k k' : IntKind) (m n : Int),den2 .le (.int k m) (.int k' n) = some (.bool (decide (m≤n))))∧(∀ (k k' : IntKind) (m n : Int),den2 .eq (.int k m) (.int k' n) = some (.bool (m == n)))∧(∀ (a b : Bool),den2 .eqb (.bool a) (.bool b) = some (.bool (a == b)))∧(∀ (a b : ByteArray),den2 .eqs (.string a) (.string b) = some (.bool (a == b)))∧(∀ (a b : ByteArray),den2 .lts (.string a) (.string b) = some (.bool (Op.bytesLess a.toList b.toList)))∧(∀ (a b : ByteArray),den2 .cat (.string a) (.string b) = some (.string (a ++ b)))∧(∀ (a : ByteArray) (k : IntKind) (n : Int),den2 .sat (.string a) (.int k n) = some (.int .u8 ((a[n.toNat]?.map UInt8.toNat).getD 0)))∧(∀ (a b : Bool),den2 .and (.bool a) (.bool b) = some (.bool (a && b)))∧(∀ (a b : Bool),den2 .or (.bool a) (.bool b) = some (.bool (a || b))))∧((∀ (l : List Who),den1 .len (zP l) = some (.int .i64 l.length))∧(∀ (j : Nat) (l : List Who) (k : IntKind) (n : Int),denCell j (zP l) (.int k n) = (l[n.toNat]?).bind fun p => p.row[j]?)∧(∀ (l : List Who) (k k' : IntKind) (a b : Int),denLsub (zP l) (.int k a) (.int k' b) = some (zP ((l.take b.toNat).drop a.toNat)))∧(∀ (a b : List Who),den2 .lcat (zP a) (zP b) = some (zP (a ++ b)))∧(∀ (k : IntKind) (n : Int) (x : Who),den2 .rep (.int k n) (zP [x]) = some (zP (List.replicate n.toNat x)))):=⟨@X.bool.eq_1,@X.den.eq_1,@X.den.eq_2,@X.den.eq_3,@X.den.eq_4,@X.den.eq_5,@X.den.eq_6,@X.den.eq_7,@X.den.eq_8,@X.den.eq_9,@X.den.eq_10,@X.den.eq_11,@X.den.eq_12,@X.den.eq_13,@denL.eq_1,@denL.eq_2,@denSub.eq_1,@asB.eq_1,dX,dY⟩
theorem gA : (∀ (r : Rho),y9 r [] = True)∧(∀ (r : Rho) (F : List (X×Bool)) (x : X) (l : List (List (X×Bool)×X)),y9 r ((F,x) :: l) = ((zf r F→∃ b,X.bool r x = some b)∧y9 r l))∧(∀ (F : List (X×Bool)) (l : List (List (Nat×Nat))),GTree.asks F (.leaf l) = [])∧(∀ (F : List (X×Bool)),GTree.asks F .bad = [])∧(∀ (F : List (X×Bool)) (x : X) (t e : GTree),GTree.asks F (.fork x t e) = (F,x) :: (GTree.asks ((x,true) :: F) t ++ GTree.asks ((x,false) :: F) e))∧(∀ (F : List (X×Bool)) (l : List Tgt),FTree.asks F (.leaf l) = [])∧(∀ (F : List (X×Bool)),FTree.asks F .bad = [])∧(∀ (F : List (X×Bool)) (x : X) (t e : FTree),FTree.asks F (.fork x t e) = (F,x) :: (FTree.asks ((x,true) :: F) t ++ FTree.asks ((x,false) :: F) e))∧(∀ (r : Rho),zf r [] = True)∧(∀ (r : Rho) (x : X) (b : Bool) (l : List (X×Bool)),zf r ((x,b) :: l) = (X.bool r x = some b∧zf r l))∧(∀ {α : Type} (a : List α),a ++ [] = a)∧(∀ {α : Type} (a : List α),[] ++ a = a)∧(∀ {α : Type} {a : α} {l m : List α},a :: l ++ m = a :: (l ++ m))∧(∀ {α : Type} (a b : α),(some a = some b) = (a = b))∧(∀ {α : Type} {a : α},∃ b,a = b)∧(∀ (α : Prop),(α→True) = True)∧(∀ (p : Prop),(p∧p) = p):=⟨@y9.eq_1,@y9.eq_2,@GTree.asks.eq_1,@GTree.asks.eq_2,@GTree.asks.eq_3,@FTree.asks.eq_1,@FTree.asks.eq_2,@FTree.asks.eq_3,@zf.eq_1,@zf.eq_2,@List.append_nil,@List.nil_append,@List.cons_append,@Option.some.injEq,@exists_eq',@implies_true,@and_self⟩
theorem gE : (∀ (r : Rho),zR r [] = True)∧(∀ (r : Rho) (F : List (X×Bool)) (l : List (List (X×Bool)×Option zp)),zR r ((F,none) :: l) = ((zf r F→False)∧zR r l))∧(∀ (r : Rho) (F : List (X×Bool)) (ps : zp) (l : List (List (X×Bool)×Option zp)),zR r ((F,some ps) :: l) = ((zf r F→zp.hold r r ps)∧zR r l))∧(∀ (D : LoopD) (ρ : Rho) (I : Nat→List Value→Prop) (μ : Nat→List Value→Nat) (j : Nat) (v : List Value),zD D ρ I μ j v [] = True)∧(∀ (D : LoopD) (ρ : Rho) (I : Nat→List Value→Prop) (μ : Nat→List Value→Nat) (j : Nat) (v : List Value) (F : List (X×Bool)) (l : List (List (X×Bool)×Option (List (Tgt×zp)))),zD D ρ I μ j v ((F,none) :: l) = ((zf (ρ.ext D.N v) F→False)∧zD D ρ I μ j v l))∧(∀ (D : LoopD) (ρ : Rho) (I : Nat→List Value→Prop) (μ : Nat→List Value→Nat) (j : Nat) (v : List Value) (F : List (X×Bool)) (m : List (Tgt×zp)) (l : List (List (X×Bool)×Option (List (Tgt×zp)))),zD D ρ I μ j v ((F,some m) :: l) = ((zf (ρ.ext D.N v) F→∀ p ∈ m,yw D ρ I μ j v p)∧zD D ρ I μ j v l))∧(∀ (D : LoopD) (ρ : Rho) (I : Nat→List Value→Prop) (μ : Nat→List Value→Nat) (j : Nat) (v : List Value) (i : Nat) (ren : List (Nat×Nat)) (ps : zp),yw D ρ I μ j v (.again i ren,ps) = ∃ w,zp.hold (ρ.ext D.N w) (ρ.ext D.N v) ps∧I i w∧μ i w < μ j v)∧(∀ (D : LoopD) (ρ : Rho) (I : Nat→List Value→Prop) (μ : Nat→List Value→Nat) (j : Nat) (v : List Value) (k : Nat) (ren : List (Nat×Nat)) (ps : zp),yw D ρ I μ j v (.leave k ren,ps) = zp.hold ρ (ρ.ext D.N v) ps)∧(yy (.boo true) = [])∧(∀ (g : X),(g = X.boo true→False)→yy g = [(g,.boo true)])∧(∀ (r : Rho),zf r [] = True)∧(∀ (r : Rho) (x : X) (b : Bool) (l : List (X×Bool)),zf r ((x,b) :: l) = (X.bool r x = some b∧zf r l))∧(∀ {α : Type} (a b : α),(some a = some b) = (a = b))∧(∀ {α : Type} (P : α→Prop) (a : α) (l : List α),(∀ q ∈ a :: l,P q)↔P a∧∀ q ∈ l,P q)∧(∀ {α : Type} (P : α→Prop),(∀ q ∈ ([] : List α),P q)↔True)∧(∀ (ρ ρ' : Rho) (p x : X) (l : zp),zp.hold ρ ρ' ((p,x) :: l)↔p.den ρ = x.den ρ'∧zp.hold ρ ρ' l)∧(∀ (ρ ρ' : Rho),zp.hold ρ ρ' []↔True):=⟨@zR.eq_1,@zR.eq_2,@zR.eq_3,@zD.eq_1,@zD.eq_2,@zD.eq_3,@yw.eq_1,@yw.eq_2,@yy.eq_1,@yy.eq_2,@zf.eq_1,@zf.eq_2,@Option.some.injEq,@zh,@zk,@zr,@zE⟩
theorem g3 : (∀ {α : Type} [BEq α] [LawfulBEq α] {a b : α},(a == b) = true↔a = b)∧(∀ {α : Type} [BEq α] [LawfulBEq α] {a b : α},(a == b) = false↔a≠b)∧(∀ {α : Type} (a b : α),(a≠b) = ¬ a = b):=⟨@beq_iff_eq,@beq_eq_false_iff_ne,@ne_eq⟩
theorem gR : ((false = true) = False)∧(∀ (p : Prop),(False→p) = True)∧(∀ (α : Prop),(α→True) = True)∧(∀ (p : Prop),(True→p) = p)∧(∀ (p : Prop),(p∧p) = p)∧(∀ (p : Prop),(p∧True) = p)∧(∀ (p : Prop),(True∧p) = p):=⟨@Bool.false_eq_true,@false_implies,@implies_true,@true_implies,@and_self,@and_true,@true_and⟩
theorem gW : (∀ (l : List Who) (n : Int),yP (zP l) [.int .i64 n] = some (zP (l ++ [⟨n⟩])))∧(∀ (n : Int),yP (.tuple #[]) [.int .i64 n] = some (zP [⟨n⟩])):=⟨@whos_snocN,@zH⟩
theorem zm : (∀ (l : List Rat9),den1 .len (ratsR l) = some (.int .i64 l.length))∧(∀ (j : Nat) (l : List Rat9) (k : IntKind) (n : Int),denCell j (ratsR l) (.int k n) = (l[n.toNat]?).bind fun p => p.row[j]?)∧(∀ (l : List Rat9) (k k' : IntKind) (a b : Int),denLsub (ratsR l) (.int k a) (.int k' b) = some (ratsR ((l.take b.toNat).drop a.toNat)))∧(∀ (l : List Rat9) (a b c : Int) (d : ByteArray) (e f g h i : Int),yP (ratsR l) [.int .i64 a,.int .i64 b,.int .i64 c,.string d,.int .i64 e,.int .i64 f,.int .i64 g,.int .i64 h,.int .i64 i] = some (ratsR (l ++ [⟨a,b,c,d,e,f,g,h,i⟩]))):=⟨@rats_len,@zU,@rats_lsub,@rats_snocN⟩
theorem gN : (∀ (p : Rat9),p.row[0]? = some (.int .i64 p.id))∧(∀ (p : Rat9),p.row[1]? = some (.int .i64 p.known))∧(∀ (p : Rat9),p.row[2]? = some (.int .i64 p.from_))∧(∀ (p : Rat9),p.row[3]? = some (.string p.goods))∧(∀ (p : Rat9),p.row[4]? = some (.int .i64 p.num))∧(∀ (p : Rat9),p.row[5]? = some (.int .i64 p.den))∧(∀ (p : Rat9),p.row[6]? = some (.int .i64 p.cart))∧(∀ (p : Rat9),p.row[7]? = some (.int .i64 p.store))∧(∀ (p : Rat9),p.row[8]? = some (.int .i64 p.of_)):=⟨@rat0,@rat1,@rat2,@rat3,@rat4,@rat5,@rat6,@rat7,@rat8⟩
end Go.Proofs.YtfddkbbjnghefaaGreatDoor.Zs
