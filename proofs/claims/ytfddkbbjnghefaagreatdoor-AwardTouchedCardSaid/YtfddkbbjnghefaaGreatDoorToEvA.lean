/-
  Abstract values and an abstract memory for closed runs: the relation to the model's own values and worlds.
-/
import Derived.AtR
import Derived.Orders
import Derived.KernelRfl
import Derived.WalkKit
import Derived.MapKept
set_option linter.unusedSimpArgs false
set_option linter.unusedVariables false
namespace Go.Proofs.YtfddkbbjnghefaaGreatDoor.Zs
open Go
inductive Trie (α : Type) where
 | leaf
 | node (v : Option α) (l r : Trie α)
instance {α : Type} : Inhabited (Trie α):=⟨.leaf⟩
noncomputable def Trie.get {α : Type} (t : Trie α) : Nat→Option α:=
 Trie.rec (motive:=fun _ => Nat→Option α) (fun _ => none)
  (fun v _ _ ihl ihr i => Bool.rec (Bool.rec (ihl (Nat.div i 2)) (ihr (Nat.sub (Nat.div i 2) 1)) (Nat.beq (Nat.mod i 2) 0)) v (Nat.beq i 0)) t
theorem Trie.get_leaf {α : Type} (i : Nat) : (Trie.leaf : Trie α).get i = none:=rfl
theorem Trie.get_node {α : Type} (v : Option α) (l r : Trie α) (i : Nat) :
  (Trie.node v l r).get i = if i = 0 then v else if i % 2 = 0 then r.get (i / 2 - 1) else l.get (i / 2):=by
 have e : (Trie.node v l r).get i = Bool.rec (Bool.rec (l.get (i / 2)) (r.get (i / 2 - 1)) (Nat.beq (i % 2) 0)) v (Nat.beq i 0):=rfl
 rw [e]
 cases h0 : Nat.beq i 0 with
 | true => simp [Nat.eq_of_beq_eq_true h0]
 | false =>
   have h1 : i≠0:=Nat.ne_of_beq_eq_false h0
   simp only [h1,if_false]
   cases h2 : Nat.beq (i % 2) 0 with
   | true => simp [Nat.eq_of_beq_eq_true h2]
   | false => simp [Nat.ne_of_beq_eq_false h2]
noncomputable def Trie.put {α : Type} (a : Option α) (n : Nat) : Trie α→Nat→Trie α:=
 Nat.rec (motive:=fun _ => Trie α→Nat→Trie α) (fun t _ => t)
  (fun _ ih t i => Trie.rec (motive:=fun _ => Trie α)
    (Bool.rec (Bool.rec (.node none (ih .leaf (Nat.div i 2)) .leaf) (.node none .leaf (ih .leaf (Nat.sub (Nat.div i 2) 1))) (Nat.beq (Nat.mod i 2) 0)) (.node a .leaf .leaf) (Nat.beq i 0))
    (fun v l r _ _ => Bool.rec (Bool.rec (.node v (ih l (Nat.div i 2)) r) (.node v l (ih r (Nat.sub (Nat.div i 2) 1))) (Nat.beq (Nat.mod i 2) 0)) (.node a l r) (Nat.beq i 0)) t) n
theorem Trie.put_leaf {α : Type} (a : Option α) (n i : Nat) :
  Trie.put a (n + 1) .leaf i = if i = 0 then .node a .leaf .leaf else if i % 2 = 0 then .node none .leaf (Trie.put a n .leaf (i / 2 - 1)) else .node none (Trie.put a n .leaf (i / 2)) .leaf:=by
 have e : Trie.put a (n + 1) .leaf i = Bool.rec (Bool.rec (.node none (Trie.put a n .leaf (i / 2)) .leaf) (.node none .leaf (Trie.put a n .leaf (i / 2 - 1))) (Nat.beq (i % 2) 0)) (.node a .leaf .leaf) (Nat.beq i 0):=rfl
 rw [e]
 cases h0 : Nat.beq i 0 with
 | true => simp [Nat.eq_of_beq_eq_true h0]
 | false =>
   have h1 : i≠0:=Nat.ne_of_beq_eq_false h0
   simp only [h1,if_false]
   cases h2 : Nat.beq (i % 2) 0 with
   | true => simp [Nat.eq_of_beq_eq_true h2]
   | false => simp [Nat.ne_of_beq_eq_false h2]
theorem Trie.put_node {α : Type} (a : Option α) (n : Nat) (v : Option α) (l r : Trie α) (i : Nat) :
  Trie.put a (n + 1) (.node v l r) i = if i = 0 then .node a l r else if i % 2 = 0 then .node v l (Trie.put a n r (i / 2 - 1)) else .node v (Trie.put a n l (i / 2)) r:=by
 have e : Trie.put a (n + 1) (.node v l r) i = Bool.rec (Bool.rec (.node v (Trie.put a n l (i / 2)) r) (.node v l (Trie.put a n r (i / 2 - 1))) (Nat.beq (i % 2) 0)) (.node a l r) (Nat.beq i 0):=rfl
 rw [e]
 cases h0 : Nat.beq i 0 with
 | true => simp [Nat.eq_of_beq_eq_true h0]
 | false =>
   have h1 : i≠0:=Nat.ne_of_beq_eq_false h0
   simp only [h1,if_false]
   cases h2 : Nat.beq (i % 2) 0 with
   | true => simp [Nat.eq_of_beq_eq_true h2]
   | false => simp [Nat.ne_of_beq_eq_false h2]
theorem Trie.get_put_ne {α : Type} (a : Option α) : ∀ (n : Nat) (t : Trie α) (i j : Nat),j≠i→(Trie.put a n t i).get j = t.get j
 | 0,t,i,j,_ => by cases t <;> rfl
 | n + 1,.leaf,i,j,h => by
   rw [Trie.put_leaf]
   split
   ·rw [Trie.get_node,if_neg (by omega),Trie.get_leaf,Trie.get_leaf,Trie.get_leaf,ite_self]
   ·split
    ·rw [Trie.get_node,Trie.get_leaf,Trie.get_leaf]
     split
     ·rfl
     ·split
      ·rw [Trie.get_put_ne a n _ _ _ (by omega)]; rfl
      ·rfl
    ·rw [Trie.get_node,Trie.get_leaf,Trie.get_leaf]
     split
     ·rfl
     ·split
      ·rfl
      ·rw [Trie.get_put_ne a n _ _ _ (by omega)]; rfl
 | n + 1,.node v l r,i,j,h => by
   rw [Trie.put_node]
   split
   ·rw [Trie.get_node,Trie.get_node]
    have hj : ¬ j = 0:=by omega
    simp only [hj,if_false]
   ·split
    ·rw [Trie.get_node,Trie.get_node]
     split
     ·rfl
     ·split
      ·rw [Trie.get_put_ne a n _ _ _ (by omega)]
      ·rfl
    ·rw [Trie.get_node,Trie.get_node]
     split
     ·rfl
     ·split
      ·rfl
      ·rw [Trie.get_put_ne a n _ _ _ (by omega)]
theorem Trie.get_put_eq {α : Type} (a : Option α) : ∀ (n : Nat) (t : Trie α) (i : Nat),i + 1 < 2 ^ n→(Trie.put a n t i).get i = a
 | 0,t,i,h => by simp at h
 | n + 1,.leaf,i,h => by
   rw [Nat.pow_succ] at h
   rw [Trie.put_leaf]
   split
   ·rw [Trie.get_node,if_pos (by assumption)]
   ·split
    ·rw [Trie.get_node,if_neg (by assumption),if_pos (by assumption),Trie.get_put_eq a n _ _ (by omega)]
    ·rw [Trie.get_node,if_neg (by assumption),if_neg (by assumption),Trie.get_put_eq a n _ _ (by omega)]
 | n + 1,.node v l r,i,h => by
   rw [Nat.pow_succ] at h
   rw [Trie.put_node]
   split
   ·rw [Trie.get_node,if_pos (by assumption)]
   ·split
    ·rw [Trie.get_node,if_neg (by assumption),if_pos (by assumption),Trie.get_put_eq a n _ _ (by omega)]
    ·rw [Trie.get_node,if_neg (by assumption),if_neg (by assumption),Trie.get_put_eq a n _ _ (by omega)]
def depth : Nat:=32
theorem Trie.get_put {α : Type} (t : Trie α) (a : Option α) (i j : Nat) (hi : i < 2 ^ 31) : (Trie.put a depth t i).get j = if j = i then a else t.get j:=by
 split
 ·rename_i h; subst h; exact Trie.get_put_eq a _ _ _ (by unfold depth; omega)
 ·exact Trie.get_put_ne a _ _ _ _ (by assumption)
structure Rho where
 val : Nat→Option Value
 sym : Nat→List Value→Option Value
structure Sig where
 blk : Nat→Option (Nat×Nat)
 rho : Rho
instance : CoeFun Sig (fun _ => Nat→Option (Nat×Nat)):=⟨Sig.blk⟩
inductive O1 where
 | wrap (k : IntKind) | kind (k : IntKind) | not | neg | len | slen
inductive O2 where
 | add | sub | mul | div | mod | lt | le | eq | eqb | eqs | sat | lts | cat | and | or | lcat | rep | mdel | mhas | mat (j : Nat) | mput (kw : Nat)
inductive X where
 | var (i : Nat)
 | num (n : Int)
 | boo (b : Bool)
 | str (s : List Nat)
 | op1 (o : O1) (a : X)
 | op2 (o : O2) (a b : X)
 | ite (c a b : X)
 | cell (j : Nat) (l i : X)
 | ssub (a lo hi : X)
 | lsub (l lo hi : X)
 | snoc (l : X) (row : List X)
 | nil
 | app (s : Nat) (args : List X)
instance : Inhabited X:=⟨.nil⟩
def z7 (l : List Nat) : ByteArray:=⟨(l.map UInt8.ofNat).toArray⟩
def sameV : Value→Value→Bool
 | .int k m,.int k' n => decide (k = k') && m == n
 | .bool a,.bool b => a == b
 | .string a,.string b => a == b
 | _,_ => false
def y8 : List Value→List Value→Bool
 | [],_ => true
 | a :: l,b :: m => sameV a b && y8 l m
 | _ :: _,[] => false
def rowOf : Value→List Value
 | .agg r => r.toList
 | _ => []
def putRow (key row : List Value) : List (List Value)→List (List Value)
 | [] => [row]
 | r :: l => match y8 key r with
   | true => row :: l
   | false => r :: putRow key row l
def delRow (key : List Value) : List (List Value)→List (List Value)
 | [] => []
 | r :: l => match y8 key r with
   | true => l
   | false => r :: delRow key l
def keyRow (k : Array Value) : List Value:=((k[0]?).map rowOf).getD []
def rowsOf (l : Array Value) : List (List Value):=l.toList.map rowOf
def zQ (rows : List (List Value)) : Value:=.tuple (rows.map fun r => Value.agg r.toArray).toArray
theorem rowsOf_V (rows : List (List Value)) : rowsOf (rows.map fun r => Value.agg r.toArray).toArray = rows:=by
 simp only [rowsOf,List.map_map]
 conv => rhs; rw [← List.map_id rows]
 exact List.map_congr_left fun r _ => by simp [rowOf]
def mapHas (rows : List (List Value)) (key : List Value) : Bool:=rows.any (y8 key)
def mapRow (rows : List (List Value)) (key : List Value) : Option (List Value):=rows.find? (y8 key)
def mapAt (rows : List (List Value)) (key : List Value) (j : Nat) : Option Value:=match mapRow rows key with
 | some r => r[j]?
 | none => none
def den1 : O1→Value→Option Value
 | .wrap k,.int _ n => some (.int k (k.wrap n))
 | .kind k,.int _ n => some (.int k n)
 | .not,.bool b => some (.bool (!b))
 | .neg,.int _ n => some (.int .i64 (-n))
 | .len,.tuple l => some (.int .i64 l.size)
 | .slen,.string s => some (.int .i64 s.size)
 | _,_ => none
def den2 : O2→Value→Value→Option Value
 | .add,.int _ m,.int _ n => some (.int .i64 (m + n))
 | .sub,.int _ m,.int _ n => some (.int .i64 (m - n))
 | .mul,.int _ m,.int _ n => some (.int .i64 (m * n))
 | .div,.int _ m,.int _ n => some (.int .i64 (m.tdiv n))
 | .mod,.int _ m,.int _ n => some (.int .i64 (m.tmod n))
 | .lt,.int _ m,.int _ n => some (.bool (decide (m < n)))
 | .le,.int _ m,.int _ n => some (.bool (decide (m≤n)))
 | .eq,.int _ m,.int _ n => some (.bool (m == n))
 | .eqb,.bool a,.bool b => some (.bool (a == b))
 | .eqs,.string a,.string b => some (.bool (a == b))
 | .lts,.string a,.string b => some (.bool (Op.bytesLess a.toList b.toList))
 | .cat,.string a,.string b => some (.string (a ++ b))
 | .sat,.string a,.int _ n => some (.int .u8 ((a[n.toNat]?.map UInt8.toNat).getD 0))
 | .and,.bool a,.bool b => some (.bool (a && b))
 | .or,.bool a,.bool b => some (.bool (a || b))
 | .lcat,.tuple a,.tuple b => some (.tuple (a ++ b))
 | .rep,.int _ n,.tuple l => some (.tuple (Array.replicate n.toNat (l.getD 0 (.agg #[]))))
 | .mdel,.tuple l,.tuple k => some (zQ (delRow (keyRow k) (rowsOf l)))
 | .mhas,.tuple l,.tuple k => some (.bool (mapHas (rowsOf l) (keyRow k)))
 | .mat j,.tuple l,.tuple k => mapAt (rowsOf l) (keyRow k) j
 | .mput kw,.tuple l,.tuple r => some (zQ (putRow ((keyRow r).take kw) (keyRow r) (rowsOf l)))
 | _,_,_ => none
def denCell (j : Nat) : Value→Value→Option Value
 | .tuple l,.int _ n => match l[n.toNat]? with
   | some (.agg r) => r[j]?
   | _ => none
 | _,_ => none
def denSub : Value→Value→Value→Option Value
 | .string s,.int _ a,.int _ b => some (.string (s.extract a.toNat b.toNat))
 | _,_,_ => none
def denLsub : Value→Value→Value→Option Value
 | .tuple l,.int _ a,.int _ b => some (.tuple (l.extract a.toNat b.toNat))
 | _,_,_ => none
def yP : Value→List Value→Option Value
 | .tuple l,r => some (.tuple (l.push (.agg r.toArray)))
 | _,_ => none
def zd (c a b : Option Value) : Option Value:=match c with
 | some (.bool true) => a
 | some (.bool false) => b
 | _ => none
mutual
def X.den (ρ : Rho) : X→Option Value
 | .var i => ρ.val i
 | .num n => some (.int .i64 n)
 | .boo b => some (.bool b)
 | .str s => some (.string (z7 s))
 | .op1 o a => match a.den ρ with | some v => den1 o v | none => none
 | .op2 o a b => match a.den ρ with | some v => (match b.den ρ with | some u => den2 o v u | none => none) | none => none
 | .ite c a b => zd (c.den ρ) (a.den ρ) (b.den ρ)
 | .cell j l i => match l.den ρ with | some v => (match i.den ρ with | some u => denCell j v u | none => none) | none => none
 | .ssub a lo hi => match a.den ρ with | some v => (match lo.den ρ with | some u => (match hi.den ρ with | some y => denSub v u y | none => none) | none => none) | none => none
 | .lsub a lo hi => match a.den ρ with | some v => (match lo.den ρ with | some u => (match hi.den ρ with | some y => denLsub v u y | none => none) | none => none) | none => none
 | .snoc l r => match l.den ρ with | some v => (match denL ρ r with | some u => yP v u | none => none) | none => none
 | .nil => some (.tuple #[])
 | .app s args => match denL ρ args with | some vs => ρ.sym s vs | none => none
def denL (ρ : Rho) : List X→Option (List Value)
 | [] => some []
 | a :: l => match a.den ρ with | some v => (match denL ρ l with | some vs => some (v :: vs) | none => none) | none => none
end
structure Rho.le (ρ ρ' : Rho) : Prop where
 val : ∀ i v,ρ.val i = some v→ρ'.val i = some v
 sym : ∀ s l v,ρ.sym s l = some v→ρ'.sym s l = some v
theorem Rho.le_refl (ρ : Rho) : ρ.le ρ:=⟨fun _ _ h => h,fun _ _ _ h => h⟩
theorem Rho.le_trans {a b c : Rho} (h : a.le b) (h' : b.le c) : a.le c:=⟨fun i v e => h'.val i v (h.val i v e),fun s l v e => h'.sym s l v (h.sym s l v e)⟩
mutual
theorem X.den_le {ρ ρ' : Rho} (h : ρ.le ρ') : ∀ (x : X) (v : Value),x.den ρ = some v→x.den ρ' = some v
 | .var i,v,e => h.val i v e
 | .num n,v,e => e
 | .boo b,v,e => e
 | .str s,v,e => e
 | .op1 o a,v,e => by
   simp only [X.den] at e ⊢
   cases ha : a.den ρ with
   | none => rw [ha] at e; cases e
   | some x => rw [ha] at e; rw [X.den_le h a x ha]; exact e
 | .op2 o a b,v,e => by
   simp only [X.den] at e ⊢
   cases ha : a.den ρ with
   | none => rw [ha] at e; cases e
   | some x =>
     rw [ha] at e; rw [X.den_le h a x ha]
     cases hb : b.den ρ with
     | none => rw [hb] at e; cases e
     | some y => rw [hb] at e; rw [X.den_le h b y hb]; exact e
 | .ite c a b,v,e => by
   simp only [X.den] at e ⊢
   cases hc : c.den ρ with
   | none => rw [hc] at e; cases e
   | some x =>
     rw [hc] at e; rw [X.den_le h c x hc]
     unfold zd at e ⊢
     split at e
     ·exact X.den_le h a v e
     ·exact X.den_le h b v e
     ·cases e
 | .cell j a b,v,e => by
   simp only [X.den] at e ⊢
   cases ha : a.den ρ with
   | none => rw [ha] at e; cases e
   | some x =>
     rw [ha] at e; rw [X.den_le h a x ha]
     cases hb : b.den ρ with
     | none => rw [hb] at e; cases e
     | some y => rw [hb] at e; rw [X.den_le h b y hb]; exact e
 | .ssub a b c,v,e => by
   simp only [X.den] at e ⊢
   cases ha : a.den ρ with
   | none => rw [ha] at e; cases e
   | some x =>
     rw [ha] at e; rw [X.den_le h a x ha]
     cases hb : b.den ρ with
     | none => rw [hb] at e; cases e
     | some y =>
       rw [hb] at e; rw [X.den_le h b y hb]
       cases hc : c.den ρ with
       | none => rw [hc] at e; cases e
       | some z => rw [hc] at e; rw [X.den_le h c z hc]; exact e
 | .lsub a b c,v,e => by
   simp only [X.den] at e ⊢
   cases ha : a.den ρ with
   | none => rw [ha] at e; cases e
   | some x =>
     rw [ha] at e; rw [X.den_le h a x ha]
     cases hb : b.den ρ with
     | none => rw [hb] at e; cases e
     | some y =>
       rw [hb] at e; rw [X.den_le h b y hb]
       cases hc : c.den ρ with
       | none => rw [hc] at e; cases e
       | some z => rw [hc] at e; rw [X.den_le h c z hc]; exact e
 | .snoc l r,v,e => by
   simp only [X.den] at e ⊢
   cases ha : l.den ρ with
   | none => rw [ha] at e; cases e
   | some x =>
     rw [ha] at e; rw [X.den_le h l x ha]
     cases hb : denL ρ r with
     | none => rw [hb] at e; cases e
     | some y => rw [hb] at e; rw [denL_le h r y hb]; exact e
 | .nil,v,e => e
 | .app s args,v,e => by
   simp only [X.den] at e ⊢
   cases hb : denL ρ args with
   | none => rw [hb] at e; cases e
   | some y => rw [hb] at e; rw [denL_le h args y hb]; exact h.sym s y v e
theorem denL_le {ρ ρ' : Rho} (h : ρ.le ρ') : ∀ (l : List X) (vs : List Value),denL ρ l = some vs→denL ρ' l = some vs
 | [],vs,e => e
 | a :: l,vs,e => by
   simp only [denL] at e ⊢
   cases ha : a.den ρ with
   | none => rw [ha] at e; cases e
   | some x =>
     rw [ha] at e; rw [X.den_le h a x ha]
     cases hb : denL ρ l with
     | none => rw [hb] at e; cases e
     | some y => rw [hb] at e; rw [denL_le h l y hb]; exact e
end
def asI : Option Value→Option Int
 | some (.int _ n) => some n
 | _ => none
def asB : Option Value→Option Bool
 | some (.bool b) => some b
 | _ => none
def asS : Option Value→Option ByteArray
 | some (.string s) => some s
 | _ => none
def asN : Option Value→Option Nat
 | some (.int _ (.ofNat n)) => some n
 | _ => none
def X.int (ρ : Rho) (x : X) : Option Int:=asI (x.den ρ)
def X.bool (ρ : Rho) (x : X) : Option Bool:=asB (x.den ρ)
def X.bytes (ρ : Rho) (x : X) : Option ByteArray:=asS (x.den ρ)
def X.nat (ρ : Rho) (x : X) : Option Nat:=asN (x.den ρ)
theorem X.int_le {ρ ρ' : Rho} (h : ρ.le ρ') {x : X} {n : Int} (e : x.int ρ = some n) : x.int ρ' = some n:=by
 unfold X.int at e ⊢
 cases hx : x.den ρ with
 | none => rw [hx] at e; cases e
 | some v => rw [hx] at e; rw [X.den_le h x v hx]; exact e
theorem X.bool_le {ρ ρ' : Rho} (h : ρ.le ρ') {x : X} {n : Bool} (e : x.bool ρ = some n) : x.bool ρ' = some n:=by
 unfold X.bool at e ⊢
 cases hx : x.den ρ with
 | none => rw [hx] at e; cases e
 | some v => rw [hx] at e; rw [X.den_le h x v hx]; exact e
theorem X.bytes_le {ρ ρ' : Rho} (h : ρ.le ρ') {x : X} {n : ByteArray} (e : x.bytes ρ = some n) : x.bytes ρ' = some n:=by
 unfold X.bytes at e ⊢
 cases hx : x.den ρ with
 | none => rw [hx] at e; cases e
 | some v => rw [hx] at e; rw [X.den_le h x v hx]; exact e
theorem X.nat_le {ρ ρ' : Rho} (h : ρ.le ρ') {x : X} {n : Nat} (e : x.nat ρ = some n) : x.nat ρ' = some n:=by
 unfold X.nat at e ⊢
 cases hx : x.den ρ with
 | none => rw [hx] at e; cases e
 | some v => rw [hx] at e; rw [X.den_le h x v hx]; exact e
inductive AV where
 | bool (b : Bool)
 | int (k : IntKind) (n : Int)
 | str (s : List Nat)
 | nilptr
 | ptr (id off : Nat)
 | nilslice
 | slice (id off len cap : Nat) (exact : Bool)
 | stail (id back off cap : Nat)
 | nilmap
 | map (id : Nat)
 | func (fn : Fn) (first captured : List AV)
 | yield (id : Nat)
 | nilFunc
 | iface (t : TypeId) (v : AV)
 | nilIface
 | agg (l : List AV)
 | tuple (l : List AV)
 | sint (k : IntKind) (x : X)
 | sbool (x : X)
 | sstr (x : X)
 | slx (id w : Nat) (base lo len cap : X)
 | slo (id w : Nat) (len : X)
 | ptx (id w : Nat) (base i : X) (j : Nat)
 | slot (id : Nat)
 | spt (id w : Nat) (lo hi : X)
instance : Inhabited AV:=⟨.nilIface⟩
mutual
def AV.inst (σ : Sig) : AV→Option Value
 | .bool b => some (.bool b)
 | .int k n => some (.int k n)
 | .str s => some (.string (z7 s))
 | .nilptr => some (.pointer none)
 | .ptr id off => match σ id with | some x => some (.pointer (some ⟨x.1,off,none⟩)) | none => none
 | .nilslice => some (.slice none 0 0)
 | .slice id off len cap ex => match σ id with | some x => if ex = true∨(0 < x.2∧len≤x.2 - cap) then some (.slice (some ⟨x.1,off,none⟩) len (if ex then cap else x.2 - cap)) else none | none => none
 | .stail id back off cap => match σ id with | some x => if 0 < x.2 then some (.slice (some ⟨x.1,if x.2 - cap = 0 then back else off,none⟩) 0 (x.2 - cap)) else none | none => none
 | .nilmap => some (.map none)
 | .map id => match σ id with | some x => some (.map (some x.1)) | none => none
 | .func fn f c => match instL σ f with
   | some f' => match instL σ c with
     | some c' => some (.func fn f'.toArray c'.toArray)
     | none => none
   | none => none
 | .yield id => match σ id with | some x => some (.func (.yield x.1) #[] #[]) | none => none
 | .nilFunc => some .nilFunc
 | .iface t v => match v.inst σ with | some v' => some (.iface t v') | none => none
 | .nilIface => some .nilIface
 | .agg l => match instL σ l with | some l' => some (.agg l'.toArray) | none => none
 | .tuple l => match instL σ l with | some l' => some (.tuple l'.toArray) | none => none
 | .sint k x => match x.int σ.rho with | some n => some (.int k n) | none => none
 | .sbool x => match x.bool σ.rho with | some b => some (.bool b) | none => none
 | .sstr x => match x.bytes σ.rho with | some b => some (.string b) | none => none
 | .slx id w base lo len cap => match σ id with
   | some x => match base.nat σ.rho with
     | some b => match lo.nat σ.rho with
       | some l => match len.nat σ.rho with
         | some n => match cap.nat σ.rho with
           | some c => if n≤c then some (.slice (some ⟨x.1,b + l * w,none⟩) n c) else none
           | none => none
         | none => none
       | none => none
     | none => none
   | none => none
 | .slo id w len => match σ id with
   | some x => match len.nat σ.rho with
     | some n => if n≤x.2 then some (.slice (some ⟨x.1,0,none⟩) n x.2) else none
     | none => none
   | none => none
 | .ptx id w base i j => match σ id with
   | some x => match base.nat σ.rho with
     | some b => match i.nat σ.rho with
       | some n => some (.pointer (some ⟨x.1,b + n * w + j,none⟩))
       | none => none
     | none => none
   | none => none
 | .slot id => match σ id with | some x => some (.int .i64 (x.1 : Int)) | none => none
 | .spt id w lo hi => match σ id with
   | some x => match lo.nat σ.rho with
     | some l => match hi.nat σ.rho with
       | some h => if l≤h∧h≤x.2 then some (.slice (some ⟨x.1,if x.2 = l then 0 else l * w,none⟩) (h - l) (x.2 - l)) else none
       | none => none
     | none => none
   | none => none
def instL (σ : Sig) : List AV→Option (List Value)
 | [] => some []
 | v :: l => match v.inst σ with
   | some v' => match instL σ l with
     | some l' => some (v' :: l')
     | none => none
   | none => none
end
structure Sig.wle (σ σ' : Sig) : Prop where
 blk : ∀ i x,σ i = some x→σ' i = some x
 rho : σ.rho.le σ'.rho
instance {σ σ' : Sig} : CoeFun (Sig.wle σ σ') (fun _ => ∀ i x,σ i = some x→σ' i = some x):=⟨Sig.wle.blk⟩
structure Sig.le (σ σ' : Sig) : Prop where
 blk : ∀ i x,σ i = some x→σ' i = some x
 rho_eq : σ'.rho = σ.rho
theorem Sig.le.rho {σ σ' : Sig} (h : σ.le σ') : σ.rho.le σ'.rho:=by rw [h.rho_eq]; exact Rho.le_refl _
theorem Sig.le.w {σ σ' : Sig} (h : σ.le σ') : σ.wle σ':=⟨h.blk,h.rho⟩
instance {σ σ' : Sig} : CoeFun (Sig.le σ σ') (fun _ => ∀ i x,σ i = some x→σ' i = some x):=⟨Sig.le.blk⟩
theorem Sig.le_refl (σ : Sig) : σ.le σ:=⟨fun _ _ h => h,rfl⟩
theorem Sig.le_trans {a b c : Sig} (h : a.le b) (h' : b.le c) : a.le c:=⟨fun i x hx => h' i x (h i x hx),h'.rho_eq.trans h.rho_eq⟩
def Sig.bare : Sig:=⟨fun _ => Option.none,⟨fun _ => Option.none,fun _ _ => Option.none⟩⟩
theorem Sig.bare_le (σ : Sig) : Sig.wle Sig.bare σ:=⟨fun _ _ h => (nomatch h),⟨fun _ _ h => (nomatch h),fun _ _ _ h => (nomatch h)⟩⟩
mutual
theorem AV.inst_wle {σ σ' : Sig} (h : σ.wle σ') : ∀ (a : AV) (v : Value),a.inst σ = some v→a.inst σ' = some v
 | .bool b,v,e => by simpa [AV.inst] using e
 | .int k n,v,e => by simpa [AV.inst] using e
 | .str s,v,e => by simpa [AV.inst] using e
 | .nilptr,v,e => by simpa [AV.inst] using e
 | .ptr id off,v,e => by
   simp only [AV.inst] at e ⊢
   cases hs : σ id with
   | none => rw [hs] at e; cases e
   | some x => rw [hs] at e; rw [h _ _ hs]; exact e
 | .nilslice,v,e => by simpa [AV.inst] using e
 | .slice id off len cap ex,v,e => by
   simp only [AV.inst] at e ⊢
   cases hs : σ id with
   | none => rw [hs] at e; cases e
   | some x => rw [hs] at e; rw [h _ _ hs]; exact e
 | .stail id back off cap,v,e => by
   simp only [AV.inst] at e ⊢
   cases hs : σ id with
   | none => rw [hs] at e; cases e
   | some x => rw [hs] at e; rw [h _ _ hs]; exact e
 | .nilmap,v,e => by simpa [AV.inst] using e
 | .map id,v,e => by
   simp only [AV.inst] at e ⊢
   cases hs : σ id with
   | none => rw [hs] at e; cases e
   | some x => rw [hs] at e; rw [h _ _ hs]; exact e
 | .func fn f c,v,e => by
   simp only [AV.inst] at e ⊢
   cases hf : instL σ f with
   | none => rw [hf] at e; cases e
   | some f' =>
     rw [hf] at e
     rw [instL_wle h f f' hf]
     cases hc : instL σ c with
     | none => rw [hc] at e; cases e
     | some c' => rw [hc] at e; rw [instL_wle h c c' hc]; exact e
 | .yield id,v,e => by
   simp only [AV.inst] at e ⊢
   cases hs : σ id with
   | none => rw [hs] at e; cases e
   | some x => rw [hs] at e; rw [h _ _ hs]; exact e
 | .nilFunc,v,e => by simpa [AV.inst] using e
 | .iface t a,v,e => by
   simp only [AV.inst] at e ⊢
   cases hf : a.inst σ with
   | none => rw [hf] at e; cases e
   | some f' => rw [hf] at e; rw [AV.inst_wle h a f' hf]; exact e
 | .nilIface,v,e => by simpa [AV.inst] using e
 | .agg l,v,e => by
   simp only [AV.inst] at e ⊢
   cases hf : instL σ l with
   | none => rw [hf] at e; cases e
   | some f' => rw [hf] at e; rw [instL_wle h l f' hf]; exact e
 | .tuple l,v,e => by
   simp only [AV.inst] at e ⊢
   cases hf : instL σ l with
   | none => rw [hf] at e; cases e
   | some f' => rw [hf] at e; rw [instL_wle h l f' hf]; exact e
 | .sint k x,v,e => by
   simp only [AV.inst] at e ⊢
   cases hf : x.int σ.rho with
   | none => rw [hf] at e; cases e
   | some f' => rw [hf] at e; rw [X.int_le h.rho hf]; exact e
 | .sbool x,v,e => by
   simp only [AV.inst] at e ⊢
   cases hf : x.bool σ.rho with
   | none => rw [hf] at e; cases e
   | some f' => rw [hf] at e; rw [X.bool_le h.rho hf]; exact e
 | .sstr x,v,e => by
   simp only [AV.inst] at e ⊢
   cases hf : x.bytes σ.rho with
   | none => rw [hf] at e; cases e
   | some f' => rw [hf] at e; rw [X.bytes_le h.rho hf]; exact e
 | .slx id w base lo len cap,v,e => by
   simp only [AV.inst] at e ⊢
   cases hs : σ id with
   | none => rw [hs] at e; cases e
   | some x =>
     rw [hs] at e; rw [h _ _ hs]
     cases h1 : base.nat σ.rho with
     | none => rw [h1] at e; cases e
     | some y1 =>
       rw [h1] at e; rw [X.nat_le h.rho h1]
       cases h2 : lo.nat σ.rho with
       | none => rw [h2] at e; cases e
       | some y2 =>
         rw [h2] at e; rw [X.nat_le h.rho h2]
         cases h3 : len.nat σ.rho with
         | none => rw [h3] at e; cases e
         | some y3 =>
           rw [h3] at e; rw [X.nat_le h.rho h3]
           cases h4 : cap.nat σ.rho with
           | none => rw [h4] at e; cases e
           | some y4 => rw [h4] at e; rw [X.nat_le h.rho h4]; exact e
 | .slo id w len,v,e => by
   simp only [AV.inst] at e ⊢
   cases hs : σ id with
   | none => rw [hs] at e; cases e
   | some x =>
     rw [hs] at e; rw [h _ _ hs]
     cases h3 : len.nat σ.rho with
     | none => rw [h3] at e; cases e
     | some y3 => rw [h3] at e; rw [X.nat_le h.rho h3]; exact e
 | .ptx id w base i j,v,e => by
   simp only [AV.inst] at e ⊢
   cases hs : σ id with
   | none => rw [hs] at e; cases e
   | some x =>
     rw [hs] at e; rw [h _ _ hs]
     cases h1 : base.nat σ.rho with
     | none => rw [h1] at e; cases e
     | some y1 =>
       rw [h1] at e; rw [X.nat_le h.rho h1]
       cases h2 : i.nat σ.rho with
       | none => rw [h2] at e; cases e
       | some y2 => rw [h2] at e; rw [X.nat_le h.rho h2]; exact e
 | .slot id,v,e => by
   simp only [AV.inst] at e ⊢
   cases hs : σ id with
   | none => rw [hs] at e; cases e
   | some x => rw [hs] at e; rw [h _ _ hs]; exact e
 | .spt id w lo hi,v,e => by
   simp only [AV.inst] at e ⊢
   cases hs : σ id with
   | none => rw [hs] at e; cases e
   | some x =>
     rw [hs] at e; rw [h _ _ hs]
     cases h1 : lo.nat σ.rho with
     | none => rw [h1] at e; cases e
     | some y1 =>
       rw [h1] at e; rw [X.nat_le h.rho h1]
       cases h2 : hi.nat σ.rho with
       | none => rw [h2] at e; cases e
       | some y2 => rw [h2] at e; rw [X.nat_le h.rho h2]; exact e
theorem instL_wle {σ σ' : Sig} (h : σ.wle σ') : ∀ (l : List AV) (vs : List Value),instL σ l = some vs→instL σ' l = some vs
 | [],vs,e => by simpa [instL] using e
 | a :: l,vs,e => by
   simp only [instL] at e ⊢
   cases hf : a.inst σ with
   | none => rw [hf] at e; cases e
   | some f' =>
     rw [hf] at e
     rw [AV.inst_wle h a f' hf]
     cases hc : instL σ l with
     | none => rw [hc] at e; cases e
     | some c' => rw [hc] at e; rw [instL_wle h l c' hc]; exact e
end
theorem AV.inst_le {σ σ' : Sig} (h : σ.le σ') (a : AV) (v : Value) (e : a.inst σ = some v) : a.inst σ' = some v:=AV.inst_wle h.w a v e
theorem instL_le {σ σ' : Sig} (h : σ.le σ') (l : List AV) (vs : List Value) (e : instL σ l = some vs) : instL σ' l = some vs:=instL_wle h.w l vs e
inductive Ins (σ : Sig) : List AV→List Value→Prop where
 | nil : Ins σ [] []
 | cons {a : AV} {v : Value} {l : List AV} {vs : List Value} : a.inst σ = some v→Ins σ l vs→Ins σ (a :: l) (v :: vs)
theorem instL_iff {σ : Sig} : ∀ {l : List AV} {vs : List Value},instL σ l = some vs↔Ins σ l vs
 | [],vs => by
   simp only [instL,Option.some.injEq]
   exact ⟨fun h => h ▸ .nil,fun h => by cases h; rfl⟩
 | a :: l,vs => by
   simp only [instL]
   constructor
   ·intro h
    cases ha : a.inst σ with
    | none => rw [ha] at h; cases h
    | some v =>
      rw [ha] at h
      cases hl : instL σ l with
      | none => rw [hl] at h; cases h
      | some vs' =>
        rw [hl] at h
        simp only [Option.some.injEq] at h
        subst h
        exact .cons ha (instL_iff.1 hl)
   ·intro h
    cases h with
    | cons ha hl => rw [ha,instL_iff.2 hl]
theorem Ins.le {σ σ' : Sig} (h : σ.le σ') {l : List AV} {vs : List Value} (hi : Ins σ l vs) : Ins σ' l vs:=instL_iff.1 (instL_le h _ _ (instL_iff.2 hi))
theorem Ins.length {σ : Sig} {l : List AV} {vs : List Value} (h : Ins σ l vs) : vs.length = l.length:=by
 induction h with
 | nil => rfl
 | cons _ _ ih => simp [ih]
theorem Ins.append {σ : Sig} {l m : List AV} {vs us : List Value} (h : Ins σ l vs) (h' : Ins σ m us) : Ins σ (l ++ m) (vs ++ us):=by
 induction h with
 | nil => exact h'
 | cons ha _ ih => exact .cons ha ih
theorem Ins.take {σ : Sig} {l : List AV} {vs : List Value} (h : Ins σ l vs) : ∀ n,Ins σ (l.take n) (vs.take n):=by
 induction h with
 | nil => intro n; simp; exact .nil
 | cons ha _ ih => intro n; cases n with
   | zero => exact .nil
   | succ n => exact .cons ha (ih n)
theorem Ins.drop {σ : Sig} {l : List AV} {vs : List Value} (h : Ins σ l vs) : ∀ n,Ins σ (l.drop n) (vs.drop n):=by
 induction h with
 | nil => intro n; simp; exact .nil
 | cons ha hl ih => intro n; cases n with
   | zero => exact .cons ha hl
   | succ n => exact ih n
theorem Ins.get {σ : Sig} {l : List AV} {vs : List Value} (h : Ins σ l vs) : ∀ {n : Nat} {a : AV},l[n]? = some a→∃ v,vs[n]? = some v∧a.inst σ = some v:=by
 induction h with
 | nil => intro n a e; simp at e
 | cons ha _ ih =>
   intro n a e
   cases n with
   | zero => simp only [List.getElem?_cons_zero,Option.some.injEq] at e; subst e; exact ⟨_,rfl,ha⟩
   | succ n => simp only [List.getElem?_cons_succ] at e ⊢; exact ih e
theorem Ins.set {σ : Sig} {l : List AV} {vs : List Value} (h : Ins σ l vs) {a : AV} {v : Value} (ha : a.inst σ = some v) : ∀ n,Ins σ (l.set n a) (vs.set n v):=by
 induction h with
 | nil => intro n; simp; exact .nil
 | cons hb hl ih => intro n; cases n with
   | zero => exact .cons ha hl
   | succ n => exact .cons hb (ih n)
mutual
def ofV : Value→Option AV
 | .bool b => some (.bool b)
 | .int k n => some (.int k n)
 | .string ⟨⟨l⟩⟩ => some (.str (l.map UInt8.toNat))
 | .pointer none => some .nilptr
 | .slice none 0 0 => some .nilslice
 | .map none => some .nilmap
 | .nilFunc => some .nilFunc
 | .func (.func f) ⟨[]⟩ ⟨[]⟩ => some (.func (.func f) [] [])
 | .iface t v => match ofV v with | some a => some (.iface t a) | none => none
 | .nilIface => some .nilIface
 | .agg ⟨l⟩ => match ofVL l with | some l => some (.agg l) | none => none
 | .tuple ⟨l⟩ => match ofVL l with | some l => some (.tuple l) | none => none
 | _ => none
def ofVL : List Value→Option (List AV)
 | [] => some []
 | v :: l => match ofV v with
   | some a => match ofVL l with
     | some m => some (a :: m)
     | none => none
   | none => none
end
theorem bytesOf_toNat (l : List UInt8) : z7 (l.map UInt8.toNat) = ⟨⟨l⟩⟩:=by
 have : l.map (UInt8.ofNat ∘ UInt8.toNat) = l:=by
  conv => rhs; rw [← List.map_id l]
  exact List.map_congr_left fun x _ => by simp
 simp [z7,List.map_map,this]
mutual
theorem ofV_inst (σ : Sig) : ∀ (v : Value) (a : AV),ofV v = some a→a.inst σ = some v
 | .bool b,a,h => by simp only [ofV,Option.some.injEq] at h; subst h; rfl
 | .int k n,a,h => by simp only [ofV,Option.some.injEq] at h; subst h; rfl
 | .string ⟨⟨l⟩⟩,a,h => by simp only [ofV,Option.some.injEq] at h; subst h; simp [AV.inst,bytesOf_toNat]
 | .pointer none,a,h => by simp only [ofV,Option.some.injEq] at h; subst h; rfl
 | .slice none 0 0,a,h => by simp only [ofV,Option.some.injEq] at h; subst h; rfl
 | .map none,a,h => by simp only [ofV,Option.some.injEq] at h; subst h; rfl
 | .nilFunc,a,h => by simp only [ofV,Option.some.injEq] at h; subst h; rfl
 | .func (.func f) ⟨[]⟩ ⟨[]⟩,a,h => by simp only [ofV,Option.some.injEq] at h; subst h; simp [AV.inst,instL]
 | .iface t v,a,h => by
   simp only [ofV] at h
   split at h
   ·rename_i b hb
    simp only [Option.some.injEq] at h; subst h
    simp [AV.inst,ofV_inst σ v b hb]
   ·cases h
 | .nilIface,a,h => by simp only [ofV,Option.some.injEq] at h; subst h; rfl
 | .agg ⟨l⟩,a,h => by
   simp only [ofV] at h
   split at h
   ·rename_i b hb
    simp only [Option.some.injEq] at h; subst h
    simp [AV.inst,ofVL_inst σ l b hb]
   ·cases h
 | .tuple ⟨l⟩,a,h => by
   simp only [ofV] at h
   split at h
   ·rename_i b hb
    simp only [Option.some.injEq] at h; subst h
    simp [AV.inst,ofVL_inst σ l b hb]
   ·cases h
 | .float _ _,a,h => by simp [ofV] at h
 | .complex _ _ _,a,h => by simp [ofV] at h
 | .chan _,a,h => by simp [ofV] at h
 | .pointer (some _),a,h => by simp [ofV] at h
 | .slice (some _) _ _,a,h => by simp [ofV] at h
 | .slice none (_ + 1) _,a,h => by simp [ofV] at h
 | .slice none 0 (_ + 1),a,h => by simp [ofV] at h
 | .map (some _),a,h => by simp [ofV] at h
 | .func (.method _) _ _,a,h => by simp [ofV] at h
 | .func (.methodOf _ _) _ _,a,h => by simp [ofV] at h
 | .func (.via _ _ _ _) _ _,a,h => by simp [ofV] at h
 | .func (.yield _) _ _,a,h => by simp [ofV] at h
 | .func (.func _) ⟨_ :: _⟩ _,a,h => by simp [ofV] at h
 | .func (.func _) ⟨[]⟩ ⟨_ :: _⟩,a,h => by simp [ofV] at h
theorem ofVL_inst (σ : Sig) : ∀ (l : List Value) (m : List AV),ofVL l = some m→instL σ m = some l
 | [],m,h => by simp only [ofVL,Option.some.injEq] at h; subst h; rfl
 | v :: l,m,h => by
   simp only [ofVL] at h
   split at h
   ·rename_i a ha
    split at h
    ·rename_i n hn
     simp only [Option.some.injEq] at h; subst h
     simp [instL,ofV_inst σ v a ha,ofVL_inst σ l n hn]
    ·cases h
   ·cases h
end
def AV.plain (a : AV) : Option Value:=a.inst Sig.bare
theorem AV.plain_inst {a : AV} {v : Value} (h : a.plain = some v) (σ : Sig) : a.inst σ = some v:=AV.inst_wle (Sig.bare_le σ) a v h
open Go
inductive ATarget where
 | code (f : Fn) (captured : List AV)
 | collected (id : Nat)
structure ADef where
 target : ATarget
 args : List AV
def yI : Code→List (Array Tmp×Code×Code)
 | .seq a b => yI a ++ yI b
 | .cond _ a b => yI a ++ yI b
 | .block _ c => yI c
 | .loop c => yI c
 | .scope c => yI c
 | .rangeFunc _ ps as b => [(ps,as,b)]
 | _ => []
def keyOf : Code→Nat
 | .region id _ _ => id
 | .seq a b => match keyOf a with
   | 0 => keyOf b
   | k => k
 | .cond _ a b => match keyOf a with
   | 0 => keyOf b
   | k => k
 | .block _ c => keyOf c
 | .loop c => keyOf c
 | _ => 0
def keyMiss (k : Nat) : List (Array Tmp×Code×Code)→Bool
 | [] => true
 | r :: l => match Nat.beq (keyOf r.2.2) k with
   | true => false
   | false => keyMiss k l
def pickKey (k : Nat) : List (Array Tmp×Code×Code)→Option (Array Tmp×Code×Code)
 | [] => none
 | r :: l => match Nat.beq (keyOf r.2.2) k with
   | true => match keyMiss k l with
     | true => some r
     | false => none
   | false => pickKey k l
theorem keyMiss_mem {k : Nat} : ∀ {l : List (Array Tmp×Code×Code)},keyMiss k l = true→∀ r ∈ l,Nat.beq (keyOf r.2.2) k = false
 | [],_,r,hr => by cases hr
 | s :: l,h,r,hr => by
   simp only [keyMiss] at h
   split at h
   ·cases h
   ·rename_i e
    cases hr with
    | head => exact e
    | tail _ hm => exact keyMiss_mem h r hm
theorem pickKey_mem {k : Nat} : ∀ {l : List (Array Tmp×Code×Code)} {s : Array Tmp×Code×Code},pickKey k l = some s→∀ r ∈ l,keyOf r.2.2 = k→r = s
 | [],s,_,r,hr,_ => by cases hr
 | t :: l,s,h,r,hr,hk => by
   simp only [pickKey] at h
   split at h
   ·split at h
    ·rename_i hm
     cases h
     cases hr with
     | head => rfl
     | tail _ hm' =>
       have:=keyMiss_mem hm r hm'
       rw [hk,Nat.beq_refl] at this
       cases this
    ·cases h
   ·rename_i e
    cases hr with
    | head => rw [hk,Nat.beq_refl] at e; cases e
    | tail _ hm => exact pickKey_mem h r hm hk
def rangeAt (P : Program) (f k : Nat) : Option (Array Tmp×Code×Code):=match P.funcs[f]? with
 | some fn => match fn.body with
   | some c => pickKey k (yI c)
   | none => none
 | none => none
inductive LSrc where
 | own (params : Array Tmp) (assign body : Code)
 | at_ (f k : Nat)
def LSrc.code (P : Program) : LSrc→Option (Array Tmp×Code×Code)
 | .own p a b => some (p,a,b)
 | .at_ f k => rangeAt P f k
structure ALoop where
 state : LoopState
 pending : Option Code
 tmps : Trie AV
 size : Nat
 src : LSrc
 defers : Nat
inductive CK where
 | int (k : IntKind)
 | bool
 | str
def CK.fits : CK→Value→Prop
 | .int k,v => ∃ n,v = .int k n
 | .bool,v => ∃ b,v = .bool b
 | .str,v => ∃ s,v = .string s
inductive RowFits : List CK→List Value→Prop where
 | nil : RowFits [] []
 | cons {c : CK} {v : Value} {l : List CK} {vs : List Value} : c.fits v→RowFits l vs→RowFits (c :: l) (v :: vs)
def yL (ag : Bool) (l : List Value) : Value:=match ag with
 | true => .agg l.toArray
 | false => l.headD .nilIface
def EntRows (kag : Bool) (ks : List CK) (vag : Bool) (vs : List CK) : List MapEntry→List (List Value)→Prop
 | [],[] => True
 | e :: es,r :: rs => (∃ kc vc,r = kc ++ vc∧RowFits ks kc∧RowFits vs vc∧e.key = yL kag kc∧e.val = yL vag vc)∧EntRows kag ks vag vs es rs
 | _,_ => False
def findER (kc : List Value) : List MapEntry→List (List Value)→Nat→Option (Nat×Value)
 | e :: es,r :: rows,i => match y8 kc r with
   | true => some (i,e.val)
   | false => findER kc es rows (i + 1)
 | _,_,_ => none
inductive ABlock where
 | cells (l : List AV) (t : TypeId)
 | map (es : List (AV×AV×Nat)) (clock : Nat)
 | siter (s : List Nat) (pos : Nat)
 | loop (l : ALoop)
 | deferred (ds : Option (List ADef))
 | rows (w : Nat) (sch : List CK) (base x : X) (own : Bool) (t : TypeId)
 | smap (kag : Bool) (ks : List CK) (vag : Bool) (vs : List CK) (x : X)
 | miter (m since : Nat) (seen : List Nat)
 | spend (kag : Bool) (ks : List CK) (vag : Bool) (vs : List CK) (x : X) (kxs : List X) (p : Nat) (v : AV)
 | bag (w : Nat) (sch : List CK) (x : X) (t : TypeId)
def TRel (σ : Sig) (T : Trie AV) (tmps : Array Value) : Prop:=∀ i a,T.get i = some a→∃ v,tmps[i]? = some v∧a.inst σ = some v
def ATarget.inst (σ : Sig) : ATarget→Option Target
 | .code f c => match instL σ c with | some c' => some (.fn f c'.toArray) | none => none
 | .collected id => match σ id with | some x => some (.collected x.1) | none => none
def ADef.inst (σ : Sig) (d : ADef) : Option Deferred:=
 match d.target.inst σ with
 | some t => match instL σ d.args with
   | some a => some { target:=t,args:=a.toArray }
   | none => none
 | none => none
def instD (σ : Sig) : List ADef→Option (List Deferred)
 | [] => some []
 | d :: l => match d.inst σ with
   | some d' => match instD σ l with
     | some l' => some (d' :: l')
     | none => none
   | none => none
def yY (σ : Sig) : List (AV×AV×Nat)→Option (List MapEntry)
 | [] => some []
 | (k,v,b) :: l => match k.inst σ with
   | some k' => match v.inst σ with
     | some v' => match yY σ l with
       | some l' => some ({ key:=k',val:=v',born:=b } :: l')
       | none => none
     | none => none
   | none => none
structure LRel (P : Program) (σ : Sig) (a : ALoop) (l : Loop) : Prop where
 state : l.state = a.state
 pending : l.pending = a.pending
 tmps : TRel σ a.tmps l.tmps
 size : l.tmps.size = a.size
 code : a.src.code P = some (l.params,l.assign,l.body)
 defers : ∃ x,σ a.defers = some x∧l.defers = x.1
def yo (P : Program) (t : TypeId) : Nat:=((P.info? t).map (·.size)).getD 0
def BRel (P : Program) (σ : Sig) (κ : Nat) : ABlock→Obj→Prop
 | .cells l t,o => ∃ (vs rest : List Value) (fr : Nat×Nat),Ins σ l vs∧o = .cells (vs ++ rest).toArray t fr∧κ * yo P t≤(vs ++ rest).length∧(fr.2≤fr.1∨(vs ++ rest).length≤fr.1)∧(κ = 0∨vs.length≤κ * yo P t)
 | .map es c,o => ∃ es' : List MapEntry,yY σ es = some es'∧o = .map es'.toArray c
 | .siter s p,o => o = .stringIter (z7 s) p
 | .loop l,o => ∃ l',LRel P σ l l'∧o = .loop l'
 | .deferred none,o => o = .deferred none
 | .deferred (some ds),o => ∃ ds',instD σ ds = some ds'∧o = .deferred (some ds')
 | .rows w sch base x own t,o => ∃ (rows : List (List Value)) (pre rest : List Value) (fr : Nat×Nat) (t₀ : TypeId),x.den σ.rho = some (zQ rows)∧base.nat σ.rho = some pre.length∧sch.length = w∧0 < w ∧
    (∀ r ∈ rows,RowFits sch r)∧o = .cells (pre ++ (rows.flatten ++ rest)).toArray t₀ fr ∧
    (own = true→t₀ = t∧pre = []∧κ * yo P t≤(pre ++ (rows.flatten ++ rest)).length∧yo P t = w∧(fr.2≤fr.1∨(pre ++ (rows.flatten ++ rest)).length≤fr.1))
 | .smap kag ks vag vs x,o => ∃ (es : List MapEntry) (c : Nat) (rows : List (List Value)),x.den σ.rho = some (zQ rows)∧o = .map es.toArray c∧EntRows kag ks vag vs es rows∧Go.MapKept.Stamped es.toArray c
 | .miter m since seen,o => ∃ y,σ m = some y∧o = .mapIter (some y.1) since seen.toArray since
 | .bag w sch x t,o => ∃ (rows L : List (List Value)) (rest : List Value) (fr : Nat×Nat),x.den σ.rho = some (zQ rows)∧L.Perm rows∧sch.length = w∧0 < w∧(∀ r ∈ rows,RowFits sch r) ∧
    o = .cells (L.flatten ++ rest).toArray t fr∧κ * yo P t≤(L.flatten ++ rest).length∧yo P t = w∧(fr.2≤fr.1∨(L.flatten ++ rest).length≤fr.1)
 | .spend kag ks vag vs x kxs p v,o => ∃ (es : List MapEntry) (c : Nat) (rows : List (List Value)) (kc : List Value) (n : Nat) (e : MapEntry) (y : Nat×Nat),x.den σ.rho = some (zQ rows)∧denL σ.rho kxs = some kc∧RowFits ks kc∧o = .map es.toArray c ∧
    Go.MapKept.Stamped es.toArray c∧σ p = some y∧es[n]? = some e∧e.key = yL kag kc∧e.born = y.1 ∧
    (∀ (e' : MapEntry) (vc : List Value),RowFits vs vc→e'.key = yL kag kc→e'.val = yL vag vc→EntRows kag ks vag vs (es.set n e') (putRow kc (kc ++ vc) rows)) ∧
    v.inst σ = some e.val∧∃ rows' : List (List Value),EntRows kag ks vag vs es rows'∧findER kc es rows' 0 = some (n,e.val)
theorem TRel.le {σ σ' : Sig} (h : σ.le σ') {T : Trie AV} {tmps : Array Value} (hT : TRel σ T tmps) : TRel σ' T tmps:=fun i a ha =>
 let ⟨v,hv,hi⟩:=hT i a ha; ⟨v,hv,AV.inst_le h _ _ hi⟩
theorem ATarget.inst_le {σ σ' : Sig} (h : σ.le σ') {a : ATarget} {t : Target} (e : a.inst σ = some t) : a.inst σ' = some t:=by
 cases a with
 | code f c =>
   simp only [ATarget.inst] at e ⊢
   cases hc : instL σ c with
   | none => rw [hc] at e; cases e
   | some c' => rw [hc] at e; rw [instL_le h c c' hc]; exact e
 | collected id =>
   simp only [ATarget.inst] at e ⊢
   cases hs : σ id with
   | none => rw [hs] at e; cases e
   | some x => rw [hs] at e; rw [h _ _ hs]; exact e
theorem ADef.inst_le {σ σ' : Sig} (h : σ.le σ') {a : ADef} {d : Deferred} (e : a.inst σ = some d) : a.inst σ' = some d:=by
 simp only [ADef.inst] at e ⊢
 cases ht : a.target.inst σ with
 | none => rw [ht] at e; cases e
 | some t =>
   rw [ht] at e; rw [ATarget.inst_le h ht]
   cases hc : instL σ a.args with
   | none => rw [hc] at e; cases e
   | some c' => rw [hc] at e; rw [instL_le h _ c' hc]; exact e
theorem instD_le {σ σ' : Sig} (h : σ.le σ') : ∀ {l : List ADef} {ds : List Deferred},instD σ l = some ds→instD σ' l = some ds
 | [],ds,e => by simpa [instD] using e
 | d :: l,ds,e => by
   simp only [instD] at e ⊢
   cases hd : d.inst σ with
   | none => rw [hd] at e; cases e
   | some d' =>
     rw [hd] at e; rw [ADef.inst_le h hd]
     cases hl : instD σ l with
     | none => rw [hl] at e; cases e
     | some l' => rw [hl] at e; rw [instD_le h hl]; exact e
theorem instE_le {σ σ' : Sig} (h : σ.le σ') : ∀ {l : List (AV×AV×Nat)} {es : List MapEntry},yY σ l = some es→yY σ' l = some es
 | [],es,e => by simpa [yY] using e
 | (k,v,b) :: l,es,e => by
   simp only [yY] at e ⊢
   cases hk : k.inst σ with
   | none => rw [hk] at e; cases e
   | some k' =>
     rw [hk] at e; rw [AV.inst_le h k k' hk]
     cases hv : v.inst σ with
     | none => rw [hv] at e; cases e
     | some v' =>
       rw [hv] at e; rw [AV.inst_le h v v' hv]
       cases hl : yY σ l with
       | none => rw [hl] at e; cases e
       | some l' => rw [hl] at e; rw [instE_le h hl]; exact e
theorem LRel.le {P : Program} {σ σ' : Sig} (h : σ.le σ') {a : ALoop} {l : Loop} (e : LRel P σ a l) : LRel P σ' a l:=
 ⟨e.state,e.pending,e.tmps.le h,e.size,e.code,let ⟨x,hx,hd⟩:=e.defers; ⟨x,h _ _ hx,hd⟩⟩
theorem BRel.le {P : Program} {σ σ' : Sig} (h : σ.le σ') {κ : Nat} {b : ABlock} {o : Obj} (e : BRel P σ κ b o) : BRel P σ' κ b o:=by
 cases b with
 | cells l t => obtain ⟨vs,rest,fr,hi,ho,hk⟩:=e; exact ⟨vs,rest,fr,hi.le h,ho,hk⟩
 | map es c => obtain ⟨es',hi,ho⟩:=e; exact ⟨es',instE_le h hi,ho⟩
 | siter s p => exact e
 | loop l => obtain ⟨l',hi,ho⟩:=e; exact ⟨l',hi.le h,ho⟩
 | deferred ds =>
   cases ds with
   | none => exact e
   | some ds => obtain ⟨ds',hi,ho⟩:=e; exact ⟨ds',instD_le h hi,ho⟩
 | rows w sch base x own t =>
   obtain ⟨rows,pre,rest,fr,t₀,h1,h2,h3,h4,h5,h6,h7⟩:=e
   exact ⟨rows,pre,rest,fr,t₀,X.den_le h.rho _ _ h1,X.nat_le h.rho h2,h3,h4,h5,h6,h7⟩
 | smap kag ks vag vs x => obtain ⟨es,c,rows,h1,h2,h3⟩:=e; exact ⟨es,c,rows,X.den_le h.rho _ _ h1,h2,h3⟩
 | miter m since seen => obtain ⟨y,h1,h2⟩:=e; exact ⟨y,h _ _ h1,h2⟩
 | bag w sch x t => obtain ⟨rows,L,rest,fr,h1,h2⟩:=e; exact ⟨rows,L,rest,fr,X.den_le h.rho _ _ h1,h2⟩
 | spend kag ks vag vs x kxs p v => obtain ⟨es,c,rows,kc,n,en,y,h1,h2,h3,h4,h5,h6,h7,h8,h9,h10,h11,h12⟩:=e; exact ⟨es,c,rows,kc,n,en,y,X.den_le h.rho _ _ h1,denL_le h.rho _ _ h2,h3,h4,h5,h _ _ h6,h7,h8,h9,h10,AV.inst_le h _ _ h11,h12⟩
structure ASt where
 heap : Trie ABlock
 next : Nat
 limit : Nat→Bool
structure HRel (P : Program) (σ : Sig) (h : Nat→Option ABlock) (next : Nat) (limit : Nat→Bool) (w : World) (Wr : Nat→Prop) : Prop where
 at_ : ∀ id blk,h id = some blk→∃ b κ o,σ id = some (b,κ)∧w.heap[b]? = some o∧BRel P σ κ blk o
 inj : ∀ i j bi bj x y,h i = some bi→h j = some bj→σ i = some x→σ j = some y→x.1 = y.1→i = j∨(limit i = false∧limit j = false)
 wr : ∀ id blk x,h id = some blk→limit id = true→σ id = some x→Wr x.1
 wrNew : ∀ b,w.heap.size≤b→Wr b
 fresh : ∀ id,next≤id→σ id = none∧h id = none
 low : ∀ id,next≤id→limit id = true
structure Kept (Wr : Nat→Prop) (w w' : World) : Prop where
 size : w.heap.size≤w'.heap.size
 same : ∀ b,¬ Wr b→w'.heap[b]? = w.heap[b]?
 out : w'.os = w.os∧w'.output = w.output
theorem Kept.refl (Wr : Nat→Prop) (w : World) : Kept Wr w w:=⟨Nat.le_refl _,fun _ _ => rfl,rfl,rfl⟩
theorem Kept.trans {Wr : Nat→Prop} {a b c : World} (h : Kept Wr a b) (h' : Kept Wr b c) : Kept Wr a c:=
 ⟨Nat.le_trans h.size h'.size,fun b hb => (h'.same b hb).trans (h.same b hb),h'.out.1.trans h.out.1,h'.out.2.trans h.out.2⟩
abbrev ASt.rel (P : Program) (σ : Sig) (S : ASt) (w : World) (Wr : Nat→Prop) : Prop:=HRel P σ S.heap.get S.next S.limit w Wr
structure Sig.upto (n : Nat) (σ σ' : Sig) : Prop where
 blk : ∀ id,id < n→σ' id = σ id
 rho : σ'.rho = σ.rho
instance {n : Nat} {σ σ' : Sig} : CoeFun (Sig.upto n σ σ') (fun _ => ∀ id,id < n→σ' id = σ id):=⟨Sig.upto.blk⟩
theorem Sig.upto_refl (n : Nat) (σ : Sig) : Sig.upto n σ σ:=⟨fun _ _ => rfl,rfl⟩
theorem Sig.upto.le {n : Nat} {σ σ' : Sig} (h : Sig.upto n σ σ') (hf : ∀ id,n≤id→σ id = none) : σ.le σ':=by
 refine ⟨fun i x hx => ?_,h.rho⟩
 rcases Nat.lt_or_ge i n with hi | hi
 ·rw [h i hi]; exact hx
 ·rw [hf i hi] at hx; cases hx
structure Post (P : Program) (σ : Sig) (S : ASt) (w : World) (Wr : Nat→Prop) (σ' : Sig) (S' : ASt) (w' : World) : Prop where
 rel : S'.rel P σ' w' Wr
 upto : Sig.upto S.next σ σ'
 next : S.next≤S'.next
 limit : S'.limit = S.limit
 kept : Kept Wr w w'
 frame : ∀ id,S.limit id = false→S'.heap.get id = S.heap.get id
theorem Post.le {P : Program} {σ σ' : Sig} {S S' : ASt} {w w' : World} {Wr : Nat→Prop} (hS : S.rel P σ w Wr) (h : Post P σ S w Wr σ' S' w') : σ.le σ':=
 h.upto.le fun id hid => (hS.fresh id hid).1
theorem Post.refl {P : Program} {σ : Sig} {S : ASt} {w : World} {Wr : Nat→Prop} (hS : S.rel P σ w Wr) : Post P σ S w Wr σ S w:=
 ⟨hS,Sig.upto_refl _ _,Nat.le_refl _,rfl,Kept.refl _ _,fun _ _ => rfl⟩
theorem Post.trans {P : Program} {σ σ₁ σ₂ : Sig} {S S₁ S₂ : ASt} {w w₁ w₂ : World} {Wr : Nat→Prop}
  (h : Post P σ S w Wr σ₁ S₁ w₁) (h' : Post P σ₁ S₁ w₁ Wr σ₂ S₂ w₂) : Post P σ S w Wr σ₂ S₂ w₂:=
 ⟨h'.rel,⟨fun id hid => (h'.upto id (Nat.lt_of_lt_of_le hid h.next)).trans (h.upto id hid),h'.upto.rho.trans h.upto.rho⟩,Nat.le_trans h.next h'.next,h'.limit.trans h.limit,h.kept.trans h'.kept,fun id hid => (h'.frame id (by rw [h.limit]; exact hid)).trans (h.frame id hid)⟩
theorem HRel.heap_eq {P : Program} {σ : Sig} {h : Nat→Option ABlock} {n : Nat} {l : Nat→Bool} {w w' : World} {Wr : Nat→Prop} (H : HRel P σ h n l w Wr) (e : w'.heap = w.heap) :
  HRel P σ h n l w' Wr:=
 ⟨fun id blk hb => by rw [e]; exact H.at_ id blk hb,H.inj,H.wr,fun b hb => H.wrNew b (by rw [← e]; exact hb),H.fresh,H.low⟩
theorem Kept.heap_eq {Wr : Nat→Prop} {w w' : World} (e : w'.heap = w.heap) (ho : w'.os = w.os∧w'.output = w.output) : Kept Wr w w':=⟨by rw [e]; exact Nat.le_refl _,fun _ _ => by rw [e],ho⟩
theorem Post.drew {P : Program} {σ : Sig} {S : ASt} {w w' : World} {Wr : Nat→Prop} (hS : S.rel P σ w Wr) (e : w'.heap = w.heap) (ho : w'.os = w.os∧w'.output = w.output) : Post P σ S w Wr σ S w':=
 ⟨hS.heap_eq e,Sig.upto_refl _ _,Nat.le_refl _,rfl,Kept.heap_eq e ho,fun _ _ => rfl⟩
def zM : Nat:=2147483648
def Sig.add (σ : Sig) (id : Nat) (x : Nat×Nat) : Sig:=⟨fun i => if i = id then some x else σ i,σ.rho⟩
theorem Sig.add_same (σ : Sig) (id : Nat) (x : Nat×Nat) : σ.add id x id = some x:=by simp [Sig.add]
theorem Sig.add_upto (σ : Sig) (id : Nat) (x : Nat×Nat) : Sig.upto id σ (σ.add id x):=⟨fun i hi => by simp [Sig.add,Nat.ne_of_lt hi],rfl⟩
theorem post_new {P : Program} {σ : Sig} {S : ASt} {w w' : World} {Wr : Nat→Prop} (hS : S.rel P σ w Wr) (hn : S.next < zM) {κ : Nat} {blk : ABlock} {o : Obj}
  (hb : BRel P σ κ blk o) (he : w'.heap = w.heap.push o) (ho : w'.os = w.os∧w'.output = w.output:=by exact ⟨rfl,rfl⟩) :
  Post P σ S w Wr (σ.add S.next (w.heap.size,κ)) { heap:=Trie.put (some blk) depth S.heap S.next,next:=S.next + 1,limit:=S.limit } w':=by
 have hle : σ.le (σ.add S.next (w.heap.size,κ)):=(Sig.add_upto σ S.next _).le fun id hid => (hS.fresh id hid).1
 have hget : ∀ j,(Trie.put (some blk) depth S.heap S.next).get j = if j = S.next then some blk else S.heap.get j:=fun j => Trie.get_put _ _ _ _ (by simpa [zM] using hn)
 have hlt : ∀ id b x,S.heap.get id = some b→σ id = some x→x.1 < w.heap.size:=fun id b x h1 h2 => by
  obtain ⟨b',κ',o',e1,e2,_⟩:=hS.at_ id b h1
  rw [e1] at h2; cases h2
  exact (Array.getElem?_eq_some_iff.1 e2).1
 refine ⟨⟨?_,?_,?_,?_,?_,?_⟩,Sig.add_upto _ _ _,Nat.le_succ _,rfl,⟨by rw [he]; simp,fun b hb' => ?_,ho⟩,fun id hid => by
  have hne : id≠S.next:=fun e => by
   have:=hS.low id (by omega)
   rw [hid] at this; cases this
  show (Trie.put (some blk) depth S.heap S.next).get id = _
  rw [hget,if_neg hne]⟩
 ·intro id b h
  rw [hget] at h
  split at h
  ·rename_i hid; subst hid; cases h
   exact ⟨w.heap.size,κ,o,Sig.add_same _ _ _,by rw [he]; simp,hb.le hle⟩
  ·rename_i hid
   obtain ⟨b',κ',o',e1,e2,e3⟩:=hS.at_ id b h
   refine ⟨b',κ',o',hle _ _ e1,?_,e3.le hle⟩
   have hlt':=(Array.getElem?_eq_some_iff.1 e2).1
   rw [Array.getElem?_eq_getElem hlt'] at e2
   rw [he,Array.getElem?_push_lt hlt']
   exact e2
 ·intro i j bi bj x y hi hj hx hy hxy
  rw [hget] at hi hj
  simp only [Sig.add] at hx hy
  split at hi <;> split at hj
  ·omega
  ·rename_i h1 h2
   rw [if_pos h1] at hx; rw [if_neg h2] at hy
   cases hx
   have:=hlt j bj y hj hy
   simp only at hxy; omega
  ·rename_i h1 h2
   rw [if_neg h1] at hx; rw [if_pos h2] at hy
   cases hy
   have:=hlt i bi x hi hx
   simp only at hxy; omega
  ·rename_i h1 h2
   rw [if_neg h1] at hx; rw [if_neg h2] at hy
   exact hS.inj i j bi bj x y hi hj hx hy hxy
 ·intro id b x h hl hx
  rw [hget] at h
  simp only [Sig.add] at hx
  split at h
  ·rename_i h1
   rw [if_pos h1] at hx; cases hx
   exact hS.wrNew _ (Nat.le_refl _)
  ·rename_i h1
   rw [if_neg h1] at hx
   exact hS.wr id b x h hl hx
 ·intro b hb'
  rw [he,Array.size_push] at hb'
  exact hS.wrNew b (by omega)
 ·intro id hid
  have h1 : S.next + 1≤id:=hid
  have:=hS.fresh id (by omega)
  show (σ.add S.next (w.heap.size,κ)) id = none∧(Trie.put (some blk) depth S.heap S.next).get id = none
  rw [hget,if_neg (by omega)]
  simp only [Sig.add]
  rw [if_neg (by omega)]
  exact this
 ·intro id hid
  have hid' : S.next + 1≤id:=hid
  exact hS.low id (by omega)
 ·rw [he]
  have : b < w.heap.size:=by
   rcases Nat.lt_or_ge b w.heap.size with h | h
   ·exact h
   ·exact absurd (hS.wrNew b h) hb'
  rw [Array.getElem?_push_lt this,Array.getElem?_eq_getElem this]
theorem post_set {P : Program} {σ : Sig} {S : ASt} {w w' : World} {Wr : Nat→Prop} (hS : S.rel P σ w Wr) {id b κ : Nat} {blk₀ blk : ABlock} {o : Obj}
  (hid : S.heap.get id = some blk₀) (hl : S.limit id = true) (hs : σ id = some (b,κ)) (hb : BRel P σ κ blk o) (hm : id < zM) (he : w'.heap = w.heap.setIfInBounds b o) (ho : w'.os = w.os∧w'.output = w.output:=by exact ⟨rfl,rfl⟩) :
  Post P σ S w Wr σ { S with heap:=Trie.put (some blk) depth S.heap id } w':=by
 have hget : ∀ j,(Trie.put (some blk) depth S.heap id).get j = if j = id then some blk else S.heap.get j:=fun j => Trie.get_put _ _ _ _ (by simpa [zM] using hm)
 obtain ⟨b0,κ0,o0,e1,e2,e3⟩:=hS.at_ id blk₀ hid
 rw [hs] at e1; cases e1
 have hbl:=(Array.getElem?_eq_some_iff.1 e2).1
 refine ⟨⟨?_,?_,?_,?_,?_,?_⟩,Sig.upto_refl _ _,Nat.le_refl _,rfl,⟨by rw [he]; simp,fun x hx => ?_,ho⟩,fun j hj => by
  show (Trie.put (some blk) depth S.heap id).get j = _
  rw [hget,if_neg (fun e => by rw [e,hl] at hj; cases hj)]⟩
 ·intro j c h
  rw [hget] at h
  split at h
  ·rename_i hj; subst hj; cases h
   exact ⟨b,κ,o,hs,by rw [he,Array.getElem?_setIfInBounds_self_of_lt hbl],hb⟩
  ·rename_i hj
   obtain ⟨b',κ',o',f1,f2,f3⟩:=hS.at_ j c h
   refine ⟨b',κ',o',f1,?_,f3⟩
   have : b≠b':=fun e => (hS.inj j id c blk₀ _ _ h hid f1 hs e.symm).elim hj fun hq => by rw [hl] at hq; cases hq.2
   rw [he,Array.getElem?_setIfInBounds_ne this]; exact f2
 ·intro i j bi bj x y hi hj hx hy hxy
  rw [hget] at hi hj
  split at hi <;> split at hj
  ·omega
  ·rename_i h1 h2; subst h1; exact hS.inj _ j blk₀ bj x y hid hj hx hy hxy
  ·rename_i h1 h2; subst h2; exact hS.inj i _ bi blk₀ x y hi hid hx hy hxy
  ·exact hS.inj i j bi bj x y hi hj hx hy hxy
 ·intro j c x h hlj hx
  rw [hget] at h
  split at h
  ·rename_i h1; subst h1; exact hS.wr _ blk₀ x hid hlj hx
  ·exact hS.wr j c x h hlj hx
 ·intro c hc; rw [he] at hc; exact hS.wrNew c (by simpa using hc)
 ·intro j hj
  have:=hS.fresh j hj
  show _∧(Trie.put (some blk) depth S.heap id).get j = none
  rw [hget,if_neg (fun e => by rw [← e,this.2] at hid; cases hid)]
  exact this
 ·exact hS.low
 ·have hw:=hS.wr id blk₀ _ hid hl hs
  rw [he,Array.getElem?_setIfInBounds_ne (fun e => hx (by rw [← e]; exact hw))]
end Go.Proofs.YtfddkbbjnghefaaGreatDoor.Zs
