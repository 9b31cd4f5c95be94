/-
  Abstract values and an abstract memory for closed runs: the relation to the model's own values and worlds.
-/
import Derived.AtR
import Derived.Orders
import Derived.KernelRfl
import Derived.WalkKit
namespace Go.Proofs.YtliimmpokhmjeaaGreatDoor.Zev
open Go
set_option linter.unusedSimpArgs false
set_option linter.unusedVariables false

/-! ## A finite map over numbers, quick for the kernel -/

inductive Trie (α : Type) where
  | leaf
  | node (v : Option α) (l r : Trie α)
instance {α : Type} : Inhabited (Trie α) := ⟨.leaf⟩

noncomputable def Trie.get {α : Type} (t : Trie α) : Nat → Option α :=
  Trie.rec (motive := fun _ => Nat → Option α) (fun _ => none)
    (fun v _ _ ihl ihr i => Bool.rec (Bool.rec (ihl (Nat.div i 2)) (ihr (Nat.sub (Nat.div i 2) 1)) (Nat.beq (Nat.mod i 2) 0)) v (Nat.beq i 0)) t

theorem Trie.get_leaf {α : Type} (i : Nat) : (Trie.leaf : Trie α).get i = none := rfl
theorem Trie.get_node {α : Type} (v : Option α) (l r : Trie α) (i : Nat) :
    (Trie.node v l r).get i = if i = 0 then v else if i % 2 = 0 then r.get (i / 2 - 1) else l.get (i / 2) := by
  have e : (Trie.node v l r).get i = Bool.rec (Bool.rec (l.get (i / 2)) (r.get (i / 2 - 1)) (Nat.beq (i % 2) 0)) v (Nat.beq i 0) := rfl
  rw [e]
  cases h0 : Nat.beq i 0 with
  | true => simp [Nat.eq_of_beq_eq_true h0]
  | false =>
    have h1 : i ≠ 0 := Nat.ne_of_beq_eq_false h0
    simp only [h1, if_false]
    cases h2 : Nat.beq (i % 2) 0 with
    | true => simp [Nat.eq_of_beq_eq_true h2]
    | false => simp [Nat.ne_of_beq_eq_false h2]

/-- Sets a place and hands the new map on; what was gone through is rebuilt in full. -/
noncomputable def Trie.setK {α β : Type} (a : Option α) (n : Nat) : Trie α → Nat → (Trie α → β) → β :=
  Nat.rec (motive := fun _ => Trie α → Nat → (Trie α → β) → β) (fun t _ k => k t)
    (fun _ ih t i k => Trie.rec (motive := fun _ => β)
      (Bool.rec (Bool.rec (ih .leaf (Nat.div i 2) fun l => k (.node none l .leaf)) (ih .leaf (Nat.sub (Nat.div i 2) 1) fun r => k (.node none .leaf r)) (Nat.beq (Nat.mod i 2) 0))
        (k (.node a .leaf .leaf)) (Nat.beq i 0))
      (fun v l r _ _ => Bool.rec (Bool.rec (ih l (Nat.div i 2) fun l => k (.node v l r)) (ih r (Nat.sub (Nat.div i 2) 1) fun r => k (.node v l r)) (Nat.beq (Nat.mod i 2) 0))
        (k (.node a l r)) (Nat.beq i 0)) t) n

/-- The plain form of the same. -/
noncomputable def Trie.put {α : Type} (a : Option α) (n : Nat) : Trie α → Nat → Trie α :=
  Nat.rec (motive := fun _ => Trie α → Nat → Trie α) (fun t _ => t)
    (fun _ ih t i => Trie.rec (motive := fun _ => Trie α)
      (Bool.rec (Bool.rec (.node none (ih .leaf (Nat.div i 2)) .leaf) (.node none .leaf (ih .leaf (Nat.sub (Nat.div i 2) 1))) (Nat.beq (Nat.mod i 2) 0)) (.node a .leaf .leaf) (Nat.beq i 0))
      (fun v l r _ _ => Bool.rec (Bool.rec (.node v (ih l (Nat.div i 2)) r) (.node v l (ih r (Nat.sub (Nat.div i 2) 1))) (Nat.beq (Nat.mod i 2) 0)) (.node a l r) (Nat.beq i 0)) t) n
theorem Trie.put_leaf {α : Type} (a : Option α) (n i : Nat) :
    Trie.put a (n + 1) .leaf i = if i = 0 then .node a .leaf .leaf else if i % 2 = 0 then .node none .leaf (Trie.put a n .leaf (i / 2 - 1)) else .node none (Trie.put a n .leaf (i / 2)) .leaf := by
  have e : Trie.put a (n + 1) .leaf i = Bool.rec (Bool.rec (.node none (Trie.put a n .leaf (i / 2)) .leaf) (.node none .leaf (Trie.put a n .leaf (i / 2 - 1))) (Nat.beq (i % 2) 0)) (.node a .leaf .leaf) (Nat.beq i 0) := rfl
  rw [e]
  cases h0 : Nat.beq i 0 with
  | true => simp [Nat.eq_of_beq_eq_true h0]
  | false =>
    have h1 : i ≠ 0 := Nat.ne_of_beq_eq_false h0
    simp only [h1, if_false]
    cases h2 : Nat.beq (i % 2) 0 with
    | true => simp [Nat.eq_of_beq_eq_true h2]
    | false => simp [Nat.ne_of_beq_eq_false h2]
theorem Trie.put_node {α : Type} (a : Option α) (n : Nat) (v : Option α) (l r : Trie α) (i : Nat) :
    Trie.put a (n + 1) (.node v l r) i = if i = 0 then .node a l r else if i % 2 = 0 then .node v l (Trie.put a n r (i / 2 - 1)) else .node v (Trie.put a n l (i / 2)) r := by
  have e : Trie.put a (n + 1) (.node v l r) i = Bool.rec (Bool.rec (.node v (Trie.put a n l (i / 2)) r) (.node v l (Trie.put a n r (i / 2 - 1))) (Nat.beq (i % 2) 0)) (.node a l r) (Nat.beq i 0) := rfl
  rw [e]
  cases h0 : Nat.beq i 0 with
  | true => simp [Nat.eq_of_beq_eq_true h0]
  | false =>
    have h1 : i ≠ 0 := Nat.ne_of_beq_eq_false h0
    simp only [h1, if_false]
    cases h2 : Nat.beq (i % 2) 0 with
    | true => simp [Nat.eq_of_beq_eq_true h2]
    | false => simp [Nat.ne_of_beq_eq_false h2]

theorem Trie.setK_eq {α β : Type} (a : Option α) (n : Nat) : ∀ (t : Trie α) (i : Nat) (k : Trie α → β), Trie.setK a n t i k = k (Trie.put a n t i) := by
  induction n with
  | zero => intro t i k; cases t <;> rfl
  | succ n ih =>
    intro t i k
    cases t with
    | leaf =>
      have e : Trie.setK a (n + 1) .leaf i k = Bool.rec (Bool.rec (Trie.setK a n .leaf (i / 2) fun l => k (.node none l .leaf)) (Trie.setK a n .leaf (i / 2 - 1) fun r => k (.node none .leaf r)) (Nat.beq (i % 2) 0))
        (k (.node a .leaf .leaf)) (Nat.beq i 0) := rfl
      rw [e, ih, ih]
      rw [Trie.put_leaf]
      cases h0 : Nat.beq i 0 with
      | true => simp [Nat.eq_of_beq_eq_true h0]
      | false =>
        have h1 : i ≠ 0 := Nat.ne_of_beq_eq_false h0
        simp only [h1, if_false]
        cases h2 : Nat.beq (i % 2) 0 with
        | true => simp [Nat.eq_of_beq_eq_true h2]
        | false => simp [Nat.ne_of_beq_eq_false h2]
    | node v l r =>
      have e : Trie.setK a (n + 1) (.node v l r) i k = Bool.rec (Bool.rec (Trie.setK a n l (i / 2) fun l => k (.node v l r)) (Trie.setK a n r (i / 2 - 1) fun r => k (.node v l r)) (Nat.beq (i % 2) 0))
        (k (.node a l r)) (Nat.beq i 0) := rfl
      rw [e, ih, ih]
      rw [Trie.put_node]
      cases h0 : Nat.beq i 0 with
      | true => simp [Nat.eq_of_beq_eq_true h0]
      | false =>
        have h1 : i ≠ 0 := Nat.ne_of_beq_eq_false h0
        simp only [h1, if_false]
        cases h2 : Nat.beq (i % 2) 0 with
        | true => simp [Nat.eq_of_beq_eq_true h2]
        | false => simp [Nat.ne_of_beq_eq_false h2]

theorem Trie.get_put_ne {α : Type} (a : Option α) : ∀ (n : Nat) (t : Trie α) (i j : Nat), j ≠ i → (Trie.put a n t i).get j = t.get j
  | 0, t, i, j, _ => by cases t <;> rfl
  | n + 1, .leaf, i, j, h => by
    rw [Trie.put_leaf]
    split
    · rw [Trie.get_node, if_neg (by omega), Trie.get_leaf, Trie.get_leaf, Trie.get_leaf, ite_self]
    · split
      · rw [Trie.get_node, Trie.get_leaf, Trie.get_leaf]
        split
        · rfl
        · split
          · rw [Trie.get_put_ne a n _ _ _ (by omega)]; rfl
          · rfl
      · rw [Trie.get_node, Trie.get_leaf, Trie.get_leaf]
        split
        · rfl
        · split
          · rfl
          · rw [Trie.get_put_ne a n _ _ _ (by omega)]; rfl
  | n + 1, .node v l r, i, j, h => by
    rw [Trie.put_node]
    split
    · rw [Trie.get_node, Trie.get_node]
      have hj : ¬ j = 0 := by omega
      simp only [hj, if_false]
    · split
      · rw [Trie.get_node, Trie.get_node]
        split
        · rfl
        · split
          · rw [Trie.get_put_ne a n _ _ _ (by omega)]
          · rfl
      · rw [Trie.get_node, Trie.get_node]
        split
        · rfl
        · split
          · rfl
          · rw [Trie.get_put_ne a n _ _ _ (by omega)]

theorem Trie.get_put_eq {α : Type} (a : Option α) : ∀ (n : Nat) (t : Trie α) (i : Nat), i + 1 < 2 ^ n → (Trie.put a n t i).get i = a
  | 0, t, i, h => by simp at h
  | n + 1, .leaf, i, h => by
    rw [Nat.pow_succ] at h
    rw [Trie.put_leaf]
    split
    · rw [Trie.get_node, if_pos (by assumption)]
    · split
      · rw [Trie.get_node, if_neg (by assumption), if_pos (by assumption), Trie.get_put_eq a n _ _ (by omega)]
      · rw [Trie.get_node, if_neg (by assumption), if_neg (by assumption), Trie.get_put_eq a n _ _ (by omega)]
  | n + 1, .node v l r, i, h => by
    rw [Nat.pow_succ] at h
    rw [Trie.put_node]
    split
    · rw [Trie.get_node, if_pos (by assumption)]
    · split
      · rw [Trie.get_node, if_neg (by assumption), if_pos (by assumption), Trie.get_put_eq a n _ _ (by omega)]
      · rw [Trie.get_node, if_neg (by assumption), if_neg (by assumption), Trie.get_put_eq a n _ _ (by omega)]

/-- The levels of our maps. -/
def depth : Nat := 32
theorem Trie.get_put {α : Type} (t : Trie α) (a : Option α) (i j : Nat) (hi : i < 2 ^ 31) : (Trie.put a depth t i).get j = if j = i then a else t.get j := by
  split
  · rename_i h; subst h; exact Trie.get_put_eq a _ _ _ (by unfold depth; omega)
  · exact Trie.get_put_ne a _ _ _ _ (by assumption)

/-! ## Abstract values -/

inductive AV where
  | bool (b : Bool)
  | int (k : IntKind) (n : Int)
  | str (s : List Nat)
  | nilptr
  | ptr (id off : Nat)
  | nilslice
  | slice (id off len cap : Nat) (exact : Bool)
  | nilmap
  | map (id : Nat)
  | func (fn : Fn) (first captured : List AV)
  | yield (id : Nat)
  | nilFunc
  | iface (t : TypeId) (v : AV)
  | nilIface
  | agg (l : List AV)
  | tuple (l : List AV)
instance : Inhabited AV := ⟨.nilIface⟩

/-- Where the abstract blocks lie, and how many elements their arrays bear. -/
abbrev Sig := Nat → Option (Nat × Nat)

def bytesOf (l : List Nat) : ByteArray := ⟨(l.map UInt8.ofNat).toArray⟩

mutual
def AV.inst (σ : Sig) : AV → Option Value
  | .bool b => some (.bool b)
  | .int k n => some (.int k n)
  | .str s => some (.string (bytesOf s))
  | .nilptr => some (.pointer none)
  | .ptr id off => match σ id with | some x => some (.pointer (some ⟨x.1, off, none⟩)) | none => none
  | .nilslice => some (.slice none 0 0)
  | .slice id off len cap ex => match σ id with | some x => if ex = true ∨ len ≤ x.2 - cap then some (.slice (some ⟨x.1, off, none⟩) len (if ex then cap else x.2 - cap)) else none | none => none
  | .nilmap => some (.map none)
  | .map id => match σ id with | some x => some (.map (some x.1)) | none => none
  | .func fn f c => match instL σ f with
    | some f' => match instL σ c with
      | some c' => some (.func fn f'.toArray c'.toArray)
      | none => none
    | none => none
  | .yield id => match σ id with | some x => some (.func (.yield x.1) #[] #[]) | none => none
  | .nilFunc => some .nilFunc
  | .iface t v => match v.inst σ with | some v' => some (.iface t v') | none => none
  | .nilIface => some .nilIface
  | .agg l => match instL σ l with | some l' => some (.agg l'.toArray) | none => none
  | .tuple l => match instL σ l with | some l' => some (.tuple l'.toArray) | none => none
def instL (σ : Sig) : List AV → Option (List Value)
  | [] => some []
  | v :: l => match v.inst σ with
    | some v' => match instL σ l with
      | some l' => some (v' :: l')
      | none => none
    | none => none
end

def Sig.le (σ σ' : Sig) : Prop := ∀ i x, σ i = some x → σ' i = some x
theorem Sig.le_refl (σ : Sig) : σ.le σ := fun _ _ h => h
theorem Sig.le_trans {a b c : Sig} (h : a.le b) (h' : b.le c) : a.le c := fun i x hx => h' i x (h i x hx)
theorem Sig.none_le (σ : Sig) : Sig.le (fun _ => none) σ := fun _ _ h => by cases h

mutual
theorem AV.inst_le {σ σ' : Sig} (h : σ.le σ') : ∀ (a : AV) (v : Value), a.inst σ = some v → a.inst σ' = some v
  | .bool b, v, e => by simpa [AV.inst] using e
  | .int k n, v, e => by simpa [AV.inst] using e
  | .str s, v, e => by simpa [AV.inst] using e
  | .nilptr, v, e => by simpa [AV.inst] using e
  | .ptr id off, v, e => by
    simp only [AV.inst] at e ⊢
    cases hs : σ id with
    | none => rw [hs] at e; cases e
    | some x => rw [hs] at e; rw [h _ _ hs]; exact e
  | .nilslice, v, e => by simpa [AV.inst] using e
  | .slice id off len cap ex, v, e => by
    simp only [AV.inst] at e ⊢
    cases hs : σ id with
    | none => rw [hs] at e; cases e
    | some x => rw [hs] at e; rw [h _ _ hs]; exact e
  | .nilmap, v, e => by simpa [AV.inst] using e
  | .map id, v, e => by
    simp only [AV.inst] at e ⊢
    cases hs : σ id with
    | none => rw [hs] at e; cases e
    | some x => rw [hs] at e; rw [h _ _ hs]; exact e
  | .func fn f c, v, e => by
    simp only [AV.inst] at e ⊢
    cases hf : instL σ f with
    | none => rw [hf] at e; cases e
    | some f' =>
      rw [hf] at e
      rw [instL_le h f f' hf]
      cases hc : instL σ c with
      | none => rw [hc] at e; cases e
      | some c' => rw [hc] at e; rw [instL_le h c c' hc]; exact e
  | .yield id, v, e => by
    simp only [AV.inst] at e ⊢
    cases hs : σ id with
    | none => rw [hs] at e; cases e
    | some x => rw [hs] at e; rw [h _ _ hs]; exact e
  | .nilFunc, v, e => by simpa [AV.inst] using e
  | .iface t a, v, e => by
    simp only [AV.inst] at e ⊢
    cases hf : a.inst σ with
    | none => rw [hf] at e; cases e
    | some f' => rw [hf] at e; rw [AV.inst_le h a f' hf]; exact e
  | .nilIface, v, e => by simpa [AV.inst] using e
  | .agg l, v, e => by
    simp only [AV.inst] at e ⊢
    cases hf : instL σ l with
    | none => rw [hf] at e; cases e
    | some f' => rw [hf] at e; rw [instL_le h l f' hf]; exact e
  | .tuple l, v, e => by
    simp only [AV.inst] at e ⊢
    cases hf : instL σ l with
    | none => rw [hf] at e; cases e
    | some f' => rw [hf] at e; rw [instL_le h l f' hf]; exact e
theorem instL_le {σ σ' : Sig} (h : σ.le σ') : ∀ (l : List AV) (vs : List Value), instL σ l = some vs → instL σ' l = some vs
  | [], vs, e => by simpa [instL] using e
  | a :: l, vs, e => by
    simp only [instL] at e ⊢
    cases hf : a.inst σ with
    | none => rw [hf] at e; cases e
    | some f' =>
      rw [hf] at e
      rw [AV.inst_le h a f' hf]
      cases hc : instL σ l with
      | none => rw [hc] at e; cases e
      | some c' => rw [hc] at e; rw [instL_le h l c' hc]; exact e
end

/-- A list of abstract values read out, element by element. -/
inductive Ins (σ : Sig) : List AV → List Value → Prop where
  | nil : Ins σ [] []
  | cons {a : AV} {v : Value} {l : List AV} {vs : List Value} : a.inst σ = some v → Ins σ l vs → Ins σ (a :: l) (v :: vs)
theorem instL_iff {σ : Sig} : ∀ {l : List AV} {vs : List Value}, instL σ l = some vs ↔ Ins σ l vs
  | [], vs => by
    simp only [instL, Option.some.injEq]
    exact ⟨fun h => h ▸ .nil, fun h => by cases h; rfl⟩
  | a :: l, vs => by
    simp only [instL]
    constructor
    · intro h
      cases ha : a.inst σ with
      | none => rw [ha] at h; cases h
      | some v =>
        rw [ha] at h
        cases hl : instL σ l with
        | none => rw [hl] at h; cases h
        | some vs' =>
          rw [hl] at h
          simp only [Option.some.injEq] at h
          subst h
          exact .cons ha (instL_iff.1 hl)
    · intro h
      cases h with
      | cons ha hl => rw [ha, instL_iff.2 hl]
theorem Ins.le {σ σ' : Sig} (h : σ.le σ') {l : List AV} {vs : List Value} (hi : Ins σ l vs) : Ins σ' l vs := instL_iff.1 (instL_le h _ _ (instL_iff.2 hi))
theorem Ins.length {σ : Sig} {l : List AV} {vs : List Value} (h : Ins σ l vs) : vs.length = l.length := by
  induction h with
  | nil => rfl
  | cons _ _ ih => simp [ih]
theorem Ins.append {σ : Sig} {l m : List AV} {vs us : List Value} (h : Ins σ l vs) (h' : Ins σ m us) : Ins σ (l ++ m) (vs ++ us) := by
  induction h with
  | nil => exact h'
  | cons ha _ ih => exact .cons ha ih
theorem Ins.take {σ : Sig} {l : List AV} {vs : List Value} (h : Ins σ l vs) : ∀ n, Ins σ (l.take n) (vs.take n) := by
  induction h with
  | nil => intro n; simp; exact .nil
  | cons ha _ ih => intro n; cases n with
    | zero => exact .nil
    | succ n => exact .cons ha (ih n)
theorem Ins.drop {σ : Sig} {l : List AV} {vs : List Value} (h : Ins σ l vs) : ∀ n, Ins σ (l.drop n) (vs.drop n) := by
  induction h with
  | nil => intro n; simp; exact .nil
  | cons ha hl ih => intro n; cases n with
    | zero => exact .cons ha hl
    | succ n => exact ih n
theorem Ins.get {σ : Sig} {l : List AV} {vs : List Value} (h : Ins σ l vs) : ∀ {n : Nat} {a : AV}, l[n]? = some a → ∃ v, vs[n]? = some v ∧ a.inst σ = some v := by
  induction h with
  | nil => intro n a e; simp at e
  | cons ha _ ih =>
    intro n a e
    cases n with
    | zero => simp only [List.getElem?_cons_zero, Option.some.injEq] at e; subst e; exact ⟨_, rfl, ha⟩
    | succ n => simp only [List.getElem?_cons_succ] at e ⊢; exact ih e
theorem Ins.set {σ : Sig} {l : List AV} {vs : List Value} (h : Ins σ l vs) {a : AV} {v : Value} (ha : a.inst σ = some v) : ∀ n, Ins σ (l.set n a) (vs.set n v) := by
  induction h with
  | nil => intro n; simp; exact .nil
  | cons hb hl ih => intro n; cases n with
    | zero => exact .cons ha hl
    | succ n => exact .cons hb (ih n)

/-! ## Values without addresses -/

mutual
def ofV : Value → Option AV
  | .bool b => some (.bool b)
  | .int k n => some (.int k n)
  | .string ⟨⟨l⟩⟩ => some (.str (l.map UInt8.toNat))
  | .pointer none => some .nilptr
  | .slice none 0 0 => some .nilslice
  | .map none => some .nilmap
  | .nilFunc => some .nilFunc
  | .func (.func f) ⟨[]⟩ ⟨[]⟩ => some (.func (.func f) [] [])
  | .iface t v => match ofV v with | some a => some (.iface t a) | none => none
  | .nilIface => some .nilIface
  | .agg ⟨l⟩ => match ofVL l with | some l => some (.agg l) | none => none
  | .tuple ⟨l⟩ => match ofVL l with | some l => some (.tuple l) | none => none
  | _ => none
def ofVL : List Value → Option (List AV)
  | [] => some []
  | v :: l => match ofV v with
    | some a => match ofVL l with
      | some m => some (a :: m)
      | none => none
    | none => none
end

theorem bytesOf_toNat (l : List UInt8) : bytesOf (l.map UInt8.toNat) = ⟨⟨l⟩⟩ := by
  have : l.map (UInt8.ofNat ∘ UInt8.toNat) = l := by
    conv => rhs; rw [← List.map_id l]
    exact List.map_congr_left fun x _ => by simp
  simp [bytesOf, List.map_map, this]

mutual
theorem ofV_inst (σ : Sig) : ∀ (v : Value) (a : AV), ofV v = some a → a.inst σ = some v
  | .bool b, a, h => by simp only [ofV, Option.some.injEq] at h; subst h; rfl
  | .int k n, a, h => by simp only [ofV, Option.some.injEq] at h; subst h; rfl
  | .string ⟨⟨l⟩⟩, a, h => by simp only [ofV, Option.some.injEq] at h; subst h; simp [AV.inst, bytesOf_toNat]
  | .pointer none, a, h => by simp only [ofV, Option.some.injEq] at h; subst h; rfl
  | .slice none 0 0, a, h => by simp only [ofV, Option.some.injEq] at h; subst h; rfl
  | .map none, a, h => by simp only [ofV, Option.some.injEq] at h; subst h; rfl
  | .nilFunc, a, h => by simp only [ofV, Option.some.injEq] at h; subst h; rfl
  | .func (.func f) ⟨[]⟩ ⟨[]⟩, a, h => by simp only [ofV, Option.some.injEq] at h; subst h; simp [AV.inst, instL]
  | .iface t v, a, h => by
    simp only [ofV] at h
    split at h
    · rename_i b hb
      simp only [Option.some.injEq] at h; subst h
      simp [AV.inst, ofV_inst σ v b hb]
    · cases h
  | .nilIface, a, h => by simp only [ofV, Option.some.injEq] at h; subst h; rfl
  | .agg ⟨l⟩, a, h => by
    simp only [ofV] at h
    split at h
    · rename_i b hb
      simp only [Option.some.injEq] at h; subst h
      simp [AV.inst, ofVL_inst σ l b hb]
    · cases h
  | .tuple ⟨l⟩, a, h => by
    simp only [ofV] at h
    split at h
    · rename_i b hb
      simp only [Option.some.injEq] at h; subst h
      simp [AV.inst, ofVL_inst σ l b hb]
    · cases h
  | .float _ _, a, h => by simp [ofV] at h
  | .complex _ _ _, a, h => by simp [ofV] at h
  | .chan _, a, h => by simp [ofV] at h
  | .pointer (some _), a, h => by simp [ofV] at h
  | .slice (some _) _ _, a, h => by simp [ofV] at h
  | .slice none (_ + 1) _, a, h => by simp [ofV] at h
  | .slice none 0 (_ + 1), a, h => by simp [ofV] at h
  | .map (some _), a, h => by simp [ofV] at h
  | .func (.method _) _ _, a, h => by simp [ofV] at h
  | .func (.methodOf _ _) _ _, a, h => by simp [ofV] at h
  | .func (.via _ _ _ _) _ _, a, h => by simp [ofV] at h
  | .func (.yield _) _ _, a, h => by simp [ofV] at h
  | .func (.func _) ⟨_ :: _⟩ _, a, h => by simp [ofV] at h
  | .func (.func _) ⟨[]⟩ ⟨_ :: _⟩, a, h => by simp [ofV] at h
theorem ofVL_inst (σ : Sig) : ∀ (l : List Value) (m : List AV), ofVL l = some m → instL σ m = some l
  | [], m, h => by simp only [ofVL, Option.some.injEq] at h; subst h; rfl
  | v :: l, m, h => by
    simp only [ofVL] at h
    split at h
    · rename_i a ha
      split at h
      · rename_i n hn
        simp only [Option.some.injEq] at h; subst h
        simp [instL, ofV_inst σ v a ha, ofVL_inst σ l n hn]
      · cases h
    · cases h
end

/-- The value of an abstract value that holds no address. -/
def AV.plain (a : AV) : Option Value := a.inst fun _ => none
theorem AV.plain_inst {a : AV} {v : Value} (h : a.plain = some v) (σ : Sig) : a.inst σ = some v := AV.inst_le (Sig.none_le σ) a v h

end Go.Proofs.YtliimmpokhmjeaaGreatDoor.Zev
