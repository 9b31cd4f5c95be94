/-
  The abstract memory and its relation to a world.
-/
import Derived.Test.YtliimmpokhmjeaaGreatDoorZevA
namespace Go.Proofs.YtliimmpokhmjeaaGreatDoor.Zev
open Go
set_option linter.unusedSimpArgs false
set_option linter.unusedVariables false

inductive ATarget where
  | code (f : Fn) (captured : List AV)
  | collected (id : Nat)

structure ADef where
  target : ATarget
  args : List AV

structure ALoop where
  state : LoopState
  pending : Option Code
  tmps : Trie AV
  size : Nat
  params : Array Tmp
  assign : Code
  body : Code
  defers : Nat

inductive ABlock where
  | cells (l : List AV) (t : TypeId)
  | map (es : List (AV × AV × Nat)) (clock : Nat)
  | siter (s : List Nat) (pos : Nat)
  | loop (l : ALoop)
  | deferred (ds : Option (List ADef))

/-- Slots read out. -/
def TRel (σ : Sig) (T : Trie AV) (tmps : Array Value) : Prop := ∀ i a, T.get i = some a → ∃ v, tmps[i]? = some v ∧ a.inst σ = some v

def ATarget.inst (σ : Sig) : ATarget → Option Target
  | .code f c => match instL σ c with | some c' => some (.fn f c'.toArray) | none => none
  | .collected id => match σ id with | some x => some (.collected x.1) | none => none
def ADef.inst (σ : Sig) (d : ADef) : Option Deferred :=
  match d.target.inst σ with
  | some t => match instL σ d.args with
    | some a => some { target := t, args := a.toArray }
    | none => none
  | none => none
def instD (σ : Sig) : List ADef → Option (List Deferred)
  | [] => some []
  | d :: l => match d.inst σ with
    | some d' => match instD σ l with
      | some l' => some (d' :: l')
      | none => none
    | none => none

def instE (σ : Sig) : List (AV × AV × Nat) → Option (List MapEntry)
  | [] => some []
  | (k, v, b) :: l => match k.inst σ with
    | some k' => match v.inst σ with
      | some v' => match instE σ l with
        | some l' => some ({ key := k', val := v', born := b } :: l')
        | none => none
      | none => none
    | none => none

structure LRel (σ : Sig) (a : ALoop) (l : Loop) : Prop where
  state : l.state = a.state
  pending : l.pending = a.pending
  tmps : TRel σ a.tmps l.tmps
  size : l.tmps.size = a.size
  params : l.params = a.params
  assign : l.assign = a.assign
  body : l.body = a.body
  defers : ∃ x, σ a.defers = some x ∧ l.defers = x.1

def cellSize (P : Program) (t : TypeId) : Nat := ((P.info? t).map (·.size)).getD 0

/-- What a block of memory is, read as an abstract one; 'κ': for how many elements its array has room at least. -/
def BRel (P : Program) (σ : Sig) (κ : Nat) : ABlock → Obj → Prop
  | .cells l t, o => ∃ (vs rest : List Value) (fr : Nat × Nat), Ins σ l vs ∧ o = .cells (vs ++ rest).toArray t fr ∧ κ * cellSize P t ≤ (vs ++ rest).length ∧ (fr.2 ≤ fr.1 ∨ (vs ++ rest).length ≤ fr.1)
  | .map es c, o => ∃ es' : List MapEntry, instE σ es = some es' ∧ o = .map es'.toArray c
  | .siter s p, o => o = .stringIter (bytesOf s) p
  | .loop l, o => ∃ l', LRel σ l l' ∧ o = .loop l'
  | .deferred none, o => o = .deferred none
  | .deferred (some ds), o => ∃ ds', instD σ ds = some ds' ∧ o = .deferred (some ds')

theorem TRel.le {σ σ' : Sig} (h : σ.le σ') {T : Trie AV} {tmps : Array Value} (hT : TRel σ T tmps) : TRel σ' T tmps := fun i a ha =>
  let ⟨v, hv, hi⟩ := hT i a ha; ⟨v, hv, AV.inst_le h _ _ hi⟩
theorem ATarget.inst_le {σ σ' : Sig} (h : σ.le σ') {a : ATarget} {t : Target} (e : a.inst σ = some t) : a.inst σ' = some t := by
  cases a with
  | code f c =>
    simp only [ATarget.inst] at e ⊢
    cases hc : instL σ c with
    | none => rw [hc] at e; cases e
    | some c' => rw [hc] at e; rw [instL_le h c c' hc]; exact e
  | collected id =>
    simp only [ATarget.inst] at e ⊢
    cases hs : σ id with
    | none => rw [hs] at e; cases e
    | some x => rw [hs] at e; rw [h _ _ hs]; exact e
theorem ADef.inst_le {σ σ' : Sig} (h : σ.le σ') {a : ADef} {d : Deferred} (e : a.inst σ = some d) : a.inst σ' = some d := by
  simp only [ADef.inst] at e ⊢
  cases ht : a.target.inst σ with
  | none => rw [ht] at e; cases e
  | some t =>
    rw [ht] at e; rw [ATarget.inst_le h ht]
    cases hc : instL σ a.args with
    | none => rw [hc] at e; cases e
    | some c' => rw [hc] at e; rw [instL_le h _ c' hc]; exact e
theorem instD_le {σ σ' : Sig} (h : σ.le σ') : ∀ {l : List ADef} {ds : List Deferred}, instD σ l = some ds → instD σ' l = some ds
  | [], ds, e => by simpa [instD] using e
  | d :: l, ds, e => by
    simp only [instD] at e ⊢
    cases hd : d.inst σ with
    | none => rw [hd] at e; cases e
    | some d' =>
      rw [hd] at e; rw [ADef.inst_le h hd]
      cases hl : instD σ l with
      | none => rw [hl] at e; cases e
      | some l' => rw [hl] at e; rw [instD_le h hl]; exact e
theorem instE_le {σ σ' : Sig} (h : σ.le σ') : ∀ {l : List (AV × AV × Nat)} {es : List MapEntry}, instE σ l = some es → instE σ' l = some es
  | [], es, e => by simpa [instE] using e
  | (k, v, b) :: l, es, e => by
    simp only [instE] at e ⊢
    cases hk : k.inst σ with
    | none => rw [hk] at e; cases e
    | some k' =>
      rw [hk] at e; rw [AV.inst_le h k k' hk]
      cases hv : v.inst σ with
      | none => rw [hv] at e; cases e
      | some v' =>
        rw [hv] at e; rw [AV.inst_le h v v' hv]
        cases hl : instE σ l with
        | none => rw [hl] at e; cases e
        | some l' => rw [hl] at e; rw [instE_le h hl]; exact e
theorem LRel.le {σ σ' : Sig} (h : σ.le σ') {a : ALoop} {l : Loop} (e : LRel σ a l) : LRel σ' a l :=
  ⟨e.state, e.pending, e.tmps.le h, e.size, e.params, e.assign, e.body, let ⟨x, hx, hd⟩ := e.defers; ⟨x, h _ _ hx, hd⟩⟩
theorem BRel.le {P : Program} {σ σ' : Sig} (h : σ.le σ') {κ : Nat} {b : ABlock} {o : Obj} (e : BRel P σ κ b o) : BRel P σ' κ b o := by
  cases b with
  | cells l t => obtain ⟨vs, rest, fr, hi, ho, hk⟩ := e; exact ⟨vs, rest, fr, hi.le h, ho, hk⟩
  | map es c => obtain ⟨es', hi, ho⟩ := e; exact ⟨es', instE_le h hi, ho⟩
  | siter s p => exact e
  | loop l => obtain ⟨l', hi, ho⟩ := e; exact ⟨l', hi.le h, ho⟩
  | deferred ds =>
    cases ds with
    | none => exact e
    | some ds => obtain ⟨ds', hi, ho⟩ := e; exact ⟨ds', instD_le h hi, ho⟩

/-! ## The whole memory -/

structure ASt where
  heap : Trie ABlock
  next : Nat
  limit : Nat → Bool

/-- The abstract memory (as a function) lies in the world; what it may write lies in 'Wr'. -/
structure HRel (P : Program) (σ : Sig) (h : Nat → Option ABlock) (next : Nat) (limit : Nat → Bool) (w : World) (Wr : Nat → Prop) : Prop where
  at_ : ∀ id blk, h id = some blk → ∃ b κ o, σ id = some (b, κ) ∧ w.heap[b]? = some o ∧ BRel P σ κ blk o
  inj : ∀ i j bi bj x y, h i = some bi → h j = some bj → σ i = some x → σ j = some y → x.1 = y.1 → i = j
  wr : ∀ id blk x, h id = some blk → limit id = true → σ id = some x → Wr x.1
  wrNew : ∀ b, w.heap.size ≤ b → Wr b
  fresh : ∀ id, next ≤ id → σ id = none ∧ h id = none
  low : ∀ id, next ≤ id → limit id = true

/-- What a step leaves: the world is at most larger, and written in 'Wr' alone. -/
structure Kept (Wr : Nat → Prop) (w w' : World) : Prop where
  size : w.heap.size ≤ w'.heap.size
  same : ∀ b, ¬ Wr b → w'.heap[b]? = w.heap[b]?
  out : w'.os = w.os ∧ w'.output = w.output
theorem Kept.refl (Wr : Nat → Prop) (w : World) : Kept Wr w w := ⟨Nat.le_refl _, fun _ _ => rfl, rfl, rfl⟩
theorem Kept.trans {Wr : Nat → Prop} {a b c : World} (h : Kept Wr a b) (h' : Kept Wr b c) : Kept Wr a c :=
  ⟨Nat.le_trans h.size h'.size, fun b hb => (h'.same b hb).trans (h.same b hb), h'.out.1.trans h.out.1, h'.out.2.trans h.out.2⟩

abbrev ASt.rel (P : Program) (σ : Sig) (S : ASt) (w : World) (Wr : Nat → Prop) : Prop := HRel P σ S.heap.get S.next S.limit w Wr

/-- Two readings agree below a number. -/
def Sig.upto (n : Nat) (σ σ' : Sig) : Prop := ∀ id, id < n → σ' id = σ id
theorem Sig.upto.le {n : Nat} {σ σ' : Sig} (h : Sig.upto n σ σ') (hf : ∀ id, n ≤ id → σ id = none) : σ.le σ' := fun i x hx => by
  rcases Nat.lt_or_ge i n with hi | hi
  · rw [h i hi]; exact hx
  · rw [hf i hi] at hx; cases hx

/-- What holds behind a step of the abstract machine. -/
structure Post (P : Program) (σ : Sig) (S : ASt) (w : World) (Wr : Nat → Prop) (σ' : Sig) (S' : ASt) (w' : World) : Prop where
  rel : S'.rel P σ' w' Wr
  upto : Sig.upto S.next σ σ'
  next : S.next ≤ S'.next
  limit : S'.limit = S.limit
  kept : Kept Wr w w'
  frame : ∀ id, S.limit id = false → S'.heap.get id = S.heap.get id
theorem Post.le {P : Program} {σ σ' : Sig} {S S' : ASt} {w w' : World} {Wr : Nat → Prop} (hS : S.rel P σ w Wr) (h : Post P σ S w Wr σ' S' w') : σ.le σ' :=
  h.upto.le fun id hid => (hS.fresh id hid).1
theorem Post.refl {P : Program} {σ : Sig} {S : ASt} {w : World} {Wr : Nat → Prop} (hS : S.rel P σ w Wr) : Post P σ S w Wr σ S w :=
  ⟨hS, fun _ _ => rfl, Nat.le_refl _, rfl, Kept.refl _ _, fun _ _ => rfl⟩
theorem Post.trans {P : Program} {σ σ₁ σ₂ : Sig} {S S₁ S₂ : ASt} {w w₁ w₂ : World} {Wr : Nat → Prop}
    (h : Post P σ S w Wr σ₁ S₁ w₁) (h' : Post P σ₁ S₁ w₁ Wr σ₂ S₂ w₂) : Post P σ S w Wr σ₂ S₂ w₂ :=
  ⟨h'.rel, fun id hid => (h'.upto id (Nat.lt_of_lt_of_le hid h.next)).trans (h.upto id hid), Nat.le_trans h.next h'.next, h'.limit.trans h.limit, h.kept.trans h'.kept, fun id hid => (h'.frame id (by rw [h.limit]; exact hid)).trans (h.frame id hid)⟩

/-- The heap alone matters. -/
theorem HRel.heap_eq {P : Program} {σ : Sig} {h : Nat → Option ABlock} {n : Nat} {l : Nat → Bool} {w w' : World} {Wr : Nat → Prop} (H : HRel P σ h n l w Wr) (e : w'.heap = w.heap) :
    HRel P σ h n l w' Wr :=
  ⟨fun id blk hb => by rw [e]; exact H.at_ id blk hb, H.inj, H.wr, fun b hb => H.wrNew b (by rw [← e]; exact hb), H.fresh, H.low⟩
theorem Kept.heap_eq {Wr : Nat → Prop} {w w' : World} (e : w'.heap = w.heap) (ho : w'.os = w.os ∧ w'.output = w.output) : Kept Wr w w' := ⟨by rw [e]; exact Nat.le_refl _, fun _ _ => by rw [e], ho⟩
theorem Post.drew {P : Program} {σ : Sig} {S : ASt} {w w' : World} {Wr : Nat → Prop} (hS : S.rel P σ w Wr) (e : w'.heap = w.heap) (ho : w'.os = w.os ∧ w'.output = w.output) : Post P σ S w Wr σ S w' :=
  ⟨hS.heap_eq e, fun _ _ => rfl, Nat.le_refl _, rfl, Kept.heap_eq e ho, fun _ _ => rfl⟩

/-! ## A new block -/

def maxIds : Nat := 2147483648
def Sig.add (σ : Sig) (id : Nat) (x : Nat × Nat) : Sig := fun i => if i = id then some x else σ i
theorem Sig.add_same (σ : Sig) (id : Nat) (x : Nat × Nat) : σ.add id x id = some x := by simp [Sig.add]
theorem Sig.add_upto (σ : Sig) (id : Nat) (x : Nat × Nat) : Sig.upto id σ (σ.add id x) := fun i hi => by simp [Sig.add, Nat.ne_of_lt hi]

theorem post_new {P : Program} {σ : Sig} {S : ASt} {w w' : World} {Wr : Nat → Prop} (hS : S.rel P σ w Wr) (hn : S.next < maxIds) {κ : Nat} {blk : ABlock} {o : Obj}
    (hb : BRel P σ κ blk o) (he : w'.heap = w.heap.push o) (ho : w'.os = w.os ∧ w'.output = w.output := by exact ⟨rfl, rfl⟩) :
    Post P σ S w Wr (σ.add S.next (w.heap.size, κ)) { heap := Trie.put (some blk) depth S.heap S.next, next := S.next + 1, limit := S.limit } w' := by
  have hle : σ.le (σ.add S.next (w.heap.size, κ)) := (Sig.add_upto σ S.next _).le fun id hid => (hS.fresh id hid).1
  have hget : ∀ j, (Trie.put (some blk) depth S.heap S.next).get j = if j = S.next then some blk else S.heap.get j := fun j => Trie.get_put _ _ _ _ (by simpa [maxIds] using hn)
  have hlt : ∀ id b x, S.heap.get id = some b → σ id = some x → x.1 < w.heap.size := fun id b x h1 h2 => by
    obtain ⟨b', κ', o', e1, e2, _⟩ := hS.at_ id b h1
    rw [e1] at h2; cases h2
    exact (Array.getElem?_eq_some_iff.1 e2).1
  refine ⟨⟨?_, ?_, ?_, ?_, ?_, ?_⟩, Sig.add_upto _ _ _, Nat.le_succ _, rfl, ⟨by rw [he]; simp, fun b hb' => ?_, ho⟩, fun id hid => by
    have hne : id ≠ S.next := fun e => by
      have := hS.low id (by omega)
      rw [hid] at this; cases this
    show (Trie.put (some blk) depth S.heap S.next).get id = _
    rw [hget, if_neg hne]⟩
  · intro id b h
    rw [hget] at h
    split at h
    · rename_i hid; subst hid; cases h
      exact ⟨w.heap.size, κ, o, Sig.add_same _ _ _, by rw [he]; simp, hb.le hle⟩
    · rename_i hid
      obtain ⟨b', κ', o', e1, e2, e3⟩ := hS.at_ id b h
      refine ⟨b', κ', o', hle _ _ e1, ?_, e3.le hle⟩
      have hlt' := (Array.getElem?_eq_some_iff.1 e2).1
      rw [Array.getElem?_eq_getElem hlt'] at e2
      rw [he, Array.getElem?_push_lt hlt']
      exact e2
  · intro i j bi bj x y hi hj hx hy hxy
    rw [hget] at hi hj
    simp only [Sig.add] at hx hy
    split at hi <;> split at hj
    · omega
    · rename_i h1 h2
      rw [if_pos h1] at hx; rw [if_neg h2] at hy
      cases hx
      have := hlt j bj y hj hy
      simp only at hxy; omega
    · rename_i h1 h2
      rw [if_neg h1] at hx; rw [if_pos h2] at hy
      cases hy
      have := hlt i bi x hi hx
      simp only at hxy; omega
    · rename_i h1 h2
      rw [if_neg h1] at hx; rw [if_neg h2] at hy
      exact hS.inj i j bi bj x y hi hj hx hy hxy
  · intro id b x h hl hx
    rw [hget] at h
    simp only [Sig.add] at hx
    split at h
    · rename_i h1
      rw [if_pos h1] at hx; cases hx
      exact hS.wrNew _ (Nat.le_refl _)
    · rename_i h1
      rw [if_neg h1] at hx
      exact hS.wr id b x h hl hx
  · intro b hb'
    rw [he, Array.size_push] at hb'
    exact hS.wrNew b (by omega)
  · intro id hid
    have h1 : S.next + 1 ≤ id := hid
    have := hS.fresh id (by omega)
    show (σ.add S.next (w.heap.size, κ)) id = none ∧ (Trie.put (some blk) depth S.heap S.next).get id = none
    rw [hget, if_neg (by omega)]
    simp only [Sig.add]
    rw [if_neg (by omega)]
    exact this
  · intro id hid
    have hid' : S.next + 1 ≤ id := hid
    exact hS.low id (by omega)
  · rw [he]
    have : b < w.heap.size := by
      rcases Nat.lt_or_ge b w.heap.size with h | h
      · exact h
      · exact absurd (hS.wrNew b h) hb'
    rw [Array.getElem?_push_lt this, Array.getElem?_eq_getElem this]

/-! ## A block that turns -/

theorem post_set {P : Program} {σ : Sig} {S : ASt} {w w' : World} {Wr : Nat → Prop} (hS : S.rel P σ w Wr) {id b κ : Nat} {blk₀ blk : ABlock} {o : Obj}
    (hid : S.heap.get id = some blk₀) (hl : S.limit id = true) (hs : σ id = some (b, κ)) (hb : BRel P σ κ blk o) (hm : id < maxIds) (he : w'.heap = w.heap.setIfInBounds b o) (ho : w'.os = w.os ∧ w'.output = w.output := by exact ⟨rfl, rfl⟩) :
    Post P σ S w Wr σ { S with heap := Trie.put (some blk) depth S.heap id } w' := by
  have hget : ∀ j, (Trie.put (some blk) depth S.heap id).get j = if j = id then some blk else S.heap.get j := fun j => Trie.get_put _ _ _ _ (by simpa [maxIds] using hm)
  obtain ⟨b0, κ0, o0, e1, e2, e3⟩ := hS.at_ id blk₀ hid
  rw [hs] at e1; cases e1
  have hbl := (Array.getElem?_eq_some_iff.1 e2).1
  refine ⟨⟨?_, ?_, ?_, ?_, ?_, ?_⟩, fun _ _ => rfl, Nat.le_refl _, rfl, ⟨by rw [he]; simp, fun x hx => ?_, ho⟩, fun j hj => by
    show (Trie.put (some blk) depth S.heap id).get j = _
    rw [hget, if_neg (fun e => by rw [e, hl] at hj; cases hj)]⟩
  · intro j c h
    rw [hget] at h
    split at h
    · rename_i hj; subst hj; cases h
      exact ⟨b, κ, o, hs, by rw [he, Array.getElem?_setIfInBounds_self_of_lt hbl], hb⟩
    · rename_i hj
      obtain ⟨b', κ', o', f1, f2, f3⟩ := hS.at_ j c h
      refine ⟨b', κ', o', f1, ?_, f3⟩
      have : b ≠ b' := fun e => hj (hS.inj j id c blk₀ _ _ h hid f1 hs e.symm)
      rw [he, Array.getElem?_setIfInBounds_ne this]; exact f2
  · intro i j bi bj x y hi hj hx hy hxy
    rw [hget] at hi hj
    split at hi <;> split at hj
    · omega
    · rename_i h1 h2; subst h1; exact hS.inj _ j blk₀ bj x y hid hj hx hy hxy
    · rename_i h1 h2; subst h2; exact hS.inj i _ bi blk₀ x y hi hid hx hy hxy
    · exact hS.inj i j bi bj x y hi hj hx hy hxy
  · intro j c x h hlj hx
    rw [hget] at h
    split at h
    · rename_i h1; subst h1; exact hS.wr _ blk₀ x hid hlj hx
    · exact hS.wr j c x h hlj hx
  · intro c hc; rw [he] at hc; exact hS.wrNew c (by simpa using hc)
  · intro j hj
    have := hS.fresh j hj
    show _ ∧ (Trie.put (some blk) depth S.heap id).get j = none
    rw [hget, if_neg (fun e => by rw [← e, this.2] at hid; cases hid)]
    exact this
  · exact hS.low
  · have hw := hS.wr id blk₀ _ hid hl hs
    rw [he, Array.getElem?_setIfInBounds_ne (fun e => hx (by rw [← e]; exact hw))]

end Go.Proofs.YtliimmpokhmjeaaGreatDoor.Zev
