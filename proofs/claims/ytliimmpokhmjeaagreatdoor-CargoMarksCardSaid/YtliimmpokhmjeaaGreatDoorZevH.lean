/-
  Appending, copying, lengths, conversions, walks over strings, comparisons with nil.
-/
import Derived.Test.YtliimmpokhmjeaaGreatDoorZevG
namespace Go.Proofs.YtliimmpokhmjeaaGreatDoor.Zev
open Go
set_option linter.unusedSimpArgs false
set_option linter.unusedVariables false

/-! ## A block that gets a new name -/

theorem post_move {P : Program} {σ : Sig} {S : ASt} {w w' : World} {Wr : Nat → Prop} (hS : S.rel P σ w Wr) (hn : S.next < maxIds) {id b κ : Nat} {blk₀ blk : ABlock} {o : Obj}
    (hid : S.heap.get id = some blk₀) (hl : S.limit id = true) (hs : σ id = some (b, κ)) (hm : id < maxIds) (hb : BRel P σ κ blk o) (he : w'.heap = w.heap.setIfInBounds b o) (ho : w'.os = w.os ∧ w'.output = w.output := by exact ⟨rfl, rfl⟩) :
    Post P σ S w Wr (σ.add S.next (b, κ)) { heap := Trie.put (some blk) depth (Trie.put none depth S.heap id) S.next, next := S.next + 1, limit := S.limit } w' := by
  have hp := post_set hS hid hl hs hb hm he ho
  have hidn : id ≠ S.next := fun e => by
    have := (hS.fresh id (by omega)).2
    rw [hid] at this; cases this
  have hget : ∀ j, (Trie.put (some blk) depth (Trie.put none depth S.heap id) S.next).get j = if j = S.next then some blk else if j = id then none else S.heap.get j := fun j => by
    rw [Trie.get_put _ _ _ _ (by simpa [maxIds] using hn), Trie.get_put _ _ _ _ (by simpa [maxIds] using hm)]
  have hget1 : ∀ j, (Trie.put (some blk) depth S.heap id).get j = if j = id then some blk else S.heap.get j := fun j => Trie.get_put _ _ _ _ (by simpa [maxIds] using hm)
  have h1 : HRel P σ (Trie.put (some blk) depth S.heap id).get S.next S.limit w' Wr := hp.rel
  have hle : σ.le (σ.add S.next (b, κ)) := (Sig.add_upto σ S.next _).le fun id hid => (hS.fresh id hid).1
  have hold : ∀ j, j ≠ S.next → (σ.add S.next (b, κ)) j = σ j := fun j hj => by simp [Sig.add, hj]
  have hnx : (σ.add S.next (b, κ)) S.next = some (b, κ) := Sig.add_same _ _ _
  have hlive : ∀ j blkj, j ≠ id → S.heap.get j = some blkj → j ≠ S.next := fun j blkj _ h e => by
    have := (hS.fresh j (by omega)).2
    rw [h] at this; cases this
  refine ⟨⟨?_, ?_, ?_, ?_, ?_, ?_⟩, Sig.add_upto _ _ _, Nat.le_succ _, rfl, hp.kept, fun j hj => by
    have h1 : j ≠ S.next := fun e => by
      have := hS.low j (by omega)
      rw [hj] at this; cases this
    have h2 : j ≠ id := fun e => by rw [e, hl] at hj; cases hj
    show (Trie.put (some blk) depth (Trie.put none depth S.heap id) S.next).get j = _
    rw [hget, if_neg h1, if_neg h2]⟩
  · intro j blkj h
    rw [hget] at h
    split at h
    · rename_i hj
      subst hj
      cases h
      obtain ⟨b', κ', o', e1, e2, e3⟩ := h1.at_ id blk (by rw [hget1, if_pos rfl])
      rw [hs] at e1; cases e1
      exact ⟨b, κ, o', hnx, e2, e3.le hle⟩
    · split at h
      · cases h
      · rename_i hj hji
        obtain ⟨b', κ', o', e1, e2, e3⟩ := h1.at_ j blkj (by rw [hget1, if_neg hji]; exact h)
        exact ⟨b', κ', o', by rw [hold j hj]; exact e1, e2, e3.le hle⟩
  · intro i j bi bj x y hi hj hx hy hxy
    rw [hget] at hi hj
    have key : ∀ j bj y, j ≠ S.next → j ≠ id → S.heap.get j = some bj → σ j = some y → y.1 = b → False := fun j bj y hjn hji hj hy e => by
      have := h1.inj j id bj blk y (b, κ) (by rw [hget1, if_neg hji]; exact hj) (by rw [hget1, if_pos rfl]) hy hs e
      exact hji this
    split at hi <;> split at hj
    · omega
    · rename_i hi1 hj1
      split at hj
      · cases hj
      · rename_i hj2
        rw [hi1, hnx] at hx; cases hx
        rw [hold j hj1] at hy
        exact (key j bj y hj1 hj2 hj hy hxy.symm).elim
    · rename_i hi1 hj1
      split at hi
      · cases hi
      · rename_i hi2
        rw [hj1, hnx] at hy; cases hy
        rw [hold i hi1] at hx
        exact (key i bi x hi1 hi2 hi hx hxy).elim
    · rename_i hi1 hj1
      split at hi
      · cases hi
      · rename_i hi2
        split at hj
        · cases hj
        · rename_i hj2
          rw [hold i hi1] at hx
          rw [hold j hj1] at hy
          exact hS.inj i j bi bj x y hi hj hx hy hxy
  · intro j blkj x h hlj hx
    rw [hget] at h
    split at h
    · rename_i hj
      rw [hj, hnx] at hx; cases hx
      exact hS.wr id blk₀ _ hid hl hs
    · split at h
      · cases h
      · rename_i hj hji
        rw [hold j hj] at hx
        exact hS.wr j blkj x h hlj hx
  · exact h1.wrNew
  · intro j hj
    have hj' : S.next + 1 ≤ j := hj
    have := hS.fresh j (by omega)
    show _ ∧ (Trie.put (some blk) depth (Trie.put none depth S.heap id) S.next).get j = none
    rw [hget, if_neg (by omega), hold j (by omega)]
    refine ⟨this.1, ?_⟩
    split
    · rfl
    · exact this.2
  · intro j hj
    have hj' : S.next + 1 ≤ j := hj
    exact hS.low j (by omega)

theorem rel_kill {P : Program} {σ : Sig} {S : ASt} {w : World} {Wr : Nat → Prop} (hS : S.rel P σ w Wr) {id : Nat} (hl : S.limit id = true) (hm : id < maxIds) :
    Post P σ S w Wr σ { heap := Trie.put none depth S.heap id, next := S.next, limit := S.limit } w := by
  have hget : ∀ j, (Trie.put none depth S.heap id).get j = if j = id then none else S.heap.get j := fun j => Trie.get_put _ _ _ _ (by simpa [maxIds] using hm)
  refine ⟨⟨?_, ?_, ?_, hS.wrNew, ?_, hS.low⟩, fun _ _ => rfl, Nat.le_refl _, rfl, Kept.refl _ _, fun j hj => by
    have h2 : j ≠ id := fun e => by rw [e, hl] at hj; cases hj
    show (Trie.put none depth S.heap id).get j = _
    rw [hget, if_neg h2]⟩
  · intro j blk h
    rw [hget] at h
    split at h
    · cases h
    · exact hS.at_ j blk h
  · intro i j bi bj x y hi hj
    rw [hget] at hi hj
    split at hi
    · cases hi
    · split at hj
      · cases hj
      · exact hS.inj i j bi bj x y hi hj
  · intro j blk x h
    rw [hget] at h
    split at h
    · cases h
    · exact hS.wr j blk x h
  · intro j hj
    have := hS.fresh j hj
    refine ⟨this.1, ?_⟩
    show (Trie.put none depth S.heap id).get j = none
    rw [hget]
    split
    · rfl
    · exact this.2

section
variable {E : Env} {σ : Sig} {S S' : ASt} {w : World} {Wr : Nat → Prop}

/-! ## What is appended or copied -/

noncomputable def alen (x : AV) : Option Nat :=
  match x with
  | .nilslice => some 0
  | .slice _ _ len _ _ => some len
  | .str s => some s.length
  | _ => none
theorem alen_ok {x : AV} {n : Nat} {u : Value} (hx : x.inst σ = some u) (h : alen x = some n) (P : Program) (w : World) : (Builtin.lenOf u).run P w = .ok n w := by
  unfold alen at h
  split at h
  · cases h
    simp only [AV.inst, Option.some.injEq] at hx
    subst hx; rfl
  · cases h
    obtain ⟨b, κ, _, _, rfl⟩ := inst_slice hx
    rfl
  · cases h
    simp only [AV.inst, Option.some.injEq] at hx
    subst hx
    simp [Builtin.lenOf, bytesOf_size]
  · cases h

noncomputable def asrc (S : ASt) (size n : Nat) (x : AV) : Option (List AV) :=
  match x with
  | .nilslice => match Nat.beq n 0 with
    | true => some []
    | false => none
  | .slice id off len _ _ => match S.heap.get id with
    | some (.cells l _) => match Nat.ble (off + n * size) l.length with
      | true => some ((l.drop off).take (n * size))
      | false => none
    | _ => none
  | .str s => match Nat.beq size 1 && (Nat.ble n s.length && s.all (fun c => Nat.blt c 256)) with
    | true => some ((s.take n).map fun c => .int .u8 (.ofNat c))
    | false => none
  | _ => none
theorem bytes_ins : ∀ (s : List Nat), s.all (fun c => Nat.blt c 256) = true → Ins σ (s.map fun c => AV.int .u8 (.ofNat c)) ((s.map UInt8.ofNat).map fun b => Value.int .u8 b.toNat)
  | [], _ => .nil
  | c :: s, h => by
    simp only [List.all_cons, Bool.and_eq_true] at h
    refine .cons ?_ (bytes_ins s h.2)
    have : c < 256 := lt_of_blt h.1
    simp [AV.inst, Nat.mod_eq_of_lt this]
theorem asrc_ok (hS : S.rel E.P σ w Wr) {size n : Nat} {x : AV} {m : List AV} {u : Value} (hx : x.inst σ = some u) (h : asrc S size n x = some m) :
    m.length = n * size ∧ ∃ ms, Ins σ m ms ∧ ∀ w₁ : World, w₁.heap = w.heap → (Builtin.firstCells size n u).run E.P w₁ = .ok ms.toArray w₁ := by
  unfold asrc at h
  split at h
  · split at h
    · rename_i hn
      cases h
      obtain rfl := Nat.eq_of_beq_eq_true hn
      simp only [AV.inst, Option.some.injEq] at hx
      subst hx
      exact ⟨by simp, [], .nil, fun w₁ _ => rfl⟩
    · cases h
  · rename_i id off len cap ex
    obtain ⟨b, κ, hs, _, rfl⟩ := inst_slice hx
    split at h
    · rename_i l t hb
      split at h
      · rename_i hle
        cases h
        have hle' := Nat.le_of_ble_eq_true hle
        obtain ⟨b', κ', vs, rest, fr, h1, h2, hi, hk, hfr⟩ := get_cells hS hb
        rw [hs] at h1; cases h1
        have hlen := hi.length
        refine ⟨by simp; omega, _, (hi.drop off).take (n * size), fun w₁ hw => ?_⟩
        exact load_cells (w := w₁) (P := E.P) (by rw [hw]; exact h2) (by omega)
      · cases h
    · cases h
  · rename_i s
    split at h
    · rename_i hc
      simp only [Bool.and_eq_true] at hc
      obtain ⟨c1, c2, c3⟩ := hc
      cases h
      obtain rfl := Nat.eq_of_beq_eq_true c1
      have c2' := Nat.le_of_ble_eq_true c2
      simp only [AV.inst, Option.some.injEq] at hx
      subst hx
      refine ⟨by simp; omega, _, bytes_ins (s.take n) ?_, fun w₁ _ => ?_⟩
      · rw [List.all_eq_true] at c3 ⊢
        exact fun c hc => c3 c (List.mem_of_mem_take hc)
      · simp only [Builtin.firstCells, Sem.run_pure]
        congr 1
        apply Array.ext'
        simp [bytesOf, ByteArray.extract, ByteArray.copySlice, List.map_take]
    · cases h
  · cases h

/-! ## append -/

noncomputable def notIntT (E : Env) (t : Option TypeId) : Bool :=
  match t with
  | none => true
  | some t => match E.und t with
    | some (.int _) => false
    | some _ => true
    | none => false

/-- The second type does not matter, if it is no integer's. -/
theorem append_types (hE : E.Ok) {argTypes : Array TypeId} {ty t : TypeId} {args : Array Value} (h0 : argTypes[0]? = some t) (hi1 : notIntT E argTypes[1]? = true) (w : World) :
    (Builtin.append_ argTypes ty args).run E.P w = (Builtin.append_ #[t] ty args).run E.P w := by
  cases ha : argTypes[1]? with
  | none => simp only [Builtin.append_, h0, ha, List.getElem?_toArray, List.getElem?_cons_zero, List.getElem?_cons_succ, List.getElem?_nil]
  | some t1 =>
    unfold notIntT at hi1
    rw [ha] at hi1
    simp only at hi1
    cases hu : E.und t1 with
    | none => rw [hu] at hi1; cases hi1
    | some d =>
      rw [hu] at hi1
      simp only [Builtin.append_, h0, ha, List.getElem?_toArray, List.getElem?_cons_zero, List.getElem?_cons_succ, List.getElem?_nil]
      split
      · simp only [Sem.run_bind]
        congr 1
        funext d0 w0
        split
        · split
          · simp only [Sem.run_bind]
            congr 1
            funext sz w1
            simp only [run_und hE hu w1, Result.andThen_ok]
            cases d <;> first
              | (cases hi1; done)
              | rfl
          · rfl
        · rfl
      · rfl

/-- New memory for what is too long. -/
noncomputable def agrow (E : Env) (S : ASt) (elem : TypeId) (i : TypeInfo) (need : Nat) (m : List AV) : Option (AV × ASt) :=
  match i.zero with
  | some z => match Nat.beq z.cells.size i.size && (Nat.ble (need * i.bytes) 140737488355328 && Nat.ble need 1000000000) with
    | true => match anew S (.cells m elem) with
      | some S' => some (.slice S.next 0 need 0 false, S')
      | none => none
    | false => none
  | none => none

theorem agrow_ok (hE : E.Ok) (hS : S.rel E.P σ w Wr) {argTypes : Array TypeId} {ty t elem : TypeId} {i : TypeInfo} (h0 : argTypes[0]? = some t) (hi1 : notIntT E argTypes[1]? = true)
    (ht : E.und t = some (.slice elem)) (hi : E.inf elem = some i) {base : Option Addr} {sLen sCap n : Nat} {x : Value} {olds news : List Value} {m : List AV} (hneed : sCap < sLen + n)
    (hlen : (Builtin.lenOf x).run E.P w = .ok n w)
    (hold : ∀ w₁ : World, w₁.heap = w.heap → (Builtin.firstCells i.size sLen (.slice base sLen sCap)).run E.P w₁ = .ok olds.toArray w₁)
    (hnew : ∀ w₁ : World, w₁.heap = w.heap → (Builtin.firstCells i.size n x).run E.P w₁ = .ok news.toArray w₁)
    (hm : Ins σ m (olds ++ news)) (hml : m.length = (sLen + n) * i.size) {v : AV} (h : agrow E S elem i (sLen + n) m = some (v, S')) :
    VPost E σ S w Wr ((Builtin.append_ argTypes ty #[.slice base sLen sCap, x]).run E.P w) v S' := by
  unfold agrow at h
  split at h
  · rename_i z hz
    split at h
    · rename_i hc
      simp only [Bool.and_eq_true] at hc
      obtain ⟨c1, c2, c3⟩ := hc
      have c1' := Nat.eq_of_beq_eq_true c1
      have c2' := Nat.le_of_ble_eq_true c2
      have c3' := Nat.le_of_ble_eq_true c3
      split at h
      · rename_i S₁ hn
        cases h
        have hP := hE.inf elem i hi
        let newCap := (Question.appendCap (sLen + n) sCap elem).cut (w.tape w.drawn (.appendCap (sLen + n) sCap elem))
        have hcap : sLen + n ≤ newCap := by
          simp only [newCap, Question.cut]
          omega
        let rest := Builtin.zeroCells z.cells (newCap - (sLen + n))
        have hrl : rest.toList.length = (newCap - (sLen + n)) * i.size := by simp [rest, Builtin.zeroCells, c1']
        let w' : World := { w.drew with heap := w.heap.push (.cells (olds.toArray ++ news.toArray ++ rest) elem) }
        have hblk : BRel E.P σ newCap (.cells m elem) (.cells (olds.toArray ++ news.toArray ++ rest) elem (0, 0)) := by
          refine ⟨olds ++ news, rest.toList, (0, 0), hm, ?_, ?_, .inl (Nat.le_refl _)⟩
          · congr 1
            apply Array.ext'
            simp
          · have := hm.length
            simp only [List.length_append] at this ⊢
            rw [hrl]
            have e : cellSize E.P elem = i.size := by simp [cellSize, hP]
            rw [e]
            have hm2 : (newCap - (sLen + n)) * i.size + (sLen + n) * i.size = newCap * i.size := by
              rw [← Nat.add_mul]
              congr 1
              omega
            omega
        obtain ⟨hp, hs⟩ := anew_ok hS hn hblk (w' := w') rfl
        refine ⟨_, .slice (some ⟨w.heap.size, 0, none⟩) (sLen + n) newCap, w', ?_, ?_, hp⟩
        · have n1 : ¬ (sLen + n ≤ sCap) := by omega
          have n2 : ¬ (9223372036854775807 < ((sLen : Int) + (n : Int))) := by omega
          have n3 : ¬ (281474976710656 < Builtin.nextslicecap (sLen + n) sCap * i.bytes) := by
            have := growslice_fits hneed c2'
            omega
          have hdrew : w.drew.heap = w.heap := rfl
          have hold' := hold w.drew hdrew
          have hnew' := hnew w.drew hdrew
          rw [append_types hE h0 hi1]
          simp [Builtin.append_, run_und hE ht, run_size hE (show E.size elem = some i.size by simp [Env.size, hi]), hlen, n1, n2, n3, run_inf hE hi, zeroValue, hz, Question.forced, hold', hnew', newRow, w', newCap, rest]
          rw [show (olds ++ news).toArray = olds.toArray ++ news.toArray from (by simp), Array.append_assoc]
          rfl
        · have := slice_inst (σ := σ.add S.next (w.heap.size, newCap)) (id := S.next) (off := 0) (len := sLen + n) (cap := 0) (ex := false) hs (.inr (by omega))
          simpa using this
      · cases h
    · cases h
  · cases h

end
end Go.Proofs.YtliimmpokhmjeaaGreatDoor.Zev
