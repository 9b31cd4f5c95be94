/-
  Operations on the abstract memory.
-/
import Derived.Test.YtliimmpokhmjeaaGreatDoorZevC
import Derived.Laws.CopyRow
namespace Go.Proofs.YtliimmpokhmjeaaGreatDoor.Zev
open Go
set_option linter.unusedSimpArgs false
set_option linter.unusedVariables false

theorem lt_of_blt {a b : Nat} (h : Nat.blt a b = true) : a < b := Nat.le_of_ble_eq_true h

/-! ## Values as cells -/

noncomputable def AV.one : AV → Bool
  | .agg _ => false
  | .tuple _ => false
  | _ => true
noncomputable def AV.cells : AV → List AV
  | .agg l => l
  | v => [v]

theorem AV.inst_agg {σ : Sig} {l : List AV} {u : Value} (h : (AV.agg l).inst σ = some u) : ∃ us, u = .agg us.toArray ∧ Ins σ l us := by
  simp only [AV.inst] at h
  split at h
  · rename_i us hus
    simp only [Option.some.injEq] at h
    exact ⟨us, h.symm, instL_iff.1 hus⟩
  · cases h
theorem AV.inst_tuple {σ : Sig} {l : List AV} {u : Value} (h : (AV.tuple l).inst σ = some u) : ∃ us, u = .tuple us.toArray ∧ Ins σ l us := by
  simp only [AV.inst] at h
  split at h
  · rename_i us hus
    simp only [Option.some.injEq] at h
    exact ⟨us, h.symm, instL_iff.1 hus⟩
  · cases h
theorem AV.one_inst {σ : Sig} {v : AV} {u : Value} (h : v.inst σ = some u) (ho : v.one = true) : u.oneCell' = true ∧ u.cells = #[u] := by
  cases v <;> simp only [AV.inst, AV.one, Bool.false_eq_true] at h ho <;> (repeat' (split at h)) <;> first
    | (cases h; done)
    | (simp only [Option.some.injEq] at h; subst h; exact ⟨rfl, rfl⟩)
theorem AV.cells_inst {σ : Sig} {v : AV} {u : Value} (h : v.inst σ = some u) (hx : ∀ l, v ≠ .tuple l) : Ins σ v.cells u.cells.toList := by
  cases hv : v with
  | agg l =>
    subst hv
    obtain ⟨us, rfl, hi⟩ := AV.inst_agg h
    exact hi
  | tuple l => exact absurd hv (hx l)
  | _ =>
    have h1 := AV.one_inst h (by rw [hv]; rfl)
    rw [h1.2]
    subst hv
    exact .cons h .nil
theorem Ins.one {σ : Sig} {l : List AV} {us : List Value} (h : Ins σ l us) (ho : l.all AV.one = true) : ∀ u ∈ us, u.oneCell' = true := by
  induction h with
  | nil => intro u hu; cases hu
  | cons ha _ ih =>
    simp only [List.all_cons, Bool.and_eq_true] at ho
    intro u hu
    cases hu with
    | head => exact (AV.one_inst ha ho.1).1
    | tail _ hm => exact ih ho.2 u hm

/-! ## What an operation leaves -/

def VPost (E : Env) (σ : Sig) (S : ASt) (w : World) (Wr : Nat → Prop) (r : Result Value) (v : AV) (S' : ASt) : Prop :=
  ∃ σ' u w', r = .ok u w' ∧ v.inst σ' = some u ∧ Post E.P σ S w Wr σ' S' w'
def UPost (E : Env) (σ : Sig) (S : ASt) (w : World) (Wr : Nat → Prop) (r : Result Unit) (S' : ASt) : Prop :=
  ∃ σ' w', r = .ok () w' ∧ Post E.P σ S w Wr σ' S' w'

/-- What an operation that only reads leaves. -/
def RPost (σ : Sig) (w : World) (r : Result Value) (v : AV) : Prop := ∃ u, r = .ok u w ∧ v.inst σ = some u

section
variable {E : Env} {σ : Sig} {S S' : ASt} {w : World} {Wr : Nat → Prop}

theorem VPost.same (hS : S.rel E.P σ w Wr) {r : Result Value} {v : AV} {u : Value} (hr : r = .ok u w) (hi : v.inst σ = some u) : VPost E σ S w Wr r v S :=
  ⟨σ, u, w, hr, hi, Post.refl hS⟩

theorem RPost.same (hS : S.rel E.P σ w Wr) {r : Result Value} {v : AV} {u : Value} (hr : r = .ok u w) (hi : v.inst σ = some u) : RPost σ w r v := ⟨u, hr, hi⟩
theorem RPost.v (hS : S.rel E.P σ w Wr) {r : Result Value} {v : AV} (h : RPost σ w r v) : VPost E σ S w Wr r v S :=
  let ⟨u, hr, hi⟩ := h; ⟨σ, u, w, hr, hi, Post.refl hS⟩

theorem get_cells (hS : S.rel E.P σ w Wr) {id : Nat} {l : List AV} {t : TypeId} (h : S.heap.get id = some (.cells l t)) :
    ∃ b κ vs rest fr, σ id = some (b, κ) ∧ w.heap[b]? = some (.cells (vs ++ rest).toArray t fr) ∧ Ins σ l vs ∧ κ * cellSize E.P t ≤ (vs ++ rest).length ∧ (fr.2 ≤ fr.1 ∨ (vs ++ rest).length ≤ fr.1) := by
  obtain ⟨b, κ, o, h1, h2, h3⟩ := hS.at_ id _ h
  obtain ⟨vs, rest, fr, hi, ho, hk⟩ := h3
  subst ho
  exact ⟨b, κ, vs, rest, fr, h1, h2, hi, hk⟩

theorem addr_add (b off j : Nat) : (⟨b, off, none⟩ : Addr).add j = ⟨b, off + j, none⟩ := by unfold Addr.add; split <;> simp_all

theorem cell_of {b off : Nat} {vs rest : List Value} {t : TypeId} {fr : Nat × Nat} (hb : w.heap[b]? = some (.cells (vs ++ rest).toArray t fr)) (h : off < vs.length) :
    w.cell? ⟨b, off, none⟩ = vs[off]? := by
  simp [World.cell?, hb, List.getElem?_append_left h]

theorem load_cells {P : Program} {b off n : Nat} {vs rest : List Value} {t : TypeId} {fr : Nat × Nat} (hb : w.heap[b]? = some (.cells (vs ++ rest).toArray t fr)) (h : off + n ≤ vs.length) :
    (loadCells ⟨b, off, none⟩ n).run P w = .ok ((vs.drop off).take n).toArray w := by
  have hl : ((vs.drop off).take n).length = n := by simp; omega
  have := run_loadCells_list (P := P) w ⟨b, off, none⟩ ((vs.drop off).take n) (fun j v hj => by
    have hjn : j < n := by
      have := (List.getElem?_eq_some_iff.1 hj).1
      omega
    rw [List.getElem?_take_of_lt hjn, List.getElem?_drop] at hj
    rw [addr_add, cell_of hb (by omega), hj])
  rw [hl] at this
  exact this

/-! ## Reading a variable -/

noncomputable def aloadVar (E : Env) (S : ASt) (t : TypeId) (id off : Nat) : Option AV :=
  match S.heap.get id with
  | some (.cells l _) => match E.agg t with
    | some true => match E.size t with
      | some n => match Nat.ble (off + n) l.length with
        | true => some (.agg ((l.drop off).take n))
        | false => none
      | none => none
    | some false => l[off]?
    | none => none
  | _ => none

theorem aloadVar_ok (hE : E.Ok) (hS : S.rel E.P σ w Wr) {t : TypeId} {id off : Nat} {v : AV} (h : aloadVar E S t id off = some v) :
    ∃ b κ u, σ id = some (b, κ) ∧ v.inst σ = some u ∧ (loadVar t ⟨b, off, none⟩).run E.P w = .ok u w := by
  unfold aloadVar at h
  split at h
  · rename_i l t' hb
    obtain ⟨b, κ, vs, rest, fr, h1, h2, hi, hk, hfr⟩ := get_cells hS hb
    split at h
    · rename_i ha
      split at h
      · rename_i n hn
        split at h
        · rename_i hle
          cases h
          have hle' := Nat.le_of_ble_eq_true hle
          have hlen := hi.length
          refine ⟨b, κ, .agg ((vs.drop off).take n).toArray, h1, ?_, ?_⟩
          · simp only [AV.inst, instL_iff.2 ((hi.drop off).take n)]
          · simp only [loadVar, Sem.run_bind, run_agg hE ha, Result.andThen_ok, if_true, run_size hE hn, load_cells h2 (show off + n ≤ vs.length by omega), Sem.run_pure]
        · cases h
      · cases h
    · rename_i ha
      obtain ⟨u, hu, hui⟩ := hi.get h
      refine ⟨b, κ, u, h1, hui, ?_⟩
      have hlt := (List.getElem?_eq_some_iff.1 hu).1
      have hc : w.cell? ⟨b, off, none⟩ = some u := by rw [cell_of h2 hlt, hu]
      simp [loadVar, run_agg hE ha, hc]
    · cases h
  · cases h

/-! ## Writing cells -/

noncomputable def splice (l : List AV) (off : Nat) (m : List AV) : List AV := l.take off ++ (m ++ l.drop (off + m.length))
noncomputable def astoreCells (S : ASt) (id off : Nat) (m : List AV) : Option ASt :=
  match S.heap.get id with
  | some (.cells l t) =>
    match S.limit id && (Nat.blt id maxIds && (Nat.ble (off + m.length) l.length && m.all AV.one)) with
    | true => some { heap := Trie.put (some (.cells (splice l off m) t)) depth S.heap id, next := S.next, limit := S.limit }
    | false => none
  | _ => none

theorem setRow_eq (w : World) (b : Nat) {cur : Array Value} {t : TypeId} {fr : Nat × Nat} (cs : Array Value) (hb : w.heap[b]? = some (.cells cur t fr)) :
    (w.setRow b cs).heap = w.heap.setIfInBounds b (.cells cs t fr) := by
  apply Array.ext_getElem?
  intro i
  by_cases hi : i = b
  · subst hi
    rw [setRow_heap w i cur cs t fr hb]
    rw [Array.getElem?_setIfInBounds_self_of_lt (Array.getElem?_eq_some_iff.1 hb).1]
  · rw [setRow_other w b i cs hi, Array.getElem?_setIfInBounds_ne (Ne.symm hi)]

/-- Storing into cells none of which is frozen. -/
theorem store_cells {P : Program} (b off : Nat) (t : TypeId) (fr : Nat × Nat) : ∀ (vs : List Value) (i : Nat) (cur : Array Value) (w : World), w.heap[b]? = some (.cells cur t fr) → (fr.2 ≤ fr.1 ∨ cur.size ≤ fr.1) →
    off + i + vs.length ≤ cur.size → (∀ v ∈ vs, v.oneCell' = true) →
    (storeCells ⟨b, off, none⟩ vs i).run P w = .ok () (w.setRow b (cur.toList.take (off + i) ++ vs ++ cur.toList.drop (off + i + vs.length)).toArray)
  | [], i, cur, w, hg, _, _, _ => by
    simp only [storeCells, List.append_nil, List.length_nil, Nat.add_zero, List.take_append_drop, Array.toArray_toList]
    rw [setRow_self w b cur t fr hg]
    rfl
  | v :: rest, i, cur, w, hg, hfr, hl, h1 => by
    simp only [List.length_cons] at hl
    have hi : off + i < cur.size := by omega
    have hcell : w.cell? ⟨b, off + i, none⟩ = some cur[off + i] := by simp [World.cell?, hg, hi]
    have hfro : w.frozen? ⟨b, off + i, none⟩ = false := by
      simp only [World.frozen?, hg]
      rcases hfr with hfr | hfr
      · simp; omega
      · simp; omega
    have hst : (store ((⟨b, off, none⟩ : Addr).add i) v).run P w = .ok () (w.setRow b (cur.setIfInBounds (off + i) v)) := by
      rw [addr_add, run_store P w _ v _ (h1 v (by simp)), hcell]
      simp [hfro, setCell_eq_setRow w b (off + i) cur t fr v hg]
    have ih := store_cells (P := P) b off t fr rest (i + 1) (cur.setIfInBounds (off + i) v) (w.setRow b (cur.setIfInBounds (off + i) v)) (setRow_heap w b cur _ t _ hg) (by simpa using hfr) (by simp; omega) (fun x hx => h1 x (by simp [hx]))
    simp only [storeCells, Sem.run_bind, hst, Result.andThen_ok, ih, setRow_setRow]
    congr 3
    have e := list_seg_step cur.toList (off + i) v rest (by simp; omega)
    simpa [Array.toList_setIfInBounds, Nat.add_assoc] using e

theorem Ins.splice {l m : List AV} {vs ms : List Value} (h : Ins σ l vs) (hm : Ins σ m ms) (off : Nat) :
    Ins σ (Zev.splice l off m) (vs.take off ++ (ms ++ vs.drop (off + ms.length))) := by
  unfold Zev.splice
  rw [← hm.length]
  exact (h.take off).append (hm.append (h.drop _))

theorem astoreCells_ok (hS : S.rel E.P σ w Wr) {id off : Nat} {m : List AV} (h : astoreCells S id off m = some S') {ms : List Value} (hm : Ins σ m ms) :
    ∃ b κ w', σ id = some (b, κ) ∧ (storeCells ⟨b, off, none⟩ ms).run E.P w = .ok () w' ∧ Post E.P σ S w Wr σ S' w' := by
  unfold astoreCells at h
  split at h
  · rename_i l t hb
    split at h
    · rename_i hc
      simp only [Bool.and_eq_true] at hc
      obtain ⟨hlim, hmax, hfit, hone⟩ := hc
      cases h
      obtain ⟨b, κ, vs, rest, fr, h1, h2, hi, hk, hfr⟩ := get_cells hS hb
      have hlen := hi.length
      have hml := hm.length
      have hfit' := Nat.le_of_ble_eq_true hfit
      have hrun := store_cells (P := E.P) b off t fr ms 0 (vs ++ rest).toArray w h2 (by simpa using hfr) (by simp; omega) (hm.one hone)
      refine ⟨b, κ, _, h1, hrun, ?_⟩
      have e : ((vs ++ rest).toArray.toList.take (off + 0) ++ ms ++ (vs ++ rest).toArray.toList.drop (off + 0 + ms.length)) = (vs.take off ++ (ms ++ vs.drop (off + ms.length))) ++ rest := by
        simp only [Nat.add_zero]
        rw [List.take_append_of_le_length (by omega), List.drop_append_of_le_length (by omega)]
        simp
      rw [e]
      refine post_set hS hb hlim h1 (blk := .cells (Zev.splice l off m) t) ?_ (lt_of_blt hmax) (setRow_eq w b _ h2)
      have hlen2 : (vs.take off ++ (ms ++ vs.drop (off + ms.length)) ++ rest).length = (vs ++ rest).length := by
        simp only [List.length_append, List.length_take, List.length_drop]
        omega
      exact ⟨_, rest, fr, hi.splice hm off, rfl, by rw [hlen2]; exact hk, by rw [hlen2]; exact hfr⟩
    · cases h
  · cases h

noncomputable def AV.isTuple : AV → Bool
  | .tuple _ => true
  | _ => false
theorem AV.not_tuple {v : AV} (h : v.isTuple = false) (l : List AV) : v ≠ .tuple l := by
  intro e; subst e; cases h

noncomputable def astoreVar (E : Env) (S : ASt) (t : TypeId) (id off : Nat) (v : AV) : Option ASt :=
  match v.isTuple with
  | true => none
  | false => match E.size t with
    | some n => match Nat.beq v.cells.length n with
      | true => astoreCells S id off v.cells
      | false => none
    | none => none

theorem astoreVar_ok (hE : E.Ok) (hS : S.rel E.P σ w Wr) {t : TypeId} {id off : Nat} {v : AV} {u : Value} (h : astoreVar E S t id off v = some S') (hv : v.inst σ = some u) :
    ∃ b κ w', σ id = some (b, κ) ∧ (storeVar t ⟨b, off, none⟩ u).run E.P w = .ok () w' ∧ Post E.P σ S w Wr σ S' w' := by
  unfold astoreVar at h
  split at h
  · cases h
  · rename_i ht
    split at h
    · rename_i n hn
      split at h
      · rename_i hl
        have hc := AV.cells_inst hv (AV.not_tuple ht)
        have hl' := Nat.eq_of_beq_eq_true hl
        have hlen := hc.length
        obtain ⟨b, κ, w', h1, h2, h3⟩ := astoreCells_ok hS h hc
        refine ⟨b, κ, w', h1, ?_, h3⟩
        have hz : ¬ u.cells.size ≠ n := by
          simp only [Array.length_toList] at hlen
          omega
        simp [storeVar, run_size hE hn, hz, h2]
      · cases h
    · cases h

/-! ## New memory -/

noncomputable def anew (S : ASt) (blk : ABlock) : Option ASt :=
  match Nat.blt S.next maxIds with
  | true => some { heap := Trie.put (some blk) depth S.heap S.next, next := S.next + 1, limit := S.limit }
  | false => none

theorem anew_ok (hS : S.rel E.P σ w Wr) {blk : ABlock} (h : anew S blk = some S') {κ : Nat} {o : Obj} (hb : BRel E.P σ κ blk o) {w' : World} (he : w'.heap = w.heap.push o) (ho : w'.os = w.os ∧ w'.output = w.output := by exact ⟨rfl, rfl⟩) :
    Post E.P σ S w Wr (σ.add S.next (w.heap.size, κ)) S' w' ∧ (σ.add S.next (w.heap.size, κ)) S.next = some (w.heap.size, κ) := by
  unfold anew at h
  split at h
  · rename_i hn
    cases h
    exact ⟨post_new hS (lt_of_blt hn) hb he ho, Sig.add_same _ _ _⟩
  · cases h

/-- A row of cells that is new. -/
theorem anewRow_ok (hS : S.rel E.P σ w Wr) {m : List AV} {t : TypeId} (h : anew S (.cells m t) = some S') {ms : List Value} (hm : Ins σ m ms) :
    ∃ σ' b κ w', (newRow t ms.toArray).run E.P w = .ok ⟨b, 0, none⟩ w' ∧ σ' S.next = some (b, κ) ∧ Post E.P σ S w Wr σ' S' w' := by
  obtain ⟨hp, hs⟩ := anew_ok hS h (κ := 0) (o := .cells ms.toArray t (0, 0)) (w' := { w with heap := w.heap.push (.cells ms.toArray t (0, 0)) }) ⟨ms, [], (0, 0), hm, by simp, by simp, .inl (Nat.le_refl _)⟩ rfl
  exact ⟨_, w.heap.size, 0, _, by simp [newRow], hs, hp⟩

end
end Go.Proofs.YtliimmpokhmjeaaGreatDoor.Zev
