/-
  Operations on addresses, structs, arrays and slices.
-/
import Derived.Test.YtliimmpokhmjeaaGreatDoorZevD
import Derived.Laws.BytesString
import Derived.Laws.Append
import Derived.IntWalk
namespace Go.Proofs.YtliimmpokhmjeaaGreatDoor.Zev
open Go
set_option linter.unusedSimpArgs false
set_option linter.unusedVariables false

section
variable {E : Env} {σ : Sig} {S S' : ASt} {w : World} {Wr : Nat → Prop}

theorem inst_ptr {id off : Nat} {u : Value} (h : (AV.ptr id off).inst σ = some u) : ∃ b κ, σ id = some (b, κ) ∧ u = .pointer (some ⟨b, off, none⟩) := by
  simp only [AV.inst] at h
  split at h
  · rename_i x hx
    simp only [Option.some.injEq] at h
    exact ⟨x.1, x.2, hx, h.symm⟩
  · cases h
theorem ptr_inst {id off b κ : Nat} (h : σ id = some (b, κ)) : (AV.ptr id off).inst σ = some (.pointer (some ⟨b, off, none⟩)) := by simp [AV.inst, h]
theorem inst_int {k : IntKind} {n : Int} {u : Value} (h : (AV.int k n).inst σ = some u) : u = .int k n := by simpa [AV.inst] using h.symm
theorem inst_slice {id off len cap : Nat} {ex : Bool} {u : Value} (h : (AV.slice id off len cap ex).inst σ = some u) :
    ∃ b κ, σ id = some (b, κ) ∧ (ex = true ∨ len ≤ κ - cap) ∧ u = .slice (some ⟨b, off, none⟩) len (if ex then cap else κ - cap) := by
  simp only [AV.inst] at h
  split at h
  · rename_i x hx
    split at h
    · rename_i hc
      simp only [Option.some.injEq] at h
      exact ⟨x.1, x.2, hx, hc, h.symm⟩
    · cases h
  · cases h
theorem slice_inst {id off len cap b κ : Nat} {ex : Bool} (h : σ id = some (b, κ)) (hc : ex = true ∨ len ≤ κ - cap) :
    (AV.slice id off len cap ex).inst σ = some (.slice (some ⟨b, off, none⟩) len (if ex then cap else κ - cap)) := by
  simp only [AV.inst, h]
  rw [if_pos hc]

/-! ## Loads and stores -/

noncomputable def aload (E : Env) (S : ASt) (t : TypeId) (x : AV) : Option AV :=
  match x with
  | .ptr id off => aloadVar E S t id off
  | _ => none
theorem aload_ok (hE : E.Ok) (hS : S.rel E.P σ w Wr) {t : TypeId} {x v : AV} {u : Value} (hx : x.inst σ = some u) (h : aload E S t x = some v) :
    RPost σ w ((Instr.loadAt t u).run E.P w) v := by
  unfold aload at h
  split at h
  · rename_i id off
    obtain ⟨b, κ, y, h1, h2, h3⟩ := aloadVar_ok hE hS h
    obtain ⟨b', κ', h1', rfl⟩ := inst_ptr hx
    rw [h1] at h1'; cases h1'
    exact .same hS (by simp [Instr.loadAt, Instr.sureAddr, h3]) h2
  · cases h

noncomputable def astore (E : Env) (S : ASt) (t : TypeId) (x v : AV) : Option ASt :=
  match x with
  | .ptr id off => astoreVar E S t id off v
  | _ => none
theorem astore_ok (hE : E.Ok) (hS : S.rel E.P σ w Wr) {t : TypeId} {x v : AV} {u y : Value} (hx : x.inst σ = some u) (hv : v.inst σ = some y) (h : astore E S t x v = some S') :
    UPost E σ S w Wr ((Instr.storeAt t u y).run E.P w) S' := by
  unfold astore at h
  split at h
  · rename_i id off
    obtain ⟨b, κ, w', h1, h2, h3⟩ := astoreVar_ok hE hS h hv
    obtain ⟨b', κ', h1', rfl⟩ := inst_ptr hx
    rw [h1] at h1'; cases h1'
    exact ⟨σ, w', by simp [Instr.storeAt, Instr.sureAddr, h2], h3⟩
  · cases h

/-! ## Addresses -/

noncomputable def afieldAddr (E : Env) (s : TypeId) (x : AV) (i : Nat) : Option AV :=
  match E.und s with
  | some (.struct fs) => match fs[i]? with
    | some f => match E.size f.type with
      | some n => match Nat.beq n 0 with
        | false => match x with
          | .ptr id off => some (.ptr id (off + f.offset))
          | _ => none
        | true => none
      | none => none
    | none => none
  | _ => none
theorem afieldAddr_ok (hE : E.Ok) (hS : S.rel E.P σ w Wr) {s : TypeId} {x v : AV} {i : Nat} {u : Value} (hx : x.inst σ = some u) (h : afieldAddr E s x i = some v) :
    RPost σ w ((Instr.fieldAt s u i).run E.P w) v := by
  unfold afieldAddr at h
  split at h
  · rename_i fs hfs
    split at h
    · rename_i f hf
      split at h
      · rename_i n hn
        split at h
        · rename_i hz
          split at h
          · rename_i id off
            cases h
            obtain ⟨b, κ, h1, rfl⟩ := inst_ptr hx
            have hz' : ¬ n = 0 := Nat.ne_of_beq_eq_false hz
            refine .same hS (u := .pointer (some ⟨b, off + f.offset, none⟩)) ?_ (ptr_inst h1)
            simp [Instr.fieldAt, run_und hE hfs, hf, Instr.sureAddr, fieldPlace, run_size hE hn, hz', addr_add]
          · cases h
        · cases h
      · cases h
    · cases h
  · cases h

noncomputable def aindexAddr (E : Env) (t : TypeId) (x ix : AV) : Option AV :=
  match ix with
  | .int _ (.ofNat i) => match E.und t with
    | some (.array len elem) => match x with
      | .ptr id off => match Nat.blt i len with
        | true => match E.size elem with
          | some n => some (.ptr id (off + i * n))
          | none => none
        | false => none
      | _ => none
    | some (.slice elem) => match x with
      | .slice id off len _ _ => match Nat.blt i len with
        | true => match E.size elem with
          | some n => some (.ptr id (off + i * n))
          | none => none
        | false => none
      | _ => none
    | _ => none
  | _ => none
theorem aindexAddr_ok (hE : E.Ok) (hS : S.rel E.P σ w Wr) {t : TypeId} {x ix v : AV} {u y : Value} (hx : x.inst σ = some u) (hi : ix.inst σ = some y) (h : aindexAddr E t x ix = some v) :
    RPost σ w ((Instr.indexAt t u y).run E.P w) v := by
  unfold aindexAddr at h
  split at h
  · rename_i k i
    cases inst_int hi
    split at h
    · rename_i len elem ht
      split at h
      · rename_i id off
        split at h
        · rename_i hl
          split at h
          · rename_i n hn
            cases h
            obtain ⟨b, κ, h1, rfl⟩ := inst_ptr hx
            have hl' := lt_of_blt hl
            refine .same hS (u := .pointer (some ⟨b, off + i * n, none⟩)) ?_ (ptr_inst h1)
            simp [Instr.indexAt, asIntOf, run_und hE ht, Instr.sureAddr, hl', run_size hE hn, addr_add]
          · cases h
        · cases h
      · cases h
    · rename_i elem ht
      split at h
      · rename_i id off len cap ex
        split at h
        · rename_i hl
          split at h
          · rename_i n hn
            cases h
            obtain ⟨b, κ, h1, hc, rfl⟩ := inst_slice hx
            have hl' := lt_of_blt hl
            refine .same hS (u := .pointer (some ⟨b, off + i * n, none⟩)) ?_ (ptr_inst h1)
            simp [Instr.indexAt, asIntOf, run_und hE ht, Instr.sureAddr, hl', run_size hE hn, addr_add]
          · cases h
        · cases h
      · cases h
    · cases h
  · cases h

/-! ## Parts of values -/

noncomputable def afield (E : Env) (t : TypeId) (x : AV) (i : Nat) : Option AV :=
  match E.und t with
  | some (.struct fs) => match fs[i]? with
    | some f => match x with
      | .agg cs => apart E f.type cs f.offset
      | _ => none
    | none => none
  | _ => none
theorem afield_ok (hE : E.Ok) (hS : S.rel E.P σ w Wr) {t : TypeId} {x v : AV} {i : Nat} {u : Value} (hx : x.inst σ = some u) (h : afield E t x i = some v) :
    RPost σ w ((Instr.field t u i).run E.P w) v := by
  unfold afield at h
  split at h
  · rename_i fs hfs
    split at h
    · rename_i f hf
      split at h
      · rename_i cs
        obtain ⟨us, rfl, hi⟩ := AV.inst_agg hx
        obtain ⟨v', h1, h2⟩ := apart_ok hE hi h
        exact .same hS (by simp [Instr.field, run_und hE hfs, hf, asAgg, h2]) h1
      · cases h
    · cases h
  · cases h

noncomputable def aindex (E : Env) (t : TypeId) (x ix : AV) : Option AV :=
  match ix with
  | .int _ (.ofNat i) => match x with
    | .agg cs => match E.und t with
      | some (.array len elem) => match Nat.blt i len with
        | true => match E.size elem with
          | some n => apart E elem cs (i * n)
          | none => none
        | false => none
      | _ => none
    | .str s => match E.und t with
      | some .string => match s[i]? with
        | some c => match Nat.blt c 256 with
          | true => some (.int .u8 (.ofNat c))
          | false => none
        | none => none
      | _ => none
    | _ => none
  | _ => none
theorem bytesOf_size (s : List Nat) : (bytesOf s).size = s.length := by simp [bytesOf, ByteArray.size]
theorem bytesOf_get {s : List Nat} {i c : Nat} (h : s[i]? = some c) : (bytesOf s)[i]? = some (UInt8.ofNat c) := by
  obtain ⟨hlt, hc⟩ := List.getElem?_eq_some_iff.1 h
  rw [getElem?_pos (bytesOf s) i (by rw [bytesOf_size]; exact hlt)]
  congr 1
  simp [bytesOf, ByteArray.getElem_eq_getElem_data, hc]
theorem aindex_ok (hE : E.Ok) (hS : S.rel E.P σ w Wr) {t : TypeId} {x ix v : AV} {u y : Value} (hx : x.inst σ = some u) (hi : ix.inst σ = some y) (h : aindex E t x ix = some v) :
    RPost σ w ((Instr.index t u y).run E.P w) v := by
  unfold aindex at h
  split at h
  · rename_i k i
    cases inst_int hi
    split at h
    · rename_i cs
      split at h
      · rename_i len elem ht
        split at h
        · rename_i hl
          split at h
          · rename_i n hn
            have hl' := lt_of_blt hl
            obtain ⟨us, rfl, hi⟩ := AV.inst_agg hx
            obtain ⟨v', h1, h2⟩ := apart_ok hE hi h
            exact .same hS (by simp [Instr.index, asIntOf, run_und hE ht, hl', run_size hE hn, h2]) h1
          · cases h
        · cases h
      · cases h
    · rename_i s
      split at h
      · rename_i ht
        split at h
        · rename_i c hc
          split at h
          · rename_i hlt
            cases h
            have hlt' := lt_of_blt hlt
            simp only [AV.inst, Option.some.injEq] at hx
            subst hx
            have hg := bytesOf_get hc
            refine .same hS (u := .int .u8 c) ?_ rfl
            have hm : c % 256 = c := Nat.mod_eq_of_lt hlt'
            simp [Instr.index, asIntOf, run_und hE ht, hg, hm]
          · cases h
        · cases h
      · cases h
    · cases h
  · cases h

noncomputable def aextract (x : AV) (i : Nat) : Option AV :=
  match x with
  | .tuple l => l[i]?
  | _ => none
theorem aextract_ok (hS : S.rel E.P σ w Wr) {x v : AV} {i : Nat} {u : Value} (hx : x.inst σ = some u) (h : aextract x i = some v) :
    RPost σ w ((Instr.extract u i).run E.P w) v := by
  unfold aextract at h
  split at h
  · rename_i l
    obtain ⟨us, rfl, hi⟩ := AV.inst_tuple hx
    obtain ⟨v', h1, h2⟩ := hi.get h
    exact .same hS (by simp [Instr.extract, h1]) h2
  · cases h

/-! ## New variables -/

noncomputable def Env.zero (E : Env) (t : TypeId) : Option AV :=
  match E.inf t with
  | some i => match i.zero with
    | some z => ofV z
    | none => none
  | none => none
theorem run_zero (hE : E.Ok) {t : TypeId} {a : AV} (h : E.zero t = some a) : ∃ z i, E.P.info? t = some i ∧ i.zero = some z ∧ a.inst σ = some z ∧ ∀ w, (zeroValue t).run E.P w = .ok z w := by
  unfold Env.zero at h
  split at h
  · rename_i i hi
    split at h
    · rename_i z hz
      exact ⟨z, i, hE.inf t i hi, hz, ofV_inst σ z a h, fun w => by simp [zeroValue, run_inf hE hi, hz]⟩
    · cases h
  · cases h

noncomputable def aboxed (S : ASt) (t : TypeId) (v : AV) : Option (AV × ASt) :=
  match v.isTuple with
  | true => none
  | false => match anew S (.cells v.cells t) with
    | some S' => some (.ptr S.next 0, S')
    | none => none
theorem newVar_ok (hS : S.rel E.P σ w Wr) {t : TypeId} {v p : AV} {u : Value} (hv : v.inst σ = some u) (h : aboxed S t v = some (p, S')) :
    ∃ σ' b w', (newVar t u).run E.P w = .ok ⟨b, 0, none⟩ w' ∧ p.inst σ' = some (.pointer (some ⟨b, 0, none⟩)) ∧ Post E.P σ S w Wr σ' S' w' := by
  unfold aboxed at h
  split at h
  · cases h
  · rename_i ht
    split at h
    · rename_i S₁ hn
      cases h
      obtain ⟨σ', b, κ, w', h1, h2, h3⟩ := anewRow_ok hS hn (AV.cells_inst hv (AV.not_tuple ht))
      refine ⟨σ', b, w', ?_, ptr_inst h2, h3⟩
      simpa [newVar] using h1
    · cases h
theorem abox_ok (hS : S.rel E.P σ w Wr) {t : TypeId} {v p : AV} {u : Value} (hv : v.inst σ = some u) (h : aboxed S t v = some (p, S')) :
    VPost E σ S w Wr ((Instr.box t u).run E.P w) p S' := by
  obtain ⟨σ', b, w', h1, h2, h3⟩ := newVar_ok hS hv h
  exact ⟨σ', _, w', by simp [Instr.box, h1], h2, h3⟩
noncomputable def aalloc (E : Env) (S : ASt) (t : TypeId) : Option (AV × ASt) :=
  match E.zero t with
  | some z => aboxed S t z
  | none => none
theorem aalloc_ok (hE : E.Ok) (hS : S.rel E.P σ w Wr) {t : TypeId} {p : AV} (h : aalloc E S t = some (p, S')) :
    VPost E σ S w Wr ((Instr.alloc t true (.tuple #[])).run E.P w) p S' := by
  unfold aalloc at h
  split at h
  · rename_i z hz
    obtain ⟨zv, i, _, _, hi, hr⟩ := run_zero (σ := σ) hE hz
    obtain ⟨σ', b, w', h1, h2, h3⟩ := newVar_ok hS hi h
    exact ⟨σ', _, w', by simp [Instr.alloc, hr, h1], h2, h3⟩
  · cases h

/-! ## Building structs, arrays and slices -/

noncomputable def apaste (cells : List AV) (off : Nat) : List AV → List AV
  | [] => cells
  | v :: l => apaste (cells.set off v) (off + 1) l
noncomputable def afill (place : Nat → Option (Nat × Nat)) (cells : List AV) : List (Nat × AV) → Option (List AV)
  | [] => some cells
  | (i, v) :: rest =>
    match place i with
    | some (off, size) => match v.isTuple with
      | true => none
      | false => match Nat.beq v.cells.length size && Nat.ble (off + v.cells.length) cells.length with
        | true => afill place (apaste cells off v.cells) rest
        | false => none
    | none => none

theorem paste_ok : ∀ {l : List AV} {ls : List Value} {cells : List AV} {cs : List Value} (off j : Nat), Ins σ l ls → Ins σ cells cs →
    Ins σ (apaste cells (off + j) l) ((ls.toArray.zipIdx j).foldl (fun cs (c, j) => cs.setIfInBounds (off + j) c) cs.toArray).toList
  | [], _, cells, cs, off, j, .nil, hc => by
    have e : (([] : List Value).toArray.zipIdx j) = #[] := by
      apply Array.ext'
      simp
    rw [e]
    simpa [apaste] using hc
  | a :: l, _, cells, cs, off, j, .cons (v := v) (vs := vs) ha hl, hc => by
    have ih := paste_ok (l := l) (ls := vs) (cells := cells.set (off + j) a) (cs := cs.set (off + j) v) off (j + 1) hl (hc.set ha (off + j))
    simp only [apaste]
    have e : ((v :: vs).toArray.zipIdx j) = #[(v, j)] ++ (vs.toArray.zipIdx (j + 1)) := by
      apply Array.ext'
      simp [List.zipIdx_cons]
    rw [e, Array.foldl_append]
    simpa [Nat.add_assoc] using ih
theorem fill_ok {place : Nat → Option (Nat × Nat)} : ∀ {ps : List (Nat × AV)} {qs : List (Nat × Value)} {cells out : List AV} {cs : List Value},
    ps.map (·.1) = qs.map (·.1) → Ins σ (ps.map (·.2)) (qs.map (·.2)) → Ins σ cells cs → afill place cells ps = some out →
    ∃ os : List Value, Ins σ out os ∧ Instr.fill place cs.toArray qs = some os.toArray
  | [], [], cells, out, cs, _, _, hc, h => by
    simp only [afill, Option.some.injEq] at h
    subst h
    exact ⟨cs, hc, rfl⟩
  | (i, v) :: ps, (j, u) :: qs, cells, out, cs, h1, h2, hc, h => by
    simp only [List.map_cons, List.cons.injEq] at h1
    obtain ⟨rfl, h1⟩ := h1
    cases h2 with
    | cons hv h2 =>
      simp only [afill] at h
      split at h
      · rename_i off size hp
        split at h
        · cases h
        · rename_i ht
          split at h
          · rename_i hb
            simp only [Bool.and_eq_true] at hb
            have hi := AV.cells_inst hv (AV.not_tuple ht)
            have hlen := hi.length
            have hcl := hc.length
            have e1 := Nat.eq_of_beq_eq_true hb.1
            have e2 := Nat.le_of_ble_eq_true hb.2
            simp only [Array.length_toList] at hlen
            have hp0 := paste_ok off 0 hi hc
            simp only [Nat.add_zero, Array.toArray_toList] at hp0
            obtain ⟨os, ho, hf⟩ := fill_ok h1 h2 hp0 h
            refine ⟨os, ho, ?_⟩
            have c1 : ¬ (u.cells.size ≠ size) := by omega
            have c2 : ¬ (off + u.cells.size > cs.length) := by omega
            simp only [Array.toArray_toList] at hf
            simp only [Instr.fill, hp, List.size_toArray]
            rw [if_neg (by simp; omega)]
            exact hf
          · cases h
      · cases h
  | [], _ :: _, _, _, _, h1, _, _, _ => by cases h1
  | _ :: _, [], _, _, _, h1, _, _, _ => by cases h1

end
end Go.Proofs.YtliimmpokhmjeaaGreatDoor.Zev
