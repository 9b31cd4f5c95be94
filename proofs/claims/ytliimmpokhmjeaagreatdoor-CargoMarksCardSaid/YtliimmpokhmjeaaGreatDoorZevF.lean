/-
  Building values; slices: making, slicing, appending, copying.
-/
import Derived.Test.YtliimmpokhmjeaaGreatDoorZevE
namespace Go.Proofs.YtliimmpokhmjeaaGreatDoor.Zev
open Go
set_option linter.unusedSimpArgs false
set_option linter.unusedVariables false

section
variable {E : Env} {σ : Sig} {S S' : ASt} {w : World} {Wr : Nat → Prop}

/-! ## Building -/

noncomputable def sizesOf (E : Env) : List Field → Option (List (Nat × Nat))
  | [] => some []
  | f :: l => match E.size f.type with
    | some n => match sizesOf E l with
      | some m => some ((f.offset, n) :: m)
      | none => none
    | none => none
theorem sizesOf_ok (hE : E.Ok) : ∀ {l : List Field} {m : List (Nat × Nat)}, sizesOf E l = some m → ∀ w : World,
    (l.mapM fun f => do pure (f.offset, ← sizeOf f.type) : Sem (List (Nat × Nat))).run E.P w = .ok m w
  | [], m, h, w => by simp only [sizesOf, Option.some.injEq] at h; subst h; simp
  | f :: l, m, h, w => by
    simp only [sizesOf] at h
    split at h
    · rename_i n hn
      split at h
      · rename_i m' hm
        cases h
        have ih := sizesOf_ok hE hm w
        rw [List.mapM_cons]
        simp only [Sem.run_bind, run_size hE hn, Result.andThen_ok, Sem.run_pure, ih]
      · cases h
    · cases h

noncomputable def abuild (E : Env) (t : TypeId) (parts : List (Nat × AV)) : Option AV :=
  match E.zero t with
  | some z => match E.und t with
    | some (.struct fs) => match sizesOf E fs.toList with
      | some m => match afill (m[·]?) z.cells parts with
        | some cs => some (.agg cs)
        | none => none
      | none => none
    | some (.array _ elem) => match E.size elem with
      | some n => match afill (fun i => some (i * n, n)) z.cells parts with
        | some cs => some (.agg cs)
        | none => none
      | none => none
    | _ => none
  | none => none
theorem zero_cells (hE : E.Ok) {t : TypeId} {z : AV} {zv : Value} (hz : z.inst σ = some zv) (ht : z.isTuple = false) : Ins σ z.cells zv.cells.toList :=
  AV.cells_inst hz (AV.not_tuple ht)
noncomputable def abuild' (E : Env) (t : TypeId) (parts : List (Nat × AV)) : Option AV :=
  match E.zero t with
  | some z => match z.isTuple with
    | true => none
    | false => abuild E t parts
  | none => none
theorem abuild_ok (hE : E.Ok) (hS : S.rel E.P σ w Wr) {t : TypeId} {parts : List (Nat × AV)} {qs : Array (Nat × Value)} {v : AV} (h1 : parts.map (·.1) = qs.toList.map (·.1))
    (h2 : Ins σ (parts.map (·.2)) (qs.toList.map (·.2))) (h : abuild' E t parts = some v) :
    RPost σ w ((Instr.build t qs).run E.P w) v := by
  unfold abuild' at h
  split at h
  · rename_i z hz0
    split at h
    · cases h
    · rename_i ht
      unfold abuild at h
      rw [hz0] at h
      obtain ⟨zv, i, _, _, hi, hr⟩ := run_zero (σ := σ) hE hz0
      have hc := AV.cells_inst hi (AV.not_tuple ht)
      simp only at h
      split at h
      · rename_i fs hfs
        split at h
        · rename_i m hm
          split at h
          · rename_i cs hcs
            cases h
            obtain ⟨os, ho, hf⟩ := fill_ok h1 h2 hc hcs
            simp only [Array.toArray_toList] at hf
            have hmm : (fs.mapM fun f => do pure (f.offset, ← sizeOf f.type) : Sem (Array (Nat × Nat))).run E.P w = .ok m.toArray w := by
              have e := sizesOf_ok hE hm w
              rw [← Array.toArray_toList (xs := fs), List.mapM_toArray, Sem.run_map, e]
              rfl
            refine .same hS (u := .agg os.toArray) ?_ (by simp [AV.inst, instL_iff.2 ho])
            simp only [Instr.build, Sem.run_bind, hr, run_und hE hfs, hmm, Result.andThen_ok]
            simp [hf]
          · cases h
        · cases h
      · rename_i n elem hfs
        split at h
        · rename_i k hk
          split at h
          · rename_i cs hcs
            cases h
            obtain ⟨os, ho, hf⟩ := fill_ok h1 h2 hc hcs
            simp only [Array.toArray_toList] at hf
            refine .same hS (u := .agg os.toArray) ?_ (by simp [AV.inst, instL_iff.2 ho])
            simp [Instr.build, hr, run_und hE hfs, run_size hE hk, hf]
          · cases h
        · cases h
      · cases h
  · cases h

/-- Cells over and over. -/
noncomputable def azeros (zc : List AV) (n : Nat) : List AV := (List.range n).map fun i => zc.getD (i % zc.length) .nilIface
theorem azeros_ok {zc : List AV} {zs : List Value} (h : Ins σ zc zs) (n : Nat) (hn : n = 0 ∨ 0 < zc.length) :
    Ins σ (azeros zc n) ((List.range n).map fun i => zs.toArray[i % zs.length]!) := by
  have hlen := h.length
  have key : ∀ l : List Nat, (l = [] ∨ 0 < zc.length) → Ins σ (l.map fun i => zc.getD (i % zc.length) .nilIface) (l.map fun i => zs.toArray[i % zs.length]!) := by
    intro l
    induction l with
    | nil => intro _; exact .nil
    | cons i l ih =>
      intro hl
      have hp : 0 < zc.length := by rcases hl with hl | hl; cases hl; exact hl
      have hlt : i % zc.length < zc.length := Nat.mod_lt _ hp
      simp only [List.map_cons]
      refine .cons ?_ (ih (.inr hp))
      obtain ⟨v, hv, hi⟩ := h.get (List.getElem?_eq_getElem hlt)
      rw [List.getD_eq_getElem?_getD, List.getElem?_eq_getElem hlt, Option.getD_some, hlen]
      rw [hi]
      congr 1
      have hlt' : i % zc.length < zs.length := by omega
      rw [getElem!_pos zs.toArray _ (by simpa using hlt')]
      have := List.getElem?_eq_getElem hlt'
      rw [this] at hv
      simpa using hv.symm
  refine key _ ?_
  rcases hn with rfl | hn
  · exact .inl rfl
  · exact .inr hn

noncomputable def abuildSlice (E : Env) (S : ASt) (t : TypeId) (len : Nat) (parts : List (Nat × AV)) : Option (AV × ASt) :=
  match E.und t with
  | some (.slice elem) => match E.size elem with
    | some size => match E.zero elem with
      | some z => match z.isTuple with
        | true => none
        | false => match Nat.ble (len * size) 16777216 && (Nat.beq (len * size) 0 || Nat.blt 0 z.cells.length) with
          | true => match afill (fun i => some (i * size, size)) (azeros z.cells (len * size)) parts with
            | some cs => match anew S (.cells cs elem) with
              | some S' => some (.slice S.next 0 len len true, S')
              | none => none
            | none => none
          | false => none
      | none => none
    | none => none
  | _ => none
theorem abuildSlice_ok (hE : E.Ok) (hS : S.rel E.P σ w Wr) {t : TypeId} {len : Nat} {parts : List (Nat × AV)} {qs : Array (Nat × Value)} {v : AV} (h1 : parts.map (·.1) = qs.toList.map (·.1))
    (h2 : Ins σ (parts.map (·.2)) (qs.toList.map (·.2))) (h : abuildSlice E S t len parts = some (v, S')) :
    VPost E σ S w Wr ((Instr.buildSlice t len qs).run E.P w) v S' := by
  unfold abuildSlice at h
  split at h
  · rename_i elem ht
    split at h
    · rename_i size hs
      split at h
      · rename_i z hz
        split at h
        · cases h
        · rename_i htu
          split at h
          · rename_i hc
            simp only [Bool.and_eq_true, Bool.or_eq_true] at hc
            obtain ⟨hc1, hc2⟩ := hc
            have hc1' := Nat.le_of_ble_eq_true hc1
            split at h
            · rename_i cs hcs
              split at h
              · rename_i S₁ hn
                cases h
                obtain ⟨zv, i, _, _, hi, hr⟩ := run_zero (σ := σ) hE hz
                have hzc := AV.cells_inst hi (AV.not_tuple htu)
                have hz' : len * size = 0 ∨ 0 < z.cells.length := hc2.imp Nat.eq_of_beq_eq_true lt_of_blt
                have hzz := azeros_ok hzc (len * size) hz'
                obtain ⟨os, ho, hf⟩ := fill_ok h1 h2 hzz hcs
                obtain ⟨σ', b, κ, w', e1, e2, e3⟩ := anewRow_ok hS hn ho
                refine ⟨σ', .slice (some ⟨b, 0, none⟩) len len, w', ?_, slice_inst e2 (.inl rfl), e3⟩
                have hc1'' : ¬ (16777216 < len * size) := by omega
                by_cases h0 : len * size = 0
                · have hf0 : Instr.fill (fun i => some (i * size, size)) #[] qs.toList = some os.toArray := by simpa [h0] using hf
                  simp [Instr.buildSlice, run_und hE ht, run_size hE hs, hc1'', h0, show Array.range 0 = #[] from rfl, hf0, e1]
                · have hf1 : Instr.fill (fun i => some (i * size, size)) ((Array.range (len * size)).map fun x => zv.cells[x % zv.cells.size]!) qs.toList = some os.toArray := by
                    rw [← hf]
                    congr 1
                    apply Array.ext'
                    simp
                  simp [Instr.buildSlice, run_und hE ht, run_size hE hs, hc1'', h0, hr, hf1, e1]
              · cases h
            · cases h
          · cases h
      · cases h
    · cases h
  · cases h

noncomputable def amakeSlice (E : Env) (S : ASt) (t : TypeId) (len cap : AV) : Option (AV × ASt) :=
  match len, cap with
  | .int _ (.ofNat l), .int _ (.ofNat c) => match E.und t with
    | some (.slice elem) => match E.inf elem with
      | some i => match E.zero elem with
        | some z => match z.isTuple with
          | true => none
          | false => match Nat.ble l c && (Nat.ble c 1000000000 && (Nat.ble (i.bytes * c) 281474976710656 && (Nat.beq (c * i.size) 0 || Nat.blt 0 z.cells.length))) with
            | true => match anew S (.cells (azeros z.cells (c * i.size)) elem) with
              | some S' => some (.slice S.next 0 l c true, S')
              | none => none
            | false => none
        | none => none
      | none => none
    | _ => none
  | _, _ => none
theorem amakeSlice_ok (hE : E.Ok) (hS : S.rel E.P σ w Wr) {t : TypeId} {len cap v : AV} {u y : Value} (hl : len.inst σ = some u) (hc : cap.inst σ = some y) (h : amakeSlice E S t len cap = some (v, S')) :
    VPost E σ S w Wr ((Instr.makeSlice t u y).run E.P w) v S' := by
  unfold amakeSlice at h
  split at h
  · rename_i kl l kc c
    cases inst_int hl
    cases inst_int hc
    split at h
    · rename_i elem ht
      split at h
      · rename_i i hi
        split at h
        · rename_i z hz
          split at h
          · cases h
          · rename_i htu
            split at h
            · rename_i hb
              simp only [Bool.and_eq_true, Bool.or_eq_true] at hb
              obtain ⟨b1, b2, b3, b4⟩ := hb
              have b1' := Nat.le_of_ble_eq_true b1
              have b2' := Nat.le_of_ble_eq_true b2
              have b3' := Nat.le_of_ble_eq_true b3
              split at h
              · rename_i S₁ hn
                cases h
                obtain ⟨zv, i', hi', _, hzi, hr⟩ := run_zero (σ := σ) hE hz
                have hzc := AV.cells_inst hzi (AV.not_tuple htu)
                have hz' : c * i.size = 0 ∨ 0 < z.cells.length := b4.imp Nat.eq_of_beq_eq_true lt_of_blt
                have hzz := azeros_ok hzc (c * i.size) hz'
                obtain ⟨σ', b, κ, w', e1, e2, e3⟩ := anewRow_ok hS hn hzz
                refine ⟨σ', .slice (some ⟨b, 0, none⟩) l c, w', ?_, slice_inst e2 (.inl rfl), e3⟩
                have w1 : IntKind.i64.wrap (l : Int) = l := IntWalk.i64_in _ (by omega)
                have w2 : IntKind.i64.wrap (c : Int) = c := IntWalk.i64_in _ (by omega)
                have n1 : ¬ ((c : Int) < 0) := by omega
                have n2 : ¬ ((l : Int) < 0) := by omega
                have n3 : ¬ ((c : Int) < (l : Int)) := by omega
                have n4 : ¬ ((281474976710656 : Int) < (i.bytes : Int) * (c : Int)) := by
                  rw [← Int.natCast_mul]
                  omega
                have e0 : (((Array.range (c * i.size)).map fun x => zv.cells[x % zv.cells.size]!)) = ((List.range (c * i.size)).map fun i => zv.cells.toList.toArray[i % zv.cells.toList.length]!).toArray := by
                  apply Array.ext'
                  simp
                by_cases h0 : c * i.size = 0
                · have e1' : (newRow elem #[]).run E.P w = .ok ⟨b, 0, none⟩ w' := by simpa [h0] using e1
                  simp [Instr.makeSlice, run_und hE ht, asInt, asIntOf, run_inf hE hi, sizeOf, w1, w2, n1, n2, n3, n4, h0, show Array.range 0 = #[] from rfl, e1']
                · rw [← e0] at e1
                  simp [Instr.makeSlice, run_und hE ht, asInt, asIntOf, run_inf hE hi, sizeOf, w1, w2, n1, n2, n3, n4, h0, hr, e1]
              · cases h
            · cases h
        · cases h
      · cases h
    · cases h
  · cases h

/-! ## Slicing -/

noncomputable def abound (x : Option AV) (d : Nat) : Option Nat :=
  match x with
  | none => some d
  | some (.int _ (.ofNat n)) => some n
  | some _ => none
inductive BoundIs : Option AV → Nat → Option Value → Prop where
  | none (d : Nat) : BoundIs none d none
  | some (k : IntKind) (n : Nat) : BoundIs (some (.int k (.ofNat n))) n (some (.int k (.ofNat n)))
noncomputable def instO (σ : Sig) : Option AV → Option Value → Prop
  | none, none => True
  | some a, some v => a.inst σ = some v
  | _, _ => False

/-- The bounds come out: low, high (no third one). -/
theorem run_bounds {P : Program} (isSlice : Bool) (len cap : Nat) {lo hi : Option AV} {lo' hi' : Option Value} {l h : Nat} (h1 : instO σ lo lo') (h2 : instO σ hi hi')
    (e1 : abound lo 0 = some l) (e2 : abound hi len = some h) (h3 : l ≤ h) (h4 : h ≤ cap) (w : World) :
    (Instr.sliceBounds isSlice len cap lo' hi' none).run P w = .ok (l, h, cap) w := by
  have hlo : lo' = none ∧ l = 0 ∨ ∃ k, lo' = some (.int k (.ofNat l)) := by
    unfold abound at e1
    split at e1
    · cases e1
      cases lo' with
      | none => exact .inl ⟨rfl, rfl⟩
      | some v => exact h1.elim
    · cases e1
      cases lo' with
      | none => exact h1.elim
      | some v => cases inst_int h1; exact .inr ⟨_, rfl⟩
    · cases e1
  have hhi : hi' = none ∧ h = len ∨ ∃ k, hi' = some (.int k (.ofNat h)) := by
    unfold abound at e2
    split at e2
    · cases e2
      cases hi' with
      | none => exact .inl ⟨rfl, rfl⟩
      | some v => exact h2.elim
    · cases e2
      cases hi' with
      | none => exact h2.elim
      | some v => cases inst_int h2; exact .inr ⟨_, rfl⟩
    · cases e2
  rcases hlo with ⟨rfl, rfl⟩ | ⟨k1, rfl⟩ <;> rcases hhi with ⟨rfl, rfl⟩ | ⟨k2, rfl⟩ <;>
    simp [Instr.sliceBounds, Instr.sliceBound, asIntOf, h3, h4]

noncomputable def asliceS (E : Env) (elem : TypeId) (x : AV) (lo hi : Option AV) : Option AV :=
  match x with
  | .nilslice => match abound lo 0, abound hi 0 with
    | some l, some h => match Nat.beq l 0 && Nat.beq h 0 with
      | true => some .nilslice
      | false => none
    | _, _ => none
  | .slice id off len cap ex => match abound lo 0, abound hi len, E.size elem with
    | some l, some h, some size => match ex with
      | true => match Nat.ble l h && Nat.ble h cap with
        | true => match Nat.beq cap l with
          | true => some (.slice id off (h - l) (cap - l) true)
          | false => some (.slice id (off + l * size) (h - l) (cap - l) true)
        | false => none
      | false => match Nat.ble l h && (Nat.ble h len && (Nat.beq l 0 || Nat.blt l len)) with
        | true => some (.slice id (off + l * size) (h - l) (cap + l) false)
        | false => none
    | _, _, _ => none
  | _ => none
theorem asliceS_ok (hE : E.Ok) (hS : S.rel E.P σ w Wr) {t elem : TypeId} {x v : AV} {lo hi : Option AV} {u : Value} {lo' hi' : Option Value} (ht : E.und t = some (.slice elem))
    (hx : x.inst σ = some u) (h1 : instO σ lo lo') (h2 : instO σ hi hi') (hsz : ∃ n, E.size elem = some n) (h : asliceS E elem x lo hi = some v) :
    RPost σ w ((Instr.sliceAt t u lo' hi' none).run E.P w) v := by
  obtain ⟨size, hsz⟩ := hsz
  unfold asliceS at h
  split at h
  · simp only [AV.inst, Option.some.injEq] at hx
    subst hx
    split at h
    · rename_i l hh e1 e2
      split at h
      · rename_i hb
        simp only [Bool.and_eq_true] at hb
        obtain rfl := Nat.eq_of_beq_eq_true hb.1
        obtain rfl := Nat.eq_of_beq_eq_true hb.2
        cases h
        have hr := run_bounds (P := E.P) true 0 0 h1 h2 e1 e2 (Nat.le_refl _) (Nat.le_refl _) w
        exact .same hS (u := .slice none 0 0) (by simp [Instr.sliceAt, Instr.slice, run_und hE ht, hr, run_size hE hsz]) rfl
      · cases h
    · cases h
  · rename_i id off len cap ex
    obtain ⟨b, κ, hs, hc, rfl⟩ := inst_slice hx
    split at h
    · rename_i l hh sz e1 e2 e3
      rw [hsz] at e3; cases e3
      split at h
      · split at h
        · rename_i hb
          simp only [Bool.and_eq_true] at hb
          have b1 := Nat.le_of_ble_eq_true hb.1
          have b2 := Nat.le_of_ble_eq_true hb.2
          have hr := run_bounds (P := E.P) true len cap h1 h2 e1 e2 b1 b2 w
          split at h
          · rename_i hm
            cases h
            obtain rfl := Nat.eq_of_beq_eq_true hm
            refine .same hS (u := .slice (some ⟨b, off, none⟩) (hh - cap) (cap - cap)) ?_ (slice_inst hs (.inl rfl))
            simp [Instr.sliceAt, Instr.slice, run_und hE ht, hr, run_size hE hsz]
          · rename_i hm
            cases h
            have hm' := Nat.ne_of_beq_eq_false hm
            refine .same hS (u := .slice (some ⟨b, off + l * size, none⟩) (hh - l) (cap - l)) ?_ (slice_inst hs (.inl rfl))
            simp [Instr.sliceAt, Instr.slice, run_und hE ht, hr, run_size hE hsz, hm', addr_add]
        · cases h
      · split at h
        · rename_i hb
          simp only [Bool.and_eq_true, Bool.or_eq_true] at hb
          obtain ⟨hb1, hb2, hb3⟩ := hb
          have b1 := Nat.le_of_ble_eq_true hb1
          have b2 := Nat.le_of_ble_eq_true hb2
          have hc' : len ≤ κ - cap := by rcases hc with hc | hc; cases hc; exact hc
          have hr := run_bounds (P := E.P) true len (κ - cap) h1 h2 e1 e2 b1 (by omega) w
          cases h
          refine .same hS (u := .slice (some ⟨b, off + l * size, none⟩) (hh - l) (κ - (cap + l))) ?_ ?_
          · have hsub : κ - cap - l = κ - (cap + l) := by omega
            rcases hb3 with h0 | h0
            · obtain rfl := Nat.eq_of_beq_eq_true h0
              simp [Instr.sliceAt, Instr.slice, run_und hE ht, hr, run_size hE hsz, addr_add]
            · have h0' := lt_of_blt h0
              have hm' : ¬ (κ - cap = l) := by omega
              simp [Instr.sliceAt, Instr.slice, run_und hE ht, hr, run_size hE hsz, hm', addr_add, hsub]
          · have := slice_inst (σ := σ) (off := off + l * size) (len := hh - l) (cap := cap + l) (ex := false) hs (.inr (by omega))
            simpa using this
        · cases h
    · cases h
  · cases h

noncomputable def asliceA (E : Env) (n : Nat) (elem : TypeId) (x : AV) (lo hi : Option AV) : Option AV :=
  match x with
  | .ptr id off => match abound lo 0, abound hi n, E.size elem with
    | some l, some h, some size => match Nat.ble l h && Nat.ble h n with
      | true => match Nat.beq n l with
        | true => some (.slice id off (h - l) (n - l) true)
        | false => some (.slice id (off + l * size) (h - l) (n - l) true)
      | false => none
    | _, _, _ => none
  | _ => none
theorem asliceA_ok (hE : E.Ok) (hS : S.rel E.P σ w Wr) {t elem : TypeId} {n : Nat} {x v : AV} {lo hi : Option AV} {u : Value} {lo' hi' : Option Value} (ht : E.und t = some (.array n elem))
    (hx : x.inst σ = some u) (h1 : instO σ lo lo') (h2 : instO σ hi hi') (h : asliceA E n elem x lo hi = some v) :
    RPost σ w ((Instr.sliceAt t u lo' hi' none).run E.P w) v := by
  unfold asliceA at h
  split at h
  · rename_i id off
    obtain ⟨b, κ, hs, rfl⟩ := inst_ptr hx
    split at h
    · rename_i l hh size e1 e2 hsz
      split at h
      · rename_i hb
        simp only [Bool.and_eq_true] at hb
        have b1 := Nat.le_of_ble_eq_true hb.1
        have b2 := Nat.le_of_ble_eq_true hb.2
        have hr := run_bounds (P := E.P) false n n h1 h2 e1 e2 b1 b2 w
        split at h
        · rename_i hm
          cases h
          obtain rfl := Nat.eq_of_beq_eq_true hm
          refine .same hS (u := .slice (some ⟨b, off, none⟩) (hh - n) (n - n)) ?_ (slice_inst hs (.inl rfl))
          simp [Instr.sliceAt, Instr.sureAddr, run_und hE ht, hr, run_size hE hsz]
        · rename_i hm
          cases h
          have hm' := Nat.ne_of_beq_eq_false hm
          refine .same hS (u := .slice (some ⟨b, off + l * size, none⟩) (hh - l) (n - l)) ?_ (slice_inst hs (.inl rfl))
          simp [Instr.sliceAt, Instr.sureAddr, run_und hE ht, hr, run_size hE hsz, hm', addr_add]
      · cases h
    · cases h
  · cases h

end
end Go.Proofs.YtliimmpokhmjeaaGreatDoor.Zev
