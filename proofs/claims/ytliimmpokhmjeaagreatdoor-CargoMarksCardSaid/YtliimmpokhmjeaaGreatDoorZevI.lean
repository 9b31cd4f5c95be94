/-
  append as a whole; copy, len, cap; conversions; walks over strings; comparisons with nil; interfaces.
-/
import Derived.Test.YtliimmpokhmjeaaGreatDoorZevH
namespace Go.Proofs.YtliimmpokhmjeaaGreatDoor.Zev
open Go
set_option linter.unusedSimpArgs false
set_option linter.unusedVariables false

section
variable {E : Env} {σ : Sig} {S S' : ASt} {w : World} {Wr : Nat → Prop}

/-- append where there is room. -/
theorem run_room (hE : E.Ok) {argTypes : Array TypeId} {ty t elem : TypeId} {i : TypeInfo} (h0 : argTypes[0]? = some t) (hi1 : notIntT E argTypes[1]? = true)
    (ht : E.und t = some (.slice elem)) (hi : E.inf elem = some i) {b off sLen sCap n : Nat} {x : Value} {news : List Value} (hfit : sLen + n ≤ sCap)
    (hlen : (Builtin.lenOf x).run E.P w = .ok n w) (hnew : (Builtin.firstCells i.size n x).run E.P w = .ok news.toArray w)
    {w' : World} (hst : (storeCells ⟨b, off + sLen * i.size, none⟩ news).run E.P w = .ok () w') :
    (Builtin.append_ argTypes ty #[.slice (some ⟨b, off, none⟩) sLen sCap, x]).run E.P w = .ok (.slice (some ⟨b, off, none⟩) (sLen + n) sCap) w' := by
  rw [append_types hE h0 hi1]
  simp [Builtin.append_, run_und hE ht, run_size hE (show E.size elem = some i.size by simp [Env.size, hi]), hlen, hfit, hnew, addr_add, hst]

noncomputable def aappend (E : Env) (S : ASt) (argTypes : Array TypeId) (s x : AV) : Option (AV × ASt) :=
  match argTypes[0]? with
  | some t => match notIntT E argTypes[1]? with
    | true => match E.und t with
      | some (.slice elem) => match E.inf elem with
        | some i => match alen x with
          | some n => match asrc S i.size n x with
            | some m => match s with
              | .nilslice => match Nat.beq n 0 with
                | true => some (.nilslice, S)
                | false => agrow E S elem i n m
              | .slice id off len cap ex => match S.heap.get id with
                | some (.cells l t') => match ex with
                  | true => match Nat.ble (len + n) cap with
                    | true => match astoreCells S id (off + len * i.size) m with
                      | some S' => some (.slice id off (len + n) cap true, S')
                      | none => none
                    | false => match Nat.ble (off + len * i.size) l.length with
                      | true => agrow E S elem i (len + n) ((l.drop off).take (len * i.size) ++ m)
                      | false => none
                  | false => match Nat.beq off 0 && (Nat.beq cap 0 && (Nat.beq t' elem && (Nat.ble (len * i.size) l.length && (S.limit id && (Nat.blt id maxIds && m.all AV.one))))) with
                    | true => match agrow E { heap := Trie.put none depth S.heap id, next := S.next, limit := S.limit } elem i (len + n) (l.take (len * i.size) ++ m) with
                      | some (v, S') => some (v, S')
                      | none => none
                    | false => none
                | _ => none
              | _ => none
            | none => none
          | none => none
        | none => none
      | _ => none
    | false => none
  | none => none

theorem aappend_ok (hE : E.Ok) (hS : S.rel E.P σ w Wr) {argTypes : Array TypeId} {ty : TypeId} {s x v : AV} {su xu : Value} (hs : s.inst σ = some su) (hx : x.inst σ = some xu)
    (h : aappend E S argTypes s x = some (v, S')) : VPost E σ S w Wr ((Builtin.append_ argTypes ty #[su, xu]).run E.P w) v S' := by
  unfold aappend at h
  split at h
  · rename_i t h0
    split at h
    · rename_i hi1
      split at h
      · rename_i elem ht
        split at h
        · rename_i i hi
          split at h
          · rename_i n hn
            split at h
            · rename_i m hm
              have hlen := alen_ok hx hn E.P w
              obtain ⟨hml, ms, hmi, hnew⟩ := asrc_ok hS hx hm
              split at h
              · simp only [AV.inst, Option.some.injEq] at hs
                subst hs
                split at h
                · rename_i h00
                  cases h
                  obtain rfl := Nat.eq_of_beq_eq_true h00
                  refine .same hS (u := .slice none 0 0) ?_ rfl
                  rw [append_types hE h0 hi1]
                  simp [Builtin.append_, run_und hE ht, run_size hE (show E.size elem = some i.size by simp [Env.size, hi]), hlen, hnew w rfl]
                · rename_i h00
                  have h00' := Nat.ne_of_beq_eq_false h00
                  have := agrow_ok (σ := σ) hE hS (ty := ty) h0 hi1 ht hi (base := none) (sLen := 0) (sCap := 0) (n := n) (x := xu) (olds := []) (news := ms) (m := m) (by omega) hlen (fun w₁ _ => rfl) hnew (by simpa using hmi) (by simpa using hml) (v := v) (S' := S')
                  simp only [Nat.zero_add] at this
                  exact this h
              · rename_i id off len cap ex
                obtain ⟨b, κ, hsb, hcap, rfl⟩ := inst_slice hs
                split at h
                · rename_i l t' hb
                  obtain ⟨b', κ', vs, rest, fr, e1, e2, e3, e4, e5⟩ := get_cells hS hb
                  rw [hsb] at e1; cases e1
                  have hlv := e3.length
                  split at h
                  · split at h
                    · rename_i hfit
                      have hfit' := Nat.le_of_ble_eq_true hfit
                      split at h
                      · rename_i S₁ hst
                        cases h
                        obtain ⟨b', κ', w', f1, f2, f3⟩ := astoreCells_ok hS hst hmi
                        rw [hsb] at f1; cases f1
                        refine ⟨σ, _, w', run_room hE h0 hi1 ht hi (by simpa using hfit') hlen (hnew w rfl) f2, slice_inst hsb (.inl rfl), f3⟩
                      · cases h
                    · rename_i hfit
                      have hfit' : ¬ (len + n ≤ cap) := fun e => by
                        have := Nat.ble_eq_true_of_le e
                        rw [this] at hfit; cases hfit
                      split at h
                      · rename_i hle
                        have hle' := Nat.le_of_ble_eq_true hle
                        refine agrow_ok (σ := σ) hE hS (ty := ty) h0 hi1 ht hi (base := some ⟨b, off, none⟩) (sLen := len) (sCap := cap) (olds := (vs.drop off).take (len * i.size)) (news := ms) (by omega) hlen (fun w₁ hw => load_cells (w := w₁) (P := E.P) (by rw [hw]; exact e2) (by omega)) hnew
                          (((e3.drop off).take _).append hmi) ?_ h
                        simp [hml, Nat.add_mul]
                        omega
                      · cases h
                  · split at h
                    · rename_i hc
                      simp only [Bool.and_eq_true] at hc
                      obtain ⟨c1, c2, c3, c4, c5, c6, c7⟩ := hc
                      obtain rfl := Nat.eq_of_beq_eq_true c1
                      obtain rfl := Nat.eq_of_beq_eq_true c2
                      obtain rfl := Nat.eq_of_beq_eq_true c3
                      have c4' := Nat.le_of_ble_eq_true c4
                      have c5' := c5
                      have c6' := lt_of_blt c6
                      split at h
                      · rename_i v₁ S₁ hg
                        cases h
                        have hcap' : len ≤ κ := by rcases hcap with hcap | hcap; cases hcap; simpa using hcap
                        simp only [Nat.sub_zero, Bool.false_eq_true, if_false]
                        have hcs : cellSize E.P t' = i.size := by simp [cellSize, hE.inf _ i hi]
                        have hins : Ins σ (l.take (len * i.size) ++ m) (vs.take (len * i.size) ++ ms) := (e3.take _).append hmi
                        by_cases hroom : len + n ≤ κ
                        · -- in place
                          have hsz : (len + n) * i.size ≤ κ * i.size := Nat.mul_le_mul_right _ hroom
                          rw [hcs] at e4
                          have hmsl := hmi.length
                          have hin : 0 + len * i.size + ms.length ≤ (vs ++ rest).length := by
                            rw [hmsl, hml, Nat.zero_add, ← Nat.add_mul]
                            exact Nat.le_trans hsz e4
                          have hrun := store_cells (P := E.P) b (0 + len * i.size) t' fr ms 0 (vs ++ rest).toArray w e2 (by simpa using e5) (by simpa using hin) (hmi.one c7)
                          have hrm := run_room hE (w := w) (ty := ty) h0 hi1 ht hi (b := b) (off := 0) (sLen := len) (sCap := κ) hroom hlen (hnew w rfl) hrun
                          unfold agrow at hg
                          split at hg
                          · rename_i z hz
                            split at hg
                            · rename_i hcc
                              split at hg
                              · rename_i S₂ hnw
                                cases hg
                                unfold anew at hnw
                                split at hnw
                                · rename_i hnx
                                  cases hnw
                                  refine ⟨σ.add S.next (b, κ), _, _, hrm, ?_, ?_⟩
                                  · have := slice_inst (σ := σ.add S.next (b, κ)) (id := S.next) (off := 0) (len := len + n) (cap := 0) (ex := false) (Sig.add_same _ _ _) (.inr (by omega))
                                    simpa using this
                                  · refine post_move hS (lt_of_blt hnx) hb c5' hsb c6' (blk := .cells (l.take (len * i.size) ++ m) t') ?_ (setRow_eq w b _ e2)
                                    have hlen2 : (vs.take (len * i.size) ++ ms ++ (vs ++ rest).drop (len * i.size + ms.length)).length = (vs ++ rest).length := by
                                      simp only [List.length_append, List.length_take, List.length_drop] at hin ⊢
                                      omega
                                    refine ⟨vs.take (len * i.size) ++ ms, (vs ++ rest).drop (len * i.size + ms.length), fr, hins, ?_, ?_, by rw [hlen2]; exact e5⟩
                                    · congr 1
                                      simp only [Nat.zero_add, Nat.add_zero]
                                      rw [List.take_append_of_le_length (by omega)]
                                    · rw [hcs, hlen2]
                                      exact e4
                                · cases hnw
                              · cases hg
                            · cases hg
                          · cases hg
                        · -- grown
                          have hkill := rel_kill hS c5' c6'
                          have hgr := agrow_ok (σ := σ) hE hkill.rel (ty := ty) h0 hi1 ht hi (base := some ⟨b, 0, none⟩) (sLen := len) (sCap := κ) (olds := vs.take (len * i.size)) (news := ms) (by omega) hlen
                            (fun w₁ hw => by
                              have := load_cells (w := w₁) (P := E.P) (b := b) (off := 0) (n := len * i.size) (vs := vs) (rest := rest) (t := t') (by rw [hw]; exact e2) (by omega)
                              simp only [List.drop_zero] at this
                              exact this) hnew hins (by simp [hml, Nat.add_mul]; omega) hg
                          obtain ⟨σ', u, w', g1, g2, g3⟩ := hgr
                          exact ⟨σ', u, w', g1, g2, hkill.trans g3⟩
                      · cases h
                    · cases h
                · cases h
              · cases h
            · cases h
          · cases h
        · cases h
      · cases h
    · cases h
  · cases h

/-! ## copy, len, cap -/

noncomputable def acopy (E : Env) (S : ASt) (argTypes : Array TypeId) (d x : AV) : Option (AV × ASt) :=
  match argTypes[0]? with
  | some t => match E.und t with
    | some (.slice elem) => match E.size elem with
      | some size => match alen x with
        | some n => match d with
          | .slice id off len _ _ => match asrc S size (Nat.min n len) x with
            | some m => match astoreCells S id off m with
              | some S' => some (.int .i64 (.ofNat (Nat.min n len)), S')
              | none => none
            | none => none
          | _ => none
        | none => none
      | none => none
    | _ => none
  | none => none
theorem acopy_ok (hE : E.Ok) (hS : S.rel E.P σ w Wr) {argTypes : Array TypeId} {ty : TypeId} {d x v : AV} {du xu : Value} (hd : d.inst σ = some du) (hx : x.inst σ = some xu)
    (h : acopy E S argTypes d x = some (v, S')) : VPost E σ S w Wr ((Builtin.copy_ argTypes ty #[du, xu]).run E.P w) v S' := by
  unfold acopy at h
  split at h
  · rename_i t h0
    split at h
    · rename_i elem ht
      split at h
      · rename_i size hsz
        split at h
        · rename_i n hn
          split at h
          · rename_i id off len cap ex
            obtain ⟨b, κ, hsb, hcap, rfl⟩ := inst_slice hd
            split at h
            · rename_i m hm
              split at h
              · rename_i S₁ hst
                cases h
                have hlen := alen_ok hx hn E.P w
                obtain ⟨hml, ms, hmi, hnew⟩ := asrc_ok hS hx hm
                obtain ⟨b', κ', w', f1, f2, f3⟩ := astoreCells_ok hS hst hmi
                rw [hsb] at f1; cases f1
                refine ⟨σ, .int .i64 (.ofNat (Nat.min n len)), w', ?_, rfl, f3⟩
                have hn' := hnew w rfl
                simp only [Builtin.copy_, h0]
                simp only [List.getElem?_toArray, List.getElem?_cons_zero, List.getElem?_cons_succ, Sem.run_bind, run_und hE ht, Result.andThen_ok, run_size hE hsz, hlen, hn']
                simp [f2, goInt]
              · cases h
            · cases h
          · cases h
        · cases h
      · cases h
    · cases h
  · cases h

noncomputable def alenOf (E : Env) (S : ASt) (argTypes : Array TypeId) (x : AV) : Option AV :=
  match argTypes[0]? with
  | some t => match E.und t with
    | some (.slice _) => match x with
      | .nilslice => some (.int .i64 (.ofNat 0))
      | .slice _ _ len _ _ => some (.int .i64 (.ofNat len))
      | _ => none
    | some .string => match x with
      | .str s => some (.int .i64 (.ofNat s.length))
      | _ => none
    | some (.map _ _) => match x with
      | .nilmap => some (.int .i64 (.ofNat 0))
      | .map id => match S.heap.get id with
        | some (.map es _) => some (.int .i64 (.ofNat es.length))
        | _ => none
      | _ => none
    | some (.array n _) => some (.int .i64 (.ofNat n))
    | _ => none
  | none => none
theorem alenOf_ok (hE : E.Ok) (hS : S.rel E.P σ w Wr) {argTypes : Array TypeId} {ty : TypeId} {x v : AV} {xu : Value} (hx : x.inst σ = some xu)
    (h : alenOf E S argTypes x = some v) : RPost σ w ((Builtin.len_ argTypes ty #[xu]).run E.P w) v := by
  unfold alenOf at h
  split at h
  · rename_i t h0
    split at h
    · rename_i e ht
      split at h
      · cases h
        simp only [AV.inst, Option.some.injEq] at hx
        subst hx
        exact .same hS (u := .int .i64 0) (by simp [Builtin.len_, h0, run_und hE ht, goInt]) rfl
      · rename_i id off len cap ex
        cases h
        obtain ⟨b, κ, _, _, rfl⟩ := inst_slice hx
        exact .same hS (u := .int .i64 len) (by simp [Builtin.len_, h0, run_und hE ht, goInt]) rfl
      · cases h
    · rename_i ht
      split at h
      · rename_i s
        cases h
        simp only [AV.inst, Option.some.injEq] at hx
        subst hx
        exact .same hS (u := .int .i64 s.length) (by simp [Builtin.len_, h0, run_und hE ht, goInt, bytesOf_size]) rfl
      · cases h
    · rename_i kt et ht
      split at h
      · cases h
        simp only [AV.inst, Option.some.injEq] at hx
        subst hx
        exact .same hS (u := .int .i64 0) (by simp [Builtin.len_, h0, run_und hE ht, goInt]) rfl
      · rename_i id
        split at h
        · rename_i es c hb
          cases h
          obtain ⟨b, κ, es', h1, h2, hi⟩ := get_map hS hb
          obtain ⟨b', κ', h1', rfl⟩ := inst_map hx
          rw [h1] at h1'; cases h1'
          have hl := instE_len hi
          exact .same hS (u := .int .i64 es.length) (by simp [Builtin.len_, h0, run_und hE ht, goInt, zrun_get h2, hl]) rfl
        · cases h
      · cases h
    · rename_i n e ht
      cases h
      exact .same hS (u := .int .i64 n) (by simp [Builtin.len_, h0, run_und hE ht, goInt]) rfl
    · cases h
  · cases h

noncomputable def acapOf (E : Env) (argTypes : Array TypeId) (x : AV) : Option AV :=
  match argTypes[0]? with
  | some t => match E.und t with
    | some (.slice _) => match x with
      | .nilslice => some (.int .i64 (.ofNat 0))
      | .slice _ _ _ cap true => some (.int .i64 (.ofNat cap))
      | _ => none
    | some (.array n _) => some (.int .i64 (.ofNat n))
    | _ => none
  | none => none
theorem acapOf_ok (hE : E.Ok) (hS : S.rel E.P σ w Wr) {argTypes : Array TypeId} {ty : TypeId} {x v : AV} {xu : Value} (hx : x.inst σ = some xu)
    (h : acapOf E argTypes x = some v) : RPost σ w ((Builtin.cap_ argTypes ty #[xu]).run E.P w) v := by
  unfold acapOf at h
  split at h
  · rename_i t h0
    split at h
    · rename_i e ht
      split at h
      · cases h
        simp only [AV.inst, Option.some.injEq] at hx
        subst hx
        exact .same hS (u := .int .i64 0) (by simp [Builtin.cap_, h0, run_und hE ht, goInt]) rfl
      · rename_i id off len cap
        cases h
        obtain ⟨b, κ, _, _, rfl⟩ := inst_slice hx
        exact .same hS (u := .int .i64 cap) (by simp [Builtin.cap_, h0, run_und hE ht, goInt]) rfl
      · cases h
    · rename_i n e ht
      cases h
      exact .same hS (u := .int .i64 n) (by simp [Builtin.cap_, h0, run_und hE ht, goInt]) rfl
    · cases h
  · cases h

/-! ## Conversions that read memory -/

noncomputable def byteList : List AV → Option (List Nat)
  | [] => some []
  | .int .u8 (.ofNat n) :: l => match byteList l with
    | some m => some (n :: m)
    | none => none
  | _ :: _ => none
theorem byteList_ok : ∀ {l : List AV} {m : List Nat} {vs : List Value}, byteList l = some m → Ins σ l vs → vs = m.map fun n => .int .u8 (.ofNat n)
  | [], m, vs, h, hi => by
    simp only [byteList, Option.some.injEq] at h
    subst h
    cases hi; rfl
  | a :: l, m, vs, h, hi => by
    cases hi with
    | cons ha hl =>
      unfold byteList at h
      split at h
      · cases ‹_ = []›
      · rename_i n l' e
        cases e
        split at h
        · rename_i m' hm
          cases h
          cases inst_int ha
          simp [byteList_ok hm hl]
        · cases h
      · cases h
noncomputable def aconvert (E : Env) (S : ASt) (src dst : TypeId) (x : AV) : Option AV :=
  match E.und src with
  | some (.slice e) => match E.und dst with
    | some .string => match E.und e with
      | some (.int .u8) => match x with
        | .nilslice => some (.str [])
        | .slice id off len _ _ => match S.heap.get id with
          | some (.cells l _) => match Nat.ble (off + len) l.length with
            | true => match byteList ((l.drop off).take len) with
              | some m => some (.str m)
              | none => none
            | false => none
          | _ => none
        | _ => none
      | _ => none
    | _ => none
  | _ => none
theorem aconvert_ok (hE : E.Ok) (hS : S.rel E.P σ w Wr) {src dst : TypeId} {x v : AV} {xu : Value} (hx : x.inst σ = some xu)
    (h : aconvert E S src dst x = some v) : RPost σ w ((convert src dst xu).run E.P w) v := by
  unfold aconvert at h
  split at h
  · rename_i e hsrc
    split at h
    · rename_i hdst
      split at h
      · rename_i he
        split at h
        · cases h
          simp only [AV.inst, Option.some.injEq] at hx
          subst hx
          refine .same hS (u := .string (bytesOf [])) ?_ rfl
          simp [convert, run_und hE hsrc, run_und hE hdst, run_und hE he, Conv.bytesToString, bytesOf]
          rfl
        · rename_i id off len cap ex
          obtain ⟨b, κ, hsb, _, rfl⟩ := inst_slice hx
          split at h
          · rename_i l t hb
            split at h
            · rename_i hle
              split at h
              · rename_i m hm
                cases h
                obtain ⟨b', κ', vs, rest, fr, e1, e2, e3, e4, e5⟩ := get_cells hS hb
                rw [hsb] at e1; cases e1
                have hle' := Nat.le_of_ble_eq_true hle
                have hlv := e3.length
                have hvs := byteList_ok hm ((e3.drop off).take len)
                have hld := load_cells (w := w) (P := E.P) (b := b) (off := off) (n := len) e2 (by omega)
                rw [hvs] at hld
                refine .same hS (u := .string (bytesOf m)) ?_ rfl
                have hr := run_bytesToString (P := E.P) w ⟨b, off, none⟩ len (if ex then cap else κ - cap) (m.map Int.ofNat) (by simpa [List.map_map, Function.comp_def] using hld)
                have hfold : ∀ (m : List Nat) (acc : List UInt8), (m.map Int.ofNat).foldl (fun r n => r.push (UInt8.ofNat n.toNat)) (⟨⟨acc⟩⟩ : ByteArray) = ⟨⟨acc ++ m.map UInt8.ofNat⟩⟩ := by
                  intro m
                  induction m with
                  | nil => intro acc; simp
                  | cons n m ih =>
                    intro acc
                    simp only [List.map_cons, List.foldl_cons, Int.ofNat_eq_natCast, Int.toNat_natCast]
                    have : (⟨⟨acc⟩⟩ : ByteArray).push (UInt8.ofNat n) = ⟨⟨acc ++ [UInt8.ofNat n]⟩⟩ := by simp [ByteArray.push]
                    rw [this, ih]
                    simp
                have hf := hfold m []
                have he0 : (ByteArray.empty : ByteArray) = ⟨⟨[]⟩⟩ := rfl
                simp only [convert, Sem.run_bind, run_und hE hsrc, run_und hE hdst, run_und hE he, Result.andThen_ok, hr]
                rw [he0, hf]
                simp [bytesOf]
              · cases h
            · cases h
          · cases h
        · cases h
      · cases h
    · cases h
  · cases h

noncomputable def astrBytes (E : Env) (S : ASt) (src dst : TypeId) (x : AV) : Option (AV × ASt) :=
  match E.und src with
  | some .string => match E.und dst with
    | some (.slice e) => match E.und e with
      | some (.int .u8) => match E.size e with
        | some n => match x with
          | .str s => match Nat.beq n 1 && s.all (fun c => Nat.blt c 256) with
            | true => match anew S (.cells (s.map fun c => .int .u8 (.ofNat c)) e) with
              | some S' => some (.slice S.next 0 s.length 0 false, S')
              | none => none
            | false => none
          | _ => none
        | none => none
      | _ => none
    | _ => none
  | _ => none
theorem astrBytes_ok (hE : E.Ok) (hS : S.rel E.P σ w Wr) {src dst : TypeId} {x v : AV} {xu : Value} (hx : x.inst σ = some xu)
    (h : astrBytes E S src dst x = some (v, S')) : VPost E σ S w Wr ((convert src dst xu).run E.P w) v S' := by
  unfold astrBytes at h
  split at h
  · rename_i hsrc
    split at h
    · rename_i e hdst
      split at h
      · rename_i he
        split at h
        · rename_i n hn
          split at h
          · rename_i s
            split at h
            · rename_i hc
              simp only [Bool.and_eq_true] at hc
              obtain ⟨c1, c2⟩ := hc
              obtain rfl := Nat.eq_of_beq_eq_true c1
              split at h
              · rename_i S₁ hnew
                cases h
                simp only [AV.inst, Option.some.injEq] at hx
                subst hx
                let cap := (Question.appendCap (bytesOf s).size 0 e).cut (w.tape w.drawn (.appendCap (bytesOf s).size 0 e))
                have hcap : s.length ≤ cap := by
                  simp only [cap, Question.cut, bytesOf_size]
                  omega
                let vs : List Value := (s.map UInt8.ofNat).map fun b => .int .u8 b.toNat
                let rest : List Value := List.replicate (cap - s.length) (.int .u8 0)
                have hcs : cellSize E.P e = 1 := by
                  unfold Env.size at hn
                  split at hn
                  · rename_i i hi
                    have h1 : i.size = 1 := Option.some.inj hn
                    simp [cellSize, hE.inf e i hi, h1]
                  · cases hn
                have hlen : (vs ++ rest).length = cap := by simp [vs, rest]; omega
                let w' : World := { w.drew with heap := w.heap.push (.cells (vs ++ rest).toArray e (cap, cap + 1)) }
                obtain ⟨hp, hs⟩ := anew_ok hS hnew (κ := cap) (o := .cells (vs ++ rest).toArray e (cap, cap + 1)) (w' := w')
                  ⟨vs, rest, (cap, cap + 1), bytes_ins s c2, rfl, by rw [hcs, hlen]; omega, .inr (by rw [hlen]; exact Nat.le_refl _)⟩ rfl
                refine ⟨_, .slice (some ⟨w.heap.size, 0, none⟩) s.length cap, w', ?_, ?_, hp⟩
                · have hu : ∀ w : World, (underlying src).run E.P w = .ok .string w := fun w => run_und hE hsrc w
                  simp only [convert, Sem.run_bind, run_und hE hsrc, run_und hE hdst, run_und hE he, Result.andThen_ok, Conv.stringToBytes, run_choose, Question.forced, Bool.false_eq_true, if_false]
                  have harr : (Array.map (fun b : UInt8 => Value.int .u8 (b.toNat : Int)) (bytesOf s).data ++ Array.replicate (cap - (bytesOf s).size) (.int .u8 0)) = (vs ++ rest).toArray := by
                    apply Array.ext'
                    simp [bytesOf, vs, rest, ByteArray.size]
                  have harr' : (vs ++ rest).toArray.size = cap := by simpa using hlen
                  show ((newRow e (Array.map (fun b : UInt8 => Value.int .u8 (b.toNat : Int)) (bytesOf s).data ++ Array.replicate (cap - (bytesOf s).size) (.int .u8 0))).run E.P w.drew).andThen _ = _
                  rw [harr]
                  simp only [newRow, Sem.run_bind, run_newObj, Result.andThen_ok, Sem.run_pure, markStringish, run_shape]
                  have hsh : ({ w.drew with heap := w.drew.heap.push (.cells (vs ++ rest).toArray e (0, 0)) } : World).shape? w.drew.heap.size = some (e, cap) := by
                    simp only [World.shape?]
                    show (match (w.heap.push (.cells (vs ++ rest).toArray e (0, 0)))[w.heap.size]? with | some (.cells c elem _) => some (elem, c.size) | _ => none) = _
                    simp [harr']
                  rw [hsh]
                  simp only [run_freeze, Result.andThen_ok, bytesOf_size]
                  have hfz : ({ w.drew with heap := w.drew.heap.push (.cells (vs ++ rest).toArray e (0, 0)) } : World).freeze { block := w.drew.heap.size, off := cap } 1 = w' := by
                    simp only [World.freeze, Nat.one_ne_zero, if_false, w']
                    congr 1
                    apply Array.ext_getElem?
                    intro i
                    rw [Array.getElem?_modify]
                    by_cases hi : w.heap.size = i
                    · subst hi
                      show (if w.heap.size = w.heap.size then Option.map _ (w.heap.push _)[w.heap.size]? else _) = _
                      simp
                    · have hi' : ¬ (w.drew.heap.size = i) := hi
                      rw [if_neg hi']
                      show (w.heap.push _)[i]? = _
                      rcases Nat.lt_or_ge i w.heap.size with hlt | hge
                      · rw [Array.getElem?_push_lt hlt, Array.getElem?_push_lt hlt]
                      · rw [Array.getElem?_eq_none (by simp; omega), Array.getElem?_eq_none (by simp; omega)]
                  rw [hfz]
                  simp only [cap, bytesOf_size]
                  rfl
                · have := slice_inst (σ := σ.add S.next (w.heap.size, cap)) (id := S.next) (off := 0) (len := s.length) (cap := 0) (ex := false) hs (.inr (by omega))
                  simpa using this
              · cases h
            · cases h
          · cases h
        · cases h
      · cases h
    · cases h
  · cases h

/-! ## Walks over strings -/

noncomputable def arange (E : Env) (S : ASt) (t : TypeId) (x : AV) : Option (AV × ASt) :=
  match E.und t with
  | some .string => match x with
    | .str s => match anew S (.siter s 0) with
      | some S' => some (.ptr S.next 0, S')
      | none => none
    | _ => none
  | _ => none
theorem arange_ok (hE : E.Ok) (hS : S.rel E.P σ w Wr) {t : TypeId} {x v : AV} {xu : Value} (hx : x.inst σ = some xu) (h : arange E S t x = some (v, S')) :
    VPost E σ S w Wr ((Instr.range t xu).run E.P w) v S' := by
  unfold arange at h
  split at h
  · rename_i ht
    split at h
    · rename_i s
      split at h
      · rename_i S₁ hn
        cases h
        simp only [AV.inst, Option.some.injEq] at hx
        subst hx
        obtain ⟨hp, hs⟩ := anew_ok hS hn (κ := 0) (o := .stringIter (bytesOf s) 0) (w' := { w with heap := w.heap.push (.stringIter (bytesOf s) 0) }) rfl rfl
        exact ⟨_, .pointer (some ⟨w.heap.size, 0, none⟩), _, by simp [Instr.range, run_und hE ht], ptr_inst hs, hp⟩
      · cases h
    · cases h
  · cases h
noncomputable def anext (S : ASt) (x : AV) (isString : Bool) : Option (AV × ASt) :=
  match isString with
  | true => match x with
    | .ptr id off => match Nat.beq off 0 with
      | true => match S.heap.get id with
        | some (.siter s pos) => match Nat.blt pos s.length with
          | true => match S.limit id && Nat.blt id maxIds with
            | true => some (.tuple [.bool true, .int .i64 (.ofNat pos), .int .i32 (Utf8.decode (bytesOf s) pos).1],
                { heap := Trie.put (some (.siter s (pos + (Utf8.decode (bytesOf s) pos).2))) depth S.heap id, next := S.next, limit := S.limit })
            | false => none
          | false => some (.tuple [.bool false], S)
        | _ => none
      | false => none
    | _ => none
  | false => none
theorem anext_ok (hS : S.rel E.P σ w Wr) {t : TypeId} {x v : AV} {b : Bool} {xu : Value} (hx : x.inst σ = some xu) (h : anext S x b = some (v, S')) :
    VPost E σ S w Wr ((Instr.next xu b t).run E.P w) v S' := by
  unfold anext at h
  split at h
  · split at h
    · rename_i id off
      split at h
      · rename_i h0
        obtain rfl := Nat.eq_of_beq_eq_true h0
        split at h
        · rename_i s pos hb
          obtain ⟨b', κ, o, h1, h2, h3⟩ := hS.at_ id _ hb
          obtain ⟨b'', κ', h1', rfl⟩ := inst_ptr hx
          rw [h1] at h1'; cases h1'
          have ho : o = .stringIter (bytesOf s) pos := h3
          subst ho
          have hg : (getObj b').run E.P w = .ok (.stringIter (bytesOf s) pos) w := by simp [getObj, Sem.run, h2]
          split at h
          · rename_i hlt
            have hlt' := lt_of_blt hlt
            split at h
            · rename_i hc
              simp only [Bool.and_eq_true] at hc
              cases h
              refine ⟨σ, .tuple #[.bool true, goInt pos, .int .i32 (Utf8.decode (bytesOf s) pos).1], _, ?_, by simp [AV.inst, instL, goInt],
                post_set hS hb hc.1 h1 (o := .stringIter (bytesOf s) (pos + (Utf8.decode (bytesOf s) pos).2)) rfl (lt_of_blt hc.2) (w' := { w with heap := w.heap.setIfInBounds b' (.stringIter (bytesOf s) (pos + (Utf8.decode (bytesOf s) pos).2)) }) rfl⟩
              have hset : ∀ o' : Obj, (setObj b' o').run E.P w = .ok () { w with heap := w.heap.setIfInBounds b' o' } := fun o' => by simp [setObj, Sem.run, h2]
              simp [Instr.next, hg, bytesOf_size, hlt', hset]
            · cases h
          · rename_i hlt
            cases h
            have hlt' : ¬ (pos < s.length) := fun e => by
              have : Nat.blt pos s.length = true := Nat.ble_eq_true_of_le e
              rw [this] at hlt; cases hlt
            refine .same hS (u := .tuple #[.bool false]) ?_ (by simp [AV.inst, instL])
            simp [Instr.next, hg, bytesOf_size, hlt']
        · cases h
      · cases h
    · cases h
  · cases h

/-! ## Comparisons with nil -/

noncomputable def aeqNil (E : Env) (t : TypeId) (x y : AV) : Option Bool :=
  match E.und t with
  | some (.slice _) => match x, y with
    | .slice .., .nilslice | .nilslice, .slice .. => some false
    | .nilslice, .nilslice => some true
    | _, _ => none
  | some (.map _ _) => match x, y with
    | .map _, .nilmap | .nilmap, .map _ => some false
    | .nilmap, .nilmap => some true
    | _, _ => none
  | some (.func _ _ _) => match x, y with
    | .func .., .nilFunc | .nilFunc, .func .. | .yield _, .nilFunc | .nilFunc, .yield _ => some false
    | .nilFunc, .nilFunc => some true
    | _, _ => none
  | some (.pointer _) => match x, y with
    | .ptr .., .nilptr | .nilptr, .ptr .. => some false
    | .nilptr, .nilptr => some true
    | _, _ => none
  | some (.interface _) => match x, y with
    | .iface .., .nilIface | .nilIface, .iface .. => some false
    | _, _ => none
  | _ => none
theorem inst_func {fn : Fn} {f c : List AV} {u : Value} (h : (AV.func fn f c).inst σ = some u) : ∃ fs cs, Ins σ f fs ∧ Ins σ c cs ∧ u = .func fn fs.toArray cs.toArray := by
  simp only [AV.inst] at h
  split at h
  · rename_i fs hf
    split at h
    · rename_i cs hc
      simp only [Option.some.injEq] at h
      exact ⟨fs, cs, instL_iff.1 hf, instL_iff.1 hc, h.symm⟩
    · cases h
  · cases h
theorem inst_yield {id : Nat} {u : Value} (h : (AV.yield id).inst σ = some u) : ∃ b κ, σ id = some (b, κ) ∧ u = .func (.yield b) #[] #[] := by
  simp only [AV.inst] at h
  split at h
  · rename_i x hx
    simp only [Option.some.injEq] at h
    exact ⟨x.1, x.2, hx, h.symm⟩
  · cases h
theorem inst_iface {t : TypeId} {v : AV} {u : Value} (h : (AV.iface t v).inst σ = some u) : ∃ x, v.inst σ = some x ∧ u = .iface t x := by
  simp only [AV.inst] at h
  split at h
  · rename_i x hx
    simp only [Option.some.injEq] at h
    exact ⟨x, hx, h.symm⟩
  · cases h
theorem equal_def (t : TypeId) (x y : Value) : Op.equal t x y = Op.equalIn (9999 + 1) t x y := rfl
theorem aeqNil_ok (hE : E.Ok) {t : TypeId} {x y : AV} {xu yu : Value} (hx : x.inst σ = some xu) (hy : y.inst σ = some yu) {b : Bool} (h : aeqNil E t x y = some b) (w : World) :
    (Op.equal t xu yu).run E.P w = .ok b w ∧ (∀ (op : BinOp) (o1 o2 : Operand), (eqGuard op t o1 o2 xu yu).run E.P w = .ok () w) ∧
    (binOp .eql t xu yu = (do pure (.bool (← Op.equal t xu yu))) ∧ binOp .neq t xu yu = (do pure (.bool (!(← Op.equal t xu yu))))) := by
  unfold aeqNil at h
  split at h
  all_goals first
    | (cases h; done)
    | (rename_i ht
       split at h
       all_goals first
         | (cases h; done)
         | (cases h
            first
              | (obtain ⟨_, _, _, _, rfl⟩ := inst_slice hx)
              | (obtain ⟨_, _, _, rfl⟩ := inst_map hx)
              | (obtain ⟨_, _, _, _, rfl⟩ := inst_func hx)
              | (obtain ⟨_, _, _, rfl⟩ := inst_yield hx)
              | (obtain ⟨_, _, _, rfl⟩ := inst_ptr hx)
              | (obtain ⟨_, _, rfl⟩ := inst_iface hx)
              | (simp only [AV.inst, Option.some.injEq] at hx; subst hx)
            first
              | (obtain ⟨_, _, _, _, rfl⟩ := inst_slice hy)
              | (obtain ⟨_, _, _, rfl⟩ := inst_map hy)
              | (obtain ⟨_, _, _, _, rfl⟩ := inst_func hy)
              | (obtain ⟨_, _, _, rfl⟩ := inst_yield hy)
              | (obtain ⟨_, _, _, rfl⟩ := inst_ptr hy)
              | (obtain ⟨_, _, rfl⟩ := inst_iface hy)
              | (simp only [AV.inst, Option.some.injEq] at hy; subst hy)
            refine ⟨?_, fun op o1 o2 => by cases op <;> simp [eqGuard], rfl, rfl⟩
            rw [equal_def]
            generalize 9999 = d
            simp [Op.equalIn, run_und hE ht]))

end
end Go.Proofs.YtliimmpokhmjeaaGreatDoor.Zev
