/-
  Maps.
-/
import Derived.Test.YtliimmpokhmjeaaGreatDoorZevF
import Derived.MapKept
namespace Go.Proofs.YtliimmpokhmjeaaGreatDoor.Zev
open Go
set_option linter.unusedSimpArgs false
set_option linter.unusedVariables false

theorem pureRun_bind {α β : Type} (P : Program) (s : Sem α) (f : α → Sem β) : pureRun P (s >>= f) = (pureRun P s).bind fun a => pureRun P (f a) := by
  induction s with
  | pure a => rfl
  | program k ih => exact ih P
  | mark m k ih => exact ih
  | load => rfl
  | store => rfl
  | new => rfl
  | shape => rfl
  | freeze => rfl
  | frozen => rfl
  | getObj => rfl
  | setObj => rfl
  | choose => rfl
  | sys => rfl
  | halt => rfl

theorem zrun_get {P : Program} {w : World} {r : Nat} {es : Array MapEntry} {clock : Nat} (hb : w.heap[r]? = some (.map es clock)) : (getObj r).run P w = .ok (.map es clock) w := by
  simp [getObj, Sem.run, hb]
theorem zrun_set {P : Program} {w : World} {r : Nat} {es : Array MapEntry} {clock : Nat} (o : Obj) (hb : w.heap[r]? = some (.map es clock)) : (setObj r o).run P w = .ok () { w with heap := w.heap.setIfInBounds r o } := by
  simp [setObj, Sem.run, hb]

/-! ## The place of a key -/

noncomputable def bareEntry (e : MapEntry) : MapEntry := { key := e.key, val := .bool false, born := 0 }

theorem findNow_bare (d : TypeDesc) (k : Value) : ∀ (es : List MapEntry) (i : Nat) (r : Option (Nat × Value)),
    Instr.findNow d k (es.map bareEntry) i = some r → ∃ r', Instr.findNow d k es i = some r' ∧ r'.map (·.1) = r.map (·.1) ∧ ∀ j v, r' = some (j, v) → i ≤ j ∧ (es[j - i]?).map (·.val) = some v
  | [], i, r, h => by
    simp only [List.map_nil, Instr.findNow, Option.some.injEq] at h
    subst h
    exact ⟨none, rfl, rfl, fun j v e => by cases e⟩
  | e :: es, i, r, h => by
    simp only [List.map_cons, Instr.findNow, bareEntry] at h
    simp only [Instr.findNow]
    cases hs : Instr.sameNow d k e.key with
    | none => rw [hs] at h; cases h
    | some b =>
      rw [hs] at h
      cases b with
      | true =>
        simp only [Option.some.injEq] at h
        subst h
        exact ⟨_, rfl, rfl, fun j v e' => by cases e'; exact ⟨Nat.le_refl _, by simp⟩⟩
      | false =>
        obtain ⟨r', h1, h2, h3⟩ := findNow_bare d k es (i + 1) r h
        refine ⟨r', h1, h2, fun j v e' => ?_⟩
        obtain ⟨h4, h5⟩ := h3 j v e'
        refine ⟨by omega, ?_⟩
        rw [show j - i = (j - (i + 1)) + 1 by omega, List.getElem?_cons_succ]
        exact h5
theorem findNow_none (d : TypeDesc) (k : Value) : ∀ (es : List MapEntry) (i : Nat), Instr.findNow d k (es.map bareEntry) i = none → Instr.findNow d k es i = none
  | [], i, h => by simp [Instr.findNow] at h
  | e :: es, i, h => by
    simp only [List.map_cons, Instr.findNow, bareEntry] at h
    simp only [Instr.findNow]
    cases hs : Instr.sameNow d k e.key with
    | none => rfl
    | some b =>
      rw [hs] at h
      cases b with
      | true => cases h
      | false => exact findNow_none d k es (i + 1) h
theorem findAsking_bare (P : Program) (kt : TypeId) (k : Value) : ∀ (es : List MapEntry) (i : Nat) (r : Option (Nat × Value)),
    pureRun P (Instr.findAsking kt k (es.map bareEntry) i) = some r →
      ∃ r', pureRun P (Instr.findAsking kt k es i) = some r' ∧ r'.map (·.1) = r.map (·.1) ∧ ∀ j v, r' = some (j, v) → i ≤ j ∧ (es[j - i]?).map (·.val) = some v
  | [], i, r, h => by
    have h' : some none = some r := h
    cases h'
    exact ⟨none, rfl, rfl, fun j v e => by cases e⟩
  | e :: es, i, r, h => by
    simp only [List.map_cons, Instr.findAsking, pureRun_bind] at h
    simp only [Instr.findAsking, pureRun_bind]
    have hb : (bareEntry e).key = e.key := rfl
    rw [hb] at h
    cases hs : pureRun P (Op.equal kt k e.key) with
    | none => rw [hs] at h; cases h
    | some b =>
      rw [hs] at h
      simp only [Option.bind_some] at h ⊢
      cases b with
      | true =>
        have h' : some (some (i, (bareEntry e).val)) = some r := h
        cases h'
        exact ⟨some (i, e.val), rfl, rfl, fun j v e' => by cases e'; exact ⟨Nat.le_refl _, by simp⟩⟩
      | false =>
        obtain ⟨r', h1, h2, h3⟩ := findAsking_bare P kt k es (i + 1) r h
        refine ⟨r', h1, h2, fun j v e' => ?_⟩
        obtain ⟨h4, h5⟩ := h3 j v e'
        refine ⟨by omega, ?_⟩
        rw [show j - i = (j - (i + 1)) + 1 by omega, List.getElem?_cons_succ]
        exact h5
theorem findKey_bare (P : Program) (kt : TypeId) (k : Value) (es : List MapEntry) (r : Option (Nat × Value)) (h : pureRun P (Instr.findKey kt k (es.map bareEntry)) = some r) :
    ∃ r', pureRun P (Instr.findKey kt k es) = some r' ∧ r'.map (·.1) = r.map (·.1) ∧ ∀ j v, r' = some (j, v) → (es[j]?).map (·.val) = some v := by
  simp only [Instr.findKey, pureRun_bind] at h ⊢
  cases hu : pureRun P (underlying kt) with
  | none => rw [hu] at h; cases h
  | some d =>
    rw [hu] at h
    simp only [Option.bind_some] at h ⊢
    cases hn : Instr.findNow d k (es.map bareEntry) 0 with
    | some r₀ =>
      rw [hn] at h
      have h' : some r₀ = some r := h
      cases h'
      obtain ⟨r', h1, h2, h3⟩ := findNow_bare d k es 0 _ hn
      rw [h1]
      exact ⟨r', rfl, h2, fun j v e => by have := (h3 j v e).2; simpa using this⟩
    | none =>
      rw [hn] at h
      rw [findNow_none d k es 0 hn]
      obtain ⟨r', h1, h2, h3⟩ := findAsking_bare P kt k es 0 _ h
      exact ⟨r', h1, h2, fun j v e => by have := (h3 j v e).2; simpa using this⟩

section
variable {E : Env} {σ : Sig} {S S' : ASt} {w : World} {Wr : Nat → Prop}

/-- The entries with their keys alone. -/
noncomputable def bareKeys : List (AV × AV × Nat) → Option (List MapEntry)
  | [] => some []
  | (k, _, _) :: l => match k.plain with
    | some v => match bareKeys l with
      | some m => some ({ key := v, val := .bool false, born := 0 } :: m)
      | none => none
    | none => none
theorem bareKeys_ok : ∀ {es : List (AV × AV × Nat)} {m es' : List MapEntry}, bareKeys es = some m → instE σ es = some es' → es'.map bareEntry = m
  | [], m, es', h, h' => by
    simp only [bareKeys, Option.some.injEq] at h
    simp only [instE, Option.some.injEq] at h'
    subst h h'
    rfl
  | (k, v, b) :: l, m, es', h, h' => by
    simp only [bareKeys] at h
    simp only [instE] at h'
    split at h
    · rename_i kv hk
      rw [AV.plain_inst hk σ] at h'
      split at h
      · rename_i m' hm
        simp only at h'
        split at h'
        · rename_i vv hv
          split at h'
          · rename_i l' hl
            cases h; cases h'
            simp [bareEntry, bareKeys_ok hm hl]
          · cases h'
        · cases h'
      · cases h
    · cases h
theorem instE_get : ∀ {es : List (AV × AV × Nat)} {es' : List MapEntry}, instE σ es = some es' → ∀ {i : Nat} {x : AV × AV × Nat}, es[i]? = some x →
    ∃ e, es'[i]? = some e ∧ x.1.inst σ = some e.key ∧ x.2.1.inst σ = some e.val ∧ e.born = x.2.2
  | [], _, _, i, x, h => by simp at h
  | (k, v, b) :: l, es', h', i, x, h => by
    simp only [instE] at h'
    split at h'
    · rename_i kv hk
      split at h'
      · rename_i vv hv
        split at h'
        · rename_i l' hl
          cases h'
          cases i with
          | zero => simp only [List.getElem?_cons_zero, Option.some.injEq] at h; subst h; exact ⟨_, rfl, hk, hv, rfl⟩
          | succ i => simp only [List.getElem?_cons_succ] at h ⊢; exact instE_get hl h
        · cases h'
      · cases h'
    · cases h'
theorem instE_len : ∀ {es : List (AV × AV × Nat)} {es' : List MapEntry}, instE σ es = some es' → es'.length = es.length
  | [], es', h => by simp only [instE, Option.some.injEq] at h; subst h; rfl
  | (k, v, b) :: l, es', h' => by
    simp only [instE] at h'
    split at h'
    · split at h'
      · split at h'
        · rename_i l' hl
          cases h'
          simp [instE_len hl]
        · cases h'
      · cases h'
    · cases h'
theorem instE_append : ∀ {es fs : List (AV × AV × Nat)} {es' fs' : List MapEntry}, instE σ es = some es' → instE σ fs = some fs' → instE σ (es ++ fs) = some (es' ++ fs')
  | [], fs, es', fs', h, h2 => by simp only [instE, Option.some.injEq] at h; subst h; exact h2
  | (k, v, b) :: l, fs, es', fs', h', h2 => by
    simp only [instE] at h'
    split at h'
    · rename_i kv hk
      split at h'
      · rename_i vv hv
        split at h'
        · rename_i l' hl
          cases h'
          simp [instE, hk, hv, instE_append hl h2]
        · cases h'
      · cases h'
    · cases h'
theorem instE_set : ∀ {es : List (AV × AV × Nat)} {es' : List MapEntry}, instE σ es = some es' → ∀ {k v : AV} {b : Nat} {kv vv : Value}, k.inst σ = some kv → v.inst σ = some vv →
    ∀ i, instE σ (es.set i (k, v, b)) = some (es'.set i { key := kv, val := vv, born := b })
  | [], es', h, k, v, b, kv, vv, _, _, i => by simp only [instE, Option.some.injEq] at h; subst h; rfl
  | (k0, v0, b0) :: l, es', h', k, v, b, kv, vv, hk, hv, i => by
    simp only [instE] at h'
    split at h'
    · rename_i kv0 hk0
      split at h'
      · rename_i vv0 hv0
        split at h'
        · rename_i l' hl
          cases h'
          cases i with
          | zero => simp [instE, hk, hv, hl]
          | succ i => simp [instE, hk0, hv0, instE_set hl hk hv i]
        · cases h'
      · cases h'
    · cases h'

theorem get_map (hS : S.rel E.P σ w Wr) {id : Nat} {es : List (AV × AV × Nat)} {c : Nat} (h : S.heap.get id = some (.map es c)) :
    ∃ b κ es', σ id = some (b, κ) ∧ w.heap[b]? = some (.map es'.toArray c) ∧ instE σ es = some es' := by
  obtain ⟨b, κ, o, h1, h2, h3⟩ := hS.at_ id _ h
  obtain ⟨es', hi, ho⟩ := h3
  subst ho
  exact ⟨b, κ, es', h1, h2, hi⟩
theorem inst_map {id : Nat} {u : Value} (h : (AV.map id).inst σ = some u) : ∃ b κ, σ id = some (b, κ) ∧ u = .map (some b) := by
  simp only [AV.inst] at h
  split at h
  · rename_i x hx
    simp only [Option.some.injEq] at h
    exact ⟨x.1, x.2, hx, h.symm⟩
  · cases h

/-- Looks a key up among entries: its place, if there is one. -/
noncomputable def aplace (E : Env) (kt : TypeId) (kv : Value) (es : List (AV × AV × Nat)) : Option (Option Nat) :=
  match bareKeys es with
  | some m => match pureRun E.P (Instr.findKey kt kv m) with
    | some (some p) => some (some p.1)
    | some none => some none
    | none => none
  | none => none
theorem aplace_none {kt : TypeId} {kv : Value} {es : List (AV × AV × Nat)} {es' : List MapEntry} (hi : instE σ es = some es') (h : aplace E kt kv es = some none) (w : World) :
    (Instr.findKey kt kv es').run E.P w = .ok none w := by
  unfold aplace at h
  split at h
  · rename_i m hm
    split at h
    · cases h
    · rename_i hr
      rw [← bareKeys_ok hm hi] at hr
      obtain ⟨r', h1, h2, h3⟩ := findKey_bare E.P kt kv es' none hr
      cases r' with
      | none => exact pureRun_run E.P _ _ h1 w
      | some p => cases h2
    · cases h
  · cases h
theorem aplace_some {kt : TypeId} {kv : Value} {es : List (AV × AV × Nat)} {es' : List MapEntry} (hi : instE σ es = some es') {i : Nat} (h : aplace E kt kv es = some (some i)) {x : AV × AV × Nat} (hx : es[i]? = some x) :
    ∃ e, es'[i]? = some e ∧ x.1.inst σ = some e.key ∧ x.2.1.inst σ = some e.val ∧ e.born = x.2.2 ∧ ∀ w, (Instr.findKey kt kv es').run E.P w = .ok (some (i, e.val)) w := by
  obtain ⟨e, e1, e2, e3, e4⟩ := instE_get hi hx
  unfold aplace at h
  split at h
  · rename_i m hm
    split at h
    · rename_i p hr
      cases h
      rw [← bareKeys_ok hm hi] at hr
      obtain ⟨r', h1, h2, h3⟩ := findKey_bare E.P kt kv es' _ hr
      cases r' with
      | none => cases h2
      | some q =>
        obtain ⟨j, v⟩ := q
        simp only [Option.map_some, Option.some.injEq] at h2
        subst h2
        have h4 := h3 p.1 v rfl
        rw [e1] at h4
        simp only [Option.map_some, Option.some.injEq] at h4
        subst h4
        exact ⟨e, e1, e2, e3, e4, fun w => pureRun_run E.P _ _ h1 w⟩
    · cases h
    · cases h
  · cases h

noncomputable def akeyOk (E : Env) (empty : Bool) (kt : TypeId) (kv : Value) : Bool :=
  match pureRun E.P (Instr.checkKey empty 10000 kt kv) with
  | some _ => true
  | none => false
theorem akeyOk_ok {b : Bool} {kt : TypeId} {kv : Value} (h : akeyOk E b kt kv = true) (w : World) : (Instr.checkKey b 10000 kt kv).run E.P w = .ok () w := by
  unfold akeyOk at h
  split at h
  · rename_i u hu; exact pureRun_run E.P _ _ hu w
  · cases h

noncomputable def alookup (E : Env) (S : ASt) (t : TypeId) (m k : AV) (ok : Bool) : Option AV :=
  match E.und t with
  | some (.map kt et) => match k.plain with
    | some kv =>
      match (match m with | .nilmap => some [] | .map id => (match S.heap.get id with | some (.map es _) => some es | _ => none) | _ => none) with
      | some es => match akeyOk E es.isEmpty kt kv with
        | true => match aplace E kt kv es with
          | some (some i) => match es[i]? with
            | some x => some (match ok with | true => .tuple [x.2.1, .bool true] | false => x.2.1)
            | none => none
          | some none => match E.zero et with
            | some z => some (match ok with | true => .tuple [z, .bool false] | false => z)
            | none => none
          | none => none
        | false => none
      | none => none
    | none => none
  | _ => none
theorem lookup_run (hE : E.Ok) {t kt et : TypeId} (ht : E.und t = some (.map kt et)) {mu kv : Value} {es' : List MapEntry} {ok : Bool}
    (hmu : (mu = .map none ∧ es' = []) ∨ ∃ b c0, mu = .map (some b) ∧ w.heap[b]? = some (.map es'.toArray c0)) (hck : (Instr.checkKey es'.toArray.isEmpty 10000 kt kv).run E.P w = .ok () w) {r : Option (Nat × Value)}
    (hf : (Instr.findKey kt kv es').run E.P w = .ok r w) :
    (Instr.lookup t mu kv ok).run E.P w = ((match r with | some (_, v) => pure (v, true) | none => do pure (← zeroValue et, false) : Sem (Value × Bool)).run E.P w).andThen fun p w' => .ok (if ok then .tuple #[p.1, .bool p.2] else p.1) w' := by
  rcases hmu with ⟨rfl, rfl⟩ | ⟨b, c0, rfl, hb⟩
  · have hck' : (Instr.checkKey true 10000 kt kv).run E.P w = .ok () w := hck
    cases r <;> simp [Instr.lookup, run_und hE ht, hck', hf, Result.andThen] <;> (repeat' split) <;> simp_all
  · have hck' : (Instr.checkKey es'.isEmpty 10000 kt kv).run E.P w = .ok () w := by simpa using hck
    cases r <;> simp [Instr.lookup, run_und hE ht, zrun_get hb, hck', hf, Result.andThen] <;> (repeat' split) <;> simp_all
theorem alookup_ok (hE : E.Ok) (hS : S.rel E.P σ w Wr) {t : TypeId} {m k v : AV} {ok : Bool} {mu ku : Value} (hm : m.inst σ = some mu) (hk : k.inst σ = some ku) (h : alookup E S t m k ok = some v) :
    RPost σ w ((Instr.lookup t mu ku ok).run E.P w) v := by
  unfold alookup at h
  split at h
  · rename_i kt et ht
    split at h
    · rename_i kv hkv
      rw [AV.plain_inst hkv σ] at hk
      obtain rfl : kv = ku := Option.some.inj hk
      split at h
      · rename_i es hes
        -- the entries in memory
        have hmem : ∃ es' : List MapEntry, instE σ es = some es' ∧ ((mu = .map none ∧ es' = []) ∨ ∃ b c0, mu = .map (some b) ∧ w.heap[b]? = some (.map es'.toArray c0)) := by
          split at hes
          · cases hes
            simp only [AV.inst, Option.some.injEq] at hm
            exact ⟨[], rfl, .inl ⟨hm.symm, rfl⟩⟩
          · rename_i id
            split at hes
            · rename_i es0 c0 hb
              cases hes
              obtain ⟨b, κ, es', h1, h2, h3⟩ := get_map hS hb
              obtain ⟨b', κ', h1', h4⟩ := inst_map hm
              rw [h1] at h1'; cases h1'
              exact ⟨es', h3, .inr ⟨b, c0, h4, h2⟩⟩
            · cases hes
          · cases hes
        obtain ⟨es', hi, hmu⟩ := hmem
        have hlen := instE_len hi
        have hemp : es'.toArray.isEmpty = es.isEmpty := by
          cases es <;> cases es' <;> simp_all
        split at h
        · rename_i hko
          have hck := akeyOk_ok hko w
          split at h
          · rename_i i hp
            split at h
            · rename_i x hx
              obtain ⟨e, _, _, e3, _, e5⟩ := aplace_some hi hp hx
              cases h
              have hfin : (Instr.lookup t mu kv ok).run E.P w = .ok (if ok then .tuple #[e.val, .bool true] else e.val) w := by
                rw [lookup_run hE ht hmu (by rw [hemp]; exact hck) (e5 w)]
                simp
              refine .same hS hfin ?_
              cases ok with
              | true => simp [AV.inst, instL, e3]
              | false => simpa using e3
            · cases h
          · rename_i hp
            split at h
            · rename_i z hz
              cases h
              obtain ⟨zv, _, _, _, hzi, hr⟩ := run_zero (σ := σ) hE hz
              have e5 := aplace_none hi hp w
              have hfin : (Instr.lookup t mu kv ok).run E.P w = .ok (if ok then .tuple #[zv, .bool false] else zv) w := by
                rw [lookup_run hE ht hmu (by rw [hemp]; exact hck) e5]
                simp [hr]
              refine .same hS hfin ?_
              cases ok with
              | true => simp [AV.inst, instL, hzi]
              | false => simpa using hzi
            · cases h
          · cases h
        · cases h
      · cases h
    · cases h
  · cases h

noncomputable def amakeMap (S : ASt) : Option (AV × ASt) :=
  match anew S (.map [] 0) with
  | some S' => some (.map S.next, S')
  | none => none
theorem amakeMap_ok (hS : S.rel E.P σ w Wr) {v : AV} (h : amakeMap S = some (v, S')) :
    ∃ σ', v.inst σ' = some (.map (some w.heap.size)) ∧ Post E.P σ S w Wr σ' S' (w.alloc (.map #[] 0)) := by
  unfold amakeMap at h
  split at h
  · rename_i S₁ hn
    cases h
    obtain ⟨hp, hs⟩ := anew_ok hS hn (κ := 0) (o := .map #[] 0) (w' := w.alloc (.map #[] 0)) ⟨[], rfl, rfl⟩ rfl
    exact ⟨_, by simp [AV.inst, hs], hp⟩
  · cases h

noncomputable def aputMap (S : ASt) (id : Nat) (es : List (AV × AV × Nat)) (c : Nat) : Option ASt :=
  match S.limit id && Nat.blt id maxIds with
  | true => some { heap := Trie.put (some (.map es c)) depth S.heap id, next := S.next, limit := S.limit }
  | false => none
theorem aputMap_ok (hS : S.rel E.P σ w Wr) {id c0 c b κ : Nat} {es0 es : List (AV × AV × Nat)} {es0' es' : List MapEntry} (hb : S.heap.get id = some (.map es0 c0)) (hs : σ id = some (b, κ))
    (hw : w.heap[b]? = some (.map es0'.toArray c0)) (hi : instE σ es = some es') (h : aputMap S id es c = some S') :
    ∃ w', (setObj b (.map es'.toArray c)).run E.P w = .ok () w' ∧ Post E.P σ S w Wr σ S' w' := by
  unfold aputMap at h
  split at h
  · rename_i hc
    simp only [Bool.and_eq_true] at hc
    cases h
    refine ⟨_, zrun_set (P := E.P) _ hw, ?_⟩
    exact post_set hS hb hc.1 hs (o := .map es'.toArray c) ⟨es', hi, rfl⟩ (lt_of_blt hc.2) rfl
  · cases h

noncomputable def amapUpdate (E : Env) (S : ASt) (t : TypeId) (m k v : AV) : Option ASt :=
  match E.und t with
  | some (.map kt _) => match k.plain with
    | some kv => match m with
      | .map id => match S.heap.get id with
        | some (.map es c) => match akeyOk E false kt kv with
          | true => match aplace E kt kv es with
            | some (some i) => match es[i]? with
              | some x => match x.1.plain with
                | some ov => match Instr.sameBits 10000 ov kv with
                  | true => aputMap S id (es.set i (k, v, x.2.2)) c
                  | false => none
                | none => none
              | none => none
            | some none => aputMap S id (es ++ [(k, v, c)]) (c + 1)
            | none => none
          | false => none
        | _ => none
      | _ => none
    | none => none
  | _ => none
theorem modify_set (es : List MapEntry) (i : Nat) (e : MapEntry) (f : MapEntry → MapEntry) (h : es[i]? = some e) : es.toArray.modify i f = (es.set i (f e)).toArray := by
  apply Array.ext'
  simp only [Array.toList_modify]
  obtain ⟨hlt, he⟩ := List.getElem?_eq_some_iff.1 h
  apply List.ext_getElem?
  intro j
  rw [List.getElem?_modify, List.getElem?_set]
  by_cases hj : i = j
  · subst hj; simp [hlt, he]
  · simp [hj]
theorem amapUpdate_ok (hE : E.Ok) (hS : S.rel E.P σ w Wr) {t : TypeId} {m k v : AV} {mu ku vu : Value} (hm : m.inst σ = some mu) (hk : k.inst σ = some ku) (hv : v.inst σ = some vu)
    (h : amapUpdate E S t m k v = some S') : UPost E σ S w Wr ((Instr.mapUpdate t mu ku vu).run E.P w) S' := by
  unfold amapUpdate at h
  split at h
  · rename_i kt et ht
    split at h
    · rename_i kv hkv
      have hk' := AV.plain_inst hkv σ
      rw [hk'] at hk
      obtain rfl : kv = ku := Option.some.inj hk
      split at h
      · rename_i id
        split at h
        · rename_i es c hb
          obtain ⟨b, κ, es', h1, h2, hi⟩ := get_map hS hb
          obtain ⟨b', κ', h1', rfl⟩ := inst_map hm
          rw [h1] at h1'; cases h1'
          split at h
          · rename_i hko
            have hck := akeyOk_ok hko w
            split at h
            · rename_i i hp
              split at h
              · rename_i x hx
                obtain ⟨e, e1, e2, e3, e4, e5⟩ := aplace_some hi hp hx
                split at h
                · rename_i ov hov
                  rw [AV.plain_inst hov σ] at e2
                  cases e2
                  split at h
                  · rename_i hsb
                    obtain ⟨w', r1, r2⟩ := aputMap_ok hS hb h1 h2 (instE_set hi hk' hv i) h
                    refine ⟨σ, w', ?_, r2⟩
                    have hst : (Instr.keyThatStays (((es'.toArray[i]?).map (·.key)).getD kv) kv).run E.P w = .ok kv w := by
                      simp [e1, Instr.keyThatStays, hsb]
                    have hmod := modify_set es' i e (fun e => { e with key := kv, val := vu }) e1
                    have e4' : ({ e with key := kv, val := vu } : MapEntry) = { key := kv, val := vu, born := x.2.2 } := by cases e; simp_all
                    rw [e4'] at hmod
                    simp only [Instr.mapUpdate, Sem.run_bind, run_und hE ht, Result.andThen_ok, zrun_get h2, hck, e5, hst]
                    rw [hmod]
                    exact r1
                  · cases h
                · cases h
              · cases h
            · rename_i hp
              have e5 := aplace_none hi hp w
              obtain ⟨w', r1, r2⟩ := aputMap_ok hS hb h1 h2 (instE_append hi (show instE σ [(k, v, c)] = some [{ key := kv, val := vu, born := c }] by simp [instE, hk', hv])) h
              refine ⟨σ, w', ?_, r2⟩
              simp only [Instr.mapUpdate, Sem.run_bind, run_und hE ht, Result.andThen_ok, zrun_get h2, hck, e5]
              simpa using r1
            · cases h
          · cases h
        · cases h
      · cases h
    · cases h
  · cases h

noncomputable def amapEntry (E : Env) (S : ASt) (t : TypeId) (m k : AV) : Option (AV × ASt) :=
  match E.und t with
  | some (.map kt et) => match k.plain with
    | some kv => match m with
      | .map id => match S.heap.get id with
        | some (.map es c) => match akeyOk E false kt kv with
          | true => match aplace E kt kv es with
            | some (some i) => match es[i]? with
              | some x => match x.1.plain with
                | some ov => match Instr.sameBits 10000 ov kv with
                  | true => match aputMap S id (es.set i (k, x.2.1, x.2.2)) c with
                    | some S' => some (.tuple [x.2.1, .int .i64 (.ofNat x.2.2)], S')
                    | none => none
                  | false => none
                | none => none
              | none => none
            | some none => match E.zero et with
              | some z => match aputMap S id (es ++ [(k, z, c)]) (c + 1) with
                | some S' => some (.tuple [z, .int .i64 (.ofNat c)], S')
                | none => none
              | none => none
            | none => none
          | false => none
        | _ => none
      | _ => none
    | none => none
  | _ => none
theorem amapEntry_ok (hE : E.Ok) (hS : S.rel E.P σ w Wr) {t : TypeId} {m k v : AV} {mu ku : Value} (hm : m.inst σ = some mu) (hk : k.inst σ = some ku)
    (h : amapEntry E S t m k = some (v, S')) : VPost E σ S w Wr ((Instr.mapEntry t mu ku).run E.P w) v S' := by
  unfold amapEntry at h
  split at h
  · rename_i kt et ht
    split at h
    · rename_i kv hkv
      have hk' := AV.plain_inst hkv σ
      rw [hk'] at hk
      obtain rfl : kv = ku := Option.some.inj hk
      split at h
      · rename_i id
        split at h
        · rename_i es c hb
          obtain ⟨b, κ, es', h1, h2, hi⟩ := get_map hS hb
          obtain ⟨b', κ', h1', rfl⟩ := inst_map hm
          rw [h1] at h1'; cases h1'
          split at h
          · rename_i hko
            have hck := akeyOk_ok hko w
            split at h
            · rename_i i hp
              split at h
              · rename_i x hx
                obtain ⟨e, e1, e2, e3, e4, e5⟩ := aplace_some hi hp hx
                split at h
                · rename_i ov hov
                  rw [AV.plain_inst hov σ] at e2
                  cases e2
                  split at h
                  · rename_i hsb
                    split at h
                    · rename_i S₁ hput
                      cases h
                      obtain ⟨w', r1, r2⟩ := aputMap_ok hS hb h1 h2 (instE_set hi hk' e3 i) hput
                      refine ⟨σ, .tuple #[e.val, goInt e.born], w', ?_, by simp [AV.inst, instL, e3, e4, goInt], r2⟩
                      have hst : (Instr.keyThatStays (((es'.toArray[i]?).map (·.key)).getD kv) kv).run E.P w = .ok kv w := by
                        simp [e1, Instr.keyThatStays, hsb]
                      have hmod := modify_set es' i e (fun e => { e with key := kv }) e1
                      have e4' : ({ e with key := kv } : MapEntry) = { key := kv, val := e.val, born := x.2.2 } := by cases e; simp_all
                      rw [e4'] at hmod
                      simp only [Instr.mapEntry, Sem.run_bind, run_und hE ht, Result.andThen_ok, zrun_get h2, hck, e5, hst]
                      rw [hmod]
                      simp [r1, e1]
                    · cases h
                  · cases h
                · cases h
              · cases h
            · rename_i hp
              have e5 := aplace_none hi hp w
              split at h
              · rename_i z hz
                obtain ⟨zv, _, _, _, hzi, hr⟩ := run_zero (σ := σ) hE hz
                split at h
                · rename_i S₁ hput
                  cases h
                  obtain ⟨w', r1, r2⟩ := aputMap_ok hS hb h1 h2 (instE_append hi (show instE σ [(k, z, c)] = some [{ key := kv, val := zv, born := c }] by simp [instE, hk', hzi])) hput
                  refine ⟨σ, .tuple #[zv, goInt c], w', ?_, by simp [AV.inst, instL, hzi, goInt], r2⟩
                  simp only [Instr.mapEntry, Sem.run_bind, run_und hE ht, Result.andThen_ok, zrun_get h2, hck, e5, hr]
                  simp [r1]
                · cases h
              · cases h
            · cases h
          · cases h
        · cases h
      · cases h
    · cases h
  · cases h

noncomputable def afindBorn (b : Nat) : List (AV × AV × Nat) → Nat → Option (Nat × AV)
  | [], _ => none
  | x :: l, i => match Nat.beq x.2.2 b with
    | true => some (i, x.1)
    | false => afindBorn b l (i + 1)
theorem afindBorn_ok {b : Nat} : ∀ {es : List (AV × AV × Nat)} {es' : List MapEntry} (n : Nat) {i : Nat} {k : AV}, instE σ es = some es' → afindBorn b es n = some (i, k) →
    n ≤ i ∧ es'.findIdx? (fun e => (e.born : Int) == (b : Int)) = some (i - n) ∧ ∃ x, es[i - n]? = some x ∧ x.1 = k ∧ x.2.2 = b
  | [], es', n, i, k, hi, h => by cases h
  | (k0, v0, b0) :: l, es', n, i, k, hi, h => by
    simp only [instE] at hi
    split at hi
    · rename_i kv hk
      split at hi
      · rename_i vv hv
        split at hi
        · rename_i l' hl
          cases hi
          simp only [afindBorn] at h
          split at h
          · rename_i hb
            cases h
            have hb' := Nat.eq_of_beq_eq_true hb
            subst hb'
            exact ⟨Nat.le_refl _, by simp [List.findIdx?_cons], (k0, v0, b0), by simp, rfl, rfl⟩
          · rename_i hb
            have hb' := Nat.ne_of_beq_eq_false hb
            obtain ⟨h1, h2, x, h3, h4⟩ := afindBorn_ok (n + 1) hl h
            refine ⟨by omega, ?_, x, ?_, h4⟩
            · have : ((b0 : Int) == (b : Int)) = false := by simp; omega
              simp [List.findIdx?_cons, this, h2]
              omega
            · rw [show i - n = (i - (n + 1)) + 1 by omega, List.getElem?_cons_succ]; exact h3
        · cases hi
      · cases hi
    · cases hi

noncomputable def aentryStore (S : ASt) (m s v : AV) : Option ASt :=
  match m with
  | .map id => match S.heap.get id with
    | some (.map es c) => match s with
      | .int _ (.ofNat b) => match afindBorn b es 0 with
        | some (i, k) => aputMap S id (es.set i (k, v, b)) c
        | none => none
      | _ => none
    | _ => none
  | _ => none
theorem aentryStore_ok (hS : S.rel E.P σ w Wr) {t : TypeId} {m s v : AV} {mu su vu : Value} (hm : m.inst σ = some mu) (hs : s.inst σ = some su) (hv : v.inst σ = some vu)
    (h : aentryStore S m s v = some S') : UPost E σ S w Wr ((Instr.entryStore t mu su vu).run E.P w) S' := by
  unfold aentryStore at h
  split at h
  · rename_i id
    split at h
    · rename_i es c hb
      obtain ⟨b, κ, es', h1, h2, hi⟩ := get_map hS hb
      obtain ⟨b', κ', h1', rfl⟩ := inst_map hm
      rw [h1] at h1'; cases h1'
      split at h
      · rename_i kk n
        cases inst_int hs
        split at h
        · rename_i i k hf
          obtain ⟨_, f2, x, f3, f4, f5⟩ := afindBorn_ok (σ := σ) 0 hi hf
          simp only [Nat.sub_zero] at f2 f3
          obtain ⟨e, e1, e2, e3, e4⟩ := instE_get hi f3
          rw [f4] at e2
          obtain ⟨w', r1, r2⟩ := aputMap_ok hS hb h1 h2 (instE_set hi e2 hv i) h
          refine ⟨σ, w', ?_, r2⟩
          have hmod := modify_set es' i e (fun e => { e with val := vu }) e1
          have e4' : ({ e with val := vu } : MapEntry) = { key := e.key, val := vu, born := n } := by cases e; simp_all
          rw [e4'] at hmod
          simp only [Instr.entryStore, Sem.run_bind, zrun_get h2, Result.andThen_ok, asInt, asIntOf, Sem.run_pure, List.findIdx?_toArray, f2, Int.ofNat_eq_natCast]
          rw [hmod]
          exact r1
        · cases h
      · cases h
    · cases h
  · cases h

end
end Go.Proofs.YtliimmpokhmjeaaGreatDoor.Zev
