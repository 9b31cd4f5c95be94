/-
  Calls, to any depth.
-/
import Derived.Test.YtliimmpokhmjeaaGreatDoorZevN
namespace Go.Proofs.YtliimmpokhmjeaaGreatDoor.Zev
open Go
set_option linter.unusedSimpArgs false
set_option linter.unusedVariables false

/-! ## Values without addresses that are the same -/

noncomputable def sameNats : List Nat → List Nat → Bool
  | [], [] => true
  | a :: l, b :: m => match Nat.beq a b with
    | true => sameNats l m
    | false => false
  | _, _ => false
theorem sameNats_ok : ∀ {l m : List Nat}, sameNats l m = true → l = m
  | [], [], _ => rfl
  | a :: l, b :: m, h => by
    simp only [sameNats] at h
    split at h
    · rename_i hb
      rw [Nat.eq_of_beq_eq_true hb, sameNats_ok h]
    · cases h
  | [], _ :: _, h => by simp [sameNats] at h
  | _ :: _, [], h => by simp [sameNats] at h
noncomputable def sameInt : Int → Int → Bool
  | .ofNat a, .ofNat b => Nat.beq a b
  | .negSucc a, .negSucc b => Nat.beq a b
  | _, _ => false
theorem sameInt_ok : ∀ {a b : Int}, sameInt a b = true → a = b
  | .ofNat a, .ofNat b, h => by rw [Nat.eq_of_beq_eq_true (show Nat.beq a b = true from h)]
  | .negSucc a, .negSucc b, h => by rw [Nat.eq_of_beq_eq_true (show Nat.beq a b = true from h)]
  | .ofNat a, .negSucc b, h => by cases h
  | .negSucc a, .ofNat b, h => by cases h
noncomputable def sameKind (a b : IntKind) : Bool := match decEq a b with
  | isTrue _ => true
  | isFalse _ => false
theorem sameKind_ok {a b : IntKind} (h : sameKind a b = true) : a = b := by
  unfold sameKind at h
  split at h
  · assumption
  · cases h

mutual
noncomputable def sameAV : AV → AV → Bool
  | .bool a, .bool b => match a with
    | true => b
    | false => !b
  | .int j a, .int k b => match sameKind j k with
    | true => sameInt a b
    | false => false
  | .str a, .str b => sameNats a b
  | .nilptr, .nilptr => true
  | .nilslice, .nilslice => true
  | .nilmap, .nilmap => true
  | .nilFunc, .nilFunc => true
  | .nilIface, .nilIface => true
  | .iface t a, .iface u b => match Nat.beq t u with
    | true => sameAV a b
    | false => false
  | .agg a, .agg b => sameAVs a b
  | .tuple a, .tuple b => sameAVs a b
  | .ptr a b, .ptr c d => match Nat.beq a c with
    | true => Nat.beq b d
    | false => false
  | .slice a b c d e, .slice a' b' c' d' e' => match Nat.beq a a' && (Nat.beq b b' && (Nat.beq c c' && Nat.beq d d')) with
    | true => match e with
      | true => e'
      | false => !e'
    | false => false
  | .map a, .map b => Nat.beq a b
  | _, _ => false
noncomputable def sameAVs : List AV → List AV → Bool
  | [], [] => true
  | a :: l, b :: m => match sameAV a b with
    | true => sameAVs l m
    | false => false
  | _, _ => false
end
mutual
theorem sameAV_ok : ∀ {a b : AV}, sameAV a b = true → a = b
  | .bool a, b, h => by
    cases b <;> simp only [sameAV] at h <;> first
      | (cases h; done)
      | (cases a <;> simp_all)
  | .int j a, b, h => by
    cases b <;> simp only [sameAV] at h <;> first
      | (cases h; done)
      | (split at h
         · rename_i hk
           rw [sameKind_ok hk, sameInt_ok h]
         · cases h)
  | .str a, b, h => by
    cases b <;> simp only [sameAV] at h <;> first
      | (cases h; done)
      | rw [sameNats_ok h]
  | .nilptr, b, h => by cases b <;> simp only [sameAV] at h <;> first | (cases h; done) | rfl
  | .nilslice, b, h => by cases b <;> simp only [sameAV] at h <;> first | (cases h; done) | rfl
  | .nilmap, b, h => by cases b <;> simp only [sameAV] at h <;> first | (cases h; done) | rfl
  | .nilFunc, b, h => by cases b <;> simp only [sameAV] at h <;> first | (cases h; done) | rfl
  | .nilIface, b, h => by cases b <;> simp only [sameAV] at h <;> first | (cases h; done) | rfl
  | .iface t a, b, h => by
    cases b <;> simp only [sameAV] at h <;> first
      | (cases h; done)
      | (split at h
         · rename_i hk
           rw [Nat.eq_of_beq_eq_true hk, sameAV_ok h]
         · cases h)
  | .agg a, b, h => by
    cases b <;> simp only [sameAV] at h <;> first
      | (cases h; done)
      | rw [sameAVs_ok h]
  | .tuple a, b, h => by
    cases b <;> simp only [sameAV] at h <;> first
      | (cases h; done)
      | rw [sameAVs_ok h]
  | .ptr i o, b, h => by
    cases b <;> simp only [sameAV] at h <;> first
      | (cases h; done)
      | (split at h
         · rename_i hk
           rw [Nat.eq_of_beq_eq_true hk, Nat.eq_of_beq_eq_true h]
         · cases h)
  | .slice i o l c e, b, h => by
    cases b <;> simp only [sameAV] at h <;> first
      | (cases h; done)
      | (split at h
         · rename_i hk
           simp only [Bool.and_eq_true] at hk
           obtain ⟨h1, h2, h3, h4⟩ := hk
           rw [Nat.eq_of_beq_eq_true h1, Nat.eq_of_beq_eq_true h2, Nat.eq_of_beq_eq_true h3, Nat.eq_of_beq_eq_true h4]
           cases e <;> simp_all
         · cases h)
  | .map i, b, h => by
    cases b <;> simp only [sameAV] at h <;> first
      | (cases h; done)
      | rw [Nat.eq_of_beq_eq_true h]
  | .func _ _ _, b, h => by simp only [sameAV] at h; cases h
  | .yield _, b, h => by simp only [sameAV] at h; cases h
theorem sameAVs_ok : ∀ {a b : List AV}, sameAVs a b = true → a = b
  | [], [], _ => rfl
  | a :: l, b :: m, h => by
    simp only [sameAVs] at h
    split at h
    · rename_i hk
      rw [sameAV_ok hk, sameAVs_ok h]
    · cases h
  | [], _ :: _, h => by simp [sameAVs] at h
  | _ :: _, [], h => by simp [sameAVs] at h
end

/-! ## A call -/

noncomputable def allSame (v : AV) : List (AE × ASt) → Bool
  | [] => true
  | (.ret u, _) :: l => match sameAV u v with
    | true => allSame v l
    | false => false
  | (.panic _, _) :: _ => false
noncomputable def mergePure : List (AE × ASt) → Option AV
  | (.ret v, _) :: l => match v.plain with
    | some _ => match allSame v l with
      | true => some v
      | false => none
    | none => none
  | _ => none
theorem allSame_ok {v : AV} : ∀ {l : List (AE × ASt)}, allSame v l = true → ∀ x ∈ l, x.1 = .ret v
  | [], _, x, hx => by cases hx
  | (.ret u, S) :: l, h, x, hx => by
    simp only [allSame] at h
    split at h
    · rename_i hs
      cases hx with
      | head => rw [sameAV_ok hs]
      | tail _ hm => exact allSame_ok h x hm
    · cases h
  | (.panic u, S) :: l, h, x, hx => by simp [allSame] at h
theorem mergePure_ok {l : List (AE × ASt)} {v : AV} (h : mergePure l = some v) : (∃ p, v.plain = some p) ∧ ∀ x ∈ l, x.1 = .ret v := by
  unfold mergePure at h
  split at h
  · rename_i v₁ S₁ l₁
    split at h
    · rename_i p hp
      split at h
      · rename_i hs
        cases h
        refine ⟨⟨p, hp⟩, fun x hx => ?_⟩
        cases hx with
        | head => rfl
        | tail _ hm => exact allSame_ok hs x hm
      · cases h
    · cases h
  · cases h

noncomputable def acallE (E : Env) (L : CallE) (V : Ev) (f : FuncId) (args : List AV) (S : ASt) : Option (AE × ASt) :=
  match L f args S with
  | some r => some r
  | none => match E.fn f with
    | some fn => match fn.body with
      | some c => match aframe args fn.ntmps with
        | some fr => match E.pure f with
          | true => match acode E V.call V.round false (mkOthers E V false) c fr (setLimit S (fromN S.next [])) with
            | some outs => match joinM (leave1 E V (mkOthers E V false) fn) outs with
              | some rs => match mergePure rs with
                | some v => some (.ret v, S)
                | none => match rs with
                  | [(r, S')] => some (r, setLimit S' S.limit)
                  | _ => none
              | none => none
            | none => none
          | false => match acode E V.call V.round false (mkOthers E V false) c fr S with
            | some outs => match joinM (leave1 E V (mkOthers E V false) fn) outs with
              | some [(r, S')] => some (r, S')
              | _ => none
            | none => none
        | none => none
      | none => none
    | none => none

noncomputable def ev (E : Env) (L : CallE) : Nat → Ev
  | 0 => { call := L, round := fun _ _ _ => none }
  | d + 1 => { call := acallE E L (ev E L d), round := aroundE E (ev E L d) }

section
variable {E : Env} {L : CallE} {V : Ev}

/-- Any of the ways in which a body may end. -/
theorem leave1_ok (hE : E.Ok) (hV : EvOk E V) {X : Others} (hX : OthersOk E none X) {fn : Func} {n : Nat} {outs : List Out} {rs : List (AE × ASt)} (hj : joinM (leave1 E V X fn) outs = some rs)
    {σ : Sig} {S : ASt} {w : World} {Wr : Nat → Prop} (hA : E.At σ) (hS : S.rel E.P σ w Wr) {Rr : Ending → World → Prop} (hq : ∀ r S', (r, S') ∈ rs → ∀ e w', CallQ E σ S w Wr r S' e w' → Rr e w')
    {e : Exit} {a : Act} {w₁ : World} (h : CodeQs E σ S w Wr outs e a w₁) : bodyPostM Fence.wide n E.P fn Rr e a w₁ := by
  obtain ⟨o, ho, hc⟩ := h
  obtain ⟨r, hr, hsub⟩ := joinM_mem hj o ho
  obtain ⟨x, f, S₁⟩ := o
  obtain ⟨σ', q1, q2, q3⟩ := hc
  have key : ∀ (m : AM) (u : FrameMode), MRel σ' m u → (match aleave E V X fn f f.defers m S₁ with | some r => some [r] | none => none) = some r → LeavesInM Fence.wide n E.P fn a.tmps Rr a.defers u w₁ := by
    intro m u hm hl
    split at hl
    · rename_i r₁ hr₁
      cases hl
      obtain ⟨r₁, S₂⟩ := r₁
      exact aleave_ok hE hV hX f.defers m S₁ hr₁ (hA.le (q3.le hS)) q3.rel q2 hm q2.defers fun e w' q => hq r₁ S₂ (hsub _ (List.mem_singleton.2 rfl)) e w' (q.trans q3)
    · cases hl
  cases x with
  | normal => obtain rfl := q1; exact key .ret .returning rfl hr
  | ret => obtain rfl := q1; exact key .ret .returning rfl hr
  | panic v => obtain ⟨u, hu, rfl⟩ := q1; exact key (.pan v false) _ ⟨u, hu, rfl⟩ hr
  | exit id => cases hr
  | goto l => cases hr

/-- A step that leaves all that was there. -/
theorem pure_post {P : Program} {σ : Sig} {S : ASt} {w w' : World} {Wr : Nat → Prop} (hS : S.rel P σ w Wr) (hk : Kept (fun b => w.heap.size ≤ b) w w') : Post P σ S w Wr σ S w' := by
  refine ⟨⟨fun id blk h => ?_, hS.inj, hS.wr, fun b hb => hS.wrNew b (Nat.le_trans hk.size hb), hS.fresh, hS.low⟩, fun _ _ => rfl, Nat.le_refl _, rfl, ⟨hk.size, fun b hb => hk.same b fun e => hb (hS.wrNew b e), hk.out⟩, fun _ _ => rfl⟩
  obtain ⟨b, κ, o, h1, h2, h3⟩ := hS.at_ id blk h
  have hb := (Array.getElem?_eq_some_iff.1 h2).1
  exact ⟨b, κ, o, h1, by rw [hk.same b (by omega)]; exact h2, h3⟩

theorem acallE_ok (hE : E.Ok) (hL : CallsOk E L) (hV : EvOk E V) : CallsOk E (acallE E L V) := by
  intro f args S r S' h σ w Wr us hA hS hi
  unfold acallE at h
  split at h
  · rename_i r₁ hr₁
    cases h
    exact hL f args S r S' hr₁ σ w Wr us hA hS hi
  · split at h
    · rename_i fn hfn
      split at h
      · rename_i c hc
        split at h
        · rename_i fr hfr
          have hX := mkOthers_ok hE hV none
          have hframe := aframe_ok hi hfr
          have hP := hE.fn f fn hfn
          -- a body walked from some state
          have walk : ∀ (S₀ : ASt) (Wr₀ : Nat → Prop) (outs : List Out) (rs : List (AE × ASt)), S₀.rel E.P σ w Wr₀ → acode E V.call V.round false (mkOthers E V false) c fr S₀ = some outs → joinM (leave1 E V (mkOthers E V false) fn) outs = some rs →
              ∀ Rr : Ending → World → Prop, (∀ r S', (r, S') ∈ rs → ∀ e w', CallQ E σ S₀ w Wr₀ r S' e w' → Rr e w') → Calls E.P f us.toArray w Rr := by
            intro S₀ Wr₀ outs rs hS₀ hev hj Rr hq
            refine callsIn_wide.1 (callsIn_of_wp_marks (F := Fence.wide) (n := 0) hP hc trivial ?_)
            exact wpIn_mono (acode_ok hE hV.1 hV.2 (ro := none) hX c fr S₀ outs hev σ w Wr₀ _ 0 hA hS₀ hframe) fun e a w' q => leave1_ok hE hV hX hj hA hS₀ hq q
          split at h
          · split at h
            · rename_i outs hev
              split at h
              · rename_i rs hj
                split at h
                · rename_i v hmp
                  cases h
                  obtain ⟨⟨p, hp⟩, hall⟩ := mergePure_ok hmp
                  refine walk _ _ outs rs (limited hS []) hev hj _ ?_
                  rintro r₁ S₁ hm e w' ⟨σ', q1, q3⟩
                  have hr := hall _ hm
                  simp only at hr
                  subst hr
                  obtain ⟨u, hu, rfl⟩ := q1
                  rw [AV.plain_inst hp σ'] at hu
                  cases hu
                  have hk : Kept (fun b => w.heap.size ≤ b) w w' := ⟨q3.kept.size, fun b hb => q3.kept.same b (by
                    rintro (e | ⟨id, hid, _⟩)
                    · exact hb e
                    · cases hid), q3.kept.out⟩
                  exact ⟨σ, ⟨_, AV.plain_inst hp σ, rfl⟩, pure_post hS hk⟩
                · split at h
                  · rename_i r₁ S₁ _
                    cases h
                    refine walk _ _ outs _ (limited hS []) hev hj _ ?_
                    rintro r₂ S₂ hm e w' ⟨σ', q1, q3⟩
                    rw [List.mem_singleton] at hm
                    cases hm
                    exact ⟨σ', q1, unlimit hS (W := []) rfl q3⟩
                  · cases h
              · cases h
            · cases h
          · split at h
            · rename_i outs hev
              split at h
              · rename_i r₁ S₁ hj
                cases h
                refine walk S Wr outs _ hS hev hj _ ?_
                intro r₂ S₂ hm e w' q
                rw [List.mem_singleton] at hm
                cases hm
                exact q
              · cases h
            · cases h
        · cases h
      · cases h
    · cases h

theorem ev_ok (hE : E.Ok) (hL : CallsOk E L) : ∀ d, EvOk E (ev E L d)
  | 0 => ⟨hL, fun id args S r S' h => by cases h⟩
  | d + 1 => ⟨acallE_ok hE hL (ev_ok hE hL d), aroundE_ok hE (ev_ok hE hL d)⟩
theorem no_lib : CallsOk E (fun _ _ _ => none) := fun f args S r S' h => by cases h

/-- A closed call. -/
theorem calls_closed (hE : E.Ok) (hL : CallsOk E L) {d : Nat} {f : FuncId} {v : AV} {S S' : ASt} (h : (ev E L d).call f [] S = some (.ret v, S')) {u : Value} (hv : v.plain = some u) {σ : Sig} {w : World}
    (hA : E.At σ) (hS : S.rel E.P σ w (fun b => w.heap.size ≤ b)) : Calls E.P f #[] w fun e w' => e = .returned u ∧ Kept (fun b => w.heap.size ≤ b) w w' := by
  refine ((ev_ok hE hL d).1 f [] S _ _ h σ w _ [] hA hS .nil).mono ?_
  rintro e w' ⟨σ', ⟨y, hy, rfl⟩, hp⟩
  rw [AV.plain_inst hv σ'] at hy
  cases hy
  exact ⟨rfl, hp.kept⟩
end
end Go.Proofs.YtliimmpokhmjeaaGreatDoor.Zev
