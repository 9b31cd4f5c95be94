/-
  Frames; regions in the order of their text; the statements of a body.
-/
import Derived.Test.YtliimmpokhmjeaaGreatDoorZevJF
import Derived.LoopNIn
import Derived.RangeFuncRecord
namespace Go.Proofs.YtliimmpokhmjeaaGreatDoor.Zev
open Go
set_option linter.unusedSimpArgs false
set_option linter.unusedVariables false

structure AF where
  T : Trie AV
  size : Nat
  defers : List ADef

structure FRel (σ : Sig) (f : AF) (a : Act) : Prop where
  tmps : TRel σ f.T a.tmps
  size : a.tmps.size = f.size
  defers : instD σ f.defers = some a.defers
theorem FRel.le {σ σ' : Sig} (h : σ.le σ') {f : AF} {a : Act} (hf : FRel σ f a) : FRel σ' f a := ⟨hf.tmps.le h, hf.size, instD_le h hf.defers⟩

noncomputable def AF.put (f : AF) (dst : Option Tmp) (v : AV) : Option AF :=
  match f with
  | ⟨T, n, ds⟩ => match dst with
    | none => some ⟨T, n, ds⟩
    | some d => match Nat.ble (Nat.succ d) n with
      | true => match Nat.ble (Nat.succ d) maxIds with
        | true => some ⟨Trie.put (some v) depth T d, n, ds⟩
        | false => none
      | false => none
theorem AF.put_ok {σ : Sig} {f f' : AF} {a : Act} (hf : FRel σ f a) {dst : Option Tmp} {v : AV} {u : Value} (hv : v.inst σ = some u) (h : f.put dst v = some f') : FRel σ f' (a.put dst u) := by
  obtain ⟨T, n, ds⟩ := f
  unfold AF.put at h
  cases dst with
  | none => cases h; exact hf
  | some d =>
    simp only at h
    split at h
    · rename_i hd
      split at h
      · rename_i hm
        cases h
        have hd : d < n := Nat.le_of_ble_eq_true hd
        have hm : d < 2 ^ 31 := Nat.le_trans (Nat.le_of_ble_eq_true hm) (by decide)
        have hsz := hf.size
        simp only at hsz
        refine ⟨fun i w hi => ?_, by simpa [Act.put] using hf.size, by simpa [Act.put] using hf.defers⟩
        have hg : (Trie.put (some v) depth T d).get i = some w := hi
        rw [Trie.get_put _ _ _ _ hm] at hg
        split at hg
        · rename_i hid
          subst hid
          cases hg
          exact ⟨u, by simp [Act.put, hsz, hd], hv⟩
        · rename_i hid
          obtain ⟨y, hy, hyi⟩ := hf.tmps i w hg
          exact ⟨y, by simpa [Act.put, Array.getElem?_setIfInBounds_ne (Ne.symm hid)] using hy, hyi⟩
      · cases h
    · cases h
noncomputable def aundef : AV := .tuple []
theorem undef_inst (σ : Sig) : aundef.inst σ = some undef := by simp [aundef, AV.inst, instL, undef]

inductive AX where
  | normal
  | exit (id : Nat)
  | goto (l : Nat)
  | ret
  | panic (v : AV)
inductive AE where
  | ret (v : AV)
  | panic (v : AV)

noncomputable def XRel (σ : Sig) : AX → Exit → Prop
  | .normal, e => e = .normal
  | .exit id, e => e = .exit id
  | .goto l, e => e = .goto l
  | .ret, e => e = .ret
  | .panic v, e => ∃ u, v.inst σ = some u ∧ e = .panic [{ v := u, recovered := false }]
noncomputable def ERel (σ : Sig) : AE → Ending → Prop
  | .ret v, e => ∃ u, v.inst σ = some u ∧ e = .returned u
  | .panic v, e => ∃ u, v.inst σ = some u ∧ e = .panicked [{ v := u, recovered := false }]

noncomputable def CodeQ (E : Env) (σ : Sig) (S : ASt) (w : World) (Wr : Nat → Prop) (x : AX) (f' : AF) (S' : ASt) : Exit → Act → World → Prop :=
  fun e a' w' => ∃ σ', XRel σ' x e ∧ FRel σ' f' a' ∧ Post E.P σ S w Wr σ' S' w'
noncomputable def CallQ (E : Env) (σ : Sig) (S : ASt) (w : World) (Wr : Nat → Prop) (r : AE) (S' : ASt) : Ending → World → Prop :=
  fun e w' => ∃ σ', ERel σ' r e ∧ Post E.P σ S w Wr σ' S' w'

/-- Functions and loops, as they are called. -/
abbrev CallE := FuncId → List AV → ASt → Option (AE × ASt)
abbrev RoundE := Nat → List AV → ASt → Option (AE × ASt)

noncomputable def CallsOk (E : Env) (C : CallE) : Prop := ∀ f args S r S', C f args S = some (r, S') → ∀ σ w Wr us, E.At σ → S.rel E.P σ w Wr → Ins σ args us →
  Calls E.P f us.toArray w (CallQ E σ S w Wr r S')
noncomputable def RoundsOk (E : Env) (R : RoundE) : Prop := ∀ id args S r S', R id args S = some (r, S') → ∀ σ w Wr (us : List Value) b κ, E.At σ → S.rel E.P σ w Wr → Ins σ args us → σ id = some (b, κ) →
  ∃ fn tmps assign body, (Instr.yield b us.toArray).run E.P w = .ok (.round b fn tmps assign body) w ∧ ∀ n, RoundIn Fence.wide n E.P b fn tmps assign body w (CallQ E σ S w Wr r S')

noncomputable def fence : Option Nat → Fence
  | none => Fence.wide
  | some b => Fence.wide.inRound b
theorem fence_fn (ro : Option Nat) (f : FuncId) : (fence ro).fn f := by cases ro <;> exact trivial
theorem fence_depth (ro : Option Nat) : (fence ro).depth = none := by cases ro <;> rfl
theorem fence_round (ro : Option Nat) : (fence ro).round = ro := by cases ro <;> rfl
theorem fence_calls {ro : Option Nat} {n : Nat} {P : Program} {f : FuncId} {args : Array Value} {w : World} {R : Ending → World → Prop} (h : Calls P f args w R) : CallsIn (fence ro) n P f args w R := by
  cases ro with
  | none => exact callsIn_wide.2 h
  | some b => exact (show CallsIn Fence.wide n P f args w R from callsIn_wide.2 h)
theorem fence_rounds {ro : Option Nat} {n : Nat} {P : Program} {l : Nat} {f : FuncId} {tmps : Array Value} {assign body : Code} {w : World} {R : Ending → World → Prop}
    (h : RoundIn Fence.wide n P l f tmps assign body w R) : RoundIn (fence ro) n P l f tmps assign body w R := by
  cases ro with
  | none => exact h
  | some b => exact h

/-! ## One operation in its place -/

noncomputable def awanted (ops : Array Oper) (T : Trie AV) (o : Oper) : Option Bool :=
  match o.guard with
  | none => some true
  | some (j, want) => match ops[j]? with
    | some oj => match oj.dst with
      | some t => match T.get t with
        | some (.bool b) => some (match want with | true => b | false => !b)
        | some (.tuple _) => some false
        | _ => none
      | none => some false
    | none => some false
theorem awanted_ok {σ : Sig} {ops : Array Oper} {T : Trie AV} {a : Act} {o : Oper} (hT : TRel σ T a.tmps) {b : Bool} (h : awanted ops T o = some b) : Region.wanted o (yielded ops a.tmps) = b := by
  unfold awanted at h
  unfold Region.wanted
  split at h
  · rename_i hg; cases h; simp [hg]
  · rename_i j want hg
    rw [hg]
    simp only
    split at h
    · rename_i oj hj
      split at h
      · rename_i t ht
        split at h
        · rename_i c hc
          cases h
          obtain ⟨v, hv, hi⟩ := hT t _ hc
          simp only [AV.inst, Option.some.injEq] at hi
          subst hi
          have hy : yielded ops a.tmps j = some c := by simp [yielded, hj, ht, hv]
          rw [hy]
          cases want <;> cases c <;> rfl
        · rename_i l hc
          cases h
          obtain ⟨v, hv, hi⟩ := hT t _ hc
          obtain ⟨us, rfl, _⟩ := AV.inst_tuple hi
          have hy : yielded ops a.tmps j = none := by simp [yielded, hj, ht, hv]
          rw [hy]
          rfl
        · cases h
      · rename_i ht
        cases h
        have hy : yielded ops a.tmps j = none := by simp [yielded, hj, ht]
        rw [hy]; rfl
    · rename_i hj
      cases h
      have hy : yielded ops a.tmps j = none := by simp [yielded, hj]
      rw [hy]; rfl

inductive AStep where
  | go (f : AF) (S : ASt)
  | stop (v : AV) (S : ASt)
noncomputable def goOn (f : Option AF) (S : ASt) : Option AStep :=
  match f with
  | some f' => some (.go f' S)
  | none => none

noncomputable def adoOp (E : Env) (C : CallE) (R : RoundE) (isRound : Bool) (f : AF) (S : ASt) (o : Oper) : Option AStep :=
  match aopF E f.T S o with
  | some (.val v S') => goOn (f.put o.dst v) S'
  | some (.skip S') => goOn (f.put o.dst aundef) S'
  | some (.enter g args) => match C g args S with
    | some (.ret v, S') => goOn (f.put o.dst v) S'
    | some (.panic v, S') => some (.stop v S')
    | none => none
  | some (.yield id args) => match R id args S with
    | some (.ret v, S') => goOn (f.put o.dst v) S'
    | some (.panic v, S') => some (.stop v S')
    | none => none
  | some (.defer d) => match isRound with
    | true => none
    | false => goOn (AF.put { T := f.T, size := f.size, defers := d :: f.defers } o.dst aundef) S
  | some (.panic v) => some (.stop v S)
  | some .recover => none
  | none => none
noncomputable def astep (E : Env) (C : CallE) (R : RoundE) (isRound : Bool) (ops : Array Oper) (f : AF) (S : ASt) (o : Oper) : Option AStep :=
  match awanted ops f.T o with
  | some true => adoOp E C R isRound f S o
  | some false => goOn (f.put o.dst aundef) S
  | none => none

section
variable {E : Env} {C : CallE} {R : RoundE}

/-- What is asked behind an operation. -/
noncomputable def StepK (E : Env) (σ : Sig) (S : ASt) (w : World) (Wr : Nat → Prop) (K : Act → World → Prop) (Q : Exit → Act → World → Prop) (f : AF) : AStep → Prop
  | .go f' S' => ∀ σ' a' w', FRel σ' f' a' → Post E.P σ S w Wr σ' S' w' → K a' w'
  | .stop v S' => ∀ σ' a' w' u, v.inst σ' = some u → FRel σ' f a' → Post E.P σ S w Wr σ' S' w' → Q (.panic [{ v := u, recovered := false }]) a' w'

theorem goOn_some {f : Option AF} {S : ASt} {r : AStep} (h : goOn f S = some r) : ∃ f', f = some f' ∧ r = .go f' S := by
  cases f with
  | none => cases h
  | some f' => cases h; exact ⟨f', rfl, rfl⟩

theorem adoOp_ok (hE : E.Ok) (hC : CallsOk E C) (hR : RoundsOk E R) {ro : Option Nat} {n : Nat} {f : AF} {S : ASt} {o : Oper} {r : AStep} (h : adoOp E C R ro.isSome f S o = some r)
    {σ : Sig} {w : World} {Wr : Nat → Prop} {a : Act} (hA : E.At σ) (hS : S.rel E.P σ w Wr) (hf : FRel σ f a) {K : Act → World → Prop} {Q : Exit → Act → World → Prop} (hk : StepK E σ S w Wr K Q f r) :
    o.wpIn (fence ro) n E.P a w K Q := by
  refine ⟨fun g _ => fence_fn ro g, ?_⟩
  unfold adoOp at h
  have hsem : (∀ c, o.op ≠ .defer c) → (o.semAt (fence ro).round a.eval) = execOp a.eval o := fun hd => Oper.semAt_eq _ _ _ hd
  split at h
  all_goals first
    | (cases h; done)
    | skip
  case h_1 v S' hop =>
    obtain ⟨f', hp, rfl⟩ := goOn_some h
    have hout := aop_ok hE hA hS hf.tmps (aopF_sound hop)
    obtain ⟨σ', u, w', h1, h2, h3⟩ := hout
    have hnd : ∀ c, o.op ≠ .defer c := fun c e => by
      have hrun : (execOp a.eval o).run E.P w = ((resolve a.eval c o.type).run E.P w).andThen fun d w' => .ok (.defer d) w' := by simp [execOp, e]
      rw [hrun] at h1
      cases hr : (resolve a.eval c o.type).run E.P w with
      | ok d w'' => rw [hr] at h1; simp at h1
      | halt x w'' => rw [hr] at h1; simp at h1
    rw [hsem hnd, h1]
    exact hk σ' _ w' (AF.put_ok (hf.le (h3.le hS)) h2 hp) h3
  case h_2 S' hop =>
    obtain ⟨f', hp, rfl⟩ := goOn_some h
    obtain ⟨σ', w', h1, h3⟩ := aop_ok hE hA hS hf.tmps (aopF_sound hop)
    have hnd : ∀ c, o.op ≠ .defer c := fun c e => by
      have hrun : (execOp a.eval o).run E.P w = ((resolve a.eval c o.type).run E.P w).andThen fun d w' => .ok (.defer d) w' := by simp [execOp, e]
      rw [hrun] at h1
      cases hr : (resolve a.eval c o.type).run E.P w with
      | ok d w'' => rw [hr] at h1; simp at h1
      | halt x w'' => rw [hr] at h1; simp at h1
    rw [hsem hnd, h1]
    exact hk σ' _ w' (AF.put_ok (hf.le (h3.le hS)) (undef_inst σ') hp) h3
  case h_3 g args hop =>
    obtain ⟨us, h1, h2⟩ := aop_ok hE hA hS hf.tmps (aopF_sound hop)
    have hnd : ∀ c, o.op ≠ .defer c := fun c e => by
      have hrun : (execOp a.eval o).run E.P w = ((resolve a.eval c o.type).run E.P w).andThen fun d w' => .ok (.defer d) w' := by simp [execOp, e]
      rw [hrun] at h1
      cases hr : (resolve a.eval c o.type).run E.P w with
      | ok d w'' => rw [hr] at h1; simp at h1
      | halt x w'' => rw [hr] at h1; simp at h1
    rw [hsem hnd, h1, Oper.uponIn_enter]
    refine ⟨fun hd => by simp [fence_depth] at hd, ?_⟩
    split at h
    · rename_i v S' hc
      obtain ⟨f', hp, rfl⟩ := goOn_some h
      refine fence_calls ((hC g args S _ _ hc σ w Wr us hA hS h2).mono ?_)
      rintro e w' ⟨σ', ⟨u, hu, rfl⟩, h3⟩
      exact hk σ' _ w' (AF.put_ok (hf.le (h3.le hS)) hu hp) h3
    · rename_i v S' hc
      cases h
      refine fence_calls ((hC g args S _ _ hc σ w Wr us hA hS h2).mono ?_)
      rintro e w' ⟨σ', ⟨u, hu, rfl⟩, h3⟩
      exact hk σ' _ w' u hu (hf.le (h3.le hS)) h3
    · cases h
  case h_4 id args hop =>
    obtain ⟨b, κ, us, hs, h1, h2⟩ := aop_ok hE hA hS hf.tmps (aopF_sound hop)
    have key : ∀ r S', R id args S = some (r, S') → ∃ fn tmps assign body, (execOp a.eval o).run E.P w = .ok (.round b fn tmps assign body) w ∧ ∀ n, RoundIn Fence.wide n E.P b fn tmps assign body w (CallQ E σ S w Wr r S') := fun r S' hr => by
      obtain ⟨fn, tmps, assign, body, e1, e2⟩ := hR id args S r S' hr σ w Wr us b κ hA hS h2 hs
      exact ⟨fn, tmps, assign, body, h1.trans e1, e2⟩
    split at h
    · rename_i v S' hc
      obtain ⟨f', hp, rfl⟩ := goOn_some h
      obtain ⟨fn, tmps, assign, body, e1, e2⟩ := key _ _ hc
      have hnd : ∀ c, o.op ≠ .defer c := fun c e => by
        have hrun : (execOp a.eval o).run E.P w = ((resolve a.eval c o.type).run E.P w).andThen fun d w' => .ok (.defer d) w' := by simp [execOp, e]
        rw [hrun] at e1
        cases hr : (resolve a.eval c o.type).run E.P w with
        | ok d w'' => rw [hr] at e1; simp at e1
        | halt x w'' => rw [hr] at e1; simp at e1
      rw [hsem hnd, e1, Oper.uponIn_round]
      refine ⟨fun hd => by simp [fence_depth] at hd, fence_rounds ((e2 _).mono ?_)⟩
      rintro e w' ⟨σ', ⟨u, hu, rfl⟩, h3⟩
      exact hk σ' _ w' (AF.put_ok (hf.le (h3.le hS)) hu hp) h3
    · rename_i v S' hc
      cases h
      obtain ⟨fn, tmps, assign, body, e1, e2⟩ := key _ _ hc
      have hnd : ∀ c, o.op ≠ .defer c := fun c e => by
        have hrun : (execOp a.eval o).run E.P w = ((resolve a.eval c o.type).run E.P w).andThen fun d w' => .ok (.defer d) w' := by simp [execOp, e]
        rw [hrun] at e1
        cases hr : (resolve a.eval c o.type).run E.P w with
        | ok d w'' => rw [hr] at e1; simp at e1
        | halt x w'' => rw [hr] at e1; simp at e1
      rw [hsem hnd, e1, Oper.uponIn_round]
      refine ⟨fun hd => by simp [fence_depth] at hd, fence_rounds ((e2 _).mono ?_)⟩
      rintro e w' ⟨σ', ⟨u, hu, rfl⟩, h3⟩
      exact hk σ' _ w' u hu (hf.le (h3.le hS)) h3
    · cases h
  case h_5 d hop =>
    split at h
    · cases h
    · rename_i hro
      obtain ⟨f', hp, rfl⟩ := goOn_some h
      obtain ⟨d', h1, h2⟩ := aop_ok hE hA hS hf.tmps (aopF_sound hop)
      have hr0 : ro = none := by cases ro with | none => rfl | some x => cases hro
      subst hr0
      have hs0 : (o.semAt (fence none).round a.eval) = execOp a.eval o := rfl
      rw [hs0, h1]
      have hf1 : FRel σ { T := f.T, size := f.size, defers := d :: f.defers } { a with defers := d' :: a.defers } := ⟨hf.tmps, hf.size, by simp [instD, h2, hf.defers]⟩
      exact hk σ _ w (AF.put_ok hf1 (undef_inst σ) hp) (Post.refl hS)
  case h_6 v hop =>
    cases h
    obtain ⟨u, h1, h2⟩ := aop_ok hE hA hS hf.tmps (aopF_sound hop)
    have hnd : ∀ c, o.op ≠ .defer c := fun c e => by
      have hrun : (execOp a.eval o).run E.P w = ((resolve a.eval c o.type).run E.P w).andThen fun d w' => .ok (.defer d) w' := by simp [execOp, e]
      rw [hrun] at h1
      have hres : ∃ d, (resolve a.eval c o.type).run E.P w = .ok d w ∨ ∃ s, (resolve a.eval c o.type).run E.P w = .halt (.stuck s) w := by
        unfold resolve
        split
        · exact ⟨_, .inl rfl⟩
        · exact ⟨_, .inl rfl⟩
        · unfold Deferred.ofValue
          split
          · exact ⟨_, .inl rfl⟩
          · exact ⟨_, .inl rfl⟩
          · exact ⟨default, .inr ⟨_, rfl⟩⟩
      obtain ⟨d, hr | ⟨s, hr⟩⟩ := hres <;> · rw [hr] at h1; simp at h1
    rw [hsem hnd, h1, Oper.uponIn_panic]
    exact hk σ a w u h2 hf (Post.refl hS)

theorem astep_ok (hE : E.Ok) (hC : CallsOk E C) (hR : RoundsOk E R) {ro : Option Nat} {n : Nat} {ops : Array Oper} {f : AF} {S : ASt} {o : Oper} {r : AStep} (h : astep E C R ro.isSome ops f S o = some r)
    {σ : Sig} {w : World} {Wr : Nat → Prop} {a : Act} (hA : E.At σ) (hS : S.rel E.P σ w Wr) (hf : FRel σ f a) {K : Act → World → Prop} {Q : Exit → Act → World → Prop} (hk : StepK E σ S w Wr K Q f r) :
    if Region.wanted o (yielded ops a.tmps) then o.wpIn (fence ro) n E.P a w K Q else (∀ g, o.about E.P w a.eval = some g → (fence ro).fn g) ∧ K (a.put o.dst undef) w := by
  unfold astep at h
  split at h
  · rename_i hw
    rw [awanted_ok hf.tmps hw]
    simp only [if_true]
    exact adoOp_ok hE hC hR h hA hS hf hk
  · rename_i hw
    rw [awanted_ok hf.tmps hw]
    simp only [Bool.false_eq_true, if_false]
    obtain ⟨f', hp, rfl⟩ := goOn_some h
    exact ⟨fun g _ => fence_fn ro g, hk σ _ w (AF.put_ok hf (undef_inst σ) hp) (Post.refl hS)⟩
  · cases h

/-! ## A region in the order of its text -/

noncomputable def aops (E : Env) (C : CallE) (R : RoundE) (isRound : Bool) (ops : Array Oper) : List Oper → AF → ASt → Option (AX × AF × ASt)
  | [], f, S => some (.normal, f, S)
  | o :: l, f, S => match astep E C R isRound ops f S o with
    | some (.go f' S') => aops E C R isRound ops l f' S'
    | some (.stop v S') => some (.panic v, f, S')
    | none => none

theorem aops_ok (hE : E.Ok) (hC : CallsOk E C) (hR : RoundsOk E R) {ro : Option Nat} {n : Nat} {ops : Array Oper} {Q : Exit → Act → World → Prop} : ∀ (l : List Oper) (k : Nat) (f : AF) (S : ASt) {x : AX} {f' : AF} {S' : ASt},
    ops.toList.drop k = l → aops E C R ro.isSome ops l f S = some (x, f', S') → ∀ {σ : Sig} {w : World} {Wr : Nat → Prop} {a : Act}, E.At σ → S.rel E.P σ w Wr → FRel σ f a →
      (∀ e a' w', CodeQ E σ S w Wr x f' S' e a' w' → Q e a' w') → wpOpsIn (fence ro) n E.P ops Q (List.range' k l.length) a w
  | [], k, f, S, x, f', S', hd, h, σ, w, Wr, a, hA, hS, hf, hq => by
    cases h
    exact hq .normal a w ⟨σ, rfl, hf, Post.refl hS⟩
  | o :: l, k, f, S, x, f', S', hd, h, σ, w, Wr, a, hA, hS, hf, hq => by
    have h1 : ops[k]? = some o := by
      have := congrArg (fun x => x[0]?) hd
      simpa using this
    have h2 : ops.toList.drop (k + 1) = l := by
      have := congrArg (List.drop 1) hd
      simpa [List.drop_drop] using this
    simp only [aops] at h
    simp only [List.length_cons, List.range'_succ, wpOpsIn, h1]
    split at h
    · rename_i f₁ S₁ hs
      refine astep_ok hE hC hR hs hA hS hf fun σ' a' w' hf' hp => ?_
      refine aops_ok hE hC hR l (k + 1) f₁ S₁ h2 h (hA.le (hp.le hS)) hp.rel hf' fun e a'' w'' hq' => ?_
      obtain ⟨σ'', q1, q2, q3⟩ := hq'
      exact hq e a'' w'' ⟨σ'', q1, q2, hp.trans q3⟩
    · rename_i v S₁ hs
      cases h
      refine astep_ok hE hC hR hs hA hS hf fun σ' a' w' u hu hf' hp => ?_
      exact hq _ a' w' ⟨σ', ⟨u, hu, rfl⟩, hf', hp⟩
    · cases h

/-! ## Statements: what may come out is a list -/

abbrev Out := AX × AF × ASt
def CodeQs (E : Env) (σ : Sig) (S : ASt) (w : World) (Wr : Nat → Prop) (outs : List Out) : Exit → Act → World → Prop :=
  fun e a' w' => ∃ o, o ∈ outs ∧ CodeQ E σ S w Wr o.1 o.2.1 o.2.2 e a' w'

/-- What is handed in for the statements that are not walked here: regions that draw, and ranges over functions. -/
structure Others where
  draw : Nat → Array Oper → AF → ASt → Option (List Out)
  range : Operand → Array Tmp → Code → Code → AF → ASt → Option (List Out)

def CodeOk (E : Env) (ro : Option Nat) (c : Code) (ev : AF → ASt → Option (List Out)) : Prop :=
  ∀ f S outs, ev f S = some outs → ∀ σ w Wr a n, E.At σ → S.rel E.P σ w Wr → FRel σ f a → c.wpIn (fence ro) n E.P (CodeQs E σ S w Wr outs) a w

noncomputable def joinM {α β : Type} (k : α → Option (List β)) : List α → Option (List β)
  | [] => some []
  | o :: l => match k o with
    | some r => match joinM k l with
      | some s => some (r ++ s)
      | none => none
    | none => none
theorem joinM_mem {α β : Type} {k : α → Option (List β)} : ∀ {l : List α} {outs : List β}, joinM k l = some outs → ∀ o ∈ l, ∃ r, k o = some r ∧ ∀ x ∈ r, x ∈ outs
  | [], outs, h, o, ho => by cases ho
  | a :: l, outs, h, o, ho => by
    simp only [joinM] at h
    split at h
    · rename_i r hr
      split at h
      · rename_i s hs
        cases h
        cases ho with
        | head => exact ⟨r, hr, fun x hx => List.mem_append_left _ hx⟩
        | tail _ hm =>
          obtain ⟨r', h1, h2⟩ := joinM_mem hs o hm
          exact ⟨r', h1, fun x hx => List.mem_append_right _ (h2 x hx)⟩
      · cases h
    · cases h

noncomputable def aseqK (k : AF → ASt → Option (List Out)) (o : Out) : Option (List Out) :=
  match o with
  | (.normal, f, S) => k f S
  | r => some [r]
noncomputable def aloop (body : AF → ASt → Option (List Out)) : Nat → AF → ASt → Option (List Out)
  | 0, _, _ => none
  | n + 1, f, S => match body f S with
    | some outs => joinM (aseqK (aloop body n)) outs
    | none => none
noncomputable def unblock (id : Nat) (o : Out) : Out :=
  match o with
  | (.exit id', f, S) => match Nat.beq id' id with
    | true => (.normal, f, S)
    | false => (.exit id', f, S)
  | r => r

noncomputable def acode (E : Env) (C : CallE) (R : RoundE) (isRound : Bool) (X : Others) : Code → AF → ASt → Option (List Out)
  | .skip, f, S => some [(.normal, f, S)]
  | .label _, f, S => some [(.normal, f, S)]
  | .region id ops draw, f, S => match draw with
    | false => match aops E C R isRound ops ops.toList f S with
      | some o => some [o]
      | none => none
    | true => X.draw id ops f S
  | .seq a b, f, S => match acode E C R isRound X a f S with
    | some outs => joinM (aseqK (acode E C R isRound X b)) outs
    | none => none
  | .cond c a b, f, S => match aeval E f.T c with
    | some (.bool true) => acode E C R isRound X a f S
    | some (.bool false) => acode E C R isRound X b f S
    | _ => none
  | .block id c, f, S => match acode E C R isRound X c f S with
    | some outs => some (outs.map (unblock id))
    | none => none
  | .loop c, f, S => aloop (acode E C R isRound X c) 100000 f S
  | .exit id, f, S => some [(.exit id, f, S)]
  | .ret, f, S => some [(.ret, f, S)]
  | .rangeFunc g ps assign body, f, S => X.range g ps assign body f S
  | _, _, _ => none

def OthersOk (E : Env) (ro : Option Nat) (X : Others) : Prop :=
  (∀ id ops, CodeOk E ro (.region id ops true) (X.draw id ops)) ∧ (∀ g ps assign body, CodeOk E ro (.rangeFunc g ps assign body) (X.range g ps assign body))

theorem CodeQ.trans {σ σ' : Sig} {S S₁ S' : ASt} {w w₁ : World} {Wr : Nat → Prop} {x : AX} {f' : AF} (hp : Post E.P σ S w Wr σ' S₁ w₁) {e : Exit} {a : Act} {w' : World}
    (h : CodeQ E σ' S₁ w₁ Wr x f' S' e a w') : CodeQ E σ S w Wr x f' S' e a w' := by
  obtain ⟨σ'', q1, q2, q3⟩ := h
  exact ⟨σ'', q1, q2, hp.trans q3⟩
theorem CodeQs.trans {σ σ' : Sig} {S S₁ : ASt} {w w₁ : World} {Wr : Nat → Prop} {outs outs' : List Out} (hp : Post E.P σ S w Wr σ' S₁ w₁) (hs : ∀ x ∈ outs, x ∈ outs') {e : Exit} {a : Act} {w' : World}
    (h : CodeQs E σ' S₁ w₁ Wr outs e a w') : CodeQs E σ S w Wr outs' e a w' := by
  obtain ⟨o, ho, hq⟩ := h
  exact ⟨o, hs o ho, hq.trans hp⟩
theorem CodeQs.one {σ : Sig} {S : ASt} {w : World} {Wr : Nat → Prop} {x : AX} {f' : AF} {S' : ASt} {e : Exit} {a : Act} {w' : World} (h : CodeQ E σ S w Wr x f' S' e a w') : CodeQs E σ S w Wr [(x, f', S')] e a w' :=
  ⟨_, List.mem_singleton.2 rfl, h⟩

theorem not_normal {σ : Sig} {x : AX} {e : Exit} (hx : x ≠ .normal) (h : XRel σ x e) {next : Act → World → Prop} {Q : Exit → Act → World → Prop} {a : Act} {w : World} (hq : Q e a w) : Exit.then next Q e a w := by
  cases x with
  | normal => exact absurd rfl hx
  | exit id => obtain rfl := h; exact hq
  | goto l => obtain rfl := h; exact hq
  | ret => obtain rfl := h; exact hq
  | panic v => obtain ⟨u, _, rfl⟩ := h; exact hq

/-- What goes on behind a statement. -/
theorem seq_post {ro : Option Nat} {n : Nat} {k : AF → ASt → Option (List Out)} {outs₁ outs : List Out} (hj : joinM (aseqK k) outs₁ = some outs) {σ : Sig} {S : ASt} {w : World} {Wr : Nat → Prop}
    (hA : E.At σ) (hS : S.rel E.P σ w Wr) {next : Act → World → Prop} {Q : Exit → Act → World → Prop} (hq : ∀ e a' w', CodeQs E σ S w Wr outs e a' w' → Q e a' w')
    (hk : ∀ f₁ S₁ r, k f₁ S₁ = some r → (∀ x ∈ r, x ∈ outs) → ∀ σ' a₁ w₁, E.At σ' → S₁.rel E.P σ' w₁ Wr → FRel σ' f₁ a₁ → Post E.P σ S w Wr σ' S₁ w₁ → next a₁ w₁)
    {e : Exit} {a₁ : Act} {w₁ : World} (h : CodeQs E σ S w Wr outs₁ e a₁ w₁) : Exit.then next Q e a₁ w₁ := by
  obtain ⟨o, ho, hc⟩ := h
  obtain ⟨r, hr, hs⟩ := joinM_mem hj o ho
  obtain ⟨x, f₁, S₁⟩ := o
  by_cases hx : x = .normal
  · subst hx
    obtain ⟨σ', rfl, h2, h3⟩ := hc
    exact hk f₁ S₁ r hr hs σ' a₁ w₁ (hA.le (h3.le hS)) h3.rel h2 h3
  · have hr' : r = [(x, f₁, S₁)] := by
      cases x with
      | normal => exact absurd rfl hx
      | _ => simpa [aseqK] using hr.symm
    subst hr'
    have h1 := hc
    obtain ⟨σ', q1, q2, q3⟩ := hc
    exact not_normal hx q1 (hq e a₁ w₁ ⟨_, hs _ (List.mem_singleton.2 rfl), h1⟩)

theorem aloop_ok {ro : Option Nat} {c : Code} {body : AF → ASt → Option (List Out)} (hb : CodeOk E ro c body) : ∀ m, ∀ f S outs, aloop body m f S = some outs →
    ∀ σ w Wr a n, E.At σ → S.rel E.P σ w Wr → FRel σ f a → ∀ Q : Exit → Act → World → Prop, (∀ e a' w', CodeQs E σ S w Wr outs e a' w' → Q e a' w') → Code.roundsIn (fence ro) n E.P c Q m a w
  | 0, f, S, outs, h => by cases h
  | m + 1, f, S, outs, h => by
    intro σ w Wr a n hA hS hf Q hq
    simp only [aloop] at h
    rw [roundsIn_succ]
    split at h
    · rename_i outs₁ hb₁
      refine wpIn_mono (hb f S _ hb₁ σ w Wr a n hA hS hf) ?_
      intro e a₁ w₁ hcq
      refine seq_post (ro := ro) (n := n) h hA hS hq ?_ hcq
      intro f₁ S₁ r hr hs σ' a₁ w₁ hA' hS' hf' hp
      exact aloop_ok hb m f₁ S₁ r hr σ' w₁ Wr a₁ n hA' hS' hf' Q fun e a' w' q => hq e a' w' (q.trans hp hs)
    · cases h

theorem acode_ok (hE : E.Ok) (hC : CallsOk E C) (hR : RoundsOk E R) {ro : Option Nat} {X : Others} (hX : OthersOk E ro X) : ∀ c : Code, CodeOk E ro c (acode E C R ro.isSome X c)
  | .skip => by
    intro f S outs h σ w Wr a n hA hS hf
    cases h
    exact wpIn_skip (.one ⟨σ, rfl, hf, Post.refl hS⟩)
  | .label l => by
    intro f S outs h σ w Wr a n hA hS hf
    cases h
    exact wpIn_label (.one ⟨σ, rfl, hf, Post.refl hS⟩)
  | .region id ops false => by
    intro f S outs h σ w Wr a n hA hS hf
    simp only [acode] at h
    split at h
    · rename_i o ho
      cases h
      obtain ⟨x, f', S'⟩ := o
      refine wpIn_region ?_
      have := aops_ok hE hC hR (ro := ro) (n := n) (ops := ops) (Q := CodeQs E σ S w Wr [(x, f', S')]) ops.toList 0 f S (by simp) ho hA hS hf (fun _ _ _ q => .one q)
      rw [List.range_eq_range']
      simpa using this
    · cases h
  | .region id ops true => by
    intro f S outs h σ w Wr a n hA hS hf
    exact hX.1 id ops f S outs h σ w Wr a n hA hS hf
  | .seq c d => by
    intro f S outs h σ w Wr a n hA hS hf
    simp only [acode] at h
    split at h
    · rename_i outs₁ h₁
      refine wpIn_seq (wpIn_mono (acode_ok hE hC hR hX c f S _ h₁ σ w Wr a n hA hS hf) ?_)
      intro e a₁ w₁ hcq
      refine seq_post (ro := ro) (n := n) h hA hS (fun _ _ _ q => q) ?_ hcq
      intro f₁ S₁ r hr hs σ' a₁ w₁ hA' hS' hf' hp
      exact wpIn_mono (acode_ok hE hC hR hX d f₁ S₁ r hr σ' w₁ Wr a₁ n hA' hS' hf') fun e a' w' q => q.trans hp hs
    · cases h
  | .cond c t e => by
    intro f S outs h σ w Wr a n hA hS hf
    simp only [acode] at h
    split at h
    · rename_i hc
      have hv := aeval_ok hA hf.tmps hc
      simp only [AV.inst, Option.some.injEq] at hv
      exact wpIn_cond_true hv.symm (acode_ok hE hC hR hX t f S outs h σ w Wr a n hA hS hf)
    · rename_i hc
      have hv := aeval_ok hA hf.tmps hc
      simp only [AV.inst, Option.some.injEq] at hv
      exact wpIn_cond_false hv.symm (acode_ok hE hC hR hX e f S outs h σ w Wr a n hA hS hf)
    · cases h
  | .block id c => by
    intro f S outs h σ w Wr a n hA hS hf
    simp only [acode] at h
    split at h
    · rename_i outs₁ h₁
      cases h
      refine wpIn_block (wpIn_mono (acode_ok hE hC hR hX c f S _ h₁ σ w Wr a n hA hS hf) ?_)
      rintro e a₁ w₁ ⟨⟨x, f', S'⟩, ho, hcq⟩
      have hm : unblock id (x, f', S') ∈ outs₁.map (unblock id) := List.mem_map.2 ⟨_, ho, rfl⟩
      have h1 := hcq
      obtain ⟨σ', q1, q2, q3⟩ := hcq
      cases x with
      | exit id' =>
        obtain rfl := q1
        simp only [unblock] at hm
        by_cases hid : id' = id
        · have hb : Nat.beq id' id = true := by rw [hid]; exact Nat.beq_refl id
          rw [hb] at hm
          simp only [Exit.inBlock, hid, if_true]
          exact ⟨_, hm, ⟨σ', rfl, q2, q3⟩⟩
        · have hb : Nat.beq id' id = false := by
            cases hbb : Nat.beq id' id with
            | false => rfl
            | true => exact absurd (Nat.eq_of_beq_eq_true hbb) hid
          rw [hb] at hm
          simp only [Exit.inBlock, hid, if_false]
          exact ⟨_, hm, ⟨σ', rfl, q2, q3⟩⟩
      | normal => obtain rfl := q1; exact ⟨_, hm, h1⟩
      | goto l => obtain rfl := q1; exact ⟨_, hm, h1⟩
      | ret => obtain rfl := q1; exact ⟨_, hm, h1⟩
      | panic v => obtain ⟨u, _, rfl⟩ := q1; exact ⟨_, hm, h1⟩
    · cases h
  | .loop c => by
    intro f S outs h σ w Wr a n hA hS hf
    exact wpIn_loop_rounds 100000 (aloop_ok (acode_ok hE hC hR hX c) 100000 f S outs h σ w Wr a n hA hS hf _ fun _ _ _ q => q)
  | .exit id => by
    intro f S outs h σ w Wr a n hA hS hf
    cases h
    exact wpIn_exit (.one ⟨σ, rfl, hf, Post.refl hS⟩)
  | .ret => by
    intro f S outs h σ w Wr a n hA hS hf
    cases h
    exact wpIn_ret (.one ⟨σ, rfl, hf, Post.refl hS⟩)
  | .rangeFunc g ps assign body => by
    intro f S outs h σ w Wr a n hA hS hf
    exact hX.2 g ps assign body f S outs h σ w Wr a n hA hS hf
  | .scope c => by intro f S outs h; cases h
  | .goto l => by intro f S outs h; cases h
  | .refuse s => by intro f S outs h; cases h

end
end Go.Proofs.YtliimmpokhmjeaaGreatDoor.Zev
