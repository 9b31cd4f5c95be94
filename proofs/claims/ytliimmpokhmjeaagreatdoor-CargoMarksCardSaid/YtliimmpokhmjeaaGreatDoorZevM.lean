/-
  How a function is left: results, deferred calls, recover; a call as a whole.
-/
import Derived.Test.YtliimmpokhmjeaaGreatDoorZevL
import Derived.RangeFuncLeaves
import Derived.RecoverIn
namespace Go.Proofs.YtliimmpokhmjeaaGreatDoor.Zev
open Go
set_option linter.unusedSimpArgs false
set_option linter.unusedVariables false

/-! ## The first frame -/

noncomputable def putAll (T : Trie AV) (k : Nat) : List AV → Trie AV
  | [] => T
  | v :: l => putAll (Trie.put (some v) depth T k) (k + 1) l
theorem putAll_get : ∀ (l : List AV) (T : Trie AV) (k i : Nat), k + l.length ≤ 2 ^ 31 → (putAll T k l).get i = if k ≤ i ∧ i < k + l.length then l[i - k]? else T.get i
  | [], T, k, i, h => by
    simp only [putAll, List.length_nil, Nat.add_zero]
    rw [if_neg (by omega)]
  | v :: l, T, k, i, h => by
    simp only [List.length_cons] at h
    simp only [putAll]
    rw [putAll_get l _ (k + 1) i (by omega), Trie.get_put _ _ _ _ (by omega)]
    by_cases h1 : i = k
    · subst h1
      rw [if_neg (by omega), if_pos rfl, if_pos (by simp)]
      simp
    · by_cases h2 : k + 1 ≤ i ∧ i < k + 1 + l.length
      · rw [if_pos h2, if_pos (by simp only [List.length_cons]; omega)]
        rw [show i - k = (i - (k + 1)) + 1 by omega, List.getElem?_cons_succ]
      · rw [if_neg h2, if_neg h1, if_neg (by simp only [List.length_cons]; omega)]

noncomputable def aframe (args : List AV) (n : Nat) : Option AF :=
  match Nat.ble args.length 100000 with
  | true => some { T := putAll .leaf 0 args, size := args.length + (n - args.length), defers := [] }
  | false => none
theorem aframe_ok {σ : Sig} {args : List AV} {us : List Value} (hi : Ins σ args us) {n : Nat} {f : AF} (h : aframe args n = some f) :
    FRel σ f { tmps := us.toArray ++ Array.replicate (n - us.toArray.size) undef, defers := [] } := by
  unfold aframe at h
  split at h
  · rename_i hl
    cases h
    have hl' := Nat.le_of_ble_eq_true hl
    have hlen := hi.length
    refine ⟨fun i a ha => ?_, by simp [hlen], rfl⟩
    have ha' : (putAll .leaf 0 args).get i = some a := ha
    rw [putAll_get _ _ _ _ (by omega)] at ha'
    split at ha'
    · rename_i hc
      simp only [Nat.sub_zero] at ha'
      obtain ⟨v, hv, hvi⟩ := hi.get ha'
      refine ⟨v, ?_, hvi⟩
      have hlt := (List.getElem?_eq_some_iff.1 hv).1
      rw [Array.getElem?_append_left (by simpa using hlt)]
      simpa using hv
    · simp [Trie.get_leaf] at ha'
  · cases h

/-! ## Results -/

noncomputable def aresult (E : Env) (f : AF) (S : ASt) : ResultVar → Option AV
  | .tmp t => f.T.get t
  | .cell a t => match f.T.get a with
    | some (.ptr id off) => aloadVar E S t id off
    | _ => none
noncomputable def aresultL (E : Env) (f : AF) (S : ASt) : List ResultVar → Option (List AV)
  | [] => some []
  | r :: l => match aresult E f S r with
    | some v => match aresultL E f S l with
      | some m => some (v :: m)
      | none => none
    | none => none
def oneOf (l : List AV) : AV :=
  match l with
  | [v] => v
  | l => .tuple l

section
variable {E : Env} {C : CallE} {R : RoundE}

theorem aresultL_ok (hE : E.Ok) {σ : Sig} {S : ASt} {w : World} {Wr : Nat → Prop} (hS : S.rel E.P σ w Wr) {f : AF} {a : Act} (hf : FRel σ f a) {g : ResultVar → Sem Value}
    (hg1 : ∀ t, g (.tmp t) = pure (a.tmps.getD t undef)) (hg2 : ∀ x t, g (.cell x t) = do loadVar t (← asAddr (a.tmps.getD x undef))) : ∀ {l : List ResultVar} {vs : List AV}, aresultL E f S l = some vs →
    ∃ us, Ins σ vs us ∧ (l.mapM g).run E.P w = .ok us w
  | [], vs, h => by
    simp only [aresultL, Option.some.injEq] at h
    subst h
    exact ⟨[], .nil, by simp⟩
  | r :: l, vs, h => by
    simp only [aresultL] at h
    split at h
    · rename_i v hv
      split at h
      · rename_i m hm
        cases h
        obtain ⟨us, h3, h4⟩ := aresultL_ok hE hS hf hg1 hg2 hm
        have hone : ∃ u, v.inst σ = some u ∧ (g r).run E.P w = .ok u w := by
          cases r with
          | tmp t =>
            obtain ⟨u, hu, hi⟩ := hf.tmps t v hv
            exact ⟨u, hi, by simp [hg1, Array.getD_eq_getD_getElem?, hu]⟩
          | cell x t =>
            simp only [aresult] at hv
            split at hv
            · rename_i id off hx
              obtain ⟨u, hu, hi⟩ := hf.tmps x _ hx
              obtain ⟨b, κ, h1, rfl⟩ := inst_ptr hi
              obtain ⟨b', κ', y, h2, h3, h4⟩ := aloadVar_ok hE hS hv
              rw [h1] at h2; cases h2
              exact ⟨y, h3, by simp [hg2, Array.getD_eq_getD_getElem?, hu, asAddr, h4]⟩
            · cases hv
        obtain ⟨u, h1, h2⟩ := hone
        refine ⟨u :: us, .cons h1 h3, ?_⟩
        rw [List.mapM_cons]
        simp only [Sem.run_bind, h2, Result.andThen_ok, h4, Sem.run_pure]
      · cases h
    · cases h
theorem results_ok (hE : E.Ok) {σ : Sig} {S : ASt} {w : World} {Wr : Nat → Prop} (hS : S.rel E.P σ w Wr) {f : AF} {a : Act} (hf : FRel σ f a) {fn : Func} {vs : List AV} (h : aresultL E f S fn.results.toList = some vs) :
    ∃ u, (oneOf vs).inst σ = some u ∧ (results fn a.tmps).run E.P w = .ok u w := by
  have key : ∀ g : ResultVar → Sem Value, (∀ t, g (.tmp t) = pure (a.tmps.getD t undef)) → (∀ x t, g (.cell x t) = do loadVar t (← asAddr (a.tmps.getD x undef))) →
      ∃ u, (oneOf vs).inst σ = some u ∧ (do let us ← fn.results.mapM g; pure (if h : us.size = 1 then us[0] else .tuple us) : Sem Value).run E.P w = .ok u w := by
    intro g hg1 hg2
    obtain ⟨us, h1, h2⟩ := aresultL_ok hE hS hf hg1 hg2 h
    have hm : (fn.results.mapM g).run E.P w = .ok us.toArray w := by
      rw [← Array.toArray_toList (xs := fn.results), List.mapM_toArray, Sem.run_map, h2]
      rfl
    rw [Sem.run_bind, hm]
    simp only [Result.andThen_ok, Sem.run_pure]
    cases h1 with
    | nil => exact ⟨_, by simp [oneOf, AV.inst, instL], rfl⟩
    | cons ha hl =>
      cases hl with
      | nil => exact ⟨_, by simpa [oneOf] using ha, by simp⟩
      | cons hb hl =>
        refine ⟨_, ?_, rfl⟩
        simp only [oneOf, AV.inst]
        rw [instL_iff.2 (.cons ha (.cons hb hl))]
        simp
  exact key _ (fun _ => rfl) (fun _ _ => rfl)

/-! ## A deferred function, which may recover -/

inductive AM where
  | ret
  | pan (v : AV) (recovered : Bool)
def MRel (σ : Sig) : AM → FrameMode → Prop
  | .ret, u => u = .returning
  | .pan v r, u => ∃ x, v.inst σ = some x ∧ u = .panicking [{ v := x, recovered := r }]
theorem MRel.le {σ σ' : Sig} (h : σ.le σ') {m : AM} {u : FrameMode} (hm : MRel σ m u) : MRel σ' m u := by
  cases m with
  | ret => exact hm
  | pan v r => obtain ⟨x, h1, h2⟩ := hm; exact ⟨x, AV.inst_le h _ _ h1, h2⟩

noncomputable def aopsS (E : Env) (ops : Array Oper) : List Oper → AF → AM → ASt → Option (AF × AM × ASt)
  | [], f, m, S => some (f, m, S)
  | o :: l, f, m, S => match awanted ops f.T o with
    | some true => match aopF E f.T S o with
      | some (.val v S') => match f.put o.dst v with
        | some f' => aopsS E ops l f' m S'
        | none => none
      | some (.skip S') => match f.put o.dst aundef with
        | some f' => aopsS E ops l f' m S'
        | none => none
      | some .recover => match m with
        | .pan v false => match f.put o.dst v with
          | some f' => aopsS E ops l f' (.pan v true) S
          | none => none
        | _ => match f.put o.dst .nilIface with
          | some f' => aopsS E ops l f' m S
          | none => none
      | _ => none
    | some false => match f.put o.dst aundef with
      | some f' => aopsS E ops l f' m S
      | none => none
    | none => none

noncomputable def acodeS (E : Env) (C : CallE) (R : RoundE) (X : Others) : Code → AF → AM → ASt → Option (AX × AF × AM × ASt)
  | .seq a b, f, m, S => match acodeS E C R X a f m S with
    | some (.normal, f', m', S') => acodeS E C R X b f' m' S'
    | r => r
  | .cond c a b, f, m, S => match aeval E f.T c with
    | some (.bool true) => acodeS E C R X a f m S
    | some (.bool false) => acodeS E C R X b f m S
    | _ => none
  | .region _ ops false, f, m, S => match aopsS E ops ops.toList f m S with
    | some (f', m', S') => some (.normal, f', m', S')
    | none => none
  | c, f, m, S => match acode E C R false X c f S with
    | some [(x, f', S')] => some (x, f', m, S')
    | _ => none

def StQ (E : Env) (σ : Sig) (S : ASt) (w : World) (Wr : Nat → Prop) (c₀ : Frame) (cs : List Frame) (x : AX) (f' : AF) (m' : AM) (S' : ASt) : Exit → Act → List Frame → World → Prop :=
  fun e a' cs' w' => ∃ σ' u', cs' = { c₀ with mode := u' } :: cs ∧ MRel σ' m' u' ∧ XRel σ' x e ∧ FRel σ' f' a' ∧ Post E.P σ S w Wr σ' S' w'

theorem aopsS_ok (hE : E.Ok) {ops : Array Oper} {n : Nat} {c₀ : Frame} {cs : List Frame} {Q : Exit → Act → List Frame → World → Prop} : ∀ (l : List Oper) (k : Nat) (f : AF) (m : AM) (S : ASt) {f' : AF} {m' : AM} {S' : ASt},
    ops.toList.drop k = l → aopsS E ops l f m S = some (f', m', S') → ∀ {σ : Sig} {w : World} {Wr : Nat → Prop} {a : Act} {u : FrameMode}, E.At σ → S.rel E.P σ w Wr → FRel σ f a → MRel σ m u →
      (∀ a' cs' w', StQ E σ S w Wr c₀ cs .normal f' m' S' .normal a' cs' w' → Q .normal a' cs' w') →
      wpOpsSIn Fence.wide n E.P ops Q (List.range' k l.length) a ({ c₀ with mode := u } :: cs) w
  | [], k, f, m, S, f', m', S', hd, h, σ, w, Wr, a, u, hA, hS, hf, hm, hq => by
    cases h
    exact hq a _ w ⟨σ, u, rfl, hm, rfl, hf, Post.refl hS⟩
  | o :: l, k, f, m, S, f', m', S', hd, h, σ, w, Wr, a, u, hA, hS, hf, hm, hq => by
    have h1 : ops[k]? = some o := by
      have := congrArg (fun x => x[0]?) hd
      simpa using this
    have h2 : ops.toList.drop (k + 1) = l := by
      have := congrArg (List.drop 1) hd
      simpa [List.drop_drop] using this
    have go : ∀ {f₁ : AF} {m₁ : AM} {S₁ : ASt} {σ' : Sig} {a₁ : Act} {w₁ : World} {u₁ : FrameMode}, aopsS E ops l f₁ m₁ S₁ = some (f', m', S') → FRel σ' f₁ a₁ → MRel σ' m₁ u₁ → Post E.P σ S w Wr σ' S₁ w₁ →
        wpOpsSIn Fence.wide n E.P ops Q (List.range' (k + 1) l.length) a₁ ({ c₀ with mode := u₁ } :: cs) w₁ := by
      intro f₁ m₁ S₁ σ' a₁ w₁ u₁ hev hf₁ hm₁ hp
      refine aopsS_ok hE l (k + 1) f₁ m₁ S₁ h2 hev (hA.le (hp.le hS)) hp.rel hf₁ hm₁ ?_
      rintro a' cs' w' ⟨σ'', u'', q1, q2, q3, q4, q5⟩
      exact hq a' cs' w' ⟨σ'', u'', q1, q2, q3, q4, hp.trans q5⟩
    simp only [aopsS] at h
    simp only [List.length_cons, List.range'_succ, wpOpsSIn, h1]
    refine ⟨fun _ _ => trivial, ?_⟩
    split at h
    · rename_i hw
      rw [awanted_ok hf.tmps hw]
      simp only [if_true]
      split at h
      · rename_i v S₁ hop
        split at h
        · rename_i f₁ hput
          obtain ⟨σ', y, w', e1, e2, e3⟩ := aop_ok hE hA hS hf.tmps (aopF_sound hop)
          rw [e1]
          exact go h (AF.put_ok (hf.le (e3.le hS)) e2 hput) (hm.le (e3.le hS)) e3
        · cases h
      · rename_i S₁ hop
        split at h
        · rename_i f₁ hput
          obtain ⟨σ', w', e1, e3⟩ := aop_ok hE hA hS hf.tmps (aopF_sound hop)
          rw [e1]
          exact go h (AF.put_ok (hf.le (e3.le hS)) (undef_inst σ') hput) (hm.le (e3.le hS)) e3
        · cases h
      · rename_i hop
        have e1 := aop_ok hE hA hS hf.tmps (aopF_sound hop)
        have e1' : (execOp a.eval o).run E.P w = .ok .recover w := e1
        rw [e1']
        simp only
        split at h
        · rename_i v
          split at h
          · rename_i f₁ hput
            obtain ⟨x, hx, rfl⟩ := hm
            have hrec : recoverD ({ c₀ with mode := .panicking [{ v := x, recovered := false }] } :: cs) = some (x, { c₀ with mode := .panicking [{ v := x, recovered := true }] } :: cs) := rfl
            rw [hrec]
            exact go h (AF.put_ok hf hx hput) ⟨x, hx, rfl⟩ (Post.refl hS)
          · cases h
        · rename_i m₀ hne
          split at h
          · rename_i f₁ hput
            have hrec : recoverD ({ c₀ with mode := u } :: cs) = none := by
              cases m with
              | ret => obtain rfl := hm; rfl
              | pan v r =>
                obtain ⟨x, hx, rfl⟩ := hm
                cases r with
                | false => exact absurd rfl (hne v)
                | true => rfl
            rw [hrec]
            exact go h (AF.put_ok hf (show AV.nilIface.inst σ = some .nilIface from rfl) hput) hm (Post.refl hS)
          · cases h
      · cases h
    · rename_i hw
      rw [awanted_ok hf.tmps hw]
      simp only [Bool.false_eq_true, if_false]
      split at h
      · rename_i f₁ hput
        exact go h (AF.put_ok hf (undef_inst σ) hput) hm (Post.refl hS)
      · cases h
    · cases h

theorem wpSIn_mono {n : Nat} {P : Program} {c : Code} {Q Q' : Exit → Act → List Frame → World → Prop} {a : Act} {cs : List Frame} {w : World} (h : c.wpSIn Fence.wide n P Q a cs w) (hq : ∀ e a cs w, Q e a cs w → Q' e a cs w) :
    c.wpSIn Fence.wide n P Q' a cs w :=
  fun b k h1 h2 h3 h4 => let ⟨e, a', cs', w', l, q, r⟩ := h b k h1 h2 h3 h4; ⟨e, a', cs', w', l, hq _ _ _ _ q, r⟩

theorem not_normalS {σ : Sig} {x : AX} {e : Exit} (hx : x ≠ .normal) (h : XRel σ x e) {next : Act → List Frame → World → Prop} {Q : Exit → Act → List Frame → World → Prop} {a : Act} {cs : List Frame} {w : World} (hq : Q e a cs w) :
    Exit.thenS next Q e a cs w := by
  cases x with
  | normal => exact absurd rfl hx
  | exit id => obtain rfl := h; exact hq
  | goto l => obtain rfl := h; exact hq
  | ret => obtain rfl := h; exact hq
  | panic v => obtain ⟨u, _, rfl⟩ := h; exact hq

theorem acodeS_ok (hE : E.Ok) (hC : CallsOk E C) (hR : RoundsOk E R) {X : Others} (hX : OthersOk E none X) {n : Nat} {c₀ : Frame} {cs : List Frame} : ∀ (c : Code) (f : AF) (m : AM) (S : ASt) {x : AX} {f' : AF} {m' : AM} {S' : ASt},
    acodeS E C R X c f m S = some (x, f', m', S') → ∀ {σ : Sig} {w : World} {Wr : Nat → Prop} {a : Act} {u : FrameMode}, E.At σ → S.rel E.P σ w Wr → FRel σ f a → MRel σ m u →
      c.wpSIn Fence.wide n E.P (StQ E σ S w Wr c₀ cs x f' m' S') a ({ c₀ with mode := u } :: cs) w := by
  -- what is walked as everywhere
  have plain : ∀ (c : Code) (f : AF) (m : AM) (S : ASt) {x : AX} {f' : AF} {m' : AM} {S' : ASt},
      (match acode E C R false X c f S with
        | some [(x, f', S')] => some (x, f', m, S')
        | _ => none) = some (x, f', m', S') → ∀ {σ : Sig} {w : World} {Wr : Nat → Prop} {a : Act} {u : FrameMode}, E.At σ → S.rel E.P σ w Wr → FRel σ f a → MRel σ m u →
      c.wpSIn Fence.wide n E.P (StQ E σ S w Wr c₀ cs x f' m' S') a ({ c₀ with mode := u } :: cs) w := by
    intro c f m S x f' m' S' h σ w Wr a u hA hS hf hm
    split at h
    · rename_i x₁ f₁ S₁ hev
      cases h
      refine wpSIn_of_wpIn rfl (wpIn_mono (acode_ok hE hC hR (ro := none) hX c f S _ hev σ w Wr a n hA hS hf) ?_)
      rintro e a' w' ⟨o, ho, σ', q1, q2, q3⟩
      rw [List.mem_singleton] at ho
      subst ho
      exact ⟨σ', u, rfl, hm.le (q3.le hS), q1, q2, q3⟩
    · cases h
  intro c
  induction c with
  | seq c d ihc ihd =>
    intro f m S x f' m' S' h σ w Wr a u hA hS hf hm
    simp only [acodeS] at h
    split at h
    · rename_i f₁ m₁ S₁ h₁
      refine wpSIn_seq (wpSIn_mono (ihc f m S h₁ hA hS hf hm) ?_)
      rintro e a₁ cs₁ w₁ ⟨σ', u', rfl, q2, rfl, q4, q5⟩
      refine wpSIn_mono (ihd f₁ m₁ S₁ h (hA.le (q5.le hS)) q5.rel q4 q2) ?_
      rintro e a₂ cs₂ w₂ ⟨σ'', u'', r1, r2, r3, r4, r5⟩
      exact ⟨σ'', u'', r1, r2, r3, r4, q5.trans r5⟩
    · rename_i hne
      have hx : x ≠ .normal := fun e => by subst e; exact hne f' m' S' h
      refine wpSIn_seq (wpSIn_mono (ihc f m S h hA hS hf hm) ?_)
      intro e a₁ cs₁ w₁ hq
      exact not_normalS hx hq.choose_spec.choose_spec.2.2.1 hq
  | cond c t e iht ihe =>
    intro f m S x f' m' S' h σ w Wr a u hA hS hf hm
    simp only [acodeS] at h
    split at h
    · rename_i hc
      have hv := aeval_ok hA hf.tmps hc
      simp only [AV.inst, Option.some.injEq] at hv
      exact wpSIn_cond (t := true) hv.symm (iht f m S h hA hS hf hm)
    · rename_i hc
      have hv := aeval_ok hA hf.tmps hc
      simp only [AV.inst, Option.some.injEq] at hv
      exact wpSIn_cond (t := false) hv.symm (ihe f m S h hA hS hf hm)
    · cases h
  | region id ops draw =>
    intro f m S x f' m' S' h σ w Wr a u hA hS hf hm
    cases draw with
    | false =>
      simp only [acodeS] at h
      split at h
      · rename_i f₁ m₁ S₁ hev
        cases h
        refine wpSIn_region ?_
        have := aopsS_ok (n := n) (c₀ := c₀) (cs := cs) (Q := StQ E σ S w Wr c₀ cs .normal f' m' S') hE ops.toList 0 f m S (by simp) hev hA hS hf hm (fun _ _ _ q => q)
        rw [List.range_eq_range']
        simpa using this
      · cases h
    | true => exact plain _ f m S (by simpa only [acodeS] using h) hA hS hf hm
  | skip => intro f m S x f' m' S' h; exact plain _ f m S (by simpa only [acodeS] using h)
  | block id c ih => intro f m S x f' m' S' h; exact plain _ f m S (by simpa only [acodeS] using h)
  | loop c ih => intro f m S x f' m' S' h; exact plain _ f m S (by simpa only [acodeS] using h)
  | rangeFunc g ps a b iha ihb => intro f m S x f' m' S' h; exact plain _ f m S (by simpa only [acodeS] using h)
  | exit id => intro f m S x f' m' S' h; exact plain _ f m S (by simpa only [acodeS] using h)
  | scope c ih => intro f m S x f' m' S' h; exact plain _ f m S (by simpa only [acodeS] using h)
  | label l => intro f m S x f' m' S' h; exact plain _ f m S (by simpa only [acodeS] using h)
  | goto l => intro f m S x f' m' S' h; exact plain _ f m S (by simpa only [acodeS] using h)
  | ret => intro f m S x f' m' S' h; exact plain _ f m S (by simpa only [acodeS] using h)
  | refuse s => intro f m S x f' m' S' h; exact plain _ f m S (by simpa only [acodeS] using h)

end
end Go.Proofs.YtliimmpokhmjeaaGreatDoor.Zev
