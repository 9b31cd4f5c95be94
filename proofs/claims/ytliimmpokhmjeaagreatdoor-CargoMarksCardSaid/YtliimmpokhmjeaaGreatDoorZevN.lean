/-
  Leaving a function with deferred calls; ranges over functions and their rounds; calls, to any depth.
-/
import Derived.Test.YtliimmpokhmjeaaGreatDoorZevM
namespace Go.Proofs.YtliimmpokhmjeaaGreatDoor.Zev
open Go
set_option linter.unusedSimpArgs false
set_option linter.unusedVariables false

/-! ## Deferred calls -/

def settleA : AM → AM
  | .pan v true => .ret
  | m => m
theorem settle_ok {σ : Sig} {m : AM} {u : FrameMode} (h : MRel σ m u) : MRel σ (settleA m) (settle u) := by
  cases m with
  | ret => obtain rfl := h; rfl
  | pan v r =>
    obtain ⟨x, hx, rfl⟩ := h
    cases r with
    | true => rfl
    | false => exact ⟨x, hx, rfl⟩

structure Ev where
  call : CallE
  round : RoundE

noncomputable def adeferred (E : Env) (V : Ev) (X : Others) (g : FuncId) (args : List AV) (m : AM) (S : ASt) : Option (AM × ASt) :=
  match E.fn g with
  | some fn => match fn.body with
    | some c => match aframe args fn.ntmps with
      | some f => match acodeS E V.call V.round X c f m S with
        | some (.normal, f', m', S') => match f'.defers with
          | [] => match aresultL E f' S' fn.results.toList with
            | some _ => some (m', S')
            | none => none
          | _ => none
        | some (.ret, f', m', S') => match f'.defers with
          | [] => match aresultL E f' S' fn.results.toList with
            | some _ => some (m', S')
            | none => none
          | _ => none
        | _ => none
      | none => none
    | none => none
  | none => none

noncomputable def aleave (E : Env) (V : Ev) (X : Others) (fn : Func) (f : AF) : List ADef → AM → ASt → Option (AE × ASt)
  | [], .ret, S => match aresultL E f S fn.results.toList with
    | some vs => some (.ret (oneOf vs), S)
    | none => none
  | [], .pan v false, S => some (.panic v, S)
  | [], .pan _ true, _ => none
  | d :: ds, m, S => match d.target with
    | .collected id => match S.heap.get id with
      | some (.deferred (some [])) => match S.limit id && Nat.blt id maxIds with
        | true => aleave E V X fn f ds m { heap := Trie.put (some (.deferred none)) depth S.heap id, next := S.next, limit := S.limit }
        | false => none
      | _ => none
    | .code (.func g) cap => match adeferred E V X g (d.args ++ cap) m S with
      | some (m', S') => aleave E V X fn f ds (settleA m') S'
      | none => none
    | _ => none

noncomputable def leave1 (E : Env) (V : Ev) (X : Others) (fn : Func) (o : Out) : Option (List (AE × ASt)) :=
  match o with
  | (.normal, f, S) => match aleave E V X fn f f.defers .ret S with
    | some r => some [r]
    | none => none
  | (.ret, f, S) => match aleave E V X fn f f.defers .ret S with
    | some r => some [r]
    | none => none
  | (.panic v, f, S) => match aleave E V X fn f f.defers (.pan v false) S with
    | some r => some [r]
    | none => none
  | _ => none

section
variable {E : Env} {V : Ev} {X : Others}

def EvOk (E : Env) (V : Ev) : Prop := CallsOk E V.call ∧ RoundsOk E V.round

theorem adeferred_ok (hE : E.Ok) (hV : EvOk E V) (hX : OthersOk E none X) {g : FuncId} {args : List AV} {m m' : AM} {S S' : ASt} (h : adeferred E V X g args m S = some (m', S'))
    {σ : Sig} {w : World} {Wr : Nat → Prop} {us : List Value} {u : FrameMode} {n : Nat} (hA : E.At σ) (hS : S.rel E.P σ w Wr) (hi : Ins σ args us) (hm : MRel σ m u) :
    CallsDIn Fence.wide n E.P g us.toArray u w fun e u' w' => ∃ σ' v, e = .returned v ∧ MRel σ' m' u' ∧ Post E.P σ S w Wr σ' S' w' := by
  unfold adeferred at h
  split at h
  · rename_i fn hfn
    split at h
    · rename_i c hc
      split at h
      · rename_i f hf
        have hfr := aframe_ok hi hf
        have key : ∀ x f₁ m₁ S₁, acodeS E V.call V.round X c f m S = some (x, f₁, m₁, S₁) → (x = .normal ∨ x = .ret) → f₁.defers = [] → (∃ vs, aresultL E f₁ S₁ fn.results.toList = some vs) →
            CallsDIn Fence.wide n E.P g us.toArray u w fun e u' w' => ∃ σ' v, e = .returned v ∧ MRel σ' m₁ u' ∧ Post E.P σ S w Wr σ' S₁ w' := by
          intro x f₁ m₁ S₁ hev hx hd hres
          obtain ⟨vs, hvs⟩ := hres
          refine callsDIn_of_wpSIn (hE.fn g fn hfn) hc trivial ?_
          intro c₀ cs hmode
          have hself : ({ c₀ with mode := u } : Frame) = c₀ := by subst hmode; rfl
          have hw := acodeS_ok (n := n) (c₀ := c₀) (cs := cs) hE hV.1 hV.2 hX c f m S hev hA hS hfr hm
          rw [hself] at hw
          refine wpSIn_mono hw ?_
          rintro e a' cs' w' ⟨σ', u', rfl, q2, q3, q4, q5⟩
          obtain ⟨y, h1, h2⟩ := results_ok hE q5.rel q4 hvs
          have hdef : a'.defers = [] := by
            have := q4.defers
            rw [hd] at this
            simpa [instD] using this.symm
          have hfin : a'.defers = [] ∧ ∃ u'', ({ c₀ with mode := u' } :: cs : List Frame) = { c₀ with mode := u'' } :: cs ∧ ∃ v, (results fn a'.tmps).run E.P w' = .ok v w' ∧
              ∃ σ' v', Ending.returned v = .returned v' ∧ MRel σ' m₁ u'' ∧ Post E.P σ S w Wr σ' S₁ w' :=
            ⟨hdef, u', rfl, y, h2, σ', y, rfl, q2, q5⟩
          rcases hx with rfl | rfl
          · obtain rfl := q3; exact hfin
          · obtain rfl := q3; exact hfin
        split at h
        · rename_i f₁ m₁ S₁ hev
          split at h
          · rename_i hd
            split at h
            · rename_i vs hvs
              cases h
              exact key _ _ _ _ hev (.inl rfl) hd ⟨vs, hvs⟩
            · cases h
          · cases h
        · rename_i f₁ m₁ S₁ hev
          split at h
          · rename_i hd
            split at h
            · rename_i vs hvs
              cases h
              exact key _ _ _ _ hev (.inr rfl) hd ⟨vs, hvs⟩
            · cases h
          · cases h
        · cases h
      · cases h
    · cases h
  · cases h

theorem CallQ.trans {σ σ' : Sig} {S S₁ S' : ASt} {w w₁ : World} {Wr : Nat → Prop} {r : AE} (hp : Post E.P σ S w Wr σ' S₁ w₁) {e : Ending} {w' : World} (h : CallQ E σ' S₁ w₁ Wr r S' e w') : CallQ E σ S w Wr r S' e w' := by
  obtain ⟨σ'', q1, q3⟩ := h
  exact ⟨σ'', q1, hp.trans q3⟩

theorem aleave_ok (hE : E.Ok) (hV : EvOk E V) (hX : OthersOk E none X) {fn : Func} {f : AF} {n : Nat} {Rr : Ending → World → Prop} : ∀ (ds : List ADef) (m : AM) (S : ASt) {r : AE} {S' : ASt}, aleave E V X fn f ds m S = some (r, S') →
    ∀ {σ : Sig} {w : World} {Wr : Nat → Prop} {a : Act} {u : FrameMode} {dv : List Deferred}, E.At σ → S.rel E.P σ w Wr → FRel σ f a → MRel σ m u → instD σ ds = some dv →
      (∀ e w', CallQ E σ S w Wr r S' e w' → Rr e w') → LeavesInM Fence.wide n E.P fn a.tmps Rr dv u w
  | [], m, S, r, S', h, σ, w, Wr, a, u, dv, hA, hS, hf, hm, hd, hq => by
    simp only [instD, Option.some.injEq] at hd
    subst hd
    cases m with
    | ret =>
      obtain rfl := hm
      simp only [aleave] at h
      split at h
      · rename_i vs hvs
        cases h
        obtain ⟨y, h1, h2⟩ := results_ok hE hS hf hvs
        exact ⟨y, h2, hq _ _ ⟨σ, ⟨y, h1, rfl⟩, Post.refl hS⟩⟩
      · cases h
    | pan v rr =>
      obtain ⟨x, hx, rfl⟩ := hm
      cases rr with
      | false =>
        simp only [aleave, Option.some.injEq, Prod.mk.injEq] at h
        obtain ⟨rfl, rfl⟩ := h
        exact hq _ _ ⟨σ, ⟨x, hx, rfl⟩, Post.refl hS⟩
      | true => simp only [aleave] at h; cases h
  | d :: ds, m, S, r, S', h, σ, w, Wr, a, u, dv, hA, hS, hf, hm, hd, hq => by
    simp only [instD] at hd
    split at hd
    · rename_i d' hd'
      split at hd
      · rename_i dv' hdv
        cases hd
        have hrun : u ≠ .run := by
          cases m with
          | ret => obtain rfl := hm; simp
          | pan v rr => obtain ⟨x, hx, rfl⟩ := hm; simp
        refine ⟨hrun, ?_⟩
        simp only [ADef.inst] at hd'
        split at hd'
        · rename_i t ht
          split at hd'
          · rename_i args hargs
            cases hd'
            simp only [aleave] at h
            split at h
            · rename_i id htar
              rw [htar] at ht
              simp only [ATarget.inst] at ht
              split at ht
              · rename_i x hx
                cases ht
                split at h
                · rename_i hb
                  split at h
                  · rename_i hc
                    simp only [Bool.and_eq_true] at hc
                    obtain ⟨b, κ, o, e1, e2, e3⟩ := hS.at_ id _ hb
                    rw [hx] at e1; cases e1
                    obtain ⟨ds', g1, g2⟩ := e3
                    simp only [instD, Option.some.injEq] at g1
                    subst g1
                    subst g2
                    have hp := post_set hS hb hc.1 hx (blk := .deferred none) (o := .deferred none) rfl (lt_of_blt hc.2) (w' := w.putObj b (.deferred none)) rfl
                    refine .inl ⟨b, _, rfl, run_takeDeferred e2, ?_⟩
                    exact aleave_ok hE hV hX ds m _ h hA hp.rel hf hm hdv fun e w' q => hq e w' (q.trans hp)
                  · cases h
                · cases h
              · cases ht
            · rename_i g cap htar
              rw [htar] at ht
              simp only [ATarget.inst] at ht
              split at ht
              · rename_i cv hcv
                cases ht
                split at h
                · rename_i m' S₁ hdc
                  have hfn : ∃ fn', E.fn g = some fn' ∧ fn'.body.isSome = true := by
                    unfold adeferred at hdc
                    split at hdc
                    · rename_i fn' hfn'
                      split at hdc
                      · rename_i c hc
                        exact ⟨fn', hfn', by simp [hc]⟩
                      · cases hdc
                    · cases hdc
                  obtain ⟨fn', hfn', hbody⟩ := hfn
                  have hins := (instL_iff.1 hargs).append (instL_iff.1 hcv)
                  refine .inr ⟨fun hdp => by simp [Fence.wide] at hdp, .func g, cv.toArray, g, (args ++ cv).toArray, rfl, ?_, fun _ _ => trivial, ?_⟩
                  · have hP := hE.fn g fn' hfn'
                    have hnm := hE.name g fn' hfn'
                    cases hb : fn'.body with
                    | none => rw [hb] at hbody; cases hbody
                    | some c =>
                      simp only [invoke, callFunc, Sem.run_bind, run_program, Result.andThen_ok, hP, hnm, hb]
                      simp
                  · refine (adeferred_ok hE hV hX hdc hA hS hins hm).mono ?_
                    rintro e u' w' ⟨σ', v, rfl, q2, q3⟩
                    exact aleave_ok hE hV hX ds _ _ h (hA.le (q3.le hS)) q3.rel (hf.le (q3.le hS)) (settle_ok q2) (instD_le (q3.le hS) hdv) fun e w' q => hq e w' (q.trans q3)
                · cases h
              · cases ht
            · cases h
          · cases hd'
        · cases hd'
      · cases hd
    · cases hd
end

/-! ## Ranges over functions -/

noncomputable def arangeF (E : Env) (V : Ev) (g : Operand) (ps : Array Tmp) (assign body : Code) (f : AF) (S : ASt) : Option (List Out) :=
  match aeval E f.T g with
  | some (.func (.func gf) first cap) => match E.fn gf with
    | some fn => match fn.body with
      | some _ => match anew S (.deferred (some [])) with
        | some S₁ => match anew S₁ (.loop { state := .ready, pending := none, tmps := f.T, size := f.size, params := ps, assign, body, defers := S.next }) with
          | some S₂ => match V.call gf (first ++ [.yield S₁.next] ++ cap) S₂ with
            | some (.ret _, S₃) => match S₃.heap.get S₁.next with
              | some (.loop lp) => match lp.state with
                | .busy => none
                | _ => match S₃.limit S₁.next && Nat.blt S₁.next maxIds with
                  | true =>
                    let S₄ : ASt := { heap := Trie.put (some (.loop { lp with state := .exhausted })) depth S₃.heap S₁.next, next := S₃.next, limit := S₃.limit }
                    let f' : AF := { T := f.T, size := f.size, defers := { target := .collected S.next, args := [] } :: f.defers }
                    match lp.pending with
                    | none => some [(.normal, f', S₄)]
                    | some .ret => some [(.ret, f', S₄)]
                    | some (.exit id) => some [(.exit id, f', S₄)]
                    | _ => none
                  | false => none
              | _ => none
            | _ => none
          | none => none
        | none => none
      | none => none
    | none => none
  | _ => none

noncomputable def mkOthers (E : Env) (V : Ev) (isRound : Bool) : Others := {
  draw := fun _ ops => adraw E V.call ops,
  range := match isRound with
    | true => fun _ _ _ _ _ _ => none
    | false => arangeF E V }

noncomputable def putParams (size : Nat) : List Tmp → List AV → Trie AV → Option (Trie AV)
  | [], [], T => some T
  | t :: ts, v :: vs, T => match Nat.blt t size && Nat.blt t maxIds with
    | true => putParams size ts vs (Trie.put (some v) depth T t)
    | false => none
  | _, _, _ => none

noncomputable def aroundE (E : Env) (V : Ev) (id : Nat) (args : List AV) (S : ASt) : Option (AE × ASt) :=
  match S.heap.get id with
  | some (.loop lp) => match putParams lp.size lp.params.toList args lp.tmps with
    | some T => match acode E V.call V.round true (mkOthers E V true) lp.assign { T := T, size := lp.size, defers := [] } S with
      | some [(.normal, f₁, S₁)] => match S₁.heap.get id with
        | some (.loop lp₁) => match lp₁.state with
          | .ready => match S₁.limit id && Nat.blt id maxIds with
            | true => match acode E V.call V.round true (mkOthers E V true) lp.body f₁ { heap := Trie.put (some (.loop { lp₁ with state := .busy })) depth S₁.heap id, next := S₁.next, limit := S₁.limit } with
              | some [(x, f₃, S₃)] => match S₃.heap.get id with
                | some (.loop lp₃) => match S₃.limit id with
                  | true => match x with
                    | .normal => some (.ret (.bool true), { heap := Trie.put (some (.loop { lp₃ with state := .ready, pending := none })) depth S₃.heap id, next := S₃.next, limit := S₃.limit })
                    | .ret => some (.ret (.bool false), { heap := Trie.put (some (.loop { lp₃ with state := .done, pending := some .ret })) depth S₃.heap id, next := S₃.next, limit := S₃.limit })
                    | .exit i => some (.ret (.bool false), { heap := Trie.put (some (.loop { lp₃ with state := .done, pending := some (.exit i) })) depth S₃.heap id, next := S₃.next, limit := S₃.limit })
                    | _ => none
                  | false => none
                | _ => none
              | _ => none
            | false => none
          | _ => none
        | _ => none
      | _ => none
    | none => none
  | _ => none

section
variable {E : Env} {V : Ev}

theorem get_loop {σ : Sig} {S : ASt} {w : World} {Wr : Nat → Prop} (hS : S.rel E.P σ w Wr) {id : Nat} {lp : ALoop} (h : S.heap.get id = some (.loop lp)) :
    ∃ b κ l, σ id = some (b, κ) ∧ w.heap[b]? = some (.loop l) ∧ LRel σ lp l := by
  obtain ⟨b, κ, o, h1, h2, h3⟩ := hS.at_ id _ h
  obtain ⟨l, hl, ho⟩ := h3
  subst ho
  exact ⟨b, κ, l, h1, h2, hl⟩

theorem arangeF_ok (hE : E.Ok) (hV : EvOk E V) (g : Operand) (ps : Array Tmp) (assign body : Code) : CodeOk E none (.rangeFunc g ps assign body) (arangeF E V g ps assign body) := by
  intro f S outs h σ w Wr a n hA hS hf
  unfold arangeF at h
  split at h
  · rename_i gf first cap hg
    split at h
    · rename_i fn hfn
      split at h
      · rename_i bd hbd
        split at h
        · rename_i S₁ hn₁
          split at h
          · rename_i S₂ hn₂
            split at h
            · rename_i v S₃ hcall
              split at h
              · rename_i lp hlp
                split at h
                · cases h
                · rename_i hnb
                  split at h
                  · rename_i hc
                    simp only [Bool.and_eq_true] at hc
                    obtain ⟨fs, cs, i1, i2, i3⟩ := inst_func (aeval_ok hA hf.tmps hg)
                    -- the two new blocks
                    obtain ⟨p1, s1⟩ := anew_ok (w' := w.alloc (.deferred (some []))) hS hn₁ (κ := 0) (o := .deferred (some [])) ⟨[], rfl, rfl⟩ rfl
                    refine wpIn_rangeFunc fun fnid _ => ?_
                    let l0 : Loop := { state := .ready, pending := none, fn := fnid, tmps := a.tmps, params := ps, assign, body, defers := w.heap.size }
                    have hsz : (w.alloc (.deferred (some []))).heap.size = w.heap.size + 1 := by simp
                    obtain ⟨p2, s2⟩ := anew_ok (w' := (w.alloc (.deferred (some []))).alloc (.loop l0)) p1.rel hn₂ (κ := 0) (o := .loop l0)
                      ⟨l0, ⟨rfl, rfl, (hf.tmps.le (p1.le hS)), hf.size, rfl, rfl, rfl, ⟨_, s1, rfl⟩⟩, rfl⟩ rfl
                    have p12 := p1.trans p2
                    have hle := p12.le hS
                    have hins : Ins (((σ.add S.next (w.heap.size, 0))).add S₁.next ((w.alloc (.deferred (some []))).heap.size, 0)) (first ++ [.yield S₁.next] ++ cap) (fs ++ [Value.func (.yield (w.heap.size + 1)) #[] #[]] ++ cs) := by
                      refine ((i1.le hle).append (.cons ?_ .nil)).append (i2.le hle)
                      simp only [AV.inst]
                      rw [s2]
                      simp only [hsz]
                    refine ⟨w.heap.size + 1, [{ target := .collected w.heap.size, args := #[] }], (w.alloc (.deferred (some []))).alloc (.loop l0), { target := .fn (.func gf) cs.toArray, args := fs.toArray ++ #[Value.func (.yield (w.heap.size + 1)) #[] #[]] },
                      (w.alloc (.deferred (some []))).alloc (.loop l0), gf, (fs ++ [Value.func (.yield (w.heap.size + 1)) #[] #[]] ++ cs).toArray, (w.alloc (.deferred (some []))).alloc (.loop l0), run_enterLoop_outer _ _ _ _ _, ?_, fun _ _ => trivial, ?_,
                      fun hd => by simp [fence, Fence.wide] at hd, ?_⟩
                    · simp only [resolve, rangeCall, i3, Deferred.ofValue]
                      simp [Act.eval]
                    · have hP := hE.fn gf fn hfn
                      have hnm := hE.name gf fn hfn
                      simp only [invoke, callFunc, Sem.run_bind, run_program, Result.andThen_ok, hP, hnm, hbd]
                      simp
                    · refine fence_calls (ro := none) ((hV.1 gf _ S₂ _ _ hcall _ _ Wr _ (hA.le hle) p2.rel hins).mono ?_)
                      rintro e w₃ ⟨σ₃, ⟨y, hy, rfl⟩, p3⟩
                      have p13 := p12.trans p3
                      obtain ⟨b, κ, l, e1, e2, e3⟩ := get_loop p3.rel hlp
                      have hb : b = w.heap.size + 1 := by
                        have := (p3.le p2.rel) _ _ s2
                        rw [e1] at this
                        cases this
                        exact hsz
                      subst hb
                      have hbusy : l.state ≠ .busy := by rw [e3.state]; exact hnb
                      have p4 := post_set p3.rel hlp hc.1 e1 (blk := .loop { lp with state := .exhausted }) (o := .loop { l with state := .exhausted })
                        ⟨{ l with state := .exhausted }, ⟨rfl, e3.pending, e3.tmps, e3.size, e3.params, e3.assign, e3.body, e3.defers⟩, rfl⟩ (lt_of_blt hc.2) (w' := w₃.putObj (w.heap.size + 1) (.loop { l with state := .exhausted })) rfl
                      have p14 := p13.trans p4
                      have hfr : FRel σ₃ { T := f.T, size := f.size, defers := { target := .collected S.next, args := [] } :: f.defers } { a with defers := [{ target := .collected w.heap.size, args := #[] }] ++ a.defers } := by
                        have hle3 := p13.le hS
                        refine ⟨hf.tmps.le hle3, hf.size, ?_⟩
                        have hs1 : σ₃ S.next = some (w.heap.size, 0) := ((p3.le p2.rel) _ _ ((p2.le p1.rel) _ _ s1))
                        simp [instD, ADef.inst, ATarget.inst, hs1, instL, instD_le hle3 hf.defers]
                      have hend := run_endLoop (P := E.P) e2 hbusy
                      split at h
                      · rename_i hpe
                        cases h
                        exact ⟨none, _, hend.trans (by rw [e3.pending, hpe]), .one ⟨σ₃, rfl, hfr, p14⟩⟩
                      · rename_i hpe
                        cases h
                        exact ⟨some .ret, _, hend.trans (by rw [e3.pending, hpe]), wpIn_ret (.one ⟨σ₃, rfl, hfr, p14⟩)⟩
                      · rename_i i hpe
                        cases h
                        exact ⟨some (.exit i), _, hend.trans (by rw [e3.pending, hpe]), wpIn_exit (.one ⟨σ₃, rfl, hfr, p14⟩)⟩
                      · cases h
                  · cases h
              · cases h
            · cases h
          · cases h
        · cases h
      · cases h
    · cases h
  · cases h

theorem mkOthers_ok (hE : E.Ok) (hV : EvOk E V) (ro : Option Nat) : OthersOk E ro (mkOthers E V ro.isSome) := by
  refine ⟨fun id ops => adraw_ok hE hV.1 ro id ops, fun g ps assign body => ?_⟩
  cases ro with
  | none => exact arangeF_ok hE hV g ps assign body
  | some b => intro f S outs h; cases h

theorem putParams_ok {σ : Sig} {size : Nat} : ∀ {ps : List Tmp} {vs : List AV} {us : List Value} {T T' : Trie AV} {tmps : Array Value}, putParams size ps vs T = some T' → Ins σ vs us → TRel σ T tmps → tmps.size = size →
    ps.length = vs.length ∧ TRel σ T' ((ps.zip us).foldl (fun t (p, v) => t.setIfInBounds p v) tmps) ∧ ((ps.zip us).foldl (fun t (p, v) => t.setIfInBounds p v) tmps).size = size
  | [], [], us, T, T', tmps, h, hi, hT, hs => by
    cases hi
    simp only [putParams, Option.some.injEq] at h
    subst h
    exact ⟨rfl, hT, hs⟩
  | t :: ts, v :: vs, us, T, T', tmps, h, hi, hT, hs => by
    cases hi with
    | cons ha hl =>
      rename_i u us
      simp only [putParams] at h
      split at h
      · rename_i hc
        simp only [Bool.and_eq_true] at hc
        have hput := AF.put_ok (σ := σ) (f := { T := T, size := size, defers := [] }) (a := { tmps := tmps, defers := [] }) ⟨hT, hs, rfl⟩ (dst := some t) ha (f' := { T := Trie.put (some v) depth T t, size := size, defers := [] }) (by have e1 := hc.1; have e2 := hc.2; unfold Nat.blt at e1 e2; simp only [AF.put, Nat.succ_eq_add_one, e1, e2])
        obtain ⟨h1, h2, h3⟩ := putParams_ok (tmps := tmps.setIfInBounds t u) h hl hput.tmps hput.size
        exact ⟨by simp [h1], by simpa using h2, by simpa using h3⟩
      · cases h
  | [], _ :: _, us, T, T', tmps, h, hi, hT, hs => by simp [putParams] at h
  | _ :: _, [], us, T, T', tmps, h, hi, hT, hs => by simp [putParams] at h

theorem aroundE_ok (hE : E.Ok) (hV : EvOk E V) : RoundsOk E (aroundE E V) := by
  intro id args S r S' h σ w Wr us b κ hA hS hi hs
  unfold aroundE at h
  split at h
  · rename_i lp hlp
    obtain ⟨b', κ', l, e1, e2, e3⟩ := get_loop hS hlp
    rw [hs] at e1; cases e1
    split at h
    · rename_i T hput
      obtain ⟨hlen, hT, hsize⟩ := putParams_ok (tmps := l.tmps) hput hi e3.tmps e3.size
      have hul := hi.length
      have hfold : ((l.params.zip us.toArray).foldl (fun tmps (t, a) => tmps.setIfInBounds t a) l.tmps) = ((lp.params.toList.zip us).foldl (fun t (p, v) => t.setIfInBounds p v) l.tmps) := by
        rw [← Array.foldl_toList, Array.toList_zip, e3.params]
      refine ⟨l.fn, _, l.assign, l.body, run_yield e2 (by rw [e3.params]; simp at hlen ⊢; omega), fun n => ?_⟩
      rw [hfold, e3.assign, e3.body]
      split at h
      · rename_i f₁ S₁ hass
        split at h
        · rename_i lp₁ hlp₁
          split at h
          · rename_i hready
            split at h
            · rename_i hc
              simp only [Bool.and_eq_true] at hc
              split at h
              · rename_i x f₃ S₃ hbody
                split at h
                · rename_i lp₃ hlp₃
                  split at h
                  · rename_i hlim
                    refine roundIn_of_wpIn trivial ?_
                    have hX := mkOthers_ok hE hV (some b)
                    have hw := acode_ok hE hV.1 hV.2 (ro := some b) hX lp.assign { T := T, size := lp.size, defers := [] } S _ hass σ w Wr { tmps := (lp.params.toList.zip us).foldl (fun t (p, v) => t.setIfInBounds p v) l.tmps, defers := [] } n hA hS ⟨hT, hsize, rfl⟩
                    refine wpIn_mono hw ?_
                    rintro e a₁ w₁ ⟨o, ho, hcq⟩
                    rw [List.mem_singleton] at ho
                    subst ho
                    obtain ⟨σ₁, rfl, q2, q3⟩ := hcq
                    obtain ⟨b₁, κ₁, l₁, f1, f2, f3⟩ := get_loop q3.rel hlp₁
                    have hb1 : b₁ = b := by
                      have := (q3.le hS) _ _ hs
                      rw [f1] at this
                      cases this; rfl
                    subst hb1
                    have p2 := post_set q3.rel hlp₁ hc.1 f1 (blk := .loop { lp₁ with state := .busy }) (o := .loop { l₁ with state := .busy })
                      ⟨{ l₁ with state := .busy }, ⟨rfl, f3.pending, f3.tmps, f3.size, f3.params, f3.assign, f3.body, f3.defers⟩, rfl⟩ (lt_of_blt hc.2) (w' := w₁.putObj b₁ (.loop { l₁ with state := .busy })) rfl
                    refine ⟨_, run_beginRound f2 (by rw [f3.state]; exact hready), ?_⟩
                    have p12 := q3.trans p2
                    have hw2 := acode_ok hE hV.1 hV.2 (ro := some b₁) hX lp.body f₁ _ _ hbody σ₁ _ Wr a₁ n (hA.le (p12.le hS)) p2.rel q2
                    refine wpIn_mono hw2 ?_
                    rintro e a₃ w₃ ⟨o, ho, hcq⟩
                    rw [List.mem_singleton] at ho
                    subst ho
                    obtain ⟨σ₃, r1, r2, r3⟩ := hcq
                    have p13 := p12.trans r3
                    obtain ⟨b₃, κ₃, l₃, g1, g2, g3⟩ := get_loop r3.rel hlp₃
                    have hb3 : b₃ = b₁ := by
                      have := (p13.le hS) _ _ hs
                      rw [g1] at this
                      cases this; rfl
                    subst hb3
                    have fin : ∀ (st : LoopState) (pe : Option Code), Post E.P σ S w Wr σ₃ { heap := Trie.put (some (.loop { lp₃ with state := st, pending := pe })) depth S₃.heap id, next := S₃.next, limit := S₃.limit } (w₃.putObj b₃ (.loop { l₃ with state := st, pending := pe })) := fun st pe =>
                      p13.trans (post_set r3.rel hlp₃ hlim g1 (blk := .loop { lp₃ with state := st, pending := pe }) (o := .loop { l₃ with state := st, pending := pe })
                        ⟨{ l₃ with state := st, pending := pe }, ⟨rfl, rfl, g3.tmps, g3.size, g3.params, g3.assign, g3.body, g3.defers⟩, rfl⟩ (lt_of_blt hc.2) rfl)
                    split at h
                    · obtain rfl := r1
                      cases h
                      exact ⟨_, _, run_endRound none g2, σ₃, ⟨_, rfl, rfl⟩, fin .ready none⟩
                    · obtain rfl := r1
                      cases h
                      exact ⟨_, _, run_endRound (some .ret) g2, σ₃, ⟨_, rfl, rfl⟩, fin .done (some .ret)⟩
                    · rename_i i
                      obtain rfl := r1
                      cases h
                      exact ⟨_, _, run_endRound (some (.exit i)) g2, σ₃, ⟨_, rfl, rfl⟩, fin .done (some (.exit i))⟩
                    · cases h
                  · cases h
                · cases h
              · cases h
            · cases h
          · cases h
        · cases h
      · cases h
    · cases h
  · cases h
end
end Go.Proofs.YtliimmpokhmjeaaGreatDoor.Zev
