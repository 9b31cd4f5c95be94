/-
  Operations that touch no memory, on abstract values.
-/
import Derived.Test.YtliimmpokhmjeaaGreatDoorZevB
namespace Go.Proofs.YtliimmpokhmjeaaGreatDoor.Zev
open Go
set_option linter.unusedSimpArgs false
set_option linter.unusedVariables false

/-! ## A computation that asks nothing of the world -/

noncomputable def pureRun {α : Type} (P : Program) (s : Sem α) : Option α :=
  Sem.rec (motive := fun _ => Option α) (fun a => some a) (fun _ _ _ _ => none) (fun _ _ _ _ _ => none) (fun _ _ _ => none) (fun _ _ _ => none)
    (fun _ _ _ _ => none) (fun _ _ _ => none) (fun _ _ _ => none) (fun _ _ _ _ => none) (fun _ _ _ => none) (fun _ _ _ => none) (fun _ ih => ih P) (fun _ _ ih => ih) (fun _ => none) s

theorem pureRun_run {α : Type} (P : Program) (s : Sem α) : ∀ a, pureRun P s = some a → ∀ w, s.run P w = .ok a w := by
  induction s with
  | pure a => intro b h w; cases h; rfl
  | program k ih => intro b h w; exact ih P b h w
  | mark m k ih => intro b h w; exact ih b h w
  | load => intro b h; cases h
  | store => intro b h; cases h
  | new => intro b h; cases h
  | shape => intro b h; cases h
  | freeze => intro b h; cases h
  | frozen => intro b h; cases h
  | getObj => intro b h; cases h
  | setObj => intro b h; cases h
  | choose => intro b h; cases h
  | sys => intro b h; cases h
  | halt => intro b h; cases h

/-! ## What is known of the program -/

structure Env where
  P : Program
  und : TypeId → Option TypeDesc
  inf : TypeId → Option TypeInfo
  fn : FuncId → Option Func
  glob : Nat → Option Nat
  pure : FuncId → Bool

structure Env.Ok (E : Env) : Prop where
  und : ∀ t d, E.und t = some d → E.P.underlying t = some d
  inf : ∀ t i, E.inf t = some i → E.P.info? t = some i
  fn : ∀ f g, E.fn f = some g → E.P.funcs[f]? = some g
  name : ∀ f g, E.fn f = some g → (g.name == "runtime.NumGoroutine") = false
  mixed : E.P.follows .mixedOrders = true
def Env.At (E : Env) (σ : Sig) : Prop := ∀ g id, E.glob g = some id → ∃ κ, σ id = some (g, κ)
theorem Env.At.le {E : Env} {σ σ' : Sig} (h : σ.le σ') (hE : E.At σ) : E.At σ' := fun g id e => let ⟨κ, hk⟩ := hE g id e; ⟨κ, h _ _ hk⟩

noncomputable def aeval (E : Env) (T : Trie AV) : Operand → Option AV
  | .tmp t => T.get t
  | .const v => ofV v
  | .global g => match E.glob g with | some id => some (.ptr id 0) | none => none
  | .func f => some (.func (.func f) [] [])

/-- The slots of a frame read out, as the operands read them. -/
theorem aeval_ok {E : Env} {σ : Sig} {T : Trie AV} {a : Act} (hE : E.At σ) (hT : TRel σ T a.tmps) {x : Operand} {v : AV} (h : aeval E T x = some v) : v.inst σ = some (a.eval x) := by
  cases x with
  | tmp t =>
    obtain ⟨u, hu, hi⟩ := hT t v h
    rw [hi]
    simp [Act.eval, Array.getD_eq_getD_getElem?, hu]
  | const u => exact ofV_inst σ u v h
  | global g =>
    simp only [aeval] at h
    cases hg : E.glob g with
    | none => rw [hg] at h; cases h
    | some id =>
      rw [hg] at h
      simp only [Option.some.injEq] at h
      subst h
      obtain ⟨κ, hk⟩ := hE g id hg
      simp [AV.inst, hk, Act.eval]
  | func f =>
    simp only [aeval, Option.some.injEq] at h
    subst h
    simp [AV.inst, instL, Act.eval]

noncomputable def aevalL (E : Env) (T : Trie AV) : List Operand → Option (List AV)
  | [] => some []
  | x :: l => match aeval E T x with
    | some v => match aevalL E T l with
      | some m => some (v :: m)
      | none => none
    | none => none
theorem aevalL_ok {E : Env} {σ : Sig} {T : Trie AV} {a : Act} (hE : E.At σ) (hT : TRel σ T a.tmps) : ∀ {l : List Operand} {vs : List AV}, aevalL E T l = some vs → Ins σ vs (l.map a.eval)
  | [], vs, h => by simp only [aevalL, Option.some.injEq] at h; subst h; exact .nil
  | x :: l, vs, h => by
    simp only [aevalL] at h
    cases hx : aeval E T x with
    | none => rw [hx] at h; cases h
    | some v =>
      rw [hx] at h
      cases hl : aevalL E T l with
      | none => rw [hl] at h; cases h
      | some m =>
        rw [hl] at h
        simp only [Option.some.injEq] at h
        subst h
        exact .cons (aeval_ok hE hT hx) (aevalL_ok hE hT hl)

/-! ## The way over plain values: the model's own text -/

noncomputable def plainOf (T : Trie AV) : Operand → Option Value
  | .tmp t => match T.get t with | some a => a.plain | none => none
  | .const v => some v
  | .func f => some (.func (.func f) #[] #[])
  | .global _ => none
noncomputable def rhoOf (T : Trie AV) (x : Operand) : Value := match plainOf T x with | some v => v | none => undef
def noSel : Op → Bool
  | .select _ _ => false
  | _ => true
noncomputable def allPlain (T : Trie AV) : List Operand → Bool
  | [] => true
  | x :: l => match plainOf T x with | some _ => allPlain T l | none => false
noncomputable def plainOp (E : Env) (T : Trie AV) (o : Oper) : Option AV :=
  match noSel o.op with
  | true => match allPlain T o.op.operands.toList with
    | true => match pureRun E.P (execOp (rhoOf T) o) with
      | some (.value v) => ofV v
      | _ => none
    | false => none
  | false => none

theorem allPlain_spec {T : Trie AV} : ∀ {l : List Operand}, allPlain T l = true → ∀ x ∈ l, ∃ v, plainOf T x = some v
  | [], _, x, hx => by cases hx
  | y :: l, h, x, hx => by
    simp only [allPlain] at h
    cases hy : plainOf T y with
    | none => rw [hy] at h; cases h
    | some v =>
      rw [hy] at h
      cases hx with
      | head => exact ⟨v, hy⟩
      | tail _ hm => exact allPlain_spec h x hm
theorem plainOf_ok {σ : Sig} {T : Trie AV} {a : Act} (hT : TRel σ T a.tmps) {x : Operand} {v : Value} (h : plainOf T x = some v) : a.eval x = v := by
  cases x with
  | tmp t =>
    simp only [plainOf] at h
    cases ht : T.get t with
    | none => rw [ht] at h; cases h
    | some u =>
      rw [ht] at h
      obtain ⟨u', hu, hi⟩ := hT t u ht
      rw [AV.plain_inst h σ] at hi
      cases hi
      simp [Act.eval, Array.getD_eq_getD_getElem?, hu]
  | const u => cases h; rfl
  | global g => cases h
  | func f => cases h; rfl
theorem plainOp_ok {E : Env} {σ : Sig} {T : Trie AV} {a : Act} (hT : TRel σ T a.tmps) {o : Oper} {v : AV} (h : plainOp E T o = some v) :
    ∃ v', v.inst σ = some v' ∧ ∀ w, (execOp a.eval o).run E.P w = .ok (.value v') w := by
  unfold plainOp at h
  split at h
  · rename_i hs
    split at h
    · rename_i hp
      split at h
      · rename_i u hu
        have hc : execOp a.eval o = execOp (rhoOf T) o := by
          refine execOp_congr o (fun cs b e => by simp [noSel, e] at hs) fun x hx => ?_
          obtain ⟨u, hu⟩ := allPlain_spec hp x (by simpa using hx)
          rw [plainOf_ok hT hu]
          simp [rhoOf, hu]
        exact ⟨u, ofV_inst σ u v h, fun w => by rw [hc]; exact pureRun_run E.P _ _ hu w⟩
      · cases h
    · cases h
  · cases h

/-! ## Operations over values that may hold addresses -/

/-- Is a type's value kept in several cells? -/
def Env.agg (E : Env) (t : TypeId) : Option Bool :=
  match E.und t with
  | some (.struct _) => some true
  | some (.array _ _) => some true
  | some _ => some false
  | none => none
def Env.size (E : Env) (t : TypeId) : Option Nat := match E.inf t with | some i => some i.size | none => none

def apart (E : Env) (t : TypeId) (cs : List AV) (off : Nat) : Option AV :=
  match E.agg t with
  | some true => match E.size t with
    | some n => some (.agg ((cs.drop off).take n))
    | none => none
  | some false => cs[off]?
  | none => none

theorem run_und {E : Env} (hE : E.Ok) {t : TypeId} {d : TypeDesc} (h : E.und t = some d) (w : World) : (underlying t).run E.P w = .ok d w := run_underlying (hE.und t d h) w
theorem run_inf {E : Env} (hE : E.Ok) {t : TypeId} {i : TypeInfo} (h : E.inf t = some i) (w : World) : (typeInfo t).run E.P w = .ok i w := by
  simp [typeInfo, hE.inf t i h]
theorem run_size {E : Env} (hE : E.Ok) {t : TypeId} {n : Nat} (h : E.size t = some n) (w : World) : (sizeOf t).run E.P w = .ok n w := by
  unfold Env.size at h
  split at h
  · rename_i i hi
    cases h
    simp [sizeOf, run_inf hE hi]
  · cases h
theorem run_agg {E : Env} (hE : E.Ok) {t : TypeId} {b : Bool} (h : E.agg t = some b) (w : World) : (isAgg t).run E.P w = .ok b w := by
  unfold Env.agg at h
  split at h
  · rename_i fs hd; cases h; simp [isAgg, run_und hE hd]
  · rename_i n e hd; cases h; simp [isAgg, run_und hE hd]
  · rename_i d hd h1 h2
    cases h
    simp only [isAgg, Sem.run_bind, run_und hE h2, Result.andThen_ok]
    first | rfl | (split <;> simp_all)
  · cases h

theorem apart_ok {E : Env} (hE : E.Ok) {σ : Sig} {t : TypeId} {cs : List AV} {vs : List Value} (hi : Ins σ cs vs) {off : Nat} {v : AV} (h : apart E t cs off = some v) :
    ∃ v', v.inst σ = some v' ∧ ∀ w, (part t vs.toArray off).run E.P w = .ok v' w := by
  unfold apart at h
  split at h
  · rename_i ha
    split at h
    · rename_i n hn
      cases h
      refine ⟨.agg ((vs.drop off).take n).toArray, ?_, fun w => ?_⟩
      · simp only [AV.inst, instL_iff.2 ((hi.drop off).take n)]
      · simp only [part, Sem.run_bind, run_agg hE ha, Result.andThen_ok, if_true, run_size hE hn, Sem.run_pure, Sem.run_ite, List.extract_toArray]
        congr 3
        simp [List.extract_eq_take_drop]
    · cases h
  · rename_i ha
    obtain ⟨v', hv, hi'⟩ := hi.get h
    refine ⟨v', hi', fun w => ?_⟩
    simp [part, run_agg hE ha, hv]
  · cases h

end Go.Proofs.YtliimmpokhmjeaaGreatDoor.Zev
