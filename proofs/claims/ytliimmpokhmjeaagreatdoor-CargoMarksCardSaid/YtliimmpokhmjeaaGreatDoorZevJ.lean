/-
  One operation of the text, on abstract values.
-/
import Derived.Test.YtliimmpokhmjeaaGreatDoorZevI
namespace Go.Proofs.YtliimmpokhmjeaaGreatDoor.Zev
open Go
set_option linter.unusedSimpArgs false
set_option linter.unusedVariables false

inductive AOut where
  | val (v : AV) (S : ASt)
  | skip (S : ASt)
  | enter (f : FuncId) (args : List AV)
  | yield (id : Nat) (args : List AV)
  | defer (d : ADef)
  | panic (v : AV)
  | recover

def OutOk (E : Env) (σ : Sig) (S : ASt) (w : World) (Wr : Nat → Prop) (r : Result Next) : AOut → Prop
  | .val v S' => ∃ σ' u w', r = .ok (.value u) w' ∧ v.inst σ' = some u ∧ Post E.P σ S w Wr σ' S' w'
  | .skip S' => ∃ σ' w', r = .ok .skip w' ∧ Post E.P σ S w Wr σ' S' w'
  | .enter f args => ∃ us : List Value, r = .ok (.enter f us.toArray) w ∧ Ins σ args us
  | .yield id args => ∃ b κ, ∃ us : List Value, σ id = some (b, κ) ∧ r = (Instr.yield b us.toArray).run E.P w ∧ Ins σ args us
  | .defer d => ∃ d', r = .ok (.defer d') w ∧ d.inst σ = some d'
  | .panic v => ∃ u, r = .halt (.panic u) w ∧ v.inst σ = some u
  | .recover => r = .ok .recover w

noncomputable def outV (S : ASt) : Option AV → Option AOut
  | some v => some (.val v S)
  | none => none
noncomputable def outP : Option (AV × ASt) → Option AOut
  | some (v, S) => some (.val v S)
  | none => none
noncomputable def outU : Option ASt → Option AOut
  | some S => some (.skip S)
  | none => none

/-- Optional operands. -/
noncomputable def aevalO (E : Env) (T : Trie AV) : Option Operand → Option (Option AV)
  | none => some none
  | some x => match aeval E T x with
    | some v => some (some v)
    | none => none
noncomputable def aevalP (E : Env) (T : Trie AV) : List (Nat × Operand) → Option (List (Nat × AV))
  | [] => some []
  | (i, x) :: l => match aeval E T x with
    | some v => match aevalP E T l with
      | some m => some ((i, v) :: m)
      | none => none
    | none => none

noncomputable def aplain (E : Env) (T : Trie AV) (S : ASt) (o : Oper) : Option AOut := outV S (plainOp E T o)

noncomputable def areadBuiltin (E : Env) (T : Trie AV) (S : ASt) (o : Oper) (b : Builtin) (argTypes : Array TypeId) (args : List AV) : Option AV :=
  match b with
  | .len => match args with
    | [x] => alenOf E S argTypes x
    | _ => none
  | .cap => match args with
    | [x] => acapOf E argTypes x
    | _ => none
  | .max => plainOp E T o
  | .min => plainOp E T o
  | _ => none

noncomputable def abuiltin (E : Env) (S : ASt) (b : Builtin) (argTypes : Array TypeId) (args : List AV) : Option AOut :=
  match b with
  | .append => match args with
    | [s, x] => outP (aappend E S argTypes s x)
    | _ => none
  | .copy => match args with
    | [d, x] => outP (acopy E S argTypes d x)
    | _ => none
  | .recover => some .recover
  | .panic => match args with
    | [.iface t v] => some (.panic (.iface t v))
    | _ => none
  | _ => none

noncomputable def acall (E : Env) (T : Trie AV) (S : ASt) (o : Oper) (c : Call) : Option AOut :=
  match c.callee with
  | .value f => match aeval E T f with
    | some fv => match aevalL E T c.args.toList with
      | some args => match fv with
        | .func (.func g) first cap => match E.fn g with
          | some fn => match fn.body with
            | some _ => some (.enter g (first ++ args ++ cap))
            | none => aplain E T S o
          | none => none
        | .yield id => some (.yield id args)
        | _ => none
      | none => none
    | none => none
  | .builtin b => match aevalL E T c.args.toList with
    | some args => abuiltin E S b c.argTypes args
    | none => none
  | .invoke _ _ => none

noncomputable def adefer (E : Env) (T : Trie AV) (c : Call) : Option AOut :=
  match c.callee with
  | .value f => match aeval E T f with
    | some (.func fn first cap) => match aevalL E T c.args.toList with
      | some args => some (.defer { target := .code fn cap, args := first ++ args })
      | none => none
    | _ => none
  | _ => none

noncomputable def atypeAssert (E : Env) (x : AV) (asserted : TypeId) (ok : Bool) : Option AV :=
  match E.und asserted with
  | some (.interface _) => none
  | some _ => match x with
    | .iface t v => match Nat.beq t asserted with
      | true => some (match ok with | true => .tuple [v, .bool true] | false => v)
      | false => match ok with
        | true => match E.zero asserted with
          | some z => some (.tuple [z, .bool false])
          | none => none
        | false => none
    | _ => none
  | none => none

/-- An operation that only reads. -/
noncomputable def areadOp (E : Env) (T : Trie AV) (S : ASt) (o : Oper) : Option AV :=
  match o.op with
  | .move x => aeval E T x
  | .assign x => aeval E T x
  | .pick c a b => match aeval E T c with
    | some (.bool true) => aeval E T a
    | some (.bool false) => aeval E T b
    | _ => none
  | .build t ps => match aevalP E T ps.toList with
    | some qs => abuild' E t qs
    | none => none
  | .load t a => match aeval E T a with
    | some v => aload E S t v
    | none => none
  | .waits g => match E.glob g with
    | some id => match S.heap.get id with
      | some (.cells _ _) => some (.bool false)
      | _ => none
    | none => none
  | .nilCheck x => match aeval E T x with
    | some (.ptr id off) => some (.ptr id off)
    | some (.func (.func f) a b) => some (.func (.func f) a b)
    | some (.yield id) => some (.yield id)
    | _ => none
  | .binOp op t x y _ => match op with
    | .eql => match aeval E T x with
      | some a => match aeval E T y with
        | some b => match aeqNil E t a b with
          | some r => some (.bool r)
          | none => plainOp E T o
        | none => none
      | none => none
    | .neq => match aeval E T x with
      | some a => match aeval E T y with
        | some b => match aeqNil E t a b with
          | some r => some (.bool (!r))
          | none => plainOp E T o
        | none => none
      | none => none
    | _ => plainOp E T o
  | .unOp _ _ _ => plainOp E T o
  | .convert s d x => match aeval E T x with
    | some v => match aconvert E S s d v with
      | some r => some r
      | none => plainOp E T o
    | none => none
  | .makeInterface t x => match aeval E T x with
    | some v => match E.und t with
      | some (.interface _) => none
      | some _ => some (.iface t v)
      | none => none
    | none => none
  | .makeFunc fn f c => match aevalL E T f.toList with
    | some fs => match aevalL E T c.toList with
      | some cs => some (.func fn fs cs)
      | none => none
    | none => none
  | .slice t x lo hi mx => match mx with
    | some _ => none
    | none => match E.und t with
      | some (.slice elem) => match E.size elem with
        | some _ => match aeval E T x with
          | some xv => match aevalO E T lo with
            | some lv => match aevalO E T hi with
              | some hv => asliceS E elem xv lv hv
              | none => none
            | none => none
          | none => none
        | none => none
      | some (.array n elem) => match aeval E T x with
        | some xv => match aevalO E T lo with
          | some lv => match aevalO E T hi with
            | some hv => asliceA E n elem xv lv hv
            | none => none
          | none => none
        | none => none
      | _ => plainOp E T o
  | .fieldAddr s x f => match aeval E T x with
    | some v => afieldAddr E s v f
    | none => none
  | .field t x f => match aeval E T x with
    | some v => afield E t v f
    | none => none
  | .indexAddr t x i => match aeval E T x with
    | some v => match aeval E T i with
      | some iv => aindexAddr E t v iv
      | none => none
    | none => none
  | .index t x i => match aeval E T x with
    | some v => match aeval E T i with
      | some iv => aindex E t v iv
      | none => none
    | none => none
  | .lookup t m k ok => match aeval E T m with
    | some mv => match aeval E T k with
      | some kv => alookup E S t mv kv ok
      | none => none
    | none => none
  | .typeAssert x _ asserted ok => match aeval E T x with
    | some v => atypeAssert E v asserted ok
    | none => none
  | .extract t i => match aeval E T t with
    | some v => aextract v i
    | none => none
  | .call c => match c.callee with
    | .builtin b => match aevalL E T c.args.toList with
      | some args => areadBuiltin E T S o b c.argTypes args
      | none => none
    | _ => none
  | _ => none

/-- An operation that may act. -/
noncomputable def aactOp (E : Env) (T : Trie AV) (S : ASt) (o : Oper) : Option AOut :=
  match o.op with
  | .alloc t => outP (aalloc E S t)
  | .box t x => match aeval E T x with
    | some v => outP (aboxed S t v)
    | none => none
  | .buildSlice t n ps => match aevalP E T ps.toList with
    | some qs => outP (abuildSlice E S t n qs)
    | none => none
  | .store t a x => match aeval E T a with
    | some v => match aeval E T x with
      | some u => outU (astore E S t v u)
      | none => none
    | none => none
  | .convert s d x => match aeval E T x with
    | some v => outP (astrBytes E S s d v)
    | none => none
  | .makeMap t r => match r with
    | none => outP (amakeMap S)
    | some x => match aeval E T x with
      | some (.int _ _) => match E.und t with
        | some (.map _ _) => outP (amakeMap S)
        | _ => none
      | _ => none
  | .makeSlice t l c => match aeval E T l with
    | some lv => match aeval E T c with
      | some cv => outP (amakeSlice E S t lv cv)
      | none => none
    | none => none
  | .mapUpdate t m k x => match aeval E T m with
    | some mv => match aeval E T k with
      | some kv => match aeval E T x with
        | some xv => outU (amapUpdate E S t mv kv xv)
        | none => none
      | none => none
    | none => none
  | .insert t m k x => match aeval E T m with
    | some mv => match aeval E T k with
      | some kv => match aeval E T x with
        | some xv => outU (amapUpdate E S t mv kv xv)
        | none => none
      | none => none
    | none => none
  | .mapEntry t m k => match aeval E T m with
    | some mv => match aeval E T k with
      | some kv => outP (amapEntry E S t mv kv)
      | none => none
    | none => none
  | .entryStore _ m s x => match aeval E T m with
    | some mv => match aeval E T s with
      | some sv => match aeval E T x with
        | some xv => outU (aentryStore S mv sv xv)
        | none => none
      | none => none
    | none => none
  | .range t x => match aeval E T x with
    | some v => outP (arange E S t v)
    | none => none
  | .next it b => match aeval E T it with
    | some v => outP (anext S v b)
    | none => none
  | .panic x => match aeval E T x with
    | some (.iface t v) => some (.panic (.iface t v))
    | _ => none
  | .call c => acall E T S o c
  | .defer c => adefer E T c
  | _ => none

noncomputable def aop (E : Env) (T : Trie AV) (S : ASt) (o : Oper) : Option AOut :=
  match areadOp E T S o with
  | some v => some (.val v S)
  | none => aactOp E T S o

section
variable {E : Env} {σ : Sig} {S S' : ASt} {w : World} {Wr : Nat → Prop}

theorem Ins.single {x : AV} {us : List Value} (h : Ins σ [x] us) : ∃ u, us = [u] ∧ x.inst σ = some u := by
  cases h with
  | cons h1 h2 => cases h2; exact ⟨_, rfl, h1⟩
theorem Ins.two {x y : AV} {us : List Value} (h : Ins σ [x, y] us) : ∃ u v, us = [u, v] ∧ x.inst σ = some u ∧ y.inst σ = some v := by
  cases h with
  | cons h1 h2 => obtain ⟨v, rfl, h3⟩ := h2.single; exact ⟨_, v, rfl, h1, h3⟩
theorem out_val {s : Sem Value} {v : AV} (h : VPost E σ S w Wr (s.run E.P w) v S') : OutOk E σ S w Wr ((do pure (.value (← s)) : Sem Next).run E.P w) (.val v S') := by
  obtain ⟨σ', u, w', h1, h2, h3⟩ := h
  exact ⟨σ', u, w', by simp [h1], h2, h3⟩
theorem out_read {s : Sem Value} {v : AV} (h : RPost σ w (s.run E.P w) v) : ∃ u, (do pure (.value (← s)) : Sem Next).run E.P w = .ok (.value u) w ∧ v.inst σ = some u := by
  obtain ⟨u, h1, h2⟩ := h
  exact ⟨u, by simp [h1], h2⟩
theorem out_unit {s : Sem Unit} (h : UPost E σ S w Wr (s.run E.P w) S') : OutOk E σ S w Wr ((do s; pure .skip : Sem Next).run E.P w) (.skip S') := by
  obtain ⟨σ', w', h1, h3⟩ := h
  exact ⟨σ', w', by simp [h1], h3⟩
theorem outV_some {x : Option AV} {out : AOut} (h : outV S x = some out) : ∃ v, x = some v ∧ out = .val v S := by
  cases x with
  | none => cases h
  | some v => cases h; exact ⟨v, rfl, rfl⟩
theorem outP_some {x : Option (AV × ASt)} {out : AOut} (h : outP x = some out) : ∃ v S', x = some (v, S') ∧ out = .val v S' := by
  cases x with
  | none => cases h
  | some v => cases h; exact ⟨v.1, v.2, rfl, rfl⟩
theorem outU_some {x : Option ASt} {out : AOut} (h : outU x = some out) : ∃ S', x = some S' ∧ out = .skip S' := by
  cases x with
  | none => cases h
  | some v => cases h; exact ⟨v, rfl, rfl⟩

variable {T : Trie AV} {a : Act} {o : Oper}

theorem aplain_ok (hS : S.rel E.P σ w Wr) (hT : TRel σ T a.tmps) {out : AOut} (h : aplain E T S o = some out) : OutOk E σ S w Wr ((execOp a.eval o).run E.P w) out := by
  obtain ⟨v, hv, rfl⟩ := outV_some h
  obtain ⟨u, h1, h2⟩ := plainOp_ok (E := E) (σ := σ) hT hv
  exact ⟨σ, u, w, h2 w, h1, Post.refl hS⟩

theorem aevalO_ok (hE : E.At σ) (hT : TRel σ T a.tmps) {x : Option Operand} {v : Option AV} (h : aevalO E T x = some v) : instO σ v (x.map a.eval) := by
  cases x with
  | none => cases h; exact trivial
  | some x =>
    simp only [aevalO] at h
    split at h
    · rename_i u hu
      cases h
      exact aeval_ok hE hT hu
    · cases h
theorem aevalP_ok (hE : E.At σ) (hT : TRel σ T a.tmps) : ∀ {l : List (Nat × Operand)} {m : List (Nat × AV)}, aevalP E T l = some m →
    m.map (·.1) = (l.map fun (i, x) => (i, a.eval x)).map (·.1) ∧ Ins σ (m.map (·.2)) ((l.map fun (i, x) => (i, a.eval x)).map (·.2))
  | [], m, h => by cases h; exact ⟨rfl, .nil⟩
  | (i, x) :: l, m, h => by
    simp only [aevalP] at h
    split at h
    · rename_i v hv
      split at h
      · rename_i m' hm
        cases h
        obtain ⟨h1, h2⟩ := aevalP_ok hE hT hm
        exact ⟨by simpa using h1, .cons (aeval_ok hE hT hv) h2⟩
      · cases h
    · cases h

theorem args_toArray (xs : Array Operand) : xs.map a.eval = (xs.toList.map a.eval).toArray := by
  apply Array.ext'
  simp

theorem atypeAssert_ok (hE : E.Ok) (hS : S.rel E.P σ w Wr) {x v : AV} {xu : Value} {xt t : TypeId} {ok : Bool} (hx : x.inst σ = some xu) (h : atypeAssert E x t ok = some v) :
    RPost σ w ((Instr.typeAssert xu xt t ok).run E.P w) v := by
  unfold atypeAssert at h
  split at h
  · cases h
  · rename_i d hni hd
    split at h
    · rename_i t' v'
      obtain ⟨y, hy, rfl⟩ := inst_iface hx
      have hint : ∀ ms, d ≠ .interface ms := fun ms e => hni ms e
      split at h
      · rename_i hb
        obtain rfl := Nat.eq_of_beq_eq_true hb
        cases h
        refine .same hS (u := if ok then .tuple #[y, .bool true] else y) ?_ ?_
        · cases d <;> first
            | exact absurd rfl (hint _)
            | (cases ok <;> simp [Instr.typeAssert, run_und hE hd])
        · cases ok with
          | true => simp [AV.inst, instL, hy]
          | false => simpa using hy
      · rename_i hb
        have hb' := Nat.ne_of_beq_eq_false hb
        split at h
        · split at h
          · rename_i z hz
            cases h
            obtain ⟨zv, _, _, _, hzi, hr⟩ := run_zero (σ := σ) hE hz
            refine .same hS (u := .tuple #[zv, .bool false]) ?_ (by simp [AV.inst, instL, hzi])
            cases d <;> first
              | exact absurd rfl (hint _)
              | simp [Instr.typeAssert, run_und hE hd, hb', hr]
          · cases h
        · cases h
    · cases h
  · cases h

theorem builtin_run {c : Call} {b : Builtin} (hop : o.op = .call c) (hc : c.callee = .builtin b) (P : Program) (w : World) :
    ∃ ks, (execOp a.eval o).run P w = (builtin b c.argTypes o.type ks (c.args.toList.map a.eval).toArray).run P w :=
  ⟨_, by simp only [execOp, hop, resolve, hc, args_toArray, Sem.run_bind, Sem.run_pure, Result.andThen_ok, invoke]; rfl⟩

theorem abuiltin_ok (hE : E.Ok) (hA : E.At σ) (hS : S.rel E.P σ w Wr) (hT : TRel σ T a.tmps) {c : Call} {b : Builtin} (hop : o.op = .call c) (hc : c.callee = .builtin b) {args : List AV}
    (ha : aevalL E T c.args.toList = some args) {out : AOut} (h : abuiltin E S b c.argTypes args = some out) : OutOk E σ S w Wr ((execOp a.eval o).run E.P w) out := by
  have hi := aevalL_ok hA hT ha
  obtain ⟨ks, hex⟩ := builtin_run (a := a) hop hc E.P w
  unfold abuiltin at h
  split at h
  · split at h
    · rename_i s x
      obtain ⟨v, S₁, hv, rfl⟩ := outP_some h
      rw [hex]
      generalize c.args.toList.map a.eval = us at hi ⊢
      obtain ⟨su, xu, rfl, h1, h2⟩ := hi.two
      exact out_val (aappend_ok hE hS h1 h2 hv)
    · cases h
  · split at h
    · rename_i s x
      obtain ⟨v, S₁, hv, rfl⟩ := outP_some h
      rw [hex]
      generalize c.args.toList.map a.eval = us at hi ⊢
      obtain ⟨su, xu, rfl, h1, h2⟩ := hi.two
      exact out_val (acopy_ok hE hS h1 h2 hv)
    · cases h
  · cases h
    rw [hex]
    rfl
  · split at h
    · rename_i t v
      cases h
      rw [hex]
      generalize c.args.toList.map a.eval = us at hi ⊢
      obtain ⟨xu, rfl, h1⟩ := hi.single
      obtain ⟨y, hy, rfl⟩ := inst_iface h1
      exact ⟨.iface t y, by simp [builtin, Instr.panic], h1⟩
    · cases h
  · cases h

theorem acall_ok (hE : E.Ok) (hA : E.At σ) (hS : S.rel E.P σ w Wr) (hT : TRel σ T a.tmps) {c : Call} (hop : o.op = .call c) {out : AOut} (h : acall E T S o c = some out) :
    OutOk E σ S w Wr ((execOp a.eval o).run E.P w) out := by
  unfold acall at h
  split at h
  · rename_i f hc
    split at h
    · rename_i fv hf
      have hfi := aeval_ok hA hT hf
      split at h
      · rename_i args ha
        have hi := aevalL_ok hA hT ha
        split at h
        · rename_i g first cap
          split at h
          · rename_i fn hfn
            split at h
            · rename_i body hbody
              cases h
              obtain ⟨fs, cs, h1, h2, h3⟩ := inst_func hfi
              refine ⟨fs ++ c.args.toList.map a.eval ++ cs, ?_, (h1.append hi).append h2⟩
              have hP := hE.fn g fn hfn
              have hnm := hE.name g fn hfn
              simp only [execOp, hop, resolve, hc, args_toArray, h3, Deferred.ofValue, Sem.run_bind, Sem.run_pure, Result.andThen_ok, invoke, callFunc, run_program, hP, hnm, hbody]
              simp
            · exact aplain_ok hS hT h
          · cases h
        · rename_i id
          cases h
          obtain ⟨b, κ, h1, h2⟩ := inst_yield hfi
          refine ⟨b, κ, c.args.toList.map a.eval, h1, ?_, hi⟩
          simp only [execOp, hop, resolve, hc, args_toArray, h2, Deferred.ofValue, Sem.run_bind, Sem.run_pure, Result.andThen_ok, invoke]
          simp
        · cases h
      · cases h
    · cases h
  · rename_i b hc
    split at h
    · rename_i args ha
      exact abuiltin_ok hE hA hS hT hop hc ha h
    · cases h
  · cases h

theorem adefer_ok (hA : E.At σ) (hT : TRel σ T a.tmps) {c : Call} (hop : o.op = .defer c) {out : AOut} (h : adefer E T c = some out) : OutOk E σ S w Wr ((execOp a.eval o).run E.P w) out := by
  unfold adefer at h
  split at h
  · rename_i f hc
    split at h
    · rename_i fn first cap hf
      have hfi := aeval_ok hA hT hf
      split at h
      · rename_i args ha
        have hi := aevalL_ok hA hT ha
        cases h
        obtain ⟨fs, cs, h1, h2, h3⟩ := inst_func hfi
        refine ⟨{ target := .fn fn cs.toArray, args := (fs ++ c.args.toList.map a.eval).toArray }, ?_, ?_⟩
        · simp only [execOp, hop, resolve, hc, args_toArray, h3, Deferred.ofValue, Sem.run_bind, Sem.run_pure, Result.andThen_ok]
          simp
        · simp only [ADef.inst, ATarget.inst, instL_iff.2 h2, instL_iff.2 (h1.append hi)]
      · cases h
    · cases h
  · cases h

theorem areadOp_ok (hE : E.Ok) (hA : E.At σ) (hS : S.rel E.P σ w Wr) (hT : TRel σ T a.tmps) {v : AV} (h : areadOp E T S o = some v) :
    ∃ u, (execOp a.eval o).run E.P w = .ok (.value u) w ∧ v.inst σ = some u := by
  have ev : ∀ {x : Operand} {v : AV}, aeval E T x = some v → v.inst σ = some (a.eval x) := fun hx => aeval_ok hA hT hx
  have pl : plainOp E T o = some v → ∃ u, (execOp a.eval o).run E.P w = .ok (.value u) w ∧ v.inst σ = some u := fun hv => by
    obtain ⟨u, h1, h2⟩ := plainOp_ok (E := E) (σ := σ) hT hv
    exact ⟨u, h2 w, h1⟩
  unfold areadOp at h
  split at h
  · rename_i x hop
    exact ⟨_, by simp [execOp, hop], ev h⟩
  · rename_i x hop
    exact ⟨_, by simp [execOp, hop], ev h⟩
  · rename_i c x y hop
    split at h
    · rename_i hc
      have hcv := ev hc
      simp only [AV.inst, Option.some.injEq] at hcv
      exact ⟨_, by simp [execOp, hop, ← hcv, asBool], ev h⟩
    · rename_i hc
      have hcv := ev hc
      simp only [AV.inst, Option.some.injEq] at hcv
      exact ⟨_, by simp [execOp, hop, ← hcv, asBool], ev h⟩
    · cases h
  · rename_i t ps hop
    split at h
    · rename_i qs hq
      obtain ⟨h1, h2⟩ := aevalP_ok hA hT hq
      simp only [execOp, hop]
      exact out_read (abuild_ok hE hS (by simpa using h1) (by simpa using h2) h)
    · cases h
  · rename_i t x hop
    split at h
    · rename_i xv hx
      simp only [execOp, hop]
      exact out_read (aload_ok hE hS (ev hx) h)
    · cases h
  · rename_i g hop
    split at h
    · rename_i id hg
      split at h
      · rename_i l t hb
        cases h
        obtain ⟨κ, hs⟩ := hA g id hg
        obtain ⟨b, κ', vs, rest, fr, e1, e2, e3, e4, e5⟩ := get_cells hS hb
        rw [hs] at e1; cases e1
        refine ⟨.bool false, ?_, rfl⟩
        simp [execOp, hop, Instr.waits, World.shape?, e2]
      · cases h
    · cases h
  · rename_i x hop
    split at h
    · rename_i id off hx
      cases h
      obtain ⟨b, κ, h1, h2⟩ := inst_ptr (ev hx)
      exact ⟨a.eval x, by simp [execOp, hop, h2], ev hx⟩
    · rename_i f fs cs hx
      cases h
      obtain ⟨us, vs, h1, h2, h3⟩ := inst_func (ev hx)
      exact ⟨a.eval x, by simp [execOp, hop, h3], ev hx⟩
    · rename_i id hx
      cases h
      obtain ⟨b, κ, h1, h2⟩ := inst_yield (ev hx)
      exact ⟨a.eval x, by simp [execOp, hop, h2], ev hx⟩
    · cases h
  · rename_i op t x y yt hop
    split at h
    · split at h
      · rename_i xv hx
        split at h
        · rename_i yv hy
          split at h
          · rename_i r hr
            cases h
            obtain ⟨h1, h2, h3, h4⟩ := aeqNil_ok hE (ev hx) (ev hy) hr w
            refine ⟨.bool r, ?_, rfl⟩
            simp only [execOp, hop, Sem.run_bind, h2, Result.andThen_ok, h3, h1, Sem.run_pure]
          · exact pl h
        · cases h
      · cases h
    · split at h
      · rename_i xv hx
        split at h
        · rename_i yv hy
          split at h
          · rename_i r hr
            cases h
            obtain ⟨h1, h2, h3, h4⟩ := aeqNil_ok hE (ev hx) (ev hy) hr w
            refine ⟨.bool (!r), ?_, rfl⟩
            simp only [execOp, hop, Sem.run_bind, h2, Result.andThen_ok, h4, h1, Sem.run_pure]
          · exact pl h
        · cases h
      · cases h
    · exact pl h
  · exact pl h
  · rename_i s d x hop
    split at h
    · rename_i xv hx
      split at h
      · rename_i r hr
        cases h
        simp only [execOp, hop]
        exact out_read (aconvert_ok hE hS (ev hx) hr)
      · exact pl h
    · cases h
  · rename_i t x hop
    split at h
    · rename_i xv hx
      split at h
      · cases h
      · rename_i d hni hd
        cases h
        refine ⟨.iface t (a.eval x), ?_, by simp [AV.inst, ev hx]⟩
        cases d <;> first
          | exact absurd rfl (hni _)
          | simp [execOp, hop, Instr.makeInterface, run_und hE hd]
      · cases h
    · cases h
  · rename_i fn f c hop
    split at h
    · rename_i fs hf
      split at h
      · rename_i cs hc
        cases h
        have h1 := aevalL_ok hA hT hf
        have h2 := aevalL_ok hA hT hc
        refine ⟨.func fn (f.map a.eval) (c.map a.eval), by simp [execOp, hop, Instr.makeFunc], ?_⟩
        rw [args_toArray, args_toArray]
        simp only [AV.inst, instL_iff.2 h1, instL_iff.2 h2]
      · cases h
    · cases h
  · rename_i t x lo hi mx hop
    split at h
    · cases h
    · split at h
      · rename_i elem ht
        split at h
        · rename_i sz hsz
          split at h
          · rename_i xv hx
            split at h
            · rename_i lv hl
              split at h
              · rename_i hv hh
                simp only [execOp, hop]
                exact out_read (asliceS_ok hE hS ht (ev hx) (aevalO_ok hA hT hl) (aevalO_ok hA hT hh) ⟨sz, hsz⟩ h)
              · cases h
            · cases h
          · cases h
        · cases h
      · rename_i n elem ht
        split at h
        · rename_i xv hx
          split at h
          · rename_i lv hl
            split at h
            · rename_i hv hh
              simp only [execOp, hop]
              exact out_read (asliceA_ok hE hS ht (ev hx) (aevalO_ok hA hT hl) (aevalO_ok hA hT hh) h)
            · cases h
          · cases h
        · cases h
      · exact pl h
  · rename_i s x f hop
    split at h
    · rename_i xv hx
      simp only [execOp, hop]
      exact out_read (afieldAddr_ok hE hS (ev hx) h)
    · cases h
  · rename_i s x f hop
    split at h
    · rename_i xv hx
      simp only [execOp, hop]
      exact out_read (afield_ok hE hS (ev hx) h)
    · cases h
  · rename_i t x i hop
    split at h
    · rename_i xv hx
      split at h
      · rename_i iv hi
        simp only [execOp, hop]
        exact out_read (aindexAddr_ok hE hS (ev hx) (ev hi) h)
      · cases h
    · cases h
  · rename_i t x i hop
    split at h
    · rename_i xv hx
      split at h
      · rename_i iv hi
        simp only [execOp, hop]
        exact out_read (aindex_ok hE hS (ev hx) (ev hi) h)
      · cases h
    · cases h
  · rename_i t m k ok hop
    split at h
    · rename_i mv hm
      split at h
      · rename_i kv hk
        simp only [execOp, hop]
        exact out_read (alookup_ok hE hS (ev hm) (ev hk) h)
      · cases h
    · cases h
  · rename_i x xt t ok hop
    split at h
    · rename_i xv hx
      simp only [execOp, hop]
      exact out_read (atypeAssert_ok hE hS (ev hx) h)
    · cases h
  · rename_i t i hop
    split at h
    · rename_i xv hx
      simp only [execOp, hop]
      exact out_read (aextract_ok hS (ev hx) h)
    · cases h
  · rename_i c hop
    split at h
    · rename_i b hc
      split at h
      · rename_i args ha
        have hi := aevalL_ok hA hT ha
        obtain ⟨ks, hex⟩ := builtin_run (a := a) hop hc E.P w
        unfold areadBuiltin at h
        split at h
        · split at h
          · rename_i x
            rw [hex]
            generalize c.args.toList.map a.eval = us at hi ⊢
            obtain ⟨xu, rfl, h1⟩ := hi.single
            exact out_read (alenOf_ok hE hS h1 h)
          · cases h
        · split at h
          · rename_i x
            rw [hex]
            generalize c.args.toList.map a.eval = us at hi ⊢
            obtain ⟨xu, rfl, h1⟩ := hi.single
            exact out_read (acapOf_ok hE hS h1 h)
          · cases h
        · exact pl h
        · exact pl h
        · cases h
      · cases h
    · cases h
  · cases h

theorem aactOp_ok (hE : E.Ok) (hA : E.At σ) (hS : S.rel E.P σ w Wr) (hT : TRel σ T a.tmps) {out : AOut} (h : aactOp E T S o = some out) :
    OutOk E σ S w Wr ((execOp a.eval o).run E.P w) out := by
  have ev : ∀ {x : Operand} {v : AV}, aeval E T x = some v → v.inst σ = some (a.eval x) := fun hx => aeval_ok hA hT hx
  unfold aactOp at h
  split at h
  · rename_i t hop
    obtain ⟨v, S₁, hv, rfl⟩ := outP_some h
    simp only [execOp, hop]
    exact out_val (aalloc_ok hE hS hv)
  · rename_i t x hop
    split at h
    · rename_i xv hx
      obtain ⟨v, S₁, hv, rfl⟩ := outP_some h
      simp only [execOp, hop]
      exact out_val (abox_ok hS (ev hx) hv)
    · cases h
  · rename_i t n ps hop
    split at h
    · rename_i qs hq
      obtain ⟨v, S₁, hv, rfl⟩ := outP_some h
      obtain ⟨h1, h2⟩ := aevalP_ok hA hT hq
      simp only [execOp, hop]
      exact out_val (abuildSlice_ok hE hS (by simpa using h1) (by simpa using h2) hv)
    · cases h
  · rename_i t x y hop
    split at h
    · rename_i xv hx
      split at h
      · rename_i yv hy
        obtain ⟨S₁, hv, rfl⟩ := outU_some h
        simp only [execOp, hop]
        exact out_unit (astore_ok hE hS (ev hx) (ev hy) hv)
      · cases h
    · cases h
  · rename_i s d x hop
    split at h
    · rename_i xv hx
      obtain ⟨v, S₁, hv, rfl⟩ := outP_some h
      simp only [execOp, hop]
      exact out_val (astrBytes_ok hE hS (ev hx) hv)
    · cases h
  · rename_i t r hop
    split at h
    · obtain ⟨v, S₁, hv, rfl⟩ := outP_some h
      obtain ⟨σ', h2, h3⟩ := amakeMap_ok hS hv
      exact ⟨σ', _, _, by simp [execOp, hop, Instr.makeMap], h2, h3⟩
    · rename_i x
      split at h
      · rename_i k n hx
        split at h
        · rename_i kt et ht
          obtain ⟨v, S₁, hv, rfl⟩ := outP_some h
          obtain ⟨σ', h2, h3⟩ := amakeMap_ok hS hv
          have hxe := inst_int (ev hx)
          exact ⟨σ', _, _, by simp [execOp, hop, Instr.makeMap, hxe, run_und hE ht, asInt, asIntOf], h2, h3⟩
        · cases h
      · cases h
  · rename_i t l c hop
    split at h
    · rename_i lv hl
      split at h
      · rename_i cv hc
        obtain ⟨v, S₁, hv, rfl⟩ := outP_some h
        simp only [execOp, hop]
        exact out_val (amakeSlice_ok hE hS (ev hl) (ev hc) hv)
      · cases h
    · cases h
  · rename_i t m k x hop
    split at h
    · rename_i mv hm
      split at h
      · rename_i kv hk
        split at h
        · rename_i xv hx
          obtain ⟨S₁, hv, rfl⟩ := outU_some h
          simp only [execOp, hop]
          exact out_unit (amapUpdate_ok hE hS (ev hm) (ev hk) (ev hx) hv)
        · cases h
      · cases h
    · cases h
  · rename_i t m k x hop
    split at h
    · rename_i mv hm
      split at h
      · rename_i kv hk
        split at h
        · rename_i xv hx
          obtain ⟨S₁, hv, rfl⟩ := outU_some h
          simp only [execOp, hop]
          exact out_unit (amapUpdate_ok hE hS (ev hm) (ev hk) (ev hx) hv)
        · cases h
      · cases h
    · cases h
  · rename_i t m k hop
    split at h
    · rename_i mv hm
      split at h
      · rename_i kv hk
        obtain ⟨v, S₁, hv, rfl⟩ := outP_some h
        simp only [execOp, hop]
        exact out_val (amapEntry_ok hE hS (ev hm) (ev hk) hv)
      · cases h
    · cases h
  · rename_i t m s x hop
    split at h
    · rename_i mv hm
      split at h
      · rename_i sv hs
        split at h
        · rename_i xv hx
          obtain ⟨S₁, hv, rfl⟩ := outU_some h
          simp only [execOp, hop]
          exact out_unit (aentryStore_ok hS (ev hm) (ev hs) (ev hx) hv)
        · cases h
      · cases h
    · cases h
  · rename_i t x hop
    split at h
    · rename_i xv hx
      obtain ⟨v, S₁, hv, rfl⟩ := outP_some h
      simp only [execOp, hop]
      exact out_val (arange_ok hE hS (ev hx) hv)
    · cases h
  · rename_i it b hop
    split at h
    · rename_i xv hx
      obtain ⟨v, S₁, hv, rfl⟩ := outP_some h
      simp only [execOp, hop]
      exact out_val (anext_ok hS (ev hx) hv)
    · cases h
  · rename_i x hop
    split at h
    · rename_i t v hx
      cases h
      obtain ⟨y, hy, hxe⟩ := inst_iface (ev hx)
      exact ⟨.iface t y, by simp [execOp, hop, hxe, Instr.panic], by simp [AV.inst, hy]⟩
    · cases h
  · rename_i c hop
    exact acall_ok hE hA hS hT hop h
  · rename_i c hop
    exact adefer_ok hA hT hop h
  · cases h

theorem aop_ok (hE : E.Ok) (hA : E.At σ) (hS : S.rel E.P σ w Wr) (hT : TRel σ T a.tmps) {out : AOut} (h : aop E T S o = some out) :
    OutOk E σ S w Wr ((execOp a.eval o).run E.P w) out := by
  unfold aop at h
  split at h
  · rename_i v hv
    cases h
    obtain ⟨u, h1, h2⟩ := areadOp_ok hE hA hS hT hv
    exact ⟨σ, u, w, h1, h2, Post.refl hS⟩
  · exact aactOp_ok hE hA hS hT h

end
end Go.Proofs.YtliimmpokhmjeaaGreatDoor.Zev
