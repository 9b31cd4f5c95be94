/-
  Regions that draw their order: readings are taken as soon as they can be, what acts in every order that is left.
-/
import Derived.Test.YtliimmpokhmjeaaGreatDoorZevK
import Derived.OrdersHeld
import Derived.OrdersIn
namespace Go.Proofs.YtliimmpokhmjeaaGreatDoor.Zev
open Go
set_option linter.unusedSimpArgs false
set_option linter.unusedVariables false

/-! ## What has come up is closed under what it waits for -/

def Closed (ops : Array Oper) (listed : Array Bool) : Prop :=
  ∀ j o, ops[j]? = some o → listed.getD j false = true → ∀ e ∈ o.after, Region.binds .any e = true → listed.getD e.on false = true
theorem getD_set_cases {listed : Array Bool} {i j : Nat} (h : (listed.setIfInBounds i true).getD j false = true) : i = j ∨ listed.getD j false = true := by
  by_cases hij : i = j
  · exact .inl hij
  · rw [getD_set_ne false hij] at h; exact .inr h
theorem Closed.set {ops : Array Oper} {listed : Array Bool} (h : Closed ops listed) {i : Nat} (hi : i ∈ Region.ready .any ops listed) : Closed ops (listed.setIfInBounds i true) := by
  intro j o hj hl e he hb
  rcases getD_set_cases hl with rfl | hl
  · obtain ⟨_, o', ho', hall⟩ := mem_ready.1 hi
    rw [hj] at ho'; cases ho'
    exact getD_set_true (hall e he hb)
  · exact getD_set_true (h j o hj hl e he hb)
theorem getD_rep (n j : Nat) : (Array.replicate n false).getD j false = false := by
  simp only [Array.getD_eq_getD_getElem?, Array.getElem?_replicate]
  split <;> rfl
theorem Closed.start (ops : Array Oper) (n : Nat) : Closed ops (Array.replicate n false) := by
  intro j o hj hl e he hb
  rw [getD_rep] at hl
  cases hl

noncomputable def maskOf (acc : List Nat) : List Edge → Nat
  | [] => 0
  | e :: l => match Region.binds .any e with
    | true => Nat.lor (Nat.lor (Nat.pow 2 e.on) (acc.getD e.on 0)) (maskOf acc l)
    | false => maskOf acc l
noncomputable def ancs : List Oper → List Nat → List Nat
  | [], acc => acc
  | o :: l, acc => ancs l (acc ++ [maskOf acc o.after.toList])

theorem maskOf_ok {acc : List Nat} {r : Nat} : ∀ {l : List Edge}, (maskOf acc l).testBit r = true → ∃ e ∈ l, Region.binds .any e = true ∧ (r = e.on ∨ (acc.getD e.on 0).testBit r = true)
  | [], h => by simp [maskOf] at h
  | e :: l, h => by
    simp only [maskOf] at h
    split at h
    · rename_i hb
      have h' : ((2 ^ e.on ||| acc.getD e.on 0) ||| maskOf acc l).testBit r = true := h
      rw [Nat.testBit_or, Nat.testBit_or, Nat.testBit_two_pow] at h'
      simp only [Bool.or_eq_true, decide_eq_true_eq] at h'
      rcases h' with (h1 | h1) | h1
      · exact ⟨e, List.mem_cons_self, hb, .inl h1.symm⟩
      · exact ⟨e, List.mem_cons_self, hb, .inr h1⟩
      · obtain ⟨e', h2, h3, h4⟩ := maskOf_ok h1
        exact ⟨e', List.mem_cons_of_mem _ h2, h3, h4⟩
    · obtain ⟨e', h2, h3, h4⟩ := maskOf_ok h
      exact ⟨e', List.mem_cons_of_mem _ h2, h3, h4⟩
def AncOk (listed : Array Bool) (acc : List Nat) : Prop := ∀ i r, listed.getD i false = true → (acc.getD i 0).testBit r = true → listed.getD r false = true
theorem ancs_ok {ops : Array Oper} {listed : Array Bool} (hc : Closed ops listed) : ∀ (l : List Oper) (acc : List Nat), ops.toList.drop acc.length = l → AncOk listed acc → AncOk listed (ancs l acc)
  | [], acc, _, h => h
  | o :: l, acc, hd, h => by
    have h1 : ops[acc.length]? = some o := by
      have := congrArg (fun x => x[0]?) hd
      simpa using this
    have h2 : ops.toList.drop (acc.length + 1) = l := by
      have := congrArg (List.drop 1) hd
      simpa [List.drop_drop] using this
    refine ancs_ok hc l _ (by simpa using h2) ?_
    intro i r hi hr
    by_cases hil : i < acc.length
    · rw [List.getD_eq_getElem?_getD, List.getElem?_append_left hil, ← List.getD_eq_getElem?_getD] at hr
      exact h i r hi hr
    · by_cases hie : i = acc.length
      · subst hie
        rw [List.getD_eq_getElem?_getD, List.getElem?_append_right (Nat.le_refl _)] at hr
        simp only [Nat.sub_self, List.getElem?_cons_zero, Option.getD_some] at hr
        obtain ⟨e, he, hb, hre⟩ := maskOf_ok hr
        have hl := hc _ o h1 hi e (by simpa using he) hb
        rcases hre with rfl | hre
        · exact hl
        · exact h e.on r hl hre
      · rw [List.getD_eq_getElem?_getD, List.getElem?_append_right (by omega), List.getElem?_eq_none (by simp; omega)] at hr
        simp at hr

/-! ## Orders under a condition that holds as long as something is still to be read -/

section
variable {P : Program} {ops : Array Oper} {Q : Exit → Act → World → Prop} {SS : Array Bool → World → Prop}

def wpAnyL (P : Program) (ops : Array Oper) (Q : Exit → Act → World → Prop) (SS : Array Bool → World → Prop) : Nat → Array Bool → Act → World → Prop
  | 0, listed, a, w => Region.ready .any ops listed = [] ∧ Q .normal a w
  | fuel + 1, listed, a, w =>
    (Region.ready .any ops listed = [] → Q .normal a w) ∧
    ∀ i ∈ Region.ready .any ops listed, wpOp P ops Q i (fun a' w' => SS (listed.setIfInBounds i true) w' ∧ wpAnyL P ops Q SS fuel (listed.setIfInBounds i true) a' w') a w

theorem wpAny_of_L : ∀ (fuel : Nat) (listed : Array Bool) (a : Act) (w : World), wpAnyL P ops Q SS fuel listed a w → wpAny P .any ops Q fuel listed a w
  | 0, _, _, _, h => h
  | fuel + 1, _, _, _, h => ⟨h.1, fun i hi => wpOp_mono (fun a' w' h' => wpAny_of_L fuel _ a' w' h'.2) (h.2 i hi)⟩

theorem wpAnyL_first {i : Nat} {oi : Oper} {v : Value} {S0 : World → Prop} (hi : ops[i]? = some oi) (hsel : ∀ (j : Nat) (o : Oper) cs b, ops[j]? = some o → o.op ≠ .select cs b)
    (hQ : ∀ c a w, Q (.panic c) (a.put oi.dst v) w → Q (.panic c) a w) (hSS : ∀ listed w, Closed ops listed → listed.getD i false = false → SS listed w → S0 w)
    (hSi : ∀ listed w, SS (listed.setIfInBounds i true) w ↔ SS listed w) :
    ∀ (fuel : Nat) (listed : Array Bool) (a : Act) (w : World), Closed ops listed →
      (∀ j oj, ops[j]? = some oj → j ≠ i → listed.getD j true = false → (∀ e ∈ oj.after, Region.binds .any e = true → e.on ≠ i) → oi.apart ops oj = true) →
      i ∈ Region.ready .any ops listed → YieldsIf P ops S0 oi v a → SS listed w →
      wpAnyL P ops Q SS fuel (listed.setIfInBounds i true) (a.put oi.dst v) w → wpAnyL P ops Q SS (fuel + 1) listed a w := by
  have unl : ∀ listed : Array Bool, i ∈ Region.ready .any ops listed → listed.getD i false = false := fun listed hr => by
    have hun := (mem_ready.1 hr).1
    rcases Nat.lt_or_ge i listed.size with h' | h'
    · simp [h'] at hun ⊢; exact hun
    · simp [Array.getElem?_eq_none h']
  intro fuel
  induction fuel with
  | zero =>
    intro listed a w hc _ hr hy hS H
    refine ⟨fun h => (by rw [h] at hr; cases hr), fun j hj => ?_⟩
    by_cases hji : j = i
    · subst hji; exact hy.wpOp hi (hSS _ _ hc (unl _ hr) hS) ⟨(hSi _ _).2 hS, H⟩
    · have := ready_mono hj hji
      rw [H.1] at this
      cases this
  | succ fuel ih =>
    intro listed a w hc hfree hr hy hS H
    refine ⟨fun h => (by rw [h] at hr; cases hr), fun j hj => ?_⟩
    by_cases hji : j = i
    · subst hji; exact hy.wpOp hi (hSS _ _ hc (unl _ hr) hS) ⟨(hSi _ _).2 hS, H⟩
    · have h1 := H.2 j (ready_mono hj hji)
      obtain ⟨hjun, oj, hoj, hall⟩ := mem_ready.1 hj
      have hnot : ∀ e ∈ oj.after, Region.binds .any e = true → e.on ≠ i := fun e he hb heq => by
        have h1 := hall e he hb
        rw [heq, unl _ hr] at h1
        cases h1
      have h2 := wpOp_putIf hoj (hfree j oj hoj hji hjun hnot) (fun cs b => hsel i oi cs b hi) (fun cs b => hsel j oj cs b hoj) hQ hy h1
      have hfree' : ∀ k ok, ops[k]? = some ok → k ≠ i → (listed.setIfInBounds j true).getD k true = false →
          (∀ e ∈ ok.after, Region.binds .any e = true → e.on ≠ i) → oi.apart ops ok = true := fun k ok hk hki hun' hno => by
        refine hfree k ok hk hki ?_ hno
        by_cases hjk : j = k
        · subst hjk; exact hjun
        · rw [getD_set_ne true hjk] at hun'; exact hun'
      refine wpOp_mono (fun a' w' h3 => ?_) h2
      obtain ⟨hya, hs3, h4⟩ := h3
      rw [Array.setIfInBounds_comm _ _ (Ne.symm hji)] at hs3 h4
      have hs4 := (hSi _ _).1 hs3
      exact ⟨hs4, ih (listed.setIfInBounds j true) a' w' (hc.set hj) hfree' (ready_mono hr (Ne.symm hji)) hya hs4 h4⟩
end

/-! ## The plan of a region -/

/-- It reads, and does nothing else. -/
def isReader (o : Oper) : Bool :=
  match o.op with
  | .alloc _ | .box _ _ | .buildSlice _ _ _ | .store _ _ _ | .makeMap _ _ | .makeSlice _ _ _ | .mapUpdate _ _ _ _ | .insert _ _ _ _ | .mapEntry _ _ _ | .entryStore _ _ _ _
  | .range _ _ | .next _ _ | .entry _ | .panic _ | .defer _ | .go _ | .ready _ | .makeChan _ _ | .send _ _ | .recv _ _ _ | .select _ _ | .sliceToArrayPointer _ _ => false
  | .call c => match c.callee with
    | .builtin b => match b with
      | .len | .cap | .max | .min => true
      | _ => false
    | _ => false
  | _ => true
/-- It reads memory. -/
def isMem (o : Oper) : Bool :=
  match o.op with
  | .load _ _ | .lookup _ _ _ _ | .waits _ | .convert _ _ _ => true
  | .call _ => true
  | _ => false
/-- The places of what reads memory. -/
noncomputable def memMask : List Oper → Nat → Nat
  | [], _ => 0
  | o :: l, i => match isReader o && isMem o with
    | true => Nat.lor (Nat.pow 2 i) (memMask l (i + 1))
    | false => memMask l (i + 1)
/-- It comes behind all that reads memory. -/
noncomputable def behind (ops : Array Oper) (j : Nat) : Bool :=
  match Nat.beq (Nat.land (memMask ops.toList 0) ((ancs ops.toList []).getD j 0)) (memMask ops.toList 0) with
  | true => match ops[j]? with
    | some o => !isReader o
    | none => false
  | false => false

theorem memMask_ok : ∀ {l : List Oper} {k i : Nat} {o : Oper}, l[i]? = some o → (isReader o && isMem o) = true → (memMask l k).testBit (k + i) = true
  | [], k, i, o, h, _ => by simp at h
  | x :: l, k, 0, o, h, hr => by
    simp only [List.getElem?_cons_zero, Option.some.injEq] at h
    subst h
    simp only [memMask, hr]
    have : ((2 ^ k ||| memMask l (k + 1))).testBit (k + 0) = true := by
      rw [Nat.testBit_or, Nat.testBit_two_pow]
      simp
    exact this
  | x :: l, k, i + 1, o, h, hr => by
    simp only [List.getElem?_cons_succ] at h
    have ih := memMask_ok (k := k + 1) h hr
    rw [show k + 1 + i = k + (i + 1) by omega] at ih
    simp only [memMask]
    split
    · have : ((2 ^ k ||| memMask l (k + 1))).testBit (k + (i + 1)) = true := by
        rw [Nat.testBit_or, ih, Bool.or_true]
      exact this
    · exact ih

theorem behind_ok {ops : Array Oper} {j : Nat} (h : behind ops j = true) {listed : Array Bool} (hc : Closed ops listed) (hj : listed.getD j false = true) {i : Nat} {o : Oper} (hi : ops[i]? = some o)
    (hr : (isReader o && isMem o) = true) : listed.getD i false = true := by
  unfold behind at h
  split at h
  · rename_i hm
    have hm' : (memMask ops.toList 0 &&& (ancs ops.toList []).getD j 0) = memMask ops.toList 0 := Nat.eq_of_beq_eq_true hm
    have hbit := memMask_ok (l := ops.toList) (k := 0) (i := i) (o := o) (by simpa using hi) hr
    rw [Nat.zero_add, ← hm', Nat.testBit_and] at hbit
    simp only [Bool.and_eq_true] at hbit
    exact ancs_ok hc ops.toList [] rfl (fun i r _ hr => by simp at hr) j i hj hbit.2
  · cases h

inductive Plan where
  | done
  | fail
  | take (o : Oper) (p : Plan)
  | alt (o : Oper) (held : Bool) (p rest : Plan)
  | stop

noncomputable def anyBehind (ops : Array Oper) (listed : Array Bool) : Bool := (List.range ops.size).any fun u => listed.getD u false && behind ops u
noncomputable def pickReader (ops : Array Oper) (listed : Array Bool) : List Nat → Option (Nat × Oper)
  | [] => none
  | i :: l => match ops[i]? with
    | some o => match isReader o && Region.free .any ops listed i with
      | true => some (i, o)
      | false => pickReader ops listed l
    | none => pickReader ops listed l
noncomputable def altsOf (ops : Array Oper) (listed : Array Bool) (mk : Array Bool → Plan) : List Nat → Plan
  | [] => .stop
  | i :: l => match ops[i]? with
    | some o => .alt o (!(anyBehind ops (listed.setIfInBounds i true))) (mk (listed.setIfInBounds i true)) (altsOf ops listed mk l)
    | none => .fail
noncomputable def mkPlan (ops : Array Oper) : Nat → Array Bool → Plan
  | 0, listed => match Region.ready .any ops listed with
    | [] => .done
    | _ => .fail
  | n + 1, listed => match Region.ready .any ops listed with
    | [] => .done
    | i :: l => match pickReader ops listed (i :: l) with
      | some (j, o) => .take o (mkPlan ops n (listed.setIfInBounds j true))
      | none => altsOf ops listed (mkPlan ops n) (i :: l)

def setLimit (S : ASt) (l : Nat → Bool) : ASt := { heap := S.heap, next := S.next, limit := l }
noncomputable def memN (i : Nat) : List Nat → Bool
  | [] => false
  | j :: l => match Nat.beq i j with
    | true => true
    | false => memN i l
/-- What may be written while something is still to be read: what is new, and some blocks that are not read. -/
noncomputable def fromN (N : Nat) (W : List Nat) : Nat → Bool := fun id => match Nat.ble N id with
  | true => true
  | false => memN id W
noncomputable def without (H : Trie ABlock) : List Nat → Trie ABlock
  | [] => H
  | i :: W => without (Trie.put none depth H i) W
noncomputable def okW (S : ASt) : List Nat → Bool
  | [] => true
  | i :: W => match S.limit i && Nat.blt i maxIds with
    | true => match S.heap.get i with
      | some _ => okW S W
      | none => false
    | false => false

noncomputable def evalPlan (E : Env) (C : CallE) (ops : Array Oper) (H0 : Trie ABlock) (l1 l0 : Nat → Bool) : Plan → AF → ASt → Option (List (AF × ASt))
  | .done, f, S => some [(f, setLimit S l0)]
  | .fail, _, _ => none
  | .stop, _, _ => some []
  | .take o p, f, S => match awanted ops f.T o with
    | some true => match areadF E f.T { heap := match isMem o with | true => H0 | false => .leaf, next := S.next, limit := fromN S.next [] } o with
      | some v => match f.put o.dst v with
        | some f' => evalPlan E C ops H0 l1 l0 p f' S
        | none => none
      | none => none
    | some false => match f.put o.dst aundef with
      | some f' => evalPlan E C ops H0 l1 l0 p f' S
      | none => none
    | none => none
  | .alt o held p rest, f, S => match astep E C (fun _ _ _ => none) true ops f (setLimit S (match held with | true => l1 | false => l0)) o with
    | some (.go f' S') => match evalPlan E C ops H0 l1 l0 p f' S' with
      | some r => match evalPlan E C ops H0 l1 l0 rest f S with
        | some r' => some (r ++ r')
        | none => none
      | none => none
    | _ => none

/-- Where the address in a slot comes from. -/
noncomputable def definedBy (t : Tmp) : List Oper → Option Op
  | [] => none
  | o :: l => match o.dst with
    | some d => match Nat.beq d t with
      | true => some o.op
      | false => definedBy t l
    | none => definedBy t l
noncomputable def baseOf (ops : List Oper) : Nat → Operand → Operand
  | 0, x => x
  | n + 1, x => match x with
    | .tmp t => match definedBy t ops with
      | some (.fieldAddr _ y _) => baseOf ops n y
      | some (.indexAddr _ y _) => baseOf ops n y
      | some (.move y) => baseOf ops n y
      | some (.nilCheck y) => baseOf ops n y
      | _ => x
    | _ => x
noncomputable def writeTarget (ops : List Oper) (o : Oper) : Option Operand :=
  match o.op with
  | .store _ x _ => some (baseOf ops 5 x)
  | .mapUpdate _ m _ _ => some m
  | .call c => match c.callee with
    | .builtin .append => c.args[0]?
    | .builtin .copy => c.args[0]?
    | _ => none
  | _ => none
/-- What acts before all is read. -/
noncomputable def targets (ops : Array Oper) : List Oper → Nat → List Operand
  | [], _ => []
  | o :: l, i => match writeTarget ops.toList o with
    | some x => match behind ops i with
      | true => targets ops l (i + 1)
      | false => x :: targets ops l (i + 1)
    | none => targets ops l (i + 1)
noncomputable def idOf (v : Option AV) : Option Nat :=
  match v with
  | some (.ptr id _) => some id
  | some (.slice id _ _ _ _) => some id
  | some (.map id) => some id
  | _ => none
noncomputable def writtenAt (E : Env) (f : AF) (S : ASt) : List Operand → List Nat
  | [] => []
  | x :: l => match idOf (aeval E f.T x) with
    | some id => match Nat.blt id S.next && S.limit id with
      | true => id :: writtenAt E f S l
      | false => writtenAt E f S l
    | none => writtenAt E f S l
/-- The readings with which a plan begins. -/
noncomputable def preT (E : Env) (S : ASt) : Plan → AF → AF
  | .take o p, f => match awanted #[] f.T { o with guard := none } with
    | some true => match areadF E f.T S o with
      | some v => match f.put o.dst v with
        | some f' => preT E S p f'
        | none => f
      | none => f
    | _ => f
  | _, f => f

noncomputable def adrawW (E : Env) (C : CallE) (ops : Array Oper) (f : AF) (S : ASt) (W : List Nat) : Option (List Out) :=
  match Region.noSelect ops && ((ops.toList.all fun o => match o.op with | .defer _ => false | _ => true) && okW S W) with
  | true => match evalPlan E C ops (without S.heap W) (fromN S.next W) S.limit (mkPlan ops ops.size (Array.replicate ops.size false)) f S with
    | some outs => some (outs.map fun o => (.normal, o.1, o.2))
    | none => none
  | false => none
noncomputable def adraw (E : Env) (C : CallE) (ops : Array Oper) (f : AF) (S : ASt) : Option (List Out) :=
  match targets ops ops.toList 0 with
  | [] => adrawW E C ops f S []
  | x :: l => adrawW E C ops f S (writtenAt E (preT E S (mkPlan ops ops.size (Array.replicate ops.size false)) f) S (x :: l))

/-! ## It is sound -/

theorem memN_iff {i : Nat} : ∀ {W : List Nat}, memN i W = true ↔ i ∈ W
  | [] => by simp [memN]
  | j :: W => by
    simp only [memN]
    split
    · rename_i h
      simp [Nat.eq_of_beq_eq_true h]
    · rename_i h
      have := Nat.ne_of_beq_eq_false h
      rw [memN_iff]
      simp [this]
theorem fromN_iff {N : Nat} {W : List Nat} {id : Nat} : fromN N W id = true ↔ N ≤ id ∨ id ∈ W := by
  unfold fromN
  split
  · rename_i h
    simp [Nat.le_of_ble_eq_true h]
  · rename_i h
    rw [memN_iff]
    constructor
    · exact fun e => .inr e
    · rintro (e | e)
      · rw [Nat.ble_eq_true_of_le e] at h; cases h
      · exact e
theorem okW_ok {S : ASt} : ∀ {W : List Nat}, okW S W = true → ∀ i ∈ W, S.limit i = true ∧ i < maxIds ∧ ∃ b, S.heap.get i = some b
  | [], _, i, hi => by cases hi
  | j :: W, h, i, hi => by
    simp only [okW] at h
    split at h
    · rename_i hc
      simp only [Bool.and_eq_true] at hc
      split at h
      · rename_i b hb
        cases hi with
        | head => exact ⟨hc.1, lt_of_blt hc.2, b, hb⟩
        | tail _ hm => exact okW_ok h i hm
      · cases h
    · cases h
theorem without_get : ∀ {W : List Nat} {H : Trie ABlock}, (∀ i ∈ W, i < maxIds) → ∀ j, (without H W).get j = if j ∈ W then none else H.get j
  | [], H, _, j => by simp [without]
  | i :: W, H, h, j => by
    simp only [without]
    rw [without_get (fun k hk => h k (List.mem_cons_of_mem _ hk)), Trie.get_put _ _ _ _ (by simpa [maxIds] using h i List.mem_cons_self)]
    by_cases h1 : j ∈ W
    · simp [h1]
    · by_cases h2 : j = i
      · simp [h2]
      · simp [h1, h2]

/-- The blocks of the world that may be written. -/
def heldWr (σ : Sig) (w : World) (W : List Nat) : Nat → Prop := fun b => w.heap.size ≤ b ∨ ∃ id, id ∈ W ∧ ∃ κ, σ id = some (b, κ)

/-- What was there and may not be written is as it was. -/
theorem rel_old {P : Program} {σ₀ σ : Sig} {S : ASt} {w w' : World} {Wr : Nat → Prop} (hS : S.rel P σ₀ w Wr) {W : List Nat} (hW : okW S W = true) (hk : Kept (heldWr σ₀ w W) w w') (hu : Sig.upto S.next σ₀ σ) {n : Nat} (hn : S.next ≤ n)
    (hf : ∀ id, n ≤ id → σ id = none) {l : Nat → Bool} (hl : ∀ id, n ≤ id → l id = true) : HRel P σ (without S.heap W).get n l w' (fun _ => True) := by
  have hget := without_get (W := W) (H := S.heap) fun i hi => (okW_ok hW i hi).2.1
  have hlt : ∀ id blk, S.heap.get id = some blk → id < S.next := fun id blk h => by
    rcases Nat.lt_or_ge id S.next with h' | h'
    · exact h'
    · rw [(hS.fresh id h').2] at h; cases h
  have hle : σ₀.le σ := hu.le fun id hid => (hS.fresh id hid).1
  have live : ∀ id blk, (without S.heap W).get id = some blk → id ∉ W ∧ S.heap.get id = some blk := fun id blk h => by
    rw [hget] at h
    split at h
    · cases h
    · rename_i hn; exact ⟨hn, h⟩
  refine ⟨fun id blk h => ?_, fun i j bi bj x y hi hj hx hy hxy => ?_, fun _ _ _ _ _ _ => trivial, fun _ _ => trivial, fun id hid => ⟨hf id hid, ?_⟩, hl⟩
  · obtain ⟨hnw, h⟩ := live id blk h
    obtain ⟨b, κ, o, h1, h2, h3⟩ := hS.at_ id blk h
    have hb := (Array.getElem?_eq_some_iff.1 h2).1
    refine ⟨b, κ, o, hle _ _ h1, ?_, h3.le hle⟩
    rw [hk.same b ?_]
    · exact h2
    · rintro (e | ⟨id', hid', κ', e⟩)
      · omega
      · obtain ⟨_, _, blk', hblk'⟩ := okW_ok hW id' hid'
        have := hS.inj id id' blk blk' _ _ h hblk' h1 e rfl
        exact hnw (this ▸ hid')
  · obtain ⟨_, hi⟩ := live i bi hi
    obtain ⟨_, hj⟩ := live j bj hj
    rw [hu i (hlt i bi hi)] at hx
    rw [hu j (hlt j bj hj)] at hy
    exact hS.inj i j bi bj x y hi hj hx hy hxy
  · rw [hget]
    split
    · rfl
    · exact (hS.fresh id (by omega)).2

/-- A run under a narrow limit is one under the wide one. -/
theorem unlimit {P : Program} {σ₀ σ : Sig} {S S' : ASt} {w w' : World} {Wr : Nat → Prop} (hS : S.rel P σ₀ w Wr) {W : List Nat} (hW : okW S W = true)
    (h : Post P σ₀ (setLimit S (fromN S.next W)) w (heldWr σ₀ w W) σ S' w') : Post P σ₀ S w Wr σ (setLimit S' S.limit) w' := by
  have hl : S'.limit = fromN S.next W := h.limit
  have hnx : S.next ≤ S'.next := h.next
  have hwr : ∀ b, heldWr σ₀ w W b → Wr b := by
    rintro b (e | ⟨id, hid, κ, e⟩)
    · exact hS.wrNew b e
    · obtain ⟨h1, _, blk, h2⟩ := okW_ok hW id hid
      exact hS.wr id blk _ h2 h1 e
  refine ⟨⟨h.rel.at_, h.rel.inj, fun id blk x hid hlim hx => ?_, fun b hb => ?_, h.rel.fresh, fun id hid => ?_⟩, h.upto, h.next, rfl, ⟨h.kept.size, fun b hb => ?_, h.kept.out⟩, fun id hid => ?_⟩
  · cases hc : fromN S.next W id with
    | false =>
      have hfr : S'.heap.get id = S.heap.get id := h.frame id hc
      have hlt : id < S.next := by
        rcases Nat.lt_or_ge id S.next with e | e
        · exact e
        · rw [fromN_iff.2 (.inl e)] at hc; cases hc
      have hid' : S'.heap.get id = some blk := hid
      rw [hfr] at hid'
      have hx' := h.upto id hlt
      rw [hx'] at hx
      exact hS.wr id blk x hid' hlim hx
    | true =>
      exact hwr _ (h.rel.wr id blk x hid (by rw [hl]; exact hc) hx)
  · exact hS.wrNew b (Nat.le_trans h.kept.size hb)
  · have hid' : S'.next ≤ id := hid
    exact hS.low id (by omega)
  · exact h.kept.same b fun e => hb (hwr b e)
  · have hid' : S.limit id = false := hid
    refine h.frame id ?_
    show fromN S.next W id = false
    cases hc : fromN S.next W id with
    | false => rfl
    | true =>
      rcases fromN_iff.1 hc with e | e
      · rw [hS.low id e] at hid'; cases hid'
      · rw [(okW_ok hW id e).1] at hid'; cases hid'

/-- The narrow limit to begin with. -/
theorem limited {P : Program} {σ : Sig} {S : ASt} {w : World} {Wr : Nat → Prop} (hS : S.rel P σ w Wr) (W : List Nat) : (setLimit S (fromN S.next W)).rel P σ w (heldWr σ w W) :=
  { at_ := hS.at_
    inj := hS.inj
    wr := fun id blk x h hl hx => by
      have h' : S.heap.get id = some blk := h
      rcases fromN_iff.1 hl with e | e
      · rw [(hS.fresh id e).2] at h'
        cases h'
      · exact .inr ⟨id, e, x.2, hx⟩
    wrNew := fun b hb => .inl hb
    fresh := hS.fresh
    low := fun id hid => fromN_iff.2 (.inl hid) }

section
variable {E : Env} {C : CallE}

/-- An operation in a program without rounds. -/
theorem adoOp_wp (hE : E.Ok) (hC : CallsOk E C) {f : AF} {S : ASt} {o : Oper} {r : AStep} (h : adoOp E C (fun _ _ _ => none) true f S o = some r)
    {σ : Sig} {w : World} {Wr : Nat → Prop} {a : Act} (hA : E.At σ) (hS : S.rel E.P σ w Wr) (hf : FRel σ f a) {K : Act → World → Prop} {Q : Exit → Act → World → Prop} (hk : StepK E σ S w Wr K Q f r) :
    o.wp E.P a w K Q := by
  unfold adoOp at h
  unfold Oper.wp
  split at h
  all_goals first
    | (cases h; done)
    | skip
  case h_1 v S' hop =>
    obtain ⟨f', hp, rfl⟩ := goOn_some h
    obtain ⟨σ', u, w', h1, h2, h3⟩ := aop_ok hE hA hS hf.tmps (aopF_sound hop)
    rw [h1]
    exact hk σ' _ w' (AF.put_ok (hf.le (h3.le hS)) h2 hp) h3
  case h_2 S' hop =>
    obtain ⟨f', hp, rfl⟩ := goOn_some h
    obtain ⟨σ', w', h1, h3⟩ := aop_ok hE hA hS hf.tmps (aopF_sound hop)
    rw [h1]
    exact hk σ' _ w' (AF.put_ok (hf.le (h3.le hS)) (undef_inst σ') hp) h3
  case h_3 g args hop =>
    obtain ⟨us, h1, h2⟩ := aop_ok hE hA hS hf.tmps (aopF_sound hop)
    rw [h1, Oper.upon_enter]
    split at h
    · rename_i v S' hc
      obtain ⟨f', hp, rfl⟩ := goOn_some h
      refine (hC g args S _ _ hc σ w Wr us hA hS h2).mono ?_
      rintro e w' ⟨σ', ⟨u, hu, rfl⟩, h3⟩
      exact hk σ' _ w' (AF.put_ok (hf.le (h3.le hS)) hu hp) h3
    · rename_i v S' hc
      cases h
      refine (hC g args S _ _ hc σ w Wr us hA hS h2).mono ?_
      rintro e w' ⟨σ', ⟨u, hu, rfl⟩, h3⟩
      exact hk σ' _ w' u hu (hf.le (h3.le hS)) h3
    · cases h
  case h_6 v hop =>
    cases h
    obtain ⟨u, h1, h2⟩ := aop_ok hE hA hS hf.tmps (aopF_sound hop)
    rw [h1, Oper.upon_panic]
    exact hk σ a w u h2 hf (Post.refl hS)
theorem astep_wp (hE : E.Ok) (hC : CallsOk E C) {ops : Array Oper} {f : AF} {S : ASt} {o : Oper} {r : AStep} (h : astep E C (fun _ _ _ => none) true ops f S o = some r)
    {σ : Sig} {w : World} {Wr : Nat → Prop} {a : Act} (hA : E.At σ) (hS : S.rel E.P σ w Wr) (hf : FRel σ f a) {K : Act → World → Prop} {Q : Exit → Act → World → Prop} (hk : StepK E σ S w Wr K Q f r)
    {i : Nat} (hi : ops[i]? = some o) : wpOp E.P ops Q i K a w := by
  unfold wpOp
  rw [hi]
  unfold astep at h
  split at h
  · rename_i hw
    simp only [awanted_ok hf.tmps hw, if_true]
    exact .inl (adoOp_wp hE hC h hA hS hf hk)
  · rename_i hw
    simp only [awanted_ok hf.tmps hw, Bool.false_eq_true, if_false]
    obtain ⟨f', hp, rfl⟩ := goOn_some h
    exact hk σ _ w (AF.put_ok hf (undef_inst σ) hp) (Post.refl hS)
  · cases h

theorem pickReader_some {ops : Array Oper} {listed : Array Bool} : ∀ {l : List Nat} {i : Nat} {o : Oper}, pickReader ops listed l = some (i, o) → i ∈ l ∧ ops[i]? = some o ∧ isReader o = true ∧ Region.free .any ops listed i = true
  | [], _, _, h => by cases h
  | j :: l, i, o, h => by
    simp only [pickReader] at h
    split at h
    · rename_i oj hj
      split at h
      · rename_i hc
        cases h
        simp only [Bool.and_eq_true] at hc
        exact ⟨List.mem_cons_self, hj, hc.1, hc.2⟩
      · obtain ⟨h1, h2⟩ := pickReader_some h
        exact ⟨List.mem_cons_of_mem _ h1, h2⟩
    · obtain ⟨h1, h2⟩ := pickReader_some h
      exact ⟨List.mem_cons_of_mem _ h1, h2⟩

theorem altsOf_eval {ops : Array Oper} {listed : Array Bool} {mk : Array Bool → Plan} {H0 : Trie ABlock} {N l0 : Nat → Bool} {f : AF} {S : ASt} : ∀ {l : List Nat} {outs : List (AF × ASt)}, evalPlan E C ops H0 N l0 (altsOf ops listed mk l) f S = some outs →
    ∀ i ∈ l, ∃ o f' S' r, ops[i]? = some o ∧ astep E C (fun _ _ _ => none) true ops f (setLimit S (match !(anyBehind ops (listed.setIfInBounds i true)) with | true => N | false => l0)) o = some (.go f' S') ∧
      evalPlan E C ops H0 N l0 (mk (listed.setIfInBounds i true)) f' S' = some r ∧ ∀ x ∈ r, x ∈ outs
  | [], outs, h, i, hi => by cases hi
  | j :: l, outs, h, i, hi => by
    simp only [altsOf] at h
    split at h
    · rename_i o ho
      simp only [evalPlan] at h
      split at h
      · rename_i f' S' hs
        split at h
        · rename_i r hr
          split at h
          · rename_i r' hr'
            cases h
            cases hi with
            | head => exact ⟨o, f', S', r, ho, hs, hr, fun x hx => List.mem_append_left _ hx⟩
            | tail _ hm =>
              obtain ⟨o1, f1, S1, r1, e1, e2, e3, e4⟩ := altsOf_eval hr' i hm
              exact ⟨o1, f1, S1, r1, e1, e2, e3, fun x hx => List.mem_append_right _ (e4 x hx)⟩
          · cases h
        · cases h
      · cases h
    · simp only [evalPlan] at h
      cases h

theorem anyBehind_iff {ops : Array Oper} {listed : Array Bool} : anyBehind ops listed = true ↔ ∃ u, u < ops.size ∧ listed.getD u false = true ∧ behind ops u = true := by
  simp [anyBehind, List.any_eq_true]
theorem behind_reader {ops : Array Oper} {u : Nat} (h : behind ops u = true) : ∃ o, ops[u]? = some o ∧ isReader o = false := by
  unfold behind at h
  split at h
  · split at h
    · rename_i o ho
      exact ⟨o, ho, by simpa using h⟩
    · cases h
  · cases h

/-- How far a region has come. -/
def Way (E : Env) (σ₀ : Sig) (S₀ : ASt) (w₀ : World) (Wr : Nat → Prop) (W : List Nat) (held : Bool) (σ : Sig) (S : ASt) (w : World) : Prop :=
  match held with
  | true => Post E.P σ₀ (setLimit S₀ (fromN S₀.next W)) w₀ (heldWr σ₀ w₀ W) σ (setLimit S (fromN S₀.next W)) w
  | false => Post E.P σ₀ S₀ w₀ Wr σ (setLimit S S₀.limit) w
theorem Way.wide {σ₀ : Sig} {S₀ : ASt} {w₀ : World} {Wr : Nat → Prop} {W : List Nat} (hW : okW S₀ W = true) (hS : S₀.rel E.P σ₀ w₀ Wr) {held : Bool} {σ : Sig} {S : ASt} {w : World} (h : Way E σ₀ S₀ w₀ Wr W held σ S w) :
    Post E.P σ₀ S₀ w₀ Wr σ (setLimit S S₀.limit) w := by
  cases held with
  | true =>
    have h' : Post E.P σ₀ (setLimit S₀ (fromN S₀.next W)) w₀ (heldWr σ₀ w₀ W) σ (setLimit S (fromN S₀.next W)) w := h
    exact unlimit (S' := setLimit S (fromN S₀.next W)) hS hW h'
  | false => exact h

theorem evalPlan_ok (hE : E.Ok) (hC : CallsOk E C) {ops : Array Oper} (hsel : Region.noSelect ops = true) {σ₀ : Sig} {S₀ : ASt} {w₀ : World} {Wr : Nat → Prop} (hA : E.At σ₀) (hS : S₀.rel E.P σ₀ w₀ Wr) {W : List Nat} (hW : okW S₀ W = true)
    {outs : List (AF × ASt)} {Q : Exit → Act → World → Prop} (hQ : ∀ e a w, Q e a w ↔ e = .normal ∧ ∃ o ∈ outs, ∃ σ, FRel σ o.1 a ∧ Post E.P σ₀ S₀ w₀ Wr σ o.2 w) :
    ∀ (n : Nat) (listed : Array Bool) (f : AF) (S : ASt) (r : List (AF × ASt)), evalPlan E C ops (without S₀.heap W) (fromN S₀.next W) S₀.limit (mkPlan ops n listed) f S = some r → (∀ x ∈ r, x ∈ outs) → Closed ops listed →
      ∀ σ a w, FRel σ f a → Way E σ₀ S₀ w₀ Wr W (!(anyBehind ops listed)) σ S w →
        wpAnyL E.P ops Q (fun L wy => anyBehind ops L = false → Kept (heldWr σ₀ w₀ W) w₀ wy) n listed a w := by
  have hdone : ∀ (listed : Array Bool) (f : AF) (S : ASt) (r : List (AF × ASt)), evalPlan E C ops (without S₀.heap W) (fromN S₀.next W) S₀.limit .done f S = some r → (∀ x ∈ r, x ∈ outs) →
      ∀ σ a w, FRel σ f a → Way E σ₀ S₀ w₀ Wr W (!(anyBehind ops listed)) σ S w → Q .normal a w := by
    intro listed f S r h hr σ a w hf hw
    simp only [evalPlan, Option.some.injEq] at h
    subst h
    exact (hQ _ _ _).2 ⟨rfl, _, hr _ (List.mem_singleton.2 rfl), σ, hf, hw.wide hW hS⟩
  intro n
  induction n with
  | zero =>
    intro listed f S r h hr hc σ a w hf hw
    simp only [mkPlan] at h
    split at h
    · rename_i hrd
      exact ⟨hrd, hdone listed f S r h hr σ a w hf hw⟩
    · simp only [evalPlan] at h
      cases h
  | succ n ih =>
    intro listed f S r h hr hc σ a w hf hw
    simp only [mkPlan] at h
    split at h
    · rename_i hrd
      exact ⟨fun _ => hdone listed f S r h hr σ a w hf hw, by rw [hrd]; simp⟩
    · rename_i i₀ l₀ hrd
      split at h
      · -- a reading is taken first
        rename_i j o hpick
        obtain ⟨hjm, hjo, hrdr, hfree⟩ := pickReader_some hpick
        rw [← hrd] at hjm
        have hnb : ∀ L : Array Bool, anyBehind ops (L.setIfInBounds j true) = anyBehind ops L := fun L => by
          rw [Bool.eq_iff_iff, anyBehind_iff, anyBehind_iff]
          constructor
          · rintro ⟨u, h1, h2, h3⟩
            rcases getD_set_cases h2 with rfl | h2
            · obtain ⟨o', ho', hr'⟩ := behind_reader h3
              rw [hjo] at ho'; cases ho'
              rw [hrdr] at hr'; cases hr'
            · exact ⟨u, h1, h2, h3⟩
          · rintro ⟨u, h1, h2, h3⟩
            exact ⟨u, h1, getD_set_true h2, h3⟩
        have hww := hw.wide hW hS
        have hAσ : E.At σ := hA.le (hww.le hS)
        -- what it yields
        have key : ∀ v f', evalPlan E C ops (without S₀.heap W) (fromN S₀.next W) S₀.limit (mkPlan ops n (listed.setIfInBounds j true)) f' S = some r → ∀ u, v.inst σ = some u → f.put o.dst v = some f' →
            YieldsIf E.P ops (match isMem o with | true => Kept (heldWr σ₀ w₀ W) w₀ | false => fun _ => True) o u a →
            wpAnyL E.P ops Q (fun L wy => anyBehind ops L = false → Kept (heldWr σ₀ w₀ W) w₀ wy) (n + 1) listed a w := by
          intro v f' hev u hu hput hy
          have hnext := ih (listed.setIfInBounds j true) f' S r hev hr (hc.set hjm) σ (a.put o.dst u) w (AF.put_ok hf hu hput) (by rw [hnb]; exact hw)
          refine wpAnyL_first hjo (Region.noSelect_spec hsel) (fun c a w hq => absurd ((hQ _ _ _).1 hq).1 (by simp)) ?_ (fun L wy => by simp only [hnb]) n listed a w hc (Region.free_spec hjo hfree) hjm hy ?_ hnext
          · intro L wy hcl hun hss
            cases hm : isMem o with
            | false => simp only
            | true =>
              simp only
              refine hss ?_
              cases hb : anyBehind ops L with
              | false => rfl
              | true =>
                obtain ⟨u', h1, h2, h3⟩ := anyBehind_iff.1 hb
                have := behind_ok h3 hcl h2 hjo (by simp [hrdr, hm])
                rw [hun] at this; cases this
          · intro hb
            rw [hb] at hw
            exact hw.kept
        simp only [evalPlan] at h
        split at h
        · rename_i hwt
          split at h
          · rename_i v hv
            split at h
            · rename_i f' hput
              -- the value, in every world that is fit
              have hval : ∀ wy, (match isMem o with | true => Kept (heldWr σ₀ w₀ W) w₀ wy | false => True) → ∃ u, (execOp a.eval o).run E.P wy = .ok (.value u) wy ∧ v.inst σ = some u := by
                intro wy hwy
                have hfr : ∀ id, S.next ≤ id → σ id = none := fun id hid => (hww.rel.fresh id hid).1
                cases hm : isMem o with
                | false =>
                  rw [hm] at hv
                  have hrel : HRel E.P σ (Trie.leaf : Trie ABlock).get S.next (fromN S.next []) wy (fun _ => True) :=
                    { at_ := fun id blk h => by simp [Trie.get_leaf] at h
                      inj := fun i j bi bj x y h => by simp [Trie.get_leaf] at h
                      wr := fun _ _ _ h => by simp [Trie.get_leaf] at h
                      wrNew := fun _ _ => trivial
                      fresh := fun id hid => ⟨hfr id hid, rfl⟩
                      low := fun id hid => fromN_iff.2 (.inl hid) }
                  exact areadOp_ok (S := { heap := .leaf, next := S.next, limit := fromN S.next [] }) hE hAσ hrel hf.tmps (areadF_sound hv)
                | true =>
                  rw [hm] at hv hwy
                  have hrel := rel_old (σ := σ) hS hW hwy hww.upto hww.next hfr (l := fromN S.next []) (fun id hid => fromN_iff.2 (.inl hid))
                  exact areadOp_ok (S := { heap := without S₀.heap W, next := S.next, limit := fromN S.next [] }) hE hAσ hrel hf.tmps (areadF_sound hv)
              -- the value at all
              have hww0 : match isMem o with | true => Kept (heldWr σ₀ w₀ W) w₀ w₀ | false => True := by
                cases isMem o with
                | true => exact Kept.refl _ _
                | false => trivial
              obtain ⟨u, _, hu⟩ := hval w₀ hww0
              refine key v f' h u hu hput (.inl ⟨awanted_ok hf.tmps hwt, fun wy hwy => ?_⟩)
              have hwy' : match isMem o with | true => Kept (heldWr σ₀ w₀ W) w₀ wy | false => True := by
                cases hm : isMem o with
                | true => rw [hm] at hwy; exact hwy
                | false => trivial
              obtain ⟨u', h1, h2⟩ := hval wy hwy'
              rw [hu] at h2; cases h2
              exact h1
            · cases h
          · cases h
        · rename_i hwt
          split at h
          · rename_i f' hput
            exact key aundef f' h undef (undef_inst σ) hput (.inr ⟨awanted_ok hf.tmps hwt, rfl⟩)
          · cases h
        · cases h
      · -- what acts, in whatever order
        refine ⟨fun h0 => (by rw [hrd] at h0; cases h0), fun i hi => ?_⟩
        rw [hrd] at hi
        obtain ⟨o, f', S', r', ho, hs, hev, hsub⟩ := altsOf_eval h i hi
        have him : i ∈ Region.ready .any ops listed := by rw [hrd]; exact hi
        -- once something behind has come up, it stays so
        have hmono : anyBehind ops (listed.setIfInBounds i true) = false → anyBehind ops listed = false := fun hb => by
          cases hbl : anyBehind ops listed with
          | false => rfl
          | true =>
            obtain ⟨u, h1, h2, h3⟩ := anyBehind_iff.1 hbl
            have := anyBehind_iff.2 ⟨u, h1, getD_set_true (i := i) h2, h3⟩
            rw [hb] at this; cases this
        cases hb : anyBehind ops (listed.setIfInBounds i true) with
        | false =>
          rw [hb] at hs
          rw [hmono hb] at hw
          have hw1 : Post E.P σ₀ (setLimit S₀ (fromN S₀.next W)) w₀ (heldWr σ₀ w₀ W) σ (setLimit S (fromN S₀.next W)) w := hw
          have hAσ : E.At σ := hA.le (hw1.le (limited hS W))
          refine astep_wp hE hC hs hAσ hw1.rel hf ?_ ho
          intro σ' a' w' hf' hp
          have hp' : Post E.P σ₀ (setLimit S₀ (fromN S₀.next W)) w₀ (heldWr σ₀ w₀ W) σ' S' w' := hw1.trans hp
          have hlim : setLimit S' (fromN S₀.next W) = S' := by
            have : S'.limit = fromN S₀.next W := hp'.limit
            cases S'
            simp only [setLimit] at this ⊢
            subst this
            rfl
          refine ⟨fun _ => hp'.kept, ih _ f' S' r' hev (fun x hx => hr x (hsub x hx)) (hc.set him) σ' a' w' hf' ?_⟩
          rw [hb]
          show Post E.P σ₀ (setLimit S₀ (fromN S₀.next W)) w₀ (heldWr σ₀ w₀ W) σ' (setLimit S' (fromN S₀.next W)) w'
          rw [hlim]
          exact hp'
        | true =>
          rw [hb] at hs
          have hw1 := hw.wide hW hS
          have hAσ : E.At σ := hA.le (hw1.le hS)
          refine astep_wp hE hC hs hAσ hw1.rel hf ?_ ho
          intro σ' a' w' hf' hp
          have hp' : Post E.P σ₀ S₀ w₀ Wr σ' S' w' := hw1.trans hp
          have hlim : setLimit S' S₀.limit = S' := by
            have : S'.limit = S₀.limit := hp'.limit
            cases S'
            simp only [setLimit] at this ⊢
            subst this
            rfl
          refine ⟨fun hbb => (by rw [hb] at hbb; cases hbb), ih _ f' S' r' hev (fun x hx => hr x (hsub x hx)) (hc.set him) σ' a' w' hf' ?_⟩
          rw [hb]
          show Post E.P σ₀ S₀ w₀ Wr σ' (setLimit S' S₀.limit) w'
          rw [hlim]
          exact hp'

/-! ## In a round as everywhere -/

theorem rows_wide {P : Program} {l n : Nat} {row : String} {args : Array Value} {w : World} {R : Value → World → Prop} (h : Rows P row args w R) : RowsIn (Fence.wide.inRound l) n P row args w R := by
  intro c cs _
  obtain ⟨v, w', hr, hs⟩ := h c cs
  exact ⟨v, w', hr, stepsIn_wide.2 hs⟩
theorem upon_in {P : Program} {Q : Exit → Act → World → Prop} {l n : Nat} {o : Oper} {a : Act} {K : Act → World → Prop} {r : Result Next} (h : o.upon P a K Q r) : o.uponIn (Fence.wide.inRound l) n P a K Q r := by
  cases r with
  | ok x w' =>
    cases x with
    | value v => exact h
    | skip => exact h
    | defer d => exact h
    | enter f args => exact ⟨fun hd => by simp [Fence.wide] at hd, fence_calls (ro := some l) h⟩
    | row row args => exact ⟨fun hd => by simp [Fence.wide] at hd, rows_wide h⟩
    | _ => exact h.elim
  | halt hh w' => cases hh <;> first | exact h | exact h.elim
theorem any_in {P : Program} {ops : Array Oper} {Q : Exit → Act → World → Prop} {l n : Nat} (hQ : ¬ LetsOut Q) (hnd : ∀ (i : Nat) (o : Oper), ops[i]? = some o → ∀ c : Call, o.op ≠ Op.defer c) : ∀ (fuel : Nat) (listed : Array Bool) (a : Act) (w : World),
    wpAny P .any ops Q fuel listed a w → wpAnyIn (Fence.wide.inRound l) n P .any ops Q fuel listed a w
  | 0, _, _, _, h => h
  | fuel + 1, listed, a, w, h => by
    refine ⟨h.1, fun i hi => ?_⟩
    have hi' := h.2 i hi
    have hK : ∀ a w, wpAny P .any ops Q fuel (listed.setIfInBounds i true) a w → wpAnyIn (Fence.wide.inRound l) n P .any ops Q fuel (listed.setIfInBounds i true) a w := fun a w h => any_in hQ hnd fuel _ a w h
    unfold wpOp at hi'
    unfold wpOpIn
    cases ho : ops[i]? with
    | none => rw [ho] at hi'; exact hK _ _ hi'
    | some o =>
      rw [ho] at hi'
      simp only at hi' ⊢
      split
      · rename_i hw
        simp only [hw, if_true] at hi'
        rcases hi' with h1 | h2
        · refine Oper.wpIn_mono (fun a w => hK a w) ?_
          refine ⟨fun _ _ => trivial, ?_⟩
          rw [Fence.inRound_round, Oper.semAt_eq _ _ _ (hnd i o ho)]
          exact upon_in h1
        · exact absurd h2.2 hQ
      · rename_i hw
        simp only [hw] at hi'
        exact ⟨fun _ _ => trivial, hK _ _ hi'⟩

theorem adraw_ok (hE : E.Ok) (hC : CallsOk E C) (ro : Option Nat) (id : Nat) (ops : Array Oper) : CodeOk E ro (.region id ops true) (adraw E C ops) := by
  intro f S outs h σ w Wr a n hA hS hf
  obtain ⟨W, h⟩ : ∃ W, adrawW E C ops f S W = some outs := by
    unfold adraw at h
    split at h
    · exact ⟨_, h⟩
    · exact ⟨_, h⟩
  unfold adrawW at h
  split at h
  · rename_i hc
    simp only [Bool.and_eq_true] at hc
    split at h
    · rename_i outs₁ hev
      cases h
      have hdrew : Post E.P σ S w Wr σ S w.drew := Post.drew hS rfl ⟨rfl, rfl⟩
      let Q : Exit → Act → World → Prop := fun e a' w' => e = .normal ∧ ∃ o ∈ outs₁, ∃ σ', FRel σ' o.1 a' ∧ Post E.P σ S w.drew Wr σ' o.2 w'
      have hplan := evalPlan_ok hE hC hc.1 hA hdrew.rel hc.2.2 (outs := outs₁) (Q := Q) (fun _ _ _ => Iff.rfl) ops.size (Array.replicate ops.size false) f S outs₁ hev (fun x hx => hx) (Closed.start ops _) σ a w.drew hf (by
        have hb : anyBehind ops (Array.replicate ops.size false) = false := by
          cases hbb : anyBehind ops (Array.replicate ops.size false) with
          | false => rfl
          | true =>
            obtain ⟨u, _, h2, _⟩ := anyBehind_iff.1 hbb
            rw [getD_rep] at h2
            cases h2
        rw [hb]
        exact Post.refl (limited hdrew.rel W))
      have hany := wpAny_of_L _ _ _ _ hplan
      have hfin : ∀ e a' w', Q e a' w' → CodeQs E σ S w Wr (outs₁.map fun o => (.normal, o.1, o.2)) e a' w' := by
        rintro e a' w' ⟨rfl, o, ho, σ', h1, h2⟩
        exact ⟨(.normal, o.1, o.2), List.mem_map.2 ⟨o, ho, rfl⟩, σ', rfl, h1, hdrew.trans h2⟩
      refine wpIn_mono ?_ hfin
      have hnl : ¬ LetsOut Q := fun ⟨a, w, h⟩ => by simp [Q] at h
      have hnd : ∀ (i : Nat) (o : Oper), ops[i]? = some o → ∀ c : Call, o.op ≠ Op.defer c := fun i o ho c e => by
        have h2 := hc.2.1
        rw [List.all_eq_true] at h2
        have := h2 o (List.mem_of_getElem? (by simpa using ho))
        simp [e] at this
      cases ro with
      | none => exact wpIn_wide.2 (wp_region_any hE.mixed hany)
      | some b => exact wpIn_region_any hE.mixed (any_in hnl hnd _ _ _ _ hany)
    · cases h
  · cases h
end
end Go.Proofs.YtliimmpokhmjeaaGreatDoor.Zev
