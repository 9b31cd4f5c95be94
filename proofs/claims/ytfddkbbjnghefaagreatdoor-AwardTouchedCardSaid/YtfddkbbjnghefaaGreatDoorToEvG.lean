/-
  Frames; regions in the order of their text; the statements of a body.
-/
import Derived.Test.YtfddkbbjnghefaaGreatDoorToEvP
import Derived.LoopNIn
import Derived.RangeFuncRecord
import Derived.Scope
import Derived.OrdersHeld
import Derived.OrdersIn
set_option linter.unusedSimpArgs false
set_option linter.unusedVariables false
namespace Go.Proofs.YtfddkbbjnghefaaGreatDoor.Zs
open Go
structure AF where
 T : Trie AV
 size : Nat
 defers : List ADef
structure FRel (σ : Sig) (f : AF) (a : Act) : Prop where
 tmps : TRel σ f.T a.tmps
 size : a.tmps.size = f.size
 defers : instD σ f.defers = some a.defers
theorem FRel.le {σ σ' : Sig} (h : σ.le σ') {f : AF} {a : Act} (hf : FRel σ f a) : FRel σ' f a:=⟨hf.tmps.le h,hf.size,instD_le h hf.defers⟩
noncomputable def AF.put (f : AF) (dst : Option Tmp) (v : AV) : Option AF:=
 match f with
 | ⟨T,n,ds⟩ => match dst with
   | none => some ⟨T,n,ds⟩
   | some d => match Nat.ble (Nat.succ d) n with
     | true => match Nat.ble (Nat.succ d) zM with
       | true => some ⟨Trie.put (some v) depth T d,n,ds⟩
       | false => none
     | false => none
theorem AF.put_ok {σ : Sig} {f f' : AF} {a : Act} (hf : FRel σ f a) {dst : Option Tmp} {v : AV} {u : Value} (hv : v.inst σ = some u) (h : f.put dst v = some f') : FRel σ f' (a.put dst u):=by
 obtain ⟨T,n,ds⟩:=f
 unfold AF.put at h
 cases dst with
 | none => cases h; exact hf
 | some d =>
   simp only at h
   split at h
   ·rename_i hd
    split at h
    ·rename_i hm
     cases h
     have hd : d < n:=Nat.le_of_ble_eq_true hd
     have hm : d < 2 ^ 31:=Nat.le_trans (Nat.le_of_ble_eq_true hm) (by decide)
     have hsz:=hf.size
     simp only at hsz
     refine ⟨fun i w hi => ?_,by simpa [Act.put] using hf.size,by simpa [Act.put] using hf.defers⟩
     have hg : (Trie.put (some v) depth T d).get i = some w:=hi
     rw [Trie.get_put _ _ _ _ hm] at hg
     split at hg
     ·rename_i hid
      subst hid
      cases hg
      exact ⟨u,by simp [Act.put,hsz,hd],hv⟩
     ·rename_i hid
      obtain ⟨y,hy,hyi⟩:=hf.tmps i w hg
      exact ⟨y,by simpa [Act.put,Array.getElem?_setIfInBounds_ne (Ne.symm hid)] using hy,hyi⟩
    ·cases h
   ·cases h
noncomputable def aundef : AV:=.tuple []
theorem undef_inst (σ : Sig) : aundef.inst σ = some undef:=by simp [aundef,AV.inst,instL,undef]
inductive AX where
 | normal
 | exit (id : Nat)
 | goto (l : Nat)
 | ret
 | panic (v : AV)
inductive AE where
 | ret (v : AV)
 | panic (v : AV)
noncomputable def XRel (σ : Sig) : AX→Exit→Prop
 | .normal,e => e = .normal
 | .exit id,e => e = .exit id
 | .goto l,e => e = .goto l
 | .ret,e => e = .ret
 | .panic v,e => ∃ u,v.inst σ = some u∧e = .panic [{ v:=u,recovered:=false }]
noncomputable def ERel (σ : Sig) : AE→Ending→Prop
 | .ret v,e => ∃ u,v.inst σ = some u∧e = .returned u
 | .panic v,e => ∃ u,v.inst σ = some u∧e = .panicked [{ v:=u,recovered:=false }]
noncomputable def CodeQ (E : Env) (σ : Sig) (S : ASt) (w : World) (Wr : Nat→Prop) (x : AX) (f' : AF) (S' : ASt) : Exit→Act→World→Prop:=
 fun e a' w' => ∃ σ',XRel σ' x e∧FRel σ' f' a'∧Post E.P σ S w Wr σ' S' w'
noncomputable def CallQ (E : Env) (σ : Sig) (S : ASt) (w : World) (Wr : Nat→Prop) (r : AE) (S' : ASt) : Ending→World→Prop:=
 fun e w' => ∃ σ',ERel σ' r e∧Post E.P σ S w Wr σ' S' w'
abbrev yj:=FuncId→List AV→ASt→Option (AE×ASt)
abbrev RoundE:=Nat→List AV→ASt→Option (AE×ASt)
noncomputable def zu (E : Env) (C : yj) : Prop:=∀ f args S r S',C f args S = some (r,S')→∀ σ w Wr us,E.At σ→S.rel E.P σ w Wr→Ins σ args us →
 Calls E.P f us.toArray w (CallQ E σ S w Wr r S')
noncomputable def RoundsOk (E : Env) (R : RoundE) : Prop:=∀ id args S r S',R id args S = some (r,S')→∀ σ w Wr (us : List Value) b κ,E.At σ→S.rel E.P σ w Wr→Ins σ args us→σ id = some (b,κ) →
 ∃ fn tmps assign body,(Instr.yield b us.toArray).run E.P w = .ok (.round b fn tmps assign body) w∧∀ n,RoundIn Fence.wide n E.P b fn tmps assign body w (CallQ E σ S w Wr r S')
noncomputable def fence : Option Nat→Fence
 | none => Fence.wide
 | some b => Fence.wide.inRound b
theorem fence_fn (ro : Option Nat) (f : FuncId) : (fence ro).fn f:=by cases ro <;> exact trivial
theorem fence_depth (ro : Option Nat) : (fence ro).depth = none:=by cases ro <;> rfl
theorem fence_calls {ro : Option Nat} {n : Nat} {P : Program} {f : FuncId} {args : Array Value} {w : World} {R : Ending→World→Prop} (h : Calls P f args w R) : CallsIn (fence ro) n P f args w R:=by
 cases ro with
 | none => exact callsIn_wide.2 h
 | some b => exact (show CallsIn Fence.wide n P f args w R from callsIn_wide.2 h)
theorem fence_rounds {ro : Option Nat} {n : Nat} {P : Program} {l : Nat} {f : FuncId} {tmps : Array Value} {assign body : Code} {w : World} {R : Ending→World→Prop}
  (h : RoundIn Fence.wide n P l f tmps assign body w R) : RoundIn (fence ro) n P l f tmps assign body w R:=by
 cases ro with
 | none => exact h
 | some b => exact h
noncomputable def awanted (ops : Array Oper) (T : Trie AV) (o : Oper) : Option Bool:=
 match o.guard with
 | none => some true
 | some (j,want) => match ops[j]? with
   | some oj => match oj.dst with
     | some t => match T.get t with
       | some (.bool b) => some (match want with | true => b | false => !b)
       | some (.tuple _) => some false
       | _ => none
     | none => some false
   | none => some false
theorem awanted_ok {σ : Sig} {ops : Array Oper} {T : Trie AV} {a : Act} {o : Oper} (hT : TRel σ T a.tmps) {b : Bool} (h : awanted ops T o = some b) : Region.wanted o (yielded ops a.tmps) = b:=by
 unfold awanted at h
 unfold Region.wanted
 split at h
 ·rename_i hg; cases h; simp [hg]
 ·rename_i j want hg
  rw [hg]
  simp only
  split at h
  ·rename_i oj hj
   split at h
   ·rename_i t ht
    split at h
    ·rename_i c hc
     cases h
     obtain ⟨v,hv,hi⟩:=hT t _ hc
     simp only [AV.inst,Option.some.injEq] at hi
     subst hi
     have hy : yielded ops a.tmps j = some c:=by simp [yielded,hj,ht,hv]
     rw [hy]
     cases want <;> cases c <;> rfl
    ·rename_i l hc
     cases h
     obtain ⟨v,hv,hi⟩:=hT t _ hc
     obtain ⟨us,rfl,_⟩:=AV.inst_tuple hi
     have hy : yielded ops a.tmps j = none:=by simp [yielded,hj,ht,hv]
     rw [hy]
     rfl
    ·cases h
   ·rename_i ht
    cases h
    have hy : yielded ops a.tmps j = none:=by simp [yielded,hj,ht]
    rw [hy]; rfl
  ·rename_i hj
   cases h
   have hy : yielded ops a.tmps j = none:=by simp [yielded,hj]
   rw [hy]; rfl
inductive AStep where
 | go (f : AF) (S : ASt)
 | stop (v : AV) (S : ASt)
noncomputable def goOn (f : Option AF) (S : ASt) : Option AStep:=
 match f with
 | some f' => some (.go f' S)
 | none => none
noncomputable def adoOp (E : Env) (C : yj) (R : RoundE) (isRound : Bool) (f : AF) (S : ASt) (o : Oper) : Option AStep:=
 match aopG E f.T S o with
 | some (.val v S') => goOn (f.put o.dst v) S'
 | some (.skip S') => goOn (f.put o.dst aundef) S'
 | some (.enter g args) => match C g args S with
   | some (.ret v,S') => goOn (f.put o.dst v) S'
   | some (.panic v,S') => some (.stop v S')
   | none => none
 | some (.yield id args) => match R id args S with
   | some (.ret v,S') => goOn (f.put o.dst v) S'
   | some (.panic v,S') => some (.stop v S')
   | none => none
 | some (.defer d) => match isRound with
   | true => none
   | false => goOn (AF.put { T:=f.T,size:=f.size,defers:=d :: f.defers } o.dst aundef) S
 | some (.panic v) => some (.stop v S)
 | some .recover => none
 | none => none
noncomputable def astep (E : Env) (C : yj) (R : RoundE) (isRound : Bool) (ops : Array Oper) (f : AF) (S : ASt) (o : Oper) : Option AStep:=
 match awanted ops f.T o with
 | some true => adoOp E C R isRound f S o
 | some false => goOn (f.put o.dst aundef) S
 | none => none
section
variable {E : Env} {C : yj} {R : RoundE}
noncomputable def StepK (E : Env) (σ : Sig) (S : ASt) (w : World) (Wr : Nat→Prop) (K : Act→World→Prop) (Q : Exit→Act→World→Prop) (f : AF) : AStep→Prop
 | .go f' S' => ∀ σ' a' w',FRel σ' f' a'→Post E.P σ S w Wr σ' S' w'→K a' w'
 | .stop v S' => ∀ σ' a' w' u,v.inst σ' = some u→FRel σ' f a'→Post E.P σ S w Wr σ' S' w'→Q (.panic [{ v:=u,recovered:=false }]) a' w'
theorem yN {f : Option AF} {S : ASt} {r : AStep} (h : goOn f S = some r) : ∃ f',f = some f'∧r = .go f' S:=by
 cases f with
 | none => cases h
 | some f' => cases h; exact ⟨f',rfl,rfl⟩
theorem adoOp_ok (hE : E.Ok) (hC : zu E C) (hR : RoundsOk E R) {ro : Option Nat} {n : Nat} {f : AF} {S : ASt} {o : Oper} {r : AStep} (h : adoOp E C R ro.isSome f S o = some r)
  {σ : Sig} {w : World} {Wr : Nat→Prop} {a : Act} (hA : E.At σ) (hS : S.rel E.P σ w Wr) (hf : FRel σ f a) {K : Act→World→Prop} {Q : Exit→Act→World→Prop} (hk : StepK E σ S w Wr K Q f r) :
  o.wpIn (fence ro) n E.P a w K Q:=by
 refine ⟨fun g _ => fence_fn ro g,?_⟩
 unfold adoOp at h
 have hsem : (∀ c,o.op≠.defer c)→(o.semAt (fence ro).round a.eval) = execOp a.eval o:=fun hd => Oper.semAt_eq _ _ _ hd
 split at h
 all_goals first
  | (cases h; done)
  | skip
 case h_1 v S' hop =>
  obtain ⟨f',hp,rfl⟩:=yN h
  have hout:=aopG_ok hE hA hS hf.tmps hop
  obtain ⟨σ',u,w',h1,h2,h3⟩:=hout
  have hnd : ∀ c,o.op≠.defer c:=fun c e => by
   have hrun : (execOp a.eval o).run E.P w = ((resolve a.eval c o.type).run E.P w).andThen fun d w' => .ok (.defer d) w':=by simp [execOp,e]
   rw [hrun] at h1
   cases hr : (resolve a.eval c o.type).run E.P w with
   | ok d w'' => rw [hr] at h1; simp at h1
   | halt x w'' => rw [hr] at h1; simp at h1
  rw [hsem hnd,h1]
  exact hk σ' _ w' (AF.put_ok (hf.le (h3.le hS)) h2 hp) h3
 case h_2 S' hop =>
  obtain ⟨f',hp,rfl⟩:=yN h
  obtain ⟨σ',w',h1,h3⟩:=aopG_ok hE hA hS hf.tmps hop
  have hnd : ∀ c,o.op≠.defer c:=fun c e => by
   have hrun : (execOp a.eval o).run E.P w = ((resolve a.eval c o.type).run E.P w).andThen fun d w' => .ok (.defer d) w':=by simp [execOp,e]
   rw [hrun] at h1
   cases hr : (resolve a.eval c o.type).run E.P w with
   | ok d w'' => rw [hr] at h1; simp at h1
   | halt x w'' => rw [hr] at h1; simp at h1
  rw [hsem hnd,h1]
  exact hk σ' _ w' (AF.put_ok (hf.le (h3.le hS)) (undef_inst σ') hp) h3
 case h_3 g args hop =>
  obtain ⟨us,h1,h2⟩:=aopG_ok hE hA hS hf.tmps hop
  have hnd : ∀ c,o.op≠.defer c:=fun c e => by
   have hrun : (execOp a.eval o).run E.P w = ((resolve a.eval c o.type).run E.P w).andThen fun d w' => .ok (.defer d) w':=by simp [execOp,e]
   rw [hrun] at h1
   cases hr : (resolve a.eval c o.type).run E.P w with
   | ok d w'' => rw [hr] at h1; simp at h1
   | halt x w'' => rw [hr] at h1; simp at h1
  rw [hsem hnd,h1,Oper.uponIn_enter]
  refine ⟨fun hd => by simp [fence_depth] at hd,?_⟩
  split at h
  ·rename_i v S' hc
   obtain ⟨f',hp,rfl⟩:=yN h
   refine fence_calls ((hC g args S _ _ hc σ w Wr us hA hS h2).mono ?_)
   rintro e w' ⟨σ',⟨u,hu,rfl⟩,h3⟩
   exact hk σ' _ w' (AF.put_ok (hf.le (h3.le hS)) hu hp) h3
  ·rename_i v S' hc
   cases h
   refine fence_calls ((hC g args S _ _ hc σ w Wr us hA hS h2).mono ?_)
   rintro e w' ⟨σ',⟨u,hu,rfl⟩,h3⟩
   exact hk σ' _ w' u hu (hf.le (h3.le hS)) h3
  ·cases h
 case h_4 id args hop =>
  obtain ⟨b,κ,us,hs,h1,h2⟩:=aopG_ok hE hA hS hf.tmps hop
  have key : ∀ r S',R id args S = some (r,S')→∃ fn tmps assign body,(execOp a.eval o).run E.P w = .ok (.round b fn tmps assign body) w∧∀ n,RoundIn Fence.wide n E.P b fn tmps assign body w (CallQ E σ S w Wr r S'):=fun r S' hr => by
   obtain ⟨fn,tmps,assign,body,e1,e2⟩:=hR id args S r S' hr σ w Wr us b κ hA hS h2 hs
   exact ⟨fn,tmps,assign,body,h1.trans e1,e2⟩
  split at h
  ·rename_i v S' hc
   obtain ⟨f',hp,rfl⟩:=yN h
   obtain ⟨fn,tmps,assign,body,e1,e2⟩:=key _ _ hc
   have hnd : ∀ c,o.op≠.defer c:=fun c e => by
    have hrun : (execOp a.eval o).run E.P w = ((resolve a.eval c o.type).run E.P w).andThen fun d w' => .ok (.defer d) w':=by simp [execOp,e]
    rw [hrun] at e1
    cases hr : (resolve a.eval c o.type).run E.P w with
    | ok d w'' => rw [hr] at e1; simp at e1
    | halt x w'' => rw [hr] at e1; simp at e1
   rw [hsem hnd,e1,Oper.uponIn_round]
   refine ⟨fun hd => by simp [fence_depth] at hd,fence_rounds ((e2 _).mono ?_)⟩
   rintro e w' ⟨σ',⟨u,hu,rfl⟩,h3⟩
   exact hk σ' _ w' (AF.put_ok (hf.le (h3.le hS)) hu hp) h3
  ·rename_i v S' hc
   cases h
   obtain ⟨fn,tmps,assign,body,e1,e2⟩:=key _ _ hc
   have hnd : ∀ c,o.op≠.defer c:=fun c e => by
    have hrun : (execOp a.eval o).run E.P w = ((resolve a.eval c o.type).run E.P w).andThen fun d w' => .ok (.defer d) w':=by simp [execOp,e]
    rw [hrun] at e1
    cases hr : (resolve a.eval c o.type).run E.P w with
    | ok d w'' => rw [hr] at e1; simp at e1
    | halt x w'' => rw [hr] at e1; simp at e1
   rw [hsem hnd,e1,Oper.uponIn_round]
   refine ⟨fun hd => by simp [fence_depth] at hd,fence_rounds ((e2 _).mono ?_)⟩
   rintro e w' ⟨σ',⟨u,hu,rfl⟩,h3⟩
   exact hk σ' _ w' u hu (hf.le (h3.le hS)) h3
  ·cases h
 case h_5 d hop =>
  split at h
  ·cases h
  ·rename_i hro
   obtain ⟨f',hp,rfl⟩:=yN h
   obtain ⟨d',h1,h2⟩:=aopG_ok hE hA hS hf.tmps hop
   have hr0 : ro = none:=by cases ro with | none => rfl | some x => cases hro
   subst hr0
   have hs0 : (o.semAt (fence none).round a.eval) = execOp a.eval o:=rfl
   rw [hs0,h1]
   have hf1 : FRel σ { T:=f.T,size:=f.size,defers:=d :: f.defers } { a with defers:=d' :: a.defers }:=⟨hf.tmps,hf.size,by simp [instD,h2,hf.defers]⟩
   exact hk σ _ w (AF.put_ok hf1 (undef_inst σ) hp) (Post.refl hS)
 case h_6 v hop =>
  cases h
  obtain ⟨u,h1,h2⟩:=aopG_ok hE hA hS hf.tmps hop
  have hnd : ∀ c,o.op≠.defer c:=fun c e => by
   have hrun : (execOp a.eval o).run E.P w = ((resolve a.eval c o.type).run E.P w).andThen fun d w' => .ok (.defer d) w':=by simp [execOp,e]
   rw [hrun] at h1
   have hres : ∃ d,(resolve a.eval c o.type).run E.P w = .ok d w∨∃ s,(resolve a.eval c o.type).run E.P w = .halt (.stuck s) w:=by
    unfold resolve
    split
    ·exact ⟨_,.inl rfl⟩
    ·exact ⟨_,.inl rfl⟩
    ·unfold Deferred.ofValue
     split
     ·exact ⟨_,.inl rfl⟩
     ·exact ⟨_,.inl rfl⟩
     ·exact ⟨default,.inr ⟨_,rfl⟩⟩
   obtain ⟨d,hr | ⟨s,hr⟩⟩:=hres <;> ·rw [hr] at h1; simp at h1
  rw [hsem hnd,h1,Oper.uponIn_panic]
  exact hk σ a w u h2 hf (Post.refl hS)
theorem astep_ok (hE : E.Ok) (hC : zu E C) (hR : RoundsOk E R) {ro : Option Nat} {n : Nat} {ops : Array Oper} {f : AF} {S : ASt} {o : Oper} {r : AStep} (h : astep E C R ro.isSome ops f S o = some r)
  {σ : Sig} {w : World} {Wr : Nat→Prop} {a : Act} (hA : E.At σ) (hS : S.rel E.P σ w Wr) (hf : FRel σ f a) {K : Act→World→Prop} {Q : Exit→Act→World→Prop} (hk : StepK E σ S w Wr K Q f r) :
  if Region.wanted o (yielded ops a.tmps) then o.wpIn (fence ro) n E.P a w K Q else (∀ g,o.about E.P w a.eval = some g→(fence ro).fn g)∧K (a.put o.dst undef) w:=by
 unfold astep at h
 split at h
 ·rename_i hw
  rw [awanted_ok hf.tmps hw]
  simp only [if_true]
  exact adoOp_ok hE hC hR h hA hS hf hk
 ·rename_i hw
  rw [awanted_ok hf.tmps hw]
  simp only [Bool.false_eq_true,if_false]
  obtain ⟨f',hp,rfl⟩:=yN h
  exact ⟨fun g _ => fence_fn ro g,hk σ _ w (AF.put_ok hf (undef_inst σ) hp) (Post.refl hS)⟩
 ·cases h
noncomputable def aops (E : Env) (C : yj) (R : RoundE) (isRound : Bool) (ops : Array Oper) : List Oper→AF→ASt→Option (AX×AF×ASt)
 | [],f,S => some (.normal,f,S)
 | o :: l,f,S => match astep E C R isRound ops f S o with
   | some (.go f' S') => aops E C R isRound ops l f' S'
   | some (.stop v S') => some (.panic v,f,S')
   | none => none
theorem aops_ok (hE : E.Ok) (hC : zu E C) (hR : RoundsOk E R) {ro : Option Nat} {n : Nat} {ops : Array Oper} {Q : Exit→Act→World→Prop} : ∀ (l : List Oper) (k : Nat) (f : AF) (S : ASt) {x : AX} {f' : AF} {S' : ASt},
  ops.toList.drop k = l→aops E C R ro.isSome ops l f S = some (x,f',S')→∀ {σ : Sig} {w : World} {Wr : Nat→Prop} {a : Act},E.At σ→S.rel E.P σ w Wr→FRel σ f a →
   (∀ e a' w',CodeQ E σ S w Wr x f' S' e a' w'→Q e a' w')→wpOpsIn (fence ro) n E.P ops Q (List.range' k l.length) a w
 | [],k,f,S,x,f',S',hd,h,σ,w,Wr,a,hA,hS,hf,hq => by
   cases h
   exact hq .normal a w ⟨σ,rfl,hf,Post.refl hS⟩
 | o :: l,k,f,S,x,f',S',hd,h,σ,w,Wr,a,hA,hS,hf,hq => by
   have h1 : ops[k]? = some o:=by
    have:=congrArg (fun x => x[0]?) hd
    simpa using this
   have h2 : ops.toList.drop (k + 1) = l:=by
    have:=congrArg (List.drop 1) hd
    simpa [List.drop_drop] using this
   simp only [aops] at h
   simp only [List.length_cons,List.range'_succ,wpOpsIn,h1]
   split at h
   ·rename_i f₁ S₁ hs
    refine astep_ok hE hC hR hs hA hS hf fun σ' a' w' hf' hp => ?_
    refine aops_ok hE hC hR l (k + 1) f₁ S₁ h2 h (hA.le (hp.le hS)) hp.rel hf' fun e a'' w'' hq' => ?_
    obtain ⟨σ'',q1,q2,q3⟩:=hq'
    exact hq e a'' w'' ⟨σ'',q1,q2,hp.trans q3⟩
   ·rename_i v S₁ hs
    cases h
    refine astep_ok hE hC hR hs hA hS hf fun σ' a' w' u hu hf' hp => ?_
    exact hq _ a' w' ⟨σ',⟨u,hu,rfl⟩,hf',hp⟩
   ·cases h
abbrev Out:=AX×AF×ASt
def CodeQs (E : Env) (σ : Sig) (S : ASt) (w : World) (Wr : Nat→Prop) (outs : List Out) : Exit→Act→World→Prop:=
 fun e a' w' => ∃ o,o ∈ outs∧CodeQ E σ S w Wr o.1 o.2.1 o.2.2 e a' w'
structure Others where
 draw : Nat→Array Oper→AF→ASt→Option (List Out)
 fork : Array Oper→AF→ASt→Option (List Out)
 range : Operand→Array Tmp→Code→Code→AF→ASt→Option (List Out)
 loop : Code→AF→ASt→Option (List Out)
def loopsOf : Code→List Code
 | .seq a b => loopsOf a ++ loopsOf b
 | .cond _ a b => loopsOf a ++ loopsOf b
 | .block _ c => loopsOf c
 | .loop c => c :: loopsOf c
 | .scope c => loopsOf c
 | _ => []
def CodeOk (E : Env) (ro : Option Nat) (c : Code) (ev : AF→ASt→Option (List Out)) : Prop:=
 ∀ f S outs,ev f S = some outs→∀ σ w Wr a n,E.At σ→S.rel E.P σ w Wr→FRel σ f a→c.wpIn (fence ro) n E.P (CodeQs E σ S w Wr outs) a w
def noLoop : Code→AF→ASt→Option (List Out):=fun _ _ _ => none
theorem yc {E : Env} {ro : Option Nat} {c : Code} : CodeOk E ro (.loop c) (noLoop c):=fun f S outs h => by cases h
def Others.plain (X : Others) : Others:={ draw:=X.draw,fork:=X.fork,range:=fun _ _ _ _ _ _ => none,loop:=noLoop }
noncomputable def joinM {α β : Type} (k : α→Option (List β)) : List α→Option (List β)
 | [] => some []
 | o :: l => match k o with
   | some r => match joinM k l with
     | some s => some (r ++ s)
     | none => none
   | none => none
theorem joinM_mem {α β : Type} {k : α→Option (List β)} : ∀ {l : List α} {outs : List β},joinM k l = some outs→∀ o ∈ l,∃ r,k o = some r∧∀ x ∈ r,x ∈ outs
 | [],outs,h,o,ho => by cases ho
 | a :: l,outs,h,o,ho => by
   simp only [joinM] at h
   split at h
   ·rename_i r hr
    split at h
    ·rename_i s hs
     cases h
     cases ho with
     | head => exact ⟨r,hr,fun x hx => List.mem_append_left _ hx⟩
     | tail _ hm =>
       obtain ⟨r',h1,h2⟩:=joinM_mem hs o hm
       exact ⟨r',h1,fun x hx => List.mem_append_right _ (h2 x hx)⟩
    ·cases h
   ·cases h
noncomputable def aseqK (k : AF→ASt→Option (List Out)) (o : Out) : Option (List Out):=
 match o with
 | (.normal,f,S) => k f S
 | r => some [r]
noncomputable def aloop (body : AF→ASt→Option (List Out)) : Nat→AF→ASt→Option (List Out)
 | 0,_,_ => none
 | n + 1,f,S => match body f S with
   | some outs => joinM (aseqK (aloop body n)) outs
   | none => none
noncomputable def unblock (id : Nat) (o : Out) : Out:=
 match o with
 | (.exit id',f,S) => match Nat.beq id' id with
   | true => (.normal,f,S)
   | false => (.exit id',f,S)
 | r => r
def noGoto : List Out→Bool
 | [] => true
 | (.goto _,_,_) :: _ => false
 | _ :: l => noGoto l
theorem noGoto_mem : ∀ {l : List Out},noGoto l = true→∀ o ∈ l,∀ i,o.1≠.goto i
 | [],_,o,ho,i => by cases ho
 | (x,f,S) :: l,h,o,ho,i => by
   cases ho with
   | head => intro e; simp only at e; subst e; simp [noGoto] at h
   | tail _ hm =>
     have h' : noGoto l = true:=by
      cases x <;> simp [noGoto] at h <;> exact h
     exact noGoto_mem h' o hm i
noncomputable def acode (E : Env) (C : yj) (R : RoundE) (isRound : Bool) (X : Others) : Code→AF→ASt→Option (List Out)
 | .skip,f,S => some [(.normal,f,S)]
 | .label _,f,S => some [(.normal,f,S)]
 | .region id ops draw,f,S => match draw with
   | false => match aops E C R isRound ops ops.toList f S with
     | some o => some [o]
     | none => X.fork ops f S
   | true => X.draw id ops f S
 | .seq a b,f,S => match acode E C R isRound X a f S with
   | some outs => joinM (aseqK (acode E C R isRound X b)) outs
   | none => none
 | .cond c a b,f,S => match zB E f.T c with
   | some (.bool true) => acode E C R isRound X a f S
   | some (.bool false) => acode E C R isRound X b f S
   | _ => none
 | .block id c,f,S => match acode E C R isRound X c f S with
   | some outs => some (outs.map (unblock id))
   | none => none
 | .loop c,f,S => match X.loop c f S with
   | some outs => some outs
   | none => aloop (acode E C R isRound X c) 100000 f S
 | .exit id,f,S => some [(.exit id,f,S)]
 | .ret,f,S => some [(.ret,f,S)]
 | .rangeFunc g ps assign body,f,S => X.range g ps assign body f S
 | .scope c,f,S => match isRound with
   | true => none
   | false => match acode E C R isRound X c f S with
     | some outs => match noGoto outs with
       | true => some outs
       | false => none
     | none => none
 | _,_,_ => none
def DrawOk (E : Env) (ro : Option Nat) (X : Others) : Prop:=(∀ id ops,CodeOk E ro (.region id ops true) (X.draw id ops))∧∀ id ops,CodeOk E ro (.region id ops false) (X.fork ops)
def OthersOk (E : Env) (ro : Option Nat) (X : Others) (c : Code) : Prop:=
 DrawOk E ro X∧(∀ r ∈ yI c,∀ g,CodeOk E ro (.rangeFunc g r.1 r.2.1 r.2.2) (X.range g r.1 r.2.1 r.2.2))
theorem OthersOk.sub {ro : Option Nat} {X : Others} {c c' : Code} (h : OthersOk E ro X c) (hs : ∀ r ∈ yI c',r ∈ yI c) : OthersOk E ro X c':=⟨h.1,fun r hr => h.2 r (hs r hr)⟩
theorem DrawOk.plain {X : Others} (h : DrawOk E none X) (c : Code) : OthersOk E none X.plain c:=⟨h,fun _ _ _ _ _ _ h => by cases h⟩
theorem CodeQ.trans {σ σ' : Sig} {S S₁ S' : ASt} {w w₁ : World} {Wr : Nat→Prop} {x : AX} {f' : AF} (hp : Post E.P σ S w Wr σ' S₁ w₁) {e : Exit} {a : Act} {w' : World}
  (h : CodeQ E σ' S₁ w₁ Wr x f' S' e a w') : CodeQ E σ S w Wr x f' S' e a w':=by
 obtain ⟨σ'',q1,q2,q3⟩:=h
 exact ⟨σ'',q1,q2,hp.trans q3⟩
theorem CodeQs.trans {σ σ' : Sig} {S S₁ : ASt} {w w₁ : World} {Wr : Nat→Prop} {outs outs' : List Out} (hp : Post E.P σ S w Wr σ' S₁ w₁) (hs : ∀ x ∈ outs,x ∈ outs') {e : Exit} {a : Act} {w' : World}
  (h : CodeQs E σ' S₁ w₁ Wr outs e a w') : CodeQs E σ S w Wr outs' e a w':=by
 obtain ⟨o,ho,hq⟩:=h
 exact ⟨o,hs o ho,hq.trans hp⟩
theorem CodeQs.one {σ : Sig} {S : ASt} {w : World} {Wr : Nat→Prop} {x : AX} {f' : AF} {S' : ASt} {e : Exit} {a : Act} {w' : World} (h : CodeQ E σ S w Wr x f' S' e a w') : CodeQs E σ S w Wr [(x,f',S')] e a w':=
 ⟨_,List.mem_singleton.2 rfl,h⟩
theorem not_normal {σ : Sig} {x : AX} {e : Exit} (hx : x≠.normal) (h : XRel σ x e) {next : Act→World→Prop} {Q : Exit→Act→World→Prop} {a : Act} {w : World} (hq : Q e a w) : Exit.then next Q e a w:=by
 cases x with
 | normal => exact absurd rfl hx
 | exit id => obtain rfl:=h; exact hq
 | goto l => obtain rfl:=h; exact hq
 | ret => obtain rfl:=h; exact hq
 | panic v => obtain ⟨u,_,rfl⟩:=h; exact hq
theorem seq_post {ro : Option Nat} {n : Nat} {k : AF→ASt→Option (List Out)} {outs₁ outs : List Out} (hj : joinM (aseqK k) outs₁ = some outs) {σ : Sig} {S : ASt} {w : World} {Wr : Nat→Prop}
  (hA : E.At σ) (hS : S.rel E.P σ w Wr) {next : Act→World→Prop} {Q : Exit→Act→World→Prop} (hq : ∀ e a' w',CodeQs E σ S w Wr outs e a' w'→Q e a' w')
  (hk : ∀ f₁ S₁ r,k f₁ S₁ = some r→(∀ x ∈ r,x ∈ outs)→∀ σ' a₁ w₁,E.At σ'→S₁.rel E.P σ' w₁ Wr→FRel σ' f₁ a₁→Post E.P σ S w Wr σ' S₁ w₁→next a₁ w₁)
  {e : Exit} {a₁ : Act} {w₁ : World} (h : CodeQs E σ S w Wr outs₁ e a₁ w₁) : Exit.then next Q e a₁ w₁:=by
 obtain ⟨o,ho,hc⟩:=h
 obtain ⟨r,hr,hs⟩:=joinM_mem hj o ho
 obtain ⟨x,f₁,S₁⟩:=o
 by_cases hx : x = .normal
 ·subst hx
  obtain ⟨σ',rfl,h2,h3⟩:=hc
  exact hk f₁ S₁ r hr hs σ' a₁ w₁ (hA.le (h3.le hS)) h3.rel h2 h3
 ·have hr' : r = [(x,f₁,S₁)]:=by
   cases x with
   | normal => exact absurd rfl hx
   | _ => simpa [aseqK] using hr.symm
  subst hr'
  have h1:=hc
  obtain ⟨σ',q1,q2,q3⟩:=hc
  exact not_normal hx q1 (hq e a₁ w₁ ⟨_,hs _ (List.mem_singleton.2 rfl),h1⟩)
theorem aloop_ok {ro : Option Nat} {c : Code} {body : AF→ASt→Option (List Out)} (hb : CodeOk E ro c body) : ∀ m,∀ f S outs,aloop body m f S = some outs →
  ∀ σ w Wr a n,E.At σ→S.rel E.P σ w Wr→FRel σ f a→∀ Q : Exit→Act→World→Prop,(∀ e a' w',CodeQs E σ S w Wr outs e a' w'→Q e a' w')→Code.roundsIn (fence ro) n E.P c Q m a w
 | 0,f,S,outs,h => by cases h
 | m + 1,f,S,outs,h => by
   intro σ w Wr a n hA hS hf Q hq
   simp only [aloop] at h
   rw [roundsIn_succ]
   split at h
   ·rename_i outs₁ hb₁
    refine wpIn_mono (hb f S _ hb₁ σ w Wr a n hA hS hf) ?_
    intro e a₁ w₁ hcq
    refine seq_post (ro:=ro) (n:=n) h hA hS hq ?_ hcq
    intro f₁ S₁ r hr hs σ' a₁ w₁ hA' hS' hf' hp
    exact aloop_ok hb m f₁ S₁ r hr σ' w₁ Wr a₁ n hA' hS' hf' Q fun e a' w' q => hq e a' w' (q.trans hp hs)
   ·cases h
theorem acode_ok (hE : E.Ok) (hC : zu E C) (hR : RoundsOk E R) {ro : Option Nat} {X : Others} : ∀ c : Code,OthersOk E ro X c→(∀ c' ∈ loopsOf c,CodeOk E ro (.loop c') (X.loop c'))→CodeOk E ro c (acode E C R ro.isSome X c)
 | .skip => by
   intro hX hl f S outs h σ w Wr a n hA hS hf
   cases h
   exact wpIn_skip (.one ⟨σ,rfl,hf,Post.refl hS⟩)
 | .label l => by
   intro hX hl f S outs h σ w Wr a n hA hS hf
   cases h
   exact wpIn_label (.one ⟨σ,rfl,hf,Post.refl hS⟩)
 | .region id ops false => by
   intro hX hl f S outs h σ w Wr a n hA hS hf
   simp only [acode] at h
   split at h
   ·rename_i o ho
    cases h
    obtain ⟨x,f',S'⟩:=o
    refine wpIn_region ?_
    have:=aops_ok hE hC hR (ro:=ro) (n:=n) (ops:=ops) (Q:=CodeQs E σ S w Wr [(x,f',S')]) ops.toList 0 f S (by simp) ho hA hS hf (fun _ _ _ q => .one q)
    rw [List.range_eq_range']
    simpa using this
   ·exact hX.1.2 id ops f S outs h σ w Wr a n hA hS hf
 | .region id ops true => by
   intro hX hl f S outs h σ w Wr a n hA hS hf
   exact hX.1.1 id ops f S outs h σ w Wr a n hA hS hf
 | .seq c d => by
   intro hX hl f S outs h σ w Wr a n hA hS hf
   simp only [acode] at h
   split at h
   ·rename_i outs₁ h₁
    refine wpIn_seq (wpIn_mono (acode_ok hE hC hR c (hX.sub fun r hr => by simp [yI,hr]) (fun c' hc' => hl c' (by simp [loopsOf,hc'])) f S _ h₁ σ w Wr a n hA hS hf) ?_)
    intro e a₁ w₁ hcq
    refine seq_post (ro:=ro) (n:=n) h hA hS (fun _ _ _ q => q) ?_ hcq
    intro f₁ S₁ r hr hs σ' a₁ w₁ hA' hS' hf' hp
    exact wpIn_mono (acode_ok hE hC hR d (hX.sub fun r hr => by simp [yI,hr]) (fun c' hc' => hl c' (by simp [loopsOf,hc'])) f₁ S₁ r hr σ' w₁ Wr a₁ n hA' hS' hf') fun e a' w' q => q.trans hp hs
   ·cases h
 | .cond c t e => by
   intro hX hl f S outs h σ w Wr a n hA hS hf
   simp only [acode] at h
   split at h
   ·rename_i hc
    have hv:=zW hA hf.tmps hc
    simp only [AV.inst,Option.some.injEq] at hv
    exact wpIn_cond_true hv.symm (acode_ok hE hC hR t (hX.sub fun r hr => by simp [yI,hr]) (fun c' hc' => hl c' (by simp [loopsOf,hc'])) f S outs h σ w Wr a n hA hS hf)
   ·rename_i hc
    have hv:=zW hA hf.tmps hc
    simp only [AV.inst,Option.some.injEq] at hv
    exact wpIn_cond_false hv.symm (acode_ok hE hC hR e (hX.sub fun r hr => by simp [yI,hr]) (fun c' hc' => hl c' (by simp [loopsOf,hc'])) f S outs h σ w Wr a n hA hS hf)
   ·cases h
 | .block id c => by
   intro hX hl f S outs h σ w Wr a n hA hS hf
   simp only [acode] at h
   split at h
   ·rename_i outs₁ h₁
    cases h
    refine wpIn_block (wpIn_mono (acode_ok hE hC hR c (hX.sub fun r hr => by simp [yI,hr]) (fun c' hc' => hl c' (by simp [loopsOf,hc'])) f S _ h₁ σ w Wr a n hA hS hf) ?_)
    rintro e a₁ w₁ ⟨⟨x,f',S'⟩,ho,hcq⟩
    have hm : unblock id (x,f',S') ∈ outs₁.map (unblock id):=List.mem_map.2 ⟨_,ho,rfl⟩
    have h1:=hcq
    obtain ⟨σ',q1,q2,q3⟩:=hcq
    cases x with
    | exit id' =>
      obtain rfl:=q1
      simp only [unblock] at hm
      by_cases hid : id' = id
      ·have hb : Nat.beq id' id = true:=by rw [hid]; exact Nat.beq_refl id
       rw [hb] at hm
       simp only [Exit.inBlock,hid,if_true]
       exact ⟨_,hm,⟨σ',rfl,q2,q3⟩⟩
      ·have hb : Nat.beq id' id = false:=by
        cases hbb : Nat.beq id' id with
        | false => rfl
        | true => exact absurd (Nat.eq_of_beq_eq_true hbb) hid
       rw [hb] at hm
       simp only [Exit.inBlock,hid,if_false]
       exact ⟨_,hm,⟨σ',rfl,q2,q3⟩⟩
    | normal => obtain rfl:=q1; exact ⟨_,hm,h1⟩
    | goto l => obtain rfl:=q1; exact ⟨_,hm,h1⟩
    | ret => obtain rfl:=q1; exact ⟨_,hm,h1⟩
    | panic v => obtain ⟨u,_,rfl⟩:=q1; exact ⟨_,hm,h1⟩
   ·cases h
 | .loop c => by
   intro hX hl f S outs h σ w Wr a n hA hS hf
   simp only [acode] at h
   split at h
   ·rename_i outs₁ ho
    cases h
    exact hl c (by simp [loopsOf]) f S _ ho σ w Wr a n hA hS hf
   ·exact wpIn_loop_rounds 100000 (aloop_ok (acode_ok hE hC hR c (hX.sub fun r hr => by simp [yI,hr]) (fun c' hc' => hl c' (by simp [loopsOf,hc']))) 100000 f S outs h σ w Wr a n hA hS hf _ fun _ _ _ q => q)
 | .exit id => by
   intro hX hl f S outs h σ w Wr a n hA hS hf
   cases h
   exact wpIn_exit (.one ⟨σ,rfl,hf,Post.refl hS⟩)
 | .ret => by
   intro hX hl f S outs h σ w Wr a n hA hS hf
   cases h
   exact wpIn_ret (.one ⟨σ,rfl,hf,Post.refl hS⟩)
 | .rangeFunc g ps assign body => by
   intro hX hl f S outs h σ w Wr a n hA hS hf
   exact hX.2 (ps,assign,body) (by simp [yI]) g f S outs h σ w Wr a n hA hS hf
 | .scope c => by
   intro hX hl f S outs h σ w Wr a n hA hS hf
   have hrec:=acode_ok hE hC hR c (hX.sub fun r hr => by simp [yI,hr]) (fun c' hc' => hl c' (by simp [loopsOf,hc'])) f S
   simp only [acode] at h
   cases ro with
   | some b => cases h
   | none =>
     simp only [Option.isSome_none] at h hrec
     split at h
     ·rename_i outs₁ h₁
      split at h
      ·rename_i hg
       cases h
       refine wpIn_wide.2 (wp_scope_straight (wpIn_wide.1 (wpIn_mono (hrec _ h₁ σ w Wr a n hA hS hf) ?_)))
       rintro e a' w' ⟨o,ho,σ',q1,q2,q3⟩
       have hno:=noGoto_mem hg o ho
       obtain ⟨x,f',S'⟩:=o
       cases x with
       | goto l => exact absurd rfl (hno l)
       | normal => obtain rfl:=q1; exact ⟨_,ho,σ',rfl,q2,q3⟩
       | exit i => obtain rfl:=q1; exact ⟨_,ho,σ',rfl,q2,q3⟩
       | ret => obtain rfl:=q1; exact ⟨_,ho,σ',rfl,q2,q3⟩
       | panic v => obtain ⟨u,hu,rfl⟩:=q1; exact ⟨_,ho,σ',⟨u,hu,rfl⟩,q2,q3⟩
      ·cases h
     ·cases h
 | .goto l => by intro hX hl f S outs h; cases h
 | .refuse s => by intro hX hl f S outs h; cases h
end
open Go
noncomputable def sameNats : List Nat→List Nat→Bool
 | [],[] => true
 | a :: l,b :: m => match Nat.beq a b with
   | true => sameNats l m
   | false => false
 | _,_ => false
theorem sameNats_ok : ∀ {l m : List Nat},sameNats l m = true→l = m
 | [],[],_ => rfl
 | a :: l,b :: m,h => by
   simp only [sameNats] at h
   split at h
   ·rename_i hb
    rw [Nat.eq_of_beq_eq_true hb,sameNats_ok h]
   ·cases h
 | [],_ :: _,h => by simp [sameNats] at h
 | _ :: _,[],h => by simp [sameNats] at h
noncomputable def sameInt : Int→Int→Bool
 | .ofNat a,.ofNat b => Nat.beq a b
 | .negSucc a,.negSucc b => Nat.beq a b
 | _,_ => false
theorem sameInt_ok : ∀ {a b : Int},sameInt a b = true→a = b
 | .ofNat a,.ofNat b,h => by rw [Nat.eq_of_beq_eq_true (show Nat.beq a b = true from h)]
 | .negSucc a,.negSucc b,h => by rw [Nat.eq_of_beq_eq_true (show Nat.beq a b = true from h)]
 | .ofNat a,.negSucc b,h => by cases h
 | .negSucc a,.ofNat b,h => by cases h
noncomputable def sameKind (a b : IntKind) : Bool:=match decEq a b with
 | isTrue _ => true
 | isFalse _ => false
theorem sameKind_ok {a b : IntKind} (h : sameKind a b = true) : a = b:=by
 unfold sameKind at h
 split at h
 ·assumption
 ·cases h
noncomputable def sameFnT : Fn→Fn→Bool
 | .func a,.func b => Nat.beq a b
 | _,_ => false
theorem sameFnT_ok {a b : Fn} (h : sameFnT a b = true) : a = b:=by
 unfold sameFnT at h
 split at h
 ·rw [Nat.eq_of_beq_eq_true h]
 ·cases h
mutual
noncomputable def yS : AV→AV→Bool
 | .bool a,.bool b => match a with
   | true => b
   | false => !b
 | .int j a,.int k b => match sameKind j k with
   | true => sameInt a b
   | false => false
 | .str a,.str b => sameNats a b
 | .nilptr,.nilptr => true
 | .nilslice,.nilslice => true
 | .nilmap,.nilmap => true
 | .nilFunc,.nilFunc => true
 | .nilIface,.nilIface => true
 | .iface t a,.iface u b => match Nat.beq t u with
   | true => yS a b
   | false => false
 | .agg a,.agg b => sameAVs a b
 | .tuple a,.tuple b => sameAVs a b
 | .ptr a b,.ptr c d => match Nat.beq a c with
   | true => Nat.beq b d
   | false => false
 | .slice a b c d e,.slice a' b' c' d' e' => match Nat.beq a a' && (Nat.beq b b' && (Nat.beq c c' && Nat.beq d d')) with
   | true => match e with
     | true => e'
     | false => !e'
   | false => false
 | .map a,.map b => Nat.beq a b
 | .func a f c,.func b g d => match sameFnT a b with
   | true => match sameAVs f g with
     | true => sameAVs c d
     | false => false
   | false => false
 | .sint j a,.sint k b => andB (sameKind j k) (yB a b)
 | .sbool a,.sbool b => yB a b
 | .sstr a,.sstr b => yB a b
 | .slx i w b l n c,.slx i' w' b' l' n' c' => andB (Nat.beq i i') (andB (Nat.beq w w') (andB (yB b b') (andB (yB l l') (andB (yB n n') (yB c c')))))
 | .slo i w l,.slo i' w' l' => andB (Nat.beq i i') (andB (Nat.beq w w') (yB l l'))
 | .ptx i w b r j,.ptx i' w' b' r' j' => andB (Nat.beq i i') (andB (Nat.beq w w') (andB (yB b b') (andB (yB r r') (Nat.beq j j'))))
 | .slot a,.slot b => Nat.beq a b
 | .spt i w l n,.spt i' w' l' n' => andB (Nat.beq i i') (andB (Nat.beq w w') (andB (yB l l') (yB n n')))
 | _,_ => false
noncomputable def sameAVs : List AV→List AV→Bool
 | [],[] => true
 | a :: l,b :: m => match yS a b with
   | true => sameAVs l m
   | false => false
 | _,_ => false
end
mutual
theorem sameAV_ok : ∀ {a b : AV},yS a b = true→a = b
 | .bool a,b,h => by
   cases b <;> simp only [yS] at h <;> first
    | (cases h; done)
    | (cases a <;> simp_all)
 | .int j a,b,h => by
   cases b <;> simp only [yS] at h <;> first
    | (cases h; done)
    | (split at h
       ·rename_i hk
        rw [sameKind_ok hk,sameInt_ok h]
       ·cases h)
 | .str a,b,h => by
   cases b <;> simp only [yS] at h <;> first
    | (cases h; done)
    | rw [sameNats_ok h]
 | .nilptr,b,h => by cases b <;> simp only [yS] at h <;> first | (cases h; done) | rfl
 | .nilslice,b,h => by cases b <;> simp only [yS] at h <;> first | (cases h; done) | rfl
 | .nilmap,b,h => by cases b <;> simp only [yS] at h <;> first | (cases h; done) | rfl
 | .nilFunc,b,h => by cases b <;> simp only [yS] at h <;> first | (cases h; done) | rfl
 | .nilIface,b,h => by cases b <;> simp only [yS] at h <;> first | (cases h; done) | rfl
 | .iface t a,b,h => by
   cases b <;> simp only [yS] at h <;> first
    | (cases h; done)
    | (split at h
       ·rename_i hk
        rw [Nat.eq_of_beq_eq_true hk,sameAV_ok h]
       ·cases h)
 | .agg a,b,h => by
   cases b <;> simp only [yS] at h <;> first
    | (cases h; done)
    | rw [sameAVs_ok h]
 | .tuple a,b,h => by
   cases b <;> simp only [yS] at h <;> first
    | (cases h; done)
    | rw [sameAVs_ok h]
 | .ptr i o,b,h => by
   cases b <;> simp only [yS] at h <;> first
    | (cases h; done)
    | (split at h
       ·rename_i hk
        rw [Nat.eq_of_beq_eq_true hk,Nat.eq_of_beq_eq_true h]
       ·cases h)
 | .slice i o l c e,b,h => by
   cases b <;> simp only [yS] at h <;> first
    | (cases h; done)
    | (split at h
       ·rename_i hk
        simp only [Bool.and_eq_true] at hk
        obtain ⟨h1,h2,h3,h4⟩:=hk
        rw [Nat.eq_of_beq_eq_true h1,Nat.eq_of_beq_eq_true h2,Nat.eq_of_beq_eq_true h3,Nat.eq_of_beq_eq_true h4]
        cases e <;> simp_all
       ·cases h)
 | .slot a,b,h => by
   cases b <;> simp only [yS] at h <;> first
    | (cases h; done)
    | rw [Nat.eq_of_beq_eq_true h]
 | .map i,b,h => by
   cases b <;> simp only [yS] at h <;> first
    | (cases h; done)
    | rw [Nat.eq_of_beq_eq_true h]
 | .func fa f c,b,h => by
   cases b <;> simp only [yS] at h <;> first
    | (cases h; done)
    | (split at h
       ·rename_i h1
        split at h
        ·rename_i h2
         rw [sameFnT_ok h1,sameAVs_ok h2,sameAVs_ok h]
        ·cases h
       ·cases h)
 | .yield _,b,h => by simp only [yS] at h; cases h
 | .sint j a,b,h => by
   cases b <;> simp only [yS] at h <;> first
    | (cases h; done)
    | (obtain ⟨h1,h2⟩:=zb h
       rw [sameKind_ok h1,zL h2])
 | .sbool a,b,h => by
   cases b <;> simp only [yS] at h <;> first
    | (cases h; done)
    | rw [zL h]
 | .sstr a,b,h => by
   cases b <;> simp only [yS] at h <;> first
    | (cases h; done)
    | rw [zL h]
 | .slx i w b l n c,b2,h => by
   cases b2 <;> simp only [yS] at h <;> first
    | (cases h; done)
    | (obtain ⟨h1,h⟩:=zb h
       obtain ⟨h2,h⟩:=zb h
       obtain ⟨h3,h⟩:=zb h
       obtain ⟨h4,h⟩:=zb h
       obtain ⟨h5,h6⟩:=zb h
       rw [Nat.eq_of_beq_eq_true h1,Nat.eq_of_beq_eq_true h2,zL h3,zL h4,zL h5,zL h6])
 | .spt i w l n,b,h => by
   cases b <;> simp only [yS] at h <;> first
    | (cases h; done)
    | (obtain ⟨h1,h⟩:=zb h
       obtain ⟨h2,h⟩:=zb h
       obtain ⟨h3,h4⟩:=zb h
       rw [Nat.eq_of_beq_eq_true h1,Nat.eq_of_beq_eq_true h2,zL h3,zL h4])
 | .slo i w l,b,h => by
   cases b <;> simp only [yS] at h <;> first
    | (cases h; done)
    | (obtain ⟨h1,h⟩:=zb h
       obtain ⟨h2,h3⟩:=zb h
       rw [Nat.eq_of_beq_eq_true h1,Nat.eq_of_beq_eq_true h2,zL h3])
 | .ptx i w b r j,c,h => by
   cases c <;> simp only [yS] at h <;> first
    | (cases h; done)
    | (obtain ⟨h1,h⟩:=zb h
       obtain ⟨h2,h⟩:=zb h
       obtain ⟨h3,h⟩:=zb h
       obtain ⟨h4,h5⟩:=zb h
       rw [Nat.eq_of_beq_eq_true h1,Nat.eq_of_beq_eq_true h2,zL h3,zL h4,Nat.eq_of_beq_eq_true h5])
theorem sameAVs_ok : ∀ {a b : List AV},sameAVs a b = true→a = b
 | [],[],_ => rfl
 | a :: l,b :: m,h => by
   simp only [sameAVs] at h
   split at h
   ·rename_i hk
    rw [sameAV_ok hk,sameAVs_ok h]
   ·cases h
 | [],_ :: _,h => by simp [sameAVs] at h
 | _ :: _,[],h => by simp [sameAVs] at h
end
noncomputable def sameTr {α : Type} (eq : α→α→Bool) : Trie α→Trie α→Bool
 | .leaf,.leaf => true
 | .node none l r,.node none l' r' => andB (sameTr eq l l') (sameTr eq r r')
 | .node (some a) l r,.node (some b) l' r' => andB (eq a b) (andB (sameTr eq l l') (sameTr eq r r'))
 | _,_ => false
theorem sameTr_ok {α : Type} {eq : α→α→Bool} (he : ∀ a b,eq a b = true→a = b) : ∀ {t u : Trie α},sameTr eq t u = true→t = u
 | .leaf,.leaf,_ => rfl
 | .node none l r,.node none l' r',h => by
   simp only [sameTr] at h
   obtain ⟨h1,h2⟩:=zb h
   rw [sameTr_ok he h1,sameTr_ok he h2]
 | .node (some a) l r,.node (some b) l' r',h => by
   simp only [sameTr] at h
   obtain ⟨h0,h⟩:=zb h
   obtain ⟨h1,h2⟩:=zb h
   rw [he _ _ h0,sameTr_ok he h1,sameTr_ok he h2]
 | .leaf,.node _ _ _,h => by simp [sameTr] at h
 | .node _ _ _,.leaf,h => by simp [sameTr] at h
 | .node none _ _,.node (some _) _ _,h => by simp [sameTr] at h
 | .node (some _) _ _,.node none _ _,h => by simp [sameTr] at h
noncomputable def sameTgt : ATarget→ATarget→Bool
 | .code (.func a) c,.code (.func b) d => andB (Nat.beq a b) (sameAVs c d)
 | .collected i,.collected j => Nat.beq i j
 | _,_ => false
theorem sameTgt_ok {a b : ATarget} (h : sameTgt a b = true) : a = b:=by
 unfold sameTgt at h
 split at h
 ·obtain ⟨h1,h2⟩:=zb h
  rw [Nat.eq_of_beq_eq_true h1,sameAVs_ok h2]
 ·rw [Nat.eq_of_beq_eq_true h]
 ·cases h
noncomputable def sameDefs : List ADef→List ADef→Bool
 | [],[] => true
 | a :: l,b :: m => andB (sameTgt a.target b.target) (andB (sameAVs a.args b.args) (sameDefs l m))
 | _,_ => false
theorem sameDefs_ok : ∀ {l m : List ADef},sameDefs l m = true→l = m
 | [],[],_ => rfl
 | a :: l,b :: m,h => by
   simp only [sameDefs] at h
   obtain ⟨h1,h⟩:=zb h
   obtain ⟨h2,h3⟩:=zb h
   have e : a = b:=by
    cases a; cases b
    have e1:=sameTgt_ok h1
    have e2:=sameAVs_ok h2
    simp only at e1 e2
    rw [e1,e2]
   rw [e,sameDefs_ok h3]
 | [],_ :: _,h => by simp [sameDefs] at h
 | _ :: _,[],h => by simp [sameDefs] at h
noncomputable def sameEs : List (AV×AV×Nat)→List (AV×AV×Nat)→Bool
 | [],[] => true
 | (k,v,n) :: l,(k',v',n') :: m => andB (yS k k') (andB (yS v v') (andB (Nat.beq n n') (sameEs l m)))
 | _,_ => false
theorem sameEs_ok : ∀ {l m : List (AV×AV×Nat)},sameEs l m = true→l = m
 | [],[],_ => rfl
 | (k,v,n) :: l,(k',v',n') :: m,h => by
   simp only [sameEs] at h
   obtain ⟨h1,h⟩:=zb h
   obtain ⟨h2,h⟩:=zb h
   obtain ⟨h3,h4⟩:=zb h
   rw [sameAV_ok h1,sameAV_ok h2,Nat.eq_of_beq_eq_true h3,sameEs_ok h4]
 | [],_ :: _,h => by simp [sameEs] at h
 | _ :: _,[],h => by simp [sameEs] at h
noncomputable def sameSrc : LSrc→LSrc→Bool
 | .at_ f k,.at_ g m => andB (Nat.beq f g) (Nat.beq k m)
 | _,_ => false
theorem sameSrc_ok {a b : LSrc} (h : sameSrc a b = true) : a = b:=by
 unfold sameSrc at h
 split at h
 ·obtain ⟨h1,h2⟩:=zb h
  rw [Nat.eq_of_beq_eq_true h1,Nat.eq_of_beq_eq_true h2]
 ·cases h
noncomputable def sameState : LoopState→LoopState→Bool
 | .ready,.ready => true
 | .done,.done => true
 | .exhausted,.exhausted => true
 | .busy,.busy => true
 | _,_ => false
theorem sameState_ok {a b : LoopState} (h : sameState a b = true) : a = b:=by
 unfold sameState at h
 split at h <;> first | rfl | cases h
noncomputable def samePend : Option Code→Option Code→Bool
 | none,none => true
 | some .ret,some .ret => true
 | some (.exit i),some (.exit j) => Nat.beq i j
 | _,_ => false
theorem samePend_ok {a b : Option Code} (h : samePend a b = true) : a = b:=by
 unfold samePend at h
 split at h
 ·rfl
 ·rfl
 ·rw [Nat.eq_of_beq_eq_true h]
 ·cases h
noncomputable def sameCK : CK→CK→Bool
 | .int j,.int k => sameKind j k
 | .bool,.bool => true
 | .str,.str => true
 | _,_ => false
theorem sameCK_ok {a b : CK} (h : sameCK a b = true) : a = b:=by
 cases a <;> cases b <;> simp only [sameCK] at h <;> first
  | (cases h; done)
  | rfl
  | rw [sameKind_ok h]
noncomputable def sameCKs : List CK→List CK→Bool
 | [],[] => true
 | a :: l,b :: m => andB (sameCK a b) (sameCKs l m)
 | _,_ => false
theorem sameCKs_ok : ∀ {a b : List CK},sameCKs a b = true→a = b
 | [],[],_ => rfl
 | a :: l,b :: m,h => by
   simp only [sameCKs] at h
   obtain ⟨h1,h2⟩:=zb h
   rw [sameCK_ok h1,sameCKs_ok h2]
 | [],_ :: _,h => by simp [sameCKs] at h
 | _ :: _,[],h => by simp [sameCKs] at h
def sameB (a b : Bool) : Bool:=match a with
 | true => b
 | false => !b
theorem sameB_ok {a b : Bool} (h : sameB a b = true) : a = b:=by cases a <;> cases b <;> simp_all [sameB]
noncomputable def sameBlk : ABlock→ABlock→Bool
 | .cells l t,.cells m u => andB (Nat.beq t u) (sameAVs l m)
 | .map l c,.map m d => andB (Nat.beq c d) (sameEs l m)
 | .siter s p,.siter t q => andB (Nat.beq p q) (sameNats s t)
 | .loop p,.loop a => andB (sameSrc p.src a.src) (andB (sameState p.state a.state) (andB (samePend p.pending a.pending) (andB (Nat.beq p.size a.size) (andB (Nat.beq p.defers a.defers) (sameTr yS p.tmps a.tmps)))))
 | .deferred none,.deferred none => true
 | .deferred (some l),.deferred (some m) => sameDefs l m
 | .rows w sch b x o t,.rows w' sch' b' x' o' t' => andB (Nat.beq w w') (andB (sameCKs sch sch') (andB (yB b b') (andB (yB x x') (andB (sameB o o') (Nat.beq t t')))))
 | .smap g ks v vs x,.smap g' ks' v' vs' x' => andB (sameB g g') (andB (sameCKs ks ks') (andB (sameB v v') (andB (sameCKs vs vs') (yB x x'))))
 | _,_ => false
theorem sameBlk_ok (a b : ABlock) (h : sameBlk a b = true) : a = b:=by
 unfold sameBlk at h
 split at h
 ·obtain ⟨h1,h2⟩:=zb h
  rw [Nat.eq_of_beq_eq_true h1,sameAVs_ok h2]
 ·obtain ⟨h1,h2⟩:=zb h
  rw [Nat.eq_of_beq_eq_true h1,sameEs_ok h2]
 ·obtain ⟨h1,h2⟩:=zb h
  rw [Nat.eq_of_beq_eq_true h1,sameNats_ok h2]
 ·rename_i p a
  obtain ⟨h1,h⟩:=zb h
  obtain ⟨h2,h⟩:=zb h
  obtain ⟨h3,h⟩:=zb h
  obtain ⟨h4,h⟩:=zb h
  obtain ⟨h5,h6⟩:=zb h
  have e1:=sameSrc_ok h1
  have e2:=sameState_ok h2
  have e3:=samePend_ok h3
  have e4:=Nat.eq_of_beq_eq_true h4
  have e5:=Nat.eq_of_beq_eq_true h5
  have e6:=sameTr_ok (fun a b => sameAV_ok) h6
  cases p; cases a
  simp only at e1 e2 e3 e4 e5 e6
  rw [e1,e2,e3,e4,e5,e6]
 ·rfl
 ·rw [sameDefs_ok h]
 ·obtain ⟨h1,h⟩:=zb h
  obtain ⟨h2,h⟩:=zb h
  obtain ⟨h3,h⟩:=zb h
  obtain ⟨h4,h⟩:=zb h
  obtain ⟨h5,h6⟩:=zb h
  rw [Nat.eq_of_beq_eq_true h1,sameCKs_ok h2,zL h3,zL h4,sameB_ok h5,Nat.eq_of_beq_eq_true h6]
 ·obtain ⟨h1,h⟩:=zb h
  obtain ⟨h2,h⟩:=zb h
  obtain ⟨h3,h⟩:=zb h
  obtain ⟨h4,h5⟩:=zb h
  rw [sameB_ok h1,sameCKs_ok h2,sameB_ok h3,sameCKs_ok h4,zL h5]
 ·cases h
noncomputable def sameOut (o o' : AF×ASt) : Bool:=
 andB (Nat.beq o.2.next o'.2.next) (andB (Nat.beq o.1.size o'.1.size) (andB (sameDefs o.1.defers o'.1.defers) (andB (sameTr yS o.1.T o'.1.T) (sameTr sameBlk o.2.heap o'.2.heap))))
theorem sameOut_ok {o o' : AF×ASt} (h : sameOut o o' = true) (hl : o.2.limit = o'.2.limit) : o = o':=by
 obtain ⟨h1,h⟩:=zb h
 obtain ⟨h2,h⟩:=zb h
 obtain ⟨h3,h⟩:=zb h
 obtain ⟨h4,h5⟩:=zb h
 obtain ⟨f,S⟩:=o
 obtain ⟨f',S'⟩:=o'
 cases f; cases f'; cases S; cases S'
 simp only at hl h1 h2 h3 h4 h5
 rw [Nat.eq_of_beq_eq_true h1,Nat.eq_of_beq_eq_true h2,sameDefs_ok h3,sameTr_ok (fun a b => sameAV_ok) h4,sameTr_ok sameBlk_ok h5,hl]
open Go
def Closed (ops : Array Oper) (listed : Array Bool) : Prop:=
 ∀ j o,ops[j]? = some o→listed.getD j false = true→∀ e ∈ o.after,Region.binds .any e = true→listed.getD e.on false = true
theorem getD_set_cases {listed : Array Bool} {i j : Nat} (h : (listed.setIfInBounds i true).getD j false = true) : i = j∨listed.getD j false = true:=by
 by_cases hij : i = j
 ·exact .inl hij
 ·rw [getD_set_ne false hij] at h; exact .inr h
theorem Closed.set {ops : Array Oper} {listed : Array Bool} (h : Closed ops listed) {i : Nat} (hi : i ∈ Region.ready .any ops listed) : Closed ops (listed.setIfInBounds i true):=by
 intro j o hj hl e he hb
 rcases getD_set_cases hl with rfl | hl
 ·obtain ⟨_,o',ho',hall⟩:=mem_ready.1 hi
  rw [hj] at ho'; cases ho'
  exact getD_set_true (hall e he hb)
 ·exact getD_set_true (h j o hj hl e he hb)
theorem getD_rep (n j : Nat) : (Array.replicate n false).getD j false = false:=by
 simp only [Array.getD_eq_getD_getElem?,Array.getElem?_replicate]
 split <;> rfl
theorem Closed.start (ops : Array Oper) (n : Nat) : Closed ops (Array.replicate n false):=by
 intro j o hj hl e he hb
 rw [getD_rep] at hl
 cases hl
noncomputable def maskOf (acc : List Nat) : List Edge→Nat
 | [] => 0
 | e :: l => match Region.binds .any e with
   | true => Nat.lor (Nat.lor (Nat.pow 2 e.on) (acc.getD e.on 0)) (maskOf acc l)
   | false => maskOf acc l
noncomputable def ancs : List Oper→List Nat→List Nat
 | [],acc => acc
 | o :: l,acc => ancs l (acc ++ [maskOf acc o.after.toList])
theorem maskOf_ok {acc : List Nat} {r : Nat} : ∀ {l : List Edge},(maskOf acc l).testBit r = true→∃ e ∈ l,Region.binds .any e = true∧(r = e.on∨(acc.getD e.on 0).testBit r = true)
 | [],h => by simp [maskOf] at h
 | e :: l,h => by
   simp only [maskOf] at h
   split at h
   ·rename_i hb
    have h' : ((2 ^ e.on ||| acc.getD e.on 0) ||| maskOf acc l).testBit r = true:=h
    rw [Nat.testBit_or,Nat.testBit_or,Nat.testBit_two_pow] at h'
    simp only [Bool.or_eq_true,decide_eq_true_eq] at h'
    rcases h' with (h1 | h1) | h1
    ·exact ⟨e,List.mem_cons_self,hb,.inl h1.symm⟩
    ·exact ⟨e,List.mem_cons_self,hb,.inr h1⟩
    ·obtain ⟨e',h2,h3,h4⟩:=maskOf_ok h1
     exact ⟨e',List.mem_cons_of_mem _ h2,h3,h4⟩
   ·obtain ⟨e',h2,h3,h4⟩:=maskOf_ok h
    exact ⟨e',List.mem_cons_of_mem _ h2,h3,h4⟩
def AncOk (listed : Array Bool) (acc : List Nat) : Prop:=∀ i r,listed.getD i false = true→(acc.getD i 0).testBit r = true→listed.getD r false = true
theorem ancs_ok {ops : Array Oper} {listed : Array Bool} (hc : Closed ops listed) : ∀ (l : List Oper) (acc : List Nat),ops.toList.drop acc.length = l→AncOk listed acc→AncOk listed (ancs l acc)
 | [],acc,_,h => h
 | o :: l,acc,hd,h => by
   have h1 : ops[acc.length]? = some o:=by
    have:=congrArg (fun x => x[0]?) hd
    simpa using this
   have h2 : ops.toList.drop (acc.length + 1) = l:=by
    have:=congrArg (List.drop 1) hd
    simpa [List.drop_drop] using this
   refine ancs_ok hc l _ (by simpa using h2) ?_
   intro i r hi hr
   by_cases hil : i < acc.length
   ·rw [List.getD_eq_getElem?_getD,List.getElem?_append_left hil,← List.getD_eq_getElem?_getD] at hr
    exact h i r hi hr
   ·by_cases hie : i = acc.length
    ·subst hie
     rw [List.getD_eq_getElem?_getD,List.getElem?_append_right (Nat.le_refl _)] at hr
     simp only [Nat.sub_self,List.getElem?_cons_zero,Option.getD_some] at hr
     obtain ⟨e,he,hb,hre⟩:=maskOf_ok hr
     have hl:=hc _ o h1 hi e (by simpa using he) hb
     rcases hre with rfl | hre
     ·exact hl
     ·exact h e.on r hl hre
    ·rw [List.getD_eq_getElem?_getD,List.getElem?_append_right (by omega),List.getElem?_eq_none (by simp; omega)] at hr
     simp at hr
section
variable {P : Program} {ops : Array Oper} {Q : Exit→Act→World→Prop} {SS : Array Bool→World→Prop}
def wpAnyL (P : Program) (ops : Array Oper) (Q : Exit→Act→World→Prop) (SS : Array Bool→World→Prop) : Nat→Array Bool→Act→World→Prop
 | 0,listed,a,w => Region.ready .any ops listed = []∧Q .normal a w
 | fuel + 1,listed,a,w =>
   (Region.ready .any ops listed = []→Q .normal a w) ∧
   ∀ i ∈ Region.ready .any ops listed,wpOp P ops Q i (fun a' w' => SS (listed.setIfInBounds i true) w'∧wpAnyL P ops Q SS fuel (listed.setIfInBounds i true) a' w') a w
theorem wpAny_of_L : ∀ (fuel : Nat) (listed : Array Bool) (a : Act) (w : World),wpAnyL P ops Q SS fuel listed a w→wpAny P .any ops Q fuel listed a w
 | 0,_,_,_,h => h
 | fuel + 1,_,_,_,h => ⟨h.1,fun i hi => wpOp_mono (fun a' w' h' => wpAny_of_L fuel _ a' w' h'.2) (h.2 i hi)⟩
theorem wpAnyL_first {i : Nat} {oi : Oper} {v : Value} {S0 : World→Prop} (hi : ops[i]? = some oi) (hsel : ∀ (j : Nat) (o : Oper) cs b,ops[j]? = some o→o.op≠.select cs b)
  (hQ : ∀ c a w,Q (.panic c) (a.put oi.dst v) w→Q (.panic c) a w) (hSS : ∀ listed w,Closed ops listed→listed.getD i false = false→SS listed w→S0 w)
  (hSi : ∀ listed w,SS (listed.setIfInBounds i true) w↔SS listed w) :
  ∀ (fuel : Nat) (listed : Array Bool) (a : Act) (w : World),Closed ops listed →
    (∀ j oj,ops[j]? = some oj→j≠i→listed.getD j true = false→(∀ e ∈ oj.after,Region.binds .any e = true→e.on≠i)→oi.apart ops oj = true) →
    i ∈ Region.ready .any ops listed→YieldsIf P ops S0 oi v a→SS listed w →
    wpAnyL P ops Q SS fuel (listed.setIfInBounds i true) (a.put oi.dst v) w→wpAnyL P ops Q SS (fuel + 1) listed a w:=by
 have unl : ∀ listed : Array Bool,i ∈ Region.ready .any ops listed→listed.getD i false = false:=fun listed hr => by
  have hun:=(mem_ready.1 hr).1
  rcases Nat.lt_or_ge i listed.size with h' | h'
  ·simp [h'] at hun ⊢; exact hun
  ·simp [Array.getElem?_eq_none h']
 intro fuel
 induction fuel with
 | zero =>
   intro listed a w hc _ hr hy hS H
   refine ⟨fun h => (by rw [h] at hr; cases hr),fun j hj => ?_⟩
   by_cases hji : j = i
   ·subst hji; exact hy.wpOp hi (hSS _ _ hc (unl _ hr) hS) ⟨(hSi _ _).2 hS,H⟩
   ·have:=ready_mono hj hji
    rw [H.1] at this
    cases this
 | succ fuel ih =>
   intro listed a w hc hfree hr hy hS H
   refine ⟨fun h => (by rw [h] at hr; cases hr),fun j hj => ?_⟩
   by_cases hji : j = i
   ·subst hji; exact hy.wpOp hi (hSS _ _ hc (unl _ hr) hS) ⟨(hSi _ _).2 hS,H⟩
   ·have h1:=H.2 j (ready_mono hj hji)
    obtain ⟨hjun,oj,hoj,hall⟩:=mem_ready.1 hj
    have hnot : ∀ e ∈ oj.after,Region.binds .any e = true→e.on≠i:=fun e he hb heq => by
     have h1:=hall e he hb
     rw [heq,unl _ hr] at h1
     cases h1
    have h2:=wpOp_putIf hoj (hfree j oj hoj hji hjun hnot) (fun cs b => hsel i oi cs b hi) (fun cs b => hsel j oj cs b hoj) hQ hy h1
    have hfree' : ∀ k ok,ops[k]? = some ok→k≠i→(listed.setIfInBounds j true).getD k true = false →
      (∀ e ∈ ok.after,Region.binds .any e = true→e.on≠i)→oi.apart ops ok = true:=fun k ok hk hki hun' hno => by
     refine hfree k ok hk hki ?_ hno
     by_cases hjk : j = k
     ·subst hjk; exact hjun
     ·rw [getD_set_ne true hjk] at hun'; exact hun'
    refine wpOp_mono (fun a' w' h3 => ?_) h2
    obtain ⟨hya,hs3,h4⟩:=h3
    rw [Array.setIfInBounds_comm _ _ (Ne.symm hji)] at hs3 h4
    have hs4:=(hSi _ _).1 hs3
    exact ⟨hs4,ih (listed.setIfInBounds j true) a' w' (hc.set hj) hfree' (ready_mono hr (Ne.symm hji)) hya hs4 h4⟩
end
def isReader (o : Oper) : Bool:=
 match o.op with
 | .alloc _ | .box _ _ | .buildSlice _ _ _ | .store _ _ _ | .makeMap _ _ | .makeSlice _ _ _ | .mapUpdate _ _ _ _ | .insert _ _ _ _ | .mapEntry _ _ _ | .entryStore _ _ _ _
 | .range _ _ | .next _ _ | .entry _ | .panic _ | .defer _ | .go _ | .ready _ | .makeChan _ _ | .send _ _ | .recv _ _ _ | .select _ _ | .sliceToArrayPointer _ _ => false
 | .call c => match c.callee with
   | .builtin b => match b with
     | .len | .cap | .max | .min => true
     | _ => false
   | _ => false
 | _ => true
def isMem (o : Oper) : Bool:=
 match o.op with
 | .load _ _ | .lookup _ _ _ _ | .waits _ | .convert _ _ _ => true
 | .call _ => true
 | _ => false
noncomputable def memMask : List Oper→Nat→Nat
 | [],_ => 0
 | o :: l,i => match isReader o && isMem o with
   | true => Nat.lor (Nat.pow 2 i) (memMask l (i + 1))
   | false => memMask l (i + 1)
noncomputable def behind (ops : Array Oper) (j : Nat) : Bool:=
 match Nat.beq (Nat.land (memMask ops.toList 0) ((ancs ops.toList []).getD j 0)) (memMask ops.toList 0) with
 | true => match ops[j]? with
   | some o => !isReader o
   | none => false
 | false => false
theorem memMask_ok : ∀ {l : List Oper} {k i : Nat} {o : Oper},l[i]? = some o→(isReader o && isMem o) = true→(memMask l k).testBit (k + i) = true
 | [],k,i,o,h,_ => by simp at h
 | x :: l,k,0,o,h,hr => by
   simp only [List.getElem?_cons_zero,Option.some.injEq] at h
   subst h
   simp only [memMask,hr]
   have : ((2 ^ k ||| memMask l (k + 1))).testBit (k + 0) = true:=by
    rw [Nat.testBit_or,Nat.testBit_two_pow]
    simp
   exact this
 | x :: l,k,i + 1,o,h,hr => by
   simp only [List.getElem?_cons_succ] at h
   have ih:=memMask_ok (k:=k + 1) h hr
   rw [show k + 1 + i = k + (i + 1) by omega] at ih
   simp only [memMask]
   split
   ·have : ((2 ^ k ||| memMask l (k + 1))).testBit (k + (i + 1)) = true:=by
     rw [Nat.testBit_or,ih,Bool.or_true]
    exact this
   ·exact ih
theorem behind_ok {ops : Array Oper} {j : Nat} (h : behind ops j = true) {listed : Array Bool} (hc : Closed ops listed) (hj : listed.getD j false = true) {i : Nat} {o : Oper} (hi : ops[i]? = some o)
  (hr : (isReader o && isMem o) = true) : listed.getD i false = true:=by
 unfold behind at h
 split at h
 ·rename_i hm
  have hm' : (memMask ops.toList 0 &&& (ancs ops.toList []).getD j 0) = memMask ops.toList 0:=Nat.eq_of_beq_eq_true hm
  have hbit:=memMask_ok (l:=ops.toList) (k:=0) (i:=i) (o:=o) (by simpa using hi) hr
  rw [Nat.zero_add,← hm',Nat.testBit_and] at hbit
  simp only [Bool.and_eq_true] at hbit
  exact ancs_ok hc ops.toList [] rfl (fun i r _ hr => by simp at hr) j i hj hbit.2
 ·cases h
inductive Plan where
 | done
 | fail
 | take (o : Oper) (p : Plan)
 | alt (i : Nat) (o : Oper) (held : Bool) (p rest : Plan)
 | stop
noncomputable def yE (ops : Array Oper) (listed : Array Bool) : Bool:=(List.range ops.size).any fun u => listed.getD u false && behind ops u
noncomputable def pickReader (tk : Bool) (ops : Array Oper) (listed : Array Bool) : List Nat→Option (Nat×Oper)
 | [] => none
 | i :: l => match ops[i]? with
   | some o => match isReader o && ((tk || !(isMem o)) && Region.free .any ops listed i) with
     | true => some (i,o)
     | false => pickReader tk ops listed l
   | none => pickReader tk ops listed l
noncomputable def altsOf (ops : Array Oper) (listed : Array Bool) (mk : Array Bool→Plan) : List Nat→Plan
 | [] => .stop
 | i :: l => match ops[i]? with
   | some o => .alt i o (!(yE ops (listed.setIfInBounds i true))) (mk (listed.setIfInBounds i true)) (altsOf ops listed mk l)
   | none => .fail
noncomputable def mkPlan (tk : Bool) (ops : Array Oper) : Nat→Array Bool→Plan
 | 0,listed => match Region.ready .any ops listed with
   | [] => .done
   | _ => .fail
 | n + 1,listed => match Region.ready .any ops listed with
   | [] => .done
   | i :: l => match pickReader tk ops listed (i :: l) with
     | some (j,o) => .take o (mkPlan tk ops n (listed.setIfInBounds j true))
     | none => altsOf ops listed (mkPlan tk ops n) (i :: l)
def zT (S : ASt) (l : Nat→Bool) : ASt:={ heap:=S.heap,next:=S.next,limit:=l }
noncomputable def memN (i : Nat) : List Nat→Bool
 | [] => false
 | j :: l => match Nat.beq i j with
   | true => true
   | false => memN i l
noncomputable def yi (N : Nat) (W : List Nat) : Nat→Bool:=fun id => match Nat.ble N id with
 | true => true
 | false => memN id W
noncomputable def without (H : Trie ABlock) : List Nat→Trie ABlock
 | [] => H
 | i :: W => without (Trie.put none depth H i) W
noncomputable def okW (S : ASt) : List Nat→Bool
 | [] => true
 | i :: W => match S.limit i && Nat.blt i zM with
   | true => match S.heap.get i with
     | some _ => okW S W
     | none => false
   | false => false
inductive Spare where
 | var (t : TypeId)
 | map
noncomputable def spareOf (rs : Bool) (o : Oper) : Option Spare:=match rs with
 | true => match o.op with
   | .alloc t => match o.guard with
     | none => some (.var t)
     | some _ => none
   | .makeMap _ r => match r with
     | none => match o.guard with
       | none => some .map
       | some _ => none
     | some _ => none
   | _ => none
 | false => none
noncomputable def amapAt (S : ASt) (r : Nat) : Option (AV×ASt):=match andB (Nat.blt r S.next) (andB (Nat.blt r zM) (S.limit r)) with
 | true => some (.map r,{ heap:=Trie.put (some (.map [] 0)) depth S.heap r,next:=S.next,limit:=S.limit })
 | false => none
noncomputable def aallocAt (E : Env) (S : ASt) (r : Nat) (t : TypeId) : Option (AV×ASt):=match E.zero t with
 | some z => match z.isTuple with
   | true => none
   | false => match andB (Nat.blt r S.next) (andB (Nat.blt r zM) (S.limit r)) with
     | true => some (.ptr r 0,{ heap:=Trie.put (some (.cells z.cells t)) depth S.heap r,next:=S.next,limit:=S.limit })
     | false => none
 | none => none
noncomputable def altStep (E : Env) (C : yj) (rs : Bool) (n0 : Nat) (ops : Array Oper) (f : AF) (S : ASt) (i : Nat) (o : Oper) : Option AStep:=match spareOf rs o with
 | some (.var t) => match aallocAt E S (n0 + i) t with
   | some (v,S') => goOn (f.put o.dst v) S'
   | none => none
 | some .map => match amapAt S (n0 + i) with
   | some (v,S') => goOn (f.put o.dst v) S'
   | none => none
 | none => astep E C (fun _ _ _ => none) true ops f S o
noncomputable def isCallV (o : Oper) : Bool:=match o.op with
 | .call c => match c.callee with
   | .builtin _ => false
   | _ => true
 | _ => false
noncomputable def sparing (E : Env) (ops : Array Oper) : Bool:=match E.spare with
 | true => andB (ops.toList.any isCallV) (ops.toList.any fun o => match spareOf true o with | some _ => true | none => false)
 | false => false
def AF.bare (f : AF) : AF:={ T:=.leaf,size:=f.size,defers:=f.defers }
theorem AF.bare_ok {σ : Sig} {f : AF} {a : Act} (h : FRel σ f a) : FRel σ f.bare a:=⟨fun i v hi => by simp [AF.bare,Trie.get_leaf] at hi,h.size,h.defers⟩
theorem AF.bare_put {σ : Sig} {f : AF} {a : Act} {dst : Option Tmp} {v : Value} (h : FRel σ f.bare (a.put dst v)) : FRel σ f.bare a:=by
 refine ⟨fun i v hi => by simp [AF.bare,Trie.get_leaf] at hi,?_,?_⟩
 ·have:=h.size
  cases dst with
  | none => exact this
  | some d => simpa [Act.put] using this
 ·have:=h.defers
  cases dst with
  | none => exact this
  | some d => simpa [Act.put] using this
noncomputable def yJ (E : Env) (C : yj) (rs : Bool) (n0 : Nat) (ops : Array Oper) (H0 : Trie ABlock) (l1 l0 : Nat→Bool) : Plan→AF→ASt→Option (List Out)
 | .done,f,S => some [(.normal,f,zT S l0)]
 | .fail,_,_ => none
 | .stop,_,_ => some []
 | .take o p,f,S => match awanted ops f.T o with
   | some true => match areadG E f.T { heap:=match isMem o with | true => H0 | false => .leaf,next:=S.next,limit:=yi S.next [] } o with
     | some v => match f.put o.dst v with
       | some f' => yJ E C rs n0 ops H0 l1 l0 p f' S
       | none => none
     | none => none
   | some false => match f.put o.dst aundef with
     | some f' => yJ E C rs n0 ops H0 l1 l0 p f' S
     | none => none
   | none => none
 | .alt i o held p rest,f,S => match altStep E C rs n0 ops f (zT S (match held with | true => l1 | false => l0)) i o with
   | some (.go f' S') => match yJ E C rs n0 ops H0 l1 l0 p f' S' with
     | some r => match yJ E C rs n0 ops H0 l1 l0 rest f S with
       | some r' => some (r ++ r')
       | none => none
     | none => none
   | some (.stop v S') => match yJ E C rs n0 ops H0 l1 l0 rest f S with
     | some r' => some ((.panic v,f.bare,zT S' l0) :: r')
     | none => none
   | none => none
noncomputable def definedBy (t : Tmp) : List Oper→Option Op
 | [] => none
 | o :: l => match o.dst with
   | some d => match Nat.beq d t with
     | true => some o.op
     | false => definedBy t l
   | none => definedBy t l
noncomputable def baseOf (ops : List Oper) : Nat→Operand→Operand
 | 0,x => x
 | n + 1,x => match x with
   | .tmp t => match definedBy t ops with
     | some (.fieldAddr _ y _) => baseOf ops n y
     | some (.indexAddr _ y _) => baseOf ops n y
     | some (.move y) => baseOf ops n y
     | some (.nilCheck y) => baseOf ops n y
     | _ => x
   | _ => x
noncomputable def writeTarget (ops : List Oper) (o : Oper) : Option Operand:=
 match o.op with
 | .store _ x _ => some (baseOf ops 5 x)
 | .mapUpdate _ m _ _ => some m
 | .mapEntry _ m _ => some m
 | .entryStore _ m _ _ => some m
 | .call c => match c.callee with
   | .builtin .append => c.args[0]?
   | .builtin .copy => c.args[0]?
   | _ => none
 | _ => none
noncomputable def targets (ops : Array Oper) : List Oper→Nat→List Operand
 | [],_ => []
 | o :: l,i => match writeTarget ops.toList o with
   | some x => match behind ops i with
     | true => targets ops l (i + 1)
     | false => x :: targets ops l (i + 1)
   | none => targets ops l (i + 1)
noncomputable def idOf (v : Option AV) : Option Nat:=
 match v with
 | some (.ptr id _) => some id
 | some (.slice id _ _ _ _) => some id
 | some (.map id) => some id
 | _ => none
noncomputable def writtenAt (E : Env) (f : AF) (S : ASt) : List Operand→List Nat
 | [] => []
 | x :: l => match idOf (zB E f.T x) with
   | some id => match Nat.blt id S.next && S.limit id with
     | true => id :: writtenAt E f S l
     | false => writtenAt E f S l
   | none => writtenAt E f S l
noncomputable def preT (E : Env) (S : ASt) : Plan→AF→AF
 | .take o p,f => match awanted #[] f.T { o with guard:=none } with
   | some true => match areadG E f.T S o with
     | some v => match f.put o.dst v with
       | some f' => preT E S p f'
       | none => f
     | none => f
   | _ => f
 | _,f => f
def bump (rs : Bool) (k : Nat) (S : ASt) : ASt:=match rs with
 | true => { heap:=S.heap,next:=S.next + k,limit:=S.limit }
 | false => S
noncomputable def sameX1 : AX→AX→Bool
 | .normal,.normal => true
 | .panic a,.panic b => yS a b
 | _,_ => false
noncomputable def hasO (o : Out) : List Out→Bool
 | [] => false
 | o' :: l => match andB (sameX1 o.1 o'.1) (sameOut o.2 o'.2) with
   | true => true
   | false => hasO o l
noncomputable def onceO : List Out→List Out
 | [] => []
 | o :: l => match l with
   | [] => [o]
   | _ :: _ => match hasO o l with
     | true => onceO l
     | false => o :: onceO l
noncomputable def adrawW (E : Env) (C : yj) (tk : Bool) (ops : Array Oper) (f : AF) (S : ASt) (W : List Nat) : Option (List Out):=
 match Region.noSelect ops && ((ops.toList.all fun o => match o.op with | .defer _ => false | _ => true) && okW S W) with
 | true => match yJ E C (sparing E ops) S.next ops (without S.heap W) (yi S.next W) S.limit (mkPlan tk ops ops.size (Array.replicate ops.size false)) f (bump (sparing E ops) ops.size S) with
   | some outs => some (onceO outs)
   | none => none
 | false => none
noncomputable def achain (E : Env) (C : yj) (ops : Array Oper) : Nat→Array Bool→AF→ASt→Option (List Out)
 | 0,listed,f,S => match Region.ready .any ops listed with
   | [] => some [(.normal,f,S)]
   | _ :: _ => none
 | n + 1,listed,f,S => match Region.ready .any ops listed with
   | [] => some [(.normal,f,S)]
   | i :: l => joinM (fun j => match ops[j]? with
       | some o => match astep E C (fun _ _ _ => none) true ops f S o with
         | some (.go f' S') => achain E C ops n (listed.setIfInBounds j true) f' S'
         | some (.stop v S') => some [(.panic v,f,S')]
         | none => none
       | none => none) (i :: l)
noncomputable def achained (E : Env) (C : yj) (ops : Array Oper) (f : AF) (S : ASt) : Option (List Out):=
 match (ops.toList.all fun o => match o.op with | .defer _ => false | _ => true) && Nat.ble ops.size 9 with
 | true => match achain E C ops ops.size (Array.replicate ops.size false) f S with
   | some outs => some (onceO (outs.map fun o => (o.1,o.2.1,zT o.2.2 S.limit)))
   | none => none
 | false => none
noncomputable def actsN : List Oper→Nat
 | [] => 0
 | o :: l => match isReader o && !(isMem o) with
   | true => actsN l
   | false => Nat.succ (actsN l)
noncomputable def adrawM (E : Env) (C : yj) (ops : Array Oper) (f : AF) (S : ASt) : Option (List Out):=
 match targets ops ops.toList 0 with
 | [] => adrawW E C true ops f S []
 | x :: l => match adrawW E C true ops f S (writtenAt E (preT E S (mkPlan true ops ops.size (Array.replicate ops.size false)) f) S (x :: l)) with
   | some outs => some outs
   | none => match Nat.ble ops.size 9 || Nat.ble (actsN ops.toList) 7 with
     | true => adrawW E C false ops f S (writtenAt E (preT E S (mkPlan true ops ops.size (Array.replicate ops.size false)) f) S (x :: l))
     | false => none
noncomputable def adraw (E : Env) (C : yj) (ops : Array Oper) (f : AF) (S : ASt) : Option (List Out):=
 match adrawM E C ops f S with
 | some outs => some outs
 | none => achained E C ops f S
theorem memN_iff {i : Nat} : ∀ {W : List Nat},memN i W = true↔i ∈ W
 | [] => by simp [memN]
 | j :: W => by
   simp only [memN]
   split
   ·rename_i h
    simp [Nat.eq_of_beq_eq_true h]
   ·rename_i h
    have:=Nat.ne_of_beq_eq_false h
    rw [memN_iff]
    simp [this]
theorem yh {N : Nat} {W : List Nat} {id : Nat} : yi N W id = true↔N≤id∨id ∈ W:=by
 unfold yi
 split
 ·rename_i h
  simp [Nat.le_of_ble_eq_true h]
 ·rename_i h
  rw [memN_iff]
  constructor
  ·exact fun e => .inr e
  ·rintro (e | e)
   ·rw [Nat.ble_eq_true_of_le e] at h; cases h
   ·exact e
theorem okW_ok {S : ASt} : ∀ {W : List Nat},okW S W = true→∀ i ∈ W,S.limit i = true∧i < zM∧∃ b,S.heap.get i = some b
 | [],_,i,hi => by cases hi
 | j :: W,h,i,hi => by
   simp only [okW] at h
   split at h
   ·rename_i hc
    simp only [Bool.and_eq_true] at hc
    split at h
    ·rename_i b hb
     cases hi with
     | head => exact ⟨hc.1,zo hc.2,b,hb⟩
     | tail _ hm => exact okW_ok h i hm
    ·cases h
   ·cases h
theorem without_get : ∀ {W : List Nat} {H : Trie ABlock},(∀ i ∈ W,i < zM)→∀ j,(without H W).get j = if j ∈ W then none else H.get j
 | [],H,_,j => by simp [without]
 | i :: W,H,h,j => by
   simp only [without]
   rw [without_get (fun k hk => h k (List.mem_cons_of_mem _ hk)),Trie.get_put _ _ _ _ (by simpa [zM] using h i List.mem_cons_self)]
   by_cases h1 : j ∈ W
   ·simp [h1]
   ·by_cases h2 : j = i
    ·simp [h2]
    ·simp [h1,h2]
def heldWr (σ : Sig) (w : World) (W : List Nat) : Nat→Prop:=fun b => w.heap.size≤b∨∃ id,id ∈ W∧∃ κ,σ id = some (b,κ)
theorem rel_old {P : Program} {σ₀ σ : Sig} {S : ASt} {w w' : World} {Wr : Nat→Prop} (hS : S.rel P σ₀ w Wr) {W : List Nat} (hW : okW S W = true) (hk : Kept (heldWr σ₀ w W) w w') (hu : Sig.upto S.next σ₀ σ) {n : Nat} (hn : S.next≤n)
  (hf : ∀ id,n≤id→σ id = none) {l : Nat→Bool} (hl : ∀ id,n≤id→l id = true) (hll : ∀ id,id < S.next→l id = false) : HRel P σ (without S.heap W).get n l w' (fun _ => True):=by
 have hget:=without_get (W:=W) (H:=S.heap) fun i hi => (okW_ok hW i hi).2.1
 have hlt : ∀ id blk,S.heap.get id = some blk→id < S.next:=fun id blk h => by
  rcases Nat.lt_or_ge id S.next with h' | h'
  ·exact h'
  ·rw [(hS.fresh id h').2] at h; cases h
 have hle : σ₀.le σ:=hu.le fun id hid => (hS.fresh id hid).1
 have live : ∀ id blk,(without S.heap W).get id = some blk→id ∉ W∧S.heap.get id = some blk:=fun id blk h => by
  rw [hget] at h
  split at h
  ·cases h
  ·rename_i hn; exact ⟨hn,h⟩
 refine ⟨fun id blk h => ?_,fun i j bi bj x y hi hj hx hy hxy => ?_,fun _ _ _ _ _ _ => trivial,fun _ _ => trivial,fun id hid => ⟨hf id hid,?_⟩,hl⟩
 ·obtain ⟨hnw,h⟩:=live id blk h
  obtain ⟨b,κ,o,h1,h2,h3⟩:=hS.at_ id blk h
  have hb:=(Array.getElem?_eq_some_iff.1 h2).1
  refine ⟨b,κ,o,hle _ _ h1,?_,h3.le hle⟩
  rw [hk.same b ?_]
  ·exact h2
  ·rintro (e | ⟨id',hid',κ',e⟩)
   ·omega
   ·obtain ⟨_,_,blk',hblk'⟩:=okW_ok hW id' hid'
    have:=hS.inj id id' blk blk' _ _ h hblk' h1 e rfl
    exact this.elim (fun e => hnw (e ▸ hid')) fun hq => by rw [(okW_ok hW id' hid').1] at hq; cases hq.2
 ·obtain ⟨_,hi⟩:=live i bi hi
  obtain ⟨_,hj⟩:=live j bj hj
  rw [hu i (hlt i bi hi)] at hx
  rw [hu j (hlt j bj hj)] at hy
  exact (hS.inj i j bi bj x y hi hj hx hy hxy).imp id fun _ => ⟨hll i (hlt i bi hi),hll j (hlt j bj hj)⟩
 ·rw [hget]
  split
  ·rfl
  ·exact (hS.fresh id (by omega)).2
theorem unlimit {P : Program} {σ₀ σ : Sig} {S S' : ASt} {w w' : World} {Wr : Nat→Prop} (hS : S.rel P σ₀ w Wr) {W : List Nat} (hW : okW S W = true)
  (h : Post P σ₀ (zT S (yi S.next W)) w (heldWr σ₀ w W) σ S' w') : Post P σ₀ S w Wr σ (zT S' S.limit) w':=by
 have hl : S'.limit = yi S.next W:=h.limit
 have hnx : S.next≤S'.next:=h.next
 have hwr : ∀ b,heldWr σ₀ w W b→Wr b:=by
  rintro b (e | ⟨id,hid,κ,e⟩)
  ·exact hS.wrNew b e
  ·obtain ⟨h1,_,blk,h2⟩:=okW_ok hW id hid
   exact hS.wr id blk _ h2 h1 e
 have old : ∀ i bi,S'.heap.get i = some bi→yi S.next W i = false→S.heap.get i = some bi∧σ i = σ₀ i:=fun i bi hi hc => by
  have hfr : S'.heap.get i = S.heap.get i:=h.frame i hc
  have hlt : i < S.next:=by
   rcases Nat.lt_or_ge i S.next with e | e
   ·exact e
   ·rw [yh.2 (.inl e)] at hc; cases hc
  exact ⟨hfr ▸ hi,h.upto i hlt⟩
 refine ⟨⟨h.rel.at_,fun i j bi bj x y hi hj hx hy e => (h.rel.inj i j bi bj x y hi hj hx hy e).elim .inl fun hq => by
  obtain ⟨a1,a2⟩:=old i bi hi (hl ▸ hq.1)
  obtain ⟨b1,b2⟩:=old j bj hj (hl ▸ hq.2)
  rw [a2] at hx
  rw [b2] at hy
  exact hS.inj i j bi bj x y a1 b1 hx hy e,fun id blk x hid hlim hx => ?_,fun b hb => ?_,h.rel.fresh,fun id hid => ?_⟩,h.upto,h.next,rfl,⟨h.kept.size,fun b hb => ?_,h.kept.out⟩,fun id hid => ?_⟩
 ·cases hc : yi S.next W id with
  | false =>
    have hfr : S'.heap.get id = S.heap.get id:=h.frame id hc
    have hlt : id < S.next:=by
     rcases Nat.lt_or_ge id S.next with e | e
     ·exact e
     ·rw [yh.2 (.inl e)] at hc; cases hc
    have hid' : S'.heap.get id = some blk:=hid
    rw [hfr] at hid'
    have hx':=h.upto id hlt
    rw [hx'] at hx
    exact hS.wr id blk x hid' hlim hx
  | true =>
    exact hwr _ (h.rel.wr id blk x hid (by rw [hl]; exact hc) hx)
 ·exact hS.wrNew b (Nat.le_trans h.kept.size hb)
 ·have hid' : S'.next≤id:=hid
  exact hS.low id (by omega)
 ·exact h.kept.same b fun e => hb (hwr b e)
 ·have hid' : S.limit id = false:=hid
  refine h.frame id ?_
  show yi S.next W id = false
  cases hc : yi S.next W id with
  | false => rfl
  | true =>
    rcases yh.1 hc with e | e
    ·rw [hS.low id e] at hid'; cases hid'
    ·rw [(okW_ok hW id e).1] at hid'; cases hid'
theorem limited {P : Program} {σ : Sig} {S : ASt} {w : World} {Wr : Nat→Prop} (hS : S.rel P σ w Wr) (W : List Nat) (hW : okW S W = true) : (zT S (yi S.next W)).rel P σ w (heldWr σ w W):=
 { at_:=hS.at_
   inj:=fun i j bi bj x y hi hj hx hy e => (hS.inj i j bi bj x y hi hj hx hy e).imp id fun hq => by
    have low : ∀ k,S.limit k = false→yi S.next W k = false:=fun k hk => by
     cases hf : yi S.next W k with
     | false => rfl
     | true =>
       rcases yh.1 hf with e | e
       ·rw [hS.low k e] at hk; cases hk
       ·rw [(okW_ok hW k e).1] at hk; cases hk
    exact ⟨low i hq.1,low j hq.2⟩
   wr:=fun id blk x h hl hx => by
    have h' : S.heap.get id = some blk:=h
    rcases yh.1 hl with e | e
    ·rw [(hS.fresh id e).2] at h'
     cases h'
    ·exact .inr ⟨id,e,x.2,hx⟩
   wrNew:=fun b hb => .inl hb
   fresh:=hS.fresh
   low:=fun id hid => yh.2 (.inl hid) }
section
variable {E : Env} {C : yj}
theorem adoOp_wp (hE : E.Ok) (hC : zu E C) {f : AF} {S : ASt} {o : Oper} {r : AStep} (h : adoOp E C (fun _ _ _ => none) true f S o = some r)
  {σ : Sig} {w : World} {Wr : Nat→Prop} {a : Act} (hA : E.At σ) (hS : S.rel E.P σ w Wr) (hf : FRel σ f a) {K : Act→World→Prop} {Q : Exit→Act→World→Prop} (hk : StepK E σ S w Wr K Q f r) :
  o.wp E.P a w K Q:=by
 unfold adoOp at h
 unfold Oper.wp
 split at h
 all_goals first
  | (cases h; done)
  | skip
 case h_1 v S' hop =>
  obtain ⟨f',hp,rfl⟩:=yN h
  obtain ⟨σ',u,w',h1,h2,h3⟩:=aopG_ok hE hA hS hf.tmps hop
  rw [h1]
  exact hk σ' _ w' (AF.put_ok (hf.le (h3.le hS)) h2 hp) h3
 case h_2 S' hop =>
  obtain ⟨f',hp,rfl⟩:=yN h
  obtain ⟨σ',w',h1,h3⟩:=aopG_ok hE hA hS hf.tmps hop
  rw [h1]
  exact hk σ' _ w' (AF.put_ok (hf.le (h3.le hS)) (undef_inst σ') hp) h3
 case h_3 g args hop =>
  obtain ⟨us,h1,h2⟩:=aopG_ok hE hA hS hf.tmps hop
  rw [h1,Oper.upon_enter]
  split at h
  ·rename_i v S' hc
   obtain ⟨f',hp,rfl⟩:=yN h
   refine (hC g args S _ _ hc σ w Wr us hA hS h2).mono ?_
   rintro e w' ⟨σ',⟨u,hu,rfl⟩,h3⟩
   exact hk σ' _ w' (AF.put_ok (hf.le (h3.le hS)) hu hp) h3
  ·rename_i v S' hc
   cases h
   refine (hC g args S _ _ hc σ w Wr us hA hS h2).mono ?_
   rintro e w' ⟨σ',⟨u,hu,rfl⟩,h3⟩
   exact hk σ' _ w' u hu (hf.le (h3.le hS)) h3
  ·cases h
 case h_6 v hop =>
  cases h
  obtain ⟨u,h1,h2⟩:=aopG_ok hE hA hS hf.tmps hop
  rw [h1,Oper.upon_panic]
  exact hk σ a w u h2 hf (Post.refl hS)
theorem astep_wp (hE : E.Ok) (hC : zu E C) {ops : Array Oper} {f : AF} {S : ASt} {o : Oper} {r : AStep} (h : astep E C (fun _ _ _ => none) true ops f S o = some r)
  {σ : Sig} {w : World} {Wr : Nat→Prop} {a : Act} (hA : E.At σ) (hS : S.rel E.P σ w Wr) (hf : FRel σ f a) {K : Act→World→Prop} {Q : Exit→Act→World→Prop} (hk : StepK E σ S w Wr K Q f r)
  {i : Nat} (hi : ops[i]? = some o) : wpOp E.P ops Q i K a w:=by
 unfold wpOp
 rw [hi]
 unfold astep at h
 split at h
 ·rename_i hw
  simp only [awanted_ok hf.tmps hw,if_true]
  exact .inl (adoOp_wp hE hC h hA hS hf hk)
 ·rename_i hw
  simp only [awanted_ok hf.tmps hw,Bool.false_eq_true,if_false]
  obtain ⟨f',hp,rfl⟩:=yN h
  exact hk σ _ w (AF.put_ok hf (undef_inst σ) hp) (Post.refl hS)
 ·cases h
theorem pickReader_some {tk : Bool} {ops : Array Oper} {listed : Array Bool} : ∀ {l : List Nat} {i : Nat} {o : Oper},pickReader tk ops listed l = some (i,o)→i ∈ l∧ops[i]? = some o∧isReader o = true∧Region.free .any ops listed i = true
 | [],_,_,h => by cases h
 | j :: l,i,o,h => by
   simp only [pickReader] at h
   split at h
   ·rename_i oj hj
    split at h
    ·rename_i hc
     cases h
     simp only [Bool.and_eq_true] at hc
     exact ⟨List.mem_cons_self,hj,hc.1,hc.2.2⟩
    ·obtain ⟨h1,h2⟩:=pickReader_some h
     exact ⟨List.mem_cons_of_mem _ h1,h2⟩
   ·obtain ⟨h1,h2⟩:=pickReader_some h
    exact ⟨List.mem_cons_of_mem _ h1,h2⟩
theorem altsOf_eval {ops : Array Oper} {listed : Array Bool} {mk : Array Bool→Plan} {H0 : Trie ABlock} {N l0 : Nat→Bool} {rs : Bool} {n0 : Nat} {f : AF} {S : ASt} : ∀ {l : List Nat} {outs : List Out},yJ E C rs n0 ops H0 N l0 (altsOf ops listed mk l) f S = some outs →
  ∀ i ∈ l,∃ o,ops[i]? = some o∧((∃ f' S' r,altStep E C rs n0 ops f (zT S (match !(yE ops (listed.setIfInBounds i true)) with | true => N | false => l0)) i o = some (.go f' S') ∧
    yJ E C rs n0 ops H0 N l0 (mk (listed.setIfInBounds i true)) f' S' = some r∧∀ x ∈ r,x ∈ outs) ∨
    ∃ v S',altStep E C rs n0 ops f (zT S (match !(yE ops (listed.setIfInBounds i true)) with | true => N | false => l0)) i o = some (.stop v S')∧(.panic v,f.bare,zT S' l0) ∈ outs)
 | [],outs,h,i,hi => by cases hi
 | j :: l,outs,h,i,hi => by
   simp only [altsOf] at h
   split at h
   ·rename_i o ho
    simp only [yJ] at h
    split at h
    ·rename_i f' S' hs
     split at h
     ·rename_i r hr
      split at h
      ·rename_i r' hr'
       cases h
       cases hi with
       | head => exact ⟨o,ho,.inl ⟨f',S',r,hs,hr,fun x hx => List.mem_append_left _ hx⟩⟩
       | tail _ hm =>
         obtain ⟨o1,e1,e2⟩:=altsOf_eval hr' i hm
         refine ⟨o1,e1,e2.imp ?_ ?_⟩
         ·rintro ⟨f1,S1,r1,e2,e3,e4⟩
          exact ⟨f1,S1,r1,e2,e3,fun x hx => List.mem_append_right _ (e4 x hx)⟩
         ·rintro ⟨v1,S1,e2,e3⟩
          exact ⟨v1,S1,e2,List.mem_append_right _ e3⟩
      ·cases h
     ·cases h
    ·rename_i v S' hs
     split at h
     ·rename_i r' hr'
      cases h
      cases hi with
      | head => exact ⟨o,ho,.inr ⟨v,S',hs,List.mem_cons_self⟩⟩
      | tail _ hm =>
        obtain ⟨o1,e1,e2⟩:=altsOf_eval hr' i hm
        refine ⟨o1,e1,e2.imp ?_ ?_⟩
        ·rintro ⟨f1,S1,r1,e2,e3,e4⟩
         exact ⟨f1,S1,r1,e2,e3,fun x hx => List.mem_cons_of_mem _ (e4 x hx)⟩
        ·rintro ⟨v1,S1,e2,e3⟩
         exact ⟨v1,S1,e2,List.mem_cons_of_mem _ e3⟩
     ·cases h
    ·cases h
   ·simp only [yJ] at h
    cases h
theorem anyBehind_iff {ops : Array Oper} {listed : Array Bool} : yE ops listed = true↔∃ u,u < ops.size∧listed.getD u false = true∧behind ops u = true:=by
 simp [yE,List.any_eq_true]
theorem behind_reader {ops : Array Oper} {u : Nat} (h : behind ops u = true) : ∃ o,ops[u]? = some o∧isReader o = false:=by
 unfold behind at h
 split at h
 ·split at h
  ·rename_i o ho
   exact ⟨o,ho,by simpa using h⟩
  ·cases h
 ·cases h
def Way (E : Env) (σ₀ : Sig) (S₀ : ASt) (w₀ : World) (Wr : Nat→Prop) (W : List Nat) (held : Bool) (σ : Sig) (S : ASt) (w : World) : Prop:=
 match held with
 | true => Post E.P σ₀ (zT S₀ (yi S₀.next W)) w₀ (heldWr σ₀ w₀ W) σ (zT S (yi S₀.next W)) w
 | false => Post E.P σ₀ S₀ w₀ Wr σ (zT S S₀.limit) w
theorem Way.wide {σ₀ : Sig} {S₀ : ASt} {w₀ : World} {Wr : Nat→Prop} {W : List Nat} (hW : okW S₀ W = true) (hS : S₀.rel E.P σ₀ w₀ Wr) {held : Bool} {σ : Sig} {S : ASt} {w : World} (h : Way E σ₀ S₀ w₀ Wr W held σ S w) :
  Post E.P σ₀ S₀ w₀ Wr σ (zT S S₀.limit) w:=by
 cases held with
 | true =>
   have h' : Post E.P σ₀ (zT S₀ (yi S₀.next W)) w₀ (heldWr σ₀ w₀ W) σ (zT S (yi S₀.next W)) w:=h
   exact unlimit (S':=zT S (yi S₀.next W)) hS hW h'
 | false => exact h
theorem getD_unset {listed : Array Bool} {i j : Nat} (h : (listed.setIfInBounds i true).getD j false = false) : listed.getD j false = false:=by
 cases hh : listed.getD j false with
 | false => rfl
 | true => rw [getD_set_true hh] at h; cases h
theorem post_at {P : Program} {σ : Sig} {S : ASt} {w w' : World} {Wr : Nat→Prop} (hS : S.rel P σ w Wr) {r : Nat} (hr : r < S.next) (hσ : σ r = none) (hlm : S.limit r = true) (hm : r < zM) {κ : Nat} {blk : ABlock} {o : Obj}
  (hb : BRel P σ κ blk o) (he : w'.heap = w.heap.push o) (ho : w'.os = w.os∧w'.output = w.output) :
  ({ heap:=Trie.put (some blk) depth S.heap r,next:=S.next,limit:=S.limit } : ASt).rel P (σ.add r (w.heap.size,κ)) w' Wr∧Kept Wr w w'∧(∀ id,S.limit id = false→(Trie.put (some blk) depth S.heap r).get id = S.heap.get id)∧σ.le (σ.add r (w.heap.size,κ)):=by
 have hle : σ.le (σ.add r (w.heap.size,κ)):=⟨fun i x hx => by
  have hne : i≠r:=fun e => by subst e; rw [hσ] at hx; cases hx
  simp only [Sig.add]
  rw [if_neg hne]; exact hx,rfl⟩
 have hget : ∀ j,(Trie.put (some blk) depth S.heap r).get j = if j = r then some blk else S.heap.get j:=fun j => Trie.get_put _ _ _ _ (by simpa [zM] using hm)
 have hlt : ∀ id b x,S.heap.get id = some b→σ id = some x→x.1 < w.heap.size:=fun id b x h1 h2 => by
  obtain ⟨b',κ',o',e1,e2,_⟩:=hS.at_ id b h1
  rw [e1] at h2; cases h2
  exact (Array.getElem?_eq_some_iff.1 e2).1
 refine ⟨⟨?_,?_,?_,?_,?_,?_⟩,⟨by rw [he]; simp,fun b hb' => ?_,ho⟩,fun id hid => ?_,hle⟩
 ·intro id b h0
  have h : (Trie.put (some blk) depth S.heap r).get id = some b:=h0
  clear h0
  rw [hget] at h
  split at h
  ·rename_i hid; subst hid; cases h
   exact ⟨w.heap.size,κ,o,Sig.add_same _ _ _,by rw [he]; simp,hb.le hle⟩
  ·rename_i hid
   obtain ⟨b',κ',o',e1,e2,e3⟩:=hS.at_ id b h
   refine ⟨b',κ',o',hle.blk _ _ e1,?_,e3.le hle⟩
   have hlt':=(Array.getElem?_eq_some_iff.1 e2).1
   rw [Array.getElem?_eq_getElem hlt'] at e2
   rw [he,Array.getElem?_push_lt hlt']
   exact e2
 ·intro i j bi bj x y hi hj hx hy hxy
  have hi : (Trie.put (some blk) depth S.heap r).get i = some bi:=hi
  have hj : (Trie.put (some blk) depth S.heap r).get j = some bj:=hj
  rw [hget] at hi hj
  simp only [Sig.add] at hx hy
  split at hi <;> split at hj
  ·omega
  ·rename_i h1 h2
   rw [if_pos h1] at hx; rw [if_neg h2] at hy
   cases hx
   have:=hlt j bj y hj hy
   simp only at hxy; omega
  ·rename_i h1 h2
   rw [if_neg h1] at hx; rw [if_pos h2] at hy
   cases hy
   have:=hlt i bi x hi hx
   simp only at hxy; omega
  ·rename_i h1 h2
   rw [if_neg h1] at hx; rw [if_neg h2] at hy
   exact hS.inj i j bi bj x y hi hj hx hy hxy
 ·intro id b x h hl hx
  have h : (Trie.put (some blk) depth S.heap r).get id = some b:=h
  rw [hget] at h
  simp only [Sig.add] at hx
  split at h
  ·rename_i h1
   rw [if_pos h1] at hx; cases hx
   exact hS.wrNew _ (Nat.le_refl _)
  ·rename_i h1
   rw [if_neg h1] at hx
   exact hS.wr id b x h hl hx
 ·intro b hb'
  rw [he,Array.size_push] at hb'
  exact hS.wrNew b (by omega)
 ·intro id hid
  have h1 : S.next≤id:=hid
  have:=hS.fresh id h1
  show (σ.add r (w.heap.size,κ)) id = none∧(Trie.put (some blk) depth S.heap r).get id = none
  rw [hget,if_neg (by omega)]
  simp only [Sig.add]
  rw [if_neg (by omega)]
  exact this
 ·intro id hid
  exact hS.low id hid
 ·rw [he]
  have : b < w.heap.size:=by
   rcases Nat.lt_or_ge b w.heap.size with h | h
   ·exact h
   ·exact absurd (hS.wrNew b h) hb'
  rw [Array.getElem?_push_lt this,Array.getElem?_eq_getElem this]
 ·have hne : id≠r:=fun e => by subst e; rw [hlm] at hid; cases hid
  rw [hget,if_neg hne]
theorem altStep_wp (hE : E.Ok) (hC : zu E C) {rs : Bool} {n0 : Nat} {ops : Array Oper} {f : AF} {S : ASt} {o : Oper} {i : Nat} {f' : AF} {S' : ASt} (h : altStep E C rs n0 ops f S i o = some (.go f' S'))
  {σ : Sig} {w : World} {Wr : Nat→Prop} {a : Act} (hA : E.At σ) (hS : S.rel E.P σ w Wr) (hf : FRel σ f a) {K : Act→World→Prop} {Q : Exit→Act→World→Prop}
  (hk : ∀ σ' a' w',FRel σ' f' a'→(∀ σb Sb wb,Post E.P σb Sb wb Wr σ S w→Sb.next≤n0 + i→Post E.P σb Sb wb Wr σ' S' w')→S.next≤S'.next→(∀ id,id < S.next→id≠n0 + i→σ' id = σ id)→K a' w')
  (hi : ops[i]? = some o) (hrsv : rs = true→n0 + i < S.next∧σ (n0 + i) = none) : wpOp E.P ops Q i K a w:=by
 unfold altStep at h
 split at h
 ·rename_i t hsp
  split at h
  ·rename_i v S₁ ha
   obtain ⟨f₁,hp,he⟩:=yN h
   cases he
   unfold spareOf at hsp
   split at hsp
   ·split at hsp
    ·rename_i t' hop
     split at hsp
     ·rename_i hgd
      cases hsp
      obtain ⟨_,hσ⟩:=hrsv rfl
      unfold aallocAt at ha
      split at ha
      ·rename_i z hz
       split at ha
       ·cases ha
       ·rename_i htp
        split at ha
        ·rename_i hc
         cases ha
         obtain ⟨c1,hc⟩:=zb hc
         obtain ⟨c2,c3⟩:=zb hc
         obtain ⟨zv,inf,_,_,hzi,hrz⟩:=run_zero (σ:=σ) hE hz
         have hcl:=AV.cells_inst hzi (AV.not_tuple htp)
         let w₁ : World:={ w with heap:=w.heap.push (.cells zv.cells.toList.toArray t (0,0)) }
         obtain ⟨p1,p2,p3,p4⟩:=post_at (o:=.cells zv.cells.toList.toArray t (0,0)) (κ:=0) (blk:=.cells z.cells t) (w':=w₁) hS (zo c1) hσ c3 (zo c2) ⟨zv.cells.toList,[],(0,0),hcl,by simp,by simp,.inl (Nat.le_refl _),.inl rfl⟩ rfl ⟨rfl,rfl⟩
         have hrun : (execOp a.eval o).run E.P w = .ok (.value (.pointer (some ⟨w.heap.size,0,none⟩))) w₁:=by
          simp only [execOp,hop]
          simp [Instr.alloc,hrz,newVar,newRow,w₁]
         unfold wpOp
         rw [hi]
         simp only [awanted_ok (ops:=ops) hf.tmps (show awanted ops f.T o = some true by simp [awanted,hgd]),if_true]
         refine .inl ?_
         unfold Oper.wp
         rw [hrun]
         refine hk _ _ w₁ (AF.put_ok (hf.le p4) (ptr_inst (Sig.add_same σ (n0 + i) (w.heap.size,0))) hp) ?_ (Nat.le_refl _) ?_
         ·intro σb Sb wb hb hle
          exact ⟨p1,⟨fun id hid => by
           show (σ.add (n0 + i) (w.heap.size,0)) id = σb id
           simp only [Sig.add]
           rw [if_neg (by omega)]
           exact hb.upto id hid,hb.upto.rho⟩,hb.next,hb.limit,hb.kept.trans p2,fun id hid => (p3 id (by rw [hb.limit]; exact hid)).trans (hb.frame id hid)⟩
         ·intro id _ hne
          simp only [Sig.add]
          rw [if_neg hne]
        ·cases ha
      ·cases ha
     ·cases hsp
    ·split at hsp
     ·split at hsp
      ·cases hsp
      ·cases hsp
     ·cases hsp
    ·cases hsp
   ·cases hsp
  ·cases h
 ·rename_i hsp
  split at h
  ·rename_i v S₁ ha
   obtain ⟨f₁,hp,he⟩:=yN h
   cases he
   unfold spareOf at hsp
   split at hsp
   ·split at hsp
    ·split at hsp
     ·cases hsp
     ·cases hsp
    ·rename_i t' r' hop
     split at hsp
     ·split at hsp
      ·rename_i hgd
       obtain ⟨_,hσ⟩:=hrsv rfl
       unfold amapAt at ha
       split at ha
       ·rename_i hc
        cases ha
        obtain ⟨c1,hc⟩:=zb hc
        obtain ⟨c2,c3⟩:=zb hc
        obtain ⟨p1,p2,p3,p4⟩:=post_at (o:=.map #[] 0) (κ:=0) (blk:=.map [] 0) (w':=w.alloc (.map #[] 0)) hS (zo c1) hσ c3 (zo c2) ⟨[],rfl,rfl⟩ rfl ⟨rfl,rfl⟩
        have hrun : (execOp a.eval o).run E.P w = .ok (.value (.map (some w.heap.size))) (w.alloc (.map #[] 0)):=by
         simp [execOp,hop,Instr.makeMap]
        unfold wpOp
        rw [hi]
        simp only [awanted_ok (ops:=ops) hf.tmps (show awanted ops f.T o = some true by simp [awanted,hgd]),if_true]
        refine .inl ?_
        unfold Oper.wp
        rw [hrun]
        refine hk _ _ (w.alloc (.map #[] 0)) (AF.put_ok (hf.le p4) (show (AV.map (n0 + i)).inst (σ.add (n0 + i) (w.heap.size,0)) = some (.map (some w.heap.size)) by simp [AV.inst,Sig.add_same]) hp) ?_ (Nat.le_refl _) ?_
        ·intro σb Sb wb hb hle
         exact ⟨p1,⟨fun id hid => by
          show (σ.add (n0 + i) (w.heap.size,0)) id = σb id
          simp only [Sig.add]
          rw [if_neg (by omega)]
          exact hb.upto id hid,hb.upto.rho⟩,hb.next,hb.limit,hb.kept.trans p2,fun id hid => (p3 id (by rw [hb.limit]; exact hid)).trans (hb.frame id hid)⟩
        ·intro id _ hne
         simp only [Sig.add]
         rw [if_neg hne]
       ·cases ha
      ·cases hsp
     ·cases hsp
    ·cases hsp
   ·cases hsp
  ·cases h
 ·refine astep_wp hE hC h hA hS hf ?_ hi
  intro σ' a' w' hf' hp
  exact hk σ' a' w' hf' (fun σb Sb wb hb _ => hb.trans hp) hp.next fun id hid _ => hp.upto id hid
theorem altStep_stop (hE : E.Ok) (hC : zu E C) {rs : Bool} {n0 : Nat} {ops : Array Oper} {f : AF} {S : ASt} {o : Oper} {i : Nat} {v : AV} {S' : ASt} (h : altStep E C rs n0 ops f S i o = some (.stop v S'))
  {σ : Sig} {w : World} {Wr : Nat→Prop} {a : Act} (hA : E.At σ) (hS : S.rel E.P σ w Wr) (hf : FRel σ f a) {K : Act→World→Prop} {Q : Exit→Act→World→Prop}
  (hk : ∀ σ' a' w' u,v.inst σ' = some u→FRel σ' f a'→Post E.P σ S w Wr σ' S' w'→Q (.panic [{ v:=u,recovered:=false }]) a' w') (hi : ops[i]? = some o) : wpOp E.P ops Q i K a w:=by
 unfold altStep at h
 split at h
 ·split at h
  ·obtain ⟨f₁,_,he⟩:=yN h
   cases he
  ·cases h
 ·split at h
  ·obtain ⟨f₁,_,he⟩:=yN h
   cases he
  ·cases h
 ·refine astep_wp hE hC h hA hS hf ?_ hi
  intro σ' a' w' u hu hf' hp
  exact hk σ' a' w' u hu hf' hp
def PlanQ (P : Program) (σ₀ : Sig) (S₀ : ASt) (w₀ : World) (Wr : Nat→Prop) (f₀ : AF) (outs : List Out) (e : Exit) (a : Act) (w : World) : Prop:=
 ∃ o ∈ outs,match o.1 with
   | .normal => e = .normal∧∃ σ,FRel σ o.2.1 a∧Post P σ₀ S₀ w₀ Wr σ o.2.2 w
   | .panic v => ∃ σ u,e = .panic [{ v:=u,recovered:=false }]∧v.inst σ = some u∧(∃ f,o.2.1 = AF.bare f)∧FRel σ o.2.1 a∧Post P σ₀ S₀ w₀ Wr σ o.2.2 w
   | _ => False
theorem evalPlan_ok (hE : E.Ok) (hC : zu E C) {tk : Bool} {ops : Array Oper} (hsel : Region.noSelect ops = true) {rs : Bool} {σ₀ : Sig} {S₀ : ASt} {w₀ : World} {Wr : Nat→Prop} (hA : E.At σ₀) (hS : S₀.rel E.P σ₀ w₀ Wr) {W : List Nat} (hW : okW S₀ W = true)
  {f₀ : AF} {outs : List Out} {Q : Exit→Act→World→Prop} (hQ : ∀ e a w,Q e a w↔PlanQ E.P σ₀ S₀ w₀ Wr f₀ outs e a w) :
  ∀ (n : Nat) (listed : Array Bool) (f : AF) (S : ASt) (r : List Out),yJ E C rs S₀.next ops (without S₀.heap W) (yi S₀.next W) S₀.limit (mkPlan tk ops n listed) f S = some r→(∀ x ∈ r,x ∈ outs)→Closed ops listed →
    ∀ σ a w,FRel σ f a→Way E σ₀ S₀ w₀ Wr W (!(yE ops listed)) σ S w→(rs = true→S₀.next + ops.size≤S.next∧∀ i,i < ops.size→listed.getD i false = false→σ (S₀.next + i) = none) →
      wpAnyL E.P ops Q (fun L wy => yE ops L = false→Kept (heldWr σ₀ w₀ W) w₀ wy) n listed a w:=by
 have hdone : ∀ (listed : Array Bool) (f : AF) (S : ASt) (r : List Out),yJ E C rs S₀.next ops (without S₀.heap W) (yi S₀.next W) S₀.limit .done f S = some r→(∀ x ∈ r,x ∈ outs) →
   ∀ σ a w,FRel σ f a→Way E σ₀ S₀ w₀ Wr W (!(yE ops listed)) σ S w→Q .normal a w:=by
  intro listed f S r h hr σ a w hf hw
  simp only [yJ,Option.some.injEq] at h
  subst h
  exact (hQ _ _ _).2 ⟨_,hr _ (List.mem_singleton.2 rfl),rfl,σ,hf,hw.wide hW hS⟩
 intro n
 induction n with
 | zero =>
   intro listed f S r h hr hc σ a w hf hw hres
   simp only [mkPlan] at h
   split at h
   ·rename_i hrd
    exact ⟨hrd,hdone listed f S r h hr σ a w hf hw⟩
   ·simp only [yJ] at h
    cases h
 | succ n ih =>
   intro listed f S r h hr hc σ a w hf hw hres
   simp only [mkPlan] at h
   split at h
   ·rename_i hrd
    exact ⟨fun _ => hdone listed f S r h hr σ a w hf hw,by rw [hrd]; simp⟩
   ·rename_i i₀ l₀ hrd
    split at h
    ·-- a reading is taken first
     rename_i j o hpick
     obtain ⟨hjm,hjo,hrdr,hfree⟩:=pickReader_some hpick
     rw [← hrd] at hjm
     have hnb : ∀ L : Array Bool,yE ops (L.setIfInBounds j true) = yE ops L:=fun L => by
      rw [Bool.eq_iff_iff,anyBehind_iff,anyBehind_iff]
      constructor
      ·rintro ⟨u,h1,h2,h3⟩
       rcases getD_set_cases h2 with rfl | h2
       ·obtain ⟨o',ho',hr'⟩:=behind_reader h3
        rw [hjo] at ho'; cases ho'
        rw [hrdr] at hr'; cases hr'
       ·exact ⟨u,h1,h2,h3⟩
      ·rintro ⟨u,h1,h2,h3⟩
       exact ⟨u,h1,getD_set_true h2,h3⟩
     have hww:=hw.wide hW hS
     have hAσ : E.At σ:=hA.le (hww.le hS)
     -- what it yields
     have key : ∀ v f',yJ E C rs S₀.next ops (without S₀.heap W) (yi S₀.next W) S₀.limit (mkPlan tk ops n (listed.setIfInBounds j true)) f' S = some r→∀ u,v.inst σ = some u→f.put o.dst v = some f' →
       YieldsIf E.P ops (match isMem o with | true => Kept (heldWr σ₀ w₀ W) w₀ | false => fun _ => True) o u a →
       wpAnyL E.P ops Q (fun L wy => yE ops L = false→Kept (heldWr σ₀ w₀ W) w₀ wy) (n + 1) listed a w:=by
      intro v f' hev u hu hput hy
      have hnext:=ih (listed.setIfInBounds j true) f' S r hev hr (hc.set hjm) σ (a.put o.dst u) w (AF.put_ok hf hu hput) (by rw [hnb]; exact hw) (fun hrs => ⟨(hres hrs).1,fun i hi hl => (hres hrs).2 i hi (getD_unset hl)⟩)
      refine wpAnyL_first hjo (Region.noSelect_spec hsel) (fun c a w hq => by
       obtain ⟨x,hx,hq⟩:=(hQ _ _ _).1 hq
       refine (hQ _ _ _).2 ⟨x,hx,?_⟩
       split at hq
       ·cases hq.1
       ·obtain ⟨σ',u',h1,h2,⟨fb,h3⟩,h4,h5⟩:=hq
        rw [h3] at h4
        exact ⟨σ',u',h1,h2,⟨fb,h3⟩,h3 ▸ AF.bare_put h4,h5⟩
       ·exact hq) ?_ (fun L wy => by simp only [hnb]) n listed a w hc (Region.free_spec hjo hfree) hjm hy ?_ hnext
      ·intro L wy hcl hun hss
       cases hm : isMem o with
       | false => simp only
       | true =>
         simp only
         refine hss ?_
         cases hb : yE ops L with
         | false => rfl
         | true =>
           obtain ⟨u',h1,h2,h3⟩:=anyBehind_iff.1 hb
           have:=behind_ok h3 hcl h2 hjo (by simp [hrdr,hm])
           rw [hun] at this; cases this
      ·intro hb
       rw [hb] at hw
       exact hw.kept
     simp only [yJ] at h
     split at h
     ·rename_i hwt
      split at h
      ·rename_i v hv
       split at h
       ·rename_i f' hput
        -- the value,in every world that is fit
        have hval : ∀ wy,(match isMem o with | true => Kept (heldWr σ₀ w₀ W) w₀ wy | false => True)→∃ u,(execOp a.eval o).run E.P wy = .ok (.value u) wy∧v.inst σ = some u:=by
         intro wy hwy
         have hfr : ∀ id,S.next≤id→σ id = none:=fun id hid => (hww.rel.fresh id hid).1
         cases hm : isMem o with
         | false =>
           rw [hm] at hv
           have hrel : HRel E.P σ (Trie.leaf : Trie ABlock).get S.next (yi S.next []) wy (fun _ => True):=
            { at_:=fun id blk h => by simp [Trie.get_leaf] at h
              inj:=fun i j bi bj x y h => by simp [Trie.get_leaf] at h
              wr:=fun _ _ _ h => by simp [Trie.get_leaf] at h
              wrNew:=fun _ _ => trivial
              fresh:=fun id hid => ⟨hfr id hid,rfl⟩
              low:=fun id hid => yh.2 (.inl hid) }
           exact areadG_ok (S:={ heap:=.leaf,next:=S.next,limit:=yi S.next [] }) hE hAσ hrel hf.tmps hv
         | true =>
           rw [hm] at hv hwy
           have hrel:=rel_old (σ:=σ) hS hW hwy hww.upto hww.next hfr (l:=yi S.next []) (fun id hid => yh.2 (.inl hid)) (fun id hid => by
            cases hc : yi S.next [] id with
            | false => rfl
            | true =>
              have hnx₀ : S₀.next≤S.next:=hww.next
              rcases yh.1 hc with e | e
              ·omega
              ·cases e)
           exact areadG_ok (S:={ heap:=without S₀.heap W,next:=S.next,limit:=yi S.next [] }) hE hAσ hrel hf.tmps hv
        -- the value at all
        have hww0 : match isMem o with | true => Kept (heldWr σ₀ w₀ W) w₀ w₀ | false => True:=by
         cases isMem o with
         | true => exact Kept.refl _ _
         | false => trivial
        obtain ⟨u,_,hu⟩:=hval w₀ hww0
        refine key v f' h u hu hput (.inl ⟨awanted_ok hf.tmps hwt,fun wy hwy => ?_⟩)
        have hwy' : match isMem o with | true => Kept (heldWr σ₀ w₀ W) w₀ wy | false => True:=by
         cases hm : isMem o with
         | true => rw [hm] at hwy; exact hwy
         | false => trivial
        obtain ⟨u',h1,h2⟩:=hval wy hwy'
        rw [hu] at h2; cases h2
        exact h1
       ·cases h
      ·cases h
     ·rename_i hwt
      split at h
      ·rename_i f' hput
       exact key aundef f' h undef (undef_inst σ) hput (.inr ⟨awanted_ok hf.tmps hwt,rfl⟩)
      ·cases h
     ·cases h
    ·-- what acts,in whatever order
     refine ⟨fun h0 => (by rw [hrd] at h0; cases h0),fun i hi => ?_⟩
     rw [hrd] at hi
     obtain ⟨o,ho,hgs⟩:=altsOf_eval h i hi
     have him : i ∈ Region.ready .any ops listed:=by rw [hrd]; exact hi
     have hil : i < ops.size:=by
      rcases Nat.lt_or_ge i ops.size with h1 | h1
      ·exact h1
      ·rw [Array.getElem?_eq_none h1] at ho; cases ho
     have hun : listed.getD i false = false:=by
      have hun:=(mem_ready.1 him).1
      rcases Nat.lt_or_ge i listed.size with h' | h'
      ·simp [h'] at hun ⊢; exact hun
      ·simp [Array.getElem?_eq_none h']
     have hrsv : rs = true→S₀.next + i < S.next∧σ (S₀.next + i) = none:=fun hrs => ⟨by have:=(hres hrs).1; omega,(hres hrs).2 i hil hun⟩
     have hres' : ∀ (σ' : Sig) (S' : ASt),S.next≤S'.next→(∀ id,id < S.next→id≠S₀.next + i→σ' id = σ id)→(rs = true→S₀.next + ops.size≤S'.next∧∀ j,j < ops.size→(listed.setIfInBounds i true).getD j false = false→σ' (S₀.next + j) = none):=fun σ' S' h1 h2 hrs => by
      obtain ⟨g1,g2⟩:=hres hrs
      refine ⟨by omega,fun j hj hl => ?_⟩
      have hji : j≠i:=fun e => by
       subst e
       have hsz : j < listed.size:=by
        rcases Nat.lt_or_ge j listed.size with h' | h'
        ·exact h'
        ·have:=(mem_ready.1 him).1
         simp [Array.getElem?_eq_none h'] at this
       simp [Array.getD_eq_getD_getElem?,Array.getElem?_setIfInBounds_self,hsz] at hl
      rw [h2 _ (by omega) (by omega)]
      exact g2 j hj (getD_unset hl)
     -- once something behind has come up,it stays so
     have hmono : yE ops (listed.setIfInBounds i true) = false→yE ops listed = false:=fun hb => by
      cases hbl : yE ops listed with
      | false => rfl
      | true =>
        obtain ⟨u,h1,h2,h3⟩:=anyBehind_iff.1 hbl
        have:=anyBehind_iff.2 ⟨u,h1,getD_set_true (i:=i) h2,h3⟩
        rw [hb] at this; cases this
     rcases hgs with ⟨f',S',r',hs,hev,hsub⟩ | ⟨v,S',hs,hmem⟩
     case inr =>
      have fin : ∀ (σ' : Sig) (a' : Act) (w' : World) (u : Value),v.inst σ' = some u→FRel σ' f a'→Post E.P σ₀ S₀ w₀ Wr σ' (zT S' S₀.limit) w'→Q (.panic [{ v:=u,recovered:=false }]) a' w':=fun σ' a' w' u hu hf' hp =>
       (hQ _ _ _).2 ⟨_,hr _ hmem,σ',u,rfl,hu,⟨f,rfl⟩,AF.bare_ok hf',hp⟩
      cases hb : yE ops (listed.setIfInBounds i true) with
      | false =>
        rw [hb] at hs
        rw [hmono hb] at hw
        have hw1 : Post E.P σ₀ (zT S₀ (yi S₀.next W)) w₀ (heldWr σ₀ w₀ W) σ (zT S (yi S₀.next W)) w:=hw
        have hAσ : E.At σ:=hA.le (hw1.le (limited hS W hW))
        refine altStep_stop hE hC hs hAσ hw1.rel hf ?_ ho
        intro σ' a' w' u hu hf' hp
        have hp' : Post E.P σ₀ (zT S₀ (yi S₀.next W)) w₀ (heldWr σ₀ w₀ W) σ' S' w':=hw1.trans hp
        exact fin σ' a' w' u hu hf' (unlimit hS hW hp')
      | true =>
        rw [hb] at hs
        have hw1:=hw.wide hW hS
        have hAσ : E.At σ:=hA.le (hw1.le hS)
        refine altStep_stop hE hC hs hAσ hw1.rel hf ?_ ho
        intro σ' a' w' u hu hf' hp
        have hp' : Post E.P σ₀ S₀ w₀ Wr σ' S' w':=hw1.trans hp
        have hlim : zT S' S₀.limit = S':=by
         have : S'.limit = S₀.limit:=hp'.limit
         cases S'
         simp only [zT] at this ⊢
         subst this
         rfl
        exact fin σ' a' w' u hu hf' (by rw [hlim]; exact hp')
     cases hb : yE ops (listed.setIfInBounds i true) with
     | false =>
       rw [hb] at hs
       rw [hmono hb] at hw
       have hw1 : Post E.P σ₀ (zT S₀ (yi S₀.next W)) w₀ (heldWr σ₀ w₀ W) σ (zT S (yi S₀.next W)) w:=hw
       have hAσ : E.At σ:=hA.le (hw1.le (limited hS W hW))
       refine altStep_wp hE hC hs hAσ hw1.rel hf ?_ ho hrsv
       intro σ' a' w' hf' hp hnx hsm
       have hp' : Post E.P σ₀ (zT S₀ (yi S₀.next W)) w₀ (heldWr σ₀ w₀ W) σ' S' w':=hp σ₀ (zT S₀ (yi S₀.next W)) w₀ hw1 (Nat.le_add_right _ _)
       have hlim : zT S' (yi S₀.next W) = S':=by
        have : S'.limit = yi S₀.next W:=hp'.limit
        cases S'
        simp only [zT] at this ⊢
        subst this
        rfl
       refine ⟨fun _ => hp'.kept,ih _ f' S' r' hev (fun x hx => hr x (hsub x hx)) (hc.set him) σ' a' w' hf' ?_ (hres' σ' S' hnx hsm)⟩
       rw [hb]
       show Post E.P σ₀ (zT S₀ (yi S₀.next W)) w₀ (heldWr σ₀ w₀ W) σ' (zT S' (yi S₀.next W)) w'
       rw [hlim]
       exact hp'
     | true =>
       rw [hb] at hs
       have hw1:=hw.wide hW hS
       have hAσ : E.At σ:=hA.le (hw1.le hS)
       refine altStep_wp hE hC hs hAσ hw1.rel hf ?_ ho hrsv
       intro σ' a' w' hf' hp hnx hsm
       have hp' : Post E.P σ₀ S₀ w₀ Wr σ' S' w':=hp σ₀ S₀ w₀ hw1 (Nat.le_add_right _ _)
       have hlim : zT S' S₀.limit = S':=by
        have : S'.limit = S₀.limit:=hp'.limit
        cases S'
        simp only [zT] at this ⊢
        subst this
        rfl
       refine ⟨fun hbb => (by rw [hb] at hbb; cases hbb),ih _ f' S' r' hev (fun x hx => hr x (hsub x hx)) (hc.set him) σ' a' w' hf' ?_ (hres' σ' S' hnx hsm)⟩
       rw [hb]
       show Post E.P σ₀ S₀ w₀ Wr σ' (zT S' S₀.limit) w'
       rw [hlim]
       exact hp'
theorem rows_wide {P : Program} {l n : Nat} {row : String} {args : Array Value} {w : World} {R : Value→World→Prop} (h : Rows P row args w R) : RowsIn (Fence.wide.inRound l) n P row args w R:=by
 intro c cs _
 obtain ⟨v,w',hr,hs⟩:=h c cs
 exact ⟨v,w',hr,stepsIn_wide.2 hs⟩
theorem upon_in {P : Program} {Q : Exit→Act→World→Prop} {l n : Nat} {o : Oper} {a : Act} {K : Act→World→Prop} {r : Result Next} (h : o.upon P a K Q r) : o.uponIn (Fence.wide.inRound l) n P a K Q r:=by
 cases r with
 | ok x w' =>
   cases x with
   | value v => exact h
   | skip => exact h
   | defer d => exact h
   | enter f args => exact ⟨fun hd => by simp [Fence.wide] at hd,fence_calls (ro:=some l) h⟩
   | row row args => exact ⟨fun hd => by simp [Fence.wide] at hd,rows_wide h⟩
   | _ => exact h.elim
 | halt hh w' => cases hh <;> first | exact h | exact h.elim
theorem any_in {P : Program} {ops : Array Oper} {Q : Exit→Act→World→Prop} {l n : Nat} (hQ : ¬ LetsOut Q) (hnd : ∀ (i : Nat) (o : Oper),ops[i]? = some o→∀ c : Call,o.op≠Op.defer c) : ∀ (fuel : Nat) (listed : Array Bool) (a : Act) (w : World),
  wpAny P .any ops Q fuel listed a w→wpAnyIn (Fence.wide.inRound l) n P .any ops Q fuel listed a w
 | 0,_,_,_,h => h
 | fuel + 1,listed,a,w,h => by
   refine ⟨h.1,fun i hi => ?_⟩
   have hi':=h.2 i hi
   have hK : ∀ a w,wpAny P .any ops Q fuel (listed.setIfInBounds i true) a w→wpAnyIn (Fence.wide.inRound l) n P .any ops Q fuel (listed.setIfInBounds i true) a w:=fun a w h => any_in hQ hnd fuel _ a w h
   unfold wpOp at hi'
   unfold wpOpIn
   cases ho : ops[i]? with
   | none => rw [ho] at hi'; exact hK _ _ hi'
   | some o =>
     rw [ho] at hi'
     simp only at hi' ⊢
     split
     ·rename_i hw
      simp only [hw,if_true] at hi'
      rcases hi' with h1 | h2
      ·refine Oper.wpIn_mono (fun a w => hK a w) ?_
       refine ⟨fun _ _ => trivial,?_⟩
       rw [Fence.inRound_round,Oper.semAt_eq _ _ _ (hnd i o ho)]
       exact upon_in h1
      ·exact absurd h2.2 hQ
     ·rename_i hw
      simp only [hw] at hi'
      exact ⟨fun _ _ => trivial,hK _ _ hi'⟩
theorem evalPlan_limit {rs : Bool} {n0 : Nat} {C : yj} {ops : Array Oper} {H0 : Trie ABlock} {l1 l0 : Nat→Bool} : ∀ (p : Plan) (f : AF) (S : ASt) (r : List Out),yJ E C rs n0 ops H0 l1 l0 p f S = some r→∀ o ∈ r,o.2.2.limit = l0
 | .done,f,S,r,h,o,ho => by
   simp only [yJ,Option.some.injEq] at h
   subst h
   rw [List.mem_singleton] at ho
   subst ho
   rfl
 | .fail,f,S,r,h,o,ho => by cases h
 | .stop,f,S,r,h,o,ho => by
   simp only [yJ,Option.some.injEq] at h
   subst h
   cases ho
 | .take x p,f,S,r,h,o,ho => by
   simp only [yJ] at h
   split at h
   ·split at h
    ·split at h
     ·exact evalPlan_limit p _ _ _ h o ho
     ·cases h
    ·cases h
   ·split at h
    ·exact evalPlan_limit p _ _ _ h o ho
    ·cases h
   ·cases h
 | .alt i x held p rest,f,S,r,h,o,ho => by
   simp only [yJ] at h
   split at h
   ·split at h
    ·rename_i r1 h1
     split at h
     ·rename_i r2 h2
      cases h
      rcases List.mem_append.1 ho with hm | hm
      ·exact evalPlan_limit p _ _ _ h1 o hm
      ·exact evalPlan_limit rest _ _ _ h2 o hm
     ·cases h
    ·cases h
   ·split at h
    ·rename_i r2 h2
     cases h
     rcases List.mem_cons.1 ho with rfl | hm
     ·rfl
     ·exact evalPlan_limit rest _ _ _ h2 o hm
    ·cases h
   ·cases h
theorem bumped {P : Program} {σ : Sig} {S : ASt} {w : World} {Wr : Nat→Prop} {rs : Bool} {k : Nat} {l : Nat→Bool} (hS : (zT S l).rel P σ w Wr) : Post P σ (zT S l) w Wr σ (zT (bump rs k S) l) w:=by
 cases rs with
 | false => exact Post.refl hS
 | true =>
   refine ⟨⟨hS.at_,hS.inj,hS.wr,hS.wrNew,fun id hid => hS.fresh id ?_,fun id hid => hS.low id ?_⟩,Sig.upto_refl _ _,Nat.le_add_right _ _,rfl,Kept.refl _ _,fun _ _ => rfl⟩
   ·exact Nat.le_trans (Nat.le_add_right _ _) hid
   ·exact Nat.le_trans (Nat.le_add_right _ _) hid
theorem sameX1_ok {a b : AX} (h : sameX1 a b = true) : a = b:=by
 unfold sameX1 at h
 split at h
 ·rfl
 ·rw [sameAV_ok h]
 ·cases h
theorem hasO_ok {o : Out} {l0 : Nat→Bool} (ho : o.2.2.limit = l0) : ∀ {l : List Out},(∀ x ∈ l,x.2.2.limit = l0)→hasO o l = true→o ∈ l
 | [],_,h => by cases h
 | o' :: l,hl,h => by
   simp only [hasO] at h
   split at h
   ·rename_i he
    obtain ⟨h1,h2⟩:=zb he
    have e1:=sameX1_ok h1
    have e2:=sameOut_ok h2 (ho.trans (hl o' List.mem_cons_self).symm)
    obtain ⟨x,y⟩:=o
    obtain ⟨x',y'⟩:=o'
    simp only at e1 e2
    rw [e1,e2]
    exact List.mem_cons_self
   ·exact List.mem_cons_of_mem _ (hasO_ok ho (fun x hx => hl x (List.mem_cons_of_mem _ hx)) h)
theorem onceO_ok {l0 : Nat→Bool} : ∀ {l : List Out},(∀ x ∈ l,x.2.2.limit = l0)→∀ o ∈ l,o ∈ onceO l
 | [],_,o,ho => by cases ho
 | [p],_,o,ho => by simpa [onceO] using ho
 | p :: q :: l,hl,o,ho => by
   simp only [onceO]
   have hl' : ∀ x ∈ q :: l,x.2.2.limit = l0:=fun x hx => hl x (List.mem_cons_of_mem _ hx)
   split
   ·rename_i hh
    cases ho with
    | head => exact onceO_ok hl' _ (hasO_ok (hl _ List.mem_cons_self) hl' hh)
    | tail _ hm => exact onceO_ok hl' _ hm
   ·cases ho with
    | head => exact List.mem_cons_self
    | tail _ hm => exact List.mem_cons_of_mem _ (onceO_ok hl' _ hm)
theorem adrawM_ok (hE : E.Ok) (hC : zu E C) (ro : Option Nat) (id : Nat) (ops : Array Oper) : CodeOk E ro (.region id ops true) (adrawM E C ops):=by
 intro f S outs h σ w Wr a n hA hS hf
 obtain ⟨tk,W,h⟩ : ∃ tk W,adrawW E C tk ops f S W = some outs:=by
  unfold adrawM at h
  split at h
  ·exact ⟨_,_,h⟩
  ·split at h
   ·rename_i hd
    cases h
    exact ⟨_,_,hd⟩
   ·split at h
    ·exact ⟨_,_,h⟩
    ·cases h
 unfold adrawW at h
 split at h
 ·rename_i hc
  simp only [Bool.and_eq_true] at hc
  split at h
  ·rename_i outs₁ hev
   cases h
   have hdrew : Post E.P σ S w Wr σ S w.drew:=Post.drew hS rfl ⟨rfl,rfl⟩
   let Q : Exit→Act→World→Prop:=PlanQ E.P σ S w.drew Wr f outs₁
   have hplan:=evalPlan_ok hE hC hc.1 hA hdrew.rel hc.2.2 (f₀:=f) (outs:=outs₁) (Q:=Q) (fun _ _ _ => Iff.rfl) ops.size (Array.replicate ops.size false) f _ outs₁ hev (fun x hx => hx) (Closed.start ops _) σ a w.drew hf (by
    have hb : yE ops (Array.replicate ops.size false) = false:=by
     cases hbb : yE ops (Array.replicate ops.size false) with
     | false => rfl
     | true =>
       obtain ⟨u,_,h2,_⟩:=anyBehind_iff.1 hbb
       rw [getD_rep] at h2
       cases h2
    rw [hb]
    exact bumped (limited hdrew.rel W hc.2.2)) (fun hrs => by
     rw [hrs]
     refine ⟨Nat.le_refl _,fun i hi _ => ?_⟩
     exact (hS.fresh _ (Nat.le_add_right _ _)).1)
   have hany:=wpAny_of_L _ _ _ _ hplan
   have hfin : ∀ e a' w',Q e a' w'→CodeQs E σ S w Wr (onceO outs₁) e a' w':=by
    rintro e a' w' ⟨o,ho,hq⟩
    have hmem:=onceO_ok (evalPlan_limit _ _ _ _ hev) o ho
    obtain ⟨x,f₁,S₁⟩:=o
    simp only at hq
    split at hq
    ·obtain ⟨rfl,σ',h1,h2⟩:=hq
     exact ⟨_,hmem,σ',rfl,h1,hdrew.trans h2⟩
    ·obtain ⟨σ',u,rfl,hu,_,h1,h2⟩:=hq
     exact ⟨_,hmem,σ',⟨u,hu,rfl⟩,h1,hdrew.trans h2⟩
    ·exact hq.elim
   refine wpIn_mono ?_ hfin
   have hnl : ¬ LetsOut Q:=by
    rintro ⟨a,w,o,hm,hq⟩
    split at hq
    ·cases hq.1
    ·obtain ⟨σ',u,h1,_⟩:=hq; cases h1
    ·exact hq
   have hnd : ∀ (i : Nat) (o : Oper),ops[i]? = some o→∀ c : Call,o.op≠Op.defer c:=fun i o ho c e => by
    have h2:=hc.2.1
    rw [List.all_eq_true] at h2
    have:=h2 o (List.mem_of_getElem? (by simpa using ho))
    simp [e] at this
   cases ro with
   | none => exact wpIn_wide.2 (wp_region_any hE.mixed hany)
   | some b => exact wpIn_region_any hE.mixed (any_in hnl hnd _ _ _ _ hany)
  ·cases h
 ·cases h
theorem achain_ok (hE : E.Ok) (hC : zu E C) {ops : Array Oper} {Q : Exit→Act→World→Prop} : ∀ (n : Nat) (listed : Array Bool) (f : AF) (S : ASt) {outs : List Out},achain E C ops n listed f S = some outs →
  ∀ {σ : Sig} {w : World} {Wr : Nat→Prop} {a : Act},E.At σ→S.rel E.P σ w Wr→FRel σ f a→(∀ o ∈ outs,∀ e a' w',o.2.2.limit = S.limit→CodeQ E σ S w Wr o.1 o.2.1 o.2.2 e a' w'→Q e a' w')→wpAny E.P .any ops Q n listed a w
 | 0,listed,f,S,outs,h,σ,w,Wr,a,hA,hS,hf,hq => by
   simp only [achain] at h
   split at h
   ·rename_i hr
    cases h
    exact ⟨hr,hq _ (List.mem_singleton.2 rfl) _ _ _ rfl ⟨σ,rfl,hf,Post.refl hS⟩⟩
   ·cases h
 | n + 1,listed,f,S,outs,h,σ,w,Wr,a,hA,hS,hf,hq => by
   simp only [achain] at h
   split at h
   ·rename_i hr
    cases h
    exact ⟨fun _ => hq _ (List.mem_singleton.2 rfl) _ _ _ rfl ⟨σ,rfl,hf,Post.refl hS⟩,fun i hi => by rw [hr] at hi; cases hi⟩
   ·rename_i i l hr
    refine ⟨fun hr' => (by rw [hr] at hr'; cases hr'),fun j hj => ?_⟩
    rw [hr] at hj
    obtain ⟨r,hr1,hsub⟩:=joinM_mem h j hj
    split at hr1
    ·rename_i o₁ ho
     split at hr1
     ·rename_i f' S' hs
      refine astep_wp hE hC hs hA hS hf ?_ ho
      intro σ' a' w' hf' hp
      refine achain_ok hE hC n _ f' S' hr1 (hA.le (hp.le hS)) hp.rel hf' fun o hom e a'' w'' hlim q => ?_
      obtain ⟨σ'',q1,q2,q3⟩:=q
      exact hq o (hsub _ hom) e a'' w'' (hlim.trans hp.limit) ⟨σ'',q1,q2,hp.trans q3⟩
     ·rename_i v S' hs
      cases hr1
      refine astep_wp hE hC hs hA hS hf ?_ ho
      intro σ' a' w' u hu hf' hp
      exact hq _ (hsub _ (List.mem_singleton.2 rfl)) _ a' w' hp.limit ⟨σ',⟨u,hu,rfl⟩,hf',hp⟩
     ·cases hr1
    ·cases hr1
theorem adraw_ok (hE : E.Ok) (hC : zu E C) (ro : Option Nat) (id : Nat) (ops : Array Oper) : CodeOk E ro (.region id ops true) (adraw E C ops):=by
 intro f S outs h σ w Wr a n hA hS hf
 unfold adraw at h
 split at h
 ·rename_i outs' hd
  cases h
  exact adrawM_ok hE hC ro id ops f S _ hd σ w Wr a n hA hS hf
 ·unfold achained at h
  split at h
  ·rename_i hc
   simp only [Bool.and_eq_true] at hc
   split at h
   ·rename_i outs₁ ho
    cases h
    have hdrew : Post E.P σ S w Wr σ S w.drew:=Post.drew hS rfl ⟨rfl,rfl⟩
    let Q : Exit→Act→World→Prop:=fun e a' w' => ∃ o ∈ outs₁,o.2.2.limit = S.limit∧CodeQ E σ S w.drew Wr o.1 o.2.1 o.2.2 e a' w'
    have hany:=achain_ok hE hC (Q:=Q) ops.size (Array.replicate ops.size false) f S ho hA hdrew.rel hf (fun o hm _ _ _ hl q => ⟨o,hm,hl,q⟩)
    have hfin : ∀ e a' w',Q e a' w'→CodeQs E σ S w Wr (onceO (outs₁.map fun o => (o.1,o.2.1,zT o.2.2 S.limit))) e a' w':=by
     rintro e a' w' ⟨o,hm,hl,σ',h1,h2,h3⟩
     have he : (o.1,o.2.1,zT o.2.2 S.limit) = o:=by
      obtain ⟨x,f,S₁⟩:=o
      cases S₁
      simp only at hl
      subst hl
      rfl
     refine ⟨o,?_,σ',h1,h2,hdrew.trans h3⟩
     refine onceO_ok (l0:=S.limit) (fun x hx => ?_) o (List.mem_map.2 ⟨o,hm,he⟩)
     obtain ⟨y,_,rfl⟩:=List.mem_map.1 hx
     rfl
    refine wpIn_mono ?_ hfin
    have hnl : ¬ LetsOut Q:=by
     rintro ⟨a,w,o,hm,hl,σ',h1,_⟩
     cases hx : o.1 with
     | panic v => rw [hx] at h1; obtain ⟨u,_,h1⟩:=h1; cases h1
     | normal => rw [hx] at h1; cases h1
     | exit id => rw [hx] at h1; cases h1
     | goto l => rw [hx] at h1; cases h1
     | ret => rw [hx] at h1; cases h1
    have hnd : ∀ (i : Nat) (o : Oper),ops[i]? = some o→∀ c : Call,o.op≠Op.defer c:=fun i o ho c e => by
     have h2:=hc.1
     rw [List.all_eq_true] at h2
     have:=h2 o (List.mem_of_getElem? (by simpa using ho))
     simp [e] at this
    cases ro with
    | none => exact wpIn_wide.2 (wp_region_any hE.mixed hany)
    | some b => exact wpIn_region_any hE.mixed (any_in hnl hnd _ _ _ _ hany)
   ·cases h
  ·cases h
end
end Go.Proofs.YtfddkbbjnghefaaGreatDoor.Zs
