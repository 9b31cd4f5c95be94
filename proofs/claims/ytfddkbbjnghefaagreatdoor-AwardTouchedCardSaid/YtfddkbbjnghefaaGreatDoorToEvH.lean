/-
  How a function is left: results, deferred calls, recover; a call as a whole.
-/
import Derived.Test.YtfddkbbjnghefaaGreatDoorToEvG
import Derived.RangeFuncLeaves
import Derived.RecoverIn
set_option linter.unusedSimpArgs false
set_option linter.unusedVariables false
namespace Go.Proofs.YtfddkbbjnghefaaGreatDoor.Zs
open Go
noncomputable def putAll (T : Trie AV) (k : Nat) : List AV→Trie AV
 | [] => T
 | v :: l => putAll (Trie.put (some v) depth T k) (k + 1) l
theorem putAll_get : ∀ (l : List AV) (T : Trie AV) (k i : Nat),k + l.length≤2 ^ 31→(putAll T k l).get i = if k≤i∧i < k + l.length then l[i - k]? else T.get i
 | [],T,k,i,h => by
   simp only [putAll,List.length_nil,Nat.add_zero]
   rw [if_neg (by omega)]
 | v :: l,T,k,i,h => by
   simp only [List.length_cons] at h
   simp only [putAll]
   rw [putAll_get l _ (k + 1) i (by omega),Trie.get_put _ _ _ _ (by omega)]
   by_cases h1 : i = k
   ·subst h1
    rw [if_neg (by omega),if_pos rfl,if_pos (by simp)]
    simp
   ·by_cases h2 : k + 1≤i∧i < k + 1 + l.length
    ·rw [if_pos h2,if_pos (by simp only [List.length_cons]; omega)]
     rw [show i - k = (i - (k + 1)) + 1 by omega,List.getElem?_cons_succ]
    ·rw [if_neg h2,if_neg h1,if_neg (by simp only [List.length_cons]; omega)]
noncomputable def aframe (args : List AV) (n : Nat) : Option AF:=
 match Nat.ble args.length 100000 with
 | true => some { T:=putAll .leaf 0 args,size:=args.length + (n - args.length),defers:=[] }
 | false => none
theorem aframe_ok {σ : Sig} {args : List AV} {us : List Value} (hi : Ins σ args us) {n : Nat} {f : AF} (h : aframe args n = some f) :
  FRel σ f { tmps:=us.toArray ++ Array.replicate (n - us.toArray.size) undef,defers:=[] }:=by
 unfold aframe at h
 split at h
 ·rename_i hl
  cases h
  have hl':=Nat.le_of_ble_eq_true hl
  have hlen:=hi.length
  refine ⟨fun i a ha => ?_,by simp [hlen],rfl⟩
  have ha' : (putAll .leaf 0 args).get i = some a:=ha
  rw [putAll_get _ _ _ _ (by omega)] at ha'
  split at ha'
  ·rename_i hc
   simp only [Nat.sub_zero] at ha'
   obtain ⟨v,hv,hvi⟩:=hi.get ha'
   refine ⟨v,?_,hvi⟩
   have hlt:=(List.getElem?_eq_some_iff.1 hv).1
   rw [Array.getElem?_append_left (by simpa using hlt)]
   simpa using hv
  ·simp [Trie.get_leaf] at ha'
 ·cases h
noncomputable def aresult (E : Env) (f : AF) (S : ASt) : ResultVar→Option AV
 | .tmp t => f.T.get t
 | .cell a t => match f.T.get a with
   | some (.ptr id off) => aloadVar E S t id off
   | _ => none
noncomputable def aresultL (E : Env) (f : AF) (S : ASt) : List ResultVar→Option (List AV)
 | [] => some []
 | r :: l => match aresult E f S r with
   | some v => match aresultL E f S l with
     | some m => some (v :: m)
     | none => none
   | none => none
def oneOf (l : List AV) : AV:=
 match l with
 | [v] => v
 | l => .tuple l
section
variable {E : Env} {C : yj} {R : RoundE}
theorem aresultL_ok (hE : E.Ok) {σ : Sig} {S : ASt} {w : World} {Wr : Nat→Prop} (hS : S.rel E.P σ w Wr) {f : AF} {a : Act} (hf : FRel σ f a) {g : ResultVar→Sem Value}
  (hg1 : ∀ t,g (.tmp t) = pure (a.tmps.getD t undef)) (hg2 : ∀ x t,g (.cell x t) = do loadVar t (← asAddr (a.tmps.getD x undef))) : ∀ {l : List ResultVar} {vs : List AV},aresultL E f S l = some vs →
  ∃ us,Ins σ vs us∧(l.mapM g).run E.P w = .ok us w
 | [],vs,h => by
   simp only [aresultL,Option.some.injEq] at h
   subst h
   exact ⟨[],.nil,by simp⟩
 | r :: l,vs,h => by
   simp only [aresultL] at h
   split at h
   ·rename_i v hv
    split at h
    ·rename_i m hm
     cases h
     obtain ⟨us,h3,h4⟩:=aresultL_ok hE hS hf hg1 hg2 hm
     have hone : ∃ u,v.inst σ = some u∧(g r).run E.P w = .ok u w:=by
      cases r with
      | tmp t =>
        obtain ⟨u,hu,hi⟩:=hf.tmps t v hv
        exact ⟨u,hi,by simp [hg1,Array.getD_eq_getD_getElem?,hu]⟩
      | cell x t =>
        simp only [aresult] at hv
        split at hv
        ·rename_i id off hx
         obtain ⟨u,hu,hi⟩:=hf.tmps x _ hx
         obtain ⟨b,κ,h1,rfl⟩:=inst_ptr hi
         obtain ⟨b',κ',y,h2,h3,h4⟩:=aloadVar_ok hE hS hv
         rw [h1] at h2; cases h2
         exact ⟨y,h3,by simp [hg2,Array.getD_eq_getD_getElem?,hu,asAddr,h4]⟩
        ·cases hv
     obtain ⟨u,h1,h2⟩:=hone
     refine ⟨u :: us,.cons h1 h3,?_⟩
     rw [List.mapM_cons]
     simp only [Sem.run_bind,h2,Result.andThen_ok,h4,Sem.run_pure]
    ·cases h
   ·cases h
theorem results_ok (hE : E.Ok) {σ : Sig} {S : ASt} {w : World} {Wr : Nat→Prop} (hS : S.rel E.P σ w Wr) {f : AF} {a : Act} (hf : FRel σ f a) {fn : Func} {vs : List AV} (h : aresultL E f S fn.results.toList = some vs) :
  ∃ u,(oneOf vs).inst σ = some u∧(results fn a.tmps).run E.P w = .ok u w:=by
 have key : ∀ g : ResultVar→Sem Value,(∀ t,g (.tmp t) = pure (a.tmps.getD t undef))→(∀ x t,g (.cell x t) = do loadVar t (← asAddr (a.tmps.getD x undef))) →
   ∃ u,(oneOf vs).inst σ = some u∧(do let us ← fn.results.mapM g; pure (if h : us.size = 1 then us[0] else .tuple us) : Sem Value).run E.P w = .ok u w:=by
  intro g hg1 hg2
  obtain ⟨us,h1,h2⟩:=aresultL_ok hE hS hf hg1 hg2 h
  have hm : (fn.results.mapM g).run E.P w = .ok us.toArray w:=by
   rw [← Array.toArray_toList (xs:=fn.results),List.mapM_toArray,Sem.run_map,h2]
   rfl
  rw [Sem.run_bind,hm]
  simp only [Result.andThen_ok,Sem.run_pure]
  cases h1 with
  | nil => exact ⟨_,by simp [oneOf,AV.inst,instL],rfl⟩
  | cons ha hl =>
    cases hl with
    | nil => exact ⟨_,by simpa [oneOf] using ha,by simp⟩
    | cons hb hl =>
      refine ⟨_,?_,rfl⟩
      simp only [oneOf,AV.inst]
      rw [instL_iff.2 (.cons ha (.cons hb hl))]
      simp
 exact key _ (fun _ => rfl) (fun _ _ => rfl)
inductive AM where
 | ret
 | pan (v : AV) (recovered : Bool)
def MRel (σ : Sig) : AM→FrameMode→Prop
 | .ret,u => u = .returning
 | .pan v r,u => ∃ x,v.inst σ = some x∧u = .panicking [{ v:=x,recovered:=r }]
theorem MRel.le {σ σ' : Sig} (h : σ.le σ') {m : AM} {u : FrameMode} (hm : MRel σ m u) : MRel σ' m u:=by
 cases m with
 | ret => exact hm
 | pan v r => obtain ⟨x,h1,h2⟩:=hm; exact ⟨x,AV.inst_le h _ _ h1,h2⟩
noncomputable def aopsS (E : Env) (ops : Array Oper) : List Oper→AF→AM→ASt→Option (AF×AM×ASt)
 | [],f,m,S => some (f,m,S)
 | o :: l,f,m,S => match awanted ops f.T o with
   | some true => match aopG E f.T S o with
     | some (.val v S') => match f.put o.dst v with
       | some f' => aopsS E ops l f' m S'
       | none => none
     | some (.skip S') => match f.put o.dst aundef with
       | some f' => aopsS E ops l f' m S'
       | none => none
     | some .recover => match m with
       | .pan v false => match f.put o.dst v with
         | some f' => aopsS E ops l f' (.pan v true) S
         | none => none
       | _ => match f.put o.dst .nilIface with
         | some f' => aopsS E ops l f' m S
         | none => none
     | _ => none
   | some false => match f.put o.dst aundef with
     | some f' => aopsS E ops l f' m S
     | none => none
   | none => none
noncomputable def acodeS (E : Env) (C : yj) (R : RoundE) (X : Others) : Code→AF→AM→ASt→Option (AX×AF×AM×ASt)
 | .seq a b,f,m,S => match acodeS E C R X a f m S with
   | some (.normal,f',m',S') => acodeS E C R X b f' m' S'
   | r => r
 | .cond c a b,f,m,S => match zB E f.T c with
   | some (.bool true) => acodeS E C R X a f m S
   | some (.bool false) => acodeS E C R X b f m S
   | _ => none
 | .region _ ops false,f,m,S => match aopsS E ops ops.toList f m S with
   | some (f',m',S') => some (.normal,f',m',S')
   | none => none
 | c,f,m,S => match acode E C R false X.plain c f S with
   | some [(x,f',S')] => some (x,f',m,S')
   | _ => none
def StQ (E : Env) (σ : Sig) (S : ASt) (w : World) (Wr : Nat→Prop) (c₀ : Frame) (cs : List Frame) (x : AX) (f' : AF) (m' : AM) (S' : ASt) : Exit→Act→List Frame→World→Prop:=
 fun e a' cs' w' => ∃ σ' u',cs' = { c₀ with mode:=u' } :: cs∧MRel σ' m' u'∧XRel σ' x e∧FRel σ' f' a'∧Post E.P σ S w Wr σ' S' w'
theorem aopsS_ok (hE : E.Ok) {ops : Array Oper} {n : Nat} {c₀ : Frame} {cs : List Frame} {Q : Exit→Act→List Frame→World→Prop} : ∀ (l : List Oper) (k : Nat) (f : AF) (m : AM) (S : ASt) {f' : AF} {m' : AM} {S' : ASt},
  ops.toList.drop k = l→aopsS E ops l f m S = some (f',m',S')→∀ {σ : Sig} {w : World} {Wr : Nat→Prop} {a : Act} {u : FrameMode},E.At σ→S.rel E.P σ w Wr→FRel σ f a→MRel σ m u →
   (∀ a' cs' w',StQ E σ S w Wr c₀ cs .normal f' m' S' .normal a' cs' w'→Q .normal a' cs' w') →
   wpOpsSIn Fence.wide n E.P ops Q (List.range' k l.length) a ({ c₀ with mode:=u } :: cs) w
 | [],k,f,m,S,f',m',S',hd,h,σ,w,Wr,a,u,hA,hS,hf,hm,hq => by
   cases h
   exact hq a _ w ⟨σ,u,rfl,hm,rfl,hf,Post.refl hS⟩
 | o :: l,k,f,m,S,f',m',S',hd,h,σ,w,Wr,a,u,hA,hS,hf,hm,hq => by
   have h1 : ops[k]? = some o:=by
    have:=congrArg (fun x => x[0]?) hd
    simpa using this
   have h2 : ops.toList.drop (k + 1) = l:=by
    have:=congrArg (List.drop 1) hd
    simpa [List.drop_drop] using this
   have go : ∀ {f₁ : AF} {m₁ : AM} {S₁ : ASt} {σ' : Sig} {a₁ : Act} {w₁ : World} {u₁ : FrameMode},aopsS E ops l f₁ m₁ S₁ = some (f',m',S')→FRel σ' f₁ a₁→MRel σ' m₁ u₁→Post E.P σ S w Wr σ' S₁ w₁ →
     wpOpsSIn Fence.wide n E.P ops Q (List.range' (k + 1) l.length) a₁ ({ c₀ with mode:=u₁ } :: cs) w₁:=by
    intro f₁ m₁ S₁ σ' a₁ w₁ u₁ hev hf₁ hm₁ hp
    refine aopsS_ok hE l (k + 1) f₁ m₁ S₁ h2 hev (hA.le (hp.le hS)) hp.rel hf₁ hm₁ ?_
    rintro a' cs' w' ⟨σ'',u'',q1,q2,q3,q4,q5⟩
    exact hq a' cs' w' ⟨σ'',u'',q1,q2,q3,q4,hp.trans q5⟩
   simp only [aopsS] at h
   simp only [List.length_cons,List.range'_succ,wpOpsSIn,h1]
   refine ⟨fun _ _ => trivial,?_⟩
   split at h
   ·rename_i hw
    rw [awanted_ok hf.tmps hw]
    simp only [if_true]
    split at h
    ·rename_i v S₁ hop
     split at h
     ·rename_i f₁ hput
      obtain ⟨σ',y,w',e1,e2,e3⟩:=aopG_ok hE hA hS hf.tmps hop
      rw [e1]
      exact go h (AF.put_ok (hf.le (e3.le hS)) e2 hput) (hm.le (e3.le hS)) e3
     ·cases h
    ·rename_i S₁ hop
     split at h
     ·rename_i f₁ hput
      obtain ⟨σ',w',e1,e3⟩:=aopG_ok hE hA hS hf.tmps hop
      rw [e1]
      exact go h (AF.put_ok (hf.le (e3.le hS)) (undef_inst σ') hput) (hm.le (e3.le hS)) e3
     ·cases h
    ·rename_i hop
     have e1:=aopG_ok hE hA hS hf.tmps hop
     have e1' : (execOp a.eval o).run E.P w = .ok .recover w:=e1
     rw [e1']
     simp only
     split at h
     ·rename_i v
      split at h
      ·rename_i f₁ hput
       obtain ⟨x,hx,rfl⟩:=hm
       have hrec : recoverD ({ c₀ with mode:=.panicking [{ v:=x,recovered:=false }] } :: cs) = some (x,{ c₀ with mode:=.panicking [{ v:=x,recovered:=true }] } :: cs):=rfl
       rw [hrec]
       exact go h (AF.put_ok hf hx hput) ⟨x,hx,rfl⟩ (Post.refl hS)
      ·cases h
     ·rename_i m₀ hne
      split at h
      ·rename_i f₁ hput
       have hrec : recoverD ({ c₀ with mode:=u } :: cs) = none:=by
        cases m with
        | ret => obtain rfl:=hm; rfl
        | pan v r =>
          obtain ⟨x,hx,rfl⟩:=hm
          cases r with
          | false => exact absurd rfl (hne v)
          | true => rfl
       rw [hrec]
       exact go h (AF.put_ok hf (show AV.nilIface.inst σ = some .nilIface from rfl) hput) hm (Post.refl hS)
      ·cases h
    ·cases h
   ·rename_i hw
    rw [awanted_ok hf.tmps hw]
    simp only [Bool.false_eq_true,if_false]
    split at h
    ·rename_i f₁ hput
     exact go h (AF.put_ok hf (undef_inst σ) hput) hm (Post.refl hS)
    ·cases h
   ·cases h
theorem wpSIn_mono {n : Nat} {P : Program} {c : Code} {Q Q' : Exit→Act→List Frame→World→Prop} {a : Act} {cs : List Frame} {w : World} (h : c.wpSIn Fence.wide n P Q a cs w) (hq : ∀ e a cs w,Q e a cs w→Q' e a cs w) :
  c.wpSIn Fence.wide n P Q' a cs w:=
 fun b k h1 h2 h3 h4 => let ⟨e,a',cs',w',l,q,r⟩:=h b k h1 h2 h3 h4; ⟨e,a',cs',w',l,hq _ _ _ _ q,r⟩
theorem not_normalS {σ : Sig} {x : AX} {e : Exit} (hx : x≠.normal) (h : XRel σ x e) {next : Act→List Frame→World→Prop} {Q : Exit→Act→List Frame→World→Prop} {a : Act} {cs : List Frame} {w : World} (hq : Q e a cs w) :
  Exit.thenS next Q e a cs w:=by
 cases x with
 | normal => exact absurd rfl hx
 | exit id => obtain rfl:=h; exact hq
 | goto l => obtain rfl:=h; exact hq
 | ret => obtain rfl:=h; exact hq
 | panic v => obtain ⟨u,_,rfl⟩:=h; exact hq
theorem acodeS_ok (hE : E.Ok) (hC : zu E C) (hR : RoundsOk E R) {X : Others} (hX : DrawOk E none X) {n : Nat} {c₀ : Frame} {cs : List Frame} : ∀ (c : Code) (f : AF) (m : AM) (S : ASt) {x : AX} {f' : AF} {m' : AM} {S' : ASt},
  acodeS E C R X c f m S = some (x,f',m',S')→∀ {σ : Sig} {w : World} {Wr : Nat→Prop} {a : Act} {u : FrameMode},E.At σ→S.rel E.P σ w Wr→FRel σ f a→MRel σ m u →
   c.wpSIn Fence.wide n E.P (StQ E σ S w Wr c₀ cs x f' m' S') a ({ c₀ with mode:=u } :: cs) w:=by
 -- what is walked as everywhere
 have plain : ∀ (c : Code) (f : AF) (m : AM) (S : ASt) {x : AX} {f' : AF} {m' : AM} {S' : ASt},
   (match acode E C R false X.plain c f S with
     | some [(x,f',S')] => some (x,f',m,S')
     | _ => none) = some (x,f',m',S')→∀ {σ : Sig} {w : World} {Wr : Nat→Prop} {a : Act} {u : FrameMode},E.At σ→S.rel E.P σ w Wr→FRel σ f a→MRel σ m u →
   c.wpSIn Fence.wide n E.P (StQ E σ S w Wr c₀ cs x f' m' S') a ({ c₀ with mode:=u } :: cs) w:=by
  intro c f m S x f' m' S' h σ w Wr a u hA hS hf hm
  split at h
  ·rename_i x₁ f₁ S₁ hev
   cases h
   refine wpSIn_of_wpIn rfl (wpIn_mono (acode_ok hE hC hR (ro:=none) (X:=X.plain) c (hX.plain c) (fun _ _ => yc) f S _ hev σ w Wr a n hA hS hf) ?_)
   rintro e a' w' ⟨o,ho,σ',q1,q2,q3⟩
   rw [List.mem_singleton] at ho
   subst ho
   exact ⟨σ',u,rfl,hm.le (q3.le hS),q1,q2,q3⟩
  ·cases h
 intro c
 induction c with
 | seq c d ihc ihd =>
   intro f m S x f' m' S' h σ w Wr a u hA hS hf hm
   simp only [acodeS] at h
   split at h
   ·rename_i f₁ m₁ S₁ h₁
    refine wpSIn_seq (wpSIn_mono (ihc f m S h₁ hA hS hf hm) ?_)
    rintro e a₁ cs₁ w₁ ⟨σ',u',rfl,q2,rfl,q4,q5⟩
    refine wpSIn_mono (ihd f₁ m₁ S₁ h (hA.le (q5.le hS)) q5.rel q4 q2) ?_
    rintro e a₂ cs₂ w₂ ⟨σ'',u'',r1,r2,r3,r4,r5⟩
    exact ⟨σ'',u'',r1,r2,r3,r4,q5.trans r5⟩
   ·rename_i hne
    have hx : x≠.normal:=fun e => by subst e; exact hne f' m' S' h
    refine wpSIn_seq (wpSIn_mono (ihc f m S h hA hS hf hm) ?_)
    intro e a₁ cs₁ w₁ hq
    exact not_normalS hx hq.choose_spec.choose_spec.2.2.1 hq
 | cond c t e iht ihe =>
   intro f m S x f' m' S' h σ w Wr a u hA hS hf hm
   simp only [acodeS] at h
   split at h
   ·rename_i hc
    have hv:=zW hA hf.tmps hc
    simp only [AV.inst,Option.some.injEq] at hv
    exact wpSIn_cond (t:=true) hv.symm (iht f m S h hA hS hf hm)
   ·rename_i hc
    have hv:=zW hA hf.tmps hc
    simp only [AV.inst,Option.some.injEq] at hv
    exact wpSIn_cond (t:=false) hv.symm (ihe f m S h hA hS hf hm)
   ·cases h
 | region id ops draw =>
   intro f m S x f' m' S' h σ w Wr a u hA hS hf hm
   cases draw with
   | false =>
     simp only [acodeS] at h
     split at h
     ·rename_i f₁ m₁ S₁ hev
      cases h
      refine wpSIn_region ?_
      have:=aopsS_ok (n:=n) (c₀:=c₀) (cs:=cs) (Q:=StQ E σ S w Wr c₀ cs .normal f' m' S') hE ops.toList 0 f m S (by simp) hev hA hS hf hm (fun _ _ _ q => q)
      rw [List.range_eq_range']
      simpa using this
     ·cases h
   | true => exact plain _ f m S (by simpa only [acodeS] using h) hA hS hf hm
 | skip => intro f m S x f' m' S' h; exact plain _ f m S (by simpa only [acodeS] using h)
 | block id c ih => intro f m S x f' m' S' h; exact plain _ f m S (by simpa only [acodeS] using h)
 | loop c ih => intro f m S x f' m' S' h; exact plain _ f m S (by simpa only [acodeS] using h)
 | rangeFunc g ps a b iha ihb => intro f m S x f' m' S' h; exact plain _ f m S (by simpa only [acodeS] using h)
 | exit id => intro f m S x f' m' S' h; exact plain _ f m S (by simpa only [acodeS] using h)
 | scope c ih => intro f m S x f' m' S' h; exact plain _ f m S (by simpa only [acodeS] using h)
 | label l => intro f m S x f' m' S' h; exact plain _ f m S (by simpa only [acodeS] using h)
 | goto l => intro f m S x f' m' S' h; exact plain _ f m S (by simpa only [acodeS] using h)
 | ret => intro f m S x f' m' S' h; exact plain _ f m S (by simpa only [acodeS] using h)
 | refuse s => intro f m S x f' m' S' h; exact plain _ f m S (by simpa only [acodeS] using h)
end
open Go
def settleA : AM→AM
 | .pan v true => .ret
 | m => m
theorem settle_ok {σ : Sig} {m : AM} {u : FrameMode} (h : MRel σ m u) : MRel σ (settleA m) (settle u):=by
 cases m with
 | ret => obtain rfl:=h; rfl
 | pan v r =>
   obtain ⟨x,hx,rfl⟩:=h
   cases r with
   | true => rfl
   | false => exact ⟨x,hx,rfl⟩
abbrev Za:=FuncId→List AV→ASt→Option (List (AE×ASt))
def CallLsOk (E : Env) (C : Za) : Prop:=∀ f args S rs,C f args S = some rs→∀ σ w Wr us,E.At σ→S.rel E.P σ w Wr→Ins σ args us →
 Calls E.P f us.toArray w fun e w' => ∃ r,r ∈ rs∧CallQ E σ S w Wr r.1 r.2 e w'
structure Ev where
 call : yj
 round : RoundE
 loop : FuncId→Code→AF→ASt→Option (List Out)
 calls : Za
noncomputable def behindM (f : AF) (dst : Option Tmp) : List (AE×ASt)→Option (List AStep)
 | [] => some []
 | (.ret v,S') :: l => match goOn (f.put dst v) S' with
   | some r => match behindM f dst l with
     | some m => some (r :: m)
     | none => none
   | none => none
 | (.panic v,S') :: l => match behindM f dst l with
   | some m => some (.stop v S' :: m)
   | none => none
noncomputable def nextsM (f : AF) (dst : Option Tmp) : List (AV×ASt)→Option (List AStep)
 | [] => some []
 | (v,S') :: l => match goOn (f.put dst v) S' with
   | some r => match nextsM f dst l with
     | some m => some (r :: m)
     | none => none
   | none => none
noncomputable def isNextM (E : Env) (T : Trie AV) (S : ASt) (o : Op) : Option (List (AV×ASt)):=
 match o with
 | .next x false => match zB E T x with
   | some v => anextM S v
   | none => none
 | _ => none
noncomputable def adoOpM (E : Env) (V : Ev) (isRound : Bool) (f : AF) (S : ASt) (o : Oper) : Option (List AStep):=
 match isNextM E f.T S o.op with
 | some l => nextsM f o.dst l
 | none => match adoOp E V.call V.round isRound f S o with
   | some r => some [r]
   | none => match aopG E f.T S o with
     | some (.enter g args) => match V.calls g args S with
       | some rs => behindM f o.dst rs
       | none => none
     | _ => none
noncomputable def astepM (E : Env) (V : Ev) (isRound : Bool) (ops : Array Oper) (f : AF) (S : ASt) (o : Oper) : Option (List AStep):=
 match awanted ops f.T o with
 | some true => adoOpM E V isRound f S o
 | some false => match goOn (f.put o.dst aundef) S with
   | some r => some [r]
   | none => none
 | none => none
noncomputable def aopsM (E : Env) (V : Ev) (isRound : Bool) (ops : Array Oper) : List Oper→AF→ASt→Option (List Out)
 | [],f,S => some [(.normal,f,S)]
 | o :: l,f,S => match astepM E V isRound ops f S o with
   | some rs => joinM (fun r => match r with
     | .go f' S' => aopsM E V isRound ops l f' S'
     | .stop v S' => some [(.panic v,f,S')]) rs
   | none => none
section
variable {E : Env} {V : Ev}
theorem behindM_mem {f : AF} {dst : Option Tmp} : ∀ {l : List (AE×ASt)} {m : List AStep},behindM f dst l = some m→∀ p ∈ l,∃ r,r ∈ m∧match p.1 with
  | .ret v => goOn (f.put dst v) p.2 = some r
  | .panic v => r = .stop v p.2
 | [],m,h,p,hp => by cases hp
 | (.ret v,S') :: l,m,h,p,hp => by
   simp only [behindM] at h
   split at h
   ·rename_i r hr
    split at h
    ·rename_i m' hm
     cases h
     cases hp with
     | head => exact ⟨r,List.mem_cons_self,hr⟩
     | tail _ hp => obtain ⟨r',q1,q2⟩:=behindM_mem hm p hp; exact ⟨r',List.mem_cons_of_mem _ q1,q2⟩
    ·cases h
   ·cases h
 | (.panic v,S') :: l,m,h,p,hp => by
   simp only [behindM] at h
   split at h
   ·rename_i m' hm
    cases h
    cases hp with
    | head => exact ⟨_,List.mem_cons_self,rfl⟩
    | tail _ hp => obtain ⟨r',q1,q2⟩:=behindM_mem hm p hp; exact ⟨r',List.mem_cons_of_mem _ q1,q2⟩
   ·cases h
theorem nextsM_mem {f : AF} {dst : Option Tmp} : ∀ {l : List (AV×ASt)} {m : List AStep},nextsM f dst l = some m→∀ p ∈ l,∃ r,r ∈ m∧goOn (f.put dst p.1) p.2 = some r
 | [],m,h,p,hp => by cases hp
 | (v,S') :: l,m,h,p,hp => by
   simp only [nextsM] at h
   split at h
   ·rename_i r hr
    split at h
    ·rename_i m' hm
     cases h
     cases hp with
     | head => exact ⟨r,List.mem_cons_self,hr⟩
     | tail _ hp => obtain ⟨r',q1,q2⟩:=nextsM_mem hm p hp; exact ⟨r',List.mem_cons_of_mem _ q1,q2⟩
    ·cases h
   ·cases h
theorem adoOpM_ok (hE : E.Ok) (hC : zu E V.call) (hR : RoundsOk E V.round) (hL : CallLsOk E V.calls) {ro : Option Nat} {n : Nat} {f : AF} {S : ASt} {o : Oper} {rs : List AStep} (h : adoOpM E V ro.isSome f S o = some rs)
  {σ : Sig} {w : World} {Wr : Nat→Prop} {a : Act} (hA : E.At σ) (hS : S.rel E.P σ w Wr) (hf : FRel σ f a) {K : Act→World→Prop} {Q : Exit→Act→World→Prop} (hk : ∀ r ∈ rs,StepK E σ S w Wr K Q f r) :
  o.wpIn (fence ro) n E.P a w K Q:=by
 have hsem : (∀ c,o.op≠.defer c)→(o.semAt (fence ro).round a.eval) = execOp a.eval o:=fun hd => Oper.semAt_eq _ _ _ hd
 unfold adoOpM at h
 split at h
 ·rename_i l hl
  unfold isNextM at hl
  split at hl
  ·rename_i x hop
   split at hl
   ·rename_i v hv
    refine ⟨fun g _ => fence_fn ro g,?_⟩
    have hx:=zW hA hf.tmps hv
    obtain ⟨p,hp,σ',u,w',h1,h2,h3⟩:=anextM_ok hS (t:=o.type) hx hl
    have hnd : ∀ c,o.op≠.defer c:=fun c e => by rw [hop] at e; cases e
    have hrun : (execOp a.eval o).run E.P w = .ok (.value u) w':=by simp [execOp,hop,h1]
    rw [hsem hnd,hrun]
    obtain ⟨r,hr,hg⟩:=nextsM_mem h p hp
    obtain ⟨f',hput,rfl⟩:=yN hg
    exact hk _ hr σ' _ w' (AF.put_ok (hf.le (h3.le hS)) h2 hput) h3
   ·cases hl
  ·cases hl
 ·split at h
  ·rename_i r hr
   cases h
   exact adoOp_ok hE hC hR hr hA hS hf (hk _ (List.mem_singleton.2 rfl))
  ·split at h
   ·rename_i g args hop
    split at h
    ·rename_i rs₁ hc
     refine ⟨fun g _ => fence_fn ro g,?_⟩
     obtain ⟨us,h1,h2⟩:=aopG_ok hE hA hS hf.tmps hop
     have hnd : ∀ c,o.op≠.defer c:=fun c e => by
      have hrun : (execOp a.eval o).run E.P w = ((resolve a.eval c o.type).run E.P w).andThen fun d w' => .ok (.defer d) w':=by simp [execOp,e]
      rw [hrun] at h1
      cases hr : (resolve a.eval c o.type).run E.P w with
      | ok d w'' => rw [hr] at h1; simp at h1
      | halt x w'' => rw [hr] at h1; simp at h1
     rw [hsem hnd,h1,Oper.uponIn_enter]
     refine ⟨fun hd => by simp [fence_depth] at hd,?_⟩
     refine fence_calls ((hL g args S _ hc σ w Wr us hA hS h2).mono ?_)
     rintro e w' ⟨⟨r,S'⟩,hr,σ',hq,h3⟩
     obtain ⟨r',hr',hg⟩:=behindM_mem h _ hr
     cases r with
     | ret v =>
       obtain ⟨u,hu,rfl⟩:=hq
       obtain ⟨f',hp,rfl⟩:=yN hg
       exact hk _ hr' σ' _ w' (AF.put_ok (hf.le (h3.le hS)) hu hp) h3
     | panic v =>
       obtain ⟨u,hu,rfl⟩:=hq
       simp only at hg
       subst hg
       exact hk _ hr' σ' _ w' u hu (hf.le (h3.le hS)) h3
    ·cases h
   ·cases h
theorem aopsM_ok (hE : E.Ok) (hC : zu E V.call) (hR : RoundsOk E V.round) (hL : CallLsOk E V.calls) {ro : Option Nat} {n : Nat} {ops : Array Oper} {Q : Exit→Act→World→Prop} : ∀ (l : List Oper) (k : Nat) (f : AF) (S : ASt) {outs : List Out},
  ops.toList.drop k = l→aopsM E V ro.isSome ops l f S = some outs→∀ {σ : Sig} {w : World} {Wr : Nat→Prop} {a : Act},E.At σ→S.rel E.P σ w Wr→FRel σ f a →
   (∀ e a' w',CodeQs E σ S w Wr outs e a' w'→Q e a' w')→wpOpsIn (fence ro) n E.P ops Q (List.range' k l.length) a w
 | [],k,f,S,outs,hd,h,σ,w,Wr,a,hA,hS,hf,hq => by
   cases h
   exact hq .normal a w (.one ⟨σ,rfl,hf,Post.refl hS⟩)
 | o :: l,k,f,S,outs,hd,h,σ,w,Wr,a,hA,hS,hf,hq => by
   have h1 : ops[k]? = some o:=by
    have:=congrArg (fun x => x[0]?) hd
    simpa using this
   have h2 : ops.toList.drop (k + 1) = l:=by
    have:=congrArg (List.drop 1) hd
    simpa [List.drop_drop] using this
   simp only [aopsM] at h
   simp only [List.length_cons,List.range'_succ,wpOpsIn,h1]
   have step : ∀ rs,astepM E V ro.isSome ops f S o = some rs→∀ {K : Act→World→Prop} {Q : Exit→Act→World→Prop},(∀ r ∈ rs,StepK E σ S w Wr K Q f r) →
     if Region.wanted o (yielded ops a.tmps) then o.wpIn (fence ro) n E.P a w K Q else (∀ g,o.about E.P w a.eval = some g→(fence ro).fn g)∧K (a.put o.dst undef) w:=by
    intro rs hrs K Q hk
    unfold astepM at hrs
    split at hrs
    ·rename_i hw
     rw [awanted_ok hf.tmps hw]
     simp only [if_true]
     exact adoOpM_ok hE hC hR hL hrs hA hS hf hk
    ·rename_i hw
     rw [awanted_ok hf.tmps hw]
     simp only [Bool.false_eq_true,if_false]
     split at hrs
     ·rename_i r hr
      cases hrs
      obtain ⟨f',hp,rfl⟩:=yN hr
      exact ⟨fun g _ => fence_fn ro g,hk _ (List.mem_singleton.2 rfl) σ _ w (AF.put_ok hf (undef_inst σ) hp) (Post.refl hS)⟩
     ·cases hrs
    ·cases hrs
   split at h
   ·rename_i rs hrs
    refine step rs hrs fun r hr => ?_
    obtain ⟨r',hr',hsub⟩:=joinM_mem h r hr
    cases r with
    | go f₁ S₁ =>
      intro σ' a' w' hf' hp
      refine aopsM_ok hE hC hR hL l (k + 1) f₁ S₁ h2 hr' (hA.le (hp.le hS)) hp.rel hf' fun e a'' w'' hq' => ?_
      exact hq e a'' w'' (hq'.trans hp hsub)
    | stop v S₁ =>
      intro σ' a' w' u hu hf' hp
      simp only [Option.some.injEq] at hr'
      subst hr'
      exact hq _ a' w' ⟨_,hsub _ (List.mem_singleton.2 rfl),σ',⟨u,hu,rfl⟩,hf',hp⟩
   ·cases h
theorem fork_ok (hE : E.Ok) (hC : zu E V.call) (hR : RoundsOk E V.round) (hL : CallLsOk E V.calls) (ro : Option Nat) (id : Nat) (ops : Array Oper) : CodeOk E ro (.region id ops false) (aopsM E V ro.isSome ops ops.toList):=by
 intro f S outs h σ w Wr a n hA hS hf
 refine wpIn_region ?_
 have:=aopsM_ok hE hC hR hL (ro:=ro) (n:=n) (ops:=ops) (Q:=CodeQs E σ S w Wr outs) ops.toList 0 f S (by simp) h hA hS hf (fun _ _ _ q => q)
 rw [List.range_eq_range']
 simpa using this
end
noncomputable def adeferred (E : Env) (V : Ev) (X : Others) (g : FuncId) (args : List AV) (m : AM) (S : ASt) : Option (AM×ASt):=
 match E.fn g with
 | some fn => match fn.body with
   | some c => match aframe args fn.ntmps with
     | some f => match acodeS E V.call V.round X c f m S with
       | some (.normal,f',m',S') => match f'.defers with
         | [] => match aresultL E f' S' fn.results.toList with
           | some _ => some (m',S')
           | none => none
         | _ => none
       | some (.ret,f',m',S') => match f'.defers with
         | [] => match aresultL E f' S' fn.results.toList with
           | some _ => some (m',S')
           | none => none
         | _ => none
       | _ => none
     | none => none
   | none => none
 | none => none
noncomputable def aleave (E : Env) (V : Ev) (X : Others) (fn : Func) (f : AF) : List ADef→AM→ASt→Option (AE×ASt)
 | [],.ret,S => match aresultL E f S fn.results.toList with
   | some vs => some (.ret (oneOf vs),S)
   | none => none
 | [],.pan v false,S => some (.panic v,S)
 | [],.pan _ true,_ => none
 | d :: ds,m,S => match d.target with
   | .collected id => match S.heap.get id with
     | some (.deferred (some [])) => match S.limit id && Nat.blt id zM with
       | true => aleave E V X fn f ds m { heap:=Trie.put (some (.deferred none)) depth S.heap id,next:=S.next,limit:=S.limit }
       | false => none
     | _ => none
   | .code (.func g) cap => match adeferred E V X g (d.args ++ cap) m S with
     | some (m',S') => aleave E V X fn f ds (settleA m') S'
     | none => none
   | _ => none
noncomputable def leave1 (E : Env) (V : Ev) (X : Others) (fn : Func) (o : Out) : Option (List (AE×ASt)):=
 match o with
 | (.normal,f,S) => match aleave E V X fn f f.defers .ret S with
   | some r => some [r]
   | none => none
 | (.ret,f,S) => match aleave E V X fn f f.defers .ret S with
   | some r => some [r]
   | none => none
 | (.panic v,f,S) => match aleave E V X fn f f.defers (.pan v false) S with
   | some r => some [r]
   | none => none
 | _ => none
section
variable {E : Env} {V : Ev} {X : Others}
def LoopsOk (E : Env) (H : FuncId→Code→AF→ASt→Option (List Out)) : Prop:=∀ f fn c,E.fn f = some fn→fn.body = some c→∀ c' ∈ loopsOf c,CodeOk E none (.loop c') (H f c')
def EvOk (E : Env) (V : Ev) : Prop:=zu E V.call∧RoundsOk E V.round∧LoopsOk E V.loop∧CallLsOk E V.calls
theorem adeferred_ok (hE : E.Ok) (hV : EvOk E V) (hX : DrawOk E none X) {g : FuncId} {args : List AV} {m m' : AM} {S S' : ASt} (h : adeferred E V X g args m S = some (m',S'))
  {σ : Sig} {w : World} {Wr : Nat→Prop} {us : List Value} {u : FrameMode} {n : Nat} (hA : E.At σ) (hS : S.rel E.P σ w Wr) (hi : Ins σ args us) (hm : MRel σ m u) :
  CallsDIn Fence.wide n E.P g us.toArray u w fun e u' w' => ∃ σ' v,e = .returned v∧MRel σ' m' u'∧Post E.P σ S w Wr σ' S' w':=by
 unfold adeferred at h
 split at h
 ·rename_i fn hfn
  split at h
  ·rename_i c hc
   split at h
   ·rename_i f hf
    have hfr:=aframe_ok hi hf
    have key : ∀ x f₁ m₁ S₁,acodeS E V.call V.round X c f m S = some (x,f₁,m₁,S₁)→(x = .normal∨x = .ret)→f₁.defers = []→(∃ vs,aresultL E f₁ S₁ fn.results.toList = some vs) →
      CallsDIn Fence.wide n E.P g us.toArray u w fun e u' w' => ∃ σ' v,e = .returned v∧MRel σ' m₁ u'∧Post E.P σ S w Wr σ' S₁ w':=by
     intro x f₁ m₁ S₁ hev hx hd hres
     obtain ⟨vs,hvs⟩:=hres
     refine callsDIn_of_wpSIn (hE.fn g fn hfn) hc trivial ?_
     intro c₀ cs hmode
     have hself : ({ c₀ with mode:=u } : Frame) = c₀:=by subst hmode; rfl
     have hw:=acodeS_ok (n:=n) (c₀:=c₀) (cs:=cs) hE hV.1 hV.2.1 hX c f m S hev hA hS hfr hm
     rw [hself] at hw
     refine wpSIn_mono hw ?_
     rintro e a' cs' w' ⟨σ',u',rfl,q2,q3,q4,q5⟩
     obtain ⟨y,h1,h2⟩:=results_ok hE q5.rel q4 hvs
     have hdef : a'.defers = []:=by
      have:=q4.defers
      rw [hd] at this
      simpa [instD] using this.symm
     have hfin : a'.defers = []∧∃ u'',({ c₀ with mode:=u' } :: cs : List Frame) = { c₀ with mode:=u'' } :: cs∧∃ v,(results fn a'.tmps).run E.P w' = .ok v w' ∧
       ∃ σ' v',Ending.returned v = .returned v'∧MRel σ' m₁ u''∧Post E.P σ S w Wr σ' S₁ w':=
      ⟨hdef,u',rfl,y,h2,σ',y,rfl,q2,q5⟩
     rcases hx with rfl | rfl
     ·obtain rfl:=q3; exact hfin
     ·obtain rfl:=q3; exact hfin
    split at h
    ·rename_i f₁ m₁ S₁ hev
     split at h
     ·rename_i hd
      split at h
      ·rename_i vs hvs
       cases h
       exact key _ _ _ _ hev (.inl rfl) hd ⟨vs,hvs⟩
      ·cases h
     ·cases h
    ·rename_i f₁ m₁ S₁ hev
     split at h
     ·rename_i hd
      split at h
      ·rename_i vs hvs
       cases h
       exact key _ _ _ _ hev (.inr rfl) hd ⟨vs,hvs⟩
      ·cases h
     ·cases h
    ·cases h
   ·cases h
  ·cases h
 ·cases h
theorem CallQ.trans {σ σ' : Sig} {S S₁ S' : ASt} {w w₁ : World} {Wr : Nat→Prop} {r : AE} (hp : Post E.P σ S w Wr σ' S₁ w₁) {e : Ending} {w' : World} (h : CallQ E σ' S₁ w₁ Wr r S' e w') : CallQ E σ S w Wr r S' e w':=by
 obtain ⟨σ'',q1,q3⟩:=h
 exact ⟨σ'',q1,hp.trans q3⟩
theorem aleave_ok (hE : E.Ok) (hV : EvOk E V) (hX : DrawOk E none X) {fn : Func} {f : AF} {n : Nat} {Rr : Ending→World→Prop} : ∀ (ds : List ADef) (m : AM) (S : ASt) {r : AE} {S' : ASt},aleave E V X fn f ds m S = some (r,S') →
  ∀ {σ : Sig} {w : World} {Wr : Nat→Prop} {a : Act} {u : FrameMode} {dv : List Deferred},E.At σ→S.rel E.P σ w Wr→FRel σ f a→MRel σ m u→instD σ ds = some dv →
    (∀ e w',CallQ E σ S w Wr r S' e w'→Rr e w')→LeavesInM Fence.wide n E.P fn a.tmps Rr dv u w
 | [],m,S,r,S',h,σ,w,Wr,a,u,dv,hA,hS,hf,hm,hd,hq => by
   simp only [instD,Option.some.injEq] at hd
   subst hd
   cases m with
   | ret =>
     obtain rfl:=hm
     simp only [aleave] at h
     split at h
     ·rename_i vs hvs
      cases h
      obtain ⟨y,h1,h2⟩:=results_ok hE hS hf hvs
      exact ⟨y,h2,hq _ _ ⟨σ,⟨y,h1,rfl⟩,Post.refl hS⟩⟩
     ·cases h
   | pan v rr =>
     obtain ⟨x,hx,rfl⟩:=hm
     cases rr with
     | false =>
       simp only [aleave,Option.some.injEq,Prod.mk.injEq] at h
       obtain ⟨rfl,rfl⟩:=h
       exact hq _ _ ⟨σ,⟨x,hx,rfl⟩,Post.refl hS⟩
     | true => simp only [aleave] at h; cases h
 | d :: ds,m,S,r,S',h,σ,w,Wr,a,u,dv,hA,hS,hf,hm,hd,hq => by
   simp only [instD] at hd
   split at hd
   ·rename_i d' hd'
    split at hd
    ·rename_i dv' hdv
     cases hd
     have hrun : u≠.run:=by
      cases m with
      | ret => obtain rfl:=hm; simp
      | pan v rr => obtain ⟨x,hx,rfl⟩:=hm; simp
     refine ⟨hrun,?_⟩
     simp only [ADef.inst] at hd'
     split at hd'
     ·rename_i t ht
      split at hd'
      ·rename_i args hargs
       cases hd'
       simp only [aleave] at h
       split at h
       ·rename_i id htar
        rw [htar] at ht
        simp only [ATarget.inst] at ht
        split at ht
        ·rename_i x hx
         cases ht
         split at h
         ·rename_i hb
          split at h
          ·rename_i hc
           simp only [Bool.and_eq_true] at hc
           obtain ⟨b,κ,o,e1,e2,e3⟩:=hS.at_ id _ hb
           rw [hx] at e1; cases e1
           obtain ⟨ds',g1,g2⟩:=e3
           simp only [instD,Option.some.injEq] at g1
           subst g1
           subst g2
           have hp:=post_set hS hb hc.1 hx (blk:=.deferred none) (o:=.deferred none) rfl (zo hc.2) (w':=w.putObj b (.deferred none)) rfl
           refine .inl ⟨b,_,rfl,run_takeDeferred e2,?_⟩
           exact aleave_ok hE hV hX ds m _ h hA hp.rel hf hm hdv fun e w' q => hq e w' (q.trans hp)
          ·cases h
         ·cases h
        ·cases ht
       ·rename_i g cap htar
        rw [htar] at ht
        simp only [ATarget.inst] at ht
        split at ht
        ·rename_i cv hcv
         cases ht
         split at h
         ·rename_i m' S₁ hdc
          have hfn : ∃ fn',E.fn g = some fn'∧fn'.body.isSome = true:=by
           unfold adeferred at hdc
           split at hdc
           ·rename_i fn' hfn'
            split at hdc
            ·rename_i c hc
             exact ⟨fn',hfn',by simp [hc]⟩
            ·cases hdc
           ·cases hdc
          obtain ⟨fn',hfn',hbody⟩:=hfn
          have hins:=(instL_iff.1 hargs).append (instL_iff.1 hcv)
          refine .inr ⟨fun hdp => by simp [Fence.wide] at hdp,.func g,cv.toArray,g,(args ++ cv).toArray,rfl,?_,fun _ _ => trivial,?_⟩
          ·have hP:=hE.fn g fn' hfn'
           have hnm:=hE.name g fn' hfn'
           cases hb : fn'.body with
           | none => rw [hb] at hbody; cases hbody
           | some c =>
             simp only [invoke,callFunc,Sem.run_bind,run_program,Result.andThen_ok,hP,hnm,hb]
             simp
          ·refine (adeferred_ok hE hV hX hdc hA hS hins hm).mono ?_
           rintro e u' w' ⟨σ',v,rfl,q2,q3⟩
           exact aleave_ok hE hV hX ds _ _ h (hA.le (q3.le hS)) q3.rel (hf.le (q3.le hS)) (settle_ok q2) (instD_le (q3.le hS) hdv) fun e w' q => hq e w' (q.trans q3)
         ·cases h
        ·cases ht
       ·cases h
      ·cases hd'
     ·cases hd'
    ·cases hd
   ·cases hd
end
noncomputable def rangeE (E : Env) (f k : Nat) : Option (Array Tmp×Code×Code):=match E.fn f with
 | some fn => match fn.body with
   | some c => pickKey k (yI c)
   | none => none
 | none => none
theorem rangeE_ok {E : Env} (hE : E.Ok) {f k : Nat} {r : Array Tmp×Code×Code} (h : rangeE E f k = some r) : rangeAt E.P f k = some r:=by
 unfold rangeE at h
 split at h
 ·rename_i fn hfn
  split at h
  ·rename_i c hc
   simp only [rangeAt,hE.fn f fn hfn,hc]
   exact h
  ·cases h
 ·cases h
noncomputable def codeE (E : Env) : LSrc→Option (Array Tmp×Code×Code)
 | .own p a b => some (p,a,b)
 | .at_ f k => rangeE E f k
theorem codeE_ok {E : Env} (hE : E.Ok) {s : LSrc} {r : Array Tmp×Code×Code} (h : codeE E s = some r) : s.code E.P = some r:=by
 cases s with
 | own p a b => exact h
 | at_ f k => exact rangeE_ok hE h
noncomputable def srcE (E : Env) (rf : Option Nat) (ps : Array Tmp) (assign body : Code) : LSrc:=match rf with
 | some f => match rangeE E f (keyOf body) with
   | some _ => .at_ f (keyOf body)
   | none => .own ps assign body
 | none => .own ps assign body
def InFn (E : Env) (rf : Option Nat) (r : Array Tmp×Code×Code) : Prop:=∀ f,rf = some f→∃ fn c,E.fn f = some fn∧fn.body = some c∧r ∈ yI c
theorem srcE_ok {E : Env} (hE : E.Ok) {rf : Option Nat} {ps : Array Tmp} {assign body : Code} (h : InFn E rf (ps,assign,body)) : (srcE E rf ps assign body).code E.P = some (ps,assign,body):=by
 unfold srcE
 split
 ·rename_i f
  split
  ·rename_i r hr
   obtain ⟨fn,c,h1,h2,h3⟩:=h f rfl
   have e:=rangeE_ok hE hr
   simp only [rangeE,h1,h2] at hr
   have:=pickKey_mem hr _ h3 rfl
   subst this
   exact e
  ·rfl
 ·rfl
noncomputable def rangedF (S S₁ : ASt) (f : AF) : AE×ASt→Option (List Out)
 | (.ret _,S₃) => match S₃.heap.get S₁.next with
   | some (.loop lp) => match lp.state with
     | .busy => none
     | _ => match S₃.limit S₁.next && Nat.blt S₁.next zM with
       | true =>
         let S₄ : ASt:={ heap:=Trie.put (some (.loop { lp with state:=.exhausted })) depth S₃.heap S₁.next,next:=S₃.next,limit:=S₃.limit }
         let f' : AF:={ T:=f.T,size:=f.size,defers:={ target:=.collected S.next,args:=[] } :: f.defers }
         match lp.pending with
         | none => some [(.normal,f',S₄)]
         | some .ret => some [(.ret,f',S₄)]
         | some (.exit id) => some [(.exit id,f',S₄)]
         | _ => none
       | false => none
   | _ => none
 | _ => none
noncomputable def arangeF (E : Env) (V : Ev) (rf : Option Nat) (g : Operand) (ps : Array Tmp) (assign body : Code) (f : AF) (S : ASt) : Option (List Out):=
 match zB E f.T g with
 | some (.func (.func gf) first cap) => match E.fn gf with
   | some fn => match fn.body with
     | some _ => match anew S (.deferred (some [])) with
       | some S₁ => match anew S₁ (.loop { state:=.ready,pending:=none,tmps:=f.T,size:=f.size,src:=srcE E rf ps assign body,defers:=S.next }) with
         | some S₂ => match V.call gf (first ++ [.yield S₁.next] ++ cap) S₂ with
           | some r => rangedF S S₁ f r
           | none => match V.calls gf (first ++ [.yield S₁.next] ++ cap) S₂ with
             | some rs => joinM (rangedF S S₁ f) rs
             | none => none
         | none => none
       | none => none
     | none => none
   | none => none
 | _ => none
noncomputable def mkOthers (E : Env) (V : Ev) (isRound : Bool) (rf : Option Nat) (lp : Code→AF→ASt→Option (List Out)) : Others:={
 draw:=fun _ ops => adraw E V.call ops,
 fork:=fun ops => aopsM E V isRound ops ops.toList,
 loop:=lp,
 range:=match isRound with
  | true => fun _ _ _ _ _ _ => none
  | false => arangeF E V rf }
noncomputable def putParams (size : Nat) : List Tmp→List AV→Trie AV→Option (Trie AV)
 | [],[],T => some T
 | t :: ts,v :: vs,T => match Nat.blt t size && Nat.blt t zM with
   | true => putParams size ts vs (Trie.put (some v) depth T t)
   | false => none
 | _,_,_ => none
noncomputable def aroundE (E : Env) (V : Ev) (id : Nat) (args : List AV) (S : ASt) : Option (AE×ASt):=
 match S.heap.get id with
 | some (.loop lp) => match codeE E lp.src with
  | some (pms,asg,bdy) => match putParams lp.size pms.toList args lp.tmps with
   | some T => match acode E V.call V.round true (mkOthers E V true none noLoop) asg { T:=T,size:=lp.size,defers:=[] } S with
     | some [(.normal,f₁,S₁)] => match S₁.heap.get id with
       | some (.loop lp₁) => match lp₁.state with
         | .ready => match S₁.limit id && Nat.blt id zM with
           | true => match acode E V.call V.round true (mkOthers E V true none noLoop) bdy f₁ { heap:=Trie.put (some (.loop { lp₁ with state:=.busy })) depth S₁.heap id,next:=S₁.next,limit:=S₁.limit } with
             | some [(x,f₃,S₃)] => match S₃.heap.get id with
               | some (.loop lp₃) => match S₃.limit id with
                 | true => match x with
                   | .normal => some (.ret (.bool true),{ heap:=Trie.put (some (.loop { lp₃ with state:=.ready,pending:=none })) depth S₃.heap id,next:=S₃.next,limit:=S₃.limit })
                   | .ret => some (.ret (.bool false),{ heap:=Trie.put (some (.loop { lp₃ with state:=.done,pending:=some .ret })) depth S₃.heap id,next:=S₃.next,limit:=S₃.limit })
                   | .exit i => some (.ret (.bool false),{ heap:=Trie.put (some (.loop { lp₃ with state:=.done,pending:=some (.exit i) })) depth S₃.heap id,next:=S₃.next,limit:=S₃.limit })
                   | _ => none
                 | false => none
               | _ => none
             | _ => none
           | false => none
         | _ => none
       | _ => none
     | _ => none
   | none => none
  | none => none
 | _ => none
section
variable {E : Env} {V : Ev}
theorem get_loop {σ : Sig} {S : ASt} {w : World} {Wr : Nat→Prop} (hS : S.rel E.P σ w Wr) {id : Nat} {lp : ALoop} (h : S.heap.get id = some (.loop lp)) :
  ∃ b κ l,σ id = some (b,κ)∧w.heap[b]? = some (.loop l)∧LRel E.P σ lp l:=by
 obtain ⟨b,κ,o,h1,h2,h3⟩:=hS.at_ id _ h
 obtain ⟨l,hl,ho⟩:=h3
 subst ho
 exact ⟨b,κ,l,h1,h2,hl⟩
theorem arangeF_ok (hE : E.Ok) (hV : EvOk E V) {rf : Option Nat} (g : Operand) (ps : Array Tmp) (assign body : Code) (hin : InFn E rf (ps,assign,body)) : CodeOk E none (.rangeFunc g ps assign body) (arangeF E V rf g ps assign body):=by
 intro f S outs h σ w Wr a n hA hS hf
 unfold arangeF at h
 split at h
 ·rename_i gf first cap hg
  split at h
  ·rename_i fn hfn
   split at h
   ·rename_i bd hbd
    split at h
    ·rename_i S₁ hn₁
     split at h
     ·rename_i S₂ hn₂
      -- the two new blocks
      obtain ⟨fs,cs,i1,i2,i3⟩:=inst_func (zW hA hf.tmps hg)
      obtain ⟨p1,s1⟩:=anew_ok (w':=w.alloc (.deferred (some []))) hS hn₁ (κ:=0) (o:=.deferred (some [])) ⟨[],rfl,rfl⟩ rfl
      refine wpIn_rangeFunc fun fnid _ => ?_
      let l0 : Loop:={ state:=.ready,pending:=none,fn:=fnid,tmps:=a.tmps,params:=ps,assign,body,defers:=w.heap.size }
      have hsz : (w.alloc (.deferred (some []))).heap.size = w.heap.size + 1:=by simp
      obtain ⟨p2,s2⟩:=anew_ok (w':=(w.alloc (.deferred (some []))).alloc (.loop l0)) p1.rel hn₂ (κ:=0) (o:=.loop l0)
       ⟨l0,⟨rfl,rfl,(hf.tmps.le (p1.le hS)),hf.size,srcE_ok hE hin,⟨_,s1,rfl⟩⟩,rfl⟩ rfl
      have p12:=p1.trans p2
      have hle:=p12.le hS
      have hins : Ins (((σ.add S.next (w.heap.size,0))).add S₁.next ((w.alloc (.deferred (some []))).heap.size,0)) (first ++ [.yield S₁.next] ++ cap) (fs ++ [Value.func (.yield (w.heap.size + 1)) #[] #[]] ++ cs):=by
       refine ((i1.le hle).append (.cons ?_ .nil)).append (i2.le hle)
       simp only [AV.inst]
       rw [s2]
       simp only [hsz]
      -- what is behind the call
      have behind : ∀ (r : AE×ASt) (outs₁ : List Out),rangedF S S₁ f r = some outs₁→(∀ x ∈ outs₁,x ∈ outs)→∀ (e : Ending) (w₃ : World),
        CallQ E (((σ.add S.next (w.heap.size,0))).add S₁.next ((w.alloc (.deferred (some []))).heap.size,0)) S₂ ((w.alloc (.deferred (some []))).alloc (.loop l0)) Wr r.1 r.2 e w₃ →
        ∃ y,e = .returned y∧∃ c w₄,(Instr.endLoop (w.heap.size + 1)).run E.P w₃ = .ok c w₄ ∧
          (match c with
            | none => CodeQs E σ S w Wr outs .normal { a with defers:=[{ target:=.collected w.heap.size,args:=#[] }] ++ a.defers } w₄
            | some c => c.wpIn (fence none) n E.P (CodeQs E σ S w Wr outs) { a with defers:=[{ target:=.collected w.heap.size,args:=#[] }] ++ a.defers } w₄):=by
       intro r outs₁ h hsub e w₃ hq
       obtain ⟨r,S₃⟩:=r
       cases r with
       | panic v => simp only [rangedF] at h; cases h
       | ret v =>
       obtain ⟨σ₃,⟨y,hy,rfl⟩,p3⟩:=hq
       refine ⟨y,rfl,?_⟩
       simp only [rangedF] at h
       split at h
       ·rename_i lp hlp
        split at h
        ·cases h
        ·rename_i hnb
         split at h
         ·rename_i hc
          simp only [Bool.and_eq_true] at hc
          have p13:=p12.trans p3
          obtain ⟨b,κ,l,e1,e2,e3⟩:=get_loop p3.rel hlp
          have hb : b = w.heap.size + 1:=by
           have:=(p3.le p2.rel) _ _ s2
           rw [e1] at this
           cases this
           exact hsz
          subst hb
          have hbusy : l.state≠.busy:=by rw [e3.state]; exact hnb
          have p4:=post_set p3.rel hlp hc.1 e1 (blk:=.loop { lp with state:=.exhausted }) (o:=.loop { l with state:=.exhausted })
           ⟨{ l with state:=.exhausted },⟨rfl,e3.pending,e3.tmps,e3.size,e3.code,e3.defers⟩,rfl⟩ (zo hc.2) (w':=w₃.putObj (w.heap.size + 1) (.loop { l with state:=.exhausted })) rfl
          have p14:=p13.trans p4
          have hfr : FRel σ₃ { T:=f.T,size:=f.size,defers:={ target:=.collected S.next,args:=[] } :: f.defers } { a with defers:=[{ target:=.collected w.heap.size,args:=#[] }] ++ a.defers }:=by
           have hle3:=p13.le hS
           refine ⟨hf.tmps.le hle3,hf.size,?_⟩
           have hs1 : σ₃ S.next = some (w.heap.size,0):=((p3.le p2.rel) _ _ ((p2.le p1.rel) _ _ s1))
           simp [instD,ADef.inst,ATarget.inst,hs1,instL,instD_le hle3 hf.defers]
          have hend:=run_endLoop (P:=E.P) e2 hbusy
          split at h
          ·rename_i hpe
           cases h
           exact ⟨none,_,hend.trans (by rw [e3.pending,hpe]),⟨_,hsub _ (List.mem_singleton.2 rfl),σ₃,rfl,hfr,p14⟩⟩
          ·rename_i hpe
           cases h
           exact ⟨some .ret,_,hend.trans (by rw [e3.pending,hpe]),wpIn_ret ⟨_,hsub _ (List.mem_singleton.2 rfl),σ₃,rfl,hfr,p14⟩⟩
          ·rename_i i hpe
           cases h
           exact ⟨some (.exit i),_,hend.trans (by rw [e3.pending,hpe]),wpIn_exit ⟨_,hsub _ (List.mem_singleton.2 rfl),σ₃,rfl,hfr,p14⟩⟩
          ·cases h
         ·cases h
       ·cases h
      have all : Calls E.P gf (fs ++ [Value.func (.yield (w.heap.size + 1)) #[] #[]] ++ cs).toArray ((w.alloc (.deferred (some []))).alloc (.loop l0)) fun e w₃ =>
        ∃ y,e = .returned y∧∃ c w₄,(Instr.endLoop (w.heap.size + 1)).run E.P w₃ = .ok c w₄ ∧
          (match c with
            | none => CodeQs E σ S w Wr outs .normal { a with defers:=[{ target:=.collected w.heap.size,args:=#[] }] ++ a.defers } w₄
            | some c => c.wpIn (fence none) n E.P (CodeQs E σ S w Wr outs) { a with defers:=[{ target:=.collected w.heap.size,args:=#[] }] ++ a.defers } w₄):=by
       split at h
       ·rename_i r hcall
        refine (hV.1 gf _ S₂ _ _ hcall _ _ Wr _ (hA.le hle) p2.rel hins).mono ?_
        exact fun e w₃ hq => behind r outs h (fun _ hx => hx) e w₃ hq
       ·split at h
        ·rename_i rs hcall
         refine (hV.2.2.2 gf _ S₂ _ hcall _ _ Wr _ (hA.le hle) p2.rel hins).mono ?_
         rintro e w₃ ⟨r,hr,hq⟩
         obtain ⟨outs₁,h1,h2⟩:=joinM_mem h r hr
         exact behind r outs₁ h1 h2 e w₃ hq
        ·cases h
      refine ⟨w.heap.size + 1,[{ target:=.collected w.heap.size,args:=#[] }],(w.alloc (.deferred (some []))).alloc (.loop l0),{ target:=.fn (.func gf) cs.toArray,args:=fs.toArray ++ #[Value.func (.yield (w.heap.size + 1)) #[] #[]] },
       (w.alloc (.deferred (some []))).alloc (.loop l0),gf,(fs ++ [Value.func (.yield (w.heap.size + 1)) #[] #[]] ++ cs).toArray,(w.alloc (.deferred (some []))).alloc (.loop l0),run_enterLoop_outer _ _ _ _ _,?_,fun _ _ => trivial,?_,
       fun hd => by simp [fence,Fence.wide] at hd,?_⟩
      ·simp only [resolve,rangeCall,i3,Deferred.ofValue]
       simp [Act.eval]
      ·have hP:=hE.fn gf fn hfn
       have hnm:=hE.name gf fn hfn
       simp only [invoke,callFunc,Sem.run_bind,run_program,Result.andThen_ok,hP,hnm,hbd]
       simp
      ·refine fence_calls (ro:=none) (all.mono ?_)
       rintro e w₃ ⟨y,rfl,c,w₄,h1,h2⟩
       cases c with
       | none => exact ⟨none,w₄,h1,h2⟩
       | some c => exact ⟨some c,w₄,h1,h2⟩
     ·cases h
    ·cases h
   ·cases h
  ·cases h
 ·cases h
theorem mkOthers_ok (hE : E.Ok) (hV : EvOk E V) (ro : Option Nat) (rf : Option Nat) (lp : Code→AF→ASt→Option (List Out)) (c : Code) (hc : ∀ f,rf = some f→∃ fn,E.fn f = some fn∧fn.body = some c) : OthersOk E ro (mkOthers E V ro.isSome rf lp) c:=by
 refine ⟨⟨fun id ops => adraw_ok hE hV.1 ro id ops,fun id ops => fork_ok hE hV.1 hV.2.1 hV.2.2.2 ro id ops⟩,fun r hr g => ?_⟩
 cases ro with
 | none => exact arangeF_ok hE hV g r.1 r.2.1 r.2.2 fun f hf => let ⟨fn,h1,h2⟩:=hc f hf; ⟨fn,c,h1,h2,hr⟩
 | some b => intro f S outs h; cases h
theorem putParams_ok {σ : Sig} {size : Nat} : ∀ {ps : List Tmp} {vs : List AV} {us : List Value} {T T' : Trie AV} {tmps : Array Value},putParams size ps vs T = some T'→Ins σ vs us→TRel σ T tmps→tmps.size = size →
  ps.length = vs.length∧TRel σ T' ((ps.zip us).foldl (fun t (p,v) => t.setIfInBounds p v) tmps)∧((ps.zip us).foldl (fun t (p,v) => t.setIfInBounds p v) tmps).size = size
 | [],[],us,T,T',tmps,h,hi,hT,hs => by
   cases hi
   simp only [putParams,Option.some.injEq] at h
   subst h
   exact ⟨rfl,hT,hs⟩
 | t :: ts,v :: vs,us,T,T',tmps,h,hi,hT,hs => by
   cases hi with
   | cons ha hl =>
     rename_i u us
     simp only [putParams] at h
     split at h
     ·rename_i hc
      simp only [Bool.and_eq_true] at hc
      have hput:=AF.put_ok (σ:=σ) (f:={ T:=T,size:=size,defers:=[] }) (a:={ tmps:=tmps,defers:=[] }) ⟨hT,hs,rfl⟩ (dst:=some t) ha (f':={ T:=Trie.put (some v) depth T t,size:=size,defers:=[] }) (by have e1:=hc.1; have e2:=hc.2; unfold Nat.blt at e1 e2; simp only [AF.put,Nat.succ_eq_add_one,e1,e2])
      obtain ⟨h1,h2,h3⟩:=putParams_ok (tmps:=tmps.setIfInBounds t u) h hl hput.tmps hput.size
      exact ⟨by simp [h1],by simpa using h2,by simpa using h3⟩
     ·cases h
 | [],_ :: _,us,T,T',tmps,h,hi,hT,hs => by simp [putParams] at h
 | _ :: _,[],us,T,T',tmps,h,hi,hT,hs => by simp [putParams] at h
theorem aroundE_ok (hE : E.Ok) (hV : EvOk E V) : RoundsOk E (aroundE E V):=by
 intro id args S r S' h σ w Wr us b κ hA hS hi hs
 unfold aroundE at h
 split at h
 ·rename_i lp hlp
  obtain ⟨b',κ',l,e1,e2,e3⟩:=get_loop hS hlp
  rw [hs] at e1; cases e1
  cases hcode : codeE E lp.src
  ·rw [hcode] at h; cases h
  rename_i r0
  obtain ⟨pms,asg,bdy⟩:=r0
  rw [hcode] at h
  dsimp only at h
  have hcd:=e3.code
  rw [codeE_ok hE hcode] at hcd
  cases hcd
  split at h
  ·rename_i T hput
   obtain ⟨hlen,hT,hsize⟩:=putParams_ok (tmps:=l.tmps) hput hi e3.tmps e3.size
   have hul:=hi.length
   have hfold : ((l.params.zip us.toArray).foldl (fun tmps (t,a) => tmps.setIfInBounds t a) l.tmps) = ((l.params.toList.zip us).foldl (fun t (p,v) => t.setIfInBounds p v) l.tmps):=by
    rw [← Array.foldl_toList,Array.toList_zip]
   refine ⟨l.fn,_,l.assign,l.body,run_yield e2 (by simp at hlen ⊢; omega),fun n => ?_⟩
   rw [hfold]
   split at h
   ·rename_i f₁ S₁ hass
    split at h
    ·rename_i lp₁ hlp₁
     split at h
     ·rename_i hready
      split at h
      ·rename_i hc
       simp only [Bool.and_eq_true] at hc
       split at h
       ·rename_i x f₃ S₃ hbody
        split at h
        ·rename_i lp₃ hlp₃
         split at h
         ·rename_i hlim
          refine roundIn_of_wpIn trivial ?_
          have hX:=fun c => mkOthers_ok hE hV (some b) none noLoop c (fun _ h => by cases h)
          have hw:=acode_ok hE hV.1 hV.2.1 (ro:=some b) l.assign (hX _) (fun _ _ => yc) { T:=T,size:=lp.size,defers:=[] } S _ hass σ w Wr { tmps:=(l.params.toList.zip us).foldl (fun t (p,v) => t.setIfInBounds p v) l.tmps,defers:=[] } n hA hS ⟨hT,hsize,rfl⟩
          refine wpIn_mono hw ?_
          rintro e a₁ w₁ ⟨o,ho,hcq⟩
          rw [List.mem_singleton] at ho
          subst ho
          obtain ⟨σ₁,rfl,q2,q3⟩:=hcq
          obtain ⟨b₁,κ₁,l₁,f1,f2,f3⟩:=get_loop q3.rel hlp₁
          have hb1 : b₁ = b:=by
           have:=(q3.le hS) _ _ hs
           rw [f1] at this
           cases this; rfl
          subst hb1
          have p2:=post_set q3.rel hlp₁ hc.1 f1 (blk:=.loop { lp₁ with state:=.busy }) (o:=.loop { l₁ with state:=.busy })
           ⟨{ l₁ with state:=.busy },⟨rfl,f3.pending,f3.tmps,f3.size,f3.code,f3.defers⟩,rfl⟩ (zo hc.2) (w':=w₁.putObj b₁ (.loop { l₁ with state:=.busy })) rfl
          refine ⟨_,run_beginRound f2 (by rw [f3.state]; exact hready),?_⟩
          have p12:=q3.trans p2
          have hw2:=acode_ok hE hV.1 hV.2.1 (ro:=some b₁) l.body (hX _) (fun _ _ => yc) f₁ _ _ hbody σ₁ _ Wr a₁ n (hA.le (p12.le hS)) p2.rel q2
          refine wpIn_mono hw2 ?_
          rintro e a₃ w₃ ⟨o,ho,hcq⟩
          rw [List.mem_singleton] at ho
          subst ho
          obtain ⟨σ₃,r1,r2,r3⟩:=hcq
          have p13:=p12.trans r3
          obtain ⟨b₃,κ₃,l₃,g1,g2,g3⟩:=get_loop r3.rel hlp₃
          have hb3 : b₃ = b₁:=by
           have:=(p13.le hS) _ _ hs
           rw [g1] at this
           cases this; rfl
          subst hb3
          have fin : ∀ (st : LoopState) (pe : Option Code),Post E.P σ S w Wr σ₃ { heap:=Trie.put (some (.loop { lp₃ with state:=st,pending:=pe })) depth S₃.heap id,next:=S₃.next,limit:=S₃.limit } (w₃.putObj b₃ (.loop { l₃ with state:=st,pending:=pe })):=fun st pe =>
           p13.trans (post_set r3.rel hlp₃ hlim g1 (blk:=.loop { lp₃ with state:=st,pending:=pe }) (o:=.loop { l₃ with state:=st,pending:=pe })
            ⟨{ l₃ with state:=st,pending:=pe },⟨rfl,rfl,g3.tmps,g3.size,g3.code,g3.defers⟩,rfl⟩ (zo hc.2) rfl)
          split at h
          ·obtain rfl:=r1
           cases h
           exact ⟨_,_,run_endRound none g2,σ₃,⟨_,rfl,rfl⟩,fin .ready none⟩
          ·obtain rfl:=r1
           cases h
           exact ⟨_,_,run_endRound (some .ret) g2,σ₃,⟨_,rfl,rfl⟩,fin .done (some .ret)⟩
          ·rename_i i
           obtain rfl:=r1
           cases h
           exact ⟨_,_,run_endRound (some (.exit i)) g2,σ₃,⟨_,rfl,rfl⟩,fin .done (some (.exit i))⟩
          ·cases h
         ·cases h
        ·cases h
       ·cases h
      ·cases h
     ·cases h
    ·cases h
   ·cases h
  ·cases h
 ·cases h
end
open Go
noncomputable def allSame (v : AV) : List (AE×ASt)→Bool
 | [] => true
 | (.ret u,_) :: l => match yS u v with
   | true => allSame v l
   | false => false
 | (.panic _,_) :: _ => false
noncomputable def mergePure : List (AE×ASt)→Option AV
 | (.ret v,_) :: l => match v.plain with
   | some _ => match allSame v l with
     | true => some v
     | false => none
   | none => none
 | _ => none
theorem allSame_ok {v : AV} : ∀ {l : List (AE×ASt)},allSame v l = true→∀ x ∈ l,x.1 = .ret v
 | [],_,x,hx => by cases hx
 | (.ret u,S) :: l,h,x,hx => by
   simp only [allSame] at h
   split at h
   ·rename_i hs
    cases hx with
    | head => rw [sameAV_ok hs]
    | tail _ hm => exact allSame_ok h x hm
   ·cases h
 | (.panic u,S) :: l,h,x,hx => by simp [allSame] at h
theorem mergePure_ok {l : List (AE×ASt)} {v : AV} (h : mergePure l = some v) : (∃ p,v.plain = some p)∧∀ x ∈ l,x.1 = .ret v:=by
 unfold mergePure at h
 split at h
 ·rename_i v₁ S₁ l₁
  split at h
  ·rename_i p hp
   split at h
   ·rename_i hs
    cases h
    refine ⟨⟨p,hp⟩,fun x hx => ?_⟩
    cases hx with
    | head => rfl
    | tail _ hm => exact allSame_ok hs x hm
   ·cases h
  ·cases h
 ·cases h
theorem ins_plain {σ τ : Sig} : ∀ {l : List AV} {vs : List Value},(AV.agg l).plain.isSome = true→Ins σ l vs→Ins τ l vs:=by
 intro l vs h hi
 obtain ⟨v,hv⟩:=Option.isSome_iff_exists.1 h
 have h1:=AV.plain_inst hv σ
 have h2:=AV.plain_inst hv τ
 simp only [AV.inst] at h1 h2
 rw [instL_iff.2 hi] at h1
 simp only [Option.some.injEq] at h1
 subst h1
 split at h2
 ·rename_i c hc
  simp only [Option.some.injEq,Value.agg.injEq] at h2
  have:=instL_iff.1 hc
  have e : c = vs:=by simpa using congrArg Array.toList h2
  rw [e] at this
  exact this
 ·cases h2
theorem post_name {P : Program} {σ : Sig} {S : ASt} {w w' : World} {Wr : Nat→Prop} (hS : S.rel P σ w Wr) (hn : S.next < zM) {b κ : Nat} {blk : ABlock} {o : Obj}
  (hk : Kept (fun b => w.heap.size≤b) w w') (hbn : w.heap.size≤b) (ho : w'.heap[b]? = some o) (hb : BRel P (σ.add S.next (b,κ)) κ blk o) :
  Post P σ S w Wr (σ.add S.next (b,κ)) { heap:=Trie.put (some blk) depth S.heap S.next,next:=S.next + 1,limit:=S.limit } w':=by
 have hle : σ.le (σ.add S.next (b,κ)):=(Sig.add_upto σ S.next _).le fun id hid => (hS.fresh id hid).1
 have hget : ∀ j,(Trie.put (some blk) depth S.heap S.next).get j = if j = S.next then some blk else S.heap.get j:=fun j => Trie.get_put _ _ _ _ (by simpa [zM] using hn)
 have hlt : ∀ id b x,S.heap.get id = some b→σ id = some x→x.1 < w.heap.size:=fun id b x h1 h2 => by
  obtain ⟨b',κ',o',e1,e2,_⟩:=hS.at_ id b h1
  rw [e1] at h2; cases h2
  exact (Array.getElem?_eq_some_iff.1 e2).1
 refine ⟨⟨?_,?_,?_,?_,?_,?_⟩,Sig.add_upto _ _ _,Nat.le_succ _,rfl,⟨hk.size,fun b hb' => hk.same b fun e => hb' (hS.wrNew b e),hk.out⟩,fun id hid => by
  have hne : id≠S.next:=fun e => by
   have:=hS.low id (by omega)
   rw [hid] at this; cases this
  show (Trie.put (some blk) depth S.heap S.next).get id = _
  rw [hget,if_neg hne]⟩
 ·intro id bk h
  rw [hget] at h
  split at h
  ·rename_i hid; subst hid; cases h
   exact ⟨b,κ,o,Sig.add_same _ _ _,ho,hb⟩
  ·rename_i hid
   obtain ⟨b',κ',o',e1,e2,e3⟩:=hS.at_ id bk h
   refine ⟨b',κ',o',hle _ _ e1,?_,e3.le hle⟩
   have hlt':=(Array.getElem?_eq_some_iff.1 e2).1
   rw [hk.same b' (by omega)]
   exact e2
 ·intro i j bi bj x y hi hj hx hy hxy
  rw [hget] at hi hj
  simp only [Sig.add] at hx hy
  split at hi <;> split at hj
  ·omega
  ·rename_i h1 h2
   rw [if_pos h1] at hx; rw [if_neg h2] at hy
   cases hx
   have:=hlt j bj y hj hy
   simp only at hxy; omega
  ·rename_i h1 h2
   rw [if_neg h1] at hx; rw [if_pos h2] at hy
   cases hy
   have:=hlt i bi x hi hx
   simp only at hxy; omega
  ·rename_i h1 h2
   rw [if_neg h1] at hx; rw [if_neg h2] at hy
   exact hS.inj i j bi bj x y hi hj hx hy hxy
 ·intro id bk x h hl hx
  rw [hget] at h
  simp only [Sig.add] at hx
  split at h
  ·rename_i h1
   rw [if_pos h1] at hx; cases hx
   exact hS.wrNew _ hbn
  ·rename_i h1
   rw [if_neg h1] at hx
   exact hS.wr id bk x h hl hx
 ·intro b' hb'
  have:=hk.size
  exact hS.wrNew b' (by omega)
 ·intro id hid
  have h1 : S.next + 1≤id:=hid
  have:=hS.fresh id (by omega)
  show (σ.add S.next (b,κ)) id = none∧(Trie.put (some blk) depth S.heap S.next).get id = none
  rw [hget,if_neg (by omega)]
  simp only [Sig.add]
  rw [if_neg (by omega)]
  exact this
 ·intro id hid
  have hid' : S.next + 1≤id:=hid
  exact hS.low id (by omega)
structure SlOut where
 off : Nat
 len : Nat
 cap : Nat
 ex : Bool
 cells : List AV
 type : TypeId
noncomputable def slOut (n : Nat) : AE×ASt→Option SlOut
 | (.ret (.slice id off len cap ex),S') => match Nat.ble n id with
   | true => match S'.heap.get id with
     | some (.cells l t) => match (AV.agg l).plain.isSome with
       | true => some ⟨off,len,cap,ex,l,t⟩
       | false => none
     | _ => none
   | false => none
 | _ => none
noncomputable def isOut (n : Nat) (y : SlOut) (x : AE×ASt) : Bool:=match slOut n x with
 | some z => Nat.beq z.off y.off && (Nat.beq z.len y.len && (Nat.beq z.cap y.cap && ((match z.ex with | true => y.ex | false => !y.ex) && (sameAVs z.cells y.cells && Nat.beq z.type y.type))))
 | none => false
noncomputable def mergeSl (S : ASt) (rs : List (AE×ASt)) : Option (AE×ASt):=match rs with
 | x :: l => match slOut S.next x with
   | some y => match l.all (isOut S.next y) with
     | true => match Nat.blt S.next zM with
       | true => some (.ret (.slice S.next y.off y.len y.cap y.ex),{ heap:=Trie.put (some (.cells y.cells y.type)) depth S.heap S.next,next:=S.next + 1,limit:=S.limit })
       | false => none
     | false => none
   | none => none
 | [] => none
theorem isOut_ok {n : Nat} {y : SlOut} {x : AE×ASt} (h : isOut n y x = true) : slOut n x = some y:=by
 unfold isOut at h
 split at h
 ·rename_i z hz
  simp only [Bool.and_eq_true] at h
  obtain ⟨h1,h2,h3,h4,h5,h6⟩:=h
  obtain ⟨a,b,c,d,e,f⟩:=z
  obtain ⟨a',b',c',d',e',f'⟩:=y
  simp only at h1 h2 h3 h4 h5 h6
  obtain rfl:=Nat.eq_of_beq_eq_true h1
  obtain rfl:=Nat.eq_of_beq_eq_true h2
  obtain rfl:=Nat.eq_of_beq_eq_true h3
  obtain rfl:=sameAVs_ok h5
  obtain rfl:=Nat.eq_of_beq_eq_true h6
  have : d = d':=by cases d <;> cases d' <;> simp_all
  subst this
  exact hz
 ·cases h
theorem mergeSl_ok {S : ASt} {rs : List (AE×ASt)} {r : AE×ASt} (h : mergeSl S rs = some r) : S.next < zM∧∃ y,(∀ x ∈ rs,slOut S.next x = some y) ∧
  r = (.ret (.slice S.next y.off y.len y.cap y.ex),{ heap:=Trie.put (some (.cells y.cells y.type)) depth S.heap S.next,next:=S.next + 1,limit:=S.limit }):=by
 unfold mergeSl at h
 split at h
 ·rename_i x l
  split at h
  ·rename_i y hy
   split at h
   ·rename_i hall
    split at h
    ·rename_i hn
     cases h
     refine ⟨zo hn,y,fun z hz => ?_,rfl⟩
     cases hz with
     | head => exact hy
     | tail _ hm => exact isOut_ok (List.all_eq_true.1 hall z hm)
    ·cases h
   ·cases h
  ·cases h
 ·cases h
noncomputable def acallE (E : Env) (L : yj) (V : Ev) (f : FuncId) (args : List AV) (S : ASt) : Option (AE×ASt):=
 match L f args S with
 | some r => some r
 | none => match E.skip f with
  | true => none
  | false => match E.fn f with
   | some fn => match fn.body with
     | some c => match aframe args fn.ntmps with
       | some fr => match E.pure f with
         | true => match acode E V.call V.round false (mkOthers E V false (some f) (V.loop f)) c fr (zT S (yi S.next [])) with
           | some outs => match joinM (leave1 E V (mkOthers E V false (some f) (V.loop f)) fn) outs with
             | some rs => match mergePure rs with
               | some v => some (.ret v,S)
               | none => match rs with
                 | [(r,S')] => some (r,zT S' S.limit)
                 | rs => mergeSl S rs
             | none => none
           | none => none
         | false => match acode E V.call V.round false (mkOthers E V false (some f) (V.loop f)) c fr S with
           | some outs => match joinM (leave1 E V (mkOthers E V false (some f) (V.loop f)) fn) outs with
             | some [(r,S')] => some (r,S')
             | _ => none
           | none => none
       | none => none
     | none => none
   | none => none
noncomputable def zS (E : Env) (V : Ev) (f : FuncId) (args : List AV) (S : ASt) : Option (List (AE×ASt)):=
 match E.fn f with
 | some fn => match fn.body with
   | some c => match aframe args fn.ntmps with
     | some fr => match acode E V.call V.round false (mkOthers E V false (some f) (V.loop f)) c fr S with
       | some outs => joinM (leave1 E V (mkOthers E V false (some f) (V.loop f)) fn) outs
       | none => none
     | none => none
   | none => none
 | none => none
abbrev LoopE:=FuncId→Code→AF→ASt→Option (List Out)
def yX : LoopE:=fun _ => noLoop
noncomputable def evH (E : Env) (L : yj) (H : LoopE) : Nat→Ev
 | 0 => { call:=L,round:=fun _ _ _ => none,loop:=H,calls:=fun _ _ _ => none }
 | d + 1 => { call:=acallE E L (evH E L H d),round:=aroundE E (evH E L H d),loop:=H,calls:=zS E (evH E L H d) }
noncomputable abbrev ev (E : Env) (L : yj) (d : Nat) : Ev:=evH E L yX d
section
variable {E : Env} {L : yj} {V : Ev}
theorem leave1_ok (hE : E.Ok) (hV : EvOk E V) {X : Others} (hX : DrawOk E none X) {fn : Func} {n : Nat} {outs : List Out} {rs : List (AE×ASt)} (hj : joinM (leave1 E V X fn) outs = some rs)
  {σ : Sig} {S : ASt} {w : World} {Wr : Nat→Prop} (hA : E.At σ) (hS : S.rel E.P σ w Wr) {Rr : Ending→World→Prop} (hq : ∀ r S',(r,S') ∈ rs→∀ e w',CallQ E σ S w Wr r S' e w'→Rr e w')
  {e : Exit} {a : Act} {w₁ : World} (h : CodeQs E σ S w Wr outs e a w₁) : bodyPostM Fence.wide n E.P fn Rr e a w₁:=by
 obtain ⟨o,ho,hc⟩:=h
 obtain ⟨r,hr,hsub⟩:=joinM_mem hj o ho
 obtain ⟨x,f,S₁⟩:=o
 obtain ⟨σ',q1,q2,q3⟩:=hc
 have key : ∀ (m : AM) (u : FrameMode),MRel σ' m u→(match aleave E V X fn f f.defers m S₁ with | some r => some [r] | none => none) = some r→LeavesInM Fence.wide n E.P fn a.tmps Rr a.defers u w₁:=by
  intro m u hm hl
  split at hl
  ·rename_i r₁ hr₁
   cases hl
   obtain ⟨r₁,S₂⟩:=r₁
   exact aleave_ok hE hV hX f.defers m S₁ hr₁ (hA.le (q3.le hS)) q3.rel q2 hm q2.defers fun e w' q => hq r₁ S₂ (hsub _ (List.mem_singleton.2 rfl)) e w' (q.trans q3)
  ·cases hl
 cases x with
 | normal => obtain rfl:=q1; exact key .ret .returning rfl hr
 | ret => obtain rfl:=q1; exact key .ret .returning rfl hr
 | panic v => obtain ⟨u,hu,rfl⟩:=q1; exact key (.pan v false) _ ⟨u,hu,rfl⟩ hr
 | exit id => cases hr
 | goto l => cases hr
theorem pure_post {P : Program} {σ : Sig} {S : ASt} {w w' : World} {Wr : Nat→Prop} (hS : S.rel P σ w Wr) (hk : Kept (fun b => w.heap.size≤b) w w') : Post P σ S w Wr σ S w':=by
 refine ⟨⟨fun id blk h => ?_,hS.inj,hS.wr,fun b hb => hS.wrNew b (Nat.le_trans hk.size hb),hS.fresh,hS.low⟩,Sig.upto_refl _ _,Nat.le_refl _,rfl,⟨hk.size,fun b hb => hk.same b fun e => hb (hS.wrNew b e),hk.out⟩,fun _ _ => rfl⟩
 obtain ⟨b,κ,o,h1,h2,h3⟩:=hS.at_ id blk h
 have hb:=(Array.getElem?_eq_some_iff.1 h2).1
 exact ⟨b,κ,o,h1,by rw [hk.same b (by omega)]; exact h2,h3⟩
theorem acallAll_ok (hE : E.Ok) (hV : EvOk E V) {f : FuncId} {args : List AV} {S : ASt} {rs : List (AE×ASt)} (h : zS E V f args S = some rs) {σ : Sig} {w : World} {Wr : Nat→Prop} {us : List Value} (hA : E.At σ) (hS : S.rel E.P σ w Wr) (hi : Ins σ args us) :
  Calls E.P f us.toArray w fun e w' => ∃ r,r ∈ rs∧CallQ E σ S w Wr r.1 r.2 e w':=by
 unfold zS at h
 split at h
 ·rename_i fn hfn
  split at h
  ·rename_i c hc
   split at h
   ·rename_i fr hfr
    split at h
    ·rename_i outs hev
     have hX:=mkOthers_ok hE hV none (some f) (V.loop f) c (fun g hg => by cases hg; exact ⟨fn,hfn,hc⟩)
     have hframe:=aframe_ok hi hfr
     have hP:=hE.fn f fn hfn
     refine callsIn_wide.1 (callsIn_of_wp_marks (F:=Fence.wide) (n:=0) hP hc trivial ?_)
     exact wpIn_mono (acode_ok hE hV.1 hV.2.1 (ro:=none) c hX (hV.2.2.1 f fn c hfn hc) fr S outs hev σ w Wr _ 0 hA hS hframe) fun e a w' q => leave1_ok hE hV hX.1 h hA hS (fun r S' hm e w' q => ⟨(r,S'),hm,q⟩) q
    ·cases h
   ·cases h
  ·cases h
 ·cases h
theorem acallE_ok (hE : E.Ok) (hL : zu E L) (hV : EvOk E V) : zu E (acallE E L V):=by
 intro f args S r S' h σ w Wr us hA hS hi
 unfold acallE at h
 split at h
 ·rename_i r₁ hr₁
  cases h
  exact hL f args S r S' hr₁ σ w Wr us hA hS hi
 ·split at h
  ·cases h
  split at h
  ·rename_i fn hfn
   split at h
   ·rename_i c hc
    split at h
    ·rename_i fr hfr
     have hX:=mkOthers_ok hE hV none (some f) (V.loop f) c (fun g hg => by cases hg; exact ⟨fn,hfn,hc⟩)
     have hframe:=aframe_ok hi hfr
     have hP:=hE.fn f fn hfn
     -- a body walked from some state
     have walk : ∀ (S₀ : ASt) (Wr₀ : Nat→Prop) (outs : List Out) (rs : List (AE×ASt)),S₀.rel E.P σ w Wr₀→acode E V.call V.round false (mkOthers E V false (some f) (V.loop f)) c fr S₀ = some outs→joinM (leave1 E V (mkOthers E V false (some f) (V.loop f)) fn) outs = some rs →
       ∀ Rr : Ending→World→Prop,(∀ r S',(r,S') ∈ rs→∀ e w',CallQ E σ S₀ w Wr₀ r S' e w'→Rr e w')→Calls E.P f us.toArray w Rr:=by
      intro S₀ Wr₀ outs rs hS₀ hev hj Rr hq
      refine callsIn_wide.1 (callsIn_of_wp_marks (F:=Fence.wide) (n:=0) hP hc trivial ?_)
      exact wpIn_mono (acode_ok hE hV.1 hV.2.1 (ro:=none) c hX (hV.2.2.1 f fn c hfn hc) fr S₀ outs hev σ w Wr₀ _ 0 hA hS₀ hframe) fun e a w' q => leave1_ok hE hV hX.1 hj hA hS₀ hq q
     split at h
     ·split at h
      ·rename_i outs hev
       split at h
       ·rename_i rs hj
        split at h
        ·rename_i v hmp
         cases h
         obtain ⟨⟨p,hp⟩,hall⟩:=mergePure_ok hmp
         refine walk _ _ outs rs (limited hS [] rfl) hev hj _ ?_
         rintro r₁ S₁ hm e w' ⟨σ',q1,q3⟩
         have hr:=hall _ hm
         simp only at hr
         subst hr
         obtain ⟨u,hu,rfl⟩:=q1
         rw [AV.plain_inst hp σ'] at hu
         cases hu
         have hk : Kept (fun b => w.heap.size≤b) w w':=⟨q3.kept.size,fun b hb => q3.kept.same b (by
          rintro (e | ⟨id,hid,_⟩)
          ·exact hb e
          ·cases hid),q3.kept.out⟩
         exact ⟨σ,⟨_,AV.plain_inst hp σ,rfl⟩,pure_post hS hk⟩
        ·split at h
         ·rename_i r₁ S₁ _
          cases h
          refine walk _ _ outs _ (limited hS [] rfl) hev hj _ ?_
          rintro r₂ S₂ hm e w' ⟨σ',q1,q3⟩
          rw [List.mem_singleton] at hm
          cases hm
          exact ⟨σ',q1,unlimit hS (W:=[]) rfl q3⟩
         ·obtain ⟨hnx,y,hall,hr⟩:=mergeSl_ok h
          cases hr
          refine walk _ _ outs _ (limited hS [] rfl) hev hj _ ?_
          rintro r₂ S₂ hm e w' ⟨σ',q1,q3⟩
          have hy:=hall _ hm
          unfold slOut at hy
          split at hy
          ·rename_i id off len cap ex S₃ heq
           cases heq
           split at hy
           ·rename_i hid
            have hid':=Nat.le_of_ble_eq_true hid
            split at hy
            ·rename_i l t hb
             split at hy
             ·rename_i hpl
              cases hy
              obtain ⟨u,hu,rfl⟩:=q1
              have hk : Kept (fun b => w.heap.size≤b) w w':=⟨q3.kept.size,fun b hb => q3.kept.same b (by
               rintro (e | ⟨id,hid,_⟩)
               ·exact hb e
               ·cases hid),q3.kept.out⟩
              obtain ⟨b,κ,o,e1,e2,e3⟩:=q3.rel.at_ id _ hb
              have hbn : w.heap.size≤b:=by
               have hlim : S₂.limit id = true:=by
                rw [q3.limit]
                exact yh.2 (.inl hid')
               rcases q3.rel.wr id _ _ hb hlim e1 with e | ⟨i,hi,_⟩
               ·exact e
               ·cases hi
              have hblk : BRel E.P (σ.add S.next (b,κ)) κ (.cells l t) o:=by
               obtain ⟨vs,rest,fr,i1,i2⟩:=e3
               exact ⟨vs,rest,fr,ins_plain hpl i1,i2⟩
              refine ⟨_,⟨u,?_,rfl⟩,post_name hS hnx hk hbn e2 hblk⟩
              simp only [AV.inst] at hu ⊢
              rw [e1] at hu
              rw [Sig.add_same]
              exact hu
             ·cases hy
            ·cases hy
           ·cases hy
          ·cases hy
       ·cases h
      ·cases h
     ·split at h
      ·rename_i outs hev
       split at h
       ·rename_i r₁ S₁ hj
        cases h
        refine walk S Wr outs _ hS hev hj _ ?_
        intro r₂ S₂ hm e w' q
        rw [List.mem_singleton] at hm
        cases hm
        exact q
       ·cases h
      ·cases h
    ·cases h
   ·cases h
  ·cases h
theorem evH_ok (hE : E.Ok) (hL : zu E L) {H : LoopE} (hH : LoopsOk E H) : ∀ d,EvOk E (evH E L H d)
 | 0 => ⟨hL,(fun id args S r S' h => by cases h),hH,fun f args S rs h => by cases h⟩
 | d + 1 => ⟨acallE_ok hE hL (evH_ok hE hL hH d),aroundE_ok hE (evH_ok hE hL hH d),hH,fun f args S rs h σ w Wr us hA hS hi => acallAll_ok hE (evH_ok hE hL hH d) h hA hS hi⟩
theorem noLoops_ok : LoopsOk E yX:=fun _ _ _ _ _ _ _ => yc
theorem ev_ok (hE : E.Ok) (hL : zu E L) (d : Nat) : EvOk E (ev E L d):=evH_ok hE hL noLoops_ok d
end
end Go.Proofs.YtfddkbbjnghefaaGreatDoor.Zs
