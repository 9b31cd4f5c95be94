/-
  Ways: all forks of a loop's round, and of a function.
-/
import Derived.Test.YtfddkbbjnghefaaGreatDoorToEvJ
set_option linter.unusedSimpArgs false
set_option linter.unusedVariables false
namespace Go.Proofs.YtfddkbbjnghefaaGreatDoor.Zs
open Go
inductive FTree where
 | leaf (ts : List Tgt)
 | bad
 | fork (x : X) (t e : FTree)
noncomputable def LoopD.ways (D : LoopD) (run : Env→AF→ASt→Option (List Out)) (E : Env) (r : Rho) (j : Nat) (F : List (X×Bool)) : FTree→Option (List (List (X×Bool)×Option (List (Tgt×zp))))
 | .leaf ts => match D.step (run (E.with F r)) j ts with
   | some l => some [(F,some l)]
   | none => none
 | .bad => some [(F,none)]
 | .fork x t e => match D.ways run E r j ((x,true) :: F) t with
   | some l => match D.ways run E r j ((x,false) :: F) e with
     | some m => some (l ++ m)
     | none => none
   | none => none
def FTree.asks (F : List (X×Bool)) : FTree→List (List (X×Bool)×X)
 | .leaf _ => []
 | .bad => []
 | .fork x t e => (F,x) :: (t.asks ((x,true) :: F) ++ e.asks ((x,false) :: F))
def AsksOk (r : Rho) (l : List (List (X×Bool)×X)) : Prop:=∀ q ∈ l,zf r q.1→∃ b,q.2.bool r = some b
theorem LoopD.ways_ok {D : LoopD} {run : Env→AF→ASt→Option (List Out)} {E : Env} {r : Rho} {j : Nat} : ∀ (t : FTree) (F : List (X×Bool)) {l : List (List (X×Bool)×Option (List (Tgt×zp)))},D.ways run E r j F t = some l →
  zf r F→AsksOk r (t.asks F)→∃ q ∈ l,zf r q.1∧∀ m,q.2 = some m→∃ ts,D.step (run (E.with q.1 r)) j ts = some m
 | .leaf ts,F,l,h,hF,ha => by
   simp only [LoopD.ways] at h
   split at h
   ·rename_i m hm
    cases h
    exact ⟨_,List.mem_singleton.2 rfl,hF,fun m' e => by cases e; exact ⟨ts,hm⟩⟩
   ·cases h
 | .bad,F,l,h,hF,ha => by
   simp only [LoopD.ways,Option.some.injEq] at h
   subst h
   exact ⟨_,List.mem_singleton.2 rfl,hF,fun m' e => by cases e⟩
 | .fork x t e,F,l,h,hF,ha => by
   simp only [LoopD.ways] at h
   split at h
   ·rename_i l1 h1
    split at h
    ·rename_i l2 h2
     cases h
     obtain ⟨b,hb⟩:=ha (F,x) (by simp [FTree.asks]) hF
     cases b with
     | true =>
       obtain ⟨q,hq,g⟩:=LoopD.ways_ok t _ h1 ⟨hb,hF⟩ fun q hq => ha q (by simp [FTree.asks,hq])
       exact ⟨q,List.mem_append_left _ hq,g⟩
     | false =>
       obtain ⟨q,hq,g⟩:=LoopD.ways_ok e _ h2 ⟨hb,hF⟩ fun q hq => ha q (by simp [FTree.asks,hq])
       exact ⟨q,List.mem_append_right _ hq,g⟩
    ·cases h
   ·cases h
def zD (D : LoopD) (ρ : Rho) (Inv : Nat→List Value→Prop) (μ : Nat→List Value→Nat) (j : Nat) (vals : List Value) : List (List (X×Bool)×Option (List (Tgt×zp)))→Prop
 | [] => True
 | (F,none) :: l => (zf (ρ.ext D.N vals) F→False)∧zD D ρ Inv μ j vals l
 | (F,some m) :: l => (zf (ρ.ext D.N vals) F→∀ q ∈ m,yw D ρ Inv μ j vals q)∧zD D ρ Inv μ j vals l
theorem zD.mem {D : LoopD} {ρ : Rho} {Inv : Nat→List Value→Prop} {μ : Nat→List Value→Nat} {j : Nat} {vals : List Value} : ∀ {l : List (List (X×Bool)×Option (List (Tgt×zp)))},zD D ρ Inv μ j vals l→∀ q ∈ l,
  zf (ρ.ext D.N vals) q.1→∃ m,q.2 = some m∧∀ z ∈ m,yw D ρ Inv μ j vals z
 | [],_,q,hq => by cases hq
 | (F,none) :: l,h,q,hq => by
   cases hq with
   | head => exact fun hF => (h.1 hF).elim
   | tail _ hm => exact h.2.mem q hm
 | (F,some m) :: l,h,q,hq => by
   cases hq with
   | head => exact fun hF => ⟨m,rfl,h.1 hF⟩
   | tail _ hm => exact h.2.mem q hm
theorem zC {D : LoopD} {run : Env→AF→ASt→Option (List Out)} {E : Env} {ρ : Rho} {Inv : Nat→List Value→Prop} {μ : Nat→List Value→Nat} {j : Nat} {vals : List Value} {t : FTree} {F : List (X×Bool)}
  {l : List (List (X×Bool)×Option (List (Tgt×zp)))} (h : D.ways run E (ρ.ext D.N vals) j F t = some l) (hF : zf (ρ.ext D.N vals) F) (ha : AsksOk (ρ.ext D.N vals) (t.asks F)) (hw : zD D ρ Inv μ j vals l) :
  yn D run E ρ Inv μ j vals:=by
 obtain ⟨q,hq,g1,g2⟩:=LoopD.ways_ok t F h hF ha
 obtain ⟨m,hm,hz⟩:=hw.mem q hq g1
 obtain ⟨ts,hts⟩:=g2 m hm
 exact ⟨q.1,ts,m,hts,g1.mem,hz⟩
structure FnD where
 f : FuncId
 args : List AV
 heap : List (Nat×ABlock)
 N : Nat
 M : Nat
 out : AV
 news : List (Nat×ABlock)
inductive GTree where
 | leaf (rens : List (List (Nat×Nat)))
 | bad
 | fork (x : X) (t e : GTree)
def GTree.asks (F : List (X×Bool)) : GTree→List (List (X×Bool)×X)
 | .leaf _ => []
 | .bad => []
 | .fork x t e => (F,x) :: (t.asks ((x,true) :: F) ++ e.asks ((x,false) :: F))
noncomputable def FnD.meets (D : FnD) (r : AE×ASt) (ren : List (Nat×Nat)) : Option zp:=
 match r with
 | (.ret v,S') => match andB (renOk D.M ren) (andB (fromIds D.N D.news) (andB (Nat.ble D.N D.M) (Nat.blt D.M zM))) with
   | true => addP (chkAV D.N ren D.out v) (chkH D.N D.M ren S'.heap D.news)
   | false => none
 | _ => none
noncomputable def FnD.meetsL (D : FnD) : List (AE×ASt)→List (List (Nat×Nat))→Option zp
 | [],[] => some []
 | r :: rs,n :: ns => addP (D.meets r n) (D.meetsL rs ns)
 | _,_ => none
theorem FnD.meetsL_mem {D : FnD} : ∀ {rs : List (AE×ASt)} {ns : List (List (Nat×Nat))} {l : zp},D.meetsL rs ns = some l→∀ r ∈ rs,∃ n ps,D.meets r n = some ps∧∀ q ∈ ps,q ∈ l
 | [],_,l,h,r,hr => by cases hr
 | r :: rs,[],l,h,r',hr => by cases h
 | r :: rs,n :: ns,l,h,r',hr => by
   simp only [FnD.meetsL] at h
   obtain ⟨l1,l2,h1,h2,rfl⟩:=addP_some h
   cases hr with
   | head => exact ⟨n,l1,h1,fun q hq => List.mem_append_left _ hq⟩
   | tail _ hm =>
     obtain ⟨n',ps,e1,e2⟩:=FnD.meetsL_mem h2 r' hm
     exact ⟨n',ps,e1,fun q hq => List.mem_append_right _ (e2 q hq)⟩
noncomputable def FnD.run (D : FnD) (call : Za) (rens : List (List (Nat×Nat))) : Option zp:=match call D.f D.args (memOf D.heap D.N) with
 | some rs => D.meetsL rs rens
 | none => none
noncomputable def FnD.ways (D : FnD) (call : Env→Za) (E : Env) (r : Rho) (F : List (X×Bool)) : GTree→Option (List (List (X×Bool)×Option zp))
 | .leaf rens => match D.run (call (E.with F r)) rens with
   | some l => some [(F,some l)]
   | none => none
 | .bad => some [(F,none)]
 | .fork x t e => match D.ways call E r ((x,true) :: F) t with
   | some l => match D.ways call E r ((x,false) :: F) e with
     | some m => some (l ++ m)
     | none => none
   | none => none
def zR (r : Rho) : List (List (X×Bool)×Option zp)→Prop
 | [] => True
 | (F,none) :: l => (zf r F→False)∧zR r l
 | (F,some ps) :: l => (zf r F→zp.hold r r ps)∧zR r l
theorem zR.mem {r : Rho} : ∀ {l : List (List (X×Bool)×Option zp)},zR r l→∀ q ∈ l,zf r q.1→∃ m,q.2 = some m∧zp.hold r r m
 | [],_,q,hq => by cases hq
 | (F,none) :: l,h,q,hq => by
   cases hq with
   | head => exact fun hF => (h.1 hF).elim
   | tail _ hm => exact h.2.mem q hm
 | (F,some m) :: l,h,q,hq => by
   cases hq with
   | head => exact fun hF => ⟨m,rfl,h.1 hF⟩
   | tail _ hm => exact h.2.mem q hm
theorem FnD.ways_ok {D : FnD} {call : Env→Za} {E : Env} {r : Rho} : ∀ (t : GTree) (F : List (X×Bool)) {l : List (List (X×Bool)×Option zp)},D.ways call E r F t = some l →
  zf r F→AsksOk r (t.asks F)→∃ q ∈ l,zf r q.1∧∀ m,q.2 = some m→∃ rens,D.run (call (E.with q.1 r)) rens = some m
 | .leaf ren,F,l,h,hF,ha => by
   simp only [FnD.ways] at h
   split at h
   ·rename_i m hm
    cases h
    exact ⟨_,List.mem_singleton.2 rfl,hF,fun m' e => by cases e; exact ⟨ren,hm⟩⟩
   ·cases h
 | .bad,F,l,h,hF,ha => by
   simp only [FnD.ways,Option.some.injEq] at h
   subst h
   exact ⟨_,List.mem_singleton.2 rfl,hF,fun m' e => by cases e⟩
 | .fork x t e,F,l,h,hF,ha => by
   simp only [FnD.ways] at h
   split at h
   ·rename_i l1 h1
    split at h
    ·rename_i l2 h2
     cases h
     obtain ⟨b,hb⟩:=ha (F,x) (by simp [GTree.asks]) hF
     cases b with
     | true =>
       obtain ⟨q,hq,g⟩:=FnD.ways_ok t _ h1 ⟨hb,hF⟩ fun q hq => ha q (by simp [GTree.asks,hq])
       exact ⟨q,List.mem_append_left _ hq,g⟩
     | false =>
       obtain ⟨q,hq,g⟩:=FnD.ways_ok e _ h2 ⟨hb,hF⟩ fun q hq => ha q (by simp [GTree.asks,hq])
       exact ⟨q,List.mem_append_right _ hq,g⟩
    ·cases h
   ·cases h
noncomputable def newsOf (D : FnD) : ASt:={ heap:=yf D.news,next:=D.M,limit:=yi D.N [] }
def FnQ (P : Program) (D : FnD) (σ : Sig) (w : World) (e : Ending) (w' : World) : Prop:=
 ∃ σ₂ u,e = .returned u∧D.out.inst σ₂ = some u∧Kept (fun b => w.heap.size≤b) w w'∧σ₂.rho = σ.rho∧(∀ i,i < D.N→σ₂ i = σ i)∧(newsOf D).rel P σ₂ w' (fun b => w.heap.size≤b)
theorem news_state {P : Program} {D : FnD} {ren : List (Nat×Nat)} {S' : ASt} {ps : zp} {σ' : Sig} {w' : World} {Wr : Nat→Prop} {r : Rho} (hren : renOk D.M ren = true) (hfrom : fromIds D.N D.news = true) (hNM : D.N≤D.M)
  (h : chkH D.N D.M ren S'.heap D.news = some ps) (hr : Rho.agree D.N r σ'.rho) (hp : zp.hold r σ'.rho ps) (hS : S'.rel P σ' w' Wr) (hlim : ∀ i,D.N≤i→S'.limit i = true) :
  (newsOf D).rel P (sigOf D.N ren σ' r) w' Wr:=by
 have hs : SigIs D.N ren (sigOf D.N ren σ' r) σ':=sigOf_is hr
 have hH:=chkH_ok (P:=P) hs h hp
 obtain ⟨r1,r2⟩:=zb hren
 have hkeys : ∀ i j,(i,j) ∈ ren→i < D.M:=fun i j hm => by
  rw [List.all_eq_true] at r2
  exact zo (r2 (i,j) hm)
 have hlow : lowIds D.news = true:=by
  have:=fromIds_mem hfrom
  clear h hH hfrom
  generalize D.news = l at this
  induction l with
  | nil => rfl
  | cons q l ih =>
    obtain ⟨j,c⟩:=q
    simp only [lowIds]
    rw [blt_of_lt (this (j,c) (by simp)).2]
    exact ih fun q hq => this q (List.mem_cons_of_mem _ hq)
 have part : ∀ i b,(yf D.news).get i = some b→D.N≤i∧i < D.M∧∃ j c,Zb D.N ren i = some j∧D.N≤j∧S'.heap.get j = some c∧∀ κ ob,BRel P σ' κ c ob→BRel P (sigOf D.N ren σ' r) κ b ob:=fun i b hb => by
  obtain ⟨c1,c2,c3,j,c,e1,e2,e3,e4⟩:=hH i b (buildH_get hlow hb)
  exact ⟨c1,c2,j,c,e1,e2,e3,e4⟩
 have sig_of : ∀ i j x,Zb D.N ren i = some j→(sigOf D.N ren σ' r) i = some x→σ' j = some x:=fun i j x e h => by
  simpa [sigOf,e] using h
 refine ⟨?_,?_,?_,hS.wrNew,?_,?_⟩
 ·intro i b hb
  obtain ⟨c1,c2,j,c,e1,e2,e3,e4⟩:=part i b hb
  obtain ⟨bb,κ,ob,f1,f2,f3⟩:=hS.at_ j c e3
  exact ⟨bb,κ,ob,by simp [sigOf,e1,f1],f2,e4 κ ob f3⟩
 ·intro i i' bi bj x y hi hj hx hy hxy
  obtain ⟨c1,c2,j,c,e1,e2,e3,e4⟩:=part i bi hi
  obtain ⟨c1',c2',j',c',e1',e2',e3',e4'⟩:=part i' bj hj
  have hjj:=(hS.inj j j' c c' x y e3 e3' (sig_of i j x e1 hx) (sig_of i' j' y e1' hy) hxy).elim id fun hq => by rw [hlim j e2] at hq; cases hq.1
  refine .inl ?_
  have m1:=renId_high c1 e1
  have m2:=renId_high c1' e1'
  rw [← hjj] at m2
  exact distinct_inj r1 m1 m2
 ·intro i b x hb hl hx
  obtain ⟨c1,c2,j,c,e1,e2,e3,e4⟩:=part i b hb
  exact hS.wr j c x e3 (hlim j e2) (sig_of i j x e1 hx)
 ·intro i hi
  have hi : D.M≤i:=hi
  constructor
  ·show (Zb D.N ren i).bind (fun j => σ' j) = none
   cases hr' : Zb D.N ren i with
   | none => rfl
   | some j =>
     have:=hkeys i j (renId_high (by omega) hr')
     omega
  ·show (yf D.news).get i = none
   cases hg : (yf D.news).get i with
   | none => rfl
   | some b =>
     have:=(part i b hg).2.1
     omega
 ·intro i hi
  have hi : D.M≤i:=hi
  exact fromN_high (by omega)
theorem fn_says {E : Env} {D : FnD} {call : Env→Za} {r : Rho} {t : GTree} {F : List (X×Bool)} {l : List (List (X×Bool)×Option zp)} (hcall : ∀ F rs,call (E.with F r) D.f D.args (memOf D.heap D.N) = some rs→∀ (σ : Sig) (w : World) (us : List Value),(E.with F r).At σ→(memOf D.heap D.N).rel E.P σ w (fun b => w.heap.size≤b)→Ins σ D.args us→Calls E.P D.f us.toArray w fun e w' => ∃ q,q ∈ rs∧CallQ (E.with F r) σ (memOf D.heap D.N) w (fun b => w.heap.size≤b) q.1 q.2 e w')
  (h : D.ways call E r F t = some l) (hF : zf r F) (ha : AsksOk r (t.asks F)) (hw : zR r l) {σ : Sig} {w : World} {us : List Value} (hρ : σ.rho = r) (hA : ∀ g id,E.glob g = some id→∃ κ,σ id = some (g,κ))
  (hS : (memOf D.heap D.N).rel E.P σ w (fun b => w.heap.size≤b)) (hi : Ins σ D.args us) :
  Calls E.P D.f us.toArray w (FnQ E.P D σ w):=by
 obtain ⟨q,hq,g1,g2⟩:=FnD.ways_ok t F h hF ha
 obtain ⟨m,hm,hp⟩:=hw.mem q hq g1
 obtain ⟨rens,hrun0⟩:=g2 m hm
 unfold FnD.run at hrun0
 split at hrun0
 ·rename_i rs hrs
  have hAt : (E.with q.1 r).At σ:=⟨hA,fun x b hx => by rw [hρ]; exact g1.mem x b hx,fun r' e => by rw [hρ]; exact Option.some.inj e⟩
  refine (hcall q.1 rs hrs σ w us hAt hS hi).mono ?_
  rintro e w' ⟨⟨o,S'⟩,ho,hcq⟩
  obtain ⟨ren,ps,hmt,hsub⟩:=FnD.meetsL_mem hrun0 _ ho
  have hp : zp.hold r r ps:=fun a b hab => hp a b (hsub _ hab)
  unfold FnD.meets at hmt
  split at hmt
  ·rename_i _ v S₁ heq
   cases heq
   split at hmt
   ·rename_i hc
    obtain ⟨c1,c2⟩:=zb hc
    obtain ⟨c2,c3⟩:=zb c2
    obtain ⟨c3,c4⟩:=zb c3
    have hNM:=Nat.le_of_ble_eq_true c3
    obtain ⟨l1,l2,h1,h2,rfl⟩:=addP_some hmt
    obtain ⟨p1,p2⟩:=zp.hold_append.1 hp
    obtain ⟨σ',⟨u,hu,rfl⟩,hpost⟩:=hcq
    have hrho : σ'.rho = r:=hpost.upto.rho.trans hρ
    have hagree : Rho.agree D.N r σ'.rho:=by rw [hrho]; exact ⟨fun _ _ => rfl,rfl⟩
    have hs : SigIs D.N ren (sigOf D.N ren σ' r) σ':=sigOf_is hagree
    refine ⟨sigOf D.N ren σ' r,u,rfl,chkAV_ok hs _ _ l1 u h1 (by rw [hrho]; exact p1) hu,hpost.kept,hρ.symm,fun i hi => ?_,?_⟩
    ·show (Zb D.N ren i).bind (fun j => σ' j) = σ i
     rw [renId_low hi]
     exact hpost.upto i hi
    ·refine news_state c1 c2 hNM h2 hagree (by rw [hrho]; exact p2) hpost.rel fun i hi => ?_
     have : S'.limit = yi D.N []:=hpost.limit
     rw [this]; exact fromN_high hi
   ·cases hmt
  ·cases hmt
 ·cases hrun0
open Go
def y9 (r : Rho) : List (List (X×Bool)×X)→Prop
 | [] => True
 | (F,x) :: l => (zf r F→∃ b,x.bool r = some b)∧y9 r l
theorem y9.ok {r : Rho} : ∀ {l : List (List (X×Bool)×X)},y9 r l→AsksOk r l
 | [],_ => fun q hq => by cases hq
 | (F,x) :: l,h => fun q hq => by
   cases hq with
   | head => exact h.1
   | tail _ hm => exact y9.ok h.2 q hm
theorem zE (ρ ρ' : Rho) : zp.hold ρ ρ' []↔True:=⟨fun _ => trivial,fun _ p x h => by cases h⟩
theorem zr (ρ ρ' : Rho) (p x : X) (l : zp) : zp.hold ρ ρ' ((p,x) :: l)↔p.den ρ = x.den ρ'∧zp.hold ρ ρ' l:=
 ⟨fun h => ⟨h p x List.mem_cons_self,fun q y hq => h q y (List.mem_cons_of_mem _ hq)⟩,fun h q y hq => by
   cases hq with
   | head => exact h.1
   | tail _ hm => exact h.2 q y hm⟩
theorem zk {α : Type} (P : α→Prop) : (∀ q ∈ ([] : List α),P q)↔True:=by simp
theorem zh {α : Type} (P : α→Prop) (a : α) (l : List α) : (∀ q ∈ a :: l,P q)↔P a∧∀ q ∈ l,P q:=by simp
theorem ext_low (ρ : Rho) (N : Nat) (vals : List Value) (v : Nat) (h : v < N) : (ρ.ext N vals).val v = ρ.val v:=by simp [Rho.ext,h]
theorem yZ (ρ : Rho) (N : Nat) (vals : List Value) (v : Nat) (h : N≤v) : (ρ.ext N vals).val v = vals[v - N]?:=by simp only [Rho.ext]; rw [if_neg (by omega)]
open Go
abbrev Sub:=List (Nat×X)
def subOf : Sub→Nat→Option X
 | [],_ => none
 | (i,x) :: l,v => match Nat.beq i v with
   | true => some x
   | false => subOf l v
mutual
def yG (s : Sub) : X→Option X
 | .var i => subOf s i
 | .num n => some (.num n)
 | .boo b => some (.boo b)
 | .str t => some (.str t)
 | .op1 o a => match yG s a with | some a' => some (.op1 o a') | none => none
 | .op2 o a b => match yG s a with | some a' => (match yG s b with | some b' => some (.op2 o a' b') | none => none) | none => none
 | .ite a b c => match yG s a with | some a' => (match yG s b with | some b' => (match yG s c with | some c' => some (.ite a' b' c') | none => none) | none => none) | none => none
 | .cell j a b => match yG s a with | some a' => (match yG s b with | some b' => some (.cell j a' b') | none => none) | none => none
 | .ssub a b c => match yG s a with | some a' => (match yG s b with | some b' => (match yG s c with | some c' => some (.ssub a' b' c') | none => none) | none => none) | none => none
 | .lsub a b c => match yG s a with | some a' => (match yG s b with | some b' => (match yG s c with | some c' => some (.lsub a' b' c') | none => none) | none => none) | none => none
 | .snoc a l => match yG s a with | some a' => (match substXs s l with | some l' => some (.snoc a' l') | none => none) | none => none
 | .nil => some .nil
 | .app k l => match substXs s l with | some l' => some (.app k l') | none => none
def substXs (s : Sub) : List X→Option (List X)
 | [] => some []
 | a :: l => match yG s a with | some a' => (match substXs s l with | some l' => some (a' :: l') | none => none) | none => none
end
structure SubIs (s : Sub) (ρ ρa : Rho) : Prop where
 val : ∀ v x,subOf s v = some x→ρ.val v = x.den ρa
 sym : ρ.sym = ρa.sym
mutual
theorem yb {s : Sub} {ρ ρa : Rho} (h : SubIs s ρ ρa) : ∀ (p x : X),yG s p = some x→p.den ρ = x.den ρa
 | .var i,x,e => h.val i x e
 | .num n,x,e => by cases e; rfl
 | .boo b,x,e => by cases e; rfl
 | .str t,x,e => by cases e; rfl
 | .op1 o a,x,e => by
   simp only [yG] at e
   split at e
   ·rename_i a' ha
    cases e
    simp only [X.den,yb h a a' ha]
   ·cases e
 | .op2 o a b,x,e => by
   simp only [yG] at e
   split at e
   ·rename_i a' ha
    split at e
    ·rename_i b' hb
     cases e
     simp only [X.den,yb h a a' ha,yb h b b' hb]
    ·cases e
   ·cases e
 | .ite a b c,x,e => by
   simp only [yG] at e
   split at e
   ·rename_i a' ha
    split at e
    ·rename_i b' hb
     split at e
     ·rename_i c' hc
      cases e
      simp only [X.den,yb h a a' ha,yb h b b' hb,yb h c c' hc]
     ·cases e
    ·cases e
   ·cases e
 | .cell j a b,x,e => by
   simp only [yG] at e
   split at e
   ·rename_i a' ha
    split at e
    ·rename_i b' hb
     cases e
     simp only [X.den,yb h a a' ha,yb h b b' hb]
    ·cases e
   ·cases e
 | .ssub a b c,x,e => by
   simp only [yG] at e
   split at e
   ·rename_i a' ha
    split at e
    ·rename_i b' hb
     split at e
     ·rename_i c' hc
      cases e
      simp only [X.den,yb h a a' ha,yb h b b' hb,yb h c c' hc]
     ·cases e
    ·cases e
   ·cases e
 | .lsub a b c,x,e => by
   simp only [yG] at e
   split at e
   ·rename_i a' ha
    split at e
    ·rename_i b' hb
     split at e
     ·rename_i c' hc
      cases e
      simp only [X.den,yb h a a' ha,yb h b b' hb,yb h c c' hc]
     ·cases e
    ·cases e
   ·cases e
 | .snoc a l,x,e => by
   simp only [yG] at e
   split at e
   ·rename_i a' ha
    split at e
    ·rename_i l' hl
     cases e
     simp only [X.den,yb h a a' ha,substXs_ok h l l' hl]
    ·cases e
   ·cases e
 | .nil,x,e => by cases e; rfl
 | .app k l,x,e => by
   simp only [yG] at e
   split at e
   ·rename_i l' hl
    cases e
    simp only [X.den,substXs_ok h l l' hl,h.sym]
   ·cases e
theorem substXs_ok {s : Sub} {ρ ρa : Rho} (h : SubIs s ρ ρa) : ∀ (p x : List X),substXs s p = some x→denL ρ p = denL ρa x
 | [],x,e => by cases e; rfl
 | a :: l,x,e => by
   simp only [substXs] at e
   split at e
   ·rename_i a' ha
    split at e
    ·rename_i l' hl
     cases e
     simp only [denL,yb h a a' ha,substXs_ok h l l' hl]
    ·cases e
   ·cases e
end
abbrev Ren:=List (Nat×Nat)
def renOf : Ren→Nat→Option Nat
 | [],_ => none
 | (i,j) :: l,v => match Nat.beq i v with
   | true => some j
   | false => renOf l v
theorem renOf_mem : ∀ {l : Ren} {i j : Nat},renOf l i = some j→(i,j) ∈ l
 | [],i,j,h => by cases h
 | (a,b) :: l,i,j,h => by
   simp only [renOf] at h
   split at h
   ·rename_i e
    cases h
    rw [Nat.eq_of_beq_eq_true e]
    exact List.mem_cons_self
   ·exact List.mem_cons_of_mem _ (renOf_mem h)
mutual
noncomputable def substAV (s : Sub) (ren : Ren) : AV→Option AV
 | .bool b => some (.bool b)
 | .int k n => some (.int k n)
 | .str t => some (.str t)
 | .nilptr => some .nilptr
 | .ptr i o => match renOf ren i with | some j => some (.ptr j o) | none => none
 | .map i => match renOf ren i with | some j => some (.map j) | none => none
 | .iface t a => match substAV s ren a with | some a' => some (.iface t a') | none => none
 | .nilslice => some .nilslice
 | .slice i o l c e => match renOf ren i with | some j => some (.slice j o l c e) | none => none
 | .nilmap => some .nilmap
 | .nilFunc => some .nilFunc
 | .nilIface => some .nilIface
 | .agg l => match substAVs s ren l with | some l' => some (.agg l') | none => none
 | .tuple l => match substAVs s ren l with | some l' => some (.tuple l') | none => none
 | .sint k x => match yG s x with | some y => some (mkI k y) | none => none
 | .sbool x => match yG s x with | some y => some (.sbool y) | none => none
 | .sstr x => match yG s x with | some y => some (.sstr y) | none => none
 | .slx i w b lo len cap => match renOf ren i with
   | some j => match yG s b with
     | some b' => match yG s lo with
       | some lo' => match yG s len with
         | some len' => match yG s cap with
           | some cap' => some (.slx j w b' lo' len' cap')
           | none => none
         | none => none
       | none => none
     | none => none
   | none => none
 | .slo i w len => match renOf ren i with
   | some j => match yG s len with
     | some len' => some (.slo j w len')
     | none => none
   | none => none
 | _ => none
noncomputable def substAVs (s : Sub) (ren : Ren) : List AV→Option (List AV)
 | [] => some []
 | a :: l => match substAV s ren a with | some a' => (match substAVs s ren l with | some l' => some (a' :: l') | none => none) | none => none
end
mutual
theorem substAV_ok {s : Sub} {ren : Ren} {σ σa : Sig} (h : SubIs s σ.rho σa.rho) (hr : ∀ i j,renOf ren i = some j→σ i = σa j) : ∀ (p a : AV) (u : Value),substAV s ren p = some a→p.inst σ = some u→a.inst σa = some u
 | .bool b,a,u,e,hu => by cases e; exact hu
 | .int k n,a,u,e,hu => by cases e; exact hu
 | .str t,a,u,e,hu => by cases e; exact hu
 | .nilptr,a,u,e,hu => by cases e; exact hu
 | .nilslice,a,u,e,hu => by cases e; exact hu
 | .nilmap,a,u,e,hu => by cases e; exact hu
 | .nilFunc,a,u,e,hu => by cases e; exact hu
 | .nilIface,a,u,e,hu => by cases e; exact hu
 | .ptr i o,a,u,e,hu => by
   simp only [substAV] at e
   split at e
   ·rename_i j hj
    cases e
    simp only [AV.inst,hr i j hj] at hu ⊢
    exact hu
   ·cases e
 | .slice i o l c ex,a,u,e,hu => by
   simp only [substAV] at e
   split at e
   ·rename_i j hj
    cases e
    simp only [AV.inst,hr i j hj] at hu ⊢
    exact hu
   ·cases e
 | .agg l,a,u,e,hu => by
   simp only [substAV] at e
   split at e
   ·rename_i l' hl
    cases e
    simp only [AV.inst] at hu ⊢
    split at hu
    ·rename_i vs hvs
     rw [substAVs_ok h hr l l' vs hl hvs]
     exact hu
    ·cases hu
   ·cases e
 | .tuple l,a,u,e,hu => by
   simp only [substAV] at e
   split at e
   ·rename_i l' hl
    cases e
    simp only [AV.inst] at hu ⊢
    split at hu
    ·rename_i vs hvs
     rw [substAVs_ok h hr l l' vs hl hvs]
     exact hu
    ·cases hu
   ·cases e
 | .sint k x,a,u,e,hu => by
   simp only [substAV] at e
   split at e
   ·rename_i y hy
    cases e
    obtain ⟨n,k',rfl,hn⟩:=toI_ok (a:=.sint k x) rfl hu
    exact mkI_ok (by rw [← yb h x y hy]; exact hn)
   ·cases e
 | .sbool x,a,u,e,hu => by
   simp only [substAV] at e
   split at e
   ·rename_i y hy
    cases e
    obtain ⟨n,rfl,hn⟩:=toB_ok (a:=.sbool x) rfl hu
    simp only [AV.inst,X.bool_iff.2 ((yb h x y hy).symm.trans hn)]
   ·cases e
 | .sstr x,a,u,e,hu => by
   simp only [substAV] at e
   split at e
   ·rename_i y hy
    cases e
    obtain ⟨n,rfl,hn⟩:=toS_ok (a:=.sstr x) rfl hu
    simp only [AV.inst,X.bytes_iff.2 ((yb h x y hy).symm.trans hn)]
   ·cases e
 | .slx i w b lo len cap,a,u,e,hu => by
   simp only [substAV] at e
   split at e
   ·rename_i j hj
    split at e
    ·rename_i b' hb
     split at e
     ·rename_i lo' hlo
      split at e
      ·rename_i len' hlen
       split at e
       ·rename_i cap' hcap
        cases e
        simp only [AV.inst,hr i j hj,yD (yb h b b' hb),yD (yb h lo lo' hlo),yD (yb h len len' hlen),yD (yb h cap cap' hcap)] at hu ⊢
        exact hu
       ·cases e
      ·cases e
     ·cases e
    ·cases e
   ·cases e
 | .slo i w len,a,u,e,hu => by
   simp only [substAV] at e
   split at e
   ·rename_i j hj
    split at e
    ·rename_i len' hlen
     cases e
     simp only [AV.inst,hr i j hj,yD (yb h len len' hlen)] at hu ⊢
     exact hu
    ·cases e
   ·cases e
 | .map i,a,u,e,hu => by
   simp only [substAV] at e
   split at e
   ·rename_i j hj
    cases e
    simp only [AV.inst,hr i j hj] at hu ⊢
    exact hu
   ·cases e
 | .func _ _ _,a,u,e,hu => by cases e
 | .yield _,a,u,e,hu => by cases e
 | .iface t x,a,u,e,hu => by
   simp only [substAV] at e
   split at e
   ·rename_i x' hx
    cases e
    simp only [AV.inst] at hu ⊢
    split at hu
    ·rename_i v hv
     rw [substAV_ok h hr x x' v hx hv]
     exact hu
    ·cases hu
   ·cases e
 | .ptx _ _ _ _ _,a,u,e,hu => by cases e
theorem substAVs_ok {s : Sub} {ren : Ren} {σ σa : Sig} (h : SubIs s σ.rho σa.rho) (hr : ∀ i j,renOf ren i = some j→σ i = σa j) : ∀ (p a : List AV) (u : List Value),substAVs s ren p = some a→instL σ p = some u→instL σa a = some u
 | [],a,u,e,hu => by cases e; exact hu
 | p :: ps,a,u,e,hu => by
   simp only [substAVs] at e
   split at e
   ·rename_i a' ha
    split at e
    ·rename_i l' hl
     cases e
     simp only [instL] at hu ⊢
     split at hu
     ·rename_i v hv
      split at hu
      ·rename_i vs hvs
       rw [substAV_ok h hr p a' v ha hv,substAVs_ok h hr ps l' vs hl hvs]
       exact hu
      ·cases hu
     ·cases hu
    ·cases e
   ·cases e
end
open Go
inductive Leaf where
 | int (k : IntKind) (v : Nat)
 | bool (v : Nat)
 | str (v : Nat)
inductive Arg where
 | one (l : Leaf)
 | agg (l : List Leaf)
 | list (i w : Nat) (sch : List CK) (t : TypeId) (base rows cap : Nat)
 | nils
 | tup (n : Nat)
noncomputable def Leaf.av : Leaf→AV
 | .int k v => .sint k (.var v)
 | .bool v => .sbool (.var v)
 | .str v => .sstr (.var v)
noncomputable def Arg.av : Arg→AV
 | .one l => l.av
 | .agg l => .agg (l.map Leaf.av)
 | .list i w _ _ b r c => .slx i w (.var b) (.num 0) (.op1 .len (.var r)) (.var c)
 | .nils => .nilslice
 | .tup _ => .nilslice
noncomputable def Arg.blk : Arg→List (Nat×ABlock)
 | .list i w sch t b r _ => [(i,.rows w sch (.var b) (.var r) false t)]
 | _ => []
noncomputable def argsAV : List Arg→List AV
 | [] => []
 | .tup n :: l => .agg ((argsAV l).take n) :: (argsAV l).drop n
 | a :: l => a.av :: argsAV l
noncomputable def argsBlk : List Arg→List (Nat×ABlock)
 | [] => []
 | a :: l => a.blk ++ argsBlk l
def capsOf : List Arg→List Nat
 | [] => []
 | .list _ _ _ _ _ _ c :: l => c :: capsOf l
 | _ :: l => capsOf l
noncomputable def rowsView (E : Env) (S : ASt) (w : Nat) (sch : List CK) (t : TypeId) (a : AV) : Option (Nat×X×X):=
 match a with
 | .slx j w' base lo len cap => match S.heap.get j with
   | some (.rows w'' sch' base' x own t') => match andB (Nat.beq w w') (andB (Nat.beq w w'') (andB (sameSch sch sch') (andB (yB base base') (Nat.beq t t')))) with
     | true => match andB (isNum0 lo) (yB len (lenX x)) with
       | true => some (j,base,x)
       | false => match E.ltF (lenX x) (addX lo len) with
         | true => some (j,.op2 .add base (.op2 .mul lo (.num w)),.lsub x lo (addX lo len))
         | false => none
     | false => none
   | _ => none
 | .slo j w' len => match S.heap.get j with
   | some (.rows w'' sch' base' x own t') => match andB (Nat.beq w w') (andB (Nat.beq w w'') (andB (sameSch sch sch') (andB (isNum0 base') (andB (Nat.beq t t') (yB len (lenX x)))))) with
     | true => some (j,.num 0,x)
     | false => none
   | _ => none
 | .spt j w' lo hi => match S.heap.get j with
   | some (.rows w'' sch' base' x own t') => match andB (Nat.beq w w') (andB (Nat.beq w w'') (andB (sameSch sch sch') (andB (isNum0 base') (andB (Nat.beq t t') (andB (isNum0 lo) (E.ltF (lenX x) hi)))))) with
     | true => some (j,.num 0,.lsub x lo hi)
     | false => none
   | _ => none
 | .slice j off len cap ex => match S.heap.get j with
   | some (.cells l t') => match andB (Nat.ble (off + len * w) l.length) (andB (Nat.blt 0 w) (andB (Nat.beq t t') (match ex with | true => Nat.ble len cap | false => true))) with
     | true => match rowsX w len .nil ((l.drop off).take (len * w)) with
       | some (sch',x) => match sameSch sch sch' with
         | true => some (j,.num off,x)
         | false => none
       | none => none
     | false => none
   | _ => none
 | _ => none
section
variable {E : Env} {σ : Sig} {S S' : ASt} {w : World} {Wr : Nat→Prop}
theorem lsub_den {ρ : Rho} {x a b : X} {rows : List (List Value)} {m n : Nat} {k k' : IntKind} (hx : x.den ρ = some (zQ rows)) (ha : a.den ρ = some (.int k (m : Int))) (hb : b.den ρ = some (.int k' (n : Int))) :
  (X.lsub x a b).den ρ = some (zQ ((rows.take n).drop m)):=by
 simp only [X.den,hx,ha,hb,zQ,denLsub,Int.toNat_natCast]
 congr 2
 apply Array.ext'
 simp [List.map_take,List.map_drop,List.extract_eq_take_drop,List.drop_take]
theorem rowsView_ok (hA : E.At σ) (hS : S.rel E.P σ w Wr) {wd : Nat} {sch : List CK} {t : TypeId} {a : AV} {j : Nat} {bx x : X} {u : Value} (h : rowsView E S wd sch t a = some (j,bx,x)) (hu : a.inst σ = some u) :
  ∃ b κ rows pre rest fr t₀ c,σ j = some (b,κ)∧(∃ blk,S.heap.get j = some blk)∧w.heap[b]? = some (.cells (pre ++ (rows.flatten ++ rest)).toArray t₀ fr)∧x.den σ.rho = some (zQ rows)∧bx.nat σ.rho = some pre.length∧sch.length = wd∧0 < wd ∧
    (∀ r ∈ rows,RowFits sch r)∧rows.length≤c∧u = .slice (some ⟨b,pre.length,none⟩) rows.length c:=by
 unfold rowsView at h
 split at h
 ·rename_i j' w' base lo len cap
  split at h
  ·rename_i w'' sch' base' x' own t' hb
   split at h
   ·rename_i hc
    obtain ⟨c1,c2⟩:=zb hc
    obtain ⟨c2,c3⟩:=zb c2
    obtain ⟨c3,c4⟩:=zb c3
    obtain ⟨c4,c5⟩:=zb c4
    obtain rfl:=Nat.eq_of_beq_eq_true c1
    obtain rfl:=Nat.eq_of_beq_eq_true c2
    obtain rfl:=yR c3
    obtain rfl:=zL c4
    obtain rfl:=Nat.eq_of_beq_eq_true c5
    obtain ⟨b,κ,rows,pre,rest,fr,t₀,e1,e2,e3,e4,e5,e6,e7,_⟩:=get_rows hS hb
    obtain ⟨b',κ',kb,kl,kn,kc,f1,f2,f3,f4,f5,f6,rfl⟩:=inst_slx hu
    rw [e1] at f1; cases f1
    rw [e4] at f2; cases f2
    obtain ⟨k,hk⟩:=lenX_den e3
    obtain ⟨q3,g3⟩:=X.nat_iff.1 f3
    obtain ⟨q4,g4⟩:=X.nat_iff.1 f4
    split at h
    ·rename_i hz
     cases h
     obtain ⟨z1,z2⟩:=zb hz
     rw [isNum0_ok z1] at g3
     simp only [X.den,Option.some.injEq,Value.int.injEq] at g3
     have hkl : kl = 0:=by omega
     subst hkl
     rw [zL z2] at f4
     have hkn : kn = rows.length:=by
      have:=X.nat_iff.2 ⟨k,hk⟩
      rw [f4] at this
      exact Option.some.inj this
     subst hkn
     exact ⟨b,κ,rows,pre,rest,fr,t₀,kc,e1,⟨_,hb⟩,e2,e3,e4,e5,e6,e7,f6,by simp⟩
    ·split at h
     ·rename_i hl
      cases h
      obtain ⟨p1,d1⟩:=addX_ok g3 g4
      have hle:=Env.ltF_ok hA hl hk d1
      have hw : ∀ r ∈ rows,r.length = wd:=fun r hr => by rw [(e7 r hr).length,e5]
      have hlt : kl + kn≤rows.length:=by omega
      obtain ⟨qb,gb⟩:=X.nat_iff.1 e4
      have hfl : (rows.take kl).flatten.length = kl * wd:=by
       rw [flatten_length (wd:=wd) (fun r hr => hw r (List.mem_of_mem_take hr)),List.length_take,Nat.min_eq_left (by omega)]
      have hsub:=lsub_den e3 g3 (show (addX lo len).den σ.rho = some (.int p1 ((kl + kn : Nat) : Int)) by rw [d1]; norm_cast)
      have hlen : ((rows.take (kl + kn)).drop kl).length = kn:=by rw [List.length_drop,List.length_take]; omega
      refine ⟨b,κ,(rows.take (kl + kn)).drop kl,pre ++ (rows.take kl).flatten,(rows.drop (kl + kn)).flatten ++ rest,fr,t₀,kc,e1,⟨_,hb⟩,?_,hsub,?_,e5,e6,fun r hr => e7 r (List.mem_of_mem_take (List.mem_of_mem_drop hr)),by omega,?_⟩
      ·rw [e2]
       congr 3
       have hsplit : rows = rows.take kl ++ ((rows.take (kl + kn)).drop kl ++ rows.drop (kl + kn)):=by
        rw [← List.append_assoc]
        have h1 : rows.take kl ++ (rows.take (kl + kn)).drop kl = rows.take (kl + kn):=by
         have h2 : (rows.take (kl + kn)).take kl = rows.take kl:=by rw [List.take_take,Nat.min_eq_left (by omega)]
         rw [← h2,List.take_append_drop]
        rw [h1,List.take_append_drop]
       conv => lhs; rw [hsplit]
       simp [List.flatten_append,List.append_assoc]
      ·have hm:=add_den gb (mul_den g3 (b:=.num wd) (k':=.i64) (n:=(wd : Int)) rfl)
       refine X.nat_iff.2 ⟨.i64,?_⟩
       rw [hm,List.length_append,hfl]
       push_cast
       rfl
      ·rw [hlen,List.length_append,hfl]
     ·cases h
   ·cases h
  ·cases h
 ·rename_i j' w' len
  split at h
  ·rename_i w'' sch' base' x' own t' hb
   split at h
   ·rename_i hc
    cases h
    obtain ⟨c1,c2⟩:=zb hc
    obtain ⟨c2,c3⟩:=zb c2
    obtain ⟨c3,c4⟩:=zb c3
    obtain ⟨c4,c5⟩:=zb c4
    obtain ⟨c5,c6⟩:=zb c5
    obtain rfl:=Nat.eq_of_beq_eq_true c1
    obtain rfl:=Nat.eq_of_beq_eq_true c2
    obtain rfl:=yR c3
    obtain rfl:=isNum0_ok c4
    obtain rfl:=Nat.eq_of_beq_eq_true c5
    obtain ⟨b,κ,rows,pre,rest,fr,t₀,e1,e2,e3,e4,e5,e6,e7,_⟩:=get_rows hS hb
    obtain ⟨b',κ',kn,f1,f4,f6,rfl⟩:=inst_slo hu
    rw [e1] at f1; cases f1
    obtain ⟨k,hk⟩:=lenX_den e3
    rw [zL c6] at f4
    have hkn : kn = rows.length:=by
     have:=X.nat_iff.2 ⟨k,hk⟩
     rw [f4] at this
     exact Option.some.inj this
    subst hkn
    obtain ⟨qb,gb⟩:=X.nat_iff.1 e4
    simp only [X.den,Option.some.injEq,Value.int.injEq] at gb
    have hpre : pre.length = 0:=by omega
    exact ⟨b,κ,rows,pre,rest,fr,t₀,κ,e1,⟨_,hb⟩,e2,e3,e4,e5,e6,e7,f6,by rw [hpre]⟩
   ·cases h
  ·cases h
 ·rename_i j' w' lo hi
  split at h
  ·rename_i w'' sch' base' x' own t' hb
   split at h
   ·rename_i hc
    cases h
    obtain ⟨c1,c2⟩:=zb hc
    obtain ⟨c2,c3⟩:=zb c2
    obtain ⟨c3,c4⟩:=zb c3
    obtain ⟨c4,c5⟩:=zb c4
    obtain ⟨c5,c6⟩:=zb c5
    obtain ⟨c6,c7⟩:=zb c6
    obtain rfl:=Nat.eq_of_beq_eq_true c1
    obtain rfl:=Nat.eq_of_beq_eq_true c2
    obtain rfl:=yR c3
    obtain rfl:=isNum0_ok c4
    obtain rfl:=Nat.eq_of_beq_eq_true c5
    obtain ⟨b,κ,rows,pre,rest,fr,t₀,e1,e2,e3,e4,e5,e6,e7,_⟩:=get_rows hS hb
    obtain ⟨b',κ',l,n,f1,f2,f3,f4,f5,rfl⟩:=inst_spt hu
    rw [e1] at f1; cases f1
    obtain ⟨k,hk⟩:=lenX_den e3
    obtain ⟨k1,g1⟩:=X.nat_iff.1 f2
    obtain ⟨k2,g2⟩:=X.nat_iff.1 f3
    have hle:=Env.ltF_ok hA c7 hk g2
    have hle : n≤rows.length:=by omega
    have hl0 : l = 0:=by
     rw [isNum0_ok c6] at g1
     simp only [X.den,Option.some.injEq,Value.int.injEq] at g1
     omega
    subst hl0
    obtain ⟨qb,gb⟩:=X.nat_iff.1 e4
    simp only [X.den,Option.some.injEq,Value.int.injEq] at gb
    have hpre : pre = []:=List.eq_nil_of_length_eq_zero (by omega)
    subst hpre
    have hsub:=lsub_den e3 g1 g2
    have hlen : ((rows.take n).drop 0).length = n:=by simp; omega
    refine ⟨b,κ,(rows.take n).drop 0,[],(rows.drop n).flatten ++ rest,fr,t₀,κ,e1,⟨_,hb⟩,?_,hsub,e4,e5,e6,fun r hr => e7 r (List.mem_of_mem_take (List.mem_of_mem_drop hr)),by omega,?_⟩
    ·rw [e2]
     congr 3
     rw [List.drop_zero,List.nil_append,List.nil_append,← List.append_assoc,← List.flatten_append,List.take_append_drop]
    ·rw [hlen]
     simp
   ·cases h
  ·cases h
 ·rename_i j' off len cap ex
  split at h
  ·rename_i l t' hb
   split at h
   ·rename_i hc
    obtain ⟨c1,d2⟩:=zb hc
    obtain ⟨c2,d3⟩:=zb d2
    obtain ⟨c3,c4⟩:=zb d3
    have c1':=Nat.le_of_ble_eq_true c1
    obtain rfl:=Nat.eq_of_beq_eq_true c3
    split at h
    ·rename_i sch' x' hr
     split at h
     ·rename_i hs
      cases h
      obtain rfl:=yR hs
      obtain ⟨b,κ,vs,rest,fr,h1,h2,hi,hk,hfr⟩:=get_cells hS hb
      obtain ⟨b',κ',f1,f2,rfl⟩:=yT hu
      rw [h1] at f1; cases f1
      have hlen:=hi.length
      obtain ⟨rs,e1,e2,e3,e4,e5⟩:=rowsX_ok len hr ((hi.drop off).take (len * wd)) (by simp; omega) (rows:=[]) rfl
      have hoff : (vs.take off).length = off:=by rw [List.length_take]; omega
      have hcap : len≤(if ex = true then cap else κ - cap):=by
       cases ex with
       | true => simpa using Nat.le_of_ble_eq_true c4
       | false =>
         rcases f2 with f2 | f2
         ·cases f2
         ·simpa using f2
      refine ⟨b,κ,rs,vs.take off,vs.drop (off + len * wd) ++ rest,fr,t,_,h1,⟨_,hb⟩,?_,by simpa using e1,X.nat_iff.2 ⟨.i64,by rw [hoff]; rfl⟩,e5,zo c2,e4,by rw [e3]; exact hcap,by rw [hoff,e3]⟩
      rw [h2,e2]
      congr 3
      rw [← List.append_assoc,← List.append_assoc]
      congr 1
      rw [List.append_assoc,← List.drop_drop,List.take_append_drop,List.take_append_drop]
     ·cases h
    ·cases h
   ·cases h
  ·cases h
 ·cases h
end
open Go
noncomputable def leafView (l : Leaf) (a : AV) : Option (Nat×X):=
 match l with
 | .int k v => match toI a with
   | some (k',x) => match Nat.beq (o1No (.kind k)) (o1No (.kind k')) with
     | true => some (v,x)
     | false => none
   | none => none
 | .bool v => match toB a with
   | some x => some (v,x)
   | none => none
 | .str v => match toS a with
   | some x => some (v,x)
   | none => none
noncomputable def bindLeaves : List Leaf→List AV→Option Sub
 | [],[] => some []
 | l :: ls,a :: as => match leafView l a with
   | some p => match bindLeaves ls as with
     | some s => some (p :: s)
     | none => none
   | none => none
 | _,_ => none
noncomputable def bindArgs (E : Env) (S : ASt) : List Arg→List AV→Option (Sub×Ren)
 | [],[] => some ([],[])
 | .tup n :: ps,a :: as => match a with
   | .agg cs => match Nat.beq cs.length n with
     | true => bindArgs E S ps (cs ++ as)
     | false => none
   | _ => none
 | p :: ps,a :: as => match bindArgs E S ps as with
   | some (s,ren) => match p with
     | .one l => match leafView l a with
       | some q => some (q :: s,ren)
       | none => none
     | .agg ls => match a with
       | .agg cs => match bindLeaves ls cs with
         | some s' => some (s' ++ s,ren)
         | none => none
       | _ => none
     | .list i w sch t b r _ => match rowsView E S w sch t a with
       | some (j,bx,x) => some ((b,bx) :: (r,x) :: s,(i,j) :: ren)
       | none => none
     | .nils => some (s,ren)
     | .tup _ => none
   | none => none
 | _,_ => none
def isSub (s : Sub) (v : Nat) (x : X) : Bool:=match subOf s v with | some y => yB y x | none => false
theorem isSub_ok {s : Sub} {v : Nat} {x : X} (h : isSub s v x = true) : subOf s v = some x:=by
 unfold isSub at h
 split at h
 ·rename_i y hy
  rw [hy,zL h]
 ·cases h
noncomputable def chkLeaf (s : Sub) (l : Leaf) (a : AV) : Bool:=match leafView l a with
 | some (v,x) => isSub s v x
 | none => false
noncomputable def chkLeaves (s : Sub) : List Leaf→List AV→Bool
 | [],[] => true
 | l :: ls,a :: as => andB (chkLeaf s l a) (chkLeaves s ls as)
 | _,_ => false
def notIn (c : Nat) : List Nat→Bool
 | [] => true
 | d :: l => andB (!(Nat.beq c d)) (notIn c l)
theorem notIn_ok {c : Nat} : ∀ {l : List Nat},notIn c l = true→∀ d ∈ l,d≠c
 | [],_,d,hd => by cases hd
 | e :: l,h,d,hd => by
   obtain ⟨h1,h2⟩:=zb h
   cases hd with
   | head => intro e; subst e; simp at h1
   | tail _ hm => exact notIn_ok h2 d hm
noncomputable def chkArgs (E : Env) (S : ASt) (s : Sub) (ren : Ren) : List Arg→List AV→Bool
 | [],[] => true
 | .tup n :: ps,a :: as => match a with
   | .agg cs => match Nat.beq cs.length n with
     | true => chkArgs E S s ren ps (cs ++ as)
     | false => false
   | _ => false
 | p :: ps,a :: as => andB (match p with
   | .one l => chkLeaf s l a
   | .agg ls => match a with
     | .agg cs => chkLeaves s ls cs
     | _ => false
   | .list i w sch t b r c => match rowsView E S w sch t a with
     | some (j,bx,x) => andB (isSub s b bx) (andB (isSub s r x) (andB (sameId (renOf ren i) j) (andB (match subOf s c with | none => true | some _ => false) (notIn c (capsOf ps)))))
     | none => false
   | .nils => match a with
     | .nilslice => true
     | _ => false
   | .tup _ => false) (chkArgs E S s ren ps as)
 | _,_ => false
section
variable {E : Env} {σa : Sig} {S S' : ASt} {w : World} {Wr : Nat→Prop}
theorem chkLeaf_ok {s : Sub} {ρ : Rho} (hs : SubIs s ρ σa.rho) {l : Leaf} {a : AV} {u : Value} (h : chkLeaf s l a = true) (hu : a.inst σa = some u) (blk : Nat→Option (Nat×Nat)) : l.av.inst ⟨blk,ρ⟩ = some u:=by
 unfold chkLeaf at h
 split at h
 ·rename_i v x hv
  have hd:=hs.val v x (isSub_ok h)
  cases l with
  | int k v' =>
    simp only [leafView] at hv
    split at hv
    ·rename_i k' x' hx
     split at hv
     ·rename_i hk
      cases hv
      obtain rfl:=kind_same hk
      obtain ⟨n,k'',rfl,hn⟩:=toI_ok hx hu
      simp only [Leaf.av,AV.inst,X.int_iff.2 ⟨k'',show (X.var v).den ρ = _ from hd.trans hn⟩]
     ·cases hv
    ·cases hv
  | bool v' =>
    simp only [leafView] at hv
    split at hv
    ·rename_i x' hx
     cases hv
     obtain ⟨n,rfl,hn⟩:=toB_ok hx hu
     simp only [Leaf.av,AV.inst,X.bool_iff.2 (show (X.var v).den ρ = _ from hd.trans hn)]
    ·cases hv
  | str v' =>
    simp only [leafView] at hv
    split at hv
    ·rename_i x' hx
     cases hv
     obtain ⟨n,rfl,hn⟩:=toS_ok hx hu
     simp only [Leaf.av,AV.inst,X.bytes_iff.2 (show (X.var v).den ρ = _ from hd.trans hn)]
    ·cases hv
 ·cases h
theorem chkLeaves_ok {s : Sub} {ρ : Rho} (hs : SubIs s ρ σa.rho) (blk : Nat→Option (Nat×Nat)) : ∀ {ls : List Leaf} {as : List AV} {us : List Value},chkLeaves s ls as = true→Ins σa as us→Ins ⟨blk,ρ⟩ (ls.map Leaf.av) us
 | [],[],us,h,hi => by cases hi; exact .nil
 | l :: ls,a :: as,us,h,hi => by
   obtain ⟨h1,h2⟩:=zb h
   cases hi with
   | cons ha hl => exact .cons (chkLeaf_ok hs h1 ha blk) (chkLeaves_ok hs blk h2 hl)
 | [],_ :: _,us,h,hi => by cases h
 | _ :: _,[],us,h,hi => by cases h
theorem chkArgs_ok (hA : E.At σa) (hS : S.rel E.P σa w Wr) {s : Sub} {ren : Ren} : ∀ {ps : List Arg} {as : List AV} {us : List Value},chkArgs E S s ren ps as = true→Ins σa as us →
  ∃ g : Nat→Option Value,(∀ c ∈ capsOf ps,subOf s c = none)∧∀ ρ,SubIs s ρ σa.rho→(∀ c ∈ capsOf ps,ρ.val c = g c) →
    Ins ⟨fun i => (renOf ren i).bind fun j => σa j,ρ⟩ (argsAV ps) us∧∀ i blk,(i,blk) ∈ argsBlk ps→∃ j b κ o,renOf ren i = some j∧σa j = some (b,κ)∧(∃ blk',S.heap.get j = some blk')∧w.heap[b]? = some o ∧
     BRel E.P ⟨fun i => (renOf ren i).bind fun j => σa j,ρ⟩ κ blk o
 | [],[],us,h,hi => by
   cases hi
   exact ⟨fun _ => none,(fun c hc => by cases hc),fun ρ hs hg => ⟨.nil,fun i blk hb => by cases hb⟩⟩
 | .tup n :: ps,a :: as,us,h,hi => by
   cases hi with
   | cons ha hl =>
     rename_i u us
     cases a <;> first
      | (cases h; done)
      | (rename_i cs
         simp only [chkArgs] at h
         split at h
         ·rename_i hn
          have hn:=Nat.eq_of_beq_eq_true hn
          obtain ⟨vs,rfl,hvs⟩:=AV.inst_agg ha
          obtain ⟨g,k1,k2⟩:=chkArgs_ok hA hS h (hvs.append hl)
          refine ⟨g,k1,fun ρ hs hg => ?_⟩
          obtain ⟨q1,q2⟩:=k2 ρ hs hg
          have hlen : vs.length = n:=by rw [hvs.length,hn]
          have t1:=q1.take n
          have t2:=q1.drop n
          rw [← hlen,List.take_left] at t1
          rw [← hlen,List.drop_left] at t2
          refine ⟨?_,q2⟩
          show Ins _ (AV.agg ((argsAV ps).take n) :: (argsAV ps).drop n) _
          rw [← hlen]
          exact .cons (by simp only [AV.inst,instL_iff.2 t1]) t2
         ·cases h)
 | .one l :: ps,a :: as,us,h,hi => by
   obtain ⟨h1,h2⟩:=zb h
   cases hi with
   | cons ha hl =>
     obtain ⟨g,k1,k2⟩:=chkArgs_ok hA hS h2 hl
     exact ⟨g,k1,fun ρ hs hg => ⟨.cons (chkLeaf_ok hs h1 ha _) (k2 ρ hs hg).1,(k2 ρ hs hg).2⟩⟩
 | .agg ls :: ps,a :: as,us,h,hi => by
   obtain ⟨h1,h2⟩:=zb h
   cases hi with
   | cons ha hl =>
     obtain ⟨g,k1,k2⟩:=chkArgs_ok hA hS h2 hl
     cases a <;> first
      | (cases h1; done)
      | (rename_i cs
         obtain ⟨vs,rfl,hvs⟩:=AV.inst_agg ha
         exact ⟨g,k1,fun ρ hs hg => ⟨.cons (by simp only [Arg.av,AV.inst,instL_iff.2 (chkLeaves_ok hs _ h1 hvs)]) (k2 ρ hs hg).1,(k2 ρ hs hg).2⟩⟩)
 | .nils :: ps,a :: as,us,h,hi => by
   obtain ⟨h1,h2⟩:=zb h
   cases hi with
   | cons ha hl =>
     obtain ⟨g,k1,k2⟩:=chkArgs_ok hA hS h2 hl
     cases a <;> first
      | (cases h1; done)
      | exact ⟨g,k1,fun ρ hs hg => ⟨.cons (by simpa [Arg.av,AV.inst] using ha) (k2 ρ hs hg).1,(k2 ρ hs hg).2⟩⟩
 | .list i wd sch t bv rv cv :: ps,a :: as,us,h,hi => by
   obtain ⟨h1,h2⟩:=zb h
   cases hi with
   | cons ha hl =>
     rename_i u us
     obtain ⟨g,k1,k2⟩:=chkArgs_ok hA hS h2 hl
     simp only at h1
     split at h1
     ·rename_i j bx x hview
      obtain ⟨d1,d2⟩:=zb h1
      obtain ⟨d2,d3⟩:=zb d2
      obtain ⟨d3,d4⟩:=zb d3
      obtain ⟨d4,d5⟩:=zb d4
      have hni:=notIn_ok d5
      obtain ⟨b,κ,rows,pre,rest,fr,t₀,c,e1,e2,e3,e4,e5,e6,e7,e8,e9,rfl⟩:=rowsView_ok hA hS hview ha
      refine ⟨fun v => if v = cv then some (.int .i64 c) else g v,?_,fun ρ hs hg => ?_⟩
      ·intro q hq
       simp only [capsOf] at hq
       cases hq with
       | head =>
         split at d4
         ·assumption
         ·cases d4
       | tail _ hm => exact k1 q hm
      ·have hcv : ρ.val cv = some (.int .i64 (c : Int)):=by simpa [capsOf] using hg cv (by simp [capsOf])
       have hrest:=k2 ρ hs fun q hq => by
        have:=hg q (by simp [capsOf,hq])
        simp only [if_neg (hni q hq)] at this
        exact this
       have hren:=sameId_ok d3
       have hb : (X.var bv).nat ρ = some pre.length:=by
        rw [yD (show (X.var bv).den ρ = bx.den σa.rho from hs.val bv bx (isSub_ok d1))]; exact e5
       have hr : (X.var rv).den ρ = some (zQ rows):=(show (X.var rv).den ρ = x.den σa.rho from hs.val rv x (isSub_ok d2)).trans e4
       refine ⟨.cons ?_ hrest.1,?_⟩
       ·have hsig : (⟨fun i => (renOf ren i).bind fun j => σa j,ρ⟩ : Sig) i = some (b,κ):=by simp [hren,e1]
        have:=slx_inst (σ:=⟨fun i => (renOf ren i).bind fun j => σa j,ρ⟩) (w:=wd) (base:=.var bv) (lo:=.num 0) (len:=.op1 .len (.var rv)) (cap:=.var cv) hsig hb (kl:=0) (X.nat_iff.2 ⟨.i64,rfl⟩) (kn:=rows.length) (X.nat_iff.2 ⟨.i64,len_den hr⟩) (kc:=c) (X.nat_iff.2 ⟨.i64,hcv⟩) e9
        simpa [Arg.av] using this
       ·intro i' blk hm
        simp only [argsBlk,Arg.blk,List.singleton_append] at hm
        cases hm with
        | head =>
          refine ⟨j,b,κ,_,hren,e1,e2,e3,rows,pre,rest,fr,t₀,hr,hb,e6,e7,e8,rfl,fun h => by cases h⟩
        | tail _ hm => exact hrest.2 i' blk hm
     ·cases h1
 | [],_ :: _,us,h,hi => by cases h
 | p :: _,[],us,h,hi => by cases p <;> cases h
end
structure Con where
 f : FuncId
 args : List Arg
 N : Nat
 M : Nat
 pre : List (X×Bool)
 out : AV
 news : List (Nat×ABlock)
noncomputable def Con.fn (c : Con) : FnD:={ f:=c.f,args:=argsAV c.args,heap:=argsBlk c.args,N:=c.N,M:=c.M,out:=c.out,news:=c.news }
def Con.Ok (c : Con) (P : Program) (sy : Nat→List Value→Option Value) : Prop:=
 ∀ (r : Rho) (σ : Sig) (w : World) (us : List Value),r.sym = sy→σ.rho = r→zf r c.pre→(memOf c.fn.heap c.N).rel P σ w (fun b => w.heap.size≤b)→Ins σ c.fn.args us→Calls P c.f us.toArray w (FnQ P c.fn σ w)
noncomputable def chkPre (E : Env) (s : Sub) : List (X×Bool)→Bool
 | [] => true
 | (x,b) :: l => match yG s x with
   | some y => match decX E.facts y with
     | some c => andB (sameBo c b) (chkPre E s l)
     | none => false
   | none => false
theorem chkPre_ok {E : Env} {σa : Sig} (hA : E.At σa) {s : Sub} {ρ : Rho} (hs : SubIs s ρ σa.rho) : ∀ {l : List (X×Bool)},chkPre E s l = true→zf ρ l
 | [],_ => trivial
 | (x,b) :: l,h => by
   simp only [chkPre] at h
   split at h
   ·rename_i y hy
    split at h
    ·rename_i c hc
     obtain ⟨h1,h2⟩:=zb h
     obtain rfl:=sameBo_ok h1
     refine ⟨?_,chkPre_ok hA hs h2⟩
     have:=decX_some hA.facts hc
     rw [X.bool_iff] at this ⊢
     rw [yb hs x y hy]
     exact this
    ·cases h
   ·cases h
def renNew (next : Nat) : Nat→Nat→Ren
 | 0,_ => []
 | k + 1,i => (i,next) :: renNew (next + 1) k (i + 1)
noncomputable def substBlk (s : Sub) (ren : Ren) : ABlock→Option ABlock
 | .cells l t => match substAVs s ren l with
   | some l' => some (.cells l' t)
   | none => none
 | .rows w sch b x own t => match yG s b with
   | some b' => match yG s x with
     | some x' => some (.rows w sch b' x' own t)
     | none => none
   | none => none
 | .smap kag ks vag vs x => match yG s x with
   | some x' => some (.smap kag ks vag vs x')
   | none => none
 | _ => none
theorem substBlk_ok {P : Program} {s : Sub} {ren : Ren} {σ σa : Sig} (h : SubIs s σ.rho σa.rho) (hr : ∀ i j,renOf ren i = some j→σ i = σa j) {p a : ABlock} (e : substBlk s ren p = some a) {κ : Nat} {o : Obj} (hb : BRel P σ κ p o) : BRel P σa κ a o:=by
 unfold substBlk at e
 split at e
 ·split at e
  ·rename_i l' hl
   cases e
   obtain ⟨vs,rest,fr,hi,ho,hk⟩:=hb
   exact ⟨vs,rest,fr,instL_iff.1 (substAVs_ok h hr _ _ vs hl (instL_iff.2 hi)),ho,hk⟩
  ·cases e
 ·split at e
  ·rename_i b' hb'
   split at e
   ·rename_i x' hx'
    cases e
    obtain ⟨rows,pre,rest,fr,t₀,e1,e2,e3⟩:=hb
    exact ⟨rows,pre,rest,fr,t₀,(yb h _ _ hx').symm.trans e1,(yD (yb h _ _ hb')).symm.trans e2,e3⟩
   ·cases e
  ·cases e
 ·split at e
  ·rename_i x' hx'
   cases e
   obtain ⟨es,c,rows,e1,e2⟩:=hb
   exact ⟨es,c,rows,(yb h _ _ hx').symm.trans e1,e2⟩
  ·cases e
 ·cases e
noncomputable def substNews (s : Sub) (ren : Ren) : Nat→Nat→List (Nat×ABlock)→Option (List (Nat×ABlock))
 | _,_,[] => some []
 | i,j,(k,b) :: l => match Nat.beq i k with
   | true => match substBlk s ren b with
     | some b' => match substNews s ren (i + 1) (j + 1) l with
       | some l' => some ((j,b') :: l')
       | none => none
     | none => none
   | false => none
theorem substNews_mem {s : Sub} {ren : Ren} : ∀ {l l' : List (Nat×ABlock)} {i j : Nat},substNews s ren i j l = some l'→∀ id b',(id,b') ∈ l'→∃ d b,id = j + d∧d < l.length∧l[d]? = some (i + d,b)∧substBlk s ren b = some b'
 | [],l',i,j,h,id,b',hm => by cases h; cases hm
 | (k,b) :: l,l',i,j,h,id,b',hm => by
   simp only [substNews] at h
   split at h
   ·rename_i hk
    obtain rfl:=Nat.eq_of_beq_eq_true hk
    split at h
    ·rename_i b₁ hb₁
     split at h
     ·rename_i l₁ hl₁
      cases h
      cases hm with
      | head => exact ⟨0,b,by omega,by simp,by simp,hb₁⟩
      | tail _ hm =>
        obtain ⟨d,c,e1,e2,e3,e4⟩:=substNews_mem hl₁ id b' hm
        exact ⟨d + 1,c,by omega,by simp; omega,by simp only [List.getElem?_cons_succ]; rw [e3]; congr 2; omega,e4⟩
     ·cases h
    ·cases h
   ·cases h
theorem substNews_get {s : Sub} {ren : Ren} : ∀ {l l' : List (Nat×ABlock)} {i j : Nat},substNews s ren i j l = some l'→(∀ p ∈ l,p.1 < zM)→∀ d b,l[d]? = some (i + d,b)→(yf l).get (i + d) = some b
 | [],l',i,j,h,hm,d,b,hd => by simp at hd
 | (k,c) :: l,l',i,j,h,hm,d,b,hd => by
   simp only [substNews] at h
   split at h
   ·rename_i hk
    obtain rfl:=Nat.eq_of_beq_eq_true hk
    split at h
    ·split at h
     ·rename_i l₁ hl₁
      have hi:=hm (i,c) (by simp)
      have e : ∀ q,(yf ((i,c) :: l)).get q = if q = i then some c else (yf l).get q:=fun q => Trie.get_put _ _ _ _ (by simpa [zM] using hi)
      rw [e]
      cases d with
      | zero => simp only [List.getElem?_cons_zero,Option.some.injEq,Prod.mk.injEq] at hd; simp [hd.2]
      | succ d =>
        rw [if_neg (by omega)]
        simp only [List.getElem?_cons_succ] at hd
        have:=substNews_get hl₁ (fun p hp => hm p (List.mem_cons_of_mem _ hp)) d b (by rw [hd]; congr 2; omega)
        rw [show i + (d + 1) = i + 1 + d by omega]
        exact this
     ·cases h
    ·cases h
   ·cases h
theorem renNew_of {next : Nat} : ∀ {k i₀ next : Nat} {i j : Nat},renOf (renNew next k i₀) i = some j→i₀≤i∧i < i₀ + k∧j = next + (i - i₀)
 | 0,i₀,next,i,j,h => by cases h
 | k + 1,i₀,next,i,j,h => by
   simp only [renNew,renOf] at h
   split at h
   ·rename_i e
    cases h
    have:=Nat.eq_of_beq_eq_true e
    omega
   ·rename_i e
    have:=renNew_of (next:=next) h
    have hne : i₀≠i:=Nat.ne_of_beq_eq_false e
    omega
theorem renOf_append : ∀ {l m : Ren} {i j : Nat},renOf (l ++ m) i = some j→renOf l i = some j∨(renOf l i = none∧renOf m i = some j)
 | [],m,i,j,h => .inr ⟨rfl,h⟩
 | (a,b) :: l,m,i,j,h => by
   simp only [List.cons_append,renOf] at h ⊢
   split at h
   ·exact .inl h
   ·exact renOf_append h
noncomputable def cLib (c : Con) (E : Env) : yj:=fun f as S =>
 match Nat.beq f c.f with
 | true => match bindArgs E S c.args as with
   | some (s,ren) => match andB (chkArgs E S s ren c.args as) (andB (distinct ren) (andB (ren.all fun p => andB (Nat.blt p.1 c.N) (Nat.blt p.2 S.next)) (andB (chkPre E s c.pre) (andB (Nat.ble c.N c.M) (andB (Nat.blt c.M zM) (andB (lowIds (argsBlk c.args)) (Nat.beq (c.N + c.news.length) c.M))))))) with
     | true => match substAV s (ren ++ renNew S.next (c.M - c.N) c.N) c.out with
       | some v => match substNews s (ren ++ renNew S.next (c.M - c.N) c.N) c.N S.next c.news with
         | some news => match fromIds S.next news with
           | true => some (.ret v,{ heap:=addAll S.heap news,next:=S.next + (c.M - c.N),limit:=S.limit })
           | false => none
         | none => none
       | none => none
     | false => none
   | none => none
 | false => none
section
variable {E : Env}
theorem cLib_ok {c : Con} {sy : Nat→List Value→Option Value} (hc : c.Ok E.P sy) (hsy : ∀ r,E.rho = some r→r.sym = sy) (hrho : ∃ r,E.rho = some r) : zu E (cLib c E):=by
 intro f as S r S' h σa w Wr us hA hS hi
 unfold cLib at h
 split at h
 ·rename_i hf
  obtain rfl:=Nat.eq_of_beq_eq_true hf
  split at h
  ·rename_i s ren hbind
   split at h
   ·rename_i hchk
    obtain ⟨k1,k2⟩:=zb hchk
    obtain ⟨k2,k3⟩:=zb k2
    obtain ⟨k3,k4⟩:=zb k3
    obtain ⟨k4,k5⟩:=zb k4
    obtain ⟨k5,k6⟩:=zb k5
    obtain ⟨k6,k7⟩:=zb k6
    obtain ⟨k7,k8⟩:=zb k7
    have hNM:=Nat.le_of_ble_eq_true k5
    have hM:=zo k6
    have hlen:=Nat.eq_of_beq_eq_true k8
    rw [List.all_eq_true] at k3
    split at h
    ·rename_i v hv
     split at h
     ·rename_i news hnews
      split at h
      ·rename_i hfrom
       cases h
       obtain ⟨r,hr⟩:=hrho
       have hρa : σa.rho = r:=hA.rho r hr
       have hsym : σa.rho.sym = sy:=by rw [hρa]; exact hsy r hr
       obtain ⟨g,hcap,hargs⟩:=chkArgs_ok hA hS k1 hi
       let ρ : Rho:=⟨fun v => match subOf s v with | some x => x.den σa.rho | none => g v,σa.rho.sym⟩
       have hs : SubIs s ρ σa.rho:=⟨fun v x hx => by simp only [ρ,hx],rfl⟩
       obtain ⟨hins,hblk⟩:=hargs ρ hs fun q hq => by simp only [ρ,hcap q hq]
       let σ : Sig:=⟨fun i => (renOf ren i).bind fun j => σa j,ρ⟩
       have hkeys : ∀ i j,renOf ren i = some j→i < c.N∧j < S.next:=fun i j hij => by
        obtain ⟨q1,q2⟩:=zb (k3 (i,j) (renOf_mem hij))
        exact ⟨zo q1,zo q2⟩
       have hmem : (memOf c.fn.heap c.N).rel E.P σ w (fun b => w.heap.size≤b):=by
        have hget : ∀ i b,(yf c.fn.heap).get i = some b→(i,b) ∈ c.fn.heap:=fun i b hb => buildH_get k7 hb
        refine ⟨fun i b hb => ?_,fun i i' bi bj x y hi' hj' hx hy hxy => ?_,fun i b x hb hl hx => ?_,fun b hb => hb,fun i hi' => ?_,fun i hi' => fromN_high hi'⟩
        ·obtain ⟨j,bb,κ,o,e1,e2,e3,e4,e5⟩:=hblk i b (hget i b hb)
         exact ⟨bb,κ,o,by simp [σ,e1,e2],e4,e5⟩
        ·obtain ⟨j,bb,κ,o,e1,e2,⟨c1,e3⟩,e4,e5⟩:=hblk i bi (hget i bi hi')
         obtain ⟨j',bb',κ',o',e1',e2',⟨c2,e3'⟩,e4',e5'⟩:=hblk i' bj (hget i' bj hj')
         have hx' : σa j = some x:=by simpa [σ,e1] using hx
         have hy' : σa j' = some y:=by simpa [σ,e1'] using hy
         exact .inr ⟨fromN_low (hkeys i j e1).1,fromN_low (hkeys i' j' e1').1⟩
        ·obtain ⟨j,bb,κ,o,e1,e2,e3,e4,e5⟩:=hblk i b (hget i b hb)
         rw [show (memOf c.fn.heap c.N).limit = yi c.N [] from rfl,fromN_low (hkeys i j e1).1] at hl
         cases hl
        ·have hi' : c.N≤i:=hi'
         constructor
         ·show (renOf ren i).bind (fun j => σa j) = none
          cases hr' : renOf ren i with
          | none => rfl
          | some j => have:=(hkeys i j hr').1; omega
         ·show (yf c.fn.heap).get i = none
          cases hg : (yf c.fn.heap).get i with
          | none => rfl
          | some b =>
            obtain ⟨j,bb,κ,o,e1,_⟩:=hblk i b (hget i b hg)
            have:=(hkeys i j e1).1
            omega
       refine (hc ρ σ w us hsym rfl (chkPre_ok hA hs k4) hmem hins).mono ?_
       rintro e w' ⟨σ₂,u,rfl,hu,hk,hrho2,hlow,hrel⟩
       have hrho2 : σ₂.rho = ρ:=hrho2
       let σ' : Sig:=⟨fun id => if id < S.next then σa id else σ₂ (c.N + (id - S.next)),σa.rho⟩
       have hold' : ∀ id,id < S.next→σ' id = σa id:=fun id hid => by simp [σ',hid]
       have hsub : SubIs s σ₂.rho σ'.rho:=by rw [hrho2]; exact hs
       have hren2 : ∀ i j,renOf (ren ++ renNew S.next (c.M - c.N) c.N) i = some j→σ₂ i = σ' j:=fun i j hij => by
        rcases renOf_append hij with h1 | ⟨_,h1⟩
        ·obtain ⟨q1,q2⟩:=hkeys i j h1
         rw [hold' j q2,hlow i q1]
         simp [σ,h1]
        ·obtain ⟨q1,q2,q3⟩:=renNew_of (next:=S.next) h1
         have : σ' j = σ₂ (c.N + (j - S.next)):=by simp only [σ']; rw [if_neg (by omega)]
         rw [this]
         congr 1
         omega
       have hle : σa.le σ':=⟨fun id x hx => by
        have : id < S.next:=by
         rcases Nat.lt_or_ge id S.next with h' | h'
         ·exact h'
         ·rw [(hS.fresh id h').1] at hx; cases hx
        rw [hold' id this]; exact hx,rfl⟩
       obtain ⟨hget1,hget2⟩:=addAll_get (H:=S.heap) hfrom
       have hfromM:=fromIds_mem hfrom
       have hltS : ∀ id blk,S.heap.get id = some blk→id < S.next:=fun id blk h => by
        rcases Nat.lt_or_ge id S.next with h' | h'
        ·exact h'
        ·rw [(hS.fresh id h').2] at h; cases h
       have hwas : ∀ id blk y,S.heap.get id = some blk→σa id = some y→y.1 < w.heap.size:=fun id blk y h1 h2 => by
        obtain ⟨b,κ,ob,h3,h4,_⟩:=hS.at_ id blk h1
        rw [h2] at h3; cases h3
        exact (Array.getElem?_eq_some_iff.1 h4).1
       have hids : ∀ p ∈ c.news,p.1 < zM:=fun p hp => by
        obtain ⟨d,hd⟩:=List.getElem?_of_mem hp
        have hdl:=(List.getElem?_eq_some_iff.1 hd).1
        have : ∀ {l l' : List (Nat×ABlock)} {i j d : Nat} {p : Nat×ABlock},substNews s (ren ++ renNew S.next (c.M - c.N) c.N) i j l = some l'→l[d]? = some p→p.1 = i + d:=by
         intro l
         induction l with
         | nil => intro l' i j d p _ hd; simp at hd
         | cons q l ih =>
           intro l' i j d p hs hd
           obtain ⟨k,b⟩:=q
           simp only [substNews] at hs
           split at hs
           ·rename_i hk'
            split at hs
            ·split at hs
             ·rename_i l₁ hl₁
              cases d with
              | zero =>
                simp only [List.getElem?_cons_zero,Option.some.injEq] at hd
                subst hd
                exact (Nat.eq_of_beq_eq_true hk').symm
              | succ d =>
                simp only [List.getElem?_cons_succ] at hd
                have:=ih hl₁ hd
                omega
             ·cases hs
            ·cases hs
           ·cases hs
        have:=this hnews hd
        omega
       -- a new block
       have hnew : ∀ id b',(id,b') ∈ news→∃ d b,id = S.next + d∧c.N + d < c.M∧(newsOf c.fn).heap.get (c.N + d) = some b∧σ' id = σ₂ (c.N + d)∧∀ κ o,BRel E.P σ₂ κ b o→BRel E.P σ' κ b' o:=fun id b' hm => by
        obtain ⟨d,b,e1,e2,e3,e4⟩:=substNews_mem hnews id b' hm
        refine ⟨d,b,e1,by omega,substNews_get hnews hids d b e3,?_,fun κ o hb => substBlk_ok hsub hren2 e4 hb⟩
        simp only [σ']
        rw [if_neg (by omega)]
        congr 1
        omega
       refine ⟨σ',⟨u,substAV_ok hsub hren2 _ _ u hv hu,rfl⟩,⟨⟨?_,?_,?_,?_,?_,?_⟩,⟨fun id hid => hold' id hid,rfl⟩,Nat.le_add_right _ _,rfl,⟨hk.size,fun b hb => hk.same b fun e => hb (hS.wrNew b e),hk.out⟩,fun id hid => ?_⟩⟩
       ·intro id blk hb
        rcases hget2 hb with ⟨h1,h2⟩ | h1
        ·obtain ⟨d,b,e1,e2,e3,e4,e5⟩:=hnew id blk h1
         obtain ⟨bb,κ,o,f1,f2,f3⟩:=hrel.at_ _ b e3
         exact ⟨bb,κ,o,by rw [e4]; exact f1,f2,e5 κ o f3⟩
        ·obtain ⟨b,κ,o,h3,h4,h5⟩:=hS.at_ id blk h1
         refine ⟨b,κ,o,hle _ _ h3,?_,h5.le hle⟩
         have:=(Array.getElem?_eq_some_iff.1 h4).1
         rw [hk.same b (by omega)]
         exact h4
       ·intro i j bi bj x y hi' hj' hx hy hxy
        have fresh : ∀ id b' z,(id,b') ∈ news→σ' id = some z→w.heap.size≤z.1:=fun id b' z hm hz => by
         obtain ⟨d,b,e1,e2,e3,e4,e5⟩:=hnew id b' hm
         rw [e4] at hz
         exact hrel.wr _ b z e3 (show yi c.N [] (c.N + d) = true from fromN_high (by omega)) hz
        rcases hget2 hi' with ⟨h1,h2⟩ | h1 <;> rcases hget2 hj' with ⟨h3,h4⟩ | h3
        ·obtain ⟨d,b,e1,e2,e3,e4,e5⟩:=hnew i bi h1
         obtain ⟨d',b',e1',e2',e3',e4',e5'⟩:=hnew j bj h3
         rw [e4] at hx
         rw [e4'] at hy
         have:=(hrel.inj _ _ b b' x y e3 e3' hx hy hxy).elim id fun hq => by
          have h9 : yi c.N [] (c.N + d) = false:=hq.1
          rw [fromN_high (by omega)] at h9
          cases h9
         omega
        ·have a1:=fresh i bi x h1 hx
         have h5:=hltS j bj h3
         rw [hold' j h5] at hy
         have a2:=hwas j bj y h3 hy
         omega
        ·have a1:=fresh j bj y h3 hy
         have h5:=hltS i bi h1
         rw [hold' i h5] at hx
         have a2:=hwas i bi x h1 hx
         omega
        ·have h5:=hltS i bi h1
         have h6:=hltS j bj h3
         rw [hold' i h5] at hx
         rw [hold' j h6] at hy
         exact hS.inj i j bi bj x y h1 h3 hx hy hxy
       ·intro id blk x hb hl hx
        rcases hget2 hb with ⟨h1,h2⟩ | h1
        ·obtain ⟨d,b,e1,e2,e3,e4,e5⟩:=hnew id blk h1
         rw [e4] at hx
         exact hS.wrNew _ (hrel.wr _ b x e3 (show yi c.N [] (c.N + d) = true from fromN_high (by omega)) hx)
        ·have h5:=hltS id blk h1
         rw [hold' id h5] at hx
         exact hS.wr id blk x h1 hl hx
       ·intro b hb
        exact hS.wrNew b (Nat.le_trans hk.size hb)
       ·intro id hid
        have hid : S.next + (c.M - c.N)≤id:=hid
        constructor
        ·show (if id < S.next then σa id else σ₂ (c.N + (id - S.next))) = none
         rw [if_neg (by omega)]
         exact (hrel.fresh _ (show c.M≤c.N + (id - S.next) by omega)).1
        ·show (addAll S.heap news).get id = none
         cases hg : (addAll S.heap news).get id with
         | none => rfl
         | some b =>
           rcases hget2 hg with ⟨h1,h2⟩ | h1
           ·obtain ⟨d,b',e1,e2,_⟩:=hnew id b h1
            omega
           ·have:=hltS id b h1
            omega
       ·intro id hid
        have hid : S.next + (c.M - c.N)≤id:=hid
        exact hS.low id (by omega)
       ·have : id < S.next:=by
         rcases Nat.lt_or_ge id S.next with h' | h'
         ·exact h'
         ·rw [hS.low id h'] at hid; cases hid
        exact hget1 id this
      ·cases h
     ·cases h
    ·cases h
   ·cases h
  ·cases h
 ·cases h
end
open Go
theorem yl {σ : Sig} {k : IntKind} {v : Nat} {u : Value} (h : (Leaf.int k v).av.inst σ = some u) : ∃ n k',u = .int k n∧σ.rho.val v = some (.int k' n):=by
 obtain ⟨n,k',h1,h2⟩:=toI_ok (a:=.sint k (.var v)) rfl h
 exact ⟨n,k',h1,h2⟩
theorem one_str {σ : Sig} {v : Nat} {u : Value} (h : (Leaf.str v).av.inst σ = some u) : ∃ b,u = .string b∧σ.rho.val v = some (.string b):=by
 obtain ⟨n,h1,h2⟩:=toS_ok (a:=.sstr (.var v)) rfl h
 exact ⟨n,h1,h2⟩
theorem rows_at {P : Program} {l : List (Nat×ABlock)} {N i wd : Nat} {sch : List CK} {b x : X} {own : Bool} {t : TypeId} {σ : Sig} {w : World} {Wr : Nat→Prop} (hrel : (memOf l N).rel P σ w Wr) (hg : (yf l).get i = some (.rows wd sch b x own t)) :
  ∃ rows,x.den σ.rho = some (zQ rows)∧∀ r ∈ rows,RowFits sch r:=by
 obtain ⟨bb,κ,o,_,_,rows,pre,rest,fr,t₀,h1,h2,h3,h4,h5,h6,h7⟩:=hrel.at_ i _ hg
 exact ⟨rows,h1,h5⟩
noncomputable def libs : List (Env→yj)→Env→yj
 | [],_ => fun _ _ _ => none
 | c :: l,E => fun f as S => match c E f as S with
   | some r => some r
   | none => libs l E f as S
theorem libs_ok {E : Env} : ∀ {l : List (Env→yj)},(∀ c ∈ l,zu E (c E))→zu E (libs l E)
 | [],_ => fun f as S r S' h => by cases h
 | c :: l,h => fun f as S r S' he => by
   simp only [libs] at he
   split at he
   ·rename_i r' hr
    cases he
    exact h c List.mem_cons_self f as S r S' hr
   ·exact libs_ok (fun d hd => h d (List.mem_cons_of_mem _ hd)) f as S r S' he
open Go
noncomputable def envOf (P : Program) : Env:={
 P:=P,
 und:=fun t => P.underlying t,
 inf:=fun t => P.info? t,
 fn:=fun f => P.funcs[f]?,
 glob:=fun _ => none,
 pure:=fun _ => false,
 names:=true }
theorem envOf_ok {P : Program} (h0 : P.funcs.toList.all (fun g => !(g.name == "runtime.NumGoroutine")) = true) (h1 : P.follows .mixedOrders = true) : (envOf P).Ok:={
 und:=fun t d h => h,
 inf:=fun t i h => h,
 fn:=fun f g h => h,
 name:=fun f g h => by
  have h : P.funcs[f]? = some g:=h
  have hm : g ∈ P.funcs.toList:=by
   rw [← Array.getElem?_toList] at h
   exact List.mem_of_getElem? h
  have:=List.all_eq_true.1 h0 g hm
  simpa using this,
 mixed:=h1 }
theorem y6 {E : Env} (hE : E.Ok) (hg : ∀ g,E.glob g = none) {c : Con} {sy : Nat→List Value→Option Value} {L : Env→yj} {H : Env→LoopE} {d : Nat} {t : GTree} {l : List (List (X×Bool)×Option zp)}
  {r : Rho} {σ : Sig} {w : World} {us : List Value} (hL : ∀ F,zu (E.with F r) (L (E.with F r))) (hH : ∀ F,LoopsOk (E.with F r) (H (E.with F r)))
  (hw : c.fn.ways (fun E => zS E (evH E (L E) (H E) d)) E r c.pre t = some l) (hρ : σ.rho = r) (hpre : zf r c.pre) (hrel : (memOf c.fn.heap c.N).rel E.P σ w (fun b => w.heap.size≤b)) (hins : Ins σ c.fn.args us)
  (ha : y9 r (t.asks c.pre)) (he : zR r l) : Calls E.P c.f us.toArray w (FnQ E.P c.fn σ w):=
 fn_says (E:=E) (D:=c.fn) (fun F rs hrs σ w us hAt hS hi => acallAll_ok (Env.with_ok hE F r) (evH_ok (Env.with_ok hE F r) (hL F) (hH F) d) hrs hAt hS hi) hw hpre ha.ok he hρ (fun g id e => by rw [hg g] at e; cases e) hrel hins
theorem ya {E : Env} {c : Con} {sy : Nat→List Value→Option Value} (hc : c.Ok E.P sy) (F : List (X×Bool)) {r : Rho} (hs : r.sym = sy) : zu (E.with F r) (cLib c (E.with F r)):=
 cLib_ok (E:=E.with F r) hc (fun r' e => by
  have : r = r':=Option.some.inj e
  rw [← this]; exact hs) ⟨r,rfl⟩
theorem noH_ok {E : Env} : LoopsOk E yX:=noLoops_ok
open Go
theorem zn {σ : Sig} {a : AV} {l : List AV} {us : List Value} (h : Ins σ (a :: l) us) : ∃ u us',us = u :: us'∧a.inst σ = some u∧Ins σ l us':=by
 cases h with
 | cons ha hl => exact ⟨_,_,rfl,ha,hl⟩
open Go
noncomputable def plainLib (f : Nat) (args : List AV) (l : List (Nat×ABlock)) (v : AV) : yj:=fun g as S =>
 match Nat.beq g f with
 | true => match sameAVs as args with
   | true => match covers S.heap l with
     | true => some (.ret v,S)
     | false => none
   | false => none
 | false => none
noncomputable def closedLib (f : Nat) (l : List (Nat×ABlock)) (v : AV) : yj:=plainLib f [] l v
noncomputable def plainH (l : List (Nat×ABlock)) : Bool:=l.all fun p => match p.2 with
 | .cells as _ => as.all fun a => a.plain.isSome
 | _ => false
theorem Ins.plain {σ σ0 : Sig} : ∀ {as : List AV} {vs : List Value},(as.all fun a => a.plain.isSome) = true→Ins σ as vs→Ins σ0 as vs
 | [],vs,_,h => by cases h; exact .nil
 | a :: as,vs,hp,h => by
   simp only [List.all_cons,Bool.and_eq_true] at hp
   cases h with
   | cons ha hl =>
     obtain ⟨u,hu⟩:=Option.isSome_iff_exists.1 hp.1
     have:=AV.plain_inst hu σ
     rw [ha] at this
     cases this
     exact .cons (AV.plain_inst hu σ0) (Ins.plain hp.2 hl)
theorem plainLib_ok {E0 E : Env} {f n : Nat} {args : List AV} {l : List (Nat×ABlock)} {v : AV} (hL : zu E0 (memoLib f args l n v [] n)) (hP : E.P = E0.P) (hg : ∀ g id,E0.glob g = some id→E.glob g = some id∧id < n) (hf : E0.facts = []) (hr : E0.rho = none)
  {u : Value} (hv : v.plain = some u) (hlow : lowIds l = true) (hn : (l.all fun p => Nat.blt p.1 n) = true) (hpl : plainH l = true) (hcov : covers (yf l) l = true) (hargs : (args.all fun a => a.plain.isSome) = true) : zu E (plainLib f args l v):=by
 intro g as S r S' h σ w Wr us hA hS hi
 unfold plainLib at h
 split at h
 ·rename_i hgf
  obtain rfl:=Nat.eq_of_beq_eq_true hgf
  split at h
  ·split at h
   ·rename_i hc
    cases h
    rename_i has _
    obtain rfl:=sameAVs_ok has
    let σ0 : Sig:=⟨fun i => if i < n then σ i else none,σ.rho⟩
    have hmem : ∀ id blk,(yf l).get id = some blk→(id,blk) ∈ l:=fun id blk hb => buildH_get hlow hb
    have hlt : ∀ id blk,(yf l).get id = some blk→id < n:=fun id blk hb => zo (List.all_eq_true.1 hn _ (hmem id blk hb))
    have sub : ∀ id blk,(yf l).get id = some blk→S.heap.get id = some blk:=fun id blk hb => covers_ok hc (hmem id blk hb)
    have hs0 : ∀ id,id < n→σ0 id = σ id:=fun id hid => by simp [σ0,hid]
    have hrel : (memOf l n).rel E0.P σ0 w (fun b => w.heap.size≤b):=by
     refine ⟨fun id blk hb => ?_,fun i j bi bj x y hi hj hx hy => ?_,fun id blk x hb hlim hx => ?_,fun b hb => hb,fun id hid => ?_,fun id hid => fromN_high hid⟩
     ·obtain ⟨b,κ,o,e1,e2,e3⟩:=hS.at_ id blk (sub id blk hb)
      refine ⟨b,κ,o,by rw [hs0 id (hlt id blk hb)]; exact e1,e2,?_⟩
      have hp:=List.all_eq_true.1 hpl _ (hmem id blk hb)
      cases blk <;> first
       | (cases hp; done)
       | (rename_i as t
          obtain ⟨vs,rest,fr,q1,q2,q3⟩:=e3
          rw [hP] at q3
          exact ⟨vs,rest,fr,Ins.plain hp q1,q2,q3⟩)
     ·rw [hs0 i (hlt i bi hi)] at hx
      rw [hs0 j (hlt j bj hj)] at hy
      exact fun _ => .inr ⟨fromN_low (hlt i bi hi),fromN_low (hlt j bj hj)⟩
     ·have:=hlt id blk hb
      rw [show (memOf l n).limit = yi n [] from rfl,fromN_low this] at hlim
      cases hlim
     ·have hid : n≤id:=hid
      refine ⟨by simp only [σ0]; rw [if_neg (by omega)],?_⟩
      cases hb : (memOf l n).heap.get id with
      | none => rfl
      | some blk => have:=hlt id blk hb; omega
    have hAt : E0.At σ0:=by
     refine ⟨fun g id e => ?_,fun x b hx => ?_,fun r e => ?_⟩
     ·obtain ⟨h1,h2⟩:=hg g id e
      obtain ⟨κ,hk⟩:=hA g id h1
      exact ⟨κ,by rw [hs0 id h2]; exact hk⟩
     ·rw [hf] at hx; cases hx
     ·rw [hr] at e; cases e
    have hself : sameAVs as as = true:=has
    have hrun : memoLib g as l n v [] n g as (memOf l n) = some (.ret v,{ heap:=addAll (yf l) [],next:=n,limit:=(memOf l n).limit }):=by
     unfold memoLib
     simp only [Nat.beq_refl,memOf,hself,hcov]
    have hcall:=hL g as (memOf l n) _ _ hrun σ0 w _ us hAt hrel (Ins.plain hargs hi)
    rw [← hP] at hcall
    refine hcall.mono ?_
    rintro e w' ⟨σ',⟨u',hu,rfl⟩,hp⟩
    rw [AV.plain_inst hv σ'] at hu
    cases hu
    exact ⟨σ,⟨u,AV.plain_inst hv σ,rfl⟩,pure_post hS hp.kept⟩
   ·cases h
  ·cases h
 ·cases h
theorem closedLib_ok {E0 E : Env} {f n : Nat} {l : List (Nat×ABlock)} {v : AV} (hL : zu E0 (memoLib f [] l n v [] n)) (hP : E.P = E0.P) (hg : ∀ g id,E0.glob g = some id→E.glob g = some id∧id < n) (hf : E0.facts = []) (hr : E0.rho = none)
  {u : Value} (hv : v.plain = some u) (hlow : lowIds l = true) (hn : (l.all fun p => Nat.blt p.1 n) = true) (hpl : plainH l = true) (hcov : covers (yf l) l = true) : zu E (closedLib f l v):=
 plainLib_ok hL hP hg hf hr hv hlow hn hpl hcov rfl
theorem law_of {E : Env} (hE : E.Ok) {D : FnD} {L : Env→yj} {H : Env→LoopE} {d : Nat} {t : GTree} {l : List (List (X×Bool)×Option zp)} {F0 : List (X×Bool)}
  {r : Rho} {σ : Sig} {w : World} {us : List Value} (hL : ∀ F,zu (E.with F r) (L (E.with F r))) (hH : ∀ F,LoopsOk (E.with F r) (H (E.with F r)))
  (hw : D.ways (fun E => zS E (evH E (L E) (H E) d)) E r F0 t = some l) (hρ : σ.rho = r) (hA : ∀ g id,E.glob g = some id→∃ κ,σ id = some (g,κ)) (hpre : zf r F0)
  (hrel : (memOf D.heap D.N).rel E.P σ w (fun b => w.heap.size≤b)) (hins : Ins σ D.args us) (ha : y9 r (t.asks F0)) (he : zR r l) (hout : ∀ σ,D.out.inst σ = some (.bool true)) :
  Calls E.P D.f us.toArray w fun e w' => e = .returned (.bool true)∧Kept (fun b => w.heap.size≤b) w w':=by
 refine (fn_says (E:=E) (D:=D) (fun F rs hrs σ w us hAt hS hi => acallAll_ok (Env.with_ok hE F r) (evH_ok (Env.with_ok hE F r) (hL F) (hH F) d) hrs hAt hS hi) hw hpre ha.ok he hρ hA hrel hins).mono ?_
 rintro e w' ⟨σ₂,u,rfl,hu,hk,_⟩
 rw [hout σ₂] at hu
 cases hu
 exact ⟨rfl,hk⟩
end Go.Proofs.YtfddkbbjnghefaaGreatDoor.Zs
