/-
  Contracts: Value.
-/
import Derived.Test.YtckefonlahokkaaGreatDoorVaConC
import Derived.KernelRfl
set_option linter.unusedSimpArgs false
set_option linter.unusedVariables false
namespace Go.Proofs.YtckefonlahokkaaGreatDoor.Zs
open Go
def tw_vs : List X:=[.num 0,.nil]
noncomputable def lTw_D : LoopD:={ N:=100,M:=102,size:=sizeOfF 32,reads:=[(0,.rows 1 whoSch (.var 0) (.var 1) false 3)],pats:=[{ slots:=[(0,.slx 0 1 (.var 0) (.num 0) (.op1 .len (.var 1)) (.var 2)),(3,.map 1),(7,.slx 0 1 (.var 0) (.num 0) (.op1 .len (.var 1)) (.var 2)),(8,.sint .i64 (.op1 .len (.var 1))),(9,.sint .i64 (.var 100))],heap:=[(1,.smap false [.int .i64] false [.bool] (.var 101))] }],exits:=[(.exit 0,{ slots:=[],heap:=[],guard:=.op1 .not (.app 175 [.var 1]) }),(.ret,{ slots:=[(2,.bool true)],heap:=[],guard:=.app 175 [.var 1] })],own:=[1],pre:=[(.op2 .lt (.num 200) (.op1 .len (.var 1)),false)],dfs:=[] }
noncomputable def lTw_run : Env→AF→ASt→Option (List Out):=bodyRun LO 9 (fun _ => noLoop) (loopAt Tryz.prog 32 0)
def lTw0_F : List (X×Bool):=[(.op2 .lt (.var 100) (.num 0),false)]
def qFD0 : X:=.op1 (.kind .i64) (.cell 0 (.var 1) (.var 100))
def qFD1 : X:=.op2 .lt (.var 100) (.op1 .len (.var 1))
noncomputable def lTw0_t : FTree:=(.fork qFD1 (.fork (.op2 .mhas (.var 101) (.snoc .nil [qFD0])) (.fork (.op2 (.mat 1) (.var 101) (.snoc .nil [qFD0])) (.leaf [.leave 1 []]) (.leaf [.again 0 []])) (.leaf [.again 0 []])) (.leaf [.leave 0 []]))
noncomputable def lTw0_l : List (List (X×Bool)×Option (List (Tgt×Pairs))):=[([(.op2 (.mat 1) (.var 101) (.snoc .nil [qFD0]),true),(.op2 .mhas (.var 101) (.snoc .nil [qFD0]),true),(qFD1,true),(.op2 .lt (.var 100) (.num 0),false)],some [(.leave 1 [],[(.app 175 [.var 1],.boo true)])]),
 ([(.op2 (.mat 1) (.var 101) (.snoc .nil [qFD0]),false),(.op2 .mhas (.var 101) (.snoc .nil [qFD0]),true),(qFD1,true),(.op2 .lt (.var 100) (.num 0),false)],some [(.again 0 [],[(.var 100,.op1 (.wrap .i64) (.op2 .add (.var 100) (.num 1))),(.var 101,.op2 (.mput 1) (.var 101) (.snoc .nil [qFD0,.boo true]))])]),
 ([(.op2 .mhas (.var 101) (.snoc .nil [qFD0]),false),(qFD1,true),(.op2 .lt (.var 100) (.num 0),false)],some [(.again 0 [],[(.var 100,.op1 (.wrap .i64) (.op2 .add (.var 100) (.num 1))),(.var 101,.op2 (.mput 1) (.var 101) (.snoc .nil [qFD0,.boo true]))])]),
 ([(qFD1,false),(.op2 .lt (.var 100) (.num 0),false)],some [(.leave 0 [],[(.op1 .not (.app 175 [.var 1]),.boo true)])])]
theorem lTw0_w (r : Rho) : lTw_D.ways lTw_run E0 r 0 lTw0_F lTw0_t = some lTw0_l:=by kernel_rfl
theorem lTw_ok : lTw_D.ok = true:=by kernel_rfl
def seenAt (l : List Who) (i : Nat) : Bool:=atF (seenF (l.take i)) (l.getD i ⟨0⟩).n
theorem twice_no {l : List Who} (h : ∀ k,k < l.length→seenAt l k = false) : twiceW l = false:=by
 unfold twiceW
 rw [List.any_eq_false]
 intro k hk
 have:=h k (List.mem_range.1 hk)
 unfold seenAt at this
 rw [this]
 decide
theorem twice_yes {l : List Who} {k : Nat} (hk : k < l.length) (h : seenAt l k = true) : twiceW l = true:=by
 unfold twiceW
 exact List.any_eq_true.2 ⟨k,List.mem_range.2 hk,h⟩
def lTw_Inv (l : List Who) (j : Nat) (vals : List Value) : Prop:=j = 0∧∃ i : Nat,i≤l.length∧vals = [.int .i64 (i : Int),flgsR (seenF (l.take i))]∧∀ k,k < i→seenAt l k = false
def lTw_mu (l : List Who) (_ : Nat) (vals : List Value) : Nat:=l.length - (vI (vals.getD 0 default)).toNat
set_option maxHeartbeats 1000000 in
theorem lTw_step {ρ : Rho} {l : List Who} (h1 : ρ.val 1 = some (whosR l)) (hsy : ρ.sym = sy) (hmax : (l.length : Int)≤200) (j : Nat) (vals : List Value) (hI : lTw_Inv l j vals) : StepOk lTw_D lTw_run E0 ρ (lTw_Inv l) (lTw_mu l) j vals:=by
 obtain ⟨rfl,i,hi,rfl,hall⟩:=hI
 have hN : lTw_D.N = 100:=rfl
 have v1 : (ρ.ext lTw_D.N [.int .i64 (i : Int),flgsR (seenF (l.take i))]).val 1 = some (whosR l):=by rw [ext_low _ _ _ _ (by rw [hN]; omega)]; exact h1
 have v100 : (ρ.ext lTw_D.N [.int .i64 (i : Int),flgsR (seenF (l.take i))]).val 100 = some (.int .i64 (i : Int)):=by rw [ext_high _ _ _ _ (by rw [hN]; omega)]; rfl
 have v101 : (ρ.ext lTw_D.N [.int .i64 (i : Int),flgsR (seenF (l.take i))]).val 101 = some (flgsR (seenF (l.take i))):=by rw [ext_high _ _ _ _ (by rw [hN]; omega)]; rfl
 have vs : (ρ.ext lTw_D.N [.int .i64 (i : Int),flgsR (seenF (l.take i))]).sym = sy:=hsy
 have hF : FactsIn (ρ.ext lTw_D.N [.int .i64 (i : Int),flgsR (seenF (l.take i))]) lTw0_F:=by
  simp only [lTw0_F,FactsIn,X.bool,X.den,denL,dX,denSub,denIte,asB,dY,v100,Option.some.injEq,Value.bool.injEq,decide_eq_false_iff_not,and_true]
  omega
 suffices both : AsksL (ρ.ext lTw_D.N [.int .i64 (i : Int),flgsR (seenF (l.take i))]) (lTw0_t.asks lTw0_F)∧WaysOk lTw_D ρ (lTw_Inv l) (lTw_mu l) 0 [.int .i64 (i : Int),flgsR (seenF (l.take i))] lTw0_l from step_of_ways (lTw0_w _) hF both.1.ok both.2
 cases hp : l[i]? with
 | none =>
   have hge:=List.getElem?_eq_none_iff.1 hp
   have hge' : ¬ (i : Int) < l.length:=by omega
   have ht : twiceW l = false:=twice_no fun k hk => hall k (by omega)
   refine ⟨?_,?_⟩
   ·simp only [lTw0_t,qFD1,qFD0,lTw0_F,AsksL,GTree.asks,FTree.asks,FactsIn,List.append_nil,List.nil_append,List.cons_append,Option.some.injEq,exists_eq',implies_true,and_self,X.bool,X.den,denL,dX,denSub,denIte,asB,dY,d_hasF,d_putF,d_delF,d_hasR5,d_putR5,whos_snocN,whos_snoc0N,recs_snoc0N,flgs_snoc0N,sals_len,sals_cell,v1,v100,v101,vs,sym175,Int.toNat_natCast,hp,hge']
    try simp
   ·simp only [lTw0_l,qFD1,qFD0,EndsOk,WaysOk,forall_cons,forall_nil,TgtOk,gpair,FactsIn,hold_cons,hold_nil,Option.some.injEq,dZ,X.bool,X.den,denL,dX,denSub,denIte,asB,dY,beq_iff_eq,beq_eq_false_iff_ne,ne_eq,d_hasF,d_putF,d_delF,d_hasR5,d_putR5,whos_snocN,whos_snoc0N,recs_snoc0N,flgs_snoc0N,sals_len,sals_cell,beq_iff_eq,beq_eq_false_iff_ne,ne_eq,v1,v100,v101,vs,h1,hsy,sym175,Int.toNat_natCast,hp,hge',ht,reduceCtorEq,Bool.false_eq_true,false_implies,implies_true,true_implies,and_self,and_true,true_and]
    try simp
 | some x =>
   have hil : i < l.length:=(List.getElem?_eq_some_iff.1 hp).1
   have hil1 : (i : Int) < l.length:=by omega
   have hw : IntKind.i64.wrap ((i : Int) + 1) = ((i + 1 : Nat) : Int):=by rw [IntWalk.i64_in _ (by omega)]; rfl
   have hgx : l.getD i ⟨0⟩ = x:=by rw [List.getD_eq_getElem?_getD,hp]; rfl
   have hsa : seenAt l i = atF (seenF (l.take i)) x.n:=by unfold seenAt; rw [hgx]
   have hnext : seenF (l.take (i + 1)) = putF x.n true (seenF (l.take i)):=by rw [List.take_add_one,hp]; exact seenF_snoc _ x
   have go : seenAt l i = false→∃ vals',((ρ.ext lTw_D.N vals').val 100 = some (.int .i64 ((i + 1 : Nat) : Int))∧(ρ.ext lTw_D.N vals').val 101 = some (flgsR (putF x.n true (seenF (l.take i)))))∧lTw_Inv l 0 vals'∧lTw_mu l 0 vals' < lTw_mu l 0 [.int .i64 (i : Int),flgsR (seenF (l.take i))]:=by
    intro hb
    refine ⟨[.int .i64 ((i + 1 : Nat) : Int),flgsR (seenF (l.take (i + 1)))],⟨?_,?_⟩,⟨rfl,i + 1,by omega,rfl,fun k hk => ?_⟩,?_⟩
    ·rw [ext_high _ _ _ _ (by rw [hN]; omega)]; rfl
    ·rw [ext_high _ _ _ _ (by rw [hN]; omega),← hnext]; rfl
    ·rcases Nat.lt_or_ge k i with h | h
     ·exact hall k h
     ·rw [show k = i by omega]; exact hb
    ·simp [lTw_mu,vI]; omega
   cases eV : hasF (seenF (l.take i)) x.n with
   | false =>
     have f3:=at_noF eV
     refine ⟨?_,?_⟩
     all_goals (simp only [lTw0_t,qFD1,qFD0,lTw0_F,lTw0_l,AsksL,GTree.asks,FTree.asks,FactsIn,List.append_nil,List.nil_append,List.cons_append,Option.some.injEq,exists_eq',implies_true,and_self,X.bool,X.den,denL,dX,denSub,denIte,asB,dY,d_hasF,d_putF,d_delF,d_hasR5,d_putR5,whos_snocN,whos_snoc0N,recs_snoc0N,flgs_snoc0N,sals_len,sals_cell,EndsOk,WaysOk,forall_cons,forall_nil,TgtOk,gpair,FactsIn,hold_cons,hold_nil,Option.some.injEq,dZ,X.bool,X.den,denL,dX,denSub,denIte,asB,dY,beq_iff_eq,beq_eq_false_iff_ne,ne_eq,d_hasF,d_putF,d_delF,d_hasR5,d_putR5,whos_snocN,whos_snoc0N,recs_snoc0N,flgs_snoc0N,sals_len,sals_cell,beq_iff_eq,beq_eq_false_iff_ne,ne_eq,v1,v100,v101,vs,h1,hsy,sym175,Int.toNat_natCast,hp,Option.bind_some,who0,hil1,hw,eV,reduceCtorEq,Bool.false_eq_true,false_implies,implies_true,true_implies,and_self,and_true,true_and])
     all_goals (clear v1 v100 v101 vs h1 hsy hF)
     all_goals ((repeat' apply And.intro) <;> intros <;> first
      | trivial
      | (exact go (by rw [hsa,f3]))
      | (simp_all; done))
   | true =>
     have f1:=d_atF1 (seenF (l.take i)) x.n eV
     cases hb : atF (seenF (l.take i)) x.n with
     | false =>
       rw [hb] at f1
       refine ⟨?_,?_⟩
       all_goals (simp only [lTw0_t,qFD1,qFD0,lTw0_F,lTw0_l,AsksL,GTree.asks,FTree.asks,FactsIn,List.append_nil,List.nil_append,List.cons_append,Option.some.injEq,exists_eq',implies_true,and_self,X.bool,X.den,denL,dX,denSub,denIte,asB,dY,d_hasF,d_putF,d_delF,d_hasR5,d_putR5,whos_snocN,whos_snoc0N,recs_snoc0N,flgs_snoc0N,sals_len,sals_cell,EndsOk,WaysOk,forall_cons,forall_nil,TgtOk,gpair,FactsIn,hold_cons,hold_nil,Option.some.injEq,dZ,X.bool,X.den,denL,dX,denSub,denIte,asB,dY,beq_iff_eq,beq_eq_false_iff_ne,ne_eq,d_hasF,d_putF,d_delF,d_hasR5,d_putR5,whos_snocN,whos_snoc0N,recs_snoc0N,flgs_snoc0N,sals_len,sals_cell,beq_iff_eq,beq_eq_false_iff_ne,ne_eq,v1,v100,v101,vs,h1,hsy,sym175,Int.toNat_natCast,hp,Option.bind_some,who0,hil1,hw,eV,f1,reduceCtorEq,Bool.false_eq_true,false_implies,implies_true,true_implies,and_self,and_true,true_and])
       all_goals (clear v1 v100 v101 vs h1 hsy hF)
       all_goals ((repeat' apply And.intro) <;> intros <;> first
        | trivial
        | (exact go (by rw [hsa,hb]))
        | (simp_all; done))
     | true =>
       rw [hb] at f1
       have ht : twiceW l = true:=twice_yes hil (by rw [hsa,hb])
       refine ⟨?_,?_⟩
       all_goals (simp only [lTw0_t,qFD1,qFD0,lTw0_F,lTw0_l,AsksL,GTree.asks,FTree.asks,FactsIn,List.append_nil,List.nil_append,List.cons_append,Option.some.injEq,exists_eq',implies_true,and_self,X.bool,X.den,denL,dX,denSub,denIte,asB,dY,d_hasF,d_putF,d_delF,d_hasR5,d_putR5,whos_snocN,whos_snoc0N,recs_snoc0N,flgs_snoc0N,sals_len,sals_cell,EndsOk,WaysOk,forall_cons,forall_nil,TgtOk,gpair,FactsIn,hold_cons,hold_nil,Option.some.injEq,dZ,X.bool,X.den,denL,dX,denSub,denIte,asB,dY,beq_iff_eq,beq_eq_false_iff_ne,ne_eq,d_hasF,d_putF,d_delF,d_hasR5,d_putR5,whos_snocN,whos_snoc0N,recs_snoc0N,flgs_snoc0N,sals_len,sals_cell,beq_iff_eq,beq_eq_false_iff_ne,ne_eq,v1,v100,v101,vs,h1,hsy,sym175,Int.toNat_natCast,hp,Option.bind_some,who0,hil1,hw,eV,f1,ht,reduceCtorEq,Bool.false_eq_true,false_implies,implies_true,true_implies,and_self,and_true,true_and])
       all_goals (clear v1 v100 v101 vs h1 hsy hF)
       all_goals ((repeat' apply And.intro) <;> intros <;> first
        | trivial
        | (simp_all; done))
noncomputable def cTw_con : Con:={ f:=32,args:=[whosArg 0 0],N:=1,M:=1,pre:=[(.op2 .lt (.num 200) (.op1 .len (.var 1)),false)],out:=.sbool (.app 175 [.var 1]),news:=[] }
noncomputable def cTw_call : Env→CallL:=fun E => acallAll E (evH E (LO E) ((fun E => oneH 32 (hooks [(3,lTw_D.hook E.facts tw_vs)])) E) 9)
noncomputable def cTw_t : GTree:=(.fork (.app 175 [.var 1]) (.leaf [[]]) (.leaf [[]]))
noncomputable def cTw_l : List (List (X×Bool)×Option Pairs):=[([(.app 175 [.var 1],true),(.op2 .lt (.num 200) (.op1 .len (.var 1)),false)],some [(.app 175 [.var 1],.boo true)]),
 ([(.app 175 [.var 1],false),(.op2 .lt (.num 200) (.op1 .len (.var 1)),false)],some [(.app 175 [.var 1],.boo false)])]
theorem cTw_w (r : Rho) : cTw_con.fn.ways cTw_call E0 r cTw_con.pre cTw_t = some cTw_l:=by kernel_rfl
theorem tw_H {ρ : Rho} {l : List Who} (h1 : ρ.val 1 = some (whosR l)) (hsy : ρ.sym = sy) (hmax : (l.length : Int)≤200) (F : List (X×Bool)) : LoopsOk (E0.with F ρ) (oneH 32 (hooks [(3,lTw_D.hook (E0.with F ρ).facts tw_vs)])):=by
 refine loops_all (n:=1) (fun f fn h => h) (by kernel_rfl) fun i hi => ?_
 obtain rfl : i = 0:=by omega
 rw [hooks_hit (show keyOf (loopAt (E0.with F ρ).P 32 0) = 3 by kernel_rfl)]
 refine hook_ok (E₀:=E0) (run:=lTw_run) (ρ:=ρ) (Inv:=lTw_Inv l) (μ:=lTw_mu l) E0_ok lTw_ok (fun F r' h => ?_) (fun hp => ⟨lTw_step h1 hsy hmax,[.int .i64 0,flgsR []],?_,rfl,0,Nat.zero_le _,rfl,fun k hk => by omega⟩)
 ·exact bodyRun_ok E0_ok (LO_ok F (h.trans hsy)) fun _ _ => noLoop_ok
 ·simp only [tw_vs,X.bool,X.den,denL,dX,denSub,denIte,asB,dY]
  rfl
theorem whos_open {r : Rho} {σ : Sig} {w : World} {l : List (Nat×ABlock)} {N : Nat} {b : X} {own : Bool} {t : TypeId} {Wr : Nat→Prop} (i : Nat) (v : Nat) (hrel : (memOf l N).rel Tryz.prog σ w Wr) (hg : (buildH l).get i = some (.rows 1 whoSch b (.var v) own t)) (hρ : σ.rho = r) : ∃ ps : List Who,r.val v = some (whosR ps):=by
 obtain ⟨ps,h⟩:=whos_at hrel hg
 rw [hρ] at h
 exact ⟨ps,h⟩
theorem cTw_cok : cTw_con.Ok Tryz.prog sy:=by
 intro r σ w us hsy hρ hpre hrel hins
 obtain ⟨l,h1⟩:=whos_open 0 1 hrel rfl hρ
 have hmax : (l.length : Int)≤200:=by
  have:=hpre.1
  simp only [X.bool,X.den,denL,dX,denSub,denIte,asB,dY,h1,hsy,Option.some.injEq,Value.bool.injEq,decide_eq_false_iff_not] at this
  omega
 refine con_of (E:=E0) E0_ok E0_glob (sy:=sy) (fun F => LO_ok F hsy) (fun F => tw_H h1 hsy hmax F) (cTw_w r) hρ hpre hrel hins ?_ ?_
 ·simp only [cTw_con,cTw_t,qFD1,qFD0,AsksL,GTree.asks,FTree.asks,FactsIn,List.append_nil,List.nil_append,List.cons_append,Option.some.injEq,exists_eq',implies_true,and_self,X.bool,X.den,denL,dX,denSub,denIte,asB,dY,d_hasF,d_putF,d_delF,d_hasR5,d_putR5,whos_snocN,whos_snoc0N,recs_snoc0N,flgs_snoc0N,sals_len,sals_cell,h1,hsy,sym175]
  try simp
 ·simp only [cTw_l,qFD1,qFD0,EndsOk,WaysOk,forall_cons,forall_nil,TgtOk,gpair,FactsIn,hold_cons,hold_nil,Option.some.injEq,dZ,X.bool,X.den,denL,dX,denSub,denIte,asB,dY,beq_iff_eq,beq_eq_false_iff_ne,ne_eq,d_hasF,d_putF,d_delF,d_hasR5,d_putR5,whos_snocN,whos_snoc0N,recs_snoc0N,flgs_snoc0N,sals_len,sals_cell,beq_iff_eq,beq_eq_false_iff_ne,ne_eq,h1,hsy,sym175]
  try simp
  exact ⟨fun h _ => h,fun h _ => h⟩
open Go
noncomputable def orLoop (a b : LoopE) : LoopE:=fun f c fr S => match a f c fr S with
 | some r => some r
 | none => b f c fr S
theorem orLoop_ok {E : Env} {a b : LoopE} (ha : LoopsOk E a) (hb : LoopsOk E b) : LoopsOk E (orLoop a b):=by
 intro f fn c hf hc c' hm fr S outs h
 unfold orLoop at h
 split at h
 ·rename_i r hr
  cases h
  exact ha f fn c hf hc c' hm fr S _ hr
 ·exact hb f fn c hf hc c' hm fr S _ h
noncomputable def LV : Env→CallE:=libs [cLib cCks_con,cLib cTw_con]
theorem LV_ok (F : List (X×Bool)) {r : Rho} (h : r.sym = sy) : CallsOk (E0.with F r) (LV (E0.with F r)):=libs_ok fun c hc => by
 simp only [List.mem_cons,List.not_mem_nil,or_false] at hc
 rcases hc with rfl | rfl
 ·exact lib_ok (E:=E0) cCks_cok F h
 ·exact lib_ok (E:=E0) cTw_cok F h
def sm_vs : List X:=[.num 0,.num 0]
noncomputable def lVwL_D : LoopD:={ N:=100,M:=102,size:=sizeOfF 54,reads:=[(0,.rows 9 salSch (.var 0) (.var 1) false 27),(4,.cells [.slx 0 9 (.var 0) (.num 0) (.op1 .len (.var 1)) (.var 2)] 22),(5,.cells [.sint .i64 (.var 6)] 3),(6,.cells [.func (.func 28) [] []] 73)],pats:=[{ slots:=[(0,.yield 8),(1,.ptr 4 0),(2,.ptr 6 0),(3,.ptr 5 0),(5,.map 9),(14,.slx 0 9 (.var 0) (.num 0) (.op1 .len (.var 1)) (.var 2)),(15,.sint .i64 (.op1 .len (.var 1))),(16,.sint .i64 (.var 100))],heap:=[(9,.smap false [.int .i64] false [.bool] (.var 101))] }],exits:=[(.exit 0,{ slots:=[(0,.yield 8),(1,.ptr 4 0),(2,.ptr 6 0),(3,.ptr 5 0),(5,.map 9)],heap:=[(9,.smap false [.int .i64] false [.bool] (.app 166 [.var 1,.var 6]))] })],own:=[9],pre:=[(.app 23 [.var 1],true)],dfs:=[] }
noncomputable def lVwL_run : Env→AF→ASt→Option (List Out):=bodyRun LV 9 (fun _ => noLoop) (loopAt Tryz.prog 54 0)
def lVwL0_F : List (X×Bool):=[(.op2 .lt (.var 100) (.num 0),false)]
def qFE0 : X:=.app 172 [(.var 1),(.var 6)]
def qFE1 : X:=.snoc .nil [(.op1 (.kind .i64) (.cell 0 (.var 4) (.var 300)))]
def qFE2 : X:=.snoc .nil [(.op1 (.kind .i64) (.cell 0 (.var 1) (.var 200)))]
def qFE3 : X:=.op2 .eq (.app 164 [(.var 1)]) (.num 0)
def qFE4 : X:=.op2 .lt (.var 200) (.op1 .len (.var 1))
def qFE5 : X:=.op2 .eq (.cell 8 (.var 1) (.var 200)) (.num 0)
def qFE6 : X:=.op2 .lt (.num 200) (.op1 .len (.var 4))
def qFE7 : X:=.app 166 [(.var 1),(.var 6)]
def qFE8 : X:=.op1 (.wrap .i64) (.op2 .add (.var 200) (.num 1))
def qFE9 : X:=.app 174 [(.var 1),(.var 4),(.var 6)]
def qFE10 : X:=.app 173 [(.var 1),(.var 4),(.var 6)]
def qFE11 : X:=.op2 .lt (.var 6) (.cell 1 (.var 1) (.var 200))
def qFE12 : X:=.op2 .lt (.var 100) (.op1 .len (.var 1))
def qFE13 : X:=.op2 .lt (.var 300) (.op1 .len (.var 4))
def qFE14 : X:=.op2 (.mput 1) (.var 201) (.snoc .nil [(.op1 (.kind .i64) (.cell 3 (.var 1) (.var 200))),(.op1 (.kind .i64) (.cell 4 (.var 1) (.var 200)))])
def qFE15 : X:=.op2 .eq (.cell 8 (.var 1) (.var 100)) (.num 0)
def qFE16 : X:=.app 177 [qFE0,(.var 4)]
noncomputable def lVwL0_t : FTree:=(.fork qFE12 (.fork qFE15 (.leaf [.again 0 []]) (.fork (.op2 .lt (.var 6) (.cell 1 (.var 1) (.var 100))) (.leaf [.again 0 []]) (.leaf [.again 0 []]))) (.leaf [.leave 0 []]))
noncomputable def lVwL0_l : List (List (X×Bool)×Option (List (Tgt×Pairs))):=[([(qFE15,true),(qFE12,true),(.op2 .lt (.var 100) (.num 0),false)],some [(.again 0 [],[(.var 100,.op1 (.wrap .i64) (.op2 .add (.var 100) (.num 1))),(.var 101,.var 101)])]),
 ([(.op2 .lt (.var 6) (.cell 1 (.var 1) (.var 100)),true),(qFE15,false),(qFE12,true),(.op2 .lt (.var 100) (.num 0),false)],some [(.again 0 [],[(.var 100,.op1 (.wrap .i64) (.op2 .add (.var 100) (.num 1))),(.var 101,.var 101)])]),
 ([(.op2 .lt (.var 6) (.cell 1 (.var 1) (.var 100)),false),(qFE15,false),(qFE12,true),(.op2 .lt (.var 100) (.num 0),false)],some [(.again 0 [],[(.var 100,.op1 (.wrap .i64) (.op2 .add (.var 100) (.num 1))),(.var 101,.op2 (.mput 1) (.var 101) (.snoc .nil [.op1 (.kind .i64) (.cell 8 (.var 1) (.var 100)),.boo true]))])]),
 ([(qFE12,false),(.op2 .lt (.var 100) (.num 0),false)],some [(.leave 0 [],[(qFE7,.var 101)])])]
theorem lVwL0_w (r : Rho) : lVwL_D.ways lVwL_run E0 r 0 lVwL0_F lVwL0_t = some lVwL0_l:=by kernel_rfl
theorem lVwL_ok : lVwL_D.ok = true:=by kernel_rfl
def lVwL_Inv (l : List Sal9) (K : Int) (j : Nat) (vals : List Value) : Prop:=j = 0∧∃ i : Nat,i≤l.length∧vals = [.int .i64 (i : Int),flgsR (voidK (l.take i) K)]
def lVwL_mu (l : List Sal9) (_ : Nat) (vals : List Value) : Nat:=l.length - (vI (vals.getD 0 default)).toNat
set_option maxHeartbeats 1000000 in
theorem lVwL_step {ρ : Rho} {l : List Sal9} {K : Int} {k6 : IntKind} (h1 : ρ.val 1 = some (salsR l)) (h6 : ρ.val 6 = some (.int k6 K)) (hsy : ρ.sym = sy) (hsh : shortB l = true) (j : Nat) (vals : List Value) (hI : lVwL_Inv l K j vals) : StepOk lVwL_D lVwL_run E0 ρ (lVwL_Inv l K) (lVwL_mu l) j vals:=by
 obtain ⟨rfl,i,hi,rfl⟩:=hI
 have hN : lVwL_D.N = 100:=rfl
 have hmax:=short_len hsh
 have v1 : (ρ.ext lVwL_D.N [.int .i64 (i : Int),flgsR (voidK (l.take i) K)]).val 1 = some (salsR l):=by rw [ext_low _ _ _ _ (by rw [hN]; omega)]; exact h1
 have v6 : (ρ.ext lVwL_D.N [.int .i64 (i : Int),flgsR (voidK (l.take i) K)]).val 6 = some (.int k6 K):=by rw [ext_low _ _ _ _ (by rw [hN]; omega)]; exact h6
 have v100 : (ρ.ext lVwL_D.N [.int .i64 (i : Int),flgsR (voidK (l.take i) K)]).val 100 = some (.int .i64 (i : Int)):=by rw [ext_high _ _ _ _ (by rw [hN]; omega)]; rfl
 have v101 : (ρ.ext lVwL_D.N [.int .i64 (i : Int),flgsR (voidK (l.take i) K)]).val 101 = some (flgsR (voidK (l.take i) K)):=by rw [ext_high _ _ _ _ (by rw [hN]; omega)]; rfl
 have vs : (ρ.ext lVwL_D.N [.int .i64 (i : Int),flgsR (voidK (l.take i) K)]).sym = sy:=hsy
 have hF : FactsIn (ρ.ext lVwL_D.N [.int .i64 (i : Int),flgsR (voidK (l.take i) K)]) lVwL0_F:=by
  simp only [lVwL0_F,FactsIn,X.bool,X.den,denL,dX,denSub,denIte,asB,dY,v100,Option.some.injEq,Value.bool.injEq,decide_eq_false_iff_not,and_true]
  omega
 suffices both : AsksL (ρ.ext lVwL_D.N [.int .i64 (i : Int),flgsR (voidK (l.take i) K)]) (lVwL0_t.asks lVwL0_F)∧WaysOk lVwL_D ρ (lVwL_Inv l K) (lVwL_mu l) 0 [.int .i64 (i : Int),flgsR (voidK (l.take i) K)] lVwL0_l from step_of_ways (lVwL0_w _) hF both.1.ok both.2
 cases hp : l[i]? with
 | none =>
   have hge:=List.getElem?_eq_none_iff.1 hp
   have hge' : ¬ (i : Int) < l.length:=by omega
   obtain rfl : i = l.length:=by omega
   refine ⟨?_,?_⟩
   ·simp only [lVwL0_t,qFE16,qFE15,qFE14,qFE13,qFE12,qFE11,qFE10,qFE9,qFE8,qFE7,qFE6,qFE5,qFE4,qFE3,qFE2,qFE1,qFE0,lVwL0_F,AsksL,GTree.asks,FTree.asks,FactsIn,List.append_nil,List.nil_append,List.cons_append,Option.some.injEq,exists_eq',implies_true,and_self,X.bool,X.den,denL,dX,denSub,denIte,asB,dY,d_hasF,d_putF,d_delF,d_hasR5,d_putR5,whos_snocN,whos_snoc0N,recs_snoc0N,flgs_snoc0N,sals_len,sals_cell,v1,v6,v100,v101,vs,sym23,sym164,sym165,sym166,sym171,Int.toNat_natCast,hp,hge']
    try simp
   ·simp only [lVwL0_l,qFE16,qFE15,qFE14,qFE13,qFE12,qFE11,qFE10,qFE9,qFE8,qFE7,qFE6,qFE5,qFE4,qFE3,qFE2,qFE1,qFE0,EndsOk,WaysOk,forall_cons,forall_nil,TgtOk,gpair,FactsIn,hold_cons,hold_nil,Option.some.injEq,dZ,X.bool,X.den,denL,dX,denSub,denIte,asB,dY,beq_iff_eq,beq_eq_false_iff_ne,ne_eq,d_hasF,d_putF,d_delF,d_hasR5,d_putR5,whos_snocN,whos_snoc0N,recs_snoc0N,flgs_snoc0N,sals_len,sals_cell,beq_iff_eq,beq_eq_false_iff_ne,ne_eq,v1,v6,v100,v101,vs,h1,h6,hsy,sym23,sym164,sym165,sym166,sym171,Int.toNat_natCast,hp,hge',reduceCtorEq,Bool.false_eq_true,false_implies,implies_true,true_implies,and_self,and_true,true_and]
    try simp
 | some x =>
   have hil : i < l.length:=(List.getElem?_eq_some_iff.1 hp).1
   have hil1 : (i : Int) < l.length:=by omega
   have hw : IntKind.i64.wrap ((i : Int) + 1) = ((i + 1 : Nat) : Int):=by rw [IntWalk.i64_in _ (by omega)]; rfl
   have hnext : voidK (l.take (i + 1)) K = if x.of_≠0∧x.known≤K then putF x.of_ true (voidK (l.take i) K) else voidK (l.take i) K:=by rw [List.take_add_one,hp]; exact voidK_snoc _ K x
   have go : ∀ m,m = voidK (l.take (i + 1)) K→∃ vals',((ρ.ext lVwL_D.N vals').val 100 = some (.int .i64 ((i + 1 : Nat) : Int))∧(ρ.ext lVwL_D.N vals').val 101 = some (flgsR m))∧lVwL_Inv l K 0 vals'∧lVwL_mu l 0 vals' < lVwL_mu l 0 [.int .i64 (i : Int),flgsR (voidK (l.take i) K)]:=by
    rintro m rfl
    refine ⟨[.int .i64 ((i + 1 : Nat) : Int),flgsR (voidK (l.take (i + 1)) K)],⟨?_,?_⟩,⟨rfl,i + 1,by omega,rfl⟩,?_⟩
    ·rw [ext_high _ _ _ _ (by rw [hN]; omega)]; rfl
    ·rw [ext_high _ _ _ _ (by rw [hN]; omega)]; rfl
    ·simp [lVwL_mu,vI]; omega
   have g1 : ¬ (x.of_≠0∧x.known≤K)→voidK (l.take i) K = voidK (l.take (i + 1)) K:=fun h => by rw [hnext,if_neg h]
   have g2 : (x.of_≠0∧x.known≤K)→putF x.of_ true (voidK (l.take i) K) = voidK (l.take (i + 1)) K:=fun h => by rw [hnext,if_pos h]
   refine ⟨?_,?_⟩
   all_goals (simp only [lVwL0_t,qFE16,qFE15,qFE14,qFE13,qFE12,qFE11,qFE10,qFE9,qFE8,qFE7,qFE6,qFE5,qFE4,qFE3,qFE2,qFE1,qFE0,lVwL0_F,lVwL0_l,AsksL,GTree.asks,FTree.asks,FactsIn,List.append_nil,List.nil_append,List.cons_append,Option.some.injEq,exists_eq',implies_true,and_self,X.bool,X.den,denL,dX,denSub,denIte,asB,dY,d_hasF,d_putF,d_delF,d_hasR5,d_putR5,whos_snocN,whos_snoc0N,recs_snoc0N,flgs_snoc0N,sals_len,sals_cell,EndsOk,WaysOk,forall_cons,forall_nil,TgtOk,gpair,FactsIn,hold_cons,hold_nil,Option.some.injEq,dZ,X.bool,X.den,denL,dX,denSub,denIte,asB,dY,beq_iff_eq,beq_eq_false_iff_ne,ne_eq,d_hasF,d_putF,d_delF,d_hasR5,d_putR5,whos_snocN,whos_snoc0N,recs_snoc0N,flgs_snoc0N,sals_len,sals_cell,beq_iff_eq,beq_eq_false_iff_ne,ne_eq,v1,v6,v100,v101,vs,h1,h6,hsy,sym23,sym164,sym165,sym166,sym171,Int.toNat_natCast,hp,Option.bind_some,sal0,sal1,sal2,sal3,sal4,sal5,sal6,sal7,sal8,hil1,hw,reduceCtorEq,Bool.false_eq_true,false_implies,implies_true,true_implies,and_self,and_true,true_and])
   all_goals (clear v1 v6 v100 v101 vs h1 h6 hsy hp hF)
   all_goals ((repeat' apply And.intro) <;> intros <;> first
    | trivial
    | (exfalso; omega)
    | (exact go _ (g1 (by omega)))
    | (exact go _ (g2 (by omega))))
noncomputable def lPrL_D : LoopD:={ N:=200,M:=202,size:=sizeOfF 54,reads:=[(0,.rows 9 salSch (.var 0) (.var 1) false 27),(3,.cells [.map 2] 80),(4,.cells [.slx 0 9 (.var 0) (.num 0) (.op1 .len (.var 1)) (.var 2)] 22),(5,.cells [.sint .i64 (.var 6)] 3),(6,.cells [.func (.func 28) [] []] 73),(9,.smap false [.int .i64] false [.bool] (.app 166 [.var 1,.var 6]))],pats:=[{ slots:=[(0,.yield 8),(1,.ptr 4 0),(2,.ptr 6 0),(3,.ptr 5 0),(5,.map 9),(35,.slx 0 9 (.var 0) (.num 0) (.op1 .len (.var 1)) (.var 2)),(36,.sint .i64 (.op1 .len (.var 1))),(37,.sint .i64 (.var 200))],heap:=[(2,.smap false [.int .i64] false [.int .i64] (.var 201)),(8,.loop { state:=.ready,pending:=none,tmps:=buildT [(9,.ptr 3 0)],size:=53,src:=.at_ 9 11,defers:=7 })] }],exits:=[(.exit 2,{ slots:=[],heap:=[(2,.smap false [.int .i64] false [.int .i64] (.app 172 [.var 1,.var 6])),(8,.loop { state:=.ready,pending:=none,tmps:=buildT [(9,.ptr 3 0)],size:=53,src:=.at_ 9 11,defers:=7 })] })],own:=[2,8],pre:=[(.app 23 [.var 1],true)],dfs:=[] }
noncomputable def lPrL_run : Env→AF→ASt→Option (List Out):=bodyRun LV 9 (fun _ => noLoop) (loopAt Tryz.prog 54 1)
def lPrL0_F : List (X×Bool):=[(.op2 .lt (.var 200) (.num 0),false)]
noncomputable def lPrL0_t : FTree:=(.fork qFE4 (.fork qFE5 (.fork qFE11 (.leaf [.again 0 []]) (.fork (.op2 .mhas qFE7 qFE2) (.fork (.op2 (.mat 1) qFE7 qFE2) (.leaf [.again 0 []]) (.leaf [.again 0 []])) (.leaf [.again 0 []]))) (.leaf [.again 0 []])) (.leaf [.leave 0 []]))
noncomputable def lPrL0_l : List (List (X×Bool)×Option (List (Tgt×Pairs))):=[([(qFE11,true),(qFE5,true),(qFE4,true),(.op2 .lt (.var 200) (.num 0),false)],some [(.again 0 [],[(.var 200,qFE8),(.var 201,.var 201)])]),
 ([(.op2 (.mat 1) qFE7 qFE2,true),(.op2 .mhas qFE7 qFE2,true),(qFE11,false),(qFE5,true),(qFE4,true),(.op2 .lt (.var 200) (.num 0),false)],some [(.again 0 [],[(.var 200,qFE8),(.var 201,.var 201)])]),
 ([(.op2 (.mat 1) qFE7 qFE2,false),(.op2 .mhas qFE7 qFE2,true),(qFE11,false),(qFE5,true),(qFE4,true),(.op2 .lt (.var 200) (.num 0),false)],some [(.again 0 [],[(.var 200,qFE8),(.var 201,qFE14)])]),
 ([(.op2 .mhas qFE7 qFE2,false),(qFE11,false),(qFE5,true),(qFE4,true),(.op2 .lt (.var 200) (.num 0),false)],some [(.again 0 [],[(.var 200,qFE8),(.var 201,qFE14)])]),
 ([(qFE5,false),(qFE4,true),(.op2 .lt (.var 200) (.num 0),false)],some [(.again 0 [],[(.var 200,qFE8),(.var 201,.var 201)])]),
 ([(qFE4,false),(.op2 .lt (.var 200) (.num 0),false)],some [(.leave 0 [],[(qFE0,.var 201)])])]
theorem lPrL0_w (r : Rho) : lPrL_D.ways lPrL_run E0 r 0 lPrL0_F lPrL0_t = some lPrL0_l:=by kernel_rfl
theorem lPrL_ok : lPrL_D.ok = true:=by kernel_rfl
def prcI (l : List Sal9) (K : Int) (i : Nat) : List Shr:=((l.take i).filter (cntB l K)).foldl (fun m x => putK x.parcel x.price m) []
theorem prcI_all {l : List Sal9} {K : Int} {i : Nat} (h : l.length≤i) : prcI l K i = prcM l K:=by unfold prcI prcM countS; rw [List.take_of_length_le h]
theorem prcI_next {l : List Sal9} {K : Int} {i : Nat} {x : Sal9} (h : l[i]? = some x) : prcI l K (i + 1) = if cntB l K x = true then putK x.parcel x.price (prcI l K i) else prcI l K i:=by
 unfold prcI
 rw [List.take_add_one,h]
 by_cases hc : cntB l K x = true
 ·simp [hc]
 ·simp [hc]
def lPrL_Inv (l : List Sal9) (K : Int) (j : Nat) (vals : List Value) : Prop:=j = 0∧∃ i : Nat,i≤l.length∧vals = [.int .i64 (i : Int),shrsR (prcI l K i)]
def lPrL_mu (l : List Sal9) (_ : Nat) (vals : List Value) : Nat:=l.length - (vI (vals.getD 0 default)).toNat
set_option maxHeartbeats 2000000 in
theorem lPrL_step {ρ : Rho} {l : List Sal9} {K : Int} {k6 : IntKind} (h1 : ρ.val 1 = some (salsR l)) (h6 : ρ.val 6 = some (.int k6 K)) (hsy : ρ.sym = sy) (hsh : shortB l = true) (j : Nat) (vals : List Value) (hI : lPrL_Inv l K j vals) : StepOk lPrL_D lPrL_run E0 ρ (lPrL_Inv l K) (lPrL_mu l) j vals:=by
 obtain ⟨rfl,i,hi,rfl⟩:=hI
 have hN : lPrL_D.N = 200:=rfl
 have hmax:=short_len hsh
 have v1 : (ρ.ext lPrL_D.N [.int .i64 (i : Int),shrsR (prcI l K i)]).val 1 = some (salsR l):=by rw [ext_low _ _ _ _ (by rw [hN]; omega)]; exact h1
 have v6 : (ρ.ext lPrL_D.N [.int .i64 (i : Int),shrsR (prcI l K i)]).val 6 = some (.int k6 K):=by rw [ext_low _ _ _ _ (by rw [hN]; omega)]; exact h6
 have v200 : (ρ.ext lPrL_D.N [.int .i64 (i : Int),shrsR (prcI l K i)]).val 200 = some (.int .i64 (i : Int)):=by rw [ext_high _ _ _ _ (by rw [hN]; omega)]; rfl
 have v201 : (ρ.ext lPrL_D.N [.int .i64 (i : Int),shrsR (prcI l K i)]).val 201 = some (shrsR (prcI l K i)):=by rw [ext_high _ _ _ _ (by rw [hN]; omega)]; rfl
 have vs : (ρ.ext lPrL_D.N [.int .i64 (i : Int),shrsR (prcI l K i)]).sym = sy:=hsy
 have hF : FactsIn (ρ.ext lPrL_D.N [.int .i64 (i : Int),shrsR (prcI l K i)]) lPrL0_F:=by
  simp only [lPrL0_F,FactsIn,X.bool,X.den,denL,dX,denSub,denIte,asB,dY,v200,Option.some.injEq,Value.bool.injEq,decide_eq_false_iff_not,and_true]
  omega
 suffices both : AsksL (ρ.ext lPrL_D.N [.int .i64 (i : Int),shrsR (prcI l K i)]) (lPrL0_t.asks lPrL0_F)∧WaysOk lPrL_D ρ (lPrL_Inv l K) (lPrL_mu l) 0 [.int .i64 (i : Int),shrsR (prcI l K i)] lPrL0_l from step_of_ways (lPrL0_w _) hF both.1.ok both.2
 cases hp : l[i]? with
 | none =>
   have hge:=List.getElem?_eq_none_iff.1 hp
   have hge' : ¬ (i : Int) < l.length:=by omega
   have hl : prcI l K i = prcM l K:=prcI_all hge
   refine ⟨?_,?_⟩
   ·simp only [lPrL0_t,qFE16,qFE15,qFE14,qFE13,qFE12,qFE11,qFE10,qFE9,qFE8,qFE7,qFE6,qFE5,qFE4,qFE3,qFE2,qFE1,qFE0,lPrL0_F,AsksL,GTree.asks,FTree.asks,FactsIn,List.append_nil,List.nil_append,List.cons_append,Option.some.injEq,exists_eq',implies_true,and_self,X.bool,X.den,denL,dX,denSub,denIte,asB,dY,d_hasF,d_putF,d_delF,d_hasR5,d_putR5,whos_snocN,whos_snoc0N,recs_snoc0N,flgs_snoc0N,sals_len,sals_cell,d_putS,shrs_snoc0N,shrs_snocN,v1,v6,v200,v201,vs,sym23,sym164,sym166,sym172,Int.toNat_natCast,hp,hge']
    try simp
   ·simp only [lPrL0_l,qFE16,qFE15,qFE14,qFE13,qFE12,qFE11,qFE10,qFE9,qFE8,qFE7,qFE6,qFE5,qFE4,qFE3,qFE2,qFE1,qFE0,EndsOk,WaysOk,forall_cons,forall_nil,TgtOk,gpair,FactsIn,hold_cons,hold_nil,Option.some.injEq,dZ,X.bool,X.den,denL,dX,denSub,denIte,asB,dY,beq_iff_eq,beq_eq_false_iff_ne,ne_eq,d_hasF,d_putF,d_delF,d_hasR5,d_putR5,whos_snocN,whos_snoc0N,recs_snoc0N,flgs_snoc0N,sals_len,sals_cell,d_putS,shrs_snoc0N,shrs_snocN,beq_iff_eq,beq_eq_false_iff_ne,ne_eq,v1,v6,v200,v201,vs,h1,h6,hsy,sym23,sym164,sym166,sym172,Int.toNat_natCast,hp,hge',reduceCtorEq,Bool.false_eq_true,false_implies,implies_true,true_implies,and_self,and_true,true_and]
    try simp [hl]
 | some x =>
   have hil : i < l.length:=(List.getElem?_eq_some_iff.1 hp).1
   have hil1 : (i : Int) < l.length:=by omega
   have hw : IntKind.i64.wrap ((i : Int) + 1) = ((i + 1 : Nat) : Int):=by rw [IntWalk.i64_in _ (by omega)]; rfl
   have hnext : prcI l K (i + 1) = if cntB l K x = true then putK x.parcel x.price (prcI l K i) else prcI l K i:=prcI_next hp
   have hc : cntB l K x = ((x.of_ == 0 && decide (x.known≤K)) && !(atF (voidK l K) x.id)):=rfl
   have goA : cntB l K x = true→∃ vals',((ρ.ext lPrL_D.N vals').val 200 = some (.int .i64 ((i + 1 : Nat) : Int))∧(ρ.ext lPrL_D.N vals').val 201 = some (shrsR (putK x.parcel x.price (prcI l K i))))∧lPrL_Inv l K 0 vals'∧lPrL_mu l 0 vals' < lPrL_mu l 0 [.int .i64 (i : Int),shrsR (prcI l K i)]:=by
    intro hcc
    have e : prcI l K (i + 1) = (putK x.parcel x.price (prcI l K i)):=by rw [hnext]; simp [hcc]
    refine ⟨[.int .i64 ((i + 1 : Nat) : Int),shrsR (prcI l K (i + 1))],⟨?_,?_⟩,⟨rfl,i + 1,by omega,rfl⟩,by simp [lPrL_mu,vI]; omega⟩
    ·rw [ext_high _ _ _ _ (by rw [hN]; omega)]; rfl
    ·rw [ext_high _ _ _ _ (by rw [hN]; omega),← e]; rfl
   have goK : cntB l K x = false→∃ vals',((ρ.ext lPrL_D.N vals').val 200 = some (.int .i64 ((i + 1 : Nat) : Int))∧(ρ.ext lPrL_D.N vals').val 201 = some (shrsR (prcI l K i)))∧lPrL_Inv l K 0 vals'∧lPrL_mu l 0 vals' < lPrL_mu l 0 [.int .i64 (i : Int),shrsR (prcI l K i)]:=by
    intro hcc
    have e : prcI l K (i + 1) = (prcI l K i):=by rw [hnext]; simp [hcc]
    refine ⟨[.int .i64 ((i + 1 : Nat) : Int),shrsR (prcI l K (i + 1))],⟨?_,?_⟩,⟨rfl,i + 1,by omega,rfl⟩,by simp [lPrL_mu,vI]; omega⟩
    ·rw [ext_high _ _ _ _ (by rw [hN]; omega)]; rfl
    ·rw [ext_high _ _ _ _ (by rw [hN]; omega),← e]; rfl
   cases eV : hasF (voidK l K) x.id with
   | false =>
     have f3:=at_noF eV
     rw [f3] at hc
     refine ⟨?_,?_⟩
     all_goals (simp only [lPrL0_t,qFE16,qFE15,qFE14,qFE13,qFE12,qFE11,qFE10,qFE9,qFE8,qFE7,qFE6,qFE5,qFE4,qFE3,qFE2,qFE1,qFE0,lPrL0_F,lPrL0_l,AsksL,GTree.asks,FTree.asks,FactsIn,List.append_nil,List.nil_append,List.cons_append,Option.some.injEq,exists_eq',implies_true,and_self,X.bool,X.den,denL,dX,denSub,denIte,asB,dY,d_hasF,d_putF,d_delF,d_hasR5,d_putR5,whos_snocN,whos_snoc0N,recs_snoc0N,flgs_snoc0N,sals_len,sals_cell,d_putS,shrs_snoc0N,shrs_snocN,EndsOk,WaysOk,forall_cons,forall_nil,TgtOk,gpair,FactsIn,hold_cons,hold_nil,Option.some.injEq,dZ,X.bool,X.den,denL,dX,denSub,denIte,asB,dY,beq_iff_eq,beq_eq_false_iff_ne,ne_eq,d_hasF,d_putF,d_delF,d_hasR5,d_putR5,whos_snocN,whos_snoc0N,recs_snoc0N,flgs_snoc0N,sals_len,sals_cell,d_putS,shrs_snoc0N,shrs_snocN,beq_iff_eq,beq_eq_false_iff_ne,ne_eq,v1,v6,v200,v201,vs,h1,h6,hsy,sym23,sym164,sym166,sym172,Int.toNat_natCast,hp,Option.bind_some,sal0,sal1,sal2,sal3,sal4,sal5,sal6,sal7,sal8,hil1,hw,eV,reduceCtorEq,Bool.false_eq_true,false_implies,implies_true,true_implies,and_self,and_true,true_and])
     all_goals (clear v1 v6 v200 v201 vs h1 h6 hsy hF)
     all_goals ((repeat' apply And.intro) <;> intros <;> first
      | trivial
      | (exfalso; omega)
      | (refine goA ?_; rw [hc]; simp_all; done)
      | (refine goK ?_; rw [hc]; simp_all; done)
      | (refine goK ?_; rw [hc]; simp_all; omega)
      | (refine goK ?_; rw [hc]; simp_all; intros; exfalso; omega)
      | (simp_all; done))
   | true =>
     have f1:=d_atF1 (voidK l K) x.id eV
     refine ⟨?_,?_⟩
     all_goals (simp only [lPrL0_t,qFE16,qFE15,qFE14,qFE13,qFE12,qFE11,qFE10,qFE9,qFE8,qFE7,qFE6,qFE5,qFE4,qFE3,qFE2,qFE1,qFE0,lPrL0_F,lPrL0_l,AsksL,GTree.asks,FTree.asks,FactsIn,List.append_nil,List.nil_append,List.cons_append,Option.some.injEq,exists_eq',implies_true,and_self,X.bool,X.den,denL,dX,denSub,denIte,asB,dY,d_hasF,d_putF,d_delF,d_hasR5,d_putR5,whos_snocN,whos_snoc0N,recs_snoc0N,flgs_snoc0N,sals_len,sals_cell,d_putS,shrs_snoc0N,shrs_snocN,EndsOk,WaysOk,forall_cons,forall_nil,TgtOk,gpair,FactsIn,hold_cons,hold_nil,Option.some.injEq,dZ,X.bool,X.den,denL,dX,denSub,denIte,asB,dY,beq_iff_eq,beq_eq_false_iff_ne,ne_eq,d_hasF,d_putF,d_delF,d_hasR5,d_putR5,whos_snocN,whos_snoc0N,recs_snoc0N,flgs_snoc0N,sals_len,sals_cell,d_putS,shrs_snoc0N,shrs_snocN,beq_iff_eq,beq_eq_false_iff_ne,ne_eq,v1,v6,v200,v201,vs,h1,h6,hsy,sym23,sym164,sym166,sym172,Int.toNat_natCast,hp,Option.bind_some,sal0,sal1,sal2,sal3,sal4,sal5,sal6,sal7,sal8,hil1,hw,eV,f1,reduceCtorEq,Bool.false_eq_true,false_implies,implies_true,true_implies,and_self,and_true,true_and])
     all_goals (clear v1 v6 v200 v201 vs h1 h6 hsy hF)
     all_goals ((repeat' apply And.intro) <;> intros <;> first
      | trivial
      | (exfalso; omega)
      | (refine goA ?_; rw [hc]; simp_all; done)
      | (refine goK ?_; rw [hc]; simp_all; done)
      | (refine goK ?_; rw [hc]; simp_all; omega)
      | (refine goK ?_; rw [hc]; simp_all; intros; exfalso; omega)
      | (simp_all; done))
noncomputable def lSm_D : LoopD:={ N:=300,M:=302,size:=sizeOfF 9,reads:=[(0,.rows 9 salSch (.var 0) (.var 1) false 27),(1,.rows 1 whoSch (.var 3) (.var 4) false 3),(2,.smap false [.int .i64] false [.int .i64] (.app 172 [.var 1,.var 6])),(3,.cells [.map 2] 80)],pats:=[{ slots:=[(9,.ptr 3 0),(11,.sint .i64 (.var 301)),(34,.slx 1 1 (.var 3) (.num 0) (.op1 .len (.var 4)) (.var 5)),(35,.sint .i64 (.op1 .len (.var 4))),(36,.sint .i64 (.var 300))],heap:=[] }],exits:=[(.exit 2,{ slots:=[(11,.sint .i64 (.app 176 [.app 172 [.var 1,.var 6],.var 4]))],heap:=[],guard:=.app 177 [.app 172 [.var 1,.var 6],.var 4] }),(.ret,{ slots:=[(6,.int .i64 0),(7,.int .i64 61)],heap:=[],guard:=.op1 .not (.app 177 [.app 172 [.var 1,.var 6],.var 4]) })],own:=[],pre:=[(.app 23 [.var 1],true),(.op2 .eq (.app 164 [.var 1]) (.num 0),true),(.op2 .lt (.num 200) (.op1 .len (.var 4)),false)],dfs:=[7] }
noncomputable def lSm_run : Env→AF→ASt→Option (List Out):=bodyRun LV 9 (fun _ => noLoop) (loopAt Tryz.prog 9 0)
def lSm0_F : List (X×Bool):=[(.op2 .lt (.var 300) (.num 0),false)]
noncomputable def lSm0_t : FTree:=(.fork qFE13 (.fork (.op2 .mhas qFE0 qFE1) (.fork (.op2 .eq (.op2 (.mat 1) qFE0 qFE1) (.num 0)) (.leaf [.leave 1 []]) (.leaf [.again 0 []])) (.leaf [.leave 1 []])) (.leaf [.leave 0 []]))
noncomputable def lSm0_l : List (List (X×Bool)×Option (List (Tgt×Pairs))):=[([(.op2 .eq (.op2 (.mat 1) qFE0 qFE1) (.num 0),true),(.op2 .mhas qFE0 qFE1,true),(qFE13,true),(.op2 .lt (.var 300) (.num 0),false)],some [(.leave 1 [],[(.op1 .not qFE16,.boo true)])]),
 ([(.op2 .eq (.op2 (.mat 1) qFE0 qFE1) (.num 0),false),(.op2 .mhas qFE0 qFE1,true),(qFE13,true),(.op2 .lt (.var 300) (.num 0),false)],some [(.again 0 [],[(.var 301,.op1 (.wrap .i64) (.op2 .add (.var 301) (.op2 (.mat 1) qFE0 qFE1))),(.var 300,.op1 (.wrap .i64) (.op2 .add (.var 300) (.num 1)))])]),
 ([(.op2 .mhas qFE0 qFE1,false),(qFE13,true),(.op2 .lt (.var 300) (.num 0),false)],some [(.leave 1 [],[(.op1 .not qFE16,.boo true)])]),
 ([(qFE13,false),(.op2 .lt (.var 300) (.num 0),false)],some [(.leave 0 [],[(.app 176 [qFE0,.var 4],.var 301),(qFE16,.boo true)])])]
theorem lSm0_w (r : Rho) : lSm_D.ways lSm_run E0 r 0 lSm0_F lSm0_t = some lSm0_l:=by kernel_rfl
theorem lSm_ok : lSm_D.ok = true:=by kernel_rfl
theorem sumP9_le {m : List Shr} (h : ∀ k,0≤atP m k∧atP m k≤1000000000) : ∀ (l : List Who) (s : Int),s≤l.foldl (fun s x => s + atP m x.n) s∧l.foldl (fun s x => s + atP m x.n) s≤s + 1000000000 * (l.length : Int)
 | [],s => by simp
 | x :: l,s => by
   have h1:=sumP9_le h l (s + atP m x.n)
   have h2:=h x.n
   simp only [List.foldl_cons,List.length_cons]
   omega
def lSm_Inv (l : List Sal9) (b : List Who) (K : Int) (j : Nat) (vals : List Value) : Prop:=j = 0∧∃ i : Nat,i≤b.length∧vals = [.int .i64 (i : Int),.int .i64 (sumP9 (prcM l K) (b.take i))]∧∀ x ∈ b.take i,atP (prcM l K) x.n≠0
def lSm_mu (b : List Who) (_ : Nat) (vals : List Value) : Nat:=b.length - (vI (vals.getD 0 default)).toNat
theorem all_not {m : List Shr} {b : List Who} {i : Nat} {x : Who} (h : b[i]? = some x) (h0 : atP m x.n = 0) : (b.all fun x => !(atP m x.n == 0)) = false:=by
 rw [Bool.eq_false_iff]
 intro ha
 have:=List.all_eq_true.1 ha x (List.mem_of_getElem? h)
 simp [h0] at this
set_option maxHeartbeats 1000000 in
theorem lSm_step {ρ : Rho} {l : List Sal9} {b : List Who} {K : Int} {k6 : IntKind} (h1 : ρ.val 1 = some (salsR l)) (h4 : ρ.val 4 = some (whosR b)) (h6 : ρ.val 6 = some (.int k6 K)) (hsy : ρ.sym = sy) (hmax : (b.length : Int)≤200) (hpb : ∀ k,0≤atP (prcM l K) k∧atP (prcM l K) k≤1000000000) (j : Nat) (vals : List Value) (hI : lSm_Inv l b K j vals) : StepOk lSm_D lSm_run E0 ρ (lSm_Inv l b K) (lSm_mu b) j vals:=by
 obtain ⟨rfl,i,hi,rfl,hall⟩:=hI
 have hN : lSm_D.N = 300:=rfl
 have v1 : (ρ.ext lSm_D.N [.int .i64 (i : Int),.int .i64 (sumP9 (prcM l K) (b.take i))]).val 1 = some (salsR l):=by rw [ext_low _ _ _ _ (by rw [hN]; omega)]; exact h1
 have v4 : (ρ.ext lSm_D.N [.int .i64 (i : Int),.int .i64 (sumP9 (prcM l K) (b.take i))]).val 4 = some (whosR b):=by rw [ext_low _ _ _ _ (by rw [hN]; omega)]; exact h4
 have v6 : (ρ.ext lSm_D.N [.int .i64 (i : Int),.int .i64 (sumP9 (prcM l K) (b.take i))]).val 6 = some (.int k6 K):=by rw [ext_low _ _ _ _ (by rw [hN]; omega)]; exact h6
 have v300 : (ρ.ext lSm_D.N [.int .i64 (i : Int),.int .i64 (sumP9 (prcM l K) (b.take i))]).val 300 = some (.int .i64 (i : Int)):=by rw [ext_high _ _ _ _ (by rw [hN]; omega)]; rfl
 have v301 : (ρ.ext lSm_D.N [.int .i64 (i : Int),.int .i64 (sumP9 (prcM l K) (b.take i))]).val 301 = some (.int .i64 (sumP9 (prcM l K) (b.take i))):=by rw [ext_high _ _ _ _ (by rw [hN]; omega)]; rfl
 have vs : (ρ.ext lSm_D.N [.int .i64 (i : Int),.int .i64 (sumP9 (prcM l K) (b.take i))]).sym = sy:=hsy
 have hF : FactsIn (ρ.ext lSm_D.N [.int .i64 (i : Int),.int .i64 (sumP9 (prcM l K) (b.take i))]) lSm0_F:=by
  simp only [lSm0_F,FactsIn,X.bool,X.den,denL,dX,denSub,denIte,asB,dY,v300,Option.some.injEq,Value.bool.injEq,decide_eq_false_iff_not,and_true]
  omega
 suffices both : AsksL (ρ.ext lSm_D.N [.int .i64 (i : Int),.int .i64 (sumP9 (prcM l K) (b.take i))]) (lSm0_t.asks lSm0_F)∧WaysOk lSm_D ρ (lSm_Inv l b K) (lSm_mu b) 0 [.int .i64 (i : Int),.int .i64 (sumP9 (prcM l K) (b.take i))] lSm0_l from step_of_ways (lSm0_w _) hF both.1.ok both.2
 cases hp : b[i]? with
 | none =>
   have hge:=List.getElem?_eq_none_iff.1 hp
   have hge' : ¬ (i : Int) < b.length:=by omega
   have hl : b.take i = b:=List.take_of_length_le hge
   rw [hl] at hall
   have ha : (b.all fun x => !(atP (prcM l K) x.n == 0)) = true:=by
    rw [List.all_eq_true]
    intro x hx
    simpa using hall x hx
   refine ⟨?_,?_⟩
   ·simp only [lSm0_t,qFE16,qFE15,qFE14,qFE13,qFE12,qFE11,qFE10,qFE9,qFE8,qFE7,qFE6,qFE5,qFE4,qFE3,qFE2,qFE1,qFE0,lSm0_F,AsksL,GTree.asks,FTree.asks,FactsIn,List.append_nil,List.nil_append,List.cons_append,Option.some.injEq,exists_eq',implies_true,and_self,X.bool,X.den,denL,dX,denSub,denIte,asB,dY,d_hasF,d_putF,d_delF,d_hasR5,d_putR5,whos_snocN,whos_snoc0N,recs_snoc0N,flgs_snoc0N,sals_len,sals_cell,d_putS,shrs_snoc0N,shrs_snocN,d_hasS,v1,v4,v6,v300,v301,vs,sym23,sym164,sym172,sym176,sym177,Int.toNat_natCast,hp,hge']
    try simp
   ·simp only [lSm0_l,qFE16,qFE15,qFE14,qFE13,qFE12,qFE11,qFE10,qFE9,qFE8,qFE7,qFE6,qFE5,qFE4,qFE3,qFE2,qFE1,qFE0,EndsOk,WaysOk,forall_cons,forall_nil,TgtOk,gpair,FactsIn,hold_cons,hold_nil,Option.some.injEq,dZ,X.bool,X.den,denL,dX,denSub,denIte,asB,dY,beq_iff_eq,beq_eq_false_iff_ne,ne_eq,d_hasF,d_putF,d_delF,d_hasR5,d_putR5,whos_snocN,whos_snoc0N,recs_snoc0N,flgs_snoc0N,sals_len,sals_cell,d_putS,shrs_snoc0N,shrs_snocN,d_hasS,beq_iff_eq,beq_eq_false_iff_ne,ne_eq,v1,v4,v6,v300,v301,vs,h1,h4,h6,hsy,sym23,sym164,sym172,sym176,sym177,Int.toNat_natCast,hp,hge',ha,reduceCtorEq,Bool.false_eq_true,false_implies,implies_true,true_implies,and_self,and_true,true_and]
    try simp [hl]
 | some x =>
   have hil : i < b.length:=(List.getElem?_eq_some_iff.1 hp).1
   have hil1 : (i : Int) < b.length:=by omega
   have hw : IntKind.i64.wrap ((i : Int) + 1) = ((i + 1 : Nat) : Int):=by rw [IntWalk.i64_in _ (by omega)]; rfl
   have hnext : b.take (i + 1) = b.take i ++ [x]:=by rw [List.take_add_one,hp]; rfl
   have hs:=sumP9_le hpb (b.take i) 0
   have hti : (b.take i).length = i:=by rw [List.length_take]; omega
   have hx:=hpb x.n
   cases eK : hasK (prcM l K) x.n with
   | false =>
     have h0 : atP (prcM l K) x.n = 0:=by unfold atP; rw [eK]; rfl
     have hno:=all_not hp h0
     refine ⟨?_,?_⟩
     all_goals (simp only [lSm0_t,qFE16,qFE15,qFE14,qFE13,qFE12,qFE11,qFE10,qFE9,qFE8,qFE7,qFE6,qFE5,qFE4,qFE3,qFE2,qFE1,qFE0,lSm0_F,lSm0_l,AsksL,GTree.asks,FTree.asks,FactsIn,List.append_nil,List.nil_append,List.cons_append,Option.some.injEq,exists_eq',implies_true,and_self,X.bool,X.den,denL,dX,denSub,denIte,asB,dY,d_hasF,d_putF,d_delF,d_hasR5,d_putR5,whos_snocN,whos_snoc0N,recs_snoc0N,flgs_snoc0N,sals_len,sals_cell,d_putS,shrs_snoc0N,shrs_snocN,d_hasS,EndsOk,WaysOk,forall_cons,forall_nil,TgtOk,gpair,FactsIn,hold_cons,hold_nil,Option.some.injEq,dZ,X.bool,X.den,denL,dX,denSub,denIte,asB,dY,beq_iff_eq,beq_eq_false_iff_ne,ne_eq,d_hasF,d_putF,d_delF,d_hasR5,d_putR5,whos_snocN,whos_snoc0N,recs_snoc0N,flgs_snoc0N,sals_len,sals_cell,d_putS,shrs_snoc0N,shrs_snocN,d_hasS,beq_iff_eq,beq_eq_false_iff_ne,ne_eq,v1,v4,v6,v300,v301,vs,h1,h4,h6,hsy,sym23,sym164,sym172,sym176,sym177,Int.toNat_natCast,hp,Option.bind_some,who0,hil1,hw,eK,hno,reduceCtorEq,Bool.false_eq_true,false_implies,implies_true,true_implies,and_self,and_true,true_and])
     all_goals (clear v1 v4 v6 v300 v301 vs h1 h4 h6 hsy hF)
     all_goals ((repeat' apply And.intro) <;> intros <;> first
      | trivial
      | contradiction
      | trivial
      | (simp_all; done))
   | true =>
     have e1 : atP (prcM l K) x.n = atK (prcM l K) x.n:=by unfold atP; rw [eK]; rfl
     have f1 : den2 (.mat 1) (shrsR (prcM l K)) (whosR [⟨x.n⟩]) = some (.int .i64 (atK (prcM l K) x.n)):=by rw [d_atS,eK]; rfl
     by_cases h0 : atK (prcM l K) x.n = 0
     ·have hno:=all_not hp (e1.trans h0)
      refine ⟨?_,?_⟩
      all_goals (simp only [lSm0_t,qFE16,qFE15,qFE14,qFE13,qFE12,qFE11,qFE10,qFE9,qFE8,qFE7,qFE6,qFE5,qFE4,qFE3,qFE2,qFE1,qFE0,lSm0_F,lSm0_l,AsksL,GTree.asks,FTree.asks,FactsIn,List.append_nil,List.nil_append,List.cons_append,Option.some.injEq,exists_eq',implies_true,and_self,X.bool,X.den,denL,dX,denSub,denIte,asB,dY,d_hasF,d_putF,d_delF,d_hasR5,d_putR5,whos_snocN,whos_snoc0N,recs_snoc0N,flgs_snoc0N,sals_len,sals_cell,d_putS,shrs_snoc0N,shrs_snocN,d_hasS,EndsOk,WaysOk,forall_cons,forall_nil,TgtOk,gpair,FactsIn,hold_cons,hold_nil,Option.some.injEq,dZ,X.bool,X.den,denL,dX,denSub,denIte,asB,dY,beq_iff_eq,beq_eq_false_iff_ne,ne_eq,d_hasF,d_putF,d_delF,d_hasR5,d_putR5,whos_snocN,whos_snoc0N,recs_snoc0N,flgs_snoc0N,sals_len,sals_cell,d_putS,shrs_snoc0N,shrs_snocN,d_hasS,beq_iff_eq,beq_eq_false_iff_ne,ne_eq,v1,v4,v6,v300,v301,vs,h1,h4,h6,hsy,sym23,sym164,sym172,sym176,sym177,Int.toNat_natCast,hp,Option.bind_some,who0,hil1,hw,eK,f1,h0,hno,reduceCtorEq,Bool.false_eq_true,false_implies,implies_true,true_implies,and_self,and_true,true_and])
      all_goals (clear v1 v4 v6 v300 v301 vs h1 h4 h6 hsy hF)
      all_goals ((repeat' apply And.intro) <;> intros <;> first
       | trivial
       | contradiction
       | trivial
       | (simp_all; done))
     ·have hws : IntKind.i64.wrap (sumP9 (prcM l K) (b.take i) + atK (prcM l K) x.n) = sumP9 (prcM l K) (b.take (i + 1)):=by
       rw [hnext,sumP9_snoc,e1]
       refine IntWalk.i64_in _ ?_
       unfold sumP9
       omega
      have go : ∀ _ : True,∃ vals',((ρ.ext lSm_D.N vals').val 301 = some (.int .i64 (sumP9 (prcM l K) (b.take (i + 1))))∧(ρ.ext lSm_D.N vals').val 300 = some (.int .i64 ((i + 1 : Nat) : Int)))∧lSm_Inv l b K 0 vals'∧lSm_mu b 0 vals' < lSm_mu b 0 [.int .i64 (i : Int),.int .i64 (sumP9 (prcM l K) (b.take i))]:=by
       intro _
       refine ⟨[.int .i64 ((i + 1 : Nat) : Int),.int .i64 (sumP9 (prcM l K) (b.take (i + 1)))],⟨?_,?_⟩,⟨rfl,i + 1,by omega,rfl,?_⟩,by simp [lSm_mu,vI]; omega⟩
       ·rw [ext_high _ _ _ _ (by rw [hN]; omega)]; rfl
       ·rw [ext_high _ _ _ _ (by rw [hN]; omega)]; rfl
       ·intro y hy
        rw [hnext] at hy
        rcases List.mem_append.1 hy with hy | hy
        ·exact hall y hy
        ·obtain rfl : y = x:=by simpa using hy
         rw [e1]; exact h0
      refine ⟨?_,?_⟩
      all_goals (simp only [lSm0_t,qFE16,qFE15,qFE14,qFE13,qFE12,qFE11,qFE10,qFE9,qFE8,qFE7,qFE6,qFE5,qFE4,qFE3,qFE2,qFE1,qFE0,lSm0_F,lSm0_l,AsksL,GTree.asks,FTree.asks,FactsIn,List.append_nil,List.nil_append,List.cons_append,Option.some.injEq,exists_eq',implies_true,and_self,X.bool,X.den,denL,dX,denSub,denIte,asB,dY,d_hasF,d_putF,d_delF,d_hasR5,d_putR5,whos_snocN,whos_snoc0N,recs_snoc0N,flgs_snoc0N,sals_len,sals_cell,d_putS,shrs_snoc0N,shrs_snocN,d_hasS,EndsOk,WaysOk,forall_cons,forall_nil,TgtOk,gpair,FactsIn,hold_cons,hold_nil,Option.some.injEq,dZ,X.bool,X.den,denL,dX,denSub,denIte,asB,dY,beq_iff_eq,beq_eq_false_iff_ne,ne_eq,d_hasF,d_putF,d_delF,d_hasR5,d_putR5,whos_snocN,whos_snoc0N,recs_snoc0N,flgs_snoc0N,sals_len,sals_cell,d_putS,shrs_snoc0N,shrs_snocN,d_hasS,beq_iff_eq,beq_eq_false_iff_ne,ne_eq,v1,v4,v6,v300,v301,vs,h1,h4,h6,hsy,sym23,sym164,sym172,sym176,sym177,Int.toNat_natCast,hp,Option.bind_some,who0,hil1,hw,eK,f1,hws,reduceCtorEq,Bool.false_eq_true,false_implies,implies_true,true_implies,and_self,and_true,true_and])
      all_goals (clear v1 v4 v6 v300 v301 vs h1 h4 h6 hsy hF)
      all_goals ((repeat' apply And.intro) <;> intros <;> first
       | trivial
       | contradiction
       | (exact go True.intro)
       | (simp_all; done))
noncomputable def cVaL_con : Con:={ f:=9,args:=[salsArg 0 0,whosArg 1 3,.one (.int .i64 6)],N:=2,M:=2,pre:=[(.app 23 [.var 1],true)],out:=.tuple [.sint .i64 (.app 174 [.var 1,.var 4,.var 6]),.sint .i64 (.app 173 [.var 1,.var 4,.var 6])],news:=[] }
noncomputable def cVaL_call : Env→CallL:=fun E => acallAll E (evH E (LV E) ((fun E => orLoop (oneH 54 (hooks [(2,lVwL_D.hook E.facts vd_vs),(9,lPrL_D.hook E.facts tw_vs)])) (oneH 9 (hooks [(14,lSm_D.hook E.facts sm_vs)]))) E) 12)
noncomputable def cVaL_t : GTree:=(.fork qFE3 (.fork qFE6 (.leaf [[]]) (.fork (.app 175 [.var 4]) (.leaf [[]]) (.fork qFE16 (.fork (.op2 .lt (.num 1000000000000) (.app 176 [qFE0,.var 4])) (.leaf [[]]) (.leaf [[]])) (.leaf [[]])))) (.leaf [[]]))
noncomputable def cVaL_l : List (List (X×Bool)×Option Pairs):=[([(qFE6,true),(qFE3,true),(.app 23 [.var 1],true)],some [(qFE9,.num 0),(qFE10,.num 2)]),
 ([(.app 175 [.var 4],true),(qFE6,false),(qFE3,true),(.app 23 [.var 1],true)],some [(qFE9,.num 0),(qFE10,.num 6)]),
 ([(.op2 .lt (.num 1000000000000) (.app 176 [qFE0,.var 4]),true),(qFE16,true),(.app 175 [.var 4],false),(qFE6,false),(qFE3,true),(.app 23 [.var 1],true)],some [(qFE9,.num 0),(qFE10,.num 2)]),
 ([(.op2 .lt (.num 1000000000000) (.app 176 [qFE0,.var 4]),false),(qFE16,true),(.app 175 [.var 4],false),(qFE6,false),(qFE3,true),(.app 23 [.var 1],true)],some [(qFE9,.app 176 [qFE0,.var 4]),(qFE10,.num 0)]),
 ([(qFE16,false),(.app 175 [.var 4],false),(qFE6,false),(qFE3,true),(.app 23 [.var 1],true)],some [(qFE9,.num 0),(qFE10,.num 61)]),
 ([(qFE3,false),(.app 23 [.var 1],true)],some [(qFE9,.num 0),(qFE10,.app 164 [.var 1])])]
theorem cVaL_w (r : Rho) : cVaL_con.fn.ways cVaL_call E0 r cVaL_con.pre cVaL_t = some cVaL_l:=by kernel_rfl
theorem chk_bad {l : List Sal9} (h : chkE l = 0) {i : Nat} (hi : i < l.length) : badS l i = 0:=by
 unfold chkE at h
 cases hs : stopS l with
 | none =>
   unfold stopS at hs
   have:=List.find?_eq_none.1 hs i (List.mem_range.2 hi)
   simpa using this
 | some k =>
   rw [hs] at h
   unfold stopS at hs
   have:=List.find?_some hs
   simp only [h] at this
   exact absurd this (by decide)
theorem chk_ref {l : List Sal9} (h : chkE l = 0) {i : Nat} {x : Sal9} (hp : l[i]? = some x) : i≠200∧refS (l.take i) x = 0:=by
 have hi:=(List.getElem?_eq_some_iff.1 hp).1
 have hb:=chk_bad h hi
 unfold badS at hb
 rw [List.getD_eq_getElem?_getD,hp] at hb
 split at hb
 ·cases hb
 ·rename_i hn
  exact ⟨hn,hb⟩
theorem ref_sale {pre : List Sal9} {x : Sal9} (h : refS pre x = 0) : saleB x = true:=by
 unfold refS at h
 cases hs : saleB x with
 | true => rfl
 | false => rw [hs] at h; simp at h
theorem chk_sale {l : List Sal9} (h : chkE l = 0) {x : Sal9} (hx : x ∈ l) : saleB x = true:=by
 obtain ⟨i,hi⟩:=List.getElem?_of_mem hx
 exact ref_sale (chk_ref h hi).2
theorem sale_price {x : Sal9} (h : saleB x = true) (h0 : x.of_ = 0) : 1≤x.price∧x.price≤1000000000:=by
 unfold saleB at h
 rw [if_pos h0] at h
 simp only [Bool.and_eq_true] at h
 have:=h.2.2.2.1
 unfold withinB at this
 simp at this
 omega
theorem atP_cons (x : Shr) (m : List Shr) (k : Int) : atP (x :: m) k = if x.party = k then x.pence else atP m k:=by
 unfold atP hasK atK
 by_cases h : x.party = k
 ·simp [h]
 ·have h' : (x.party == k) = false:=beq_eq_false_iff_ne.2 h
  simp only [List.any_cons,List.find?_cons,h',Bool.false_or,h,if_false]
theorem atP_put (k v : Int) : ∀ (m : List Shr) (k' : Int),atP (putK k v m) k' = if k = k' then v else atP m k'
 | [],k' => by unfold putK; rw [atP_cons]
 | x :: m,k' => by
   unfold putK
   by_cases h : x.party = k
   ·rw [if_pos h,atP_cons,atP_cons]
    by_cases h2 : k = k'
    ·simp [h2]
    ·rw [if_neg h2,if_neg h2,if_neg (by rw [h]; exact h2)]
   ·rw [if_neg h,atP_cons,atP_cons,atP_put k v m k']
    by_cases h2 : x.party = k'
    ·rw [if_pos h2,if_pos h2,if_neg (by intro e; exact h (h2.trans e.symm))]
    ·rw [if_neg h2,if_neg h2]
theorem prc_bound {l : List Sal9} (h : chkE l = 0) (K k : Int) : 0≤atP (prcM l K) k∧atP (prcM l K) k≤1000000000:=by
 have key : ∀ (c : List Sal9) (m : List Shr),(∀ x ∈ c,1≤x.price∧x.price≤1000000000)→(0≤atP m k∧atP m k≤1000000000)→0≤atP (c.foldl (fun m x => putK x.parcel x.price m) m) k∧atP (c.foldl (fun m x => putK x.parcel x.price m) m) k≤1000000000:=by
  intro c
  induction c with
  | nil => intro m _ hm; exact hm
  | cons x c ih =>
    intro m hc hm
    refine ih _ (fun y hy => hc y (List.mem_cons_of_mem _ hy)) ?_
    have hx:=hc x (List.mem_cons_self ..)
    rw [atP_put]
    split
    ·omega
    ·exact hm
 refine key _ [] (fun x hx => ?_) (by simp [atP,hasK])
 obtain ⟨hm,hc⟩:=List.mem_filter.1 hx
 refine sale_price (chk_sale h hm) ?_
 unfold cntB at hc
 simp only [Bool.and_eq_true,beq_iff_eq] at hc
 exact hc.1.1
theorem val_err {l : List Sal9} {b : List Who} {K : Int} (h : ¬ chkE l = 0) : valS l b K = 0∧valE l b K = chkE l:=by
 have h' : (chkE l == 0) = false:=by simpa using h
 have e : valE l b K = chkE l:=by unfold valE; rw [h']; rfl
 refine ⟨?_,e⟩
 unfold valS
 rw [e,h']; rfl
theorem valS_of {l : List Sal9} {b : List Who} {K n : Int} (e : valE l b K = n) (h : n≠0) : valS l b K = 0∧valE l b K = n:=by
 have h' : (n == 0) = false:=by simpa using h
 refine ⟨?_,e⟩
 unfold valS
 rw [e,h']; rfl
theorem val_long {l : List Sal9} {b : List Who} {K : Int} (h : chkE l = 0) (h2 : 200 < (b.length : Int)) : valS l b K = 0∧valE l b K = 2:=
 valS_of (by unfold valE; rw [h,decide_eq_true h2]; rfl) (by decide)
theorem val_twice {l : List Sal9} {b : List Who} {K : Int} (h : chkE l = 0) (h2 : ¬ 200 < (b.length : Int)) (h3 : twiceW b = true) : valS l b K = 0∧valE l b K = 6:=
 valS_of (by unfold valE; rw [h,decide_eq_false h2,h3]; rfl) (by decide)
theorem val_none {l : List Sal9} {b : List Who} {K : Int} (h : chkE l = 0) (h2 : ¬ 200 < (b.length : Int)) (h3 : twiceW b = false) (h4 : (b.all fun x => !(atP (prcM l K) x.n == 0)) = false) : valS l b K = 0∧valE l b K = 61:=
 valS_of (by unfold valE; rw [h,decide_eq_false h2,h3,h4]; rfl) (by decide)
theorem val_much {l : List Sal9} {b : List Who} {K : Int} (h : chkE l = 0) (h2 : ¬ 200 < (b.length : Int)) (h3 : twiceW b = false) (h4 : (b.all fun x => !(atP (prcM l K) x.n == 0)) = true) (h5 : 1000000000000 < sumP9 (prcM l K) b) : valS l b K = 0∧valE l b K = 2:=
 valS_of (by unfold valE; rw [h,decide_eq_false h2,h3,h4,decide_eq_true h5]; rfl) (by decide)
theorem val_ok {l : List Sal9} {b : List Who} {K : Int} (h : chkE l = 0) (h2 : ¬ 200 < (b.length : Int)) (h3 : twiceW b = false) (h4 : (b.all fun x => !(atP (prcM l K) x.n == 0)) = true) (h5 : ¬ 1000000000000 < sumP9 (prcM l K) b) : valS l b K = sumP9 (prcM l K) b∧valE l b K = 0:=by
 have e : valE l b K = 0:=by unfold valE; rw [h,decide_eq_false h2,h3,h4,decide_eq_false h5]; rfl
 refine ⟨?_,e⟩
 unfold valS
 rw [e]; rfl
theorem va_Hc {ρ : Rho} {l : List Sal9} {K : Int} {k6 : IntKind} (h1 : ρ.val 1 = some (salsR l)) (h6 : ρ.val 6 = some (.int k6 K)) (hsy : ρ.sym = sy) (hsh : shortB l = true) (F : List (X×Bool)) : LoopsOk (E0.with F ρ) (oneH 54 (hooks [(2,lVwL_D.hook (E0.with F ρ).facts vd_vs),(9,lPrL_D.hook (E0.with F ρ).facts tw_vs)])):=by
 refine loops_all (n:=2) (fun f fn h => h) (by kernel_rfl) fun i hi => ?_
 have h01 : i = 0∨i = 1:=by omega
 rcases h01 with rfl | rfl
 ·rw [hooks_hit (show keyOf (loopAt (E0.with F ρ).P 54 0) = 2 by kernel_rfl)]
  refine hook_ok (E₀:=E0) (run:=lVwL_run) (ρ:=ρ) (Inv:=lVwL_Inv l K) (μ:=lVwL_mu l) E0_ok lVwL_ok (fun F r' h => ?_) (fun hp => ⟨lVwL_step h1 h6 hsy hsh,[.int .i64 0,flgsR []],?_,rfl,0,Nat.zero_le _,rfl⟩)
  ·exact bodyRun_ok E0_ok (LV_ok F (h.trans hsy)) fun _ _ => noLoop_ok
  ·simp only [vd_vs,X.bool,X.den,denL,dX,denSub,denIte,asB,dY]
   rfl
 ·rw [hooks_miss (show Nat.beq (keyOf (loopAt (E0.with F ρ).P 54 1)) 2 = false by kernel_rfl),hooks_hit (show keyOf (loopAt (E0.with F ρ).P 54 1) = 9 by kernel_rfl)]
  refine hook_ok (E₀:=E0) (run:=lPrL_run) (ρ:=ρ) (Inv:=lPrL_Inv l K) (μ:=lPrL_mu l) E0_ok lPrL_ok (fun F r' h => ?_) (fun hp => ⟨lPrL_step h1 h6 hsy hsh,[.int .i64 0,shrsR []],?_,rfl,0,Nat.zero_le _,rfl⟩)
  ·exact bodyRun_ok E0_ok (LV_ok F (h.trans hsy)) fun _ _ => noLoop_ok
  ·simp only [tw_vs,X.bool,X.den,denL,dX,denSub,denIte,asB,dY]
   rfl
theorem va_Hs {ρ : Rho} {l : List Sal9} {b : List Who} {K : Int} {k6 : IntKind} (h1 : ρ.val 1 = some (salsR l)) (h4 : ρ.val 4 = some (whosR b)) (h6 : ρ.val 6 = some (.int k6 K)) (hsy : ρ.sym = sy) (F : List (X×Bool)) : LoopsOk (E0.with F ρ) (oneH 9 (hooks [(14,lSm_D.hook (E0.with F ρ).facts sm_vs)])):=by
 refine loops_all (n:=1) (fun f fn h => h) (by kernel_rfl) fun i hi => ?_
 obtain rfl : i = 0:=by omega
 rw [hooks_hit (show keyOf (loopAt (E0.with F ρ).P 9 0) = 14 by kernel_rfl)]
 refine hook_ok (E₀:=E0) (run:=lSm_run) (ρ:=ρ) (Inv:=lSm_Inv l b K) (μ:=lSm_mu b) E0_ok lSm_ok (fun F r' h => ?_) (fun hp => ?_)
 ·exact bodyRun_ok E0_ok (LV_ok F (h.trans hsy)) fun _ _ => noLoop_ok
 ·have q2:=hp.2.1
  have q3:=hp.2.2.1
  simp only [X.bool,X.den,denL,dX,denSub,denIte,asB,dY,h1,h4,hsy,sym164,Option.some.injEq,Value.bool.injEq,decide_eq_false_iff_not,beq_iff_eq] at q2 q3
  refine ⟨lSm_step h1 h4 h6 hsy (by omega) (prc_bound q2 K),[.int .i64 0,.int .i64 0],?_,rfl,0,Nat.zero_le _,rfl,fun x hx => by cases hx⟩
  simp only [sm_vs,X.bool,X.den,denL,dX,denSub,denIte,asB,dY]
theorem cVaL_cok : cVaL_con.Ok Tryz.prog sy:=by
 intro r σ w us hsy hρ hpre hrel hins
 obtain ⟨l,h1⟩:=sals_open hrel rfl hρ
 obtain ⟨b,h4⟩:=whos_open 1 4 hrel rfl hρ
 obtain ⟨u0,us,rfl,g0,hi⟩:=ins_cons hins
 obtain ⟨u1,us,rfl,g1,hi⟩:=ins_cons hi
 obtain ⟨u2,us,rfl,g2,hi⟩:=ins_cons hi
 obtain ⟨K,k6,rfl,h6⟩:=one_int g2
 rw [hρ] at h6
 have hsh : shortB l = true:=by
  have:=hpre.1
  simpa only [X.bool,X.den,denL,dX,denSub,denIte,asB,dY,h1,hsy,sym23,Option.some.injEq,Value.bool.injEq] using this
 refine con_of (E:=E0) E0_ok E0_glob (sy:=sy) (fun F => LV_ok F hsy) (fun F => orLoop_ok (va_Hc h1 h6 hsy hsh F) (va_Hs h1 h4 h6 hsy F)) (cVaL_w r) hρ hpre hrel hins ?_ ?_
 ·simp only [cVaL_con,cVaL_t,qFE16,qFE15,qFE14,qFE13,qFE12,qFE11,qFE10,qFE9,qFE8,qFE7,qFE6,qFE5,qFE4,qFE3,qFE2,qFE1,qFE0,AsksL,GTree.asks,FTree.asks,FactsIn,List.append_nil,List.nil_append,List.cons_append,Option.some.injEq,exists_eq',implies_true,and_self,X.bool,X.den,denL,dX,denSub,denIte,asB,dY,d_hasF,d_putF,d_delF,d_hasR5,d_putR5,whos_snocN,whos_snoc0N,recs_snoc0N,flgs_snoc0N,sals_len,sals_cell,d_putS,shrs_snoc0N,shrs_snocN,h1,h4,h6,hsy,sym23,sym164,sym172,sym173,sym174,sym175,sym176,sym177]
  try simp
 ·simp only [cVaL_l,qFE16,qFE15,qFE14,qFE13,qFE12,qFE11,qFE10,qFE9,qFE8,qFE7,qFE6,qFE5,qFE4,qFE3,qFE2,qFE1,qFE0,EndsOk,WaysOk,forall_cons,forall_nil,TgtOk,gpair,FactsIn,hold_cons,hold_nil,Option.some.injEq,dZ,X.bool,X.den,denL,dX,denSub,denIte,asB,dY,beq_iff_eq,beq_eq_false_iff_ne,ne_eq,d_hasF,d_putF,d_delF,d_hasR5,d_putR5,whos_snocN,whos_snoc0N,recs_snoc0N,flgs_snoc0N,sals_len,sals_cell,d_putS,shrs_snoc0N,shrs_snocN,beq_iff_eq,beq_eq_false_iff_ne,ne_eq,h1,h4,h6,hsy,sym23,sym164,sym172,sym173,sym174,sym175,sym176,sym177]
  clear hsy hρ hpre hrel hins g0 g1 g2 hi h1 h4 h6
  (repeat' apply And.intro) <;> intros <;> first
    | trivial
    | (refine val_ok (l:=l) (b:=b) (K:=K) ?_ ?_ ?_ ?_ ?_ <;> assumption)
    | (refine val_much (l:=l) (b:=b) (K:=K) ?_ ?_ ?_ ?_ ?_ <;> assumption)
    | (refine val_none (l:=l) (b:=b) (K:=K) ?_ ?_ ?_ ?_ <;> assumption)
    | (refine val_twice (l:=l) (b:=b) (K:=K) ?_ ?_ ?_ <;> assumption)
    | (refine val_long (l:=l) (b:=b) (K:=K) ?_ ?_ <;> assumption)
    | (refine val_err (l:=l) (b:=b) (K:=K) ?_ <;> assumption)
noncomputable def cVaN_con : Con:={ f:=9,args:=[salsArg 0 0,.nils,.one (.int .i64 6)],N:=1,M:=1,pre:=[(.app 23 [.var 1],true),(.op2 .eq (.app 164 [.var 1]) (.num 0),true)],out:=.tuple [.int .i64 0,.int .i64 0],news:=[] }
noncomputable def cVaN_call : Env→CallL:=fun E => acallAll E (evH E (LV E) ((fun E => oneH 54 (hooks [(2,lVwL_D.hook E.facts vd_vs),(9,lPrL_D.hook E.facts tw_vs)])) E) 12)
noncomputable def cVaN_t : GTree:=(.leaf [[]])
noncomputable def cVaN_l : List (List (X×Bool)×Option Pairs):=[([(.app 23 [.var 1],true),(qFE3,true)],some [])]
theorem cVaN_w (r : Rho) : cVaN_con.fn.ways cVaN_call E0 r cVaN_con.pre cVaN_t = some cVaN_l:=by kernel_rfl
theorem cVaN_cok : cVaN_con.Ok Tryz.prog sy:=by
 intro r σ w us hsy hρ hpre hrel hins
 obtain ⟨l,h1⟩:=sals_open hrel rfl hρ
 obtain ⟨u0,us,rfl,g0,hi⟩:=ins_cons hins
 obtain ⟨u1,us,rfl,g1,hi⟩:=ins_cons hi
 obtain ⟨u2,us,rfl,g2,hi⟩:=ins_cons hi
 obtain ⟨K,k6,rfl,h6⟩:=one_int g2
 rw [hρ] at h6
 have hsh : shortB l = true:=by
  have:=hpre.1
  simpa only [X.bool,X.den,denL,dX,denSub,denIte,asB,dY,h1,hsy,sym23,Option.some.injEq,Value.bool.injEq] using this
 refine con_of (E:=E0) E0_ok E0_glob (sy:=sy) (fun F => LV_ok F hsy) (fun F => va_Hc h1 h6 hsy hsh F) (cVaN_w r) hρ hpre hrel hins ?_ ?_
 ·simp only [cVaN_con,cVaN_t,qFE16,qFE15,qFE14,qFE13,qFE12,qFE11,qFE10,qFE9,qFE8,qFE7,qFE6,qFE5,qFE4,qFE3,qFE2,qFE1,qFE0,AsksL,GTree.asks,FTree.asks,FactsIn,List.append_nil,List.nil_append,List.cons_append,Option.some.injEq,exists_eq',implies_true,and_self,X.bool,X.den,denL,dX,denSub,denIte,asB,dY,d_hasF,d_putF,d_delF,d_hasR5,d_putR5,whos_snocN,whos_snoc0N,recs_snoc0N,flgs_snoc0N,sals_len,sals_cell,d_putS,shrs_snoc0N,shrs_snocN,h1,h6,hsy,sym23,sym164,sym172,sym173,sym174,sym175,sym176,sym177]
  try simp
 ·simp only [cVaN_l,qFE16,qFE15,qFE14,qFE13,qFE12,qFE11,qFE10,qFE9,qFE8,qFE7,qFE6,qFE5,qFE4,qFE3,qFE2,qFE1,qFE0,EndsOk,WaysOk,forall_cons,forall_nil,TgtOk,gpair,FactsIn,hold_cons,hold_nil,Option.some.injEq,dZ,X.bool,X.den,denL,dX,denSub,denIte,asB,dY,beq_iff_eq,beq_eq_false_iff_ne,ne_eq,d_hasF,d_putF,d_delF,d_hasR5,d_putR5,whos_snocN,whos_snoc0N,recs_snoc0N,flgs_snoc0N,sals_len,sals_cell,d_putS,shrs_snoc0N,shrs_snocN,beq_iff_eq,beq_eq_false_iff_ne,ne_eq,h1,h6,hsy,sym23,sym164,sym172,sym173,sym174,sym175,sym176,sym177]
  try simp
end Go.Proofs.YtckefonlahokkaaGreatDoor.Zs
