/-
  Contracts of the reference: equal lists; Value where there is no sale.
-/
import Derived.Test.YtckefonlahokkaaGreatDoorVaRefF
import Derived.KernelRfl
import Derived.Test.YtckefonlahokkaaGreatDoorVaConE
set_option linter.unusedSimpArgs false
set_option linter.unusedVariables false
namespace Go.Proofs.YtckefonlahokkaaGreatDoor.Zs
open Go
def rsi_vs : List X:=[.num 0]
noncomputable def lSi_D : LoopD:={ N:=100,M:=101,size:=sizeOfF 11,reads:=[(0,.rows 1 whoSch (.var 0) (.var 1) false 3),(1,.rows 1 whoSch (.var 3) (.var 4) false 3)],pats:=[{ slots:=[(0,.slx 0 1 (.var 0) (.num 0) (.op1 .len (.var 1)) (.var 2)),(1,.slx 1 1 (.var 3) (.num 0) (.op1 .len (.var 4)) (.var 5)),(5,.sint .i64 (.var 100))],heap:=[] }],exits:=[(.exit 0,{ slots:=[],heap:=[],guard:=.app 190 [.var 1,.var 4] }),(.ret,{ slots:=[(4,.bool false)],heap:=[],guard:=.op1 .not (.app 190 [.var 1,.var 4]) })],own:=[],pre:=[(.op2 .lt (.num 2000) (.op1 .len (.var 1)),false),(.op2 .eq (.op1 .len (.var 1)) (.op1 .len (.var 4)),true)],dfs:=[] }
noncomputable def lSi_run : Env→AF→ASt→Option (List Out):=bodyRun noL 6 (fun _ => noLoop) (loopAt Tryz.prog 11 0)
def lSi0_F : List (X×Bool):=[(.op2 .lt (.var 100) (.num 0),false)]
def qVG0 : X:=.app 190 [(.var 1),(.var 4)]
def qVG1 : X:=.op1 .len (.var 1)
def qVG2 : X:=.op2 .eq (.cell 0 (.var 1) (.var 100)) (.cell 0 (.var 4) (.var 100))
noncomputable def lSi0_t : FTree:=(.fork (.op2 .lt (.var 100) qVG1) (.fork (.op2 .lt (.var 100) (.op1 .len (.var 4))) (.fork qVG2 (.leaf [.again 0 []]) (.leaf [.leave 1 []])) .bad) (.leaf [.leave 0 []]))
noncomputable def lSi0_l : List (List (X×Bool)×Option (List (Tgt×Pairs))):=[([(qVG2,true),(.op2 .lt (.var 100) (.op1 .len (.var 4)),true),(.op2 .lt (.var 100) qVG1,true),(.op2 .lt (.var 100) (.num 0),false)],some [(.again 0 [],[(.var 100,.op1 (.wrap .i64) (.op2 .add (.var 100) (.num 1)))])]),
 ([(qVG2,false),(.op2 .lt (.var 100) (.op1 .len (.var 4)),true),(.op2 .lt (.var 100) qVG1,true),(.op2 .lt (.var 100) (.num 0),false)],some [(.leave 1 [],[(.op1 .not qVG0,.boo true)])]),
 ([(.op2 .lt (.var 100) (.op1 .len (.var 4)),false),(.op2 .lt (.var 100) qVG1,true),(.op2 .lt (.var 100) (.num 0),false)],none),
 ([(.op2 .lt (.var 100) qVG1,false),(.op2 .lt (.var 100) (.num 0),false)],some [(.leave 0 [],[(qVG0,.boo true)])])]
theorem lSi0_w (r : Rho) : lSi_D.ways lSi_run E0 r 0 lSi0_F lSi0_t = some lSi0_l:=by kernel_rfl
theorem lSi_ok : lSi_D.ok = true:=by kernel_rfl
theorem sameW_is (a b : List Who) : sameW a b = decide (a = b):=by
 unfold sameW
 have : (a.map Who.n = b.map Who.n)↔a = b:=⟨fun h => by
  have:=congrArg (List.map Who.mk) h
  rw [List.map_map,List.map_map] at this
  have e : (Who.mk ∘ Who.n) = id:=funext fun x => rfl
  rwa [e,List.map_id,List.map_id] at this,fun h => by rw [h]⟩
 simp only [this]
theorem sym190D (a b : List Who) : sy 190 [whosR a,whosR b] = some (.bool (decide (a = b))):=by rw [sym190,sameW_is]
def lSi_Inv (a b : List Who) (j : Nat) (vals : List Value) : Prop:=
 j = 0∧∃ i : Nat,i≤a.length∧vals = [.int .i64 i]∧a.take i = b.take i
def lSi_mu (a : List Who) (_ : Nat) (vals : List Value) : Nat:=a.length - (vI (vals.getD 0 default)).toNat
set_option maxHeartbeats 1000000 in
theorem lSi_step {ρ : Rho} {a b : List Who} (h1 : ρ.val 1 = some (whosR a)) (h4 : ρ.val 4 = some (whosR b)) (hsy : ρ.sym = sy) (hmax : (a.length : Int)≤2000) (hlen : a.length = b.length) (j : Nat) (vals : List Value) (hI : lSi_Inv a b j vals) :
  StepOk lSi_D lSi_run E0 ρ (lSi_Inv a b) (lSi_mu a) j vals:=by
 obtain ⟨rfl,i,hi,rfl,hall⟩:=hI
 have hN : lSi_D.N = 100:=rfl
 have v1 : (ρ.ext lSi_D.N [.int .i64 i]).val 1 = some (whosR a):=by rw [ext_low _ _ _ _ (by rw [hN]; omega)]; exact h1
 have v4 : (ρ.ext lSi_D.N [.int .i64 i]).val 4 = some (whosR b):=by rw [ext_low _ _ _ _ (by rw [hN]; omega)]; exact h4
 have v100 : (ρ.ext lSi_D.N [.int .i64 i]).val 100 = some (.int .i64 i):=by rw [ext_high _ _ _ _ (by rw [hN]; omega)]; rfl
 have vs : (ρ.ext lSi_D.N [.int .i64 i]).sym = sy:=hsy
 have hF : FactsIn (ρ.ext lSi_D.N [.int .i64 i]) lSi0_F:=by
  simp only [lSi0_F,FactsIn,X.bool,X.den,denL,dX,denSub,denIte,asB,dY,sals_len,sals_cell,sals_lsub,hds_len,hds_cell,hds_lsub,hds_snocN,hds_snoc0N,heads_len,whos_len,whos_cell,whos_lsub,v100,Option.some.injEq,Value.bool.injEq,decide_eq_false_iff_not,and_true]
  omega
 suffices both : AsksL (ρ.ext lSi_D.N [.int .i64 i]) (lSi0_t.asks lSi0_F)∧WaysOk lSi_D ρ (lSi_Inv a b) (lSi_mu a) 0 [.int .i64 i] lSi0_l from step_of_ways (lSi0_w _) hF both.1.ok both.2
 cases hp : a[i]? with
 | none =>
   have hge:=List.getElem?_eq_none_iff.1 hp
   have hge' : ¬ (i : Int) < a.length:=by omega
   have hge2 : ¬ (i : Int) < b.length:=by omega
   have hq : b[i]? = none:=List.getElem?_eq_none_iff.2 (by omega)
   have hab : a = b:=by rw [List.take_of_length_le hge,List.take_of_length_le (by omega)] at hall; exact hall
   refine ⟨?_,?_⟩
   ·simp only [lSi0_t,qVG2,qVG1,qVG0,lSi0_F,AsksL,GTree.asks,FTree.asks,FactsIn,List.append_nil,List.nil_append,List.cons_append,Option.some.injEq,exists_eq',implies_true,and_self,X.bool,X.den,denL,dX,denSub,denIte,asB,dY,sals_len,sals_cell,sals_lsub,hds_len,hds_cell,hds_lsub,hds_snocN,hds_snoc0N,heads_len,whos_len,whos_cell,whos_lsub,v1,v4,v100,vs,sym190D,Int.toNat_natCast,hp,hq,hge',hge2]
    try simp
   ·simp only [lSi0_l,qVG2,qVG1,qVG0,EndsOk,WaysOk,forall_cons,forall_nil,TgtOk,gpair,FactsIn,hold_cons,hold_nil,Option.some.injEq,dZ,X.bool,X.den,denL,dX,denSub,denIte,asB,dY,beq_iff_eq,beq_eq_false_iff_ne,ne_eq,sals_len,sals_cell,sals_lsub,hds_len,hds_cell,hds_lsub,hds_snocN,hds_snoc0N,heads_len,whos_len,whos_cell,whos_lsub,beq_iff_eq,beq_eq_false_iff_ne,ne_eq,v1,v4,v100,vs,h1,h4,hsy,sym190D,Int.toNat_natCast,hp,hq,hge',hge2]
    simp [hab]
 | some p =>
   have hlt : i < a.length:=(List.getElem?_eq_some_iff.1 hp).1
   have hlt1 : (i : Int) < a.length:=by omega
   have hlt2 : (i : Int) < b.length:=by omega
   have hw : IntKind.i64.wrap ((i : Int) + 1) = ((i + 1 : Nat) : Int):=by rw [IntWalk.i64_in _ (by omega)]; rfl
   have hq : b[i]? = some b[i]:=List.getElem?_eq_getElem (by omega)
   generalize b[i] = q at hq
   have go : p = q→∃ vals',(ρ.ext lSi_D.N vals').val 100 = some (.int .i64 ((i + 1 : Nat) : Int))∧lSi_Inv a b 0 vals'∧lSi_mu a 0 vals' < lSi_mu a 0 [.int .i64 i]:=by
    intro e
    refine ⟨[.int .i64 ((i + 1 : Nat) : Int)],?_,⟨rfl,i + 1,by omega,rfl,by rw [List.take_add_one,List.take_add_one,hp,hq,hall,e]⟩,?_⟩
    ·rw [ext_high _ _ _ _ (by rw [hN]; omega)]; rfl
    ·simp [lSi_mu,vI]; omega
   have no : p≠q→a≠b:=fun hne e => hne (by rw [e,hq] at hp; exact (Option.some.inj hp).symm)
   refine ⟨?_,?_⟩
   all_goals (simp only [lSi0_t,qVG2,qVG1,qVG0,lSi0_F,lSi0_l,AsksL,GTree.asks,FTree.asks,FactsIn,List.append_nil,List.nil_append,List.cons_append,Option.some.injEq,exists_eq',implies_true,and_self,X.bool,X.den,denL,dX,denSub,denIte,asB,dY,sals_len,sals_cell,sals_lsub,hds_len,hds_cell,hds_lsub,hds_snocN,hds_snoc0N,heads_len,whos_len,whos_cell,whos_lsub,EndsOk,WaysOk,forall_cons,forall_nil,TgtOk,gpair,FactsIn,hold_cons,hold_nil,Option.some.injEq,dZ,X.bool,X.den,denL,dX,denSub,denIte,asB,dY,beq_iff_eq,beq_eq_false_iff_ne,ne_eq,sals_len,sals_cell,sals_lsub,hds_len,hds_cell,hds_lsub,hds_snocN,hds_snoc0N,heads_len,whos_len,whos_cell,whos_lsub,beq_iff_eq,beq_eq_false_iff_ne,ne_eq,v1,v4,v100,vs,h1,h4,hsy,sym190D,Int.toNat_natCast,hp,hq,Option.bind_some,who0,hlt1,hlt2,hw,reduceCtorEq,false_implies,implies_true,true_implies,and_self])
   all_goals (clear v1 v4 v100 vs h1 h4 hsy hp hq hF)
   all_goals ((repeat' apply And.intro) <;> intros <;> first
    | trivial
    | (exfalso; omega)
    | (exact absurd trivial (by assumption))
    | (exact go (who_eq (by assumption)))
    | (have:=no (fun e => by simp_all); simp_all; done)
    | (simp_all; done))
noncomputable def rSi_con : Con:={ f:=11,args:=[whosArg 0 0,whosArg 1 3],N:=2,M:=2,pre:=[(.op2 .lt (.num 2000) (.op1 .len (.var 1)),false)],out:=.sbool (.app 190 [.var 1,.var 4]),news:=[] }
noncomputable def rSi_call : Env→CallL:=fun E => acallAll E (evH E (noL E) ((fun E => oneH 11 (hooks [(4,lSi_D.hook E.facts rsi_vs)])) E) 6)
noncomputable def rSi_t : GTree:=(.fork (.op2 .eq qVG1 (.op1 .len (.var 4))) (.fork qVG0 (.leaf [[]]) (.leaf [[]])) (.leaf [[]]))
noncomputable def rSi_l : List (List (X×Bool)×Option Pairs):=[([(qVG0,true),(.op2 .eq qVG1 (.op1 .len (.var 4)),true),(.op2 .lt (.num 2000) qVG1,false)],some [(qVG0,.boo true)]),
 ([(qVG0,false),(.op2 .eq qVG1 (.op1 .len (.var 4)),true),(.op2 .lt (.num 2000) qVG1,false)],some [(qVG0,.boo false)]),
 ([(.op2 .eq qVG1 (.op1 .len (.var 4)),false),(.op2 .lt (.num 2000) qVG1,false)],some [(qVG0,.boo false)])]
theorem rSi_w (r : Rho) : rSi_con.fn.ways rSi_call E0 r rSi_con.pre rSi_t = some rSi_l:=by kernel_rfl
theorem lSi_H {r : Rho} {a b : List Who} (h1 : r.val 1 = some (whosR a)) (h4 : r.val 4 = some (whosR b)) (hsy : r.sym = sy) (hmax : (a.length : Int)≤2000) (F : List (X×Bool)) : LoopsOk (E0.with F r) (oneH 11 (hooks [(4,lSi_D.hook (E0.with F r).facts rsi_vs)])):=by
 refine loops_all (n:=1) (fun f fn h => h) (by kernel_rfl) fun i hi => ?_
 obtain rfl : i = 0:=by omega
 rw [hooks_hit (show keyOf (loopAt (E0.with F r).P 11 0) = 4 by kernel_rfl)]
 refine hook_ok (E₀:=E0) (run:=lSi_run) (ρ:=r) (Inv:=lSi_Inv a b) (μ:=lSi_mu a) E0_ok lSi_ok (fun F r' h => ?_) (fun hp => ⟨lSi_step h1 h4 hsy hmax ?_,[.int .i64 0],?_,rfl,0,Nat.zero_le _,rfl,rfl⟩)
 ·exact bodyRun_ok E0_ok (noL_ok F (h.trans hsy)) fun _ _ => noLoop_ok
 ·simp only [lSi_D,FactsIn,X.bool,X.den,denL,dX,denSub,denIte,asB,dY,sals_len,sals_cell,sals_lsub,hds_len,hds_cell,hds_lsub,hds_snocN,hds_snoc0N,heads_len,whos_len,whos_cell,whos_lsub,h1,h4,hsy,sym190D,Option.some.injEq,Value.bool.injEq,and_true,beq_iff_eq,beq_eq_false_iff_ne,ne_eq] at hp
  omega
 ·simp only [rsi_vs,X.bool,X.den,denL,dX,denSub,denIte,asB,dY,sals_len,sals_cell,sals_lsub,hds_len,hds_cell,hds_lsub,hds_snocN,hds_snoc0N,heads_len,whos_len,whos_cell,whos_lsub]
theorem rSi_cok : rSi_con.Ok Tryz.prog sy:=by
 intro r σ w us hsy hρ hpre hrel hins
 obtain ⟨a,h1⟩:=whos_at hrel (i:=0) rfl
 obtain ⟨b,h4⟩:=whos_at hrel (i:=1) rfl
 rw [hρ] at h1 h4
 have h1 : r.val 1 = some (whosR a):=h1
 have h4 : r.val 4 = some (whosR b):=h4
 have hsh : (a.length : Int)≤2000:=by
  have:=hpre.1
  simp only [X.bool,X.den,denL,dX,denSub,denIte,asB,dY,sals_len,sals_cell,sals_lsub,hds_len,hds_cell,hds_lsub,hds_snocN,hds_snoc0N,heads_len,whos_len,whos_cell,whos_lsub,h1,Option.some.injEq,Value.bool.injEq,decide_eq_false_iff_not] at this
  omega
 refine con_of (E:=E0) E0_ok E0_glob (sy:=sy) (fun F => noL_ok F hsy) (fun F => lSi_H h1 h4 hsy hsh F) (rSi_w r) hρ hpre hrel hins ?_ ?_
 ·simp only [rSi_con,rSi_t,qVG2,qVG1,qVG0,AsksL,GTree.asks,FTree.asks,FactsIn,List.append_nil,List.nil_append,List.cons_append,Option.some.injEq,exists_eq',implies_true,and_self,X.bool,X.den,denL,dX,denSub,denIte,asB,dY,sals_len,sals_cell,sals_lsub,hds_len,hds_cell,hds_lsub,hds_snocN,hds_snoc0N,heads_len,whos_len,whos_cell,whos_lsub,h1,h4,hsy,sym190D]
  try simp
 ·simp only [rSi_l,qVG2,qVG1,qVG0,EndsOk,WaysOk,forall_cons,forall_nil,TgtOk,gpair,FactsIn,hold_cons,hold_nil,Option.some.injEq,dZ,X.bool,X.den,denL,dX,denSub,denIte,asB,dY,beq_iff_eq,beq_eq_false_iff_ne,ne_eq,sals_len,sals_cell,sals_lsub,hds_len,hds_cell,hds_lsub,hds_snocN,hds_snoc0N,heads_len,whos_len,whos_cell,whos_lsub,beq_iff_eq,beq_eq_false_iff_ne,ne_eq,h1,h4,hsy,sym190D]
  clear hsy hρ hpre hrel hins h1 h4
  (repeat' apply And.intro) <;> intros <;> first
    | trivial
    | (simp_all; done)
    | (have hne : a≠b:=fun e => by subst e; simp_all
       simp_all; done)
open Go
noncomputable def RH : Env→CallE:=libs []
theorem RH_ok (F : List (X×Bool)) {r : Rho} (h : r.sym = sy) : CallsOk (E0.with F r) (RH (E0.with F r)):=libs_ok fun c hc => by
 cases hc
noncomputable def CH : Env→CallE:=libs [cLib cTw_con]
theorem CH_ok (F : List (X×Bool)) {r : Rho} (h : r.sym = sy) : CallsOk (E0.with F r) (CH (E0.with F r)):=libs_ok fun c hc => by
 simp only [List.mem_cons,List.not_mem_nil,or_false] at hc
 subst hc; exact lib_ok (E:=E0) cTw_cok F h
noncomputable def lTiN_D : LoopD:={ N:=200,M:=201,size:=sizeOfF 10,reads:=[(0,.rows 1 whoSch (.var 0) (.var 1) false 3)],pats:=[{ slots:=[(0,.nilslice),(1,.slx 0 1 (.var 0) (.num 0) (.op1 .len (.var 1)) (.var 2)),(2,.sint .i64 (.var 3)),(10,.sint .i64 (.var 100)),(11,.sint .i64 (.var 200))],heap:=[] }],exits:=[(.exit 2,{ slots:=[(0,.nilslice),(1,.slx 0 1 (.var 0) (.num 0) (.op1 .len (.var 1)) (.var 2)),(2,.sint .i64 (.var 3)),(10,.sint .i64 (.var 100))],heap:=[],guard:=.op1 .not (.app 175 [.lsub (.var 1) (.num 0) (.op2 .add (.var 100) (.num 1))]) }),(.ret,{ slots:=[(6,.int .i64 0),(7,.int .i64 6)],heap:=[],guard:=.app 175 [.lsub (.var 1) (.num 0) (.op2 .add (.var 100) (.num 1))] })],own:=[],pre:=[(.op2 .lt (.num 200) (.op1 .len (.var 1)),false),(.op2 .lt (.var 100) (.op1 .len (.var 1)),true),(.op2 .lt (.var 100) (.num 0),false),(.app 175 [.lsub (.var 1) (.num 0) (.var 100)],false)],dfs:=[] }
noncomputable def lTiN_run : Env→AF→ASt→Option (List Out):=bodyRun noL 6 (fun _ => noLoop) (loopAt Tryz.prog 10 1)
def lTiN0_F : List (X×Bool):=[(.op2 .lt (.var 200) (.num 0),false),(.op2 .lt (.num 200) (.op1 .len (.var 1)),false),(.op2 .lt (.var 100) (.op1 .len (.var 1)),true),(.op2 .lt (.var 100) (.num 0),false),(.app 175 [.lsub (.var 1) (.num 0) (.var 100)],false)]
def qVH0 : X:=.ite (.op2 .lt (.num 200) (.op1 .len (.var 1))) (.num 2) (.ite (.app 175 [(.var 1)]) (.num 6) (.ite (.op2 .lt (.num 0) (.op1 .len (.var 1))) (.num 61) (.num 0)))
def qVH1 : X:=.op2 .lt (.num 200) (.op1 .len (.var 1))
def qVH2 : X:=.op1 .len (.var 1)
def qVH3 : X:=.app 175 [(.lsub (.var 1) (.num 0) (.var 100))]
def qVH4 : X:=.app 175 [(.lsub (.var 1) (.num 0) (.op2 .add (.var 100) (.num 1)))]
def qVH5 : X:=.op2 .lt (.var 100) (.num 0)
def qVH6 : X:=.op2 .lt (.var 100) qVH2
def qVH7 : X:=.app 175 [(.var 1)]
def qVH8 : X:=.op2 .eq (.cell 0 (.var 1) (.var 100)) (.cell 0 (.var 1) (.var 200))
noncomputable def lTiN0_t : FTree:=(.fork (.op2 .lt (.var 200) (.var 100)) (.fork (.op2 .lt (.var 200) qVH2) (.fork qVH8 (.leaf [.leave 1 []]) (.leaf [.again 0 []])) .bad) (.leaf [.leave 0 []]))
noncomputable def lTiN0_l : List (List (X×Bool)×Option (List (Tgt×Pairs))):=[([(qVH8,true),(.op2 .lt (.var 200) qVH2,true),(.op2 .lt (.var 200) (.var 100),true),(.op2 .lt (.var 200) (.num 0),false),(qVH1,false),(qVH6,true),(qVH5,false),(qVH3,false)],some [(.leave 1 [],[(qVH4,.boo true)])]),
 ([(qVH8,false),(.op2 .lt (.var 200) qVH2,true),(.op2 .lt (.var 200) (.var 100),true),(.op2 .lt (.var 200) (.num 0),false),(qVH1,false),(qVH6,true),(qVH5,false),(qVH3,false)],some [(.again 0 [],[(.var 200,.op1 (.wrap .i64) (.op2 .add (.var 200) (.num 1)))])]),
 ([(.op2 .lt (.var 200) qVH2,false),(.op2 .lt (.var 200) (.var 100),true),(.op2 .lt (.var 200) (.num 0),false),(qVH1,false),(qVH6,true),(qVH5,false),(qVH3,false)],none),
 ([(.op2 .lt (.var 200) (.var 100),false),(.op2 .lt (.var 200) (.num 0),false),(qVH1,false),(qVH6,true),(qVH5,false),(qVH3,false)],some [(.leave 0 [],[(.op1 .not qVH4,.boo true)])])]
theorem lTiN0_w (r : Rho) : lTiN_D.ways lTiN_run E0 r 0 lTiN0_F lTiN0_t = some lTiN0_l:=by kernel_rfl
theorem lTiN_ok : lTiN_D.ok = true:=by kernel_rfl
def lTiN_Inv (b : List Who) (i : Nat) (n : Int) (j : Nat) (vals : List Value) : Prop:=j = 0∧∃ k : Nat,k≤i∧vals = [.int .i64 (k : Int)]∧(b.take k).any (fun y => y.n == n) = false
def lTiN_mu (i : Nat) (_ : Nat) (vals : List Value) : Nat:=i - (vI (vals.getD 0 default)).toNat
set_option maxHeartbeats 1000000 in
theorem lTiN_step {ρ : Rho} {b : List Who} {i : Nat} {ki : IntKind} {x : Who} (h4 : ρ.val 1 = some (whosR b)) (h100 : ρ.val 100 = some (.int ki (i : Int))) (hsy : ρ.sym = sy) (hp : b[i]? = some x) (hmax : (b.length : Int)≤200) (htw : twiceW (b.take i) = false) (j : Nat) (vals : List Value) (hI : lTiN_Inv b i x.n j vals) : StepOk lTiN_D lTiN_run E0 ρ (lTiN_Inv b i x.n) (lTiN_mu i) j vals:=by
 obtain ⟨rfl,k,hk,rfl,hno⟩:=hI
 have hN : lTiN_D.N = 200:=rfl
 have hil : i < b.length:=(List.getElem?_eq_some_iff.1 hp).1
 have hil1 : (i : Int) < b.length:=by omega
 have htn : ((i : Int) + 1).toNat = i + 1:=by omega
 have ht : b.take (i + 1) = b.take i ++ [x]:=by rw [List.take_add_one,hp]; rfl
 have htj : twiceW (b.take (i + 1)) = (b.take i).any fun y => y.n == x.n:=by rw [ht,twice_snoc,htw,Bool.false_or]
 have v1 : (ρ.ext lTiN_D.N [.int .i64 (k : Int)]).val 1 = some (whosR b):=by rw [ext_low _ _ _ _ (by rw [hN]; omega)]; exact h4
 have v100 : (ρ.ext lTiN_D.N [.int .i64 (k : Int)]).val 100 = some (.int ki (i : Int)):=by rw [ext_low _ _ _ _ (by rw [hN]; omega)]; exact h100
 have v200 : (ρ.ext lTiN_D.N [.int .i64 (k : Int)]).val 200 = some (.int .i64 (k : Int)):=by rw [ext_high _ _ _ _ (by rw [hN]; omega)]; rfl
 have vs : (ρ.ext lTiN_D.N [.int .i64 (k : Int)]).sym = sy:=hsy
 have hF : FactsIn (ρ.ext lTiN_D.N [.int .i64 (k : Int)]) lTiN0_F:=by
  simp only [lTiN0_F,FactsIn,X.bool,X.den,denL,dX,denSub,denIte,asB,dY,sals_len,sals_cell,sals_lsub,hds_len,hds_cell,hds_lsub,hds_snocN,hds_snoc0N,heads_len,whos_len,whos_cell,whos_lsub,v1,v100,v200,vs,sym175,Int.toNat_natCast,Int.toNat_zero,List.drop_zero,htw,Option.some.injEq,Value.bool.injEq,decide_eq_true_eq,decide_eq_false_iff_not,and_true,true_and]
  omega
 suffices both : AsksL (ρ.ext lTiN_D.N [.int .i64 (k : Int)]) (lTiN0_t.asks lTiN0_F)∧WaysOk lTiN_D ρ (lTiN_Inv b i x.n) (lTiN_mu i) 0 [.int .i64 (k : Int)] lTiN0_l from step_of_ways (lTiN0_w _) hF both.1.ok both.2
 by_cases hki : k < i
 ·obtain ⟨y,hy⟩ : ∃ y,b[k]? = some y:=⟨_,List.getElem?_eq_getElem (by omega)⟩
  have hk1 : (k : Int) < i:=by omega
  have hkl : (k : Int) < b.length:=by omega
  have hwk : IntKind.i64.wrap ((k : Int) + 1) = ((k + 1 : Nat) : Int):=by rw [IntWalk.i64_in _ (by omega)]; rfl
  have hit : x.n = y.n→twiceW (b.take (i + 1)) = true:=fun e => by
   rw [htj,List.any_eq_true]
   exact ⟨y,List.mem_of_getElem? (i:=k) (by rw [List.getElem?_take,if_pos hki]; exact hy),by simp [e]⟩
  have go : ¬ x.n = y.n→∃ vals',(ρ.ext lTiN_D.N vals').val 200 = some (.int .i64 ((k + 1 : Nat) : Int))∧lTiN_Inv b i x.n 0 vals'∧lTiN_mu i 0 vals' < lTiN_mu i 0 [.int .i64 (k : Int)]:=by
   intro hne
   refine ⟨[.int .i64 ((k + 1 : Nat) : Int)],?_,⟨rfl,k + 1,by omega,rfl,?_⟩,by simp [lTiN_mu,vI]; omega⟩
   ·rw [ext_high _ _ _ _ (by rw [hN]; omega)]; rfl
   ·rw [List.take_add_one,hy,List.any_append,hno]
    have : (y.n == x.n) = false:=beq_eq_false_iff_ne.2 fun e => hne e.symm
    simp [this]
  refine ⟨?_,?_⟩
  all_goals (simp only [lTiN0_t,qVH8,qVH7,qVH6,qVH5,qVH4,qVH3,qVH2,qVH1,qVH0,lTiN0_F,lTiN0_l,AsksL,GTree.asks,FTree.asks,FactsIn,List.append_nil,List.nil_append,List.cons_append,Option.some.injEq,exists_eq',implies_true,and_self,X.bool,X.den,denL,dX,denSub,denIte,asB,dY,sals_len,sals_cell,sals_lsub,hds_len,hds_cell,hds_lsub,hds_snocN,hds_snoc0N,heads_len,whos_len,whos_cell,whos_lsub,EndsOk,WaysOk,forall_cons,forall_nil,TgtOk,gpair,FactsIn,hold_cons,hold_nil,Option.some.injEq,dZ,X.bool,X.den,denL,dX,denSub,denIte,asB,dY,beq_iff_eq,beq_eq_false_iff_ne,ne_eq,sals_len,sals_cell,sals_lsub,hds_len,hds_cell,hds_lsub,hds_snocN,hds_snoc0N,heads_len,whos_len,whos_cell,whos_lsub,beq_iff_eq,beq_eq_false_iff_ne,ne_eq,v1,v100,v200,vs,h4,h100,hsy,sym23,sym164,sym169,sym170,sym172,sym173,sym174,sym175,sym176,sym177,Int.toNat_natCast,Int.toNat_zero,List.drop_zero,htn,hp,hy,Option.bind_some,who0,hk1,hkl,hil1,hwk,reduceCtorEq,Bool.false_eq_true,false_implies,implies_true,true_implies,and_self,and_true,true_and])
  all_goals (clear v1 v100 v200 vs h4 h100 hsy hF htj)
  all_goals ((repeat' apply And.intro) <;> intros <;> first
   | trivial
   | contradiction
   | (exact go (by assumption))
   | (exact hit (by assumption))
   | (exfalso; omega)
   | (simp_all; done))
 ·obtain rfl : k = i:=by omega
  have hnk : ¬ (k : Int) < k:=by omega
  rw [hno] at htj
  refine ⟨?_,?_⟩
  all_goals (simp only [lTiN0_t,qVH8,qVH7,qVH6,qVH5,qVH4,qVH3,qVH2,qVH1,qVH0,lTiN0_F,lTiN0_l,AsksL,GTree.asks,FTree.asks,FactsIn,List.append_nil,List.nil_append,List.cons_append,Option.some.injEq,exists_eq',implies_true,and_self,X.bool,X.den,denL,dX,denSub,denIte,asB,dY,sals_len,sals_cell,sals_lsub,hds_len,hds_cell,hds_lsub,hds_snocN,hds_snoc0N,heads_len,whos_len,whos_cell,whos_lsub,EndsOk,WaysOk,forall_cons,forall_nil,TgtOk,gpair,FactsIn,hold_cons,hold_nil,Option.some.injEq,dZ,X.bool,X.den,denL,dX,denSub,denIte,asB,dY,beq_iff_eq,beq_eq_false_iff_ne,ne_eq,sals_len,sals_cell,sals_lsub,hds_len,hds_cell,hds_lsub,hds_snocN,hds_snoc0N,heads_len,whos_len,whos_cell,whos_lsub,beq_iff_eq,beq_eq_false_iff_ne,ne_eq,v1,v100,v200,vs,h4,h100,hsy,sym23,sym164,sym169,sym170,sym172,sym173,sym174,sym175,sym176,sym177,Int.toNat_natCast,Int.toNat_zero,List.drop_zero,htn,hp,Option.bind_some,who0,hnk,htj,reduceCtorEq,Bool.false_eq_true,false_implies,implies_true,true_implies,and_self,and_true,true_and])
  all_goals (clear v1 v100 v200 vs h4 h100 hsy hF)
  all_goals ((repeat' apply And.intro) <;> intros <;> first
   | trivial
   | contradiction
   | (exfalso; omega)
   | (simp_all; done))
theorem idx_whos1 {r : Rho} {b : List Who} (h4 : r.val 1 = some (whosR b)) (hF : X.bool r (.op2 .lt (.var 100) (.op1 .len (.var 1))) = some true) (h0 : X.bool r (.op2 .lt (.var 100) (.num 0)) = some false) :
  ∃ (ki : IntKind) (n : Nat),r.val 100 = some (.int ki (n : Int))∧n < b.length:=by
 simp only [X.bool,X.den,h4,whos_len] at hF h0
 cases hv : r.val 100 with
 | none => rw [hv] at hF; cases hF
 | some v =>
   rw [hv] at hF h0
   cases v <;> simp only [den2,asB,Option.some.injEq,Bool.decide_eq_true,decide_eq_true_eq,decide_eq_false_iff_not,reduceCtorEq] at hF h0
   rename_i k n
   exact ⟨k,n.toNat,by rw [show ((n.toNat : Nat) : Int) = n by omega],by omega⟩
def nOf1 (r : Rho) (b : List Who) : Int:=((b[iOf r]?).map Who.n).getD 0
theorem tiN_H {r : Rho} {b : List Who} (h4 : r.val 1 = some (whosR b)) (hsy : r.sym = sy) (F : List (X×Bool)) :
  ∀ c' ∈ loopsOf (loopAt Tryz.prog 10 0),CodeOk (E0.with F r) none (.loop c') (hooks [(10,lTiN_D.hook (E0.with F r).facts rti_vs)] c'):=by
 rw [ti_body]
 refine mem_onlyV (P:=fun c' => CodeOk (E0.with F r) none (.loop c') (hooks [(10,lTiN_D.hook (E0.with F r).facts rti_vs)] c')) ?_
 show CodeOk (E0.with F r) none (.loop (loopAt Tryz.prog 10 1)) (hooks [(10,lTiN_D.hook (E0.with F r).facts rti_vs)] (loopAt Tryz.prog 10 1))
 rw [hooks_hit ti_key]
 refine hook_ok (E₀:=E0) (run:=lTiN_run) (ρ:=r) (Inv:=lTiN_Inv b (iOf r) (nOf1 r b)) (μ:=lTiN_mu (iOf r)) E0_ok lTiN_ok (fun F r' h => ?_) (fun hq => ?_)
 ·exact bodyRun_ok E0_ok (noL_ok F (h.trans hsy)) fun _ _ => noLoop_ok
 ·obtain ⟨ki,i,h100,hlt⟩:=idx_whos1 h4 hq.2.1 hq.2.2.1
  have q1:=hq.1
  have q4:=hq.2.2.2.1
  simp only [X.bool,X.den,denL,dX,denSub,denIte,asB,dY,sals_len,sals_cell,sals_lsub,hds_len,hds_cell,hds_lsub,hds_snocN,hds_snoc0N,heads_len,whos_len,whos_cell,whos_lsub,h4,h100,hsy,sym175,Int.toNat_natCast,Int.toNat_zero,List.drop_zero,Option.some.injEq,Value.bool.injEq,decide_eq_false_iff_not] at q1 q4
  have hi : iOf r = i:=by simp [iOf,h100]
  have hp : b[i]? = some b[i]:=List.getElem?_eq_getElem hlt
  have e2 : nOf1 r b = (b[i]).n:=by unfold nOf1; rw [hi,hp]; rfl
  rw [hi,e2]
  refine ⟨lTiN_step h4 h100 hsy hp (by omega) q4,[.int .i64 0],?_,rfl,0,Nat.zero_le _,rfl,rfl⟩
  simp only [rti_vs,X.bool,X.den,denL,dX,denSub,denIte,asB,dY,sals_len,sals_cell,sals_lsub,hds_len,hds_cell,hds_lsub,hds_snocN,hds_snoc0N,heads_len,whos_len,whos_cell,whos_lsub]
noncomputable def lToN_D : LoopD:={ N:=100,M:=101,size:=sizeOfF 10,reads:=[(0,.rows 1 whoSch (.var 0) (.var 1) false 3)],pats:=[{ slots:=[(0,.nilslice),(1,.slx 0 1 (.var 0) (.num 0) (.op1 .len (.var 1)) (.var 2)),(2,.sint .i64 (.var 3)),(10,.sint .i64 (.var 100))],heap:=[] }],exits:=[(.exit 0,{ slots:=[(0,.nilslice),(1,.slx 0 1 (.var 0) (.num 0) (.op1 .len (.var 1)) (.var 2)),(2,.sint .i64 (.var 3))],heap:=[],guard:=.op1 .not (.app 175 [.var 1]) }),(.ret,{ slots:=[(6,.int .i64 0),(7,.int .i64 6)],heap:=[],guard:=.app 175 [.var 1] })],own:=[],pre:=[(.op2 .lt (.num 200) (.op1 .len (.var 1)),false)],dfs:=[] }
noncomputable def lToN_run : Env→AF→ASt→Option (List Out):=bodyRun noL 6 (fun E => hooks [(10,lTiN_D.hook E.facts rti_vs)]) (loopAt Tryz.prog 10 0)
def lToN0_F : List (X×Bool):=[(.op2 .lt (.var 100) (.num 0),false),(.op2 .lt (.num 200) (.op1 .len (.var 1)),false),(.app 175 [.lsub (.var 1) (.num 0) (.var 100)],false)]
noncomputable def lToN0_t : FTree:=(.fork qVH6 (.fork qVH4 (.leaf [.leave 1 []]) (.leaf [.again 0 []])) (.leaf [.leave 0 []]))
noncomputable def lToN0_l : List (List (X×Bool)×Option (List (Tgt×Pairs))):=[([(qVH4,true),(qVH6,true),(qVH5,false),(qVH1,false),(qVH3,false)],some [(.leave 1 [],[(qVH7,.boo true)])]),
 ([(qVH4,false),(qVH6,true),(qVH5,false),(qVH1,false),(qVH3,false)],some [(.again 0 [],[(.var 100,.op1 (.wrap .i64) (.op2 .add (.var 100) (.num 1)))])]),
 ([(qVH6,false),(qVH5,false),(qVH1,false),(qVH3,false)],some [(.leave 0 [],[(.op1 .not qVH7,.boo true)])])]
theorem lToN0_w (r : Rho) : lToN_D.ways lToN_run E0 r 0 lToN0_F lToN0_t = some lToN0_l:=by kernel_rfl
theorem lToN_ok : lToN_D.ok = true:=by kernel_rfl
def lToN_Inv (b : List Who) (j : Nat) (vals : List Value) : Prop:=j = 0∧∃ i : Nat,i≤b.length∧vals = [.int .i64 (i : Int)]∧twiceW (b.take i) = false
def lToN_mu (b : List Who) (_ : Nat) (vals : List Value) : Nat:=b.length - (vI (vals.getD 0 default)).toNat
set_option maxHeartbeats 1000000 in
theorem lToN_step {ρ : Rho} {b : List Who} (h4 : ρ.val 1 = some (whosR b)) (hsy : ρ.sym = sy) (hmax : (b.length : Int)≤200) (j : Nat) (vals : List Value) (hI : lToN_Inv b j vals) : StepOk lToN_D lToN_run E0 ρ (lToN_Inv b) (lToN_mu b) j vals:=by
 obtain ⟨rfl,i,hi,rfl,hno⟩:=hI
 have hN : lToN_D.N = 100:=rfl
 have htn : ((i : Int) + 1).toNat = i + 1:=by omega
 have v1 : (ρ.ext lToN_D.N [.int .i64 (i : Int)]).val 1 = some (whosR b):=by rw [ext_low _ _ _ _ (by rw [hN]; omega)]; exact h4
 have v100 : (ρ.ext lToN_D.N [.int .i64 (i : Int)]).val 100 = some (.int .i64 (i : Int)):=by rw [ext_high _ _ _ _ (by rw [hN]; omega)]; rfl
 have vs : (ρ.ext lToN_D.N [.int .i64 (i : Int)]).sym = sy:=hsy
 have hF : FactsIn (ρ.ext lToN_D.N [.int .i64 (i : Int)]) lToN0_F:=by
  simp only [lToN0_F,FactsIn,X.bool,X.den,denL,dX,denSub,denIte,asB,dY,sals_len,sals_cell,sals_lsub,hds_len,hds_cell,hds_lsub,hds_snocN,hds_snoc0N,heads_len,whos_len,whos_cell,whos_lsub,v1,v100,vs,sym175,Int.toNat_natCast,Int.toNat_zero,List.drop_zero,hno,Option.some.injEq,Value.bool.injEq,decide_eq_true_eq,decide_eq_false_iff_not,and_true,true_and]
  omega
 suffices both : AsksL (ρ.ext lToN_D.N [.int .i64 (i : Int)]) (lToN0_t.asks lToN0_F)∧WaysOk lToN_D ρ (lToN_Inv b) (lToN_mu b) 0 [.int .i64 (i : Int)] lToN0_l from step_of_ways (lToN0_w _) hF both.1.ok both.2
 by_cases hil : i < b.length
 ·have hil1 : (i : Int) < b.length:=by omega
  have hw : IntKind.i64.wrap ((i : Int) + 1) = ((i + 1 : Nat) : Int):=by rw [IntWalk.i64_in _ (by omega)]; rfl
  have go : twiceW (b.take (i + 1)) = false→∃ vals',(ρ.ext lToN_D.N vals').val 100 = some (.int .i64 ((i + 1 : Nat) : Int))∧lToN_Inv b 0 vals'∧lToN_mu b 0 vals' < lToN_mu b 0 [.int .i64 (i : Int)]:=by
   intro h
   refine ⟨[.int .i64 ((i + 1 : Nat) : Int)],?_,⟨rfl,i + 1,by omega,rfl,h⟩,by simp [lToN_mu,vI]; omega⟩
   rw [ext_high _ _ _ _ (by rw [hN]; omega)]; rfl
  refine ⟨?_,?_⟩
  all_goals (simp only [lToN0_t,qVH8,qVH7,qVH6,qVH5,qVH4,qVH3,qVH2,qVH1,qVH0,lToN0_F,lToN0_l,AsksL,GTree.asks,FTree.asks,FactsIn,List.append_nil,List.nil_append,List.cons_append,Option.some.injEq,exists_eq',implies_true,and_self,X.bool,X.den,denL,dX,denSub,denIte,asB,dY,sals_len,sals_cell,sals_lsub,hds_len,hds_cell,hds_lsub,hds_snocN,hds_snoc0N,heads_len,whos_len,whos_cell,whos_lsub,EndsOk,WaysOk,forall_cons,forall_nil,TgtOk,gpair,FactsIn,hold_cons,hold_nil,Option.some.injEq,dZ,X.bool,X.den,denL,dX,denSub,denIte,asB,dY,beq_iff_eq,beq_eq_false_iff_ne,ne_eq,sals_len,sals_cell,sals_lsub,hds_len,hds_cell,hds_lsub,hds_snocN,hds_snoc0N,heads_len,whos_len,whos_cell,whos_lsub,beq_iff_eq,beq_eq_false_iff_ne,ne_eq,v1,v100,vs,h4,hsy,sym23,sym164,sym169,sym170,sym172,sym173,sym174,sym175,sym176,sym177,Int.toNat_natCast,Int.toNat_zero,List.drop_zero,htn,hil1,hw,reduceCtorEq,Bool.false_eq_true,false_implies,implies_true,true_implies,and_self,and_true,true_and])
  all_goals (clear v1 v100 vs h4 hsy hF)
  all_goals ((repeat' apply And.intro) <;> intros <;> first
   | trivial
   | contradiction
   | (exact go (by assumption))
   | (exact twice_take (by assumption))
   | (exfalso; omega)
   | (simp_all; done))
 ·have hge' : ¬ (i : Int) < b.length:=by omega
  have hl : b.take i = b:=List.take_of_length_le (by omega)
  rw [hl] at hno
  refine ⟨?_,?_⟩
  all_goals (simp only [lToN0_t,qVH8,qVH7,qVH6,qVH5,qVH4,qVH3,qVH2,qVH1,qVH0,lToN0_F,lToN0_l,AsksL,GTree.asks,FTree.asks,FactsIn,List.append_nil,List.nil_append,List.cons_append,Option.some.injEq,exists_eq',implies_true,and_self,X.bool,X.den,denL,dX,denSub,denIte,asB,dY,sals_len,sals_cell,sals_lsub,hds_len,hds_cell,hds_lsub,hds_snocN,hds_snoc0N,heads_len,whos_len,whos_cell,whos_lsub,EndsOk,WaysOk,forall_cons,forall_nil,TgtOk,gpair,FactsIn,hold_cons,hold_nil,Option.some.injEq,dZ,X.bool,X.den,denL,dX,denSub,denIte,asB,dY,beq_iff_eq,beq_eq_false_iff_ne,ne_eq,sals_len,sals_cell,sals_lsub,hds_len,hds_cell,hds_lsub,hds_snocN,hds_snoc0N,heads_len,whos_len,whos_cell,whos_lsub,beq_iff_eq,beq_eq_false_iff_ne,ne_eq,v1,v100,vs,h4,hsy,sym23,sym164,sym169,sym170,sym172,sym173,sym174,sym175,sym176,sym177,Int.toNat_natCast,Int.toNat_zero,List.drop_zero,hge',hno,reduceCtorEq,Bool.false_eq_true,false_implies,implies_true,true_implies,and_self,and_true,true_and])
  all_goals (clear v1 v100 vs h4 hsy hF)
  all_goals ((repeat' apply And.intro) <;> intros <;> first
   | trivial
   | contradiction
   | (exfalso; omega)
   | (simp_all; done))
theorem rn_H {ρ : Rho} {b : List Who} (h4 : ρ.val 1 = some (whosR b)) (hsy : ρ.sym = sy) (F : List (X×Bool)) : LoopsOk (E0.with F ρ) (oneH 10 (hooks [(7,lToN_D.hook (E0.with F ρ).facts rto_vs)])):=by
 refine loops_all (n:=3) (fun f fn h => h) (by kernel_rfl) fun i hi => ?_
 have h012 : i = 0∨i = 1∨i = 2:=by omega
 rcases h012 with rfl | rfl | rfl
 ·rw [hooks_hit (show keyOf (loopAt (E0.with F ρ).P 10 0) = 7 by kernel_rfl)]
  refine hook_in (E₀:=E0) (run:=lToN_run) (ρ:=ρ) (Inv:=lToN_Inv b) (μ:=lToN_mu b) E0_ok lToN_ok (fun F vals => ?_) (fun hp => ?_)
  ·have hN : lToN_D.N = 100:=rfl
   exact bodyRun_ok E0_ok (noL_ok F (r:=ρ.ext lToN_D.N vals) hsy) (tiN_H (r:=ρ.ext lToN_D.N vals) (by rw [ext_low _ _ _ _ (by rw [hN]; omega)]; exact h4) hsy F)
  ·have q:=hp.1
   simp only [X.bool,X.den,denL,dX,denSub,denIte,asB,dY,sals_len,sals_cell,sals_lsub,hds_len,hds_cell,hds_lsub,hds_snocN,hds_snoc0N,heads_len,whos_len,whos_cell,whos_lsub,h4,Option.some.injEq,Value.bool.injEq,decide_eq_false_iff_not] at q
   refine ⟨lToN_step h4 hsy (by omega),[.int .i64 0],?_,rfl,0,Nat.zero_le _,rfl,rfl⟩
   simp only [rto_vs,X.bool,X.den,denL,dX,denSub,denIte,asB,dY,sals_len,sals_cell,sals_lsub,hds_len,hds_cell,hds_lsub,hds_snocN,hds_snoc0N,heads_len,whos_len,whos_cell,whos_lsub]
 ·rw [hooks_miss (show Nat.beq (keyOf (loopAt (E0.with F ρ).P 10 1)) 7 = false by kernel_rfl)]
  exact fun f S outs h => by cases h
 ·rw [hooks_miss (show Nat.beq (keyOf (loopAt (E0.with F ρ).P 10 2)) 7 = false by kernel_rfl)]
  exact fun f S outs h => by cases h
noncomputable def rVnL_con : Con:={ f:=10,args:=[.nils,whosArg 0 0,.one (.int .i64 3)],N:=1,M:=1,pre:=[],out:=.tuple [.int .i64 0,.sint .i64 (.ite (.op2 .lt (.num 200) (.op1 .len (.var 1))) (.num 2) (.ite (.app 175 [.var 1]) (.num 6) (.ite (.op2 .lt (.num 0) (.op1 .len (.var 1))) (.num 61) (.num 0))))],news:=[] }
noncomputable def rVnL_call : Env→CallL:=fun E => acallAll E (evH E (RH E) ((fun E => oneH 10 (hooks [(7,lToN_D.hook E.facts rto_vs)])) E) 14)
noncomputable def rVnL_t : GTree:=(.fork qVH1 (.leaf [[]]) (.fork qVH7 (.leaf [[]]) (.fork (.op2 .lt (.num 0) qVH2) (.leaf [[]]) (.leaf [[]]))))
noncomputable def rVnL_l : List (List (X×Bool)×Option Pairs):=[([(qVH1,true)],some [(qVH0,.num 2)]),
 ([(qVH7,true),(qVH1,false)],some [(qVH0,.num 6)]),
 ([(.op2 .lt (.num 0) qVH2,true),(qVH7,false),(qVH1,false)],some [(qVH0,.num 61)]),
 ([(.op2 .lt (.num 0) qVH2,false),(qVH7,false),(qVH1,false)],some [(qVH0,.num 0)])]
theorem rVnL_w (r : Rho) : rVnL_con.fn.ways rVnL_call E0 r rVnL_con.pre rVnL_t = some rVnL_l:=by kernel_rfl
theorem rVnL_cok : rVnL_con.Ok Tryz.prog sy:=by
 intro r σ w us hsy hρ hpre hrel hins
 obtain ⟨b,h4⟩:=whos_open 0 1 hrel rfl hρ
 obtain ⟨u0,us,rfl,g0,hi⟩:=ins_cons hins
 obtain ⟨u1,us,rfl,g1,hi⟩:=ins_cons hi
 obtain ⟨u2,us,rfl,g2,hi⟩:=ins_cons hi
 obtain ⟨K,k3,rfl,h3⟩:=one_int g2
 rw [hρ] at h3
 refine con_of (E:=E0) E0_ok E0_glob (sy:=sy) (fun F => RH_ok F hsy) (fun F => rn_H h4 hsy F) (rVnL_w r) hρ hpre hrel hins ?_ ?_
 ·simp only [rVnL_con,rVnL_t,qVH8,qVH7,qVH6,qVH5,qVH4,qVH3,qVH2,qVH1,qVH0,AsksL,GTree.asks,FTree.asks,FactsIn,List.append_nil,List.nil_append,List.cons_append,Option.some.injEq,exists_eq',implies_true,and_self,X.bool,X.den,denL,dX,denSub,denIte,asB,dY,sals_len,sals_cell,sals_lsub,hds_len,hds_cell,hds_lsub,hds_snocN,hds_snoc0N,heads_len,whos_len,whos_cell,whos_lsub,h4,h3,hsy,sym175]
  try simp
 ·simp only [rVnL_l,qVH8,qVH7,qVH6,qVH5,qVH4,qVH3,qVH2,qVH1,qVH0,EndsOk,WaysOk,forall_cons,forall_nil,TgtOk,gpair,FactsIn,hold_cons,hold_nil,Option.some.injEq,dZ,X.bool,X.den,denL,dX,denSub,d_iteV,asB,dY,beq_iff_eq,beq_eq_false_iff_ne,ne_eq,sals_len,sals_cell,sals_lsub,hds_len,hds_cell,hds_lsub,hds_snocN,hds_snoc0N,heads_len,whos_len,whos_cell,whos_lsub,beq_iff_eq,beq_eq_false_iff_ne,ne_eq,h4,h3,hsy,sym175]
  clear hsy hρ hpre hrel hins g0 g1 g2 hi h4 h3
  (repeat' apply And.intro) <;> intros <;> first
    | trivial
    | (simp_all; done)
    | (rw [decide_eq_false (p:=200 < (b.length : Int)) (by assumption)]; simp [*]; done)
    | (rw [decide_eq_false (p:=200 < (b.length : Int)) (by assumption),decide_eq_true (p:=0 < (b.length : Int)) (by assumption)]; simp [*]; done)
    | (exfalso; omega)
noncomputable def cVnL_con : Con:={ f:=9,args:=[.nils,whosArg 0 0,.one (.int .i64 3)],N:=1,M:=1,pre:=[],out:=.tuple [.int .i64 0,.sint .i64 (.ite (.op2 .lt (.num 200) (.op1 .len (.var 1))) (.num 2) (.ite (.app 175 [.var 1]) (.num 6) (.ite (.op2 .lt (.num 0) (.op1 .len (.var 1))) (.num 61) (.num 0))))],news:=[] }
noncomputable def cVnL_call : Env→CallL:=fun E => acallAll E (evH E (CH E) ((fun _ => noLoops) E) 14)
noncomputable def cVnL_t : GTree:=(.fork qVH1 (.leaf [[]]) (.fork qVH7 (.leaf [[]]) (.fork (.op2 .lt (.num 0) qVH2) (.leaf [[]]) (.leaf [[]]))))
noncomputable def cVnL_l : List (List (X×Bool)×Option Pairs):=[([(qVH1,true)],some [(qVH0,.num 2)]),
 ([(qVH7,true),(qVH1,false)],some [(qVH0,.num 6)]),
 ([(.op2 .lt (.num 0) qVH2,true),(qVH7,false),(qVH1,false)],some [(qVH0,.num 61)]),
 ([(.op2 .lt (.num 0) qVH2,false),(qVH7,false),(qVH1,false)],some [(qVH0,.num 0)])]
theorem cVnL_w (r : Rho) : cVnL_con.fn.ways cVnL_call E0 r cVnL_con.pre cVnL_t = some cVnL_l:=by kernel_rfl
theorem cVnL_cok : cVnL_con.Ok Tryz.prog sy:=by
 intro r σ w us hsy hρ hpre hrel hins
 obtain ⟨b,h4⟩:=whos_open 0 1 hrel rfl hρ
 obtain ⟨u0,us,rfl,g0,hi⟩:=ins_cons hins
 obtain ⟨u1,us,rfl,g1,hi⟩:=ins_cons hi
 obtain ⟨u2,us,rfl,g2,hi⟩:=ins_cons hi
 obtain ⟨K,k3,rfl,h3⟩:=one_int g2
 rw [hρ] at h3
 refine con_of (E:=E0) E0_ok E0_glob (sy:=sy) (fun F => CH_ok F hsy) (fun F => noH_ok) (cVnL_w r) hρ hpre hrel hins ?_ ?_
 ·simp only [cVnL_con,cVnL_t,qVH8,qVH7,qVH6,qVH5,qVH4,qVH3,qVH2,qVH1,qVH0,AsksL,GTree.asks,FTree.asks,FactsIn,List.append_nil,List.nil_append,List.cons_append,Option.some.injEq,exists_eq',implies_true,and_self,X.bool,X.den,denL,dX,denSub,denIte,asB,dY,sals_len,sals_cell,sals_lsub,hds_len,hds_cell,hds_lsub,hds_snocN,hds_snoc0N,heads_len,whos_len,whos_cell,whos_lsub,h4,h3,hsy,sym175]
  try simp
 ·simp only [cVnL_l,qVH8,qVH7,qVH6,qVH5,qVH4,qVH3,qVH2,qVH1,qVH0,EndsOk,WaysOk,forall_cons,forall_nil,TgtOk,gpair,FactsIn,hold_cons,hold_nil,Option.some.injEq,dZ,X.bool,X.den,denL,dX,denSub,d_iteV,asB,dY,beq_iff_eq,beq_eq_false_iff_ne,ne_eq,sals_len,sals_cell,sals_lsub,hds_len,hds_cell,hds_lsub,hds_snocN,hds_snoc0N,heads_len,whos_len,whos_cell,whos_lsub,beq_iff_eq,beq_eq_false_iff_ne,ne_eq,h4,h3,hsy,sym175]
  clear hsy hρ hpre hrel hins g0 g1 g2 hi h4 h3
  (repeat' apply And.intro) <;> intros <;> first
    | trivial
    | (simp_all; done)
    | (rw [decide_eq_false (p:=200 < (b.length : Int)) (by assumption)]; simp [*]; done)
    | (rw [decide_eq_false (p:=200 < (b.length : Int)) (by assumption),decide_eq_true (p:=0 < (b.length : Int)) (by assumption)]; simp [*]; done)
    | (exfalso; omega)
end Go.Proofs.YtckefonlahokkaaGreatDoor.Zs
