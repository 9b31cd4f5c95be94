/-
  Contracts of the reference: what a sale is, and what it has in common with rates.
-/
import Derived.Test.YtckefonlahokkaaGreatDoorVaConA
import Derived.KernelRfl
set_option linter.unusedSimpArgs false
set_option linter.unusedVariables false
namespace Go.Proofs.YtckefonlahokkaaGreatDoor.Zs
open Go
noncomputable def rwithin_con : Con:={ f:=84,args:=[.one (.int .i64 0),.one (.int .i64 1),.one (.int .i64 2)],N:=0,M:=0,pre:=[],out:=.sbool (.app 10 [.var 0,.var 1,.var 2]),news:=[] }
noncomputable def rwithin_call : Env→CallL:=fun E => acallAll E (evH E (noL E) ((fun _ => noLoops) E) 4)
def qVA0 : X:=.ite (.app 131 [(.var 0),(.var 1),(.var 2),(.var 3),(.var 4),(.var 5),(.var 6),(.var 7),(.var 8)]) (.num 0) (.num 1)
def qVA1 : X:=.app 10 [(.var 0),(.num 1),(.num 1000000)]
def qVA2 : X:=.app 10 [(.var 1),(.num 0),(.num 1000000)]
def qVA3 : X:=.op2 .eq (.var 8) (.num 0)
def qVA4 : X:=.app 10 [(.var 3),(.num 10),(.num 10000007)]
def qVA5 : X:=.app 10 [(.var 4),(.num 1),(.num 1000000000)]
def qVA6 : X:=.app 10 [(.var 2),(.num 0),(.var 1)]
def qVA7 : X:=.app 10 [(.var 8),(.num 1),(.num 1000000)]
def qVA8 : X:=.app 10 [(.var 5),(.num 0),(.num 40)]
def qVA9 : X:=.app 10 [(.var 6),(.num 0),(.num 40)]
def qVA10 : X:=.op2 .eq (.var 6) (.num 0)
def qVA11 : X:=.op2 .lt (.var 100) (.op1 .len (.var 1))
def qVA12 : X:=.app 10 [(.var 7),(.num 0),(.var 2)]
def qVA13 : X:=.op2 .eq (.var 7) (.num 0)
def qVA14 : X:=.op2 .lt (.num 0) (.var 6)
def qVA15 : X:=.op2 .eq (.var 2) (.num 0)
def qVA16 : X:=.op2 .eq (.var 3) (.num 0)
def qVA17 : X:=.op2 .lt (.num 1000000000) (.op2 .add (.op1 .len (.var 101)) (.num 1))
noncomputable def rwithin_t : GTree:=(.fork (.op2 .lt (.var 0) (.var 1)) (.leaf [[]]) (.leaf [[]]))
noncomputable def rwithin_l : List (List (X×Bool)×Option Pairs):=[([(.op2 .lt (.var 0) (.var 1),true)],some [(.app 10 [.var 0,.var 1,.var 2],.boo false)]),
 ([(.op2 .lt (.var 0) (.var 1),false)],some [(.app 10 [.var 0,.var 1,.var 2],.op1 .not (.op2 .lt (.var 2) (.var 0)))])]
theorem rwithin_w (r : Rho) : rwithin_con.fn.ways rwithin_call E0 r rwithin_con.pre rwithin_t = some rwithin_l:=by kernel_rfl
theorem rwithin_cok : rwithin_con.Ok Tryz.prog sy:=by
 intro r σ w us hsy hρ hpre hrel hins
 obtain ⟨u0,us,rfl,g0,hins⟩:=ins_cons hins
 obtain ⟨u1,us,rfl,g1,hins⟩:=ins_cons hins
 obtain ⟨u2,us,rfl,g2,hins⟩:=ins_cons hins
 obtain ⟨a,k0,rfl,h0⟩:=one_int g0
 obtain ⟨b,k1,rfl,h1⟩:=one_int g1
 obtain ⟨c,k2,rfl,h2⟩:=one_int g2
 rw [hρ] at h0 h1 h2
 have hs : r.sym 10 [.int k0 a,.int k1 b,.int k2 c] = some (.bool (withinB a b c)):=by rw [hsy]; rfl
 refine con_of (E:=E0) E0_ok E0_glob (sy:=sy) (fun F => noL_ok F hsy) (fun F => noH_ok) (rwithin_w r) hρ hpre hrel hins ?_ ?_
 ·simp only [rwithin_con,rwithin_t,qVA17,qVA16,qVA15,qVA14,qVA13,qVA12,qVA11,qVA10,qVA9,qVA8,qVA7,qVA6,qVA5,qVA4,qVA3,qVA2,qVA1,qVA0,AsksL,GTree.asks,FTree.asks,FactsIn,List.append_nil,List.nil_append,List.cons_append,Option.some.injEq,exists_eq',implies_true,and_self,X.bool,X.den,denL,dX,denSub,denIte,asB,dY,h0,h1,h2,hs]
 ·simp only [rwithin_l,qVA17,qVA16,qVA15,qVA14,qVA13,qVA12,qVA11,qVA10,qVA9,qVA8,qVA7,qVA6,qVA5,qVA4,qVA3,qVA2,qVA1,qVA0,EndsOk,WaysOk,forall_cons,forall_nil,TgtOk,gpair,FactsIn,hold_cons,hold_nil,Option.some.injEq,dZ,X.bool,X.den,denL,dX,denSub,denIte,asB,dY,beq_iff_eq,beq_eq_false_iff_ne,ne_eq,h0,h1,h2,hs]
  (repeat' apply And.intro) <;> intros <;> first | trivial | (simp [withinB]; omega) | (rw [Bool.eq_iff_iff]; simp [withinB]; omega)
noncomputable def RW : Env→CallE:=libs [cLib rwithin_con]
theorem RW_ok (F : List (X×Bool)) {r : Rho} (h : r.sym = sy) : CallsOk (E0.with F r) (RW (E0.with F r)):=libs_ok fun c hc => by
 simp only [List.mem_cons,List.not_mem_nil,or_false] at hc
 subst hc; exact lib_ok (E:=E0) rwithin_cok F h
def rss_vs : List X:=[.num 0]
noncomputable def rSl_con : Con:={ f:=56,args:=[.agg [.int .i64 0,.int .i64 1,.int .i64 2,.int .i64 3,.int .i64 4,.int .i64 5,.int .i64 6,.int .i64 7,.int .i64 8]],N:=0,M:=0,pre:=[],out:=.sint .i64 (.ite (.app 131 [.var 0,.var 1,.var 2,.var 3,.var 4,.var 5,.var 6,.var 7,.var 8]) (.num 0) (.num 1)),news:=[] }
noncomputable def rSl_call : Env→CallL:=fun E => acallAll E (evH E (RW E) ((fun _ => noLoops) E) 6)
noncomputable def rSl_t : GTree:=(.fork qVA1 (.fork qVA3 (.fork qVA2 (.fork qVA6 (.fork qVA4 (.fork qVA5 (.fork qVA8 (.fork qVA9 (.fork qVA10 (.fork qVA13 (.leaf [[]]) (.fork qVA14 (.fork qVA12 (.leaf [[]]) (.leaf [[]])) (.leaf [[]]))) (.fork qVA14 (.fork qVA12 (.leaf [[]]) (.leaf [[]])) (.leaf [[]]))) (.leaf [[]])) (.leaf [[]])) (.leaf [[]])) (.leaf [[]])) (.leaf [[]])) (.leaf [[]])) (.fork qVA2 (.fork qVA7 (.fork qVA15 (.fork qVA16 (.fork (.op2 .eq (.var 4) (.num 0)) (.fork (.op2 .eq (.var 5) (.num 0)) (.fork qVA10 (.fork qVA13 (.leaf [[]]) (.leaf [[]])) (.leaf [[]])) (.leaf [[]])) (.leaf [[]])) (.leaf [[]])) (.leaf [[]])) (.leaf [[]])) (.leaf [[]]))) (.fork qVA3 (.leaf [[]]) (.leaf [[]])))
noncomputable def rSl_l : List (List (X×Bool)×Option Pairs):=[([(qVA13,true),(qVA10,true),(qVA9,true),(qVA8,true),(qVA5,true),(qVA4,true),(qVA6,true),(qVA2,true),(qVA3,true),(qVA1,true)],some [(qVA0,.num 0)]),
 ([(qVA12,true),(qVA14,true),(qVA13,false),(qVA10,true),(qVA9,true),(qVA8,true),(qVA5,true),(qVA4,true),(qVA6,true),(qVA2,true),(qVA3,true),(qVA1,true)],some [(qVA0,.num 0)]),
 ([(qVA12,false),(qVA14,true),(qVA13,false),(qVA10,true),(qVA9,true),(qVA8,true),(qVA5,true),(qVA4,true),(qVA6,true),(qVA2,true),(qVA3,true),(qVA1,true)],some [(qVA0,.num 1)]),
 ([(qVA14,false),(qVA13,false),(qVA10,true),(qVA9,true),(qVA8,true),(qVA5,true),(qVA4,true),(qVA6,true),(qVA2,true),(qVA3,true),(qVA1,true)],some [(qVA0,.num 1)]),
 ([(qVA12,true),(qVA14,true),(qVA10,false),(qVA9,true),(qVA8,true),(qVA5,true),(qVA4,true),(qVA6,true),(qVA2,true),(qVA3,true),(qVA1,true)],some [(qVA0,.num 0)]),
 ([(qVA12,false),(qVA14,true),(qVA10,false),(qVA9,true),(qVA8,true),(qVA5,true),(qVA4,true),(qVA6,true),(qVA2,true),(qVA3,true),(qVA1,true)],some [(qVA0,.num 1)]),
 ([(qVA14,false),(qVA10,false),(qVA9,true),(qVA8,true),(qVA5,true),(qVA4,true),(qVA6,true),(qVA2,true),(qVA3,true),(qVA1,true)],some [(qVA0,.num 1)]),
 ([(qVA9,false),(qVA8,true),(qVA5,true),(qVA4,true),(qVA6,true),(qVA2,true),(qVA3,true),(qVA1,true)],some [(qVA0,.num 1)]),
 ([(qVA8,false),(qVA5,true),(qVA4,true),(qVA6,true),(qVA2,true),(qVA3,true),(qVA1,true)],some [(qVA0,.num 1)]),
 ([(qVA5,false),(qVA4,true),(qVA6,true),(qVA2,true),(qVA3,true),(qVA1,true)],some [(qVA0,.num 1)]),
 ([(qVA4,false),(qVA6,true),(qVA2,true),(qVA3,true),(qVA1,true)],some [(qVA0,.num 1)]),
 ([(qVA6,false),(qVA2,true),(qVA3,true),(qVA1,true)],some [(qVA0,.num 1)]),
 ([(qVA2,false),(qVA3,true),(qVA1,true)],some [(qVA0,.num 1)]),
 ([(qVA13,true),(qVA10,true),(.op2 .eq (.var 5) (.num 0),true),(.op2 .eq (.var 4) (.num 0),true),(qVA16,true),(qVA15,true),(qVA7,true),(qVA2,true),(qVA3,false),(qVA1,true)],some [(qVA0,.num 0)]),
 ([(qVA13,false),(qVA10,true),(.op2 .eq (.var 5) (.num 0),true),(.op2 .eq (.var 4) (.num 0),true),(qVA16,true),(qVA15,true),(qVA7,true),(qVA2,true),(qVA3,false),(qVA1,true)],some [(qVA0,.num 1)]),
 ([(qVA10,false),(.op2 .eq (.var 5) (.num 0),true),(.op2 .eq (.var 4) (.num 0),true),(qVA16,true),(qVA15,true),(qVA7,true),(qVA2,true),(qVA3,false),(qVA1,true)],some [(qVA0,.num 1)]),
 ([(.op2 .eq (.var 5) (.num 0),false),(.op2 .eq (.var 4) (.num 0),true),(qVA16,true),(qVA15,true),(qVA7,true),(qVA2,true),(qVA3,false),(qVA1,true)],some [(qVA0,.num 1)]),
 ([(.op2 .eq (.var 4) (.num 0),false),(qVA16,true),(qVA15,true),(qVA7,true),(qVA2,true),(qVA3,false),(qVA1,true)],some [(qVA0,.num 1)]),
 ([(qVA16,false),(qVA15,true),(qVA7,true),(qVA2,true),(qVA3,false),(qVA1,true)],some [(qVA0,.num 1)]),
 ([(qVA15,false),(qVA7,true),(qVA2,true),(qVA3,false),(qVA1,true)],some [(qVA0,.num 1)]),
 ([(qVA7,false),(qVA2,true),(qVA3,false),(qVA1,true)],some [(qVA0,.num 1)]),
 ([(qVA2,false),(qVA3,false),(qVA1,true)],some [(qVA0,.num 1)]),
 ([(qVA3,true),(qVA1,false)],some [(qVA0,.num 1)]),
 ([(qVA3,false),(qVA1,false)],some [(qVA0,.num 1)])]
theorem rSl_w (r : Rho) : rSl_con.fn.ways rSl_call E0 r rSl_con.pre rSl_t = some rSl_l:=by kernel_rfl
theorem d_iteV (b : Bool) (x y : Value) : denIte (some (.bool b)) (some x) (some y) = some (bif b then x else y):=by cases b <;> rfl
theorem bif01 (b : Bool) : (some (bif b then Value.int .i64 0 else Value.int .i64 1) = some (Value.int .i64 0)) = (b = true):=by cases b <;> simp
theorem bif10 (b : Bool) : (some (bif b then Value.int .i64 0 else Value.int .i64 1) = some (Value.int .i64 1)) = (b = false):=by cases b <;> simp
set_option maxHeartbeats 4000000 in
theorem rSl_cok : rSl_con.Ok Tryz.prog sy:=by
 intro r σ w us hsy hρ hpre hrel hins
 obtain ⟨u0,us,rfl,g0,hins⟩:=ins_cons hins
 obtain ⟨p,kp,rfl,hp⟩:=sal_agg g0
 rw [hρ] at hp
 have a0:=hp.h0
 have a1:=hp.h1
 have a2:=hp.h2
 have a3:=hp.h3
 have a4:=hp.h4
 have a5:=hp.h5
 have a6:=hp.h6
 have a7:=hp.h7
 have a8:=hp.h8
 simp only [Nat.zero_add,Nat.reduceAdd] at a0 a1 a2 a3 a4 a5 a6 a7 a8
 refine con_of (E:=E0) E0_ok E0_glob (sy:=sy) (fun F => RW_ok F hsy) (fun F => noH_ok) (rSl_w r) hρ hpre hrel hins ?_ ?_
 ·simp only [rSl_con,rSl_t,qVA17,qVA16,qVA15,qVA14,qVA13,qVA12,qVA11,qVA10,qVA9,qVA8,qVA7,qVA6,qVA5,qVA4,qVA3,qVA2,qVA1,qVA0,AsksL,GTree.asks,FTree.asks,FactsIn,List.append_nil,List.nil_append,List.cons_append,Option.some.injEq,exists_eq',implies_true,and_self,X.bool,X.den,denL,dX,denSub,denIte,asB,dY,a0,a1,a2,a3,a4,a5,a6,a7,a8,hsy,sym10,sym131]
 ·simp only [rSl_l,qVA17,qVA16,qVA15,qVA14,qVA13,qVA12,qVA11,qVA10,qVA9,qVA8,qVA7,qVA6,qVA5,qVA4,qVA3,qVA2,qVA1,qVA0,EndsOk,WaysOk,forall_cons,forall_nil,TgtOk,gpair,FactsIn,hold_cons,hold_nil,dZ,X.bool,X.den,denL,dX,denSub,d_iteV,asB,dY,beq_iff_eq,beq_eq_false_iff_ne,ne_eq,bif01,bif10,a0,a1,a2,a3,a4,a5,a6,a7,a8,hsy,sym10,sym131]
  clear hsy hρ hpre hrel hins g0 hp a0 a1 a2 a3 a4 a5 a6 a7 a8
  simp only [saleB]
  (repeat' apply And.intro) <;> intros <;> first
    | trivial
    | (exfalso; simp_all; done)
    | (simp_all [withinB]; done)
    | (simp_all [withinB]; omega)
    | (simp_all [withinB]; intros; omega)
noncomputable def lSs_D : LoopD:={ N:=100,M:=111,size:=sizeOfF 30,reads:=[(0,.rows 9 salSch (.var 0) (.var 1) false 27)],pats:=[{ slots:=[(0,.slx 0 9 (.var 0) (.num 0) (.op1 .len (.var 1)) (.var 2)),(3,.nilslice),(4,.sint .i64 (.var 100))],heap:=[] },{ slots:=[(0,.slx 0 9 (.var 0) (.num 0) (.op1 .len (.var 1)) (.var 2)),(3,.slo 110 3 (.op1 .len (.var 101))),(4,.sint .i64 (.var 100))],heap:=[(110,.rows 3 hdSch (.num 0) (.var 101) true 78)] }],exits:=[(.exit 0,{ slots:=[(3,.nilslice)],heap:=[],guard:=.op1 .not (.op2 .lt (.num 0) (.op1 .len (.var 1))) }),(.exit 0,{ slots:=[(3,.slo 110 3 (.op1 .len (.app 180 [.var 1])))],heap:=[(110,.rows 3 hdSch (.num 0) (.app 180 [.var 1]) true 78)],guard:=.op2 .lt (.num 0) (.op1 .len (.var 1)) })],own:=[],pre:=[(.app 23 [.var 1],true)],dfs:=[] }
noncomputable def lSs_run : Env→AF→ASt→Option (List Out):=bodyRun noL 6 (fun _ => noLoop) (loopAt Tryz.prog 30 0)
def lSs0_F : List (X×Bool):=[(.op2 .lt (.var 100) (.num 0),false)]
def lSs1_F : List (X×Bool):=[(.op2 .lt (.var 100) (.num 0),false)]
noncomputable def lSs0_t : FTree:=(.fork qVA11 (.leaf [.again 1 [(110,112)]]) (.leaf [.leave 0 []]))
noncomputable def lSs0_l : List (List (X×Bool)×Option (List (Tgt×Pairs))):=[([(qVA11,true),(.op2 .lt (.var 100) (.num 0),false)],some [(.again 1 [(110,112)],[(.op1 .len (.var 101),.num 1),(.var 100,.op1 (.wrap .i64) (.op2 .add (.var 100) (.num 1))),(.var 101,.snoc .nil [.op1 (.kind .i64) (.cell 0 (.var 1) (.var 100)),.op1 (.kind .i64) (.cell 1 (.var 1) (.var 100)),.op1 (.kind .i64) (.cell 8 (.var 1) (.var 100))])])]),
 ([(qVA11,false),(.op2 .lt (.var 100) (.num 0),false)],some [(.leave 0 [],[(.op1 .not (.op2 .lt (.num 0) (.op1 .len (.var 1))),.boo true)])])]
theorem lSs0_w (r : Rho) : lSs_D.ways lSs_run E0 r 0 lSs0_F lSs0_t = some lSs0_l:=by kernel_rfl
noncomputable def lSs1_t : FTree:=(.fork qVA11 (.fork qVA17 .bad (.leaf [.again 1 [(110,112)]])) (.leaf [.leave 1 [(110,110)]]))
noncomputable def lSs1_l : List (List (X×Bool)×Option (List (Tgt×Pairs))):=[([(qVA17,true),(qVA11,true),(.op2 .lt (.var 100) (.num 0),false)],none),
 ([(qVA17,false),(qVA11,true),(.op2 .lt (.var 100) (.num 0),false)],some [(.again 1 [(110,112)],[(.op1 .len (.var 101),.op2 .add (.op1 .len (.var 101)) (.num 1)),(.var 100,.op1 (.wrap .i64) (.op2 .add (.var 100) (.num 1))),(.var 101,.snoc (.var 101) [.op1 (.kind .i64) (.cell 0 (.var 1) (.var 100)),.op1 (.kind .i64) (.cell 1 (.var 1) (.var 100)),.op1 (.kind .i64) (.cell 8 (.var 1) (.var 100))])])]),
 ([(qVA11,false),(.op2 .lt (.var 100) (.num 0),false)],some [(.leave 1 [(110,110)],[(.op1 .len (.app 180 [.var 1]),.op1 .len (.var 101)),(.app 180 [.var 1],.var 101),(.op2 .lt (.num 0) (.op1 .len (.var 1)),.boo true)])])]
theorem lSs1_w (r : Rho) : lSs_D.ways lSs_run E0 r 1 lSs1_F lSs1_t = some lSs1_l:=by kernel_rfl
theorem lSs_ok : lSs_D.ok = true:=by kernel_rfl
def lSs_Inv (l : List Sal9) (j : Nat) (vals : List Value) : Prop:=
 ∃ i : Nat,i≤l.length∧((j = 0∧i = 0∧vals = [.int .i64 0])∨(j = 1∧1≤i∧vals = [.int .i64 (i : Int),hdsR (headsOf (l.take i))]))
def lSs_mu (l : List Sal9) (_ : Nat) (vals : List Value) : Nat:=l.length - (vI (vals.getD 0 default)).toNat
set_option maxHeartbeats 1000000 in
theorem lSs_step0 {ρ : Rho} {l : List Sal9} (h1 : ρ.val 1 = some (salsR l)) (hsy : ρ.sym = sy) (hsh : shortB l = true) : StepOk lSs_D lSs_run E0 ρ (lSs_Inv l) (lSs_mu l) 0 [.int .i64 0]:=by
 have hN : lSs_D.N = 100:=rfl
 have hmax:=short_len hsh
 have v1 : (ρ.ext lSs_D.N [.int .i64 0]).val 1 = some (salsR l):=by rw [ext_low _ _ _ _ (by rw [hN]; omega)]; exact h1
 have v100 : (ρ.ext lSs_D.N [.int .i64 0]).val 100 = some (.int .i64 0):=by rw [ext_high _ _ _ _ (by rw [hN]; omega)]; rfl
 have vs : (ρ.ext lSs_D.N [.int .i64 0]).sym = sy:=hsy
 have hF : FactsIn (ρ.ext lSs_D.N [.int .i64 0]) lSs0_F:=by
  simp only [lSs0_F,FactsIn,X.bool,X.den,denL,dX,denSub,denIte,asB,dY,sals_len,sals_cell,sals_lsub,hds_len,hds_cell,hds_lsub,hds_snocN,hds_snoc0N,snoc_nil,heads_len,v100,Option.some.injEq,Value.bool.injEq,decide_eq_false_iff_not,and_true]
  omega
 suffices both : AsksL (ρ.ext lSs_D.N [.int .i64 0]) (lSs0_t.asks lSs0_F)∧WaysOk lSs_D ρ (lSs_Inv l) (lSs_mu l) 0 [.int .i64 0] lSs0_l from step_of_ways (lSs0_w _) hF both.1.ok both.2
 cases hp : l[0]? with
 | none =>
   have hge:=List.getElem?_eq_none_iff.1 hp
   have hge' : ¬ ((0 : Int) < l.length):=by omega
   refine ⟨?_,?_⟩
   ·simp only [lSs0_t,qVA17,qVA16,qVA15,qVA14,qVA13,qVA12,qVA11,qVA10,qVA9,qVA8,qVA7,qVA6,qVA5,qVA4,qVA3,qVA2,qVA1,qVA0,lSs0_F,AsksL,GTree.asks,FTree.asks,FactsIn,List.append_nil,List.nil_append,List.cons_append,Option.some.injEq,exists_eq',implies_true,and_self,X.bool,X.den,denL,dX,denSub,denIte,asB,dY,sals_len,sals_cell,sals_lsub,hds_len,hds_cell,hds_lsub,hds_snocN,hds_snoc0N,snoc_nil,heads_len,v1,v100,vs,sym23,sym180,Int.toNat_natCast,hp,hge']
    try simp
   ·simp only [lSs0_l,qVA17,qVA16,qVA15,qVA14,qVA13,qVA12,qVA11,qVA10,qVA9,qVA8,qVA7,qVA6,qVA5,qVA4,qVA3,qVA2,qVA1,qVA0,EndsOk,WaysOk,forall_cons,forall_nil,TgtOk,gpair,FactsIn,hold_cons,hold_nil,Option.some.injEq,dZ,X.bool,X.den,denL,dX,denSub,denIte,asB,dY,beq_iff_eq,beq_eq_false_iff_ne,ne_eq,sals_len,sals_cell,sals_lsub,hds_len,hds_cell,hds_lsub,hds_snocN,hds_snoc0N,snoc_nil,heads_len,beq_iff_eq,beq_eq_false_iff_ne,ne_eq,v1,v100,vs,h1,hsy,sym23,sym180,Int.toNat_natCast,hp,hge',reduceCtorEq,Bool.false_eq_true,false_implies,implies_true,true_implies,and_self,and_true,true_and]
    skip
    skip
    try simp
 | some x =>
   have hil : 0 < l.length:=(List.getElem?_eq_some_iff.1 hp).1
   have hil1 : (0 : Int) < l.length:=by omega
   have hw : IntKind.i64.wrap ((0 : Int) + 1) = 1:=by rw [IntWalk.i64_in _ (by omega)]; rfl
   have hnext : headsOf (l.take (0 + 1)) = headsOf (l.take 0) ++ [⟨x.id,x.known,x.of_⟩]:=by rw [List.take_add_one,hp]; exact heads_snoc _ x
   have htl : (l.take 0).length = 0:=by rw [List.length_take]; omega
   have go : ∃ vals',((match (ρ.ext lSs_D.N vals').val 101 with | some v => den1 .len v | none => none) = some (.int .i64 (1))∧(ρ.ext lSs_D.N vals').val 100 = some (.int .i64 (1))∧(ρ.ext lSs_D.N vals').val 101 = some (hdsR [⟨x.id,x.known,x.of_⟩]))∧lSs_Inv l 1 vals'∧lSs_mu l 1 vals' < lSs_mu l 0 [.int .i64 0]:=by
    have e101 : (ρ.ext lSs_D.N [.int .i64 ((0 + 1 : Nat) : Int),hdsR (headsOf (l.take (0 + 1)))]).val 101 = some (hdsR (headsOf (l.take (0 + 1)))):=by rw [ext_high _ _ _ _ (by rw [hN]; omega)]; rfl
    refine ⟨[.int .i64 ((0 + 1 : Nat) : Int),hdsR (headsOf (l.take (0 + 1)))],⟨?_,?_,?_⟩,⟨0 + 1,by omega,.inr ⟨rfl,by omega,rfl⟩⟩,by simp [lSs_mu,vI]; omega⟩
    ·rw [e101,hnext]
     refine (hds_len _).trans ?_
     simp [headsOf]
    ·rw [ext_high _ _ _ _ (by rw [hN]; omega)]; rfl
    ·rw [e101,hnext]; rfl
   refine ⟨?_,?_⟩
   all_goals (simp only [lSs0_t,qVA17,qVA16,qVA15,qVA14,qVA13,qVA12,qVA11,qVA10,qVA9,qVA8,qVA7,qVA6,qVA5,qVA4,qVA3,qVA2,qVA1,qVA0,lSs0_F,lSs0_l,AsksL,GTree.asks,FTree.asks,FactsIn,List.append_nil,List.nil_append,List.cons_append,Option.some.injEq,exists_eq',implies_true,and_self,X.bool,X.den,denL,dX,denSub,denIte,asB,dY,sals_len,sals_cell,sals_lsub,hds_len,hds_cell,hds_lsub,hds_snocN,hds_snoc0N,snoc_nil,heads_len,EndsOk,WaysOk,forall_cons,forall_nil,TgtOk,gpair,FactsIn,hold_cons,hold_nil,Option.some.injEq,dZ,X.bool,X.den,denL,dX,denSub,denIte,asB,dY,beq_iff_eq,beq_eq_false_iff_ne,ne_eq,sals_len,sals_cell,sals_lsub,hds_len,hds_cell,hds_lsub,hds_snocN,hds_snoc0N,snoc_nil,heads_len,beq_iff_eq,beq_eq_false_iff_ne,ne_eq,v1,v100,vs,h1,hsy,sym23,sym180,Int.toNat_natCast,Int.toNat_zero,hp,Option.bind_some,sal0,sal1,sal2,sal3,sal4,sal5,sal6,sal7,sal8,hil1,hw,reduceCtorEq,Bool.false_eq_true,false_implies,implies_true,true_implies,and_self,and_true,true_and])
   all_goals (clear v1 v100 vs h1 hsy hF)
   all_goals ((repeat' apply And.intro) <;> intros <;> first
    | trivial
    | exact go
    | (exfalso; omega)
    | (simp_all; done)
    | (simp; omega))
set_option maxHeartbeats 1000000 in
theorem lSs_step1 {ρ : Rho} {l : List Sal9} (h1 : ρ.val 1 = some (salsR l)) (hsy : ρ.sym = sy) (hsh : shortB l = true) {i : Nat} (hi : i≤l.length) (hi1 : 1≤i) : StepOk lSs_D lSs_run E0 ρ (lSs_Inv l) (lSs_mu l) 1 [.int .i64 (i : Int),hdsR (headsOf (l.take i))]:=by
 have hN : lSs_D.N = 100:=rfl
 have hmax:=short_len hsh
 have v1 : (ρ.ext lSs_D.N [.int .i64 (i : Int),hdsR (headsOf (l.take i))]).val 1 = some (salsR l):=by rw [ext_low _ _ _ _ (by rw [hN]; omega)]; exact h1
 have v100 : (ρ.ext lSs_D.N [.int .i64 (i : Int),hdsR (headsOf (l.take i))]).val 100 = some (.int .i64 (i : Int)):=by rw [ext_high _ _ _ _ (by rw [hN]; omega)]; rfl
 have v101 : (ρ.ext lSs_D.N [.int .i64 (i : Int),hdsR (headsOf (l.take i))]).val 101 = some (hdsR (headsOf (l.take i))):=by rw [ext_high _ _ _ _ (by rw [hN]; omega)]; rfl
 have vs : (ρ.ext lSs_D.N [.int .i64 (i : Int),hdsR (headsOf (l.take i))]).sym = sy:=hsy
 have hF : FactsIn (ρ.ext lSs_D.N [.int .i64 (i : Int),hdsR (headsOf (l.take i))]) lSs1_F:=by
  simp only [lSs1_F,FactsIn,X.bool,X.den,denL,dX,denSub,denIte,asB,dY,sals_len,sals_cell,sals_lsub,hds_len,hds_cell,hds_lsub,hds_snocN,hds_snoc0N,snoc_nil,heads_len,v100,Option.some.injEq,Value.bool.injEq,decide_eq_false_iff_not,and_true]
  omega
 suffices both : AsksL (ρ.ext lSs_D.N [.int .i64 (i : Int),hdsR (headsOf (l.take i))]) (lSs1_t.asks lSs1_F)∧WaysOk lSs_D ρ (lSs_Inv l) (lSs_mu l) 1 [.int .i64 (i : Int),hdsR (headsOf (l.take i))] lSs1_l from step_of_ways (lSs1_w _) hF both.1.ok both.2
 cases hp : l[i]? with
 | none =>
   have hge:=List.getElem?_eq_none_iff.1 hp
   have hge' : ¬ ((i : Int) < l.length):=by omega
   refine ⟨?_,?_⟩
   ·simp only [lSs1_t,qVA17,qVA16,qVA15,qVA14,qVA13,qVA12,qVA11,qVA10,qVA9,qVA8,qVA7,qVA6,qVA5,qVA4,qVA3,qVA2,qVA1,qVA0,lSs1_F,AsksL,GTree.asks,FTree.asks,FactsIn,List.append_nil,List.nil_append,List.cons_append,Option.some.injEq,exists_eq',implies_true,and_self,X.bool,X.den,denL,dX,denSub,denIte,asB,dY,sals_len,sals_cell,sals_lsub,hds_len,hds_cell,hds_lsub,hds_snocN,hds_snoc0N,snoc_nil,heads_len,v1,v100,v101,vs,sym23,sym180,Int.toNat_natCast,hp,hge']
    try simp
   ·simp only [lSs1_l,qVA17,qVA16,qVA15,qVA14,qVA13,qVA12,qVA11,qVA10,qVA9,qVA8,qVA7,qVA6,qVA5,qVA4,qVA3,qVA2,qVA1,qVA0,EndsOk,WaysOk,forall_cons,forall_nil,TgtOk,gpair,FactsIn,hold_cons,hold_nil,Option.some.injEq,dZ,X.bool,X.den,denL,dX,denSub,denIte,asB,dY,beq_iff_eq,beq_eq_false_iff_ne,ne_eq,sals_len,sals_cell,sals_lsub,hds_len,hds_cell,hds_lsub,hds_snocN,hds_snoc0N,snoc_nil,heads_len,beq_iff_eq,beq_eq_false_iff_ne,ne_eq,v1,v100,v101,vs,h1,hsy,sym23,sym180,Int.toNat_natCast,hp,hge',reduceCtorEq,Bool.false_eq_true,false_implies,implies_true,true_implies,and_self,and_true,true_and]
    have hl : l.take i = l:=List.take_of_length_le hge
    have hlen : 0 < (l.length : Int):=by omega
    simp [hl]; omega
 | some x =>
   have hil : i < l.length:=(List.getElem?_eq_some_iff.1 hp).1
   have hil1 : (i : Int) < l.length:=by omega
   have hw : IntKind.i64.wrap ((i : Int) + 1) = ((i + 1 : Nat) : Int):=by rw [IntWalk.i64_in _ (by omega)]; rfl
   have hnext : headsOf (l.take (i + 1)) = headsOf (l.take i) ++ [⟨x.id,x.known,x.of_⟩]:=by rw [List.take_add_one,hp]; exact heads_snoc _ x
   have htl : (l.take i).length = i:=by rw [List.length_take]; omega
   have go : ∃ vals',((match (ρ.ext lSs_D.N vals').val 101 with | some v => den1 .len v | none => none) = some (.int .i64 (((l.take i).length : Int) + 1))∧(ρ.ext lSs_D.N vals').val 100 = some (.int .i64 (((i + 1 : Nat) : Int)))∧(ρ.ext lSs_D.N vals').val 101 = some (hdsR (headsOf (l.take i) ++ [⟨x.id,x.known,x.of_⟩])))∧lSs_Inv l 1 vals'∧lSs_mu l 1 vals' < lSs_mu l 1 [.int .i64 (i : Int),hdsR (headsOf (l.take i))]:=by
    have e101 : (ρ.ext lSs_D.N [.int .i64 ((i + 1 : Nat) : Int),hdsR (headsOf (l.take (i + 1)))]).val 101 = some (hdsR (headsOf (l.take (i + 1)))):=by rw [ext_high _ _ _ _ (by rw [hN]; omega)]; rfl
    refine ⟨[.int .i64 ((i + 1 : Nat) : Int),hdsR (headsOf (l.take (i + 1)))],⟨?_,?_,?_⟩,⟨i + 1,by omega,.inr ⟨rfl,by omega,rfl⟩⟩,by simp [lSs_mu,vI]; omega⟩
    ·rw [e101,hnext]
     refine (hds_len _).trans ?_
     simp [headsOf]
    ·rw [ext_high _ _ _ _ (by rw [hN]; omega)]; rfl
    ·rw [e101,hnext]
   refine ⟨?_,?_⟩
   all_goals (simp only [lSs1_t,qVA17,qVA16,qVA15,qVA14,qVA13,qVA12,qVA11,qVA10,qVA9,qVA8,qVA7,qVA6,qVA5,qVA4,qVA3,qVA2,qVA1,qVA0,lSs1_F,lSs1_l,AsksL,GTree.asks,FTree.asks,FactsIn,List.append_nil,List.nil_append,List.cons_append,Option.some.injEq,exists_eq',implies_true,and_self,X.bool,X.den,denL,dX,denSub,denIte,asB,dY,sals_len,sals_cell,sals_lsub,hds_len,hds_cell,hds_lsub,hds_snocN,hds_snoc0N,snoc_nil,heads_len,EndsOk,WaysOk,forall_cons,forall_nil,TgtOk,gpair,FactsIn,hold_cons,hold_nil,Option.some.injEq,dZ,X.bool,X.den,denL,dX,denSub,denIte,asB,dY,beq_iff_eq,beq_eq_false_iff_ne,ne_eq,sals_len,sals_cell,sals_lsub,hds_len,hds_cell,hds_lsub,hds_snocN,hds_snoc0N,snoc_nil,heads_len,beq_iff_eq,beq_eq_false_iff_ne,ne_eq,v1,v100,v101,vs,h1,hsy,sym23,sym180,Int.toNat_natCast,Int.toNat_zero,hp,Option.bind_some,sal0,sal1,sal2,sal3,sal4,sal5,sal6,sal7,sal8,hil1,hw,reduceCtorEq,Bool.false_eq_true,false_implies,implies_true,true_implies,and_self,and_true,true_and])
   all_goals (clear v1 v100 v101 vs h1 hsy hF)
   all_goals ((repeat' apply And.intro) <;> intros <;> first
    | trivial
    | exact go
    | (exfalso; omega)
    | (simp_all; done)
    | (simp; omega))
theorem lSs_step {ρ : Rho} {l : List Sal9} (h1 : ρ.val 1 = some (salsR l)) (hsy : ρ.sym = sy) (hsh : shortB l = true) (j : Nat) (vals : List Value) (hI : lSs_Inv l j vals) : StepOk lSs_D lSs_run E0 ρ (lSs_Inv l) (lSs_mu l) j vals:=by
 obtain ⟨i,hi,⟨rfl,rfl,rfl⟩ | ⟨rfl,hi1,rfl⟩⟩:=hI
 ·exact lSs_step0 h1 hsy hsh
 ·exact lSs_step1 h1 hsy hsh hi hi1
noncomputable def rSsN_con : Con:={ f:=30,args:=[salsArg 0 0],N:=1,M:=1,pre:=[(.op2 .lt (.num 0) (.op1 .len (.var 1)),false)],out:=.nilslice,news:=[] }
noncomputable def rSsN_call : Env→CallL:=fun E => acallAll E (evH E (noL E) ((fun _ => noLoops) E) 6)
noncomputable def rSsN_t : GTree:=(.leaf [[]])
noncomputable def rSsN_l : List (List (X×Bool)×Option Pairs):=[([(.op2 .lt (.num 0) (.op1 .len (.var 1)),false)],some [])]
theorem rSsN_w (r : Rho) : rSsN_con.fn.ways rSsN_call E0 r rSsN_con.pre rSsN_t = some rSsN_l:=by kernel_rfl
theorem rSsN_cok : rSsN_con.Ok Tryz.prog sy:=by
 intro r σ w us hsy hρ hpre hrel hins
 obtain ⟨l,h1⟩:=sals_open hrel rfl hρ
 refine con_of (E:=E0) E0_ok E0_glob (sy:=sy) (fun F => noL_ok F hsy) (fun F => noH_ok) (rSsN_w r) hρ hpre hrel hins ?_ ?_
 ·simp only [rSsN_con,rSsN_t,qVA17,qVA16,qVA15,qVA14,qVA13,qVA12,qVA11,qVA10,qVA9,qVA8,qVA7,qVA6,qVA5,qVA4,qVA3,qVA2,qVA1,qVA0,AsksL,GTree.asks,FTree.asks,FactsIn,List.append_nil,List.nil_append,List.cons_append,Option.some.injEq,exists_eq',implies_true,and_self,X.bool,X.den,denL,dX,denSub,denIte,asB,dY,sals_len,sals_cell,sals_lsub,hds_len,hds_cell,hds_lsub,hds_snocN,hds_snoc0N,snoc_nil,heads_len,h1,hsy,sym23,sym180]
  try simp
 ·simp only [rSsN_l,qVA17,qVA16,qVA15,qVA14,qVA13,qVA12,qVA11,qVA10,qVA9,qVA8,qVA7,qVA6,qVA5,qVA4,qVA3,qVA2,qVA1,qVA0,EndsOk,WaysOk,forall_cons,forall_nil,TgtOk,gpair,FactsIn,hold_cons,hold_nil,Option.some.injEq,dZ,X.bool,X.den,denL,dX,denSub,denIte,asB,dY,beq_iff_eq,beq_eq_false_iff_ne,ne_eq,sals_len,sals_cell,sals_lsub,hds_len,hds_cell,hds_lsub,hds_snocN,hds_snoc0N,snoc_nil,heads_len,beq_iff_eq,beq_eq_false_iff_ne,ne_eq,h1,hsy,sym23,sym180]
  try simp
noncomputable def rSsY_con : Con:={ f:=30,args:=[salsArg 0 0],N:=1,M:=2,pre:=[(.app 23 [.var 1],true),(.op2 .lt (.num 0) (.op1 .len (.var 1)),true)],out:=.slo 1 3 (.op1 .len (.app 180 [.var 1])),news:=[(1,.rows 3 hdSch (.num 0) (.app 180 [.var 1]) true 78)] }
noncomputable def rSsY_call : Env→CallL:=fun E => acallAll E (evH E (noL E) ((fun E => oneH 30 (hooks [(3,lSs_D.hook E.facts rss_vs)])) E) 9)
noncomputable def rSsY_t : GTree:=(.leaf [[(1,110)]])
noncomputable def rSsY_l : List (List (X×Bool)×Option Pairs):=[([(.app 23 [.var 1],true),(.op2 .lt (.num 0) (.op1 .len (.var 1)),true)],some [(.op1 .len (.app 180 [.var 1]),.op1 .len (.app 180 [.var 1])),(.app 180 [.var 1],.app 180 [.var 1])])]
theorem rSsY_w (r : Rho) : rSsY_con.fn.ways rSsY_call E0 r rSsY_con.pre rSsY_t = some rSsY_l:=by kernel_rfl
theorem lSs_H {ρ : Rho} {l : List Sal9} (h1 : ρ.val 1 = some (salsR l)) (hsy : ρ.sym = sy) (hsh : shortB l = true) (F : List (X×Bool)) : LoopsOk (E0.with F ρ) (oneH 30 (hooks [(3,lSs_D.hook (E0.with F ρ).facts rss_vs)])):=by
 refine loops_all (n:=1) (fun f fn h => h) (by kernel_rfl) fun i hi => ?_
 obtain rfl : i = 0:=by omega
 rw [hooks_hit (show keyOf (loopAt (E0.with F ρ).P 30 0) = 3 by kernel_rfl)]
 refine hook_ok (E₀:=E0) (run:=lSs_run) (ρ:=ρ) (Inv:=lSs_Inv l) (μ:=lSs_mu l) E0_ok lSs_ok (fun F r' h => ?_) (fun hp => ⟨lSs_step h1 hsy hsh,[.int .i64 0],?_,0,Nat.zero_le _,.inl ⟨rfl,rfl,rfl⟩⟩)
 ·exact bodyRun_ok E0_ok (noL_ok F (h.trans hsy)) fun _ _ => noLoop_ok
 ·simp only [rss_vs,X.bool,X.den,denL,dX,denSub,denIte,asB,dY,sals_len,sals_cell,sals_lsub,hds_len,hds_cell,hds_lsub,hds_snocN,hds_snoc0N,snoc_nil,heads_len]
theorem rSsY_cok : rSsY_con.Ok Tryz.prog sy:=by
 intro r σ w us hsy hρ hpre hrel hins
 obtain ⟨l,h1⟩:=sals_open hrel rfl hρ
 have hsh : shortB l = true:=by
  have:=hpre.1
  simpa only [X.bool,X.den,denL,dX,denSub,denIte,asB,dY,sals_len,sals_cell,sals_lsub,hds_len,hds_cell,hds_lsub,hds_snocN,hds_snoc0N,snoc_nil,heads_len,h1,hsy,sym23,Option.some.injEq,Value.bool.injEq] using this
 have hne : 0 < (l.length : Int):=by
  have:=hpre.2.1
  simpa only [X.bool,X.den,denL,dX,denSub,denIte,asB,dY,sals_len,sals_cell,sals_lsub,hds_len,hds_cell,hds_lsub,hds_snocN,hds_snoc0N,snoc_nil,heads_len,h1,Option.some.injEq,Value.bool.injEq,decide_eq_true_eq] using this
 refine con_of (E:=E0) E0_ok E0_glob (sy:=sy) (fun F => noL_ok F hsy) (fun F => lSs_H h1 hsy hsh F) (rSsY_w r) hρ hpre hrel hins ?_ ?_
 ·simp only [rSsY_con,rSsY_t,qVA17,qVA16,qVA15,qVA14,qVA13,qVA12,qVA11,qVA10,qVA9,qVA8,qVA7,qVA6,qVA5,qVA4,qVA3,qVA2,qVA1,qVA0,AsksL,GTree.asks,FTree.asks,FactsIn,List.append_nil,List.nil_append,List.cons_append,Option.some.injEq,exists_eq',implies_true,and_self,X.bool,X.den,denL,dX,denSub,denIte,asB,dY,sals_len,sals_cell,sals_lsub,hds_len,hds_cell,hds_lsub,hds_snocN,hds_snoc0N,snoc_nil,heads_len,h1,hsy,sym23,sym180]
  try simp
 ·simp only [rSsY_l,qVA17,qVA16,qVA15,qVA14,qVA13,qVA12,qVA11,qVA10,qVA9,qVA8,qVA7,qVA6,qVA5,qVA4,qVA3,qVA2,qVA1,qVA0,EndsOk,WaysOk,forall_cons,forall_nil,TgtOk,gpair,FactsIn,hold_cons,hold_nil,Option.some.injEq,dZ,X.bool,X.den,denL,dX,denSub,denIte,asB,dY,beq_iff_eq,beq_eq_false_iff_ne,ne_eq,sals_len,sals_cell,sals_lsub,hds_len,hds_cell,hds_lsub,hds_snocN,hds_snoc0N,snoc_nil,heads_len,beq_iff_eq,beq_eq_false_iff_ne,ne_eq,h1,hsy,sym23,sym180]
  try simp [hne]
  try omega
end Go.Proofs.YtckefonlahokkaaGreatDoor.Zs
