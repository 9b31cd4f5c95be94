/-
  Contracts of the reference: SaleOf.
-/
import Derived.Test.YtckefonlahokkaaGreatDoorVaRefC
import Derived.KernelRfl
set_option linter.unusedSimpArgs false
set_option linter.unusedVariables false
namespace Go.Proofs.YtckefonlahokkaaGreatDoor.Zs
open Go
noncomputable def RD : Env→CallE:=libs [cLib rCks_con,cLib rSsN_con,cLib rSsY_con,cLib rCt_con]
theorem RD_ok (F : List (X×Bool)) {r : Rho} (h : r.sym = sy) : CallsOk (E0.with F r) (RD (E0.with F r)):=libs_ok fun c hc => by
 simp only [List.mem_cons,List.not_mem_nil,or_false] at hc
 rcases hc with rfl | rfl | rfl | rfl
 ·exact lib_ok (E:=E0) rCks_cok F h
 ·exact lib_ok (E:=E0) rSsN_cok F h
 ·exact lib_ok (E:=E0) rSsY_cok F h
 ·exact lib_ok (E:=E0) rCt_cok F h
def rso_vs : List X:=[.num 0]
noncomputable def lRs_D : LoopD:={ N:=100,M:=101,size:=sizeOfF 8,reads:=[(0,.rows 9 salSch (.var 0) (.var 1) false 27),(2,.rows 3 hdSch (.num 0) (.app 180 [.var 1]) true 78)],pats:=[{ slots:=[(0,.slx 0 9 (.var 0) (.num 0) (.op1 .len (.var 1)) (.var 2)),(1,.sint .i64 (.var 3)),(2,.sint .i64 (.var 4)),(6,.ptr 1 0),(10,.slo 2 3 (.op1 .len (.app 180 [.var 1]))),(11,.sint .i64 (.var 100))],heap:=[(1,.cells [.int .i64 0,.int .i64 0,.int .i64 0,.int .i64 0,.int .i64 0,.int .i64 0,.int .i64 0,.int .i64 0,.int .i64 0] 27)] }],exits:=[(.exit 0,{ slots:=[(6,.ptr 1 0)],heap:=[(1,.cells [.int .i64 0,.int .i64 0,.int .i64 0,.int .i64 0,.int .i64 0,.int .i64 0,.int .i64 0,.int .i64 0,.int .i64 0] 27)],guard:=.op1 .not (.app 169 [.var 1,.var 3,.var 4]) }),(.ret,{ slots:=[(6,.ptr 1 0),(7,.int .i64 0)],heap:=[(1,.cells [.sint .i64 (.app 170 [.var 1,.var 3,.var 4,.num 0]),.sint .i64 (.app 170 [.var 1,.var 3,.var 4,.num 1]),.sint .i64 (.app 170 [.var 1,.var 3,.var 4,.num 2]),.sint .i64 (.app 170 [.var 1,.var 3,.var 4,.num 3]),.sint .i64 (.app 170 [.var 1,.var 3,.var 4,.num 4]),.sint .i64 (.app 170 [.var 1,.var 3,.var 4,.num 5]),.sint .i64 (.app 170 [.var 1,.var 3,.var 4,.num 6]),.sint .i64 (.app 170 [.var 1,.var 3,.var 4,.num 7]),.sint .i64 (.app 170 [.var 1,.var 3,.var 4,.num 8])] 27)],guard:=.app 169 [.var 1,.var 3,.var 4] })],own:=[1],pre:=[(.app 23 [.var 1],true),(.op2 .eq (.app 164 [.var 1]) (.num 0),true)],dfs:=[] }
noncomputable def lRs_run : Env→AF→ASt→Option (List Out):=bodyRun RD 9 (fun _ => noLoop) (loopAt Tryz.prog 8 0)
def lRs0_F : List (X×Bool):=[(.op2 .lt (.var 100) (.num 0),false),(.app 23 [.var 1],true),(.op2 .eq (.app 164 [.var 1]) (.num 0),true)]
def qVD0 : X:=.op2 .eq (.app 164 [(.var 1)]) (.num 0)
def qVD1 : X:=.app 182 [(.app 180 [(.var 1)]),(.cell 0 (.app 180 [(.var 1)]) (.var 100)),(.cell 1 (.app 180 [(.var 1)]) (.var 100)),(.cell 2 (.app 180 [(.var 1)]) (.var 100)),(.var 4)]
def qVD2 : X:=.op1 .len (.app 180 [(.var 1)])
def qVD3 : X:=.op2 .lt (.var 100) (.op1 .len (.var 1))
def qVD4 : X:=.op2 .eq (.cell 3 (.var 1) (.var 100)) (.var 3)
def qVD5 : X:=.app 169 [(.var 1),(.var 3),(.var 4)]
def qVD6 : X:=.op2 .lt (.num 0) (.op1 .len (.var 1))
def qVD7 : X:=.app 23 [(.var 1)]
def qVD8 : X:=.op2 .lt (.var 100) (.num 0)
noncomputable def lRs0_t : FTree:=(.fork qVD3 (.fork qVD4 (.fork (.op2 .lt (.var 100) qVD2) (.fork (.op2 .lt (.num 1010) qVD2) .bad (.fork qVD1 (.leaf [.leave 1 []]) (.leaf [.again 0 []]))) .bad) (.leaf [.again 0 []])) (.leaf [.leave 0 []]))
noncomputable def lRs0_l : List (List (X×Bool)×Option (List (Tgt×Pairs))):=[([(.op2 .lt (.num 1010) qVD2,true),(.op2 .lt (.var 100) qVD2,true),(qVD4,true),(qVD3,true),(qVD8,false),(qVD7,true),(qVD0,true)],none),
 ([(qVD1,true),(.op2 .lt (.num 1010) qVD2,false),(.op2 .lt (.var 100) qVD2,true),(qVD4,true),(qVD3,true),(qVD8,false),(qVD7,true),(qVD0,true)],some [(.leave 1 [],[(.app 170 [.var 1,.var 3,.var 4,.num 0],.cell 0 (.var 1) (.var 100)),(.app 170 [.var 1,.var 3,.var 4,.num 1],.cell 1 (.var 1) (.var 100)),(.app 170 [.var 1,.var 3,.var 4,.num 2],.cell 2 (.var 1) (.var 100)),(.app 170 [.var 1,.var 3,.var 4,.num 3],.cell 3 (.var 1) (.var 100)),(.app 170 [.var 1,.var 3,.var 4,.num 4],.cell 4 (.var 1) (.var 100)),(.app 170 [.var 1,.var 3,.var 4,.num 5],.cell 5 (.var 1) (.var 100)),(.app 170 [.var 1,.var 3,.var 4,.num 6],.cell 6 (.var 1) (.var 100)),(.app 170 [.var 1,.var 3,.var 4,.num 7],.cell 7 (.var 1) (.var 100)),(.app 170 [.var 1,.var 3,.var 4,.num 8],.cell 8 (.var 1) (.var 100)),(qVD5,.boo true)])]),
 ([(qVD1,false),(.op2 .lt (.num 1010) qVD2,false),(.op2 .lt (.var 100) qVD2,true),(qVD4,true),(qVD3,true),(qVD8,false),(qVD7,true),(qVD0,true)],some [(.again 0 [],[(.var 100,.op1 (.wrap .i64) (.op2 .add (.var 100) (.num 1)))])]),
 ([(.op2 .lt (.var 100) qVD2,false),(qVD4,true),(qVD3,true),(qVD8,false),(qVD7,true),(qVD0,true)],none),
 ([(qVD4,false),(qVD3,true),(qVD8,false),(qVD7,true),(qVD0,true)],some [(.again 0 [],[(.var 100,.op1 (.wrap .i64) (.op2 .add (.var 100) (.num 1)))])]),
 ([(qVD3,false),(qVD8,false),(qVD7,true),(qVD0,true)],some [(.leave 0 [],[(.op1 .not qVD5,.boo true)])])]
theorem lRs0_w (r : Rho) : lRs_D.ways lRs_run E0 r 0 lRs0_F lRs0_t = some lRs0_l:=by kernel_rfl
theorem lRs_ok : lRs_D.ok = true:=by kernel_rfl
def lRs_Inv (l : List Sal9) (p K : Int) (j : Nat) (vals : List Value) : Prop:=j = 0∧∃ i : Nat,i≤l.length∧vals = [.int .i64 (i : Int)]∧noSale l p K i
def lRs_mu (l : List Sal9) (_ : Nat) (vals : List Value) : Nat:=l.length - (vI (vals.getD 0 default)).toNat
set_option maxHeartbeats 2000000 in
theorem lRs_step {ρ : Rho} {l : List Sal9} {p K : Int} {k3 k4 : IntKind} (h1 : ρ.val 1 = some (salsR l)) (h3 : ρ.val 3 = some (.int k3 p)) (h4 : ρ.val 4 = some (.int k4 K)) (hsy : ρ.sym = sy) (hsh : shortB l = true) (hok : chkE l = 0) (j : Nat) (vals : List Value) (hI : lRs_Inv l p K j vals) : StepOk lRs_D lRs_run E0 ρ (lRs_Inv l p K) (lRs_mu l) j vals:=by
 obtain ⟨rfl,i,hi,rfl,hno⟩:=hI
 have hN : lRs_D.N = 100:=rfl
 have hmax:=short_len hsh
 have v1 : (ρ.ext lRs_D.N [.int .i64 (i : Int)]).val 1 = some (salsR l):=by rw [ext_low _ _ _ _ (by rw [hN]; omega)]; exact h1
 have v3 : (ρ.ext lRs_D.N [.int .i64 (i : Int)]).val 3 = some (.int k3 p):=by rw [ext_low _ _ _ _ (by rw [hN]; omega)]; exact h3
 have v4 : (ρ.ext lRs_D.N [.int .i64 (i : Int)]).val 4 = some (.int k4 K):=by rw [ext_low _ _ _ _ (by rw [hN]; omega)]; exact h4
 have v100 : (ρ.ext lRs_D.N [.int .i64 (i : Int)]).val 100 = some (.int .i64 (i : Int)):=by rw [ext_high _ _ _ _ (by rw [hN]; omega)]; rfl
 have vs : (ρ.ext lRs_D.N [.int .i64 (i : Int)]).sym = sy:=hsy
 have hF : FactsIn (ρ.ext lRs_D.N [.int .i64 (i : Int)]) lRs0_F:=by
  simp only [lRs0_F,FactsIn,X.bool,X.den,denL,dX,denSub,denIte,asB,dY,sals_len,sals_cell,sals_lsub,hds_len,hds_cell,hds_lsub,hds_snocN,hds_snoc0N,snoc_nil,heads_len,v1,v100,vs,sym23,sym164,hsh,hok,Option.some.injEq,Value.bool.injEq,decide_eq_false_iff_not,and_true,beq_self_eq_true,true_and]
  omega
 suffices both : AsksL (ρ.ext lRs_D.N [.int .i64 (i : Int)]) (lRs0_t.asks lRs0_F)∧WaysOk lRs_D ρ (lRs_Inv l p K) (lRs_mu l) 0 [.int .i64 (i : Int)] lRs0_l from step_of_ways (lRs0_w _) hF both.1.ok both.2
 cases hp : l[i]? with
 | none =>
   have hge:=List.getElem?_eq_none_iff.1 hp
   have hge' : ¬ (i : Int) < l.length:=by omega
   obtain rfl : i = l.length:=by omega
   have hsa:=sale_none hno
   refine ⟨?_,?_⟩
   ·simp only [lRs0_t,qVD8,qVD7,qVD6,qVD5,qVD4,qVD3,qVD2,qVD1,qVD0,lRs0_F,AsksL,GTree.asks,FTree.asks,FactsIn,List.append_nil,List.nil_append,List.cons_append,Option.some.injEq,exists_eq',implies_true,and_self,X.bool,X.den,denL,dX,denSub,denIte,asB,dY,sals_len,sals_cell,sals_lsub,hds_len,hds_cell,hds_lsub,hds_snocN,hds_snoc0N,snoc_nil,heads_len,v1,v3,v4,v100,vs,sym23,sym164,sym165,sym169,sym170,sym180,sym182,hsh,hok,Int.toNat_natCast,hp,hge']
    try simp
   ·simp only [lRs0_l,qVD8,qVD7,qVD6,qVD5,qVD4,qVD3,qVD2,qVD1,qVD0,EndsOk,WaysOk,forall_cons,forall_nil,TgtOk,gpair,FactsIn,hold_cons,hold_nil,Option.some.injEq,dZ,X.bool,X.den,denL,dX,denSub,denIte,asB,dY,beq_iff_eq,beq_eq_false_iff_ne,ne_eq,sals_len,sals_cell,sals_lsub,hds_len,hds_cell,hds_lsub,hds_snocN,hds_snoc0N,snoc_nil,heads_len,beq_iff_eq,beq_eq_false_iff_ne,ne_eq,v1,v3,v4,v100,vs,h1,h3,h4,hsy,sym23,sym164,sym165,sym169,sym170,sym180,sym182,hsh,hok,Int.toNat_natCast,hp,hge',hsa,reduceCtorEq,Bool.false_eq_true,false_implies,implies_true,true_implies,and_self,and_true,true_and]
    try simp
 | some x =>
   have hil : i < l.length:=(List.getElem?_eq_some_iff.1 hp).1
   have hil1 : (i : Int) < l.length:=by omega
   have hw : IntKind.i64.wrap ((i : Int) + 1) = ((i + 1 : Nat) : Int):=by rw [IntWalk.i64_in _ (by omega)]; rfl
   have hAt : (headsOf l)[i]? = some ⟨x.id,x.known,x.of_⟩:=by rw [heads_at,hp]; rfl
   have hcH : cntH (headsOf l) x.id x.known x.of_ K = cntB l K x:=cntH_of l K (ids_pos (ok_of_chk hok) (List.mem_of_getElem? hp)).2
   have h10 : ¬ (1010 : Int) < l.length:=by omega
   have go : ¬ (cntB l K x = true∧x.parcel = p)→∃ vals',(ρ.ext lRs_D.N vals').val 100 = some (.int .i64 ((i + 1 : Nat) : Int))∧lRs_Inv l p K 0 vals'∧lRs_mu l 0 vals' < lRs_mu l 0 [.int .i64 (i : Int)]:=by
    intro hn
    refine ⟨[.int .i64 ((i + 1 : Nat) : Int)],?_,⟨rfl,i + 1,by omega,rfl,?_⟩,?_⟩
    ·rw [ext_high _ _ _ _ (by rw [hN]; omega)]; rfl
    ·intro y hy hc he
     rw [List.take_add_one,hp] at hy
     rcases List.mem_append.1 hy with hy | hy
     ·exact hno y hy hc he
     ·obtain rfl : y = x:=by simpa using hy
      exact hn ⟨hc,he⟩
    ·simp [lRs_mu,vI]; omega
   have hit : cntB l K x = true→x.parcel = p→saleAt l p K = some x:=fun a b => sale_some hp hno a b
   have hcell : cntB l K x = true→x.parcel = p→∀ j : Int,saleCell l p K j = x.row[j.toNat]?:=fun a b j => by unfold saleCell; rw [hit a b]; rfl
   refine ⟨?_,?_⟩
   all_goals (simp only [lRs0_t,qVD8,qVD7,qVD6,qVD5,qVD4,qVD3,qVD2,qVD1,qVD0,lRs0_F,lRs0_l,AsksL,GTree.asks,FTree.asks,FactsIn,List.append_nil,List.nil_append,List.cons_append,Option.some.injEq,exists_eq',implies_true,and_self,X.bool,X.den,denL,dX,denSub,denIte,asB,dY,sals_len,sals_cell,sals_lsub,hds_len,hds_cell,hds_lsub,hds_snocN,hds_snoc0N,snoc_nil,heads_len,EndsOk,WaysOk,forall_cons,forall_nil,TgtOk,gpair,FactsIn,hold_cons,hold_nil,Option.some.injEq,dZ,X.bool,X.den,denL,dX,denSub,denIte,asB,dY,beq_iff_eq,beq_eq_false_iff_ne,ne_eq,sals_len,sals_cell,sals_lsub,hds_len,hds_cell,hds_lsub,hds_snocN,hds_snoc0N,snoc_nil,heads_len,beq_iff_eq,beq_eq_false_iff_ne,ne_eq,v1,v3,v4,v100,vs,h1,h3,h4,hsy,sym23,sym164,sym165,sym169,sym170,sym180,sym182,hsh,hok,Int.toNat_natCast,hp,hAt,hcH,h10,Option.bind_some,sal0,sal1,sal2,sal3,sal4,sal5,sal6,sal7,sal8,hd0,hd1,hd2,hil1,hw,reduceCtorEq,Bool.false_eq_true,false_implies,implies_true,true_implies,and_self,and_true,true_and])
   all_goals (clear v1 v3 v4 v100 vs h1 h3 h4 hsy hF)
   all_goals ((repeat' apply And.intro) <;> intros <;> first
    | trivial
    | contradiction
    | (exact go (by simp_all))
    | (have hcn : cntB l K x = true:=by assumption
       have hpx : x.parcel = p:=by assumption
       have hcc:=hcell hcn hpx
       have hii:=hit hcn hpx
       (repeat' apply And.intro) <;> first | (rw [hcc]; rfl) | (rw [hii]; rfl))
    | (exfalso; omega)
    | (simp_all; done))
noncomputable def rSoE_con : Con:={ f:=8,args:=[salsArg 0 0,.one (.int .i64 3),.one (.int .i64 4)],N:=1,M:=1,pre:=[(.app 23 [.var 1],true),(.op2 .eq (.app 164 [.var 1]) (.num 0),false)],out:=.tuple [.agg [.int .i64 0,.int .i64 0,.int .i64 0,.int .i64 0,.int .i64 0,.int .i64 0,.int .i64 0,.int .i64 0,.int .i64 0],.sint .i64 (.app 164 [.var 1])],news:=[] }
noncomputable def rSoE_call : Env→CallL:=fun E => acallAll E (evH E (RD E) ((fun _ => noLoops) E) 12)
noncomputable def rSoE_t : GTree:=(.leaf [[]])
noncomputable def rSoE_l : List (List (X×Bool)×Option Pairs):=[([(qVD7,true),(qVD0,false)],some [(.app 164 [.var 1],.app 164 [.var 1])])]
theorem rSoE_w (r : Rho) : rSoE_con.fn.ways rSoE_call E0 r rSoE_con.pre rSoE_t = some rSoE_l:=by kernel_rfl
theorem rSoE_cok : rSoE_con.Ok Tryz.prog sy:=by
 intro r σ w us hsy hρ hpre hrel hins
 obtain ⟨l,h1⟩:=sals_open hrel rfl hρ
 obtain ⟨u0,us,rfl,g0,hi⟩:=ins_cons hins
 obtain ⟨u1,us,rfl,g1,hi⟩:=ins_cons hi
 obtain ⟨u2,us,rfl,g2,hi⟩:=ins_cons hi
 obtain ⟨p,k3,rfl,h3⟩:=one_int g1
 obtain ⟨K,k4,rfl,h4⟩:=one_int g2
 rw [hρ] at h3 h4
 have hsh : shortB l = true:=by
  have:=hpre.1
  simpa only [X.bool,X.den,denL,dX,denSub,denIte,asB,dY,sals_len,sals_cell,sals_lsub,hds_len,hds_cell,hds_lsub,hds_snocN,hds_snoc0N,snoc_nil,heads_len,h1,hsy,sym23,Option.some.injEq,Value.bool.injEq] using this
 refine con_of (E:=E0) E0_ok E0_glob (sy:=sy) (fun F => RD_ok F hsy) (fun F => noH_ok) (rSoE_w r) hρ hpre hrel hins ?_ ?_
 ·simp only [rSoE_con,rSoE_t,qVD8,qVD7,qVD6,qVD5,qVD4,qVD3,qVD2,qVD1,qVD0,AsksL,GTree.asks,FTree.asks,FactsIn,List.append_nil,List.nil_append,List.cons_append,Option.some.injEq,exists_eq',implies_true,and_self,X.bool,X.den,denL,dX,denSub,denIte,asB,dY,sals_len,sals_cell,sals_lsub,hds_len,hds_cell,hds_lsub,hds_snocN,hds_snoc0N,snoc_nil,heads_len,h1,h3,h4,hsy,sym23,sym164,sym165,sym169,sym170,sym180,sym182]
  try simp
 ·simp only [rSoE_l,qVD8,qVD7,qVD6,qVD5,qVD4,qVD3,qVD2,qVD1,qVD0,EndsOk,WaysOk,forall_cons,forall_nil,TgtOk,gpair,FactsIn,hold_cons,hold_nil,Option.some.injEq,dZ,X.bool,X.den,denL,dX,denSub,denIte,asB,dY,beq_iff_eq,beq_eq_false_iff_ne,ne_eq,sals_len,sals_cell,sals_lsub,hds_len,hds_cell,hds_lsub,hds_snocN,hds_snoc0N,snoc_nil,heads_len,beq_iff_eq,beq_eq_false_iff_ne,ne_eq,h1,h3,h4,hsy,sym23,sym164,sym165,sym169,sym170,sym180,sym182]
  try simp
noncomputable def rSoN_con : Con:={ f:=8,args:=[salsArg 0 0,.one (.int .i64 3),.one (.int .i64 4)],N:=1,M:=1,pre:=[(.app 23 [.var 1],true),(.op2 .eq (.app 164 [.var 1]) (.num 0),true),(.app 169 [.var 1,.var 3,.var 4],false)],out:=.tuple [.agg [.int .i64 0,.int .i64 0,.int .i64 0,.int .i64 0,.int .i64 0,.int .i64 0,.int .i64 0,.int .i64 0,.int .i64 0],.int .i64 61],news:=[] }
noncomputable def rSoN_call : Env→CallL:=fun E => acallAll E (evH E (RD E) ((fun E => oneH 8 (hooks [(6,lRs_D.hook E.facts rso_vs)])) E) 12)
noncomputable def rSoN_t : GTree:=(.fork qVD6 (.leaf [[]]) (.leaf [[]]))
noncomputable def rSoN_l : List (List (X×Bool)×Option Pairs):=[([(qVD6,true),(qVD7,true),(qVD0,true),(qVD5,false)],some []),
 ([(qVD6,false),(qVD7,true),(qVD0,true),(qVD5,false)],some [])]
theorem rSoN_w (r : Rho) : rSoN_con.fn.ways rSoN_call E0 r rSoN_con.pre rSoN_t = some rSoN_l:=by kernel_rfl
theorem lRs_H {ρ : Rho} {l : List Sal9} {p K : Int} {k3 k4 : IntKind} (h1 : ρ.val 1 = some (salsR l)) (h3 : ρ.val 3 = some (.int k3 p)) (h4 : ρ.val 4 = some (.int k4 K)) (hsy : ρ.sym = sy) (hsh : shortB l = true) (hok : chkE l = 0) (F : List (X×Bool)) : LoopsOk (E0.with F ρ) (oneH 8 (hooks [(6,lRs_D.hook (E0.with F ρ).facts rso_vs)])):=by
 refine loops_all (n:=1) (fun f fn h => h) (by kernel_rfl) fun i hi => ?_
 obtain rfl : i = 0:=by omega
 rw [hooks_hit (show keyOf (loopAt (E0.with F ρ).P 8 0) = 6 by kernel_rfl)]
 refine hook_ok (E₀:=E0) (run:=lRs_run) (ρ:=ρ) (Inv:=lRs_Inv l p K) (μ:=lRs_mu l) E0_ok lRs_ok (fun F r' h => ?_) (fun hp => ⟨lRs_step h1 h3 h4 hsy hsh hok,[.int .i64 0],?_,rfl,0,Nat.zero_le _,rfl,fun x hx => by cases hx⟩)
 ·exact bodyRun_ok E0_ok (RD_ok F (h.trans hsy)) fun _ _ => noLoop_ok
 ·simp only [rso_vs,X.bool,X.den,denL,dX,denSub,denIte,asB,dY,sals_len,sals_cell,sals_lsub,hds_len,hds_cell,hds_lsub,hds_snocN,hds_snoc0N,snoc_nil,heads_len]
theorem rSoN_cok : rSoN_con.Ok Tryz.prog sy:=by
 intro r σ w us hsy hρ hpre hrel hins
 obtain ⟨l,h1⟩:=sals_open hrel rfl hρ
 obtain ⟨u0,us,rfl,g0,hi⟩:=ins_cons hins
 obtain ⟨u1,us,rfl,g1,hi⟩:=ins_cons hi
 obtain ⟨u2,us,rfl,g2,hi⟩:=ins_cons hi
 obtain ⟨p,k3,rfl,h3⟩:=one_int g1
 obtain ⟨K,k4,rfl,h4⟩:=one_int g2
 rw [hρ] at h3 h4
 have hsh : shortB l = true:=by
  have:=hpre.1
  simpa only [X.bool,X.den,denL,dX,denSub,denIte,asB,dY,sals_len,sals_cell,sals_lsub,hds_len,hds_cell,hds_lsub,hds_snocN,hds_snoc0N,snoc_nil,heads_len,h1,hsy,sym23,Option.some.injEq,Value.bool.injEq] using this
 have hok : chkE l = 0:=by
  have:=hpre.2.1
  simpa only [X.bool,X.den,denL,dX,denSub,denIte,asB,dY,sals_len,sals_cell,sals_lsub,hds_len,hds_cell,hds_lsub,hds_snocN,hds_snoc0N,snoc_nil,heads_len,h1,hsy,sym164,Option.some.injEq,Value.bool.injEq,beq_iff_eq] using this
 refine con_of (E:=E0) E0_ok E0_glob (sy:=sy) (fun F => RD_ok F hsy) (fun F => lRs_H h1 h3 h4 hsy hsh hok F) (rSoN_w r) hρ hpre hrel hins ?_ ?_
 ·simp only [rSoN_con,rSoN_t,qVD8,qVD7,qVD6,qVD5,qVD4,qVD3,qVD2,qVD1,qVD0,AsksL,GTree.asks,FTree.asks,FactsIn,List.append_nil,List.nil_append,List.cons_append,Option.some.injEq,exists_eq',implies_true,and_self,X.bool,X.den,denL,dX,denSub,denIte,asB,dY,sals_len,sals_cell,sals_lsub,hds_len,hds_cell,hds_lsub,hds_snocN,hds_snoc0N,snoc_nil,heads_len,h1,h3,h4,hsy,sym23,sym164,sym165,sym169,sym170,sym180,sym182]
  try simp
 ·simp only [rSoN_l,qVD8,qVD7,qVD6,qVD5,qVD4,qVD3,qVD2,qVD1,qVD0,EndsOk,WaysOk,forall_cons,forall_nil,TgtOk,gpair,FactsIn,hold_cons,hold_nil,Option.some.injEq,dZ,X.bool,X.den,denL,dX,denSub,denIte,asB,dY,beq_iff_eq,beq_eq_false_iff_ne,ne_eq,sals_len,sals_cell,sals_lsub,hds_len,hds_cell,hds_lsub,hds_snocN,hds_snoc0N,snoc_nil,heads_len,beq_iff_eq,beq_eq_false_iff_ne,ne_eq,h1,h3,h4,hsy,sym23,sym164,sym165,sym169,sym170,sym180,sym182]
  try simp
noncomputable def rSoY_con : Con:={ f:=8,args:=[salsArg 0 0,.one (.int .i64 3),.one (.int .i64 4)],N:=1,M:=1,pre:=[(.app 23 [.var 1],true),(.op2 .eq (.app 164 [.var 1]) (.num 0),true),(.app 169 [.var 1,.var 3,.var 4],true)],out:=.tuple [.agg [.sint .i64 (.app 170 [.var 1,.var 3,.var 4,.num 0]),.sint .i64 (.app 170 [.var 1,.var 3,.var 4,.num 1]),.sint .i64 (.app 170 [.var 1,.var 3,.var 4,.num 2]),.sint .i64 (.app 170 [.var 1,.var 3,.var 4,.num 3]),.sint .i64 (.app 170 [.var 1,.var 3,.var 4,.num 4]),.sint .i64 (.app 170 [.var 1,.var 3,.var 4,.num 5]),.sint .i64 (.app 170 [.var 1,.var 3,.var 4,.num 6]),.sint .i64 (.app 170 [.var 1,.var 3,.var 4,.num 7]),.sint .i64 (.app 170 [.var 1,.var 3,.var 4,.num 8])],.int .i64 0],news:=[] }
noncomputable def rSoY_call : Env→CallL:=fun E => acallAll E (evH E (RD E) ((fun E => oneH 8 (hooks [(6,lRs_D.hook E.facts rso_vs)])) E) 12)
noncomputable def rSoY_t : GTree:=(.fork qVD6 (.leaf [[]]) .bad)
noncomputable def rSoY_l : List (List (X×Bool)×Option Pairs):=[([(qVD6,true),(qVD7,true),(qVD0,true),(qVD5,true)],some [(.app 170 [.var 1,.var 3,.var 4,.num 0],.app 170 [.var 1,.var 3,.var 4,.num 0]),(.app 170 [.var 1,.var 3,.var 4,.num 1],.app 170 [.var 1,.var 3,.var 4,.num 1]),(.app 170 [.var 1,.var 3,.var 4,.num 2],.app 170 [.var 1,.var 3,.var 4,.num 2]),(.app 170 [.var 1,.var 3,.var 4,.num 3],.app 170 [.var 1,.var 3,.var 4,.num 3]),(.app 170 [.var 1,.var 3,.var 4,.num 4],.app 170 [.var 1,.var 3,.var 4,.num 4]),(.app 170 [.var 1,.var 3,.var 4,.num 5],.app 170 [.var 1,.var 3,.var 4,.num 5]),(.app 170 [.var 1,.var 3,.var 4,.num 6],.app 170 [.var 1,.var 3,.var 4,.num 6]),(.app 170 [.var 1,.var 3,.var 4,.num 7],.app 170 [.var 1,.var 3,.var 4,.num 7]),(.app 170 [.var 1,.var 3,.var 4,.num 8],.app 170 [.var 1,.var 3,.var 4,.num 8])]),
 ([(qVD6,false),(qVD7,true),(qVD0,true),(qVD5,true)],none)]
theorem rSoY_w (r : Rho) : rSoY_con.fn.ways rSoY_call E0 r rSoY_con.pre rSoY_t = some rSoY_l:=by kernel_rfl
theorem sale_len {l : List Sal9} {p K : Int} (h : (saleAt l p K).isSome = true) : 0 < (l.length : Int):=by
 cases l with
 | nil => cases h
 | cons x l => simp
theorem rSoY_cok : rSoY_con.Ok Tryz.prog sy:=by
 intro r σ w us hsy hρ hpre hrel hins
 obtain ⟨l,h1⟩:=sals_open hrel rfl hρ
 obtain ⟨u0,us,rfl,g0,hi⟩:=ins_cons hins
 obtain ⟨u1,us,rfl,g1,hi⟩:=ins_cons hi
 obtain ⟨u2,us,rfl,g2,hi⟩:=ins_cons hi
 obtain ⟨p,k3,rfl,h3⟩:=one_int g1
 obtain ⟨K,k4,rfl,h4⟩:=one_int g2
 rw [hρ] at h3 h4
 have hsh : shortB l = true:=by
  have:=hpre.1
  simpa only [X.bool,X.den,denL,dX,denSub,denIte,asB,dY,sals_len,sals_cell,sals_lsub,hds_len,hds_cell,hds_lsub,hds_snocN,hds_snoc0N,snoc_nil,heads_len,h1,hsy,sym23,Option.some.injEq,Value.bool.injEq] using this
 have hok : chkE l = 0:=by
  have:=hpre.2.1
  simpa only [X.bool,X.den,denL,dX,denSub,denIte,asB,dY,sals_len,sals_cell,sals_lsub,hds_len,hds_cell,hds_lsub,hds_snocN,hds_snoc0N,snoc_nil,heads_len,h1,hsy,sym164,Option.some.injEq,Value.bool.injEq,beq_iff_eq] using this
 have his : (saleAt l p K).isSome = true:=by
  have:=hpre.2.2.1
  simpa only [X.bool,X.den,denL,dX,denSub,denIte,asB,dY,sals_len,sals_cell,sals_lsub,hds_len,hds_cell,hds_lsub,hds_snocN,hds_snoc0N,snoc_nil,heads_len,h1,h3,h4,hsy,sym169,Option.some.injEq,Value.bool.injEq] using this
 have hlen:=sale_len his
 refine con_of (E:=E0) E0_ok E0_glob (sy:=sy) (fun F => RD_ok F hsy) (fun F => lRs_H h1 h3 h4 hsy hsh hok F) (rSoY_w r) hρ hpre hrel hins ?_ ?_
 ·simp only [rSoY_con,rSoY_t,qVD8,qVD7,qVD6,qVD5,qVD4,qVD3,qVD2,qVD1,qVD0,AsksL,GTree.asks,FTree.asks,FactsIn,List.append_nil,List.nil_append,List.cons_append,Option.some.injEq,exists_eq',implies_true,and_self,X.bool,X.den,denL,dX,denSub,denIte,asB,dY,sals_len,sals_cell,sals_lsub,hds_len,hds_cell,hds_lsub,hds_snocN,hds_snoc0N,snoc_nil,heads_len,h1,h3,h4,hsy,sym23,sym164,sym165,sym169,sym170,sym180,sym182]
  try simp
  try (intro e; rw [e] at hlen; simp at hlen)
 ·simp only [rSoY_l,qVD8,qVD7,qVD6,qVD5,qVD4,qVD3,qVD2,qVD1,qVD0,EndsOk,WaysOk,forall_cons,forall_nil,TgtOk,gpair,FactsIn,hold_cons,hold_nil,Option.some.injEq,dZ,X.bool,X.den,denL,dX,denSub,denIte,asB,dY,beq_iff_eq,beq_eq_false_iff_ne,ne_eq,sals_len,sals_cell,sals_lsub,hds_len,hds_cell,hds_lsub,hds_snocN,hds_snoc0N,snoc_nil,heads_len,beq_iff_eq,beq_eq_false_iff_ne,ne_eq,h1,h3,h4,hsy,sym23,sym164,sym165,sym169,sym170,sym180,sym182]
  try simp
  try (intro e; rw [e] at hlen; simp at hlen)
end Go.Proofs.YtckefonlahokkaaGreatDoor.Zs
