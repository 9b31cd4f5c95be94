/-
  Contracts of the reference: Value.
-/
import Derived.Test.YtckefonlahokkaaGreatDoorVaRefE
import Derived.Test.YtckefonlahokkaaGreatDoorVaAcc
import Derived.KernelRfl
set_option linter.unusedSimpArgs false
set_option linter.unusedVariables false
namespace Go.Proofs.YtckefonlahokkaaGreatDoor.Zs
open Go
noncomputable def RF : Env→CallE:=libs [cLib rCks_con,cLib rSoE_con,cLib rSoN_con,cLib rSoY_con]
theorem RF_ok (F : List (X×Bool)) {r : Rho} (h : r.sym = sy) : CallsOk (E0.with F r) (RF (E0.with F r)):=libs_ok fun c hc => by
 simp only [List.mem_cons,List.not_mem_nil,or_false] at hc
 rcases hc with rfl | rfl | rfl | rfl
 ·exact lib_ok (E:=E0) rCks_cok F h
 ·exact lib_ok (E:=E0) rSoE_cok F h
 ·exact lib_ok (E:=E0) rSoN_cok F h
 ·exact lib_ok (E:=E0) rSoY_cok F h
def rti_vs : List X:=[.num 0]
def rto_vs : List X:=[.num 0]
def rsu_vs : List X:=[.num 0,.num 0]
noncomputable def lTi_D : LoopD:={ N:=200,M:=201,size:=sizeOfF 10,reads:=[(0,.rows 9 salSch (.var 0) (.var 1) false 27),(1,.rows 1 whoSch (.var 3) (.var 4) false 3)],pats:=[{ slots:=[(0,.slx 0 9 (.var 0) (.num 0) (.op1 .len (.var 1)) (.var 2)),(1,.slx 1 1 (.var 3) (.num 0) (.op1 .len (.var 4)) (.var 5)),(2,.sint .i64 (.var 6)),(10,.sint .i64 (.var 100)),(11,.sint .i64 (.var 200))],heap:=[] }],exits:=[(.exit 2,{ slots:=[(0,.slx 0 9 (.var 0) (.num 0) (.op1 .len (.var 1)) (.var 2)),(1,.slx 1 1 (.var 3) (.num 0) (.op1 .len (.var 4)) (.var 5)),(2,.sint .i64 (.var 6)),(10,.sint .i64 (.var 100))],heap:=[],guard:=.op1 .not (.app 175 [.lsub (.var 4) (.num 0) (.op2 .add (.var 100) (.num 1))]) }),(.ret,{ slots:=[(6,.int .i64 0),(7,.int .i64 6)],heap:=[],guard:=.app 175 [.lsub (.var 4) (.num 0) (.op2 .add (.var 100) (.num 1))] })],own:=[],pre:=[(.op2 .lt (.num 200) (.op1 .len (.var 4)),false),(.op2 .lt (.var 100) (.op1 .len (.var 4)),true),(.op2 .lt (.var 100) (.num 0),false),(.app 175 [.lsub (.var 4) (.num 0) (.var 100)],false)],dfs:=[] }
noncomputable def lTi_run : Env→AF→ASt→Option (List Out):=bodyRun noL 6 (fun _ => noLoop) (loopAt Tryz.prog 10 1)
def lTi0_F : List (X×Bool):=[(.op2 .lt (.var 200) (.num 0),false),(.op2 .lt (.num 200) (.op1 .len (.var 4)),false),(.op2 .lt (.var 100) (.op1 .len (.var 4)),true),(.op2 .lt (.var 100) (.num 0),false),(.app 175 [.lsub (.var 4) (.num 0) (.var 100)],false)]
def qVF0 : X:=.op2 .lt (.num 200) (.op1 .len (.var 4))
def qVF1 : X:=.op2 .eq (.app 164 [(.var 1)]) (.num 0)
def qVF2 : X:=.app 175 [(.lsub (.var 4) (.num 0) (.var 100))]
def qVF3 : X:=.app 172 [(.var 1),(.var 6)]
def qVF4 : X:=.op2 .lt (.var 100) (.op1 .len (.var 4))
def qVF5 : X:=.app 175 [(.lsub (.var 4) (.num 0) (.op2 .add (.var 100) (.num 1)))]
def qVF6 : X:=.app 174 [(.var 1),(.var 4),(.var 6)]
def qVF7 : X:=.app 173 [(.var 1),(.var 4),(.var 6)]
def qVF8 : X:=.op2 .lt (.var 100) (.num 0)
def qVF9 : X:=.app 23 [(.var 1)]
def qVF10 : X:=.op2 .eq (.cell 0 (.var 4) (.var 100)) (.cell 0 (.var 4) (.var 200))
noncomputable def lTi0_t : FTree:=(.fork (.op2 .lt (.var 200) (.var 100)) (.fork (.op2 .lt (.var 200) (.op1 .len (.var 4))) (.fork qVF10 (.leaf [.leave 1 []]) (.leaf [.again 0 []])) .bad) (.leaf [.leave 0 []]))
noncomputable def lTi0_l : List (List (X×Bool)×Option (List (Tgt×Pairs))):=[([(qVF10,true),(.op2 .lt (.var 200) (.op1 .len (.var 4)),true),(.op2 .lt (.var 200) (.var 100),true),(.op2 .lt (.var 200) (.num 0),false),(qVF0,false),(qVF4,true),(qVF8,false),(qVF2,false)],some [(.leave 1 [],[(qVF5,.boo true)])]),
 ([(qVF10,false),(.op2 .lt (.var 200) (.op1 .len (.var 4)),true),(.op2 .lt (.var 200) (.var 100),true),(.op2 .lt (.var 200) (.num 0),false),(qVF0,false),(qVF4,true),(qVF8,false),(qVF2,false)],some [(.again 0 [],[(.var 200,.op1 (.wrap .i64) (.op2 .add (.var 200) (.num 1)))])]),
 ([(.op2 .lt (.var 200) (.op1 .len (.var 4)),false),(.op2 .lt (.var 200) (.var 100),true),(.op2 .lt (.var 200) (.num 0),false),(qVF0,false),(qVF4,true),(qVF8,false),(qVF2,false)],none),
 ([(.op2 .lt (.var 200) (.var 100),false),(.op2 .lt (.var 200) (.num 0),false),(qVF0,false),(qVF4,true),(qVF8,false),(qVF2,false)],some [(.leave 0 [],[(.op1 .not qVF5,.boo true)])])]
theorem lTi0_w (r : Rho) : lTi_D.ways lTi_run E0 r 0 lTi0_F lTi0_t = some lTi0_l:=by kernel_rfl
theorem lTi_ok : lTi_D.ok = true:=by kernel_rfl
def lTi_Inv (b : List Who) (i : Nat) (n : Int) (j : Nat) (vals : List Value) : Prop:=j = 0∧∃ k : Nat,k≤i∧vals = [.int .i64 (k : Int)]∧(b.take k).any (fun y => y.n == n) = false
def lTi_mu (i : Nat) (_ : Nat) (vals : List Value) : Nat:=i - (vI (vals.getD 0 default)).toNat
set_option maxHeartbeats 1000000 in
theorem lTi_step {ρ : Rho} {b : List Who} {i : Nat} {ki : IntKind} {x : Who} (h4 : ρ.val 4 = some (whosR b)) (h100 : ρ.val 100 = some (.int ki (i : Int))) (hsy : ρ.sym = sy) (hp : b[i]? = some x) (hmax : (b.length : Int)≤200) (htw : twiceW (b.take i) = false) (j : Nat) (vals : List Value) (hI : lTi_Inv b i x.n j vals) : StepOk lTi_D lTi_run E0 ρ (lTi_Inv b i x.n) (lTi_mu i) j vals:=by
 obtain ⟨rfl,k,hk,rfl,hno⟩:=hI
 have hN : lTi_D.N = 200:=rfl
 have hil : i < b.length:=(List.getElem?_eq_some_iff.1 hp).1
 have hil1 : (i : Int) < b.length:=by omega
 have htn : ((i : Int) + 1).toNat = i + 1:=by omega
 have ht : b.take (i + 1) = b.take i ++ [x]:=by rw [List.take_add_one,hp]; rfl
 have htj : twiceW (b.take (i + 1)) = (b.take i).any fun y => y.n == x.n:=by rw [ht,twice_snoc,htw,Bool.false_or]
 have v4 : (ρ.ext lTi_D.N [.int .i64 (k : Int)]).val 4 = some (whosR b):=by rw [ext_low _ _ _ _ (by rw [hN]; omega)]; exact h4
 have v100 : (ρ.ext lTi_D.N [.int .i64 (k : Int)]).val 100 = some (.int ki (i : Int)):=by rw [ext_low _ _ _ _ (by rw [hN]; omega)]; exact h100
 have v200 : (ρ.ext lTi_D.N [.int .i64 (k : Int)]).val 200 = some (.int .i64 (k : Int)):=by rw [ext_high _ _ _ _ (by rw [hN]; omega)]; rfl
 have vs : (ρ.ext lTi_D.N [.int .i64 (k : Int)]).sym = sy:=hsy
 have hF : FactsIn (ρ.ext lTi_D.N [.int .i64 (k : Int)]) lTi0_F:=by
  simp only [lTi0_F,FactsIn,X.bool,X.den,denL,dX,denSub,denIte,asB,dY,sals_len,sals_cell,sals_lsub,hds_len,hds_cell,hds_lsub,hds_snocN,hds_snoc0N,heads_len,whos_len,whos_cell,whos_lsub,v4,v100,v200,vs,sym175,Int.toNat_natCast,Int.toNat_zero,List.drop_zero,htw,Option.some.injEq,Value.bool.injEq,decide_eq_true_eq,decide_eq_false_iff_not,and_true,true_and]
  omega
 suffices both : AsksL (ρ.ext lTi_D.N [.int .i64 (k : Int)]) (lTi0_t.asks lTi0_F)∧WaysOk lTi_D ρ (lTi_Inv b i x.n) (lTi_mu i) 0 [.int .i64 (k : Int)] lTi0_l from step_of_ways (lTi0_w _) hF both.1.ok both.2
 by_cases hki : k < i
 ·obtain ⟨y,hy⟩ : ∃ y,b[k]? = some y:=⟨_,List.getElem?_eq_getElem (by omega)⟩
  have hk1 : (k : Int) < i:=by omega
  have hkl : (k : Int) < b.length:=by omega
  have hwk : IntKind.i64.wrap ((k : Int) + 1) = ((k + 1 : Nat) : Int):=by rw [IntWalk.i64_in _ (by omega)]; rfl
  have hit : x.n = y.n→twiceW (b.take (i + 1)) = true:=fun e => by
   rw [htj,List.any_eq_true]
   exact ⟨y,List.mem_of_getElem? (i:=k) (by rw [List.getElem?_take,if_pos hki]; exact hy),by simp [e]⟩
  have go : ¬ x.n = y.n→∃ vals',(ρ.ext lTi_D.N vals').val 200 = some (.int .i64 ((k + 1 : Nat) : Int))∧lTi_Inv b i x.n 0 vals'∧lTi_mu i 0 vals' < lTi_mu i 0 [.int .i64 (k : Int)]:=by
   intro hne
   refine ⟨[.int .i64 ((k + 1 : Nat) : Int)],?_,⟨rfl,k + 1,by omega,rfl,?_⟩,by simp [lTi_mu,vI]; omega⟩
   ·rw [ext_high _ _ _ _ (by rw [hN]; omega)]; rfl
   ·rw [List.take_add_one,hy,List.any_append,hno]
    have : (y.n == x.n) = false:=beq_eq_false_iff_ne.2 fun e => hne e.symm
    simp [this]
  refine ⟨?_,?_⟩
  all_goals (simp only [lTi0_t,qVF10,qVF9,qVF8,qVF7,qVF6,qVF5,qVF4,qVF3,qVF2,qVF1,qVF0,lTi0_F,lTi0_l,AsksL,GTree.asks,FTree.asks,FactsIn,List.append_nil,List.nil_append,List.cons_append,Option.some.injEq,exists_eq',implies_true,and_self,X.bool,X.den,denL,dX,denSub,denIte,asB,dY,sals_len,sals_cell,sals_lsub,hds_len,hds_cell,hds_lsub,hds_snocN,hds_snoc0N,heads_len,whos_len,whos_cell,whos_lsub,EndsOk,WaysOk,forall_cons,forall_nil,TgtOk,gpair,FactsIn,hold_cons,hold_nil,Option.some.injEq,dZ,X.bool,X.den,denL,dX,denSub,denIte,asB,dY,beq_iff_eq,beq_eq_false_iff_ne,ne_eq,sals_len,sals_cell,sals_lsub,hds_len,hds_cell,hds_lsub,hds_snocN,hds_snoc0N,heads_len,whos_len,whos_cell,whos_lsub,beq_iff_eq,beq_eq_false_iff_ne,ne_eq,v4,v100,v200,vs,h4,h100,hsy,sym23,sym164,sym169,sym170,sym172,sym173,sym174,sym175,sym176,sym177,Int.toNat_natCast,Int.toNat_zero,List.drop_zero,htn,hp,hy,Option.bind_some,who0,hk1,hkl,hil1,hwk,reduceCtorEq,Bool.false_eq_true,false_implies,implies_true,true_implies,and_self,and_true,true_and])
  all_goals (clear v4 v100 v200 vs h4 h100 hsy hF htj)
  all_goals ((repeat' apply And.intro) <;> intros <;> first
   | trivial
   | contradiction
   | (exact go (by assumption))
   | (exact hit (by assumption))
   | (exfalso; omega)
   | (simp_all; done))
 ·obtain rfl : k = i:=by omega
  have hnk : ¬ (k : Int) < k:=by omega
  rw [hno] at htj
  refine ⟨?_,?_⟩
  all_goals (simp only [lTi0_t,qVF10,qVF9,qVF8,qVF7,qVF6,qVF5,qVF4,qVF3,qVF2,qVF1,qVF0,lTi0_F,lTi0_l,AsksL,GTree.asks,FTree.asks,FactsIn,List.append_nil,List.nil_append,List.cons_append,Option.some.injEq,exists_eq',implies_true,and_self,X.bool,X.den,denL,dX,denSub,denIte,asB,dY,sals_len,sals_cell,sals_lsub,hds_len,hds_cell,hds_lsub,hds_snocN,hds_snoc0N,heads_len,whos_len,whos_cell,whos_lsub,EndsOk,WaysOk,forall_cons,forall_nil,TgtOk,gpair,FactsIn,hold_cons,hold_nil,Option.some.injEq,dZ,X.bool,X.den,denL,dX,denSub,denIte,asB,dY,beq_iff_eq,beq_eq_false_iff_ne,ne_eq,sals_len,sals_cell,sals_lsub,hds_len,hds_cell,hds_lsub,hds_snocN,hds_snoc0N,heads_len,whos_len,whos_cell,whos_lsub,beq_iff_eq,beq_eq_false_iff_ne,ne_eq,v4,v100,v200,vs,h4,h100,hsy,sym23,sym164,sym169,sym170,sym172,sym173,sym174,sym175,sym176,sym177,Int.toNat_natCast,Int.toNat_zero,List.drop_zero,htn,hp,Option.bind_some,who0,hnk,htj,reduceCtorEq,Bool.false_eq_true,false_implies,implies_true,true_implies,and_self,and_true,true_and])
  all_goals (clear v4 v100 v200 vs h4 h100 hsy hF)
  all_goals ((repeat' apply And.intro) <;> intros <;> first
   | trivial
   | contradiction
   | (exfalso; omega)
   | (simp_all; done))
theorem idx_whos {r : Rho} {b : List Who} (h4 : r.val 4 = some (whosR b)) (hF : X.bool r (.op2 .lt (.var 100) (.op1 .len (.var 4))) = some true) (h0 : X.bool r (.op2 .lt (.var 100) (.num 0)) = some false) :
  ∃ (ki : IntKind) (n : Nat),r.val 100 = some (.int ki (n : Int))∧n < b.length:=by
 simp only [X.bool,X.den,h4,whos_len] at hF h0
 cases hv : r.val 100 with
 | none => rw [hv] at hF; cases hF
 | some v =>
   rw [hv] at hF h0
   cases v <;> simp only [den2,asB,Option.some.injEq,Bool.decide_eq_true,decide_eq_true_eq,decide_eq_false_iff_not,reduceCtorEq] at hF h0
   rename_i k n
   exact ⟨k,n.toNat,by rw [show ((n.toNat : Nat) : Int) = n by omega],by omega⟩
def nOf (r : Rho) (b : List Who) : Int:=((b[iOf r]?).map Who.n).getD 0
theorem ti_body : loopsOf (loopAt Tryz.prog 10 0) = [loopAt Tryz.prog 10 1]:=by kernel_rfl
theorem ti_key : keyOf (loopAt Tryz.prog 10 1) = 10:=by kernel_rfl
theorem ti_H {r : Rho} {b : List Who} (h4 : r.val 4 = some (whosR b)) (hsy : r.sym = sy) (F : List (X×Bool)) :
  ∀ c' ∈ loopsOf (loopAt Tryz.prog 10 0),CodeOk (E0.with F r) none (.loop c') (hooks [(10,lTi_D.hook (E0.with F r).facts rti_vs)] c'):=by
 rw [ti_body]
 refine mem_onlyV (P:=fun c' => CodeOk (E0.with F r) none (.loop c') (hooks [(10,lTi_D.hook (E0.with F r).facts rti_vs)] c')) ?_
 show CodeOk (E0.with F r) none (.loop (loopAt Tryz.prog 10 1)) (hooks [(10,lTi_D.hook (E0.with F r).facts rti_vs)] (loopAt Tryz.prog 10 1))
 rw [hooks_hit ti_key]
 refine hook_ok (E₀:=E0) (run:=lTi_run) (ρ:=r) (Inv:=lTi_Inv b (iOf r) (nOf r b)) (μ:=lTi_mu (iOf r)) E0_ok lTi_ok (fun F r' h => ?_) (fun hq => ?_)
 ·exact bodyRun_ok E0_ok (noL_ok F (h.trans hsy)) fun _ _ => noLoop_ok
 ·obtain ⟨ki,i,h100,hlt⟩:=idx_whos h4 hq.2.1 hq.2.2.1
  have q1:=hq.1
  have q4:=hq.2.2.2.1
  simp only [X.bool,X.den,denL,dX,denSub,denIte,asB,dY,sals_len,sals_cell,sals_lsub,hds_len,hds_cell,hds_lsub,hds_snocN,hds_snoc0N,heads_len,whos_len,whos_cell,whos_lsub,h4,h100,hsy,sym175,Int.toNat_natCast,Int.toNat_zero,List.drop_zero,Option.some.injEq,Value.bool.injEq,decide_eq_false_iff_not] at q1 q4
  have hi : iOf r = i:=by simp [iOf,h100]
  have hp : b[i]? = some b[i]:=List.getElem?_eq_getElem hlt
  have e2 : nOf r b = (b[i]).n:=by unfold nOf; rw [hi,hp]; rfl
  rw [hi,e2]
  refine ⟨lTi_step h4 h100 hsy hp (by omega) q4,[.int .i64 0],?_,rfl,0,Nat.zero_le _,rfl,rfl⟩
  simp only [rti_vs,X.bool,X.den,denL,dX,denSub,denIte,asB,dY,sals_len,sals_cell,sals_lsub,hds_len,hds_cell,hds_lsub,hds_snocN,hds_snoc0N,heads_len,whos_len,whos_cell,whos_lsub]
noncomputable def lTo_D : LoopD:={ N:=100,M:=101,size:=sizeOfF 10,reads:=[(0,.rows 9 salSch (.var 0) (.var 1) false 27),(1,.rows 1 whoSch (.var 3) (.var 4) false 3)],pats:=[{ slots:=[(0,.slx 0 9 (.var 0) (.num 0) (.op1 .len (.var 1)) (.var 2)),(1,.slx 1 1 (.var 3) (.num 0) (.op1 .len (.var 4)) (.var 5)),(2,.sint .i64 (.var 6)),(10,.sint .i64 (.var 100))],heap:=[] }],exits:=[(.exit 0,{ slots:=[(0,.slx 0 9 (.var 0) (.num 0) (.op1 .len (.var 1)) (.var 2)),(1,.slx 1 1 (.var 3) (.num 0) (.op1 .len (.var 4)) (.var 5)),(2,.sint .i64 (.var 6))],heap:=[],guard:=.op1 .not (.app 175 [.var 4]) }),(.ret,{ slots:=[(6,.int .i64 0),(7,.int .i64 6)],heap:=[],guard:=.app 175 [.var 4] })],own:=[],pre:=[(.op2 .lt (.num 200) (.op1 .len (.var 4)),false)],dfs:=[] }
noncomputable def lTo_run : Env→AF→ASt→Option (List Out):=bodyRun noL 6 (fun E => hooks [(10,lTi_D.hook E.facts rti_vs)]) (loopAt Tryz.prog 10 0)
def lTo0_F : List (X×Bool):=[(.op2 .lt (.var 100) (.num 0),false),(.op2 .lt (.num 200) (.op1 .len (.var 4)),false),(.app 175 [.lsub (.var 4) (.num 0) (.var 100)],false)]
noncomputable def lTo0_t : FTree:=(.fork qVF4 (.fork qVF5 (.leaf [.leave 1 []]) (.leaf [.again 0 []])) (.leaf [.leave 0 []]))
noncomputable def lTo0_l : List (List (X×Bool)×Option (List (Tgt×Pairs))):=[([(qVF5,true),(qVF4,true),(qVF8,false),(qVF0,false),(qVF2,false)],some [(.leave 1 [],[(.app 175 [.var 4],.boo true)])]),
 ([(qVF5,false),(qVF4,true),(qVF8,false),(qVF0,false),(qVF2,false)],some [(.again 0 [],[(.var 100,.op1 (.wrap .i64) (.op2 .add (.var 100) (.num 1)))])]),
 ([(qVF4,false),(qVF8,false),(qVF0,false),(qVF2,false)],some [(.leave 0 [],[(.op1 .not (.app 175 [.var 4]),.boo true)])])]
theorem lTo0_w (r : Rho) : lTo_D.ways lTo_run E0 r 0 lTo0_F lTo0_t = some lTo0_l:=by kernel_rfl
theorem lTo_ok : lTo_D.ok = true:=by kernel_rfl
def lTo_Inv (b : List Who) (j : Nat) (vals : List Value) : Prop:=j = 0∧∃ i : Nat,i≤b.length∧vals = [.int .i64 (i : Int)]∧twiceW (b.take i) = false
def lTo_mu (b : List Who) (_ : Nat) (vals : List Value) : Nat:=b.length - (vI (vals.getD 0 default)).toNat
set_option maxHeartbeats 1000000 in
theorem lTo_step {ρ : Rho} {b : List Who} (h4 : ρ.val 4 = some (whosR b)) (hsy : ρ.sym = sy) (hmax : (b.length : Int)≤200) (j : Nat) (vals : List Value) (hI : lTo_Inv b j vals) : StepOk lTo_D lTo_run E0 ρ (lTo_Inv b) (lTo_mu b) j vals:=by
 obtain ⟨rfl,i,hi,rfl,hno⟩:=hI
 have hN : lTo_D.N = 100:=rfl
 have htn : ((i : Int) + 1).toNat = i + 1:=by omega
 have v4 : (ρ.ext lTo_D.N [.int .i64 (i : Int)]).val 4 = some (whosR b):=by rw [ext_low _ _ _ _ (by rw [hN]; omega)]; exact h4
 have v100 : (ρ.ext lTo_D.N [.int .i64 (i : Int)]).val 100 = some (.int .i64 (i : Int)):=by rw [ext_high _ _ _ _ (by rw [hN]; omega)]; rfl
 have vs : (ρ.ext lTo_D.N [.int .i64 (i : Int)]).sym = sy:=hsy
 have hF : FactsIn (ρ.ext lTo_D.N [.int .i64 (i : Int)]) lTo0_F:=by
  simp only [lTo0_F,FactsIn,X.bool,X.den,denL,dX,denSub,denIte,asB,dY,sals_len,sals_cell,sals_lsub,hds_len,hds_cell,hds_lsub,hds_snocN,hds_snoc0N,heads_len,whos_len,whos_cell,whos_lsub,v4,v100,vs,sym175,Int.toNat_natCast,Int.toNat_zero,List.drop_zero,hno,Option.some.injEq,Value.bool.injEq,decide_eq_true_eq,decide_eq_false_iff_not,and_true,true_and]
  omega
 suffices both : AsksL (ρ.ext lTo_D.N [.int .i64 (i : Int)]) (lTo0_t.asks lTo0_F)∧WaysOk lTo_D ρ (lTo_Inv b) (lTo_mu b) 0 [.int .i64 (i : Int)] lTo0_l from step_of_ways (lTo0_w _) hF both.1.ok both.2
 by_cases hil : i < b.length
 ·have hil1 : (i : Int) < b.length:=by omega
  have hw : IntKind.i64.wrap ((i : Int) + 1) = ((i + 1 : Nat) : Int):=by rw [IntWalk.i64_in _ (by omega)]; rfl
  have go : twiceW (b.take (i + 1)) = false→∃ vals',(ρ.ext lTo_D.N vals').val 100 = some (.int .i64 ((i + 1 : Nat) : Int))∧lTo_Inv b 0 vals'∧lTo_mu b 0 vals' < lTo_mu b 0 [.int .i64 (i : Int)]:=by
   intro h
   refine ⟨[.int .i64 ((i + 1 : Nat) : Int)],?_,⟨rfl,i + 1,by omega,rfl,h⟩,by simp [lTo_mu,vI]; omega⟩
   rw [ext_high _ _ _ _ (by rw [hN]; omega)]; rfl
  refine ⟨?_,?_⟩
  all_goals (simp only [lTo0_t,qVF10,qVF9,qVF8,qVF7,qVF6,qVF5,qVF4,qVF3,qVF2,qVF1,qVF0,lTo0_F,lTo0_l,AsksL,GTree.asks,FTree.asks,FactsIn,List.append_nil,List.nil_append,List.cons_append,Option.some.injEq,exists_eq',implies_true,and_self,X.bool,X.den,denL,dX,denSub,denIte,asB,dY,sals_len,sals_cell,sals_lsub,hds_len,hds_cell,hds_lsub,hds_snocN,hds_snoc0N,heads_len,whos_len,whos_cell,whos_lsub,EndsOk,WaysOk,forall_cons,forall_nil,TgtOk,gpair,FactsIn,hold_cons,hold_nil,Option.some.injEq,dZ,X.bool,X.den,denL,dX,denSub,denIte,asB,dY,beq_iff_eq,beq_eq_false_iff_ne,ne_eq,sals_len,sals_cell,sals_lsub,hds_len,hds_cell,hds_lsub,hds_snocN,hds_snoc0N,heads_len,whos_len,whos_cell,whos_lsub,beq_iff_eq,beq_eq_false_iff_ne,ne_eq,v4,v100,vs,h4,hsy,sym23,sym164,sym169,sym170,sym172,sym173,sym174,sym175,sym176,sym177,Int.toNat_natCast,Int.toNat_zero,List.drop_zero,htn,hil1,hw,reduceCtorEq,Bool.false_eq_true,false_implies,implies_true,true_implies,and_self,and_true,true_and])
  all_goals (clear v4 v100 vs h4 hsy hF)
  all_goals ((repeat' apply And.intro) <;> intros <;> first
   | trivial
   | contradiction
   | (exact go (by assumption))
   | (exact twice_take (by assumption))
   | (exfalso; omega)
   | (simp_all; done))
 ·have hge' : ¬ (i : Int) < b.length:=by omega
  have hl : b.take i = b:=List.take_of_length_le (by omega)
  rw [hl] at hno
  refine ⟨?_,?_⟩
  all_goals (simp only [lTo0_t,qVF10,qVF9,qVF8,qVF7,qVF6,qVF5,qVF4,qVF3,qVF2,qVF1,qVF0,lTo0_F,lTo0_l,AsksL,GTree.asks,FTree.asks,FactsIn,List.append_nil,List.nil_append,List.cons_append,Option.some.injEq,exists_eq',implies_true,and_self,X.bool,X.den,denL,dX,denSub,denIte,asB,dY,sals_len,sals_cell,sals_lsub,hds_len,hds_cell,hds_lsub,hds_snocN,hds_snoc0N,heads_len,whos_len,whos_cell,whos_lsub,EndsOk,WaysOk,forall_cons,forall_nil,TgtOk,gpair,FactsIn,hold_cons,hold_nil,Option.some.injEq,dZ,X.bool,X.den,denL,dX,denSub,denIte,asB,dY,beq_iff_eq,beq_eq_false_iff_ne,ne_eq,sals_len,sals_cell,sals_lsub,hds_len,hds_cell,hds_lsub,hds_snocN,hds_snoc0N,heads_len,whos_len,whos_cell,whos_lsub,beq_iff_eq,beq_eq_false_iff_ne,ne_eq,v4,v100,vs,h4,hsy,sym23,sym164,sym169,sym170,sym172,sym173,sym174,sym175,sym176,sym177,Int.toNat_natCast,Int.toNat_zero,List.drop_zero,hge',hno,reduceCtorEq,Bool.false_eq_true,false_implies,implies_true,true_implies,and_self,and_true,true_and])
  all_goals (clear v4 v100 vs h4 hsy hF)
  all_goals ((repeat' apply And.intro) <;> intros <;> first
   | trivial
   | contradiction
   | (exfalso; omega)
   | (simp_all; done))
noncomputable def lSu_D : LoopD:={ N:=300,M:=302,size:=sizeOfF 10,reads:=[(0,.rows 9 salSch (.var 0) (.var 1) false 27),(1,.rows 1 whoSch (.var 3) (.var 4) false 3)],pats:=[{ slots:=[(0,.slx 0 9 (.var 0) (.num 0) (.op1 .len (.var 1)) (.var 2)),(1,.slx 1 1 (.var 3) (.num 0) (.op1 .len (.var 4)) (.var 5)),(2,.sint .i64 (.var 6)),(12,.sint .i64 (.var 301)),(13,.sint .i64 (.var 300))],heap:=[] }],exits:=[(.exit 4,{ slots:=[(12,.sint .i64 (.app 176 [.app 172 [.var 1,.var 6],.var 4]))],heap:=[],guard:=.app 177 [.app 172 [.var 1,.var 6],.var 4] }),(.ret,{ slots:=[(6,.int .i64 0),(7,.int .i64 61)],heap:=[],guard:=.op1 .not (.app 177 [.app 172 [.var 1,.var 6],.var 4]) })],own:=[],pre:=[(.app 23 [.var 1],true),(.op2 .eq (.app 164 [.var 1]) (.num 0),true),(.op2 .lt (.num 200) (.op1 .len (.var 4)),false)],dfs:=[] }
noncomputable def lSu_run : Env→AF→ASt→Option (List Out):=bodyRun RF 9 (fun _ => noLoop) (loopAt Tryz.prog 10 2)
def lSu0_F : List (X×Bool):=[(.op2 .lt (.var 300) (.num 0),false),(.app 23 [.var 1],true),(.op2 .eq (.app 164 [.var 1]) (.num 0),true)]
noncomputable def lSu0_t : FTree:=(.fork (.op2 .lt (.var 300) (.op1 .len (.var 4))) (.fork (.app 169 [.var 1,.cell 0 (.var 4) (.var 300),.var 6]) (.leaf [.again 0 []]) (.leaf [.leave 1 []])) (.leaf [.leave 0 []]))
noncomputable def lSu0_l : List (List (X×Bool)×Option (List (Tgt×Pairs))):=[([(.app 169 [.var 1,.cell 0 (.var 4) (.var 300),.var 6],true),(.op2 .lt (.var 300) (.op1 .len (.var 4)),true),(.op2 .lt (.var 300) (.num 0),false),(qVF9,true),(qVF1,true)],some [(.again 0 [],[(.var 301,.op1 (.wrap .i64) (.op2 .add (.var 301) (.app 170 [.var 1,.cell 0 (.var 4) (.var 300),.var 6,.num 4]))),(.var 300,.op1 (.wrap .i64) (.op2 .add (.var 300) (.num 1)))])]),
 ([(.app 169 [.var 1,.cell 0 (.var 4) (.var 300),.var 6],false),(.op2 .lt (.var 300) (.op1 .len (.var 4)),true),(.op2 .lt (.var 300) (.num 0),false),(qVF9,true),(qVF1,true)],some [(.leave 1 [],[(.op1 .not (.app 177 [qVF3,.var 4]),.boo true)])]),
 ([(.op2 .lt (.var 300) (.op1 .len (.var 4)),false),(.op2 .lt (.var 300) (.num 0),false),(qVF9,true),(qVF1,true)],some [(.leave 0 [],[(.app 176 [qVF3,.var 4],.var 301),(.app 177 [qVF3,.var 4],.boo true)])])]
theorem lSu0_w (r : Rho) : lSu_D.ways lSu_run E0 r 0 lSu0_F lSu0_t = some lSu0_l:=by kernel_rfl
theorem lSu_ok : lSu_D.ok = true:=by kernel_rfl
def lSu_Inv (l : List Sal9) (b : List Who) (K : Int) (j : Nat) (vals : List Value) : Prop:=j = 0∧∃ i : Nat,i≤b.length∧vals = [.int .i64 (i : Int),.int .i64 (sumP9 (prcM l K) (b.take i))]∧∀ x ∈ b.take i,atP (prcM l K) x.n≠0
def lSu_mu (b : List Who) (_ : Nat) (vals : List Value) : Nat:=b.length - (vI (vals.getD 0 default)).toNat
set_option maxHeartbeats 2000000 in
theorem lSu_step {ρ : Rho} {l : List Sal9} {b : List Who} {K : Int} {k6 : IntKind} (h1 : ρ.val 1 = some (salsR l)) (h4 : ρ.val 4 = some (whosR b)) (h6 : ρ.val 6 = some (.int k6 K)) (hsy : ρ.sym = sy) (hsh : shortB l = true) (hok : chkE l = 0) (hmax : (b.length : Int)≤200) (j : Nat) (vals : List Value) (hI : lSu_Inv l b K j vals) : StepOk lSu_D lSu_run E0 ρ (lSu_Inv l b K) (lSu_mu b) j vals:=by
 obtain ⟨rfl,i,hi,rfl,hall⟩:=hI
 have hN : lSu_D.N = 300:=rfl
 have v1 : (ρ.ext lSu_D.N [.int .i64 (i : Int),.int .i64 (sumP9 (prcM l K) (b.take i))]).val 1 = some (salsR l):=by rw [ext_low _ _ _ _ (by rw [hN]; omega)]; exact h1
 have v4 : (ρ.ext lSu_D.N [.int .i64 (i : Int),.int .i64 (sumP9 (prcM l K) (b.take i))]).val 4 = some (whosR b):=by rw [ext_low _ _ _ _ (by rw [hN]; omega)]; exact h4
 have v6 : (ρ.ext lSu_D.N [.int .i64 (i : Int),.int .i64 (sumP9 (prcM l K) (b.take i))]).val 6 = some (.int k6 K):=by rw [ext_low _ _ _ _ (by rw [hN]; omega)]; exact h6
 have v300 : (ρ.ext lSu_D.N [.int .i64 (i : Int),.int .i64 (sumP9 (prcM l K) (b.take i))]).val 300 = some (.int .i64 (i : Int)):=by rw [ext_high _ _ _ _ (by rw [hN]; omega)]; rfl
 have v301 : (ρ.ext lSu_D.N [.int .i64 (i : Int),.int .i64 (sumP9 (prcM l K) (b.take i))]).val 301 = some (.int .i64 (sumP9 (prcM l K) (b.take i))):=by rw [ext_high _ _ _ _ (by rw [hN]; omega)]; rfl
 have vs : (ρ.ext lSu_D.N [.int .i64 (i : Int),.int .i64 (sumP9 (prcM l K) (b.take i))]).sym = sy:=hsy
 have hF : FactsIn (ρ.ext lSu_D.N [.int .i64 (i : Int),.int .i64 (sumP9 (prcM l K) (b.take i))]) lSu0_F:=by
  simp only [lSu0_F,FactsIn,X.bool,X.den,denL,dX,denSub,denIte,asB,dY,sals_len,sals_cell,sals_lsub,hds_len,hds_cell,hds_lsub,hds_snocN,hds_snoc0N,heads_len,whos_len,whos_cell,whos_lsub,v1,v300,vs,sym23,sym164,hsh,hok,Option.some.injEq,Value.bool.injEq,decide_eq_false_iff_not,and_true,true_and,beq_self_eq_true]
  omega
 suffices both : AsksL (ρ.ext lSu_D.N [.int .i64 (i : Int),.int .i64 (sumP9 (prcM l K) (b.take i))]) (lSu0_t.asks lSu0_F)∧WaysOk lSu_D ρ (lSu_Inv l b K) (lSu_mu b) 0 [.int .i64 (i : Int),.int .i64 (sumP9 (prcM l K) (b.take i))] lSu0_l from step_of_ways (lSu0_w _) hF both.1.ok both.2
 cases hp : b[i]? with
 | none =>
   have hge:=List.getElem?_eq_none_iff.1 hp
   have hge' : ¬ (i : Int) < b.length:=by omega
   have hl : b.take i = b:=List.take_of_length_le hge
   have ha : (b.all fun x => !(atP (prcM l K) x.n == 0)) = true:=by
    rw [List.all_eq_true]
    intro x hx
    rw [hl] at hall
    simpa using hall x hx
   refine ⟨?_,?_⟩
   ·simp only [lSu0_t,qVF10,qVF9,qVF8,qVF7,qVF6,qVF5,qVF4,qVF3,qVF2,qVF1,qVF0,lSu0_F,AsksL,GTree.asks,FTree.asks,FactsIn,List.append_nil,List.nil_append,List.cons_append,Option.some.injEq,exists_eq',implies_true,and_self,X.bool,X.den,denL,dX,denSub,denIte,asB,dY,sals_len,sals_cell,sals_lsub,hds_len,hds_cell,hds_lsub,hds_snocN,hds_snoc0N,heads_len,whos_len,whos_cell,whos_lsub,v1,v4,v6,v300,v301,vs,sym23,sym164,sym169,sym170,sym172,sym173,sym174,sym175,sym176,sym177,hsh,hok,Int.toNat_natCast,hp,hge']
    try simp
   ·simp only [lSu0_l,qVF10,qVF9,qVF8,qVF7,qVF6,qVF5,qVF4,qVF3,qVF2,qVF1,qVF0,EndsOk,WaysOk,forall_cons,forall_nil,TgtOk,gpair,FactsIn,hold_cons,hold_nil,Option.some.injEq,dZ,X.bool,X.den,denL,dX,denSub,denIte,asB,dY,beq_iff_eq,beq_eq_false_iff_ne,ne_eq,sals_len,sals_cell,sals_lsub,hds_len,hds_cell,hds_lsub,hds_snocN,hds_snoc0N,heads_len,whos_len,whos_cell,whos_lsub,beq_iff_eq,beq_eq_false_iff_ne,ne_eq,v1,v4,v6,v300,v301,vs,h1,h4,h6,hsy,sym23,sym164,sym169,sym170,sym172,sym173,sym174,sym175,sym176,sym177,hsh,hok,Int.toNat_natCast,hp,hge',ha,reduceCtorEq,Bool.false_eq_true,false_implies,implies_true,true_implies,and_self,and_true,true_and]
    try simp [hl]
 | some w =>
   have hil : i < b.length:=(List.getElem?_eq_some_iff.1 hp).1
   have hil1 : (i : Int) < b.length:=by omega
   have hw : IntKind.i64.wrap ((i : Int) + 1) = ((i + 1 : Nat) : Int):=by rw [IntWalk.i64_in _ (by omega)]; rfl
   have hnext : b.take (i + 1) = b.take i ++ [w]:=by rw [List.take_add_one,hp]; rfl
   have hti : (b.take i).length = i:=by rw [List.length_take]; omega
   have hsp:=sum_pos hok K (b.take i) (by omega)
   cases hs : saleAt l w.n K with
   | none =>
     have hno:=all_not hp (sale_no hs)
     have go : True:=True.intro
     refine ⟨?_,?_⟩
     all_goals (simp only [lSu0_t,qVF10,qVF9,qVF8,qVF7,qVF6,qVF5,qVF4,qVF3,qVF2,qVF1,qVF0,lSu0_F,lSu0_l,AsksL,GTree.asks,FTree.asks,FactsIn,List.append_nil,List.nil_append,List.cons_append,Option.some.injEq,exists_eq',implies_true,and_self,X.bool,X.den,denL,dX,denSub,denIte,asB,dY,sals_len,sals_cell,sals_lsub,hds_len,hds_cell,hds_lsub,hds_snocN,hds_snoc0N,heads_len,whos_len,whos_cell,whos_lsub,EndsOk,WaysOk,forall_cons,forall_nil,TgtOk,gpair,FactsIn,hold_cons,hold_nil,Option.some.injEq,dZ,X.bool,X.den,denL,dX,denSub,denIte,asB,dY,beq_iff_eq,beq_eq_false_iff_ne,ne_eq,sals_len,sals_cell,sals_lsub,hds_len,hds_cell,hds_lsub,hds_snocN,hds_snoc0N,heads_len,whos_len,whos_cell,whos_lsub,beq_iff_eq,beq_eq_false_iff_ne,ne_eq,v1,v4,v6,v300,v301,vs,h1,h4,h6,hsy,sym23,sym164,sym169,sym170,sym172,sym173,sym174,sym175,sym176,sym177,hsh,hok,Int.toNat_natCast,hp,Option.bind_some,who0,hil1,hw,hs,hno,Option.isSome_none,reduceCtorEq,Bool.false_eq_true,false_implies,implies_true,true_implies,and_self,and_true,true_and])
     all_goals (clear v1 v4 v6 v300 v301 vs h1 h4 h6 hsy hF)
     all_goals ((repeat' apply And.intro) <;> intros <;> first
      | trivial
      | contradiction
      | exact go
      | (exfalso; omega)
      | (simp_all; done))
   | some x =>
     obtain ⟨hx1,hx2,hx3⟩:=sale_prc hok hs
     have hc4 : saleCell l w.n K 4 = some (.int .i64 (atP (prcM l K) w.n)):=by unfold saleCell; rw [hs,← hx1]; rfl
     have hws : IntKind.i64.wrap (sumP9 (prcM l K) (b.take i) + atP (prcM l K) w.n) = sumP9 (prcM l K) (b.take (i + 1)):=by
      rw [hnext,sumP9_snoc]
      exact IntWalk.i64_in _ (by omega)
     have go : ∃ vals',((ρ.ext lSu_D.N vals').val 301 = some (.int .i64 (sumP9 (prcM l K) (b.take (i + 1))))∧(ρ.ext lSu_D.N vals').val 300 = some (.int .i64 ((i + 1 : Nat) : Int)))∧lSu_Inv l b K 0 vals'∧lSu_mu b 0 vals' < lSu_mu b 0 [.int .i64 (i : Int),.int .i64 (sumP9 (prcM l K) (b.take i))]:=by
      refine ⟨[.int .i64 ((i + 1 : Nat) : Int),.int .i64 (sumP9 (prcM l K) (b.take (i + 1)))],⟨?_,?_⟩,⟨rfl,i + 1,by omega,rfl,?_⟩,by simp [lSu_mu,vI]; omega⟩
      ·rw [ext_high _ _ _ _ (by rw [hN]; omega)]; rfl
      ·rw [ext_high _ _ _ _ (by rw [hN]; omega)]; rfl
      ·intro y hy
       rw [hnext] at hy
       rcases List.mem_append.1 hy with hy | hy
       ·exact hall y hy
       ·obtain rfl : y = w:=by simpa using hy
        omega
     refine ⟨?_,?_⟩
     all_goals (simp only [lSu0_t,qVF10,qVF9,qVF8,qVF7,qVF6,qVF5,qVF4,qVF3,qVF2,qVF1,qVF0,lSu0_F,lSu0_l,AsksL,GTree.asks,FTree.asks,FactsIn,List.append_nil,List.nil_append,List.cons_append,Option.some.injEq,exists_eq',implies_true,and_self,X.bool,X.den,denL,dX,denSub,denIte,asB,dY,sals_len,sals_cell,sals_lsub,hds_len,hds_cell,hds_lsub,hds_snocN,hds_snoc0N,heads_len,whos_len,whos_cell,whos_lsub,EndsOk,WaysOk,forall_cons,forall_nil,TgtOk,gpair,FactsIn,hold_cons,hold_nil,Option.some.injEq,dZ,X.bool,X.den,denL,dX,denSub,denIte,asB,dY,beq_iff_eq,beq_eq_false_iff_ne,ne_eq,sals_len,sals_cell,sals_lsub,hds_len,hds_cell,hds_lsub,hds_snocN,hds_snoc0N,heads_len,whos_len,whos_cell,whos_lsub,beq_iff_eq,beq_eq_false_iff_ne,ne_eq,v1,v4,v6,v300,v301,vs,h1,h4,h6,hsy,sym23,sym164,sym169,sym170,sym172,sym173,sym174,sym175,sym176,sym177,hsh,hok,Int.toNat_natCast,hp,Option.bind_some,who0,hil1,hw,hs,hc4,hws,Option.isSome_some,reduceCtorEq,Bool.false_eq_true,false_implies,implies_true,true_implies,and_self,and_true,true_and])
     all_goals (clear v1 v4 v6 v300 v301 vs h1 h4 h6 hsy hF)
     all_goals ((repeat' apply And.intro) <;> intros <;> first
      | trivial
      | contradiction
      | exact go
      | (exfalso; omega)
      | (simp_all; done))
noncomputable def rVaL_con : Con:={ f:=10,args:=[salsArg 0 0,whosArg 1 3,.one (.int .i64 6)],N:=2,M:=2,pre:=[(.app 23 [.var 1],true)],out:=.tuple [.sint .i64 (.app 174 [.var 1,.var 4,.var 6]),.sint .i64 (.app 173 [.var 1,.var 4,.var 6])],news:=[] }
noncomputable def rVaL_call : Env→CallL:=fun E => acallAll E (evH E (RF E) ((fun E => oneH 10 (hooks [(7,lTo_D.hook E.facts rto_vs),(16,lSu_D.hook E.facts rsu_vs)])) E) 12)
noncomputable def rVaL_t : GTree:=(.fork qVF1 (.fork qVF0 (.leaf [[]]) (.fork (.app 175 [.var 4]) (.leaf [[]]) (.fork (.app 177 [qVF3,.var 4]) (.fork (.op2 .lt (.num 1000000000000) (.app 176 [qVF3,.var 4])) (.leaf [[]]) (.leaf [[]])) (.leaf [[]])))) (.leaf [[]]))
noncomputable def rVaL_l : List (List (X×Bool)×Option Pairs):=[([(qVF0,true),(qVF1,true),(qVF9,true)],some [(qVF6,.num 0),(qVF7,.num 2)]),
 ([(.app 175 [.var 4],true),(qVF0,false),(qVF1,true),(qVF9,true)],some [(qVF6,.num 0),(qVF7,.num 6)]),
 ([(.op2 .lt (.num 1000000000000) (.app 176 [qVF3,.var 4]),true),(.app 177 [qVF3,.var 4],true),(.app 175 [.var 4],false),(qVF0,false),(qVF1,true),(qVF9,true)],some [(qVF6,.num 0),(qVF7,.num 2)]),
 ([(.op2 .lt (.num 1000000000000) (.app 176 [qVF3,.var 4]),false),(.app 177 [qVF3,.var 4],true),(.app 175 [.var 4],false),(qVF0,false),(qVF1,true),(qVF9,true)],some [(qVF6,.app 176 [qVF3,.var 4]),(qVF7,.num 0)]),
 ([(.app 177 [qVF3,.var 4],false),(.app 175 [.var 4],false),(qVF0,false),(qVF1,true),(qVF9,true)],some [(qVF6,.num 0),(qVF7,.num 61)]),
 ([(qVF1,false),(qVF9,true)],some [(qVF6,.num 0),(qVF7,.app 164 [.var 1])])]
theorem rVaL_w (r : Rho) : rVaL_con.fn.ways rVaL_call E0 r rVaL_con.pre rVaL_t = some rVaL_l:=by kernel_rfl
theorem rv_H {ρ : Rho} {l : List Sal9} {b : List Who} {K : Int} {k6 : IntKind} (h1 : ρ.val 1 = some (salsR l)) (h4 : ρ.val 4 = some (whosR b)) (h6 : ρ.val 6 = some (.int k6 K)) (hsy : ρ.sym = sy) (hsh : shortB l = true) (F : List (X×Bool)) : LoopsOk (E0.with F ρ) (oneH 10 (hooks [(7,lTo_D.hook (E0.with F ρ).facts rto_vs),(16,lSu_D.hook (E0.with F ρ).facts rsu_vs)])):=by
 refine loops_all (n:=3) (fun f fn h => h) (by kernel_rfl) fun i hi => ?_
 have h012 : i = 0∨i = 1∨i = 2:=by omega
 rcases h012 with rfl | rfl | rfl
 ·rw [hooks_hit (show keyOf (loopAt (E0.with F ρ).P 10 0) = 7 by kernel_rfl)]
  refine hook_in (E₀:=E0) (run:=lTo_run) (ρ:=ρ) (Inv:=lTo_Inv b) (μ:=lTo_mu b) E0_ok lTo_ok (fun F vals => ?_) (fun hp => ?_)
  ·have hN : lTo_D.N = 100:=rfl
   exact bodyRun_ok E0_ok (noL_ok F (r:=ρ.ext lTo_D.N vals) hsy) (ti_H (r:=ρ.ext lTo_D.N vals) (by rw [ext_low _ _ _ _ (by rw [hN]; omega)]; exact h4) hsy F)
  ·have q:=hp.1
   simp only [X.bool,X.den,denL,dX,denSub,denIte,asB,dY,sals_len,sals_cell,sals_lsub,hds_len,hds_cell,hds_lsub,hds_snocN,hds_snoc0N,heads_len,whos_len,whos_cell,whos_lsub,h4,Option.some.injEq,Value.bool.injEq,decide_eq_false_iff_not] at q
   refine ⟨lTo_step h4 hsy (by omega),[.int .i64 0],?_,rfl,0,Nat.zero_le _,rfl,rfl⟩
   simp only [rto_vs,X.bool,X.den,denL,dX,denSub,denIte,asB,dY,sals_len,sals_cell,sals_lsub,hds_len,hds_cell,hds_lsub,hds_snocN,hds_snoc0N,heads_len,whos_len,whos_cell,whos_lsub]
 ·rw [hooks_miss (show Nat.beq (keyOf (loopAt (E0.with F ρ).P 10 1)) 7 = false by kernel_rfl),hooks_miss (show Nat.beq (keyOf (loopAt (E0.with F ρ).P 10 1)) 16 = false by kernel_rfl)]
  exact fun f S outs h => by cases h
 ·rw [hooks_miss (show Nat.beq (keyOf (loopAt (E0.with F ρ).P 10 2)) 7 = false by kernel_rfl),hooks_hit (show keyOf (loopAt (E0.with F ρ).P 10 2) = 16 by kernel_rfl)]
  refine hook_ok (E₀:=E0) (run:=lSu_run) (ρ:=ρ) (Inv:=lSu_Inv l b K) (μ:=lSu_mu b) E0_ok lSu_ok (fun F r' h => ?_) (fun hp => ?_)
  ·exact bodyRun_ok E0_ok (RF_ok F (h.trans hsy)) fun _ _ => noLoop_ok
  ·have q2:=hp.2.1
   have q3:=hp.2.2.1
   simp only [X.bool,X.den,denL,dX,denSub,denIte,asB,dY,sals_len,sals_cell,sals_lsub,hds_len,hds_cell,hds_lsub,hds_snocN,hds_snoc0N,heads_len,whos_len,whos_cell,whos_lsub,h1,h4,hsy,sym164,Option.some.injEq,Value.bool.injEq,decide_eq_false_iff_not,beq_iff_eq] at q2 q3
   refine ⟨lSu_step h1 h4 h6 hsy hsh q2 (by omega),[.int .i64 0,.int .i64 0],?_,rfl,0,Nat.zero_le _,rfl,fun x hx => by cases hx⟩
   simp only [rsu_vs,X.bool,X.den,denL,dX,denSub,denIte,asB,dY,sals_len,sals_cell,sals_lsub,hds_len,hds_cell,hds_lsub,hds_snocN,hds_snoc0N,heads_len,whos_len,whos_cell,whos_lsub]
theorem rVaL_cok : rVaL_con.Ok Tryz.prog sy:=by
 intro r σ w us hsy hρ hpre hrel hins
 obtain ⟨l,h1⟩:=sals_open hrel rfl hρ
 obtain ⟨b,h4⟩:=whos_open 1 4 hrel rfl hρ
 obtain ⟨u0,us,rfl,g0,hi⟩:=ins_cons hins
 obtain ⟨u1,us,rfl,g1,hi⟩:=ins_cons hi
 obtain ⟨u2,us,rfl,g2,hi⟩:=ins_cons hi
 obtain ⟨K,k6,rfl,h6⟩:=one_int g2
 rw [hρ] at h6
 have hsh : shortB l = true:=by
  have:=hpre.1
  simpa only [X.bool,X.den,denL,dX,denSub,denIte,asB,dY,sals_len,sals_cell,sals_lsub,hds_len,hds_cell,hds_lsub,hds_snocN,hds_snoc0N,snoc_nil,heads_len,h1,hsy,sym23,Option.some.injEq,Value.bool.injEq] using this
 refine con_of (E:=E0) E0_ok E0_glob (sy:=sy) (fun F => RF_ok F hsy) (fun F => rv_H h1 h4 h6 hsy hsh F) (rVaL_w r) hρ hpre hrel hins ?_ ?_
 ·simp only [rVaL_con,rVaL_t,qVF10,qVF9,qVF8,qVF7,qVF6,qVF5,qVF4,qVF3,qVF2,qVF1,qVF0,AsksL,GTree.asks,FTree.asks,FactsIn,List.append_nil,List.nil_append,List.cons_append,Option.some.injEq,exists_eq',implies_true,and_self,X.bool,X.den,denL,dX,denSub,denIte,asB,dY,sals_len,sals_cell,sals_lsub,hds_len,hds_cell,hds_lsub,hds_snocN,hds_snoc0N,heads_len,whos_len,whos_cell,whos_lsub,h1,h4,h6,hsy,sym23,sym164,sym169,sym170,sym172,sym173,sym174,sym175,sym176,sym177]
  try simp
 ·simp only [rVaL_l,qVF10,qVF9,qVF8,qVF7,qVF6,qVF5,qVF4,qVF3,qVF2,qVF1,qVF0,EndsOk,WaysOk,forall_cons,forall_nil,TgtOk,gpair,FactsIn,hold_cons,hold_nil,Option.some.injEq,dZ,X.bool,X.den,denL,dX,denSub,denIte,asB,dY,beq_iff_eq,beq_eq_false_iff_ne,ne_eq,sals_len,sals_cell,sals_lsub,hds_len,hds_cell,hds_lsub,hds_snocN,hds_snoc0N,heads_len,whos_len,whos_cell,whos_lsub,beq_iff_eq,beq_eq_false_iff_ne,ne_eq,h1,h4,h6,hsy,sym23,sym164,sym169,sym170,sym172,sym173,sym174,sym175,sym176,sym177]
  clear hsy hρ hpre hrel hins g0 g1 g2 hi h1 h4 h6
  (repeat' apply And.intro) <;> intros <;> first
    | trivial
    | (refine val_ok (l:=l) (b:=b) (K:=K) ?_ ?_ ?_ ?_ ?_ <;> assumption)
    | (refine val_much (l:=l) (b:=b) (K:=K) ?_ ?_ ?_ ?_ ?_ <;> assumption)
    | (refine val_none (l:=l) (b:=b) (K:=K) ?_ ?_ ?_ ?_ <;> assumption)
    | (refine val_twice (l:=l) (b:=b) (K:=K) ?_ ?_ ?_ <;> assumption)
    | (refine val_long (l:=l) (b:=b) (K:=K) ?_ ?_ <;> assumption)
    | (refine val_err (l:=l) (b:=b) (K:=K) ?_ <;> assumption)
noncomputable def rVaN_con : Con:={ f:=10,args:=[salsArg 0 0,.nils,.one (.int .i64 6)],N:=1,M:=1,pre:=[(.app 23 [.var 1],true),(.op2 .eq (.app 164 [.var 1]) (.num 0),true)],out:=.tuple [.int .i64 0,.int .i64 0],news:=[] }
noncomputable def rVaN_call : Env→CallL:=fun E => acallAll E (evH E (RF E) ((fun _ => noLoops) E) 12)
noncomputable def rVaN_t : GTree:=(.leaf [[]])
noncomputable def rVaN_l : List (List (X×Bool)×Option Pairs):=[([(qVF9,true),(qVF1,true)],some [])]
theorem rVaN_w (r : Rho) : rVaN_con.fn.ways rVaN_call E0 r rVaN_con.pre rVaN_t = some rVaN_l:=by kernel_rfl
theorem rVaN_cok : rVaN_con.Ok Tryz.prog sy:=by
 intro r σ w us hsy hρ hpre hrel hins
 obtain ⟨l,h1⟩:=sals_open hrel rfl hρ
 obtain ⟨u0,us,rfl,g0,hi⟩:=ins_cons hins
 obtain ⟨u1,us,rfl,g1,hi⟩:=ins_cons hi
 obtain ⟨u2,us,rfl,g2,hi⟩:=ins_cons hi
 obtain ⟨K,k6,rfl,h6⟩:=one_int g2
 rw [hρ] at h6
 have hsh : shortB l = true:=by
  have:=hpre.1
  simpa only [X.bool,X.den,denL,dX,denSub,denIte,asB,dY,sals_len,sals_cell,sals_lsub,hds_len,hds_cell,hds_lsub,hds_snocN,hds_snoc0N,snoc_nil,heads_len,h1,hsy,sym23,Option.some.injEq,Value.bool.injEq] using this
 refine con_of (E:=E0) E0_ok E0_glob (sy:=sy) (fun F => RF_ok F hsy) (fun F => noH_ok) (rVaN_w r) hρ hpre hrel hins ?_ ?_
 ·simp only [rVaN_con,rVaN_t,qVF10,qVF9,qVF8,qVF7,qVF6,qVF5,qVF4,qVF3,qVF2,qVF1,qVF0,AsksL,GTree.asks,FTree.asks,FactsIn,List.append_nil,List.nil_append,List.cons_append,Option.some.injEq,exists_eq',implies_true,and_self,X.bool,X.den,denL,dX,denSub,denIte,asB,dY,sals_len,sals_cell,sals_lsub,hds_len,hds_cell,hds_lsub,hds_snocN,hds_snoc0N,heads_len,whos_len,whos_cell,whos_lsub,h1,h6,hsy,sym23,sym164,sym169,sym170,sym172,sym173,sym174,sym175,sym176,sym177]
  try simp
 ·simp only [rVaN_l,qVF10,qVF9,qVF8,qVF7,qVF6,qVF5,qVF4,qVF3,qVF2,qVF1,qVF0,EndsOk,WaysOk,forall_cons,forall_nil,TgtOk,gpair,FactsIn,hold_cons,hold_nil,Option.some.injEq,dZ,X.bool,X.den,denL,dX,denSub,denIte,asB,dY,beq_iff_eq,beq_eq_false_iff_ne,ne_eq,sals_len,sals_cell,sals_lsub,hds_len,hds_cell,hds_lsub,hds_snocN,hds_snoc0N,heads_len,whos_len,whos_cell,whos_lsub,beq_iff_eq,beq_eq_false_iff_ne,ne_eq,h1,h6,hsy,sym23,sym164,sym169,sym170,sym172,sym173,sym174,sym175,sym176,sym177]
  try simp
end Go.Proofs.YtckefonlahokkaaGreatDoor.Zs
