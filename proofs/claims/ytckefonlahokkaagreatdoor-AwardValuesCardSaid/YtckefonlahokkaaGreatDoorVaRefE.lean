/-
  Contracts of the reference: Sold.
-/
import Derived.Test.YtckefonlahokkaaGreatDoorVaRefD
import Derived.Test.YtckefonlahokkaaGreatDoorVaAcc
import Derived.KernelRfl
set_option linter.unusedSimpArgs false
set_option linter.unusedVariables false
namespace Go.Proofs.YtckefonlahokkaaGreatDoor.Zs
open Go
noncomputable def RE : Env→CallE:=libs [cLib rCks_con,cLib rSsN_con,cLib rSsY_con,cLib rCt_con]
theorem RE_ok (F : List (X×Bool)) {r : Rho} (h : r.sym = sy) : CallsOk (E0.with F r) (RE (E0.with F r)):=libs_ok fun c hc => by
 simp only [List.mem_cons,List.not_mem_nil,or_false] at hc
 rcases hc with rfl | rfl | rfl | rfl
 ·exact lib_ok (E:=E0) rCks_cok F h
 ·exact lib_ok (E:=E0) rSsN_cok F h
 ·exact lib_ok (E:=E0) rSsY_cok F h
 ·exact lib_ok (E:=E0) rCt_cok F h
def rri_vs : List X:=[.num 0]
def rro_vs : List X:=[.num 0,.nil]
noncomputable def lRi_D : LoopD:={ N:=200,M:=201,size:=sizeOfF 13,reads:=[(0,.rows 9 salSch (.var 0) (.var 1) false 27),(1,.rows 3 hdSch (.num 0) (.app 180 [.var 1]) true 78),(110,.rows 1 [.int .i64] (.num 0) (.var 101) true 3)],pats:=[{ slots:=[(0,.slx 0 9 (.var 0) (.num 0) (.op1 .len (.var 1)) (.var 2)),(1,.sint .i64 (.var 4)),(7,.slo 1 3 (.op1 .len (.app 180 [.var 1]))),(8,.slo 110 1 (.op1 .len (.var 101))),(9,.sint .i64 (.var 100)),(10,.sint .i64 (.var 200))],heap:=[] }],exits:=[(.exit 2,{ slots:=[(0,.slx 0 9 (.var 0) (.num 0) (.op1 .len (.var 1)) (.var 2)),(1,.sint .i64 (.var 4)),(7,.slo 1 3 (.op1 .len (.app 180 [.var 1]))),(8,.slo 110 1 (.op1 .len (.var 101))),(9,.sint .i64 (.var 100)),(10,.sint .i64 (.app 188 [.var 101,.cell 3 (.var 1) (.var 100)]))],heap:=[] })],own:=[],pre:=[(.app 191 [.var 101],true),(.op2 .lt (.num 2000) (.op1 .len (.var 101)),false),(.op2 .lt (.var 100) (.op1 .len (.var 1)),true),(.op2 .lt (.var 100) (.num 0),false)],dfs:=[] }
noncomputable def lRi_run : Env→AF→ASt→Option (List Out):=bodyRun noL 6 (fun _ => noLoop) (loopAt Tryz.prog 13 1)
def lRi0_F : List (X×Bool):=[(.op2 .lt (.var 200) (.num 0),false),(.app 191 [.var 101],true),(.op2 .lt (.num 2000) (.op1 .len (.var 101)),false),(.op2 .lt (.var 100) (.op1 .len (.var 1)),true),(.op2 .lt (.var 100) (.num 0),false)]
def qVE0 : X:=.app 188 [(.var 101),(.cell 3 (.var 1) (.var 100))]
def qVE1 : X:=.app 182 [(.app 180 [(.var 1)]),(.cell 0 (.app 180 [(.var 1)]) (.var 100)),(.cell 1 (.app 180 [(.var 1)]) (.var 100)),(.cell 2 (.app 180 [(.var 1)]) (.var 100)),(.var 4)]
def qVE2 : X:=.op1 .len (.var 101)
def qVE3 : X:=.op1 .len (.app 180 [(.var 1)])
def qVE4 : X:=.op2 .lt (.var 100) (.op1 .len (.var 1))
def qVE5 : X:=.op2 .eq (.app 164 [(.var 1)]) (.num 0)
def qVE6 : X:=.op2 .lt (.var 100) (.num 0)
def qVE7 : X:=.op1 (.kind .i64) (.cell 3 (.var 1) (.var 100))
def qVE8 : X:=.op2 .lt (.var 100) qVE3
def qVE9 : X:=.op2 .lt (.num 2000) qVE2
def qVE10 : X:=.op2 .lt (.num 1010) qVE3
def qVE11 : X:=.app 23 [(.var 1)]
def qVE12 : X:=.app 191 [(.var 101)]
def qVE13 : X:=.op2 .lt (.num 1000000000) (.op2 .add (.op1 .len (.lsub (.var 101) (.num 0) qVE0)) (.num 1))
def qVE14 : X:=.op2 .lcat (.snoc (.lsub (.var 101) (.num 0) qVE0) [qVE7]) (.lsub (.var 101) qVE0 qVE2)
def qVE15 : X:=.op2 .eq (.op1 .len (.app 171 [(.var 1),(.var 4)])) (.num 0)
def qVE16 : X:=.op1 (.wrap .i64) (.op2 .add (.var 100) (.num 1))
def qVE17 : X:=.op2 .lcat (.snoc .nil [qVE7]) (.lsub (.var 101) qVE0 qVE2)
def qVE18 : X:=.app 113 [(.app 171 [(.var 1),(.var 4)])]
def qVE19 : X:=.op2 .lt qVE0 (.num 0)
def qVE20 : X:=.op2 .lt (.num 0) (.op1 .len (.var 1))
def qVE21 : X:=.op2 .lt (.num 0) qVE0
def qVE22 : X:=.op2 .lt (.num 1000000000) qVE0
def qVE23 : X:=.op2 .lt qVE2 qVE0
def qVE24 : X:=.op2 .lt (.cell 0 (.var 101) (.var 200)) (.cell 3 (.var 1) (.var 100))
noncomputable def lRi0_t : FTree:=(.fork (.op2 .lt (.var 200) qVE2) (.fork qVE24 (.leaf [.again 0 []]) (.leaf [.leave 0 []])) (.leaf [.leave 0 []]))
noncomputable def lRi0_l : List (List (X×Bool)×Option (List (Tgt×Pairs))):=[([(qVE24,true),(.op2 .lt (.var 200) qVE2,true),(.op2 .lt (.var 200) (.num 0),false),(qVE12,true),(qVE9,false),(qVE4,true),(qVE6,false)],some [(.again 0 [],[(.var 200,.op1 (.wrap .i64) (.op2 .add (.var 200) (.num 1)))])]),
 ([(qVE24,false),(.op2 .lt (.var 200) qVE2,true),(.op2 .lt (.var 200) (.num 0),false),(qVE12,true),(qVE9,false),(qVE4,true),(qVE6,false)],some [(.leave 0 [],[(qVE0,.var 200)])]),
 ([(.op2 .lt (.var 200) qVE2,false),(.op2 .lt (.var 200) (.num 0),false),(qVE12,true),(qVE9,false),(qVE4,true),(qVE6,false)],some [(.leave 0 [],[(qVE0,.var 200)])])]
theorem lRi0_w (r : Rho) : lRi_D.ways lRi_run E0 r 0 lRi0_F lRi0_t = some lRi0_l:=by kernel_rfl
theorem lRi_ok : lRi_D.ok = true:=by kernel_rfl
def lRi_Inv (s : List Who) (p : Int) (j : Nat) (vals : List Value) : Prop:=j = 0∧∃ k : Nat,k≤insP s p∧vals = [.int .i64 (k : Int)]
def lRi_mu (s : List Who) (_ : Nat) (vals : List Value) : Nat:=s.length - (vI (vals.getD 0 default)).toNat
set_option maxHeartbeats 1000000 in
theorem lRi_step {ρ : Rho} {l : List Sal9} {s : List Who} {i : Nat} {ki : IntKind} {x : Sal9} (h1 : ρ.val 1 = some (salsR l)) (h100 : ρ.val 100 = some (.int ki (i : Int))) (h101 : ρ.val 101 = some (whosR s)) (hsy : ρ.sym = sy) (hp : l[i]? = some x) (hsm : (s.length : Int)≤2000) (j : Nat) (vals : List Value) (hI : lRi_Inv s x.parcel j vals) : StepOk lRi_D lRi_run E0 ρ (lRi_Inv s x.parcel) (lRi_mu s) j vals:=by
 obtain ⟨rfl,k,hk,rfl⟩:=hI
 have hN : lRi_D.N = 200:=rfl
 have hle:=insP_le x.parcel s
 have hil : i < l.length:=(List.getElem?_eq_some_iff.1 hp).1
 have hil1 : (i : Int) < l.length:=by omega
 have v1 : (ρ.ext lRi_D.N [.int .i64 (k : Int)]).val 1 = some (salsR l):=by rw [ext_low _ _ _ _ (by rw [hN]; omega)]; exact h1
 have v100 : (ρ.ext lRi_D.N [.int .i64 (k : Int)]).val 100 = some (.int ki (i : Int)):=by rw [ext_low _ _ _ _ (by rw [hN]; omega)]; exact h100
 have v101 : (ρ.ext lRi_D.N [.int .i64 (k : Int)]).val 101 = some (whosR s):=by rw [ext_low _ _ _ _ (by rw [hN]; omega)]; exact h101
 have v200 : (ρ.ext lRi_D.N [.int .i64 (k : Int)]).val 200 = some (.int .i64 (k : Int)):=by rw [ext_high _ _ _ _ (by rw [hN]; omega)]; rfl
 have vs : (ρ.ext lRi_D.N [.int .i64 (k : Int)]).sym = sy:=hsy
 have hF : FactsIn (ρ.ext lRi_D.N [.int .i64 (k : Int)]) lRi0_F:=by
  simp only [lRi0_F,FactsIn,X.bool,X.den,denL,dX,denSub,denIte,asB,dY,sals_len,sals_cell,sals_lsub,hds_len,hds_cell,hds_lsub,hds_snocN,hds_snoc0N,heads_len,whos_len,whos_cell,whos_lsub,whos_lcat,whos_snocN,whos_snoc0N,v1,v100,v101,v200,vs,sym191,Option.some.injEq,Value.bool.injEq,decide_eq_true_eq,decide_eq_false_iff_not,and_true,true_and]
  omega
 suffices both : AsksL (ρ.ext lRi_D.N [.int .i64 (k : Int)]) (lRi0_t.asks lRi0_F)∧WaysOk lRi_D ρ (lRi_Inv s x.parcel) (lRi_mu s) 0 [.int .i64 (k : Int)] lRi0_l from step_of_ways (lRi0_w _) hF both.1.ok both.2
 cases hw : s[k]? with
 | none =>
   have hge:=List.getElem?_eq_none_iff.1 hw
   have hge' : ¬ (k : Int) < s.length:=by omega
   have hat : insP s x.parcel = k:=by omega
   refine ⟨?_,?_⟩
   ·simp only [lRi0_t,qVE24,qVE23,qVE22,qVE21,qVE20,qVE19,qVE18,qVE17,qVE16,qVE15,qVE14,qVE13,qVE12,qVE11,qVE10,qVE9,qVE8,qVE7,qVE6,qVE5,qVE4,qVE3,qVE2,qVE1,qVE0,lRi0_F,AsksL,GTree.asks,FTree.asks,FactsIn,List.append_nil,List.nil_append,List.cons_append,Option.some.injEq,exists_eq',implies_true,and_self,X.bool,X.den,denL,dX,denSub,denIte,asB,dY,sals_len,sals_cell,sals_lsub,hds_len,hds_cell,hds_lsub,hds_snocN,hds_snoc0N,heads_len,whos_len,whos_cell,whos_lsub,whos_lcat,whos_snocN,whos_snoc0N,v1,v100,v101,v200,vs,sym23,sym164,sym171,sym180,sym182,sym188,sym191,Int.toNat_natCast,hp,hw,hge',Option.bind_some,sal0,sal1,sal2,sal3,sal4,sal5,sal6,sal7,sal8]
    try simp
   ·simp only [lRi0_l,qVE24,qVE23,qVE22,qVE21,qVE20,qVE19,qVE18,qVE17,qVE16,qVE15,qVE14,qVE13,qVE12,qVE11,qVE10,qVE9,qVE8,qVE7,qVE6,qVE5,qVE4,qVE3,qVE2,qVE1,qVE0,EndsOk,WaysOk,forall_cons,forall_nil,TgtOk,gpair,FactsIn,hold_cons,hold_nil,Option.some.injEq,dZ,X.bool,X.den,denL,dX,denSub,denIte,asB,dY,beq_iff_eq,beq_eq_false_iff_ne,ne_eq,sals_len,sals_cell,sals_lsub,hds_len,hds_cell,hds_lsub,hds_snocN,hds_snoc0N,heads_len,whos_len,whos_cell,whos_lsub,whos_lcat,whos_snocN,whos_snoc0N,beq_iff_eq,beq_eq_false_iff_ne,ne_eq,v1,v100,v101,v200,vs,h1,h100,h101,hsy,sym23,sym164,sym171,sym180,sym182,sym188,sym191,Int.toNat_natCast,hp,hw,hge',Option.bind_some,sal0,sal1,sal2,sal3,sal4,sal5,sal6,sal7,sal8,reduceCtorEq,Bool.false_eq_true,false_implies,implies_true,true_implies,and_self,and_true,true_and]
    try simp [hat]
 | some w =>
   have hkl : k < s.length:=(List.getElem?_eq_some_iff.1 hw).1
   have hkl1 : (k : Int) < s.length:=by omega
   have hwk : IntKind.i64.wrap ((k : Int) + 1) = ((k + 1 : Nat) : Int):=by rw [IntWalk.i64_in _ (by omega)]; rfl
   have go : w.n < x.parcel→∃ vals',(ρ.ext lRi_D.N vals').val 200 = some (.int .i64 ((k + 1 : Nat) : Int))∧lRi_Inv s x.parcel 0 vals'∧lRi_mu s 0 vals' < lRi_mu s 0 [.int .i64 (k : Int)]:=by
    intro hl
    refine ⟨[.int .i64 ((k + 1 : Nat) : Int)],?_,⟨rfl,k + 1,insP_next _ s k w hk hw hl,rfl⟩,by simp [lRi_mu,vI]; omega⟩
    rw [ext_high _ _ _ _ (by rw [hN]; omega)]; rfl
   have stop : ¬ w.n < x.parcel→(insP s x.parcel : Int) = (k : Int):=fun h => by rw [insP_stop hk fun v hv => by rw [hw] at hv; cases hv; exact h]
   refine ⟨?_,?_⟩
   all_goals (simp only [lRi0_t,qVE24,qVE23,qVE22,qVE21,qVE20,qVE19,qVE18,qVE17,qVE16,qVE15,qVE14,qVE13,qVE12,qVE11,qVE10,qVE9,qVE8,qVE7,qVE6,qVE5,qVE4,qVE3,qVE2,qVE1,qVE0,lRi0_F,lRi0_l,AsksL,GTree.asks,FTree.asks,FactsIn,List.append_nil,List.nil_append,List.cons_append,Option.some.injEq,exists_eq',implies_true,and_self,X.bool,X.den,denL,dX,denSub,denIte,asB,dY,sals_len,sals_cell,sals_lsub,hds_len,hds_cell,hds_lsub,hds_snocN,hds_snoc0N,heads_len,whos_len,whos_cell,whos_lsub,whos_lcat,whos_snocN,whos_snoc0N,EndsOk,WaysOk,forall_cons,forall_nil,TgtOk,gpair,FactsIn,hold_cons,hold_nil,Option.some.injEq,dZ,X.bool,X.den,denL,dX,denSub,denIte,asB,dY,beq_iff_eq,beq_eq_false_iff_ne,ne_eq,sals_len,sals_cell,sals_lsub,hds_len,hds_cell,hds_lsub,hds_snocN,hds_snoc0N,heads_len,whos_len,whos_cell,whos_lsub,whos_lcat,whos_snocN,whos_snoc0N,beq_iff_eq,beq_eq_false_iff_ne,ne_eq,v1,v100,v101,v200,vs,h1,h100,h101,hsy,sym23,sym164,sym171,sym180,sym182,sym188,sym191,Int.toNat_natCast,hp,hw,Option.bind_some,sal0,sal1,sal2,sal3,sal4,sal5,sal6,sal7,sal8,who0,hkl1,hil1,hwk,reduceCtorEq,Bool.false_eq_true,false_implies,implies_true,true_implies,and_self,and_true,true_and])
   all_goals (clear v1 v100 v101 v200 vs h1 h100 h101 hsy hF)
   all_goals ((repeat' apply And.intro) <;> intros <;> first
    | trivial
    | contradiction
    | (exact go (by assumption))
    | (exact stop (by assumption))
    | (exfalso; omega)
    | (simp_all; done))
theorem ri_body : loopsOf (loopAt Tryz.prog 13 0) = [loopAt Tryz.prog 13 1]:=by kernel_rfl
theorem ri_key : keyOf (loopAt Tryz.prog 13 1) = 11:=by kernel_rfl
def sOf (r : Rho) : List Who:=match r.val 101 with
 | some v => whosV v
 | none => []
def pOf (r : Rho) (l : List Sal9) : Int:=((l[iOf r]?).map Sal9.parcel).getD 0
theorem app_true {v : Value} {k : Nat} (h : (match sy k [v] with | some (.bool b) => some b | _ => none) = some true) : sy k [v] = some (.bool true):=by
 split at h
 ·rename_i b e
  rw [e]; rw [Option.some.inj h]
 ·cases h
theorem ri_H {r : Rho} {l : List Sal9} (h1 : r.val 1 = some (salsR l)) (hsy : r.sym = sy) (F : List (X×Bool)) :
  ∀ c' ∈ loopsOf (loopAt Tryz.prog 13 0),CodeOk (E0.with F r) none (.loop c') (hooks [(11,lRi_D.hook (E0.with F r).facts rri_vs)] c'):=by
 rw [ri_body]
 refine mem_onlyV (P:=fun c' => CodeOk (E0.with F r) none (.loop c') (hooks [(11,lRi_D.hook (E0.with F r).facts rri_vs)] c')) ?_
 show CodeOk (E0.with F r) none (.loop (loopAt Tryz.prog 13 1)) (hooks [(11,lRi_D.hook (E0.with F r).facts rri_vs)] (loopAt Tryz.prog 13 1))
 rw [hooks_hit ri_key]
 refine hook_ok (E₀:=E0) (run:=lRi_run) (ρ:=r) (Inv:=lRi_Inv (sOf r) (pOf r l)) (μ:=lRi_mu (sOf r)) E0_ok lRi_ok (fun F r' h => ?_) (fun hq => ?_)
 ·exact bodyRun_ok E0_ok (noL_ok F (h.trans hsy)) fun _ _ => noLoop_ok
 ·have q1:=hq.1
  have q2:=hq.2.1
  obtain ⟨ki,i,h100,hlt⟩:=idx_sals h1 hq.2.2.1 hq.2.2.2.1
  obtain ⟨s,h101⟩ : ∃ s : List Who,r.val 101 = some (whosR s):=by
   simp only [X.bool,X.den,denL,hsy] at q1
   cases hv : r.val 101 with
   | none => rw [hv] at q1; cases q1
   | some v =>
     rw [hv] at q1
     obtain ⟨m,rfl⟩:=ints_at (app_true (k:=191) q1)
     exact ⟨m,rfl⟩
  have hsm : (s.length : Int)≤2000:=by
   simp only [X.bool,X.den,denL,dX,denSub,denIte,asB,dY,sals_len,sals_cell,sals_lsub,hds_len,hds_cell,hds_lsub,hds_snocN,hds_snoc0N,heads_len,whos_len,whos_cell,whos_lsub,whos_lcat,whos_snocN,whos_snoc0N,h101,Option.some.injEq,Value.bool.injEq,decide_eq_false_iff_not] at q2
   omega
  have hi : iOf r = i:=by simp [iOf,h100]
  have hp : l[i]? = some l[i]:=List.getElem?_eq_getElem hlt
  have e1 : sOf r = s:=by unfold sOf; rw [h101]; exact whosV_R s
  have e2 : pOf r l = (l[i]).parcel:=by unfold pOf; rw [hi,hp]; rfl
  rw [e1,e2]
  refine ⟨lRi_step h1 h100 h101 hsy hp hsm,[.int .i64 0],?_,rfl,0,Nat.zero_le _,rfl⟩
  simp only [rri_vs,X.bool,X.den,denL,dX,denSub,denIte,asB,dY,sals_len,sals_cell,sals_lsub,hds_len,hds_cell,hds_lsub,hds_snocN,hds_snoc0N,heads_len,whos_len,whos_cell,whos_lsub,whos_lcat,whos_snocN,whos_snoc0N]
noncomputable def lRo_D : LoopD:={ N:=100,M:=111,size:=sizeOfF 13,reads:=[(0,.rows 9 salSch (.var 0) (.var 1) false 27),(1,.rows 3 hdSch (.num 0) (.app 180 [.var 1]) true 78)],pats:=[{ slots:=[(0,.slx 0 9 (.var 0) (.num 0) (.op1 .len (.var 1)) (.var 2)),(1,.sint .i64 (.var 4)),(7,.slo 1 3 (.op1 .len (.app 180 [.var 1]))),(8,.nilslice),(9,.sint .i64 (.var 100))],heap:=[] },{ slots:=[(0,.slx 0 9 (.var 0) (.num 0) (.op1 .len (.var 1)) (.var 2)),(1,.sint .i64 (.var 4)),(7,.slo 1 3 (.op1 .len (.app 180 [.var 1]))),(8,.slo 110 1 (.op1 .len (.var 101))),(9,.sint .i64 (.var 100))],heap:=[(110,.rows 1 [.int .i64] (.num 0) (.var 101) true 3)] }],exits:=[(.exit 0,{ slots:=[(8,.nilslice)],heap:=[],guard:=.op2 .eq (.op1 .len (.app 171 [.var 1,.var 4])) (.num 0) }),(.exit 0,{ slots:=[(8,.slo 110 1 (.op1 .len (.app 113 [.app 171 [.var 1,.var 4]])))],heap:=[(110,.rows 1 [.int .i64] (.num 0) (.app 113 [.app 171 [.var 1,.var 4]]) true 3)],guard:=.op1 .not (.op2 .eq (.op1 .len (.app 171 [.var 1,.var 4])) (.num 0)) })],own:=[],pre:=[(.app 23 [.var 1],true),(.op2 .eq (.app 164 [.var 1]) (.num 0),true)],dfs:=[] }
noncomputable def lRo_run : Env→AF→ASt→Option (List Out):=bodyRun RE 9 (fun E => hooks [(11,lRi_D.hook E.facts rri_vs)]) (loopAt Tryz.prog 13 0)
def lRo0_F : List (X×Bool):=[(.op2 .lt (.var 100) (.num 0),false),(.app 23 [.var 1],true),(.op2 .eq (.app 164 [.var 1]) (.num 0),true)]
def lRo1_F : List (X×Bool):=[(.op2 .lt (.var 100) (.num 0),false),(.app 23 [.var 1],true),(.op2 .eq (.app 164 [.var 1]) (.num 0),true),(.app 191 [.var 101],true),(.op2 .lt (.num 2000) (.op1 .len (.var 101)),false)]
noncomputable def lRo0_t : FTree:=(.fork qVE4 (.fork qVE8 (.fork qVE10 .bad (.fork qVE1 (.fork qVE12 (.fork qVE9 (.leaf [.again 1 [(110,112)]]) (.leaf [.again 1 [(110,112)]])) (.leaf [.again 1 [(110,112)]])) (.leaf [.again 0 []]))) .bad) (.leaf [.leave 0 []]))
noncomputable def lRo0_l : List (List (X×Bool)×Option (List (Tgt×Pairs))):=[([(qVE10,true),(qVE8,true),(qVE4,true),(qVE6,false),(qVE11,true),(qVE5,true)],none),
 ([(qVE9,true),(qVE12,true),(qVE1,true),(qVE10,false),(qVE8,true),(qVE4,true),(qVE6,false),(qVE11,true),(qVE5,true)],some [(.again 1 [(110,112)],[(qVE2,.num 1),(.var 100,qVE16),(.var 101,.snoc .nil [qVE7])])]),
 ([(qVE9,false),(qVE12,true),(qVE1,true),(qVE10,false),(qVE8,true),(qVE4,true),(qVE6,false),(qVE11,true),(qVE5,true)],some [(.again 1 [(110,112)],[(qVE2,.num 1),(.var 100,qVE16),(.var 101,.snoc .nil [qVE7])])]),
 ([(qVE12,false),(qVE1,true),(qVE10,false),(qVE8,true),(qVE4,true),(qVE6,false),(qVE11,true),(qVE5,true)],some [(.again 1 [(110,112)],[(qVE2,.num 1),(.var 100,qVE16),(.var 101,.snoc .nil [qVE7])])]),
 ([(qVE1,false),(qVE10,false),(qVE8,true),(qVE4,true),(qVE6,false),(qVE11,true),(qVE5,true)],some [(.again 0 [],[(.var 100,qVE16)])]),
 ([(qVE8,false),(qVE4,true),(qVE6,false),(qVE11,true),(qVE5,true)],none),
 ([(qVE4,false),(qVE6,false),(qVE11,true),(qVE5,true)],some [(.leave 0 [],[(qVE15,.boo true)])])]
theorem lRo0_w (r : Rho) : lRo_D.ways lRo_run E0 r 0 lRo0_F lRo0_t = some lRo0_l:=by kernel_rfl
noncomputable def lRo1_t : FTree:=(.fork qVE4 (.fork qVE8 (.fork qVE10 .bad (.fork qVE1 (.fork qVE19 .bad (.fork qVE23 .bad (.fork qVE21 (.fork qVE22 .bad (.fork qVE13 .bad (.fork (.op2 .lt qVE2 qVE2) .bad (.fork (.op2 .lt (.num 1000000000) (.op1 .len qVE14)) .bad (.leaf [.again 1 [(110,204)]]))))) (.fork (.op2 .lt qVE2 qVE2) .bad (.fork (.op2 .lt (.num 1000000000) (.op1 .len qVE17)) .bad (.leaf [.again 1 [(110,203)]])))))) (.leaf [.again 1 [(110,110)]]))) .bad) (.leaf [.leave 1 [(110,110)]]))
noncomputable def lRo1_l : List (List (X×Bool)×Option (List (Tgt×Pairs))):=[([(qVE10,true),(qVE8,true),(qVE4,true),(qVE6,false),(qVE11,true),(qVE5,true),(qVE12,true),(qVE9,false)],none),
 ([(qVE19,true),(qVE1,true),(qVE10,false),(qVE8,true),(qVE4,true),(qVE6,false),(qVE11,true),(qVE5,true),(qVE12,true),(qVE9,false)],none),
 ([(qVE23,true),(qVE19,false),(qVE1,true),(qVE10,false),(qVE8,true),(qVE4,true),(qVE6,false),(qVE11,true),(qVE5,true),(qVE12,true),(qVE9,false)],none),
 ([(qVE22,true),(qVE21,true),(qVE23,false),(qVE19,false),(qVE1,true),(qVE10,false),(qVE8,true),(qVE4,true),(qVE6,false),(qVE11,true),(qVE5,true),(qVE12,true),(qVE9,false)],none),
 ([(qVE13,true),(qVE22,false),(qVE21,true),(qVE23,false),(qVE19,false),(qVE1,true),(qVE10,false),(qVE8,true),(qVE4,true),(qVE6,false),(qVE11,true),(qVE5,true),(qVE12,true),(qVE9,false)],none),
 ([(.op2 .lt qVE2 qVE2,true),(qVE13,false),(qVE22,false),(qVE21,true),(qVE23,false),(qVE19,false),(qVE1,true),(qVE10,false),(qVE8,true),(qVE4,true),(qVE6,false),(qVE11,true),(qVE5,true),(qVE12,true),(qVE9,false)],none),
 ([(.op2 .lt (.num 1000000000) (.op1 .len qVE14),true),(.op2 .lt qVE2 qVE2,false),(qVE13,false),(qVE22,false),(qVE21,true),(qVE23,false),(qVE19,false),(qVE1,true),(qVE10,false),(qVE8,true),(qVE4,true),(qVE6,false),(qVE11,true),(qVE5,true),(qVE12,true),(qVE9,false)],none),
 ([(.op2 .lt (.num 1000000000) (.op1 .len qVE14),false),(.op2 .lt qVE2 qVE2,false),(qVE13,false),(qVE22,false),(qVE21,true),(qVE23,false),(qVE19,false),(qVE1,true),(qVE10,false),(qVE8,true),(qVE4,true),(qVE6,false),(qVE11,true),(qVE5,true),(qVE12,true),(qVE9,false)],some [(.again 1 [(110,204)],[(qVE2,.op1 .len qVE14),(.var 100,qVE16),(.var 101,qVE14)])]),
 ([(.op2 .lt qVE2 qVE2,true),(qVE21,false),(qVE23,false),(qVE19,false),(qVE1,true),(qVE10,false),(qVE8,true),(qVE4,true),(qVE6,false),(qVE11,true),(qVE5,true),(qVE12,true),(qVE9,false)],none),
 ([(.op2 .lt (.num 1000000000) (.op1 .len qVE17),true),(.op2 .lt qVE2 qVE2,false),(qVE21,false),(qVE23,false),(qVE19,false),(qVE1,true),(qVE10,false),(qVE8,true),(qVE4,true),(qVE6,false),(qVE11,true),(qVE5,true),(qVE12,true),(qVE9,false)],none),
 ([(.op2 .lt (.num 1000000000) (.op1 .len qVE17),false),(.op2 .lt qVE2 qVE2,false),(qVE21,false),(qVE23,false),(qVE19,false),(qVE1,true),(qVE10,false),(qVE8,true),(qVE4,true),(qVE6,false),(qVE11,true),(qVE5,true),(qVE12,true),(qVE9,false)],some [(.again 1 [(110,203)],[(qVE2,.op1 .len qVE17),(.var 100,qVE16),(.var 101,qVE17)])]),
 ([(qVE1,false),(qVE10,false),(qVE8,true),(qVE4,true),(qVE6,false),(qVE11,true),(qVE5,true),(qVE12,true),(qVE9,false)],some [(.again 1 [(110,110)],[(qVE2,qVE2),(.var 100,qVE16),(.var 101,.var 101)])]),
 ([(qVE8,false),(qVE4,true),(qVE6,false),(qVE11,true),(qVE5,true),(qVE12,true),(qVE9,false)],none),
 ([(qVE4,false),(qVE6,false),(qVE11,true),(qVE5,true),(qVE12,true),(qVE9,false)],some [(.leave 1 [(110,110)],[(.op1 .len qVE18,qVE2),(qVE18,.var 101),(.op1 .not qVE15,.boo true)])])]
theorem lRo1_w (r : Rho) : lRo_D.ways lRo_run E0 r 1 lRo1_F lRo1_t = some lRo1_l:=by kernel_rfl
theorem lRo_ok : lRo_D.ok = true:=by kernel_rfl
def lRo_Inv (l : List Sal9) (K : Int) (j : Nat) (vals : List Value) : Prop:=
 ∃ i : Nat,i≤l.length∧((j = 0∧vals = [.int .i64 (i : Int),whosR []]∧insI l K i = [])∨(j = 1∧vals = [.int .i64 (i : Int),whosR (insI l K i)]∧insI l K i≠[]))
def lRo_mu (l : List Sal9) (_ : Nat) (vals : List Value) : Nat:=l.length - (vI (vals.getD 0 default)).toNat
set_option maxHeartbeats 4000000 in
theorem lRo_step0 {ρ : Rho} {l : List Sal9} {K : Int} {k4 : IntKind} (h1 : ρ.val 1 = some (salsR l)) (h4 : ρ.val 4 = some (.int k4 K)) (hsy : ρ.sym = sy) (hsh : shortB l = true) (hok : chkE l = 0) {i : Nat} (hi : i≤l.length) (hn : insI l K i = []) : StepOk lRo_D lRo_run E0 ρ (lRo_Inv l K) (lRo_mu l) 0 [.int .i64 (i : Int),whosR []]:=by
 have hN : lRo_D.N = 100:=rfl
 have hmax:=short_len hsh
 have v1 : (ρ.ext lRo_D.N [.int .i64 (i : Int),whosR []]).val 1 = some (salsR l):=by rw [ext_low _ _ _ _ (by rw [hN]; omega)]; exact h1
 have v4 : (ρ.ext lRo_D.N [.int .i64 (i : Int),whosR []]).val 4 = some (.int k4 K):=by rw [ext_low _ _ _ _ (by rw [hN]; omega)]; exact h4
 have v100 : (ρ.ext lRo_D.N [.int .i64 (i : Int),whosR []]).val 100 = some (.int .i64 (i : Int)):=by rw [ext_high _ _ _ _ (by rw [hN]; omega)]; rfl
 have v101 : (ρ.ext lRo_D.N [.int .i64 (i : Int),whosR []]).val 101 = some (whosR []):=by rw [ext_high _ _ _ _ (by rw [hN]; omega)]; rfl
 have vs : (ρ.ext lRo_D.N [.int .i64 (i : Int),whosR []]).sym = sy:=hsy
 have hlen:=insI_len l K i
 have hF : FactsIn (ρ.ext lRo_D.N [.int .i64 (i : Int),whosR []]) lRo0_F:=by
  simp only [lRo0_F,FactsIn,X.bool,X.den,denL,dX,denSub,denIte,asB,dY,sals_len,sals_cell,sals_lsub,hds_len,hds_cell,hds_lsub,hds_snocN,hds_snoc0N,heads_len,whos_len,whos_cell,whos_lsub,whos_lcat,whos_snocN,whos_snoc0N,v1,v4,v100,v101,vs,sym23,sym164,sym171,sym180,sym182,sym188,sym191,hsh,hok,Option.some.injEq,Value.bool.injEq,decide_eq_false_iff_not,and_true,beq_self_eq_true,true_and]
  omega
 suffices both : AsksL (ρ.ext lRo_D.N [.int .i64 (i : Int),whosR []]) (lRo0_t.asks lRo0_F)∧WaysOk lRo_D ρ (lRo_Inv l K) (lRo_mu l) 0 [.int .i64 (i : Int),whosR []] lRo0_l from step_of_ways (lRo0_w _) hF both.1.ok both.2
 cases hp : l[i]? with
 | none =>
   have hge:=List.getElem?_eq_none_iff.1 hp
   have hge' : ¬ (i : Int) < l.length:=by omega
   have hl : insI l K i = sortedW (cntW l K):=insI_all hge
   have hle:=congrArg List.length hl
   have hsl:=sorted_len (cntW l K)
   refine ⟨?_,?_⟩
   ·simp only [lRo0_t,qVE24,qVE23,qVE22,qVE21,qVE20,qVE19,qVE18,qVE17,qVE16,qVE15,qVE14,qVE13,qVE12,qVE11,qVE10,qVE9,qVE8,qVE7,qVE6,qVE5,qVE4,qVE3,qVE2,qVE1,qVE0,lRo0_F,AsksL,GTree.asks,FTree.asks,FactsIn,List.append_nil,List.nil_append,List.cons_append,Option.some.injEq,exists_eq',implies_true,and_self,X.bool,X.den,denL,dX,denSub,denIte,asB,dY,sals_len,sals_cell,sals_lsub,hds_len,hds_cell,hds_lsub,hds_snocN,hds_snoc0N,heads_len,whos_len,whos_cell,whos_lsub,whos_lcat,whos_snocN,whos_snoc0N,v1,v4,v100,v101,vs,sym23,sym164,sym171,sym180,sym182,sym188,sym191,sym113W,hsh,hok,Int.toNat_natCast,hp,hge']
    try simp
   ·simp only [lRo0_l,qVE24,qVE23,qVE22,qVE21,qVE20,qVE19,qVE18,qVE17,qVE16,qVE15,qVE14,qVE13,qVE12,qVE11,qVE10,qVE9,qVE8,qVE7,qVE6,qVE5,qVE4,qVE3,qVE2,qVE1,qVE0,EndsOk,WaysOk,forall_cons,forall_nil,TgtOk,gpair,FactsIn,hold_cons,hold_nil,Option.some.injEq,dZ,X.bool,X.den,denL,dX,denSub,denIte,asB,dY,beq_iff_eq,beq_eq_false_iff_ne,ne_eq,sals_len,sals_cell,sals_lsub,hds_len,hds_cell,hds_lsub,hds_snocN,hds_snoc0N,heads_len,whos_len,whos_cell,whos_lsub,whos_lcat,whos_snocN,whos_snoc0N,beq_iff_eq,beq_eq_false_iff_ne,ne_eq,v1,v4,v100,v101,vs,h1,h4,hsy,sym23,sym164,sym171,sym180,sym182,sym188,sym191,sym113W,hsh,hok,Int.toNat_natCast,hp,hge',reduceCtorEq,Bool.false_eq_true,false_implies,implies_true,true_implies,and_self,and_true,true_and]
    rw [hl] at hn
    have hcn : (cntW l K).length = 0:=by rw [← hsl,hn]; rfl
    simp [hl,hcn]
    try omega
 | some x =>
   have hil : i < l.length:=(List.getElem?_eq_some_iff.1 hp).1
   have hil1 : (i : Int) < l.length:=by omega
   have hw : IntKind.i64.wrap ((i : Int) + 1) = ((i + 1 : Nat) : Int):=by rw [IntWalk.i64_in _ (by omega)]; rfl
   have hAt : (headsOf l)[i]? = some ⟨x.id,x.known,x.of_⟩:=by rw [heads_at,hp]; rfl
   have hcH : cntH (headsOf l) x.id x.known x.of_ K = cntB l K x:=cntH_of l K (ids_pos (ok_of_chk hok) (List.mem_of_getElem? hp)).2
   have h10 : ¬ (1010 : Int) < l.length:=by omega
   have hnext : insI l K (i + 1) = if cntB l K x = true then insW (insI l K i) x.parcel else insI l K i:=insI_next hp
   have goA : cntB l K x = true→∀ n rw,n = (1)→rw = ([⟨x.parcel⟩])→∃ vals',((match (ρ.ext lRo_D.N vals').val 101 with | some v => den1 .len v | none => none) = some (.int .i64 n)∧(ρ.ext lRo_D.N vals').val 100 = some (.int .i64 ((i + 1 : Nat) : Int))∧(ρ.ext lRo_D.N vals').val 101 = some (whosR rw))∧lRo_Inv l K 1 vals'∧lRo_mu l 1 vals' < lRo_mu l 0 [.int .i64 (i : Int),whosR []]:=by
    rintro hc n rw rfl rfl
    have e101 : (ρ.ext lRo_D.N [.int .i64 ((i + 1 : Nat) : Int),whosR (insI l K (i + 1))]).val 101 = some (whosR (insI l K (i + 1))):=by rw [ext_high _ _ _ _ (by rw [hN]; omega)]; rfl
    refine ⟨[.int .i64 ((i + 1 : Nat) : Int),whosR (insI l K (i + 1))],⟨?_,?_,?_⟩,⟨i + 1,by omega,.inr ⟨rfl,rfl,by rw [hnext]; simp [hc,hn,insW,insP_nil]⟩⟩,by simp [lRo_mu,vI]; omega⟩
    ·rw [e101,hnext]
     refine (whos_len _).trans ?_
     simp [hc,insW_len,hn,insW,insP_nil]
    ·rw [ext_high _ _ _ _ (by rw [hN]; omega)]; rfl
    ·rw [e101,hnext]; simp [hc,hn,insW,insP_nil]
   have goK : cntB l K x = false→∃ vals',(ρ.ext lRo_D.N vals').val 100 = some (.int .i64 ((i + 1 : Nat) : Int))∧lRo_Inv l K 0 vals'∧lRo_mu l 0 vals' < lRo_mu l 0 [.int .i64 (i : Int),whosR []]:=by
    intro hc
    refine ⟨[.int .i64 ((i + 1 : Nat) : Int),whosR []],?_,⟨i + 1,by omega,.inl ⟨rfl,rfl,by rw [hnext]; simp [hc,hn]⟩⟩,by simp [lRo_mu,vI]; omega⟩
    rw [ext_high _ _ _ _ (by rw [hN]; omega)]; rfl
   refine ⟨?_,?_⟩
   all_goals (simp only [lRo0_t,qVE24,qVE23,qVE22,qVE21,qVE20,qVE19,qVE18,qVE17,qVE16,qVE15,qVE14,qVE13,qVE12,qVE11,qVE10,qVE9,qVE8,qVE7,qVE6,qVE5,qVE4,qVE3,qVE2,qVE1,qVE0,lRo0_F,lRo0_l,AsksL,GTree.asks,FTree.asks,FactsIn,List.append_nil,List.nil_append,List.cons_append,Option.some.injEq,exists_eq',implies_true,and_self,X.bool,X.den,denL,dX,denSub,denIte,asB,dY,sals_len,sals_cell,sals_lsub,hds_len,hds_cell,hds_lsub,hds_snocN,hds_snoc0N,heads_len,whos_len,whos_cell,whos_lsub,whos_lcat,whos_snocN,whos_snoc0N,EndsOk,WaysOk,forall_cons,forall_nil,TgtOk,gpair,FactsIn,hold_cons,hold_nil,Option.some.injEq,dZ,X.bool,X.den,denL,dX,denSub,denIte,asB,dY,beq_iff_eq,beq_eq_false_iff_ne,ne_eq,sals_len,sals_cell,sals_lsub,hds_len,hds_cell,hds_lsub,hds_snocN,hds_snoc0N,heads_len,whos_len,whos_cell,whos_lsub,whos_lcat,whos_snocN,whos_snoc0N,beq_iff_eq,beq_eq_false_iff_ne,ne_eq,v1,v4,v100,v101,vs,h1,h4,hsy,sym23,sym164,sym171,sym180,sym182,sym188,sym191,hsh,hok,Int.toNat_natCast,Int.toNat_zero,List.drop_zero,hp,hAt,hcH,h10,Option.bind_some,sal0,sal1,sal2,sal3,sal4,sal5,sal6,sal7,sal8,hd0,hd1,hd2,hil1,hw,reduceCtorEq,Bool.false_eq_true,false_implies,implies_true,true_implies,and_self,and_true,true_and])
   all_goals (clear v1 v4 v100 v101 vs h1 h4 hsy hF)
   all_goals ((repeat' apply And.intro) <;> intros <;> first
    | trivial
    | contradiction
    | (exact goK (by simp_all))
    | (exact goA (by assumption) _ _ rfl rfl)
    | (exfalso; omega)
    | (simp_all; done))
set_option maxHeartbeats 4000000 in
theorem lRo_step1 {ρ : Rho} {l : List Sal9} {K : Int} {k4 : IntKind} (h1 : ρ.val 1 = some (salsR l)) (h4 : ρ.val 4 = some (.int k4 K)) (hsy : ρ.sym = sy) (hsh : shortB l = true) (hok : chkE l = 0) {i : Nat} (hi : i≤l.length) (hn : insI l K i≠[]) : StepOk lRo_D lRo_run E0 ρ (lRo_Inv l K) (lRo_mu l) 1 [.int .i64 (i : Int),whosR (insI l K i)]:=by
 have hN : lRo_D.N = 100:=rfl
 have hmax:=short_len hsh
 have v1 : (ρ.ext lRo_D.N [.int .i64 (i : Int),whosR (insI l K i)]).val 1 = some (salsR l):=by rw [ext_low _ _ _ _ (by rw [hN]; omega)]; exact h1
 have v4 : (ρ.ext lRo_D.N [.int .i64 (i : Int),whosR (insI l K i)]).val 4 = some (.int k4 K):=by rw [ext_low _ _ _ _ (by rw [hN]; omega)]; exact h4
 have v100 : (ρ.ext lRo_D.N [.int .i64 (i : Int),whosR (insI l K i)]).val 100 = some (.int .i64 (i : Int)):=by rw [ext_high _ _ _ _ (by rw [hN]; omega)]; rfl
 have v101 : (ρ.ext lRo_D.N [.int .i64 (i : Int),whosR (insI l K i)]).val 101 = some (whosR (insI l K i)):=by rw [ext_high _ _ _ _ (by rw [hN]; omega)]; rfl
 have vs : (ρ.ext lRo_D.N [.int .i64 (i : Int),whosR (insI l K i)]).sym = sy:=hsy
 have hlen:=insI_len l K i
 have hF : FactsIn (ρ.ext lRo_D.N [.int .i64 (i : Int),whosR (insI l K i)]) lRo1_F:=by
  simp only [lRo1_F,FactsIn,X.bool,X.den,denL,dX,denSub,denIte,asB,dY,sals_len,sals_cell,sals_lsub,hds_len,hds_cell,hds_lsub,hds_snocN,hds_snoc0N,heads_len,whos_len,whos_cell,whos_lsub,whos_lcat,whos_snocN,whos_snoc0N,v1,v4,v100,v101,vs,sym23,sym164,sym171,sym180,sym182,sym188,sym191,hsh,hok,Option.some.injEq,Value.bool.injEq,decide_eq_false_iff_not,and_true,beq_self_eq_true,true_and]
  omega
 suffices both : AsksL (ρ.ext lRo_D.N [.int .i64 (i : Int),whosR (insI l K i)]) (lRo1_t.asks lRo1_F)∧WaysOk lRo_D ρ (lRo_Inv l K) (lRo_mu l) 1 [.int .i64 (i : Int),whosR (insI l K i)] lRo1_l from step_of_ways (lRo1_w _) hF both.1.ok both.2
 cases hp : l[i]? with
 | none =>
   have hge:=List.getElem?_eq_none_iff.1 hp
   have hge' : ¬ (i : Int) < l.length:=by omega
   have hl : insI l K i = sortedW (cntW l K):=insI_all hge
   have hle:=congrArg List.length hl
   have hsl:=sorted_len (cntW l K)
   refine ⟨?_,?_⟩
   ·simp only [lRo1_t,qVE24,qVE23,qVE22,qVE21,qVE20,qVE19,qVE18,qVE17,qVE16,qVE15,qVE14,qVE13,qVE12,qVE11,qVE10,qVE9,qVE8,qVE7,qVE6,qVE5,qVE4,qVE3,qVE2,qVE1,qVE0,lRo1_F,AsksL,GTree.asks,FTree.asks,FactsIn,List.append_nil,List.nil_append,List.cons_append,Option.some.injEq,exists_eq',implies_true,and_self,X.bool,X.den,denL,dX,denSub,denIte,asB,dY,sals_len,sals_cell,sals_lsub,hds_len,hds_cell,hds_lsub,hds_snocN,hds_snoc0N,heads_len,whos_len,whos_cell,whos_lsub,whos_lcat,whos_snocN,whos_snoc0N,v1,v4,v100,v101,vs,sym23,sym164,sym171,sym180,sym182,sym188,sym191,sym113W,hsh,hok,Int.toNat_natCast,hp,hge']
    try simp
   ·simp only [lRo1_l,qVE24,qVE23,qVE22,qVE21,qVE20,qVE19,qVE18,qVE17,qVE16,qVE15,qVE14,qVE13,qVE12,qVE11,qVE10,qVE9,qVE8,qVE7,qVE6,qVE5,qVE4,qVE3,qVE2,qVE1,qVE0,EndsOk,WaysOk,forall_cons,forall_nil,TgtOk,gpair,FactsIn,hold_cons,hold_nil,Option.some.injEq,dZ,X.bool,X.den,denL,dX,denSub,denIte,asB,dY,beq_iff_eq,beq_eq_false_iff_ne,ne_eq,sals_len,sals_cell,sals_lsub,hds_len,hds_cell,hds_lsub,hds_snocN,hds_snoc0N,heads_len,whos_len,whos_cell,whos_lsub,whos_lcat,whos_snocN,whos_snoc0N,beq_iff_eq,beq_eq_false_iff_ne,ne_eq,v1,v4,v100,v101,vs,h1,h4,hsy,sym23,sym164,sym171,sym180,sym182,sym188,sym191,sym113W,hsh,hok,Int.toNat_natCast,hp,hge',reduceCtorEq,Bool.false_eq_true,false_implies,implies_true,true_implies,and_self,and_true,true_and]
    rw [hl] at hn
    have hcn : (cntW l K).length≠0:=by intro e; exact hn (List.length_eq_zero_iff.1 (by omega))
    simp [hl,hcn,hsl]
    try omega
 | some x =>
   have hil : i < l.length:=(List.getElem?_eq_some_iff.1 hp).1
   have hil1 : (i : Int) < l.length:=by omega
   have hw : IntKind.i64.wrap ((i : Int) + 1) = ((i + 1 : Nat) : Int):=by rw [IntWalk.i64_in _ (by omega)]; rfl
   have hAt : (headsOf l)[i]? = some ⟨x.id,x.known,x.of_⟩:=by rw [heads_at,hp]; rfl
   have hcH : cntH (headsOf l) x.id x.known x.of_ K = cntB l K x:=cntH_of l K (ids_pos (ok_of_chk hok) (List.mem_of_getElem? hp)).2
   have h10 : ¬ (1010 : Int) < l.length:=by omega
   have hnext : insI l K (i + 1) = if cntB l K x = true then insW (insI l K i) x.parcel else insI l K i:=insI_next hp
   have goA : cntB l K x = true→∀ n rw,n = (((insI l K i).length : Int) + 1)→rw = (insW (insI l K i) x.parcel)→∃ vals',((match (ρ.ext lRo_D.N vals').val 101 with | some v => den1 .len v | none => none) = some (.int .i64 n)∧(ρ.ext lRo_D.N vals').val 100 = some (.int .i64 ((i + 1 : Nat) : Int))∧(ρ.ext lRo_D.N vals').val 101 = some (whosR rw))∧lRo_Inv l K 1 vals'∧lRo_mu l 1 vals' < lRo_mu l 1 [.int .i64 (i : Int),whosR (insI l K i)]:=by
    rintro hc n rw rfl rfl
    have e101 : (ρ.ext lRo_D.N [.int .i64 ((i + 1 : Nat) : Int),whosR (insI l K (i + 1))]).val 101 = some (whosR (insI l K (i + 1))):=by rw [ext_high _ _ _ _ (by rw [hN]; omega)]; rfl
    refine ⟨[.int .i64 ((i + 1 : Nat) : Int),whosR (insI l K (i + 1))],⟨?_,?_,?_⟩,⟨i + 1,by omega,.inr ⟨rfl,rfl,by rw [hnext]; simp [hc,insW_ne]⟩⟩,by simp [lRo_mu,vI]; omega⟩
    ·rw [e101,hnext]
     refine (whos_len _).trans ?_
     simp [hc,insW_len,insW_ne]
    ·rw [ext_high _ _ _ _ (by rw [hN]; omega)]; rfl
    ·rw [e101,hnext]; simp [hc,insW_ne]
   have goK : cntB l K x = false→∀ n rw,n = (((insI l K i).length : Int))→rw = (insI l K i)→∃ vals',((match (ρ.ext lRo_D.N vals').val 101 with | some v => den1 .len v | none => none) = some (.int .i64 n)∧(ρ.ext lRo_D.N vals').val 100 = some (.int .i64 ((i + 1 : Nat) : Int))∧(ρ.ext lRo_D.N vals').val 101 = some (whosR rw))∧lRo_Inv l K 1 vals'∧lRo_mu l 1 vals' < lRo_mu l 1 [.int .i64 (i : Int),whosR (insI l K i)]:=by
    rintro hc n rw rfl rfl
    have e101 : (ρ.ext lRo_D.N [.int .i64 ((i + 1 : Nat) : Int),whosR (insI l K (i + 1))]).val 101 = some (whosR (insI l K (i + 1))):=by rw [ext_high _ _ _ _ (by rw [hN]; omega)]; rfl
    refine ⟨[.int .i64 ((i + 1 : Nat) : Int),whosR (insI l K (i + 1))],⟨?_,?_,?_⟩,⟨i + 1,by omega,.inr ⟨rfl,rfl,by rw [hnext]; simp [hc,hn]⟩⟩,by simp [lRo_mu,vI]; omega⟩
    ·rw [e101,hnext]
     refine (whos_len _).trans ?_
     simp [hc,insW_len,hn]
    ·rw [ext_high _ _ _ _ (by rw [hN]; omega)]; rfl
    ·rw [e101,hnext]; simp [hc,hn]
   generalize hS : insI l K i = s at *
   have hPl:=insP_le x.parcel s
   have p1 : ¬ ((insP s x.parcel : Nat) : Int) < 0:=by omega
   have p2 : ¬ (s.length : Int) < ((insP s x.parcel : Nat) : Int):=by omega
   have p3 : ¬ (1000000000 : Int) < ((insP s x.parcel : Nat) : Int):=by omega
   have p5 : ((s.take (insP s x.parcel)).length : Int) = ((insP s x.parcel : Nat) : Int):=by rw [List.length_take]; omega
   have p6 : s.take s.length = s:=List.take_length
   have hwl:=insW_len s x.parcel
   have hr1:=insW_rows s x.parcel
   have p7 : ¬ (1000000000 : Int) < (insW s x.parcel).length:=by omega
   have p8 : ¬ (1000000000 : Int) < ((insP s x.parcel : Nat) : Int) + 1:=by omega
   have hr0 : ¬ (0 : Int) < ((insP s x.parcel : Nat) : Int)→(⟨x.parcel⟩ : Who) :: s.drop (insP s x.parcel) = insW s x.parcel:=fun h => by
    have h0 : insP s x.parcel = 0:=by omega
    have:=insW_rows0 h0
    rw [h0]; exact this
   have hl0 : ¬ (0 : Int) < ((insP s x.parcel : Nat) : Int)→¬ (1000000000 : Int) < ((⟨x.parcel⟩ : Who) :: s.drop (insP s x.parcel)).length:=fun h => by rw [hr0 h]; exact p7
   refine ⟨?_,?_⟩
   all_goals (simp only [lRo1_t,qVE24,qVE23,qVE22,qVE21,qVE20,qVE19,qVE18,qVE17,qVE16,qVE15,qVE14,qVE13,qVE12,qVE11,qVE10,qVE9,qVE8,qVE7,qVE6,qVE5,qVE4,qVE3,qVE2,qVE1,qVE0,lRo1_F,lRo1_l,AsksL,GTree.asks,FTree.asks,FactsIn,List.append_nil,List.nil_append,List.cons_append,Option.some.injEq,exists_eq',implies_true,and_self,X.bool,X.den,denL,dX,denSub,denIte,asB,dY,sals_len,sals_cell,sals_lsub,hds_len,hds_cell,hds_lsub,hds_snocN,hds_snoc0N,heads_len,whos_len,whos_cell,whos_lsub,whos_lcat,whos_snocN,whos_snoc0N,EndsOk,WaysOk,forall_cons,forall_nil,TgtOk,gpair,FactsIn,hold_cons,hold_nil,Option.some.injEq,dZ,X.bool,X.den,denL,dX,denSub,denIte,asB,dY,beq_iff_eq,beq_eq_false_iff_ne,ne_eq,sals_len,sals_cell,sals_lsub,hds_len,hds_cell,hds_lsub,hds_snocN,hds_snoc0N,heads_len,whos_len,whos_cell,whos_lsub,whos_lcat,whos_snocN,whos_snoc0N,beq_iff_eq,beq_eq_false_iff_ne,ne_eq,v1,v4,v100,v101,vs,h1,h4,hsy,sym23,sym164,sym171,sym180,sym182,sym188,sym191,hsh,hok,Int.toNat_natCast,Int.toNat_zero,List.drop_zero,hp,hAt,hcH,h10,Option.bind_some,sal0,sal1,sal2,sal3,sal4,sal5,sal6,sal7,sal8,hd0,hd1,hd2,hil1,hw,p1,p2,p3,p5,p6,p7,p8,hr1,reduceCtorEq,Bool.false_eq_true,false_implies,implies_true,true_implies,and_self,and_true,true_and])
   all_goals (clear v1 v4 v100 v101 vs h1 h4 hsy hF)
   all_goals ((repeat' apply And.intro) <;> intros <;> first
    | trivial
    | contradiction
    | (exact goK (by simp_all) _ _ rfl rfl)
    | (exact goA (by assumption) _ _ (by omega) rfl)
    | (exact hl0 (by assumption) (by assumption))
    | (rw [hr0 (by assumption)]; exact goA (by assumption) _ _ (by omega) rfl)
    | (exfalso; omega)
    | (simp_all; done))
theorem lRo_step {ρ : Rho} {l : List Sal9} {K : Int} {k4 : IntKind} (h1 : ρ.val 1 = some (salsR l)) (h4 : ρ.val 4 = some (.int k4 K)) (hsy : ρ.sym = sy) (hsh : shortB l = true) (hok : chkE l = 0) (j : Nat) (vals : List Value) (hI : lRo_Inv l K j vals) : StepOk lRo_D lRo_run E0 ρ (lRo_Inv l K) (lRo_mu l) j vals:=by
 obtain ⟨i,hi,⟨rfl,rfl,hn⟩ | ⟨rfl,rfl,hn⟩⟩:=hI
 ·exact lRo_step0 h1 h4 hsy hsh hok hi hn
 ·exact lRo_step1 h1 h4 hsy hsh hok hi hn
theorem lRo_H {ρ : Rho} {l : List Sal9} {K : Int} {k4 : IntKind} (h1 : ρ.val 1 = some (salsR l)) (h4 : ρ.val 4 = some (.int k4 K)) (hsy : ρ.sym = sy) (hsh : shortB l = true) (hok : chkE l = 0) (F : List (X×Bool)) : LoopsOk (E0.with F ρ) (oneH 13 (hooks [(7,lRo_D.hook (E0.with F ρ).facts rro_vs)])):=by
 refine loops_all (n:=2) (fun f fn h => h) (by kernel_rfl) fun i hi => ?_
 have h01 : i = 0∨i = 1:=by omega
 rcases h01 with rfl | rfl
 ·rw [hooks_hit (show keyOf (loopAt (E0.with F ρ).P 13 0) = 7 by kernel_rfl)]
  refine hook_in (E₀:=E0) (run:=lRo_run) (ρ:=ρ) (Inv:=lRo_Inv l K) (μ:=lRo_mu l) E0_ok lRo_ok (fun F vals => ?_) (fun hp => ⟨lRo_step h1 h4 hsy hsh hok,[.int .i64 0,whosR []],?_,0,Nat.zero_le _,.inl ⟨rfl,rfl,rfl⟩⟩)
  ·have hN : lRo_D.N = 100:=rfl
   exact bodyRun_ok E0_ok (RE_ok F (r:=ρ.ext lRo_D.N vals) hsy) (ri_H (r:=ρ.ext lRo_D.N vals) (by rw [ext_low _ _ _ _ (by rw [hN]; omega)]; exact h1) hsy F)
  ·simp only [rro_vs,X.bool,X.den,denL,dX,denSub,denIte,asB,dY,sals_len,sals_cell,sals_lsub,hds_len,hds_cell,hds_lsub,hds_snocN,hds_snoc0N,snoc_nil,heads_len]
   rfl
 ·rw [hooks_miss (show Nat.beq (keyOf (loopAt (E0.with F ρ).P 13 1)) 7 = false by kernel_rfl)]
  exact fun f S outs h => by cases h
noncomputable def rSdE_con : Con:={ f:=13,args:=[salsArg 0 0,.one (.int .i64 4)],N:=1,M:=1,pre:=[(.app 23 [.var 1],true),(.op2 .eq (.app 164 [.var 1]) (.num 0),false)],out:=.nilslice,news:=[] }
noncomputable def rSdE_call : Env→CallL:=fun E => acallAll E (evH E (RE E) ((fun _ => noLoops) E) 12)
noncomputable def rSdE_t : GTree:=(.leaf [[]])
noncomputable def rSdE_l : List (List (X×Bool)×Option Pairs):=[([(qVE11,true),(qVE5,false)],some [])]
theorem rSdE_w (r : Rho) : rSdE_con.fn.ways rSdE_call E0 r rSdE_con.pre rSdE_t = some rSdE_l:=by kernel_rfl
theorem rSdE_cok : rSdE_con.Ok Tryz.prog sy:=by
 intro r σ w us hsy hρ hpre hrel hins
 obtain ⟨l,h1⟩:=sals_open hrel rfl hρ
 obtain ⟨u0,us,rfl,g0,hi⟩:=ins_cons hins
 obtain ⟨u1,us,rfl,g1,hi⟩:=ins_cons hi
 obtain ⟨K,k4,rfl,h4⟩:=one_int g1
 rw [hρ] at h4
 have hsh : shortB l = true:=by
  have:=hpre.1
  simpa only [X.bool,X.den,denL,dX,denSub,denIte,asB,dY,sals_len,sals_cell,sals_lsub,hds_len,hds_cell,hds_lsub,hds_snocN,hds_snoc0N,snoc_nil,heads_len,h1,hsy,sym23,Option.some.injEq,Value.bool.injEq] using this
 have hmax:=short_len hsh
 have hcl:=cntW_len l K
 refine con_of (E:=E0) E0_ok E0_glob (sy:=sy) (fun F => RE_ok F hsy) (fun F => noH_ok) (rSdE_w r) hρ hpre hrel hins ?_ ?_
 ·simp only [rSdE_con,rSdE_t,qVE24,qVE23,qVE22,qVE21,qVE20,qVE19,qVE18,qVE17,qVE16,qVE15,qVE14,qVE13,qVE12,qVE11,qVE10,qVE9,qVE8,qVE7,qVE6,qVE5,qVE4,qVE3,qVE2,qVE1,qVE0,AsksL,GTree.asks,FTree.asks,FactsIn,List.append_nil,List.nil_append,List.cons_append,Option.some.injEq,exists_eq',implies_true,and_self,X.bool,X.den,denL,dX,denSub,denIte,asB,dY,sals_len,sals_cell,sals_lsub,hds_len,hds_cell,hds_lsub,hds_snocN,hds_snoc0N,heads_len,whos_len,whos_cell,whos_lsub,whos_lcat,whos_snocN,whos_snoc0N,h1,h4,hsy,sym23,sym164,sym171,sym180,sym182,sym188,sym191,sym113W]
  try simp
  try omega
 ·simp only [rSdE_l,qVE24,qVE23,qVE22,qVE21,qVE20,qVE19,qVE18,qVE17,qVE16,qVE15,qVE14,qVE13,qVE12,qVE11,qVE10,qVE9,qVE8,qVE7,qVE6,qVE5,qVE4,qVE3,qVE2,qVE1,qVE0,EndsOk,WaysOk,forall_cons,forall_nil,TgtOk,gpair,FactsIn,hold_cons,hold_nil,Option.some.injEq,dZ,X.bool,X.den,denL,dX,denSub,denIte,asB,dY,beq_iff_eq,beq_eq_false_iff_ne,ne_eq,sals_len,sals_cell,sals_lsub,hds_len,hds_cell,hds_lsub,hds_snocN,hds_snoc0N,heads_len,whos_len,whos_cell,whos_lsub,whos_lcat,whos_snocN,whos_snoc0N,beq_iff_eq,beq_eq_false_iff_ne,ne_eq,h1,h4,hsy,sym23,sym164,sym171,sym180,sym182,sym188,sym191,sym113W]
  try simp
  try omega
noncomputable def rSdN_con : Con:={ f:=13,args:=[salsArg 0 0,.one (.int .i64 4)],N:=1,M:=1,pre:=[(.app 23 [.var 1],true),(.op2 .eq (.app 164 [.var 1]) (.num 0),true),(.op2 .eq (.op1 .len (.app 171 [.var 1,.var 4])) (.num 0),true)],out:=.nilslice,news:=[] }
noncomputable def rSdN_call : Env→CallL:=fun E => acallAll E (evH E (RE E) ((fun E => oneH 13 (hooks [(7,lRo_D.hook E.facts rro_vs)])) E) 12)
noncomputable def rSdN_t : GTree:=(.fork qVE20 (.leaf [[]]) (.leaf [[]]))
noncomputable def rSdN_l : List (List (X×Bool)×Option Pairs):=[([(qVE20,true),(qVE11,true),(qVE5,true),(qVE15,true)],some []),
 ([(qVE20,false),(qVE11,true),(qVE5,true),(qVE15,true)],some [])]
theorem rSdN_w (r : Rho) : rSdN_con.fn.ways rSdN_call E0 r rSdN_con.pre rSdN_t = some rSdN_l:=by kernel_rfl
theorem rSdN_cok : rSdN_con.Ok Tryz.prog sy:=by
 intro r σ w us hsy hρ hpre hrel hins
 obtain ⟨l,h1⟩:=sals_open hrel rfl hρ
 obtain ⟨u0,us,rfl,g0,hi⟩:=ins_cons hins
 obtain ⟨u1,us,rfl,g1,hi⟩:=ins_cons hi
 obtain ⟨K,k4,rfl,h4⟩:=one_int g1
 rw [hρ] at h4
 have hsh : shortB l = true:=by
  have:=hpre.1
  simpa only [X.bool,X.den,denL,dX,denSub,denIte,asB,dY,sals_len,sals_cell,sals_lsub,hds_len,hds_cell,hds_lsub,hds_snocN,hds_snoc0N,snoc_nil,heads_len,h1,hsy,sym23,Option.some.injEq,Value.bool.injEq] using this
 have hmax:=short_len hsh
 have hcl:=cntW_len l K
 have hok : chkE l = 0:=by
  have:=hpre.2.1
  simpa only [X.bool,X.den,denL,dX,denSub,denIte,asB,dY,sals_len,sals_cell,sals_lsub,hds_len,hds_cell,hds_lsub,hds_snocN,hds_snoc0N,snoc_nil,heads_len,h1,hsy,sym164,Option.some.injEq,Value.bool.injEq,beq_iff_eq] using this
 refine con_of (E:=E0) E0_ok E0_glob (sy:=sy) (fun F => RE_ok F hsy) (fun F => lRo_H h1 h4 hsy hsh hok F) (rSdN_w r) hρ hpre hrel hins ?_ ?_
 ·simp only [rSdN_con,rSdN_t,qVE24,qVE23,qVE22,qVE21,qVE20,qVE19,qVE18,qVE17,qVE16,qVE15,qVE14,qVE13,qVE12,qVE11,qVE10,qVE9,qVE8,qVE7,qVE6,qVE5,qVE4,qVE3,qVE2,qVE1,qVE0,AsksL,GTree.asks,FTree.asks,FactsIn,List.append_nil,List.nil_append,List.cons_append,Option.some.injEq,exists_eq',implies_true,and_self,X.bool,X.den,denL,dX,denSub,denIte,asB,dY,sals_len,sals_cell,sals_lsub,hds_len,hds_cell,hds_lsub,hds_snocN,hds_snoc0N,heads_len,whos_len,whos_cell,whos_lsub,whos_lcat,whos_snocN,whos_snoc0N,h1,h4,hsy,sym23,sym164,sym171,sym180,sym182,sym188,sym191,sym113W]
  try simp
  try omega
 ·simp only [rSdN_l,qVE24,qVE23,qVE22,qVE21,qVE20,qVE19,qVE18,qVE17,qVE16,qVE15,qVE14,qVE13,qVE12,qVE11,qVE10,qVE9,qVE8,qVE7,qVE6,qVE5,qVE4,qVE3,qVE2,qVE1,qVE0,EndsOk,WaysOk,forall_cons,forall_nil,TgtOk,gpair,FactsIn,hold_cons,hold_nil,Option.some.injEq,dZ,X.bool,X.den,denL,dX,denSub,denIte,asB,dY,beq_iff_eq,beq_eq_false_iff_ne,ne_eq,sals_len,sals_cell,sals_lsub,hds_len,hds_cell,hds_lsub,hds_snocN,hds_snoc0N,heads_len,whos_len,whos_cell,whos_lsub,whos_lcat,whos_snocN,whos_snoc0N,beq_iff_eq,beq_eq_false_iff_ne,ne_eq,h1,h4,hsy,sym23,sym164,sym171,sym180,sym182,sym188,sym191,sym113W]
  try simp
  try omega
noncomputable def rSdY_con : Con:={ f:=13,args:=[salsArg 0 0,.one (.int .i64 4)],N:=1,M:=2,pre:=[(.app 23 [.var 1],true),(.op2 .eq (.app 164 [.var 1]) (.num 0),true),(.op2 .eq (.op1 .len (.app 171 [.var 1,.var 4])) (.num 0),false)],out:=.slo 1 1 (.op1 .len (.app 113 [.app 171 [.var 1,.var 4]])),news:=[(1,.rows 1 [.int .i64] (.num 0) (.app 113 [.app 171 [.var 1,.var 4]]) true 3)] }
noncomputable def rSdY_call : Env→CallL:=fun E => acallAll E (evH E (RE E) ((fun E => oneH 13 (hooks [(7,lRo_D.hook E.facts rro_vs)])) E) 12)
noncomputable def rSdY_t : GTree:=(.fork qVE20 (.leaf [[(1,110)]]) .bad)
noncomputable def rSdY_l : List (List (X×Bool)×Option Pairs):=[([(qVE20,true),(qVE11,true),(qVE5,true),(qVE15,false)],some [(.op1 .len qVE18,.op1 .len qVE18),(qVE18,qVE18)]),
 ([(qVE20,false),(qVE11,true),(qVE5,true),(qVE15,false)],none)]
theorem rSdY_w (r : Rho) : rSdY_con.fn.ways rSdY_call E0 r rSdY_con.pre rSdY_t = some rSdY_l:=by kernel_rfl
theorem rSdY_cok : rSdY_con.Ok Tryz.prog sy:=by
 intro r σ w us hsy hρ hpre hrel hins
 obtain ⟨l,h1⟩:=sals_open hrel rfl hρ
 obtain ⟨u0,us,rfl,g0,hi⟩:=ins_cons hins
 obtain ⟨u1,us,rfl,g1,hi⟩:=ins_cons hi
 obtain ⟨K,k4,rfl,h4⟩:=one_int g1
 rw [hρ] at h4
 have hsh : shortB l = true:=by
  have:=hpre.1
  simpa only [X.bool,X.den,denL,dX,denSub,denIte,asB,dY,sals_len,sals_cell,sals_lsub,hds_len,hds_cell,hds_lsub,hds_snocN,hds_snoc0N,snoc_nil,heads_len,h1,hsy,sym23,Option.some.injEq,Value.bool.injEq] using this
 have hmax:=short_len hsh
 have hcl:=cntW_len l K
 have hok : chkE l = 0:=by
  have:=hpre.2.1
  simpa only [X.bool,X.den,denL,dX,denSub,denIte,asB,dY,sals_len,sals_cell,sals_lsub,hds_len,hds_cell,hds_lsub,hds_snocN,hds_snoc0N,snoc_nil,heads_len,h1,hsy,sym164,Option.some.injEq,Value.bool.injEq,beq_iff_eq] using this
 have hlen : 0 < (l.length : Int):=by
  have:=hpre.2.2.1
  simp only [X.bool,X.den,denL,dX,denSub,denIte,asB,dY,sals_len,sals_cell,sals_lsub,hds_len,hds_cell,hds_lsub,hds_snocN,hds_snoc0N,heads_len,whos_len,whos_cell,whos_lsub,whos_lcat,whos_snocN,whos_snoc0N,h1,h4,hsy,sym171,Option.some.injEq,Value.bool.injEq,beq_eq_false_iff_ne,ne_eq] at this
  omega
 refine con_of (E:=E0) E0_ok E0_glob (sy:=sy) (fun F => RE_ok F hsy) (fun F => lRo_H h1 h4 hsy hsh hok F) (rSdY_w r) hρ hpre hrel hins ?_ ?_
 ·simp only [rSdY_con,rSdY_t,qVE24,qVE23,qVE22,qVE21,qVE20,qVE19,qVE18,qVE17,qVE16,qVE15,qVE14,qVE13,qVE12,qVE11,qVE10,qVE9,qVE8,qVE7,qVE6,qVE5,qVE4,qVE3,qVE2,qVE1,qVE0,AsksL,GTree.asks,FTree.asks,FactsIn,List.append_nil,List.nil_append,List.cons_append,Option.some.injEq,exists_eq',implies_true,and_self,X.bool,X.den,denL,dX,denSub,denIte,asB,dY,sals_len,sals_cell,sals_lsub,hds_len,hds_cell,hds_lsub,hds_snocN,hds_snoc0N,heads_len,whos_len,whos_cell,whos_lsub,whos_lcat,whos_snocN,whos_snoc0N,h1,h4,hsy,sym23,sym164,sym171,sym180,sym182,sym188,sym191,sym113W]
  try simp [sortedW]
  try omega
  try (intro e; rw [e] at hlen; simp at hlen)
 ·simp only [rSdY_l,qVE24,qVE23,qVE22,qVE21,qVE20,qVE19,qVE18,qVE17,qVE16,qVE15,qVE14,qVE13,qVE12,qVE11,qVE10,qVE9,qVE8,qVE7,qVE6,qVE5,qVE4,qVE3,qVE2,qVE1,qVE0,EndsOk,WaysOk,forall_cons,forall_nil,TgtOk,gpair,FactsIn,hold_cons,hold_nil,Option.some.injEq,dZ,X.bool,X.den,denL,dX,denSub,denIte,asB,dY,beq_iff_eq,beq_eq_false_iff_ne,ne_eq,sals_len,sals_cell,sals_lsub,hds_len,hds_cell,hds_lsub,hds_snocN,hds_snoc0N,heads_len,whos_len,whos_cell,whos_lsub,whos_lcat,whos_snocN,whos_snoc0N,beq_iff_eq,beq_eq_false_iff_ne,ne_eq,h1,h4,hsy,sym23,sym164,sym171,sym180,sym182,sym188,sym191,sym113W]
  try simp [sortedW]
  try omega
  try (intro e; rw [e] at hlen; simp at hlen)
end Go.Proofs.YtckefonlahokkaaGreatDoor.Zs
