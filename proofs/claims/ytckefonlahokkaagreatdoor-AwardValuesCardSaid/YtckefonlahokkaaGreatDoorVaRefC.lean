/-
  Contracts of the reference: CheckSales.
-/
import Derived.Test.YtckefonlahokkaaGreatDoorVaRefB
import Derived.Test.YtckefonlahokkaaGreatDoorVaAcc
import Derived.KernelRfl
set_option linter.unusedSimpArgs false
set_option linter.unusedVariables false
namespace Go.Proofs.YtckefonlahokkaaGreatDoor.Zs
open Go
noncomputable def RC : Env→CallE:=libs [cLib rSl_con,cLib rSsY_con,cLib rHd_con,cLib rCt_con]
theorem RC_ok (F : List (X×Bool)) {r : Rho} (h : r.sym = sy) : CallsOk (E0.with F r) (RC (E0.with F r)):=libs_ok fun c hc => by
 simp only [List.mem_cons,List.not_mem_nil,or_false] at hc
 rcases hc with rfl | rfl | rfl | rfl
 ·exact lib_ok (E:=E0) rSl_cok F h
 ·exact lib_ok (E:=E0) rSsY_cok F h
 ·exact lib_ok (E:=E0) rHd_cok F h
 ·exact lib_ok (E:=E0) rCt_cok F h
def rcf_vs : List X:=[.num 0,.app 181 [.lsub (.app 180 [.lsub (.var 1) (.num 0) (.op1 (.wrap .i64) (.op2 .add (.var 100) (.num 1)))]) (.num 0) (.var 100),.cell 0 (.app 180 [.lsub (.var 1) (.num 0) (.op1 (.wrap .i64) (.op2 .add (.var 100) (.num 1)))]) (.var 100),.cell 1 (.app 180 [.lsub (.var 1) (.num 0) (.op1 (.wrap .i64) (.op2 .add (.var 100) (.num 1)))]) (.var 100),.cell 2 (.app 180 [.lsub (.var 1) (.num 0) (.op1 (.wrap .i64) (.op2 .add (.var 100) (.num 1)))]) (.var 100)]]
def rck_vs : List X:=[.num 0]
noncomputable def lRf_D : LoopD:={ N:=200,M:=202,size:=sizeOfF 29,reads:=[(0,.rows 9 salSch (.var 0) (.var 1) false 27),(101,.rows 3 hdSch (.num 0) (.app 180 [.lsub (.var 1) (.num 0) (.op1 (.wrap .i64) (.op2 .add (.var 100) (.num 1)))]) true 78)],pats:=[{ slots:=[(0,.slx 0 9 (.var 0) (.num 0) (.op1 .len (.var 1)) (.var 2)),(4,.sint .i64 (.var 100)),(5,.sint .i64 (.var 201)),(6,.slo 101 3 (.op1 .len (.app 180 [.lsub (.var 1) (.num 0) (.op1 (.wrap .i64) (.op2 .add (.var 100) (.num 1)))]))),(7,.sint .i64 (.var 200))],heap:=[] }],exits:=[(.exit 2,{ slots:=[(0,.slx 0 9 (.var 0) (.num 0) (.op1 .len (.var 1)) (.var 2)),(4,.sint .i64 (.var 100)),(5,.sint .i64 (.app 183 [.var 1,.var 100]))],heap:=[] })],own:=[],pre:=[(.app 23 [.var 1],true),(.op2 .lt (.var 100) (.op1 .len (.var 1)),true),(.op2 .lt (.var 100) (.num 0),false)],dfs:=[] }
noncomputable def lRf_run : Env→AF→ASt→Option (List Out):=bodyRun RC 9 (fun _ => noLoop) (loopAt Tryz.prog 29 1)
def lRf0_F : List (X×Bool):=[(.op2 .lt (.var 200) (.num 0),false),(.op2 .lt (.var 100) (.op1 .len (.var 1)),true),(.op2 .lt (.var 100) (.num 0),false)]
def qVC0 : X:=.op1 (.wrap .i64) (.op2 .add (.var 100) (.num 1))
def qVC1 : X:=.ite (.app 131 [(.cell 0 (.var 1) (.var 100)),(.cell 1 (.var 1) (.var 100)),(.cell 2 (.var 1) (.var 100)),(.cell 3 (.var 1) (.var 100)),(.cell 4 (.var 1) (.var 100)),(.cell 5 (.var 1) (.var 100)),(.cell 6 (.var 1) (.var 100)),(.cell 7 (.var 1) (.var 100)),(.cell 8 (.var 1) (.var 100))]) (.num 0) (.num 1)
def qVC2 : X:=.app 180 [(.lsub (.var 1) (.num 0) qVC0)]
def qVC3 : X:=.op2 .lt (.var 100) (.op1 .len (.var 1))
def qVC4 : X:=.op2 .lt (.var 100) (.num 0)
def qVC5 : X:=.lsub (.var 1) (.num 0) qVC0
def qVC6 : X:=.op2 .lt (.num 1010) (.op1 .len (.lsub qVC2 (.num 0) (.var 100)))
def qVC7 : X:=.op2 .eq (.cell 3 (.var 1) (.var 200)) (.cell 3 (.var 1) (.var 100))
def qVC8 : X:=.op2 .lt (.op1 .len qVC2) (.var 100)
def qVC9 : X:=.op2 .eq (.var 100) (.num 200)
def qVC10 : X:=.op2 .eq (.cell 8 (.var 1) (.var 100)) (.num 0)
def qVC11 : X:=.op2 .eq (.app 164 [(.var 1)]) (.num 0)
def qVC12 : X:=.op2 .lt (.op1 .len (.var 1)) qVC0
def qVC13 : X:=.app 182 [(.lsub qVC2 (.num 0) (.var 100)),(.cell 0 qVC2 (.var 200)),(.cell 1 qVC2 (.var 200)),(.cell 2 qVC2 (.var 200)),(.cell 1 (.var 1) (.var 100))]
def qVC14 : X:=.op2 .lt (.var 200) (.var 100)
def qVC15 : X:=.op2 .lt (.var 200) (.op1 .len (.var 1))
def qVC16 : X:=.op2 .lt (.num 0) (.op1 .len qVC5)
def qVC17 : X:=.op2 .lt qVC0 (.num 0)
def qVC18 : X:=.op2 .eq (.var 201) (.num 0)
def qVC19 : X:=.op2 .lt (.var 200) (.num 0)
def qVC20 : X:=.app 23 [(.var 1)]
def qVC21 : X:=.op2 .lt (.var 2) qVC0
def qVC22 : X:=.app 183 [(.var 1),(.var 100)]
def qVC23 : X:=.op2 .eq qVC1 (.num 0)
def qVC24 : X:=.op2 .lt (.var 200) (.op1 .len qVC2)
def qVC25 : X:=.op2 .lt (.var 100) (.op1 .len qVC2)
noncomputable def lRf0_t : FTree:=(.fork qVC14 (.fork qVC18 (.fork qVC10 (.fork qVC15 (.fork qVC7 (.fork qVC8 .bad (.fork qVC24 (.fork qVC6 .bad (.fork qVC13 (.leaf [.again 0 []]) (.leaf [.again 0 []]))) .bad)) (.leaf [.again 0 []])) .bad) (.leaf [.leave 0 []])) (.leaf [.leave 0 []])) (.leaf [.leave 0 []]))
noncomputable def lRf0_l : List (List (X×Bool)×Option (List (Tgt×Pairs))):=[([(qVC8,true),(qVC7,true),(qVC15,true),(qVC10,true),(qVC18,true),(qVC14,true),(qVC19,false),(qVC3,true),(qVC4,false)],none),
 ([(qVC6,true),(qVC24,true),(qVC8,false),(qVC7,true),(qVC15,true),(qVC10,true),(qVC18,true),(qVC14,true),(qVC19,false),(qVC3,true),(qVC4,false)],none),
 ([(qVC13,true),(qVC6,false),(qVC24,true),(qVC8,false),(qVC7,true),(qVC15,true),(qVC10,true),(qVC18,true),(qVC14,true),(qVC19,false),(qVC3,true),(qVC4,false)],some [(.again 0 [],[(.var 201,.num 61),(.var 200,.op1 (.wrap .i64) (.op2 .add (.var 200) (.num 1)))])]),
 ([(qVC13,false),(qVC6,false),(qVC24,true),(qVC8,false),(qVC7,true),(qVC15,true),(qVC10,true),(qVC18,true),(qVC14,true),(qVC19,false),(qVC3,true),(qVC4,false)],some [(.again 0 [],[(.var 201,.var 201),(.var 200,.op1 (.wrap .i64) (.op2 .add (.var 200) (.num 1)))])]),
 ([(qVC24,false),(qVC8,false),(qVC7,true),(qVC15,true),(qVC10,true),(qVC18,true),(qVC14,true),(qVC19,false),(qVC3,true),(qVC4,false)],none),
 ([(qVC7,false),(qVC15,true),(qVC10,true),(qVC18,true),(qVC14,true),(qVC19,false),(qVC3,true),(qVC4,false)],some [(.again 0 [],[(.var 201,.var 201),(.var 200,.op1 (.wrap .i64) (.op2 .add (.var 200) (.num 1)))])]),
 ([(qVC15,false),(qVC10,true),(qVC18,true),(qVC14,true),(qVC19,false),(qVC3,true),(qVC4,false)],none),
 ([(qVC10,false),(qVC18,true),(qVC14,true),(qVC19,false),(qVC3,true),(qVC4,false)],some [(.leave 0 [],[(qVC22,.var 201)])]),
 ([(qVC18,false),(qVC14,true),(qVC19,false),(qVC3,true),(qVC4,false)],some [(.leave 0 [],[(qVC22,.var 201)])]),
 ([(qVC14,false),(qVC19,false),(qVC3,true),(qVC4,false)],some [(.leave 0 [],[(qVC22,.var 201)])])]
theorem lRf0_w (r : Rho) : lRf_D.ways lRf_run E0 r 0 lRf0_F lRf0_t = some lRf0_l:=by kernel_rfl
theorem lRf_ok : lRf_D.ok = true:=by kernel_rfl
def noCf (l : List Sal9) (i k : Nat) : Prop:=∀ y ∈ l.take k,(y.parcel == (l.getD i ⟨0,0,0,0,0,0,0,0,0⟩).parcel && cntH (headsOf (l.take i)) y.id y.known y.of_ (l.getD i ⟨0,0,0,0,0,0,0,0,0⟩).known) = false
theorem noCf_step {l : List Sal9} {i k : Nat} {x y : Sal9} (hy : l[k]? = some y) (hg : l.getD i ⟨0,0,0,0,0,0,0,0,0⟩ = x) (h : noCf l i k) (hno : (y.parcel == x.parcel && cntH (headsOf (l.take i)) y.id y.known y.of_ x.known) = false) : noCf l i (k + 1):=by
 intro z hz
 rw [List.take_add_one,hy] at hz
 rcases List.mem_append.1 hz with hz | hz
 ·exact h z hz
 ·obtain rfl : z = y:=by simpa using hz
  rw [hg]; exact hno
theorem hs_end {l : List Sal9} {i : Nat} {x : Sal9} (hg : l.getD i ⟨0,0,0,0,0,0,0,0,0⟩ = x) : (noCf l i i→hsE l i = hdE (headsOf (l.take i)) x.id x.known x.of_)∧(¬ hdE (headsOf (l.take i)) x.id x.known x.of_ = 0→hsE l i = hdE (headsOf (l.take i)) x.id x.known x.of_)∧(¬ x.of_ = 0→hsE l i = hdE (headsOf (l.take i)) x.id x.known x.of_):=by
 have e : hsE l i = hsx (l.take i) x:=by unfold hsE; rw [Int.toNat_natCast,hg]
 rw [e]
 unfold hsx
 generalize hH : hdE (headsOf (l.take i)) x.id x.known x.of_ = he
 refine ⟨fun h => ?_,fun h => ?_,fun h => ?_⟩
 ·have : sldB (l.take i) x.parcel x.known = false:=by
   unfold sldB
   rw [List.any_eq_false]
   intro y hy
   have:=h y hy
   rw [hg] at this
   rw [this]; decide
  rw [this,Bool.and_false]
  by_cases h0 : he = 0
  ·simp [h0]
  ·have h0' : (he == 0) = false:=beq_eq_false_iff_ne.2 h0
   simp [h0']
 ·have h' : (he == 0) = false:=beq_eq_false_iff_ne.2 h
  simp [h']
 ·have h' : (x.of_ == 0) = false:=beq_eq_false_iff_ne.2 h
  by_cases h0 : he = 0
  ·simp [h0,h']
  ·have h0' : (he == 0) = false:=beq_eq_false_iff_ne.2 h0
   simp [h0']
theorem hs_hit {l : List Sal9} {i k : Nat} {x y : Sal9} (hg : l.getD i ⟨0,0,0,0,0,0,0,0,0⟩ = x) (hy : l[k]? = some y) (hk : k < i) (h0 : hdE (headsOf (l.take i)) x.id x.known x.of_ = 0) (hof : x.of_ = 0) (hc : (y.parcel == x.parcel && cntH (headsOf (l.take i)) y.id y.known y.of_ x.known) = true) : hsE l i = 61:=by
 have e : hsE l i = hsx (l.take i) x:=by unfold hsE; rw [Int.toNat_natCast,hg]
 rw [e]
 unfold hsx
 have : sldB (l.take i) x.parcel x.known = true:=by
  unfold sldB
  rw [List.any_eq_true]
  refine ⟨y,List.mem_of_getElem? (i:=k) (by rw [List.getElem?_take,if_pos hk]; exact hy),hc⟩
 rw [h0,this,hof]
 rfl
def lRf_Inv (l : List Sal9) (i : Nat) (j : Nat) (vals : List Value) : Prop:=j = 0∧∃ (k : Nat) (he : Int),k≤i∧vals = [.int .i64 (k : Int),.int .i64 he]∧((he = hdE (headsOf (l.take i)) (l.getD i ⟨0,0,0,0,0,0,0,0,0⟩).id (l.getD i ⟨0,0,0,0,0,0,0,0,0⟩).known (l.getD i ⟨0,0,0,0,0,0,0,0,0⟩).of_∧noCf l i k)∨(he = 61∧hsE l i = 61))
def lRf_mu (i : Nat) (_ : Nat) (vals : List Value) : Nat:=i - (vI (vals.getD 0 default)).toNat
set_option maxHeartbeats 2000000 in
theorem lRf_step {ρ : Rho} {l : List Sal9} {i : Nat} {ki : IntKind} {x : Sal9} (h1 : ρ.val 1 = some (salsR l)) (h100 : ρ.val 100 = some (.int ki (i : Int))) (hsy : ρ.sym = sy) (hsh : shortB l = true) (hp : l[i]? = some x) (j : Nat) (vals : List Value) (hI : lRf_Inv l i j vals) : StepOk lRf_D lRf_run E0 ρ (lRf_Inv l i) (lRf_mu i) j vals:=by
 obtain ⟨rfl,k,he,hk,rfl,⟨he1,hc⟩ | ⟨he1,hc⟩⟩:=hI
 ·-- none so far
  have hN : lRf_D.N = 200:=rfl
  have hmax:=short_len hsh
  have hil : i < l.length:=(List.getElem?_eq_some_iff.1 hp).1
  have hil1 : (i : Int) < l.length:=by omega
  have hwi : IntKind.i64.wrap ((i : Int) + 1) = ((i + 1 : Nat) : Int):=by rw [IntWalk.i64_in _ (by omega)]; rfl
  have hAt : (headsOf (l.take (i + 1)))[i]? = some ⟨x.id,x.known,x.of_⟩:=by rw [heads_at,List.getElem?_take,if_pos (by omega),hp]; rfl
  have hA0 : (headsOf (l.take (i + 1))).take i = headsOf (l.take i):=by rw [heads_take,List.take_take,Nat.min_eq_left (by omega)]
  have hLn : ((l.take (i + 1)).length : Int) = (i : Int) + 1:=by rw [List.length_take]; omega
  have hL0 : ((l.take i).length : Int) = i:=by rw [List.length_take]; omega
  have hg : l.getD i ⟨0,0,0,0,0,0,0,0,0⟩ = x:=by rw [List.getD_eq_getElem?_getD,hp]; rfl
  have v1 : (ρ.ext lRf_D.N [.int .i64 (k : Int),.int .i64 he]).val 1 = some (salsR l):=by rw [ext_low _ _ _ _ (by rw [hN]; omega)]; exact h1
  have v100 : (ρ.ext lRf_D.N [.int .i64 (k : Int),.int .i64 he]).val 100 = some (.int ki (i : Int)):=by rw [ext_low _ _ _ _ (by rw [hN]; omega)]; exact h100
  have v200 : (ρ.ext lRf_D.N [.int .i64 (k : Int),.int .i64 he]).val 200 = some (.int .i64 (k : Int)):=by rw [ext_high _ _ _ _ (by rw [hN]; omega)]; rfl
  have v201 : (ρ.ext lRf_D.N [.int .i64 (k : Int),.int .i64 he]).val 201 = some (.int .i64 he):=by rw [ext_high _ _ _ _ (by rw [hN]; omega)]; rfl
  have vs : (ρ.ext lRf_D.N [.int .i64 (k : Int),.int .i64 he]).sym = sy:=hsy
  have hF : FactsIn (ρ.ext lRf_D.N [.int .i64 (k : Int),.int .i64 he]) lRf0_F:=by
   simp only [lRf0_F,FactsIn,X.bool,X.den,denL,dX,denSub,denIte,asB,dY,sals_len,sals_cell,sals_lsub,hds_len,hds_cell,hds_lsub,hds_snocN,hds_snoc0N,snoc_nil,heads_len,v1,v100,v200,Option.some.injEq,Value.bool.injEq,decide_eq_true_eq,decide_eq_false_iff_not,and_true]
   omega
  suffices both : AsksL (ρ.ext lRf_D.N [.int .i64 (k : Int),.int .i64 he]) (lRf0_t.asks lRf0_F)∧WaysOk lRf_D ρ (lRf_Inv l i) (lRf_mu i) 0 [.int .i64 (k : Int),.int .i64 he] lRf0_l from step_of_ways (lRf0_w _) hF both.1.ok both.2
  have hx1:=hs_end (l:=l) (i:=i) (x:=x) hg
  have hH : hdE (headsOf (l.take i)) x.id x.known x.of_ = he:=by rw [he1,hg]
  rw [hH] at hx1
  by_cases hki : k < i
  ·obtain ⟨y,hy⟩ : ∃ y,l[k]? = some y:=⟨_,List.getElem?_eq_getElem (by omega)⟩
   have hk1 : (k : Int) < i:=by omega
   have hkl : (k : Int) < l.length:=by omega
   have hkA : (k : Int) < (i : Int) + 1:=by omega
   have hwk : IntKind.i64.wrap ((k : Int) + 1) = ((k + 1 : Nat) : Int):=by rw [IntWalk.i64_in _ (by omega)]; rfl
   have hAk : (headsOf (l.take (i + 1)))[k]? = some ⟨y.id,y.known,y.of_⟩:=by rw [heads_at,List.getElem?_take,if_pos (by omega),hy]; rfl
   have go0 : (y.parcel == x.parcel && cntH (headsOf (l.take i)) y.id y.known y.of_ x.known) = false→∃ vals',((ρ.ext lRf_D.N vals').val 201 = some (.int .i64 he)∧(ρ.ext lRf_D.N vals').val 200 = some (.int .i64 ((k + 1 : Nat) : Int)))∧lRf_Inv l i 0 vals'∧lRf_mu i 0 vals' < lRf_mu i 0 [.int .i64 (k : Int),.int .i64 he]:=by
    intro hno
    refine ⟨[.int .i64 ((k + 1 : Nat) : Int),.int .i64 he],⟨?_,?_⟩,⟨rfl,k + 1,he,by omega,rfl,.inl ⟨he1,noCf_step hy hg hc hno⟩⟩,by simp [lRf_mu,vI]; omega⟩
    ·rw [ext_high _ _ _ _ (by rw [hN]; omega)]; rfl
    ·rw [ext_high _ _ _ _ (by rw [hN]; omega)]; rfl
   have go1 : he = 0→x.of_ = 0→(y.parcel == x.parcel && cntH (headsOf (l.take i)) y.id y.known y.of_ x.known) = true→∃ vals',((ρ.ext lRf_D.N vals').val 201 = some (.int .i64 61)∧(ρ.ext lRf_D.N vals').val 200 = some (.int .i64 ((k + 1 : Nat) : Int)))∧lRf_Inv l i 0 vals'∧lRf_mu i 0 vals' < lRf_mu i 0 [.int .i64 (k : Int),.int .i64 he]:=by
    intro h0 hof hno
    refine ⟨[.int .i64 ((k + 1 : Nat) : Int),.int .i64 61],⟨?_,?_⟩,⟨rfl,k + 1,61,by omega,rfl,.inr ⟨rfl,hs_hit hg hy hki (hH.trans h0) hof hno⟩⟩,by simp [lRf_mu,vI]; omega⟩
    ·rw [ext_high _ _ _ _ (by rw [hN]; omega)]; rfl
    ·rw [ext_high _ _ _ _ (by rw [hN]; omega)]; rfl
   refine ⟨?_,?_⟩
   all_goals (simp only [lRf0_t,qVC25,qVC24,qVC23,qVC22,qVC21,qVC20,qVC19,qVC18,qVC17,qVC16,qVC15,qVC14,qVC13,qVC12,qVC11,qVC10,qVC9,qVC8,qVC7,qVC6,qVC5,qVC4,qVC3,qVC2,qVC1,qVC0,lRf0_F,lRf0_l,AsksL,GTree.asks,FTree.asks,FactsIn,List.append_nil,List.nil_append,List.cons_append,Option.some.injEq,exists_eq',implies_true,and_self,X.bool,X.den,denL,dX,denSub,denIte,asB,dY,sals_len,sals_cell,sals_lsub,hds_len,hds_cell,hds_lsub,hds_snocN,hds_snoc0N,snoc_nil,heads_len,EndsOk,WaysOk,forall_cons,forall_nil,TgtOk,gpair,FactsIn,hold_cons,hold_nil,Option.some.injEq,dZ,X.bool,X.den,denL,dX,denSub,denIte,asB,dY,beq_iff_eq,beq_eq_false_iff_ne,ne_eq,sals_len,sals_cell,sals_lsub,hds_len,hds_cell,hds_lsub,hds_snocN,hds_snoc0N,snoc_nil,heads_len,beq_iff_eq,beq_eq_false_iff_ne,ne_eq,v1,v100,v200,v201,vs,h1,h100,hsy,sym23,sym131,sym164,sym165,sym180,sym181,sym182,sym183,Int.toNat_natCast,Int.toNat_zero,List.drop_zero,hp,Option.bind_some,sal0,sal1,sal2,sal3,sal4,sal5,sal6,sal7,sal8,hd0,hd1,hd2,hil1,hwi,hAt,hA0,hLn,hL0,hH,hy,hAk,hwk,hk1,hkl,hkA,reduceCtorEq,Bool.false_eq_true,false_implies,implies_true,true_implies,and_self,and_true,true_and])
   all_goals (clear v1 v100 v200 v201 vs h1 h100 hsy hF he1 hH)
   all_goals ((repeat' apply And.intro) <;> intros <;> first
    | trivial
    | contradiction
    | (exact go1 (by assumption) (by assumption) (by simp_all))
    | (exact go0 (by simp_all))
    | (exact (hx1.2.1 (by assumption)).symm)
    | (exact (hx1.2.2 (by assumption)).symm)
    | (exfalso; omega)
    | (simp_all; done)
    | (simp; omega))
  ·obtain rfl : k = i:=by omega
   have hnk : ¬ (k : Int) < k:=by omega
   have hx0:=hx1.1 hc
   refine ⟨?_,?_⟩
   all_goals (simp only [lRf0_t,qVC25,qVC24,qVC23,qVC22,qVC21,qVC20,qVC19,qVC18,qVC17,qVC16,qVC15,qVC14,qVC13,qVC12,qVC11,qVC10,qVC9,qVC8,qVC7,qVC6,qVC5,qVC4,qVC3,qVC2,qVC1,qVC0,lRf0_F,lRf0_l,AsksL,GTree.asks,FTree.asks,FactsIn,List.append_nil,List.nil_append,List.cons_append,Option.some.injEq,exists_eq',implies_true,and_self,X.bool,X.den,denL,dX,denSub,denIte,asB,dY,sals_len,sals_cell,sals_lsub,hds_len,hds_cell,hds_lsub,hds_snocN,hds_snoc0N,snoc_nil,heads_len,EndsOk,WaysOk,forall_cons,forall_nil,TgtOk,gpair,FactsIn,hold_cons,hold_nil,Option.some.injEq,dZ,X.bool,X.den,denL,dX,denSub,denIte,asB,dY,beq_iff_eq,beq_eq_false_iff_ne,ne_eq,sals_len,sals_cell,sals_lsub,hds_len,hds_cell,hds_lsub,hds_snocN,hds_snoc0N,snoc_nil,heads_len,beq_iff_eq,beq_eq_false_iff_ne,ne_eq,v1,v100,v200,v201,vs,h1,h100,hsy,sym23,sym131,sym164,sym165,sym180,sym181,sym182,sym183,Int.toNat_natCast,Int.toNat_zero,List.drop_zero,hp,Option.bind_some,sal0,sal1,sal2,sal3,sal4,sal5,sal6,sal7,sal8,hd0,hd1,hd2,hil1,hwi,hAt,hA0,hLn,hL0,hH,hnk,reduceCtorEq,Bool.false_eq_true,false_implies,implies_true,true_implies,and_self,and_true,true_and])
   all_goals (clear v1 v100 v200 v201 vs h1 h100 hsy hF he1 hH)
   all_goals ((repeat' apply And.intro) <;> intros <;> first
    | trivial
    | contradiction
    | (exact hx0.symm)
    | (exfalso; omega)
    | (simp_all; done)
    | (simp; omega))
 ·-- 61 already
  have hN : lRf_D.N = 200:=rfl
  have hmax:=short_len hsh
  have hil : i < l.length:=(List.getElem?_eq_some_iff.1 hp).1
  have hil1 : (i : Int) < l.length:=by omega
  have hwi : IntKind.i64.wrap ((i : Int) + 1) = ((i + 1 : Nat) : Int):=by rw [IntWalk.i64_in _ (by omega)]; rfl
  have hAt : (headsOf (l.take (i + 1)))[i]? = some ⟨x.id,x.known,x.of_⟩:=by rw [heads_at,List.getElem?_take,if_pos (by omega),hp]; rfl
  have hA0 : (headsOf (l.take (i + 1))).take i = headsOf (l.take i):=by rw [heads_take,List.take_take,Nat.min_eq_left (by omega)]
  have hLn : ((l.take (i + 1)).length : Int) = (i : Int) + 1:=by rw [List.length_take]; omega
  have hL0 : ((l.take i).length : Int) = i:=by rw [List.length_take]; omega
  have hg : l.getD i ⟨0,0,0,0,0,0,0,0,0⟩ = x:=by rw [List.getD_eq_getElem?_getD,hp]; rfl
  have v1 : (ρ.ext lRf_D.N [.int .i64 (k : Int),.int .i64 he]).val 1 = some (salsR l):=by rw [ext_low _ _ _ _ (by rw [hN]; omega)]; exact h1
  have v100 : (ρ.ext lRf_D.N [.int .i64 (k : Int),.int .i64 he]).val 100 = some (.int ki (i : Int)):=by rw [ext_low _ _ _ _ (by rw [hN]; omega)]; exact h100
  have v200 : (ρ.ext lRf_D.N [.int .i64 (k : Int),.int .i64 he]).val 200 = some (.int .i64 (k : Int)):=by rw [ext_high _ _ _ _ (by rw [hN]; omega)]; rfl
  have v201 : (ρ.ext lRf_D.N [.int .i64 (k : Int),.int .i64 he]).val 201 = some (.int .i64 he):=by rw [ext_high _ _ _ _ (by rw [hN]; omega)]; rfl
  have vs : (ρ.ext lRf_D.N [.int .i64 (k : Int),.int .i64 he]).sym = sy:=hsy
  have hF : FactsIn (ρ.ext lRf_D.N [.int .i64 (k : Int),.int .i64 he]) lRf0_F:=by
   simp only [lRf0_F,FactsIn,X.bool,X.den,denL,dX,denSub,denIte,asB,dY,sals_len,sals_cell,sals_lsub,hds_len,hds_cell,hds_lsub,hds_snocN,hds_snoc0N,snoc_nil,heads_len,v1,v100,v200,Option.some.injEq,Value.bool.injEq,decide_eq_true_eq,decide_eq_false_iff_not,and_true]
   omega
  suffices both : AsksL (ρ.ext lRf_D.N [.int .i64 (k : Int),.int .i64 he]) (lRf0_t.asks lRf0_F)∧WaysOk lRf_D ρ (lRf_Inv l i) (lRf_mu i) 0 [.int .i64 (k : Int),.int .i64 he] lRf0_l from step_of_ways (lRf0_w _) hF both.1.ok both.2
  have he0 : ¬ he = 0:=by rw [he1]; decide
  refine ⟨?_,?_⟩
  all_goals (simp only [lRf0_t,qVC25,qVC24,qVC23,qVC22,qVC21,qVC20,qVC19,qVC18,qVC17,qVC16,qVC15,qVC14,qVC13,qVC12,qVC11,qVC10,qVC9,qVC8,qVC7,qVC6,qVC5,qVC4,qVC3,qVC2,qVC1,qVC0,lRf0_F,lRf0_l,AsksL,GTree.asks,FTree.asks,FactsIn,List.append_nil,List.nil_append,List.cons_append,Option.some.injEq,exists_eq',implies_true,and_self,X.bool,X.den,denL,dX,denSub,denIte,asB,dY,sals_len,sals_cell,sals_lsub,hds_len,hds_cell,hds_lsub,hds_snocN,hds_snoc0N,snoc_nil,heads_len,EndsOk,WaysOk,forall_cons,forall_nil,TgtOk,gpair,FactsIn,hold_cons,hold_nil,Option.some.injEq,dZ,X.bool,X.den,denL,dX,denSub,denIte,asB,dY,beq_iff_eq,beq_eq_false_iff_ne,ne_eq,sals_len,sals_cell,sals_lsub,hds_len,hds_cell,hds_lsub,hds_snocN,hds_snoc0N,snoc_nil,heads_len,beq_iff_eq,beq_eq_false_iff_ne,ne_eq,v1,v100,v200,v201,vs,h1,h100,hsy,sym23,sym131,sym164,sym165,sym180,sym181,sym182,sym183,Int.toNat_natCast,Int.toNat_zero,List.drop_zero,hp,Option.bind_some,sal0,sal1,sal2,sal3,sal4,sal5,sal6,sal7,sal8,hd0,hd1,hd2,hil1,hwi,hAt,hA0,hLn,hL0,reduceCtorEq,Bool.false_eq_true,false_implies,implies_true,true_implies,and_self,and_true,true_and])
  all_goals (clear v1 v100 v200 v201 vs h1 h100 hsy hF)
  all_goals ((repeat' apply And.intro) <;> intros <;> first
   | trivial
   | contradiction
   | (rw [hc,he1]; done)
   | (exfalso; omega)
   | (simp_all; done))
theorem rf_body : loopsOf (loopAt Tryz.prog 29 0) = [loopAt Tryz.prog 29 1]:=by kernel_rfl
theorem rf_key : keyOf (loopAt Tryz.prog 29 1) = 11:=by kernel_rfl
theorem mem_onlyV {α : Type} {P : α→Prop} {a : α} (h : P a) : ∀ c ∈ [a],P c:=by
 intro c hc
 rw [List.mem_singleton] at hc
 subst hc
 exact h
theorem idx_sals {r : Rho} {l : List Sal9} (h1 : r.val 1 = some (salsR l)) (hF : X.bool r (.op2 .lt (.var 100) (.op1 .len (.var 1))) = some true) (h0 : X.bool r (.op2 .lt (.var 100) (.num 0)) = some false) :
  ∃ (ki : IntKind) (n : Nat),r.val 100 = some (.int ki (n : Int))∧n < l.length:=by
 simp only [X.bool,X.den,h1,sals_len] at hF h0
 cases hv : r.val 100 with
 | none => rw [hv] at hF; cases hF
 | some v =>
   rw [hv] at hF h0
   cases v <;> simp only [den2,asB,Option.some.injEq,Bool.decide_eq_true,decide_eq_true_eq,decide_eq_false_iff_not,reduceCtorEq] at hF h0
   rename_i k n
   exact ⟨k,n.toNat,by rw [show ((n.toNat : Nat) : Int) = n by omega],by omega⟩
def iOf (r : Rho) : Nat:=match r.val 100 with
 | some (.int _ n) => n.toNat
 | _ => 0
theorem rf_H {r : Rho} {l : List Sal9} (h1 : r.val 1 = some (salsR l)) (hsy : r.sym = sy) (hsh : shortB l = true) (F : List (X×Bool)) :
  ∀ c' ∈ loopsOf (loopAt Tryz.prog 29 0),CodeOk (E0.with F r) none (.loop c') (hooks [(11,lRf_D.hook (E0.with F r).facts rcf_vs)] c'):=by
 rw [rf_body]
 refine mem_onlyV (P:=fun c' => CodeOk (E0.with F r) none (.loop c') (hooks [(11,lRf_D.hook (E0.with F r).facts rcf_vs)] c')) ?_
 show CodeOk (E0.with F r) none (.loop (loopAt Tryz.prog 29 1)) (hooks [(11,lRf_D.hook (E0.with F r).facts rcf_vs)] (loopAt Tryz.prog 29 1))
 rw [hooks_hit rf_key]
 refine hook_ok (E₀:=E0) (run:=lRf_run) (ρ:=r) (Inv:=lRf_Inv l (iOf r)) (μ:=lRf_mu (iOf r)) E0_ok lRf_ok (fun F r' h => ?_) (fun hp => ?_)
 ·exact bodyRun_ok E0_ok (RC_ok F (h.trans hsy)) fun _ _ => noLoop_ok
 ·obtain ⟨ki,i,h100,hlt⟩:=idx_sals h1 hp.2.1 hp.2.2.1
  have hi : iOf r = i:=by simp [iOf,h100]
  rw [hi]
  have hp : l[i]? = some (l.getD i ⟨0,0,0,0,0,0,0,0,0⟩):=by rw [List.getD_eq_getElem?_getD,List.getElem?_eq_getElem hlt]; rfl
  refine ⟨lRf_step h1 h100 hsy hsh hp,[.int .i64 0,.int .i64 (hdE (headsOf (l.take i)) (l.getD i ⟨0,0,0,0,0,0,0,0,0⟩).id (l.getD i ⟨0,0,0,0,0,0,0,0,0⟩).known (l.getD i ⟨0,0,0,0,0,0,0,0,0⟩).of_)],?_,rfl,0,_,Nat.zero_le _,rfl,.inl ⟨rfl,fun y hy => by cases hy⟩⟩
  have hmax:=short_len hsh
  have hwi : IntKind.i64.wrap ((i : Int) + 1) = ((i + 1 : Nat) : Int):=by rw [IntWalk.i64_in _ (by omega)]; rfl
  generalize l.getD i ⟨0,0,0,0,0,0,0,0,0⟩ = x at hp ⊢
  have hAt : (headsOf (l.take (i + 1)))[i]? = some ⟨x.id,x.known,x.of_⟩:=by rw [heads_at,List.getElem?_take,if_pos (by omega),hp]; rfl
  have hA0 : (headsOf (l.take (i + 1))).take i = headsOf (l.take i):=by rw [heads_take,List.take_take,Nat.min_eq_left (by omega)]
  simp only [rcf_vs,X.bool,X.den,denL,dX,denSub,denIte,asB,dY,sals_len,sals_cell,sals_lsub,hds_len,hds_cell,hds_lsub,hds_snocN,hds_snoc0N,snoc_nil,heads_len,h1,h100,hsy,sym23,sym131,sym164,sym165,sym180,sym181,sym182,sym183,Int.toNat_natCast,Int.toNat_zero,List.drop_zero,Option.bind_some,hd0,hd1,hd2,hwi,hAt,hA0]
noncomputable def lRk_D : LoopD:={ N:=100,M:=101,size:=sizeOfF 29,reads:=[(0,.rows 9 salSch (.var 0) (.var 1) false 27)],pats:=[{ slots:=[(0,.slx 0 9 (.var 0) (.num 0) (.op1 .len (.var 1)) (.var 2)),(4,.sint .i64 (.var 100))],heap:=[] }],exits:=[(.exit 0,{ slots:=[],heap:=[],guard:=.op2 .eq (.app 164 [.var 1]) (.num 0) }),(.ret,{ slots:=[(2,.sint .i64 (.app 165 [.var 1])),(3,.sint .i64 (.app 164 [.var 1]))],heap:=[],guard:=.op1 .not (.op2 .eq (.app 164 [.var 1]) (.num 0)) })],own:=[],pre:=[(.app 23 [.var 1],true)],dfs:=[] }
noncomputable def lRk_run : Env→AF→ASt→Option (List Out):=bodyRun RC 9 (fun E => hooks [(11,lRf_D.hook E.facts rcf_vs)]) (loopAt Tryz.prog 29 0)
def lRk0_F : List (X×Bool):=[(.op2 .lt (.var 100) (.num 0),false),(.app 23 [.var 1],true)]
noncomputable def lRk0_t : FTree:=(.fork qVC3 (.fork qVC9 (.leaf [.leave 1 []]) (.fork qVC17 .bad (.fork qVC21 .bad (.fork qVC12 .bad (.fork (.app 23 [qVC5]) (.fork qVC16 (.fork qVC23 (.fork qVC8 .bad (.fork qVC25 (.fork qVC6 .bad (.fork (.op2 .eq qVC22 (.num 0)) (.leaf [.again 0 []]) (.leaf [.leave 1 []]))) .bad)) (.fork (.op2 .lt (.num 0) (.var 100)) (.leaf [.leave 1 []]) (.leaf [.leave 1 []]))) .bad) .bad))))) (.leaf [.leave 0 []]))
noncomputable def lRk0_l : List (List (X×Bool)×Option (List (Tgt×Pairs))):=[([(qVC9,true),(qVC3,true),(qVC4,false),(qVC20,true)],some [(.leave 1 [],[(.app 165 [.var 1],.var 100),(.app 164 [.var 1],.num 2),(.op1 .not qVC11,.boo true)])]),
 ([(qVC17,true),(qVC9,false),(qVC3,true),(qVC4,false),(qVC20,true)],none),
 ([(qVC21,true),(qVC17,false),(qVC9,false),(qVC3,true),(qVC4,false),(qVC20,true)],none),
 ([(qVC12,true),(qVC21,false),(qVC17,false),(qVC9,false),(qVC3,true),(qVC4,false),(qVC20,true)],none),
 ([(qVC8,true),(qVC23,true),(qVC16,true),(.app 23 [qVC5],true),(qVC12,false),(qVC21,false),(qVC17,false),(qVC9,false),(qVC3,true),(qVC4,false),(qVC20,true)],none),
 ([(qVC6,true),(qVC25,true),(qVC8,false),(qVC23,true),(qVC16,true),(.app 23 [qVC5],true),(qVC12,false),(qVC21,false),(qVC17,false),(qVC9,false),(qVC3,true),(qVC4,false),(qVC20,true)],none),
 ([(.op2 .eq qVC22 (.num 0),true),(qVC6,false),(qVC25,true),(qVC8,false),(qVC23,true),(qVC16,true),(.app 23 [qVC5],true),(qVC12,false),(qVC21,false),(qVC17,false),(qVC9,false),(qVC3,true),(qVC4,false),(qVC20,true)],some [(.again 0 [],[(.var 100,qVC0)])]),
 ([(.op2 .eq qVC22 (.num 0),false),(qVC6,false),(qVC25,true),(qVC8,false),(qVC23,true),(qVC16,true),(.app 23 [qVC5],true),(qVC12,false),(qVC21,false),(qVC17,false),(qVC9,false),(qVC3,true),(qVC4,false),(qVC20,true)],some [(.leave 1 [],[(.app 165 [.var 1],.var 100),(.app 164 [.var 1],qVC22),(.op1 .not qVC11,.boo true)])]),
 ([(qVC25,false),(qVC8,false),(qVC23,true),(qVC16,true),(.app 23 [qVC5],true),(qVC12,false),(qVC21,false),(qVC17,false),(qVC9,false),(qVC3,true),(qVC4,false),(qVC20,true)],none),
 ([(.op2 .lt (.num 0) (.var 100),true),(qVC23,false),(qVC16,true),(.app 23 [qVC5],true),(qVC12,false),(qVC21,false),(qVC17,false),(qVC9,false),(qVC3,true),(qVC4,false),(qVC20,true)],some [(.leave 1 [],[(.app 165 [.var 1],.var 100),(.app 164 [.var 1],qVC1),(.op1 .not qVC11,.boo true)])]),
 ([(.op2 .lt (.num 0) (.var 100),false),(qVC23,false),(qVC16,true),(.app 23 [qVC5],true),(qVC12,false),(qVC21,false),(qVC17,false),(qVC9,false),(qVC3,true),(qVC4,false),(qVC20,true)],some [(.leave 1 [],[(.app 165 [.var 1],.var 100),(.app 164 [.var 1],qVC1),(.op1 .not qVC11,.boo true)])]),
 ([(qVC16,false),(.app 23 [qVC5],true),(qVC12,false),(qVC21,false),(qVC17,false),(qVC9,false),(qVC3,true),(qVC4,false),(qVC20,true)],none),
 ([(.app 23 [qVC5],false),(qVC12,false),(qVC21,false),(qVC17,false),(qVC9,false),(qVC3,true),(qVC4,false),(qVC20,true)],none),
 ([(qVC3,false),(qVC4,false),(qVC20,true)],some [(.leave 0 [],[(qVC11,.boo true)])])]
theorem lRk0_w (r : Rho) : lRk_D.ways lRk_run E0 r 0 lRk0_F lRk0_t = some lRk0_l:=by kernel_rfl
theorem lRk_ok : lRk_D.ok = true:=by kernel_rfl
def lRk_Inv (l : List Sal9) (j : Nat) (vals : List Value) : Prop:=
 j = 0∧∃ i : Nat,i≤l.length∧vals = [.int .i64 (i : Int)]∧∀ k,k < i→badS l k = 0
def lRk_mu (l : List Sal9) (_ : Nat) (vals : List Value) : Nat:=l.length - (vI (vals.getD 0 default)).toNat
set_option maxHeartbeats 4000000 in
theorem lRk_step {ρ : Rho} {l : List Sal9} {kc : IntKind} {cap : Int} (h1 : ρ.val 1 = some (salsR l)) (h2 : ρ.val 2 = some (.int kc cap)) (hcap : (l.length : Int)≤cap) (hsy : ρ.sym = sy) (hsh : shortB l = true) (j : Nat) (vals : List Value) (hI : lRk_Inv l j vals) : StepOk lRk_D lRk_run E0 ρ (lRk_Inv l) (lRk_mu l) j vals:=by
 obtain ⟨rfl,i,hi,rfl,hall⟩:=hI
 have hN : lRk_D.N = 100:=rfl
 have hmax:=short_len hsh
 have v1 : (ρ.ext lRk_D.N [.int .i64 (i : Int)]).val 1 = some (salsR l):=by rw [ext_low _ _ _ _ (by rw [hN]; omega)]; exact h1
 have v2 : (ρ.ext lRk_D.N [.int .i64 (i : Int)]).val 2 = some (.int kc cap):=by rw [ext_low _ _ _ _ (by rw [hN]; omega)]; exact h2
 have v100 : (ρ.ext lRk_D.N [.int .i64 (i : Int)]).val 100 = some (.int .i64 (i : Int)):=by rw [ext_high _ _ _ _ (by rw [hN]; omega)]; rfl
 have vs : (ρ.ext lRk_D.N [.int .i64 (i : Int)]).sym = sy:=hsy
 have hF : FactsIn (ρ.ext lRk_D.N [.int .i64 (i : Int)]) lRk0_F:=by
  simp only [lRk0_F,FactsIn,X.bool,X.den,denL,dX,denSub,denIte,asB,dY,sals_len,sals_cell,sals_lsub,hds_len,hds_cell,hds_lsub,hds_snocN,hds_snoc0N,snoc_nil,heads_len,v1,v100,vs,sym23,hsh,Option.some.injEq,Value.bool.injEq,decide_eq_false_iff_not,and_true]
  omega
 suffices both : AsksL (ρ.ext lRk_D.N [.int .i64 (i : Int)]) (lRk0_t.asks lRk0_F)∧WaysOk lRk_D ρ (lRk_Inv l) (lRk_mu l) 0 [.int .i64 (i : Int)] lRk0_l from step_of_ways (lRk0_w _) hF both.1.ok both.2
 cases hp : l[i]? with
 | none =>
   have hge:=List.getElem?_eq_none_iff.1 hp
   have hge' : ¬ (i : Int) < l.length:=by omega
   have he : chkE l = 0:=by unfold chkE; rw [stop_none fun k hk => hall k (by omega)]
   refine ⟨?_,?_⟩
   ·simp only [lRk0_t,qVC25,qVC24,qVC23,qVC22,qVC21,qVC20,qVC19,qVC18,qVC17,qVC16,qVC15,qVC14,qVC13,qVC12,qVC11,qVC10,qVC9,qVC8,qVC7,qVC6,qVC5,qVC4,qVC3,qVC2,qVC1,qVC0,lRk0_F,AsksL,GTree.asks,FTree.asks,FactsIn,List.append_nil,List.nil_append,List.cons_append,Option.some.injEq,exists_eq',implies_true,and_self,X.bool,X.den,denL,dX,denSub,denIte,asB,dY,sals_len,sals_cell,sals_lsub,hds_len,hds_cell,hds_lsub,hds_snocN,hds_snoc0N,snoc_nil,heads_len,v1,v2,v100,vs,sym23,sym131,sym164,sym165,sym180,sym181,sym182,sym183,hsh,Int.toNat_natCast,hp,hge']
    try simp
   ·simp only [lRk0_l,qVC25,qVC24,qVC23,qVC22,qVC21,qVC20,qVC19,qVC18,qVC17,qVC16,qVC15,qVC14,qVC13,qVC12,qVC11,qVC10,qVC9,qVC8,qVC7,qVC6,qVC5,qVC4,qVC3,qVC2,qVC1,qVC0,EndsOk,WaysOk,forall_cons,forall_nil,TgtOk,gpair,FactsIn,hold_cons,hold_nil,Option.some.injEq,dZ,X.bool,X.den,denL,dX,denSub,denIte,asB,dY,beq_iff_eq,beq_eq_false_iff_ne,ne_eq,sals_len,sals_cell,sals_lsub,hds_len,hds_cell,hds_lsub,hds_snocN,hds_snoc0N,snoc_nil,heads_len,v1,v2,v100,vs,h1,h2,hsy,sym23,sym131,sym164,sym165,sym180,sym181,sym182,sym183,hsh,Int.toNat_natCast,hp,hge',he,reduceCtorEq,Bool.false_eq_true,false_implies,implies_true,true_implies,and_self,and_true,true_and]
    try simp
 | some x =>
   have hil : i < l.length:=(List.getElem?_eq_some_iff.1 hp).1
   have hil1 : (i : Int) < l.length:=by omega
   have hbad:=bad_same hp hall
   have hwi : IntKind.i64.wrap ((i : Int) + 1) = ((i + 1 : Nat) : Int):=by rw [IntWalk.i64_in _ (by omega)]; rfl
   have h200 : ((i : Int) = 200) = (i = 200):=by rw [eq_iff_iff]; omega
   have hAt : (headsOf (l.take (i + 1)))[i]? = some ⟨x.id,x.known,x.of_⟩:=by rw [heads_at,List.getElem?_take,if_pos (by omega),hp]; rfl
   have hA0 : (headsOf (l.take (i + 1))).take i = headsOf (l.take i):=by rw [heads_take,List.take_take,Nat.min_eq_left (by omega)]
   have hLn : ((l.take (i + 1)).length : Int) = (i : Int) + 1:=by rw [List.length_take]; omega
   have hL0 : ((l.take i).length : Int) = i:=by rw [List.length_take]; omega
   have hsp : shortB (l.take (i + 1)) = true:=len_short (by omega)
   have n1 : ¬ ((i + 1 : Nat) : Int) < 0:=by omega
   have n2 : ¬ cap < ((i + 1 : Nat) : Int):=by omega
   have n3 : ¬ (l.length : Int) < ((i + 1 : Nat) : Int):=by omega
   have n4 : (0 : Int) < (i : Int) + 1:=by omega
   have n5 : ¬ (i : Int) + 1 < i:=by omega
   have n6 : (i : Int) < (i : Int) + 1:=by omega
   have n7 : ¬ (1010 : Int) < i:=by omega
   have out : ∀ e,badS l i = e→e≠0→chkI l = i∧chkE l = e:=fun e he hne => by
    have:=stop_some hil hall (by rw [he]; exact hne)
    unfold chkI chkE
    rw [this]
    exact ⟨rfl,he⟩
   have go : badS l i = 0→∃ vals',(ρ.ext lRk_D.N vals').val 100 = some (.int .i64 ((i + 1 : Nat) : Int))∧lRk_Inv l 0 vals'∧lRk_mu l 0 vals' < lRk_mu l 0 [.int .i64 (i : Int)]:=by
    intro hb
    refine ⟨[.int .i64 ((i + 1 : Nat) : Int)],?_,⟨rfl,i + 1,by omega,rfl,fun k hk => ?_⟩,by simp [lRk_mu,vI]; omega⟩
    ·rw [ext_high _ _ _ _ (by rw [hN]; omega)]; rfl
    ·rcases Nat.lt_or_ge k i with h | h
     ·exact hall k h
     ·rw [show k = i by omega]; exact hb
   have hxs : saleB ⟨x.id,x.known,x.hour,x.parcel,x.price,x.carter,x.keeper,x.since,x.of_⟩ = saleB x:=rfl
   generalize hE : hsE l i = he at hbad
   refine ⟨?_,?_⟩
   all_goals (simp only [lRk0_t,qVC25,qVC24,qVC23,qVC22,qVC21,qVC20,qVC19,qVC18,qVC17,qVC16,qVC15,qVC14,qVC13,qVC12,qVC11,qVC10,qVC9,qVC8,qVC7,qVC6,qVC5,qVC4,qVC3,qVC2,qVC1,qVC0,lRk0_F,lRk0_l,AsksL,GTree.asks,FTree.asks,FactsIn,List.append_nil,List.nil_append,List.cons_append,Option.some.injEq,exists_eq',implies_true,and_self,X.bool,X.den,denL,dX,denSub,denIte,asB,dY,sals_len,sals_cell,sals_lsub,hds_len,hds_cell,hds_lsub,hds_snocN,hds_snoc0N,snoc_nil,heads_len,EndsOk,WaysOk,forall_cons,forall_nil,TgtOk,gpair,FactsIn,hold_cons,hold_nil,Option.some.injEq,dZ,X.bool,X.den,denL,dX,denSub,denIte,asB,dY,beq_iff_eq,beq_eq_false_iff_ne,ne_eq,sals_len,sals_cell,sals_lsub,hds_len,hds_cell,hds_lsub,hds_snocN,hds_snoc0N,snoc_nil,heads_len,beq_iff_eq,beq_eq_false_iff_ne,ne_eq,v1,v2,v100,vs,h1,h2,hsy,sym23,sym131,sym164,sym165,sym180,sym181,sym182,sym183,hsh,Int.toNat_natCast,Int.toNat_zero,List.drop_zero,hp,Option.bind_some,sal0,sal1,sal2,sal3,sal4,sal5,sal6,sal7,sal8,hd0,hd1,hd2,hil1,hwi,hAt,hA0,hLn,hL0,hsp,hxs,hE,h200,n1,n2,n3,n4,n5,n6,n7,reduceCtorEq,Bool.false_eq_true,false_implies,implies_true,true_implies,and_self,and_true,true_and])
   all_goals (clear v1 v2 v100 vs h1 h2 hsy hF hE)
   all_goals (cases eS : saleB x)
   all_goals (rw [eS] at hbad)
   all_goals ((repeat' apply And.intro) <;> intros <;> first
    | trivial
    | contradiction
    | (exact go (by rw [hbad]; simp_all))
    | (obtain ⟨oa,ob⟩:=out 2 (by rw [hbad]; simp_all) (by decide); simp [oa,ob]; done)
    | (obtain ⟨oa,ob⟩:=out 1 (by rw [hbad]; simp_all) (by decide); simp [oa,ob]; done)
    | (obtain ⟨oa,ob⟩:=out he (by rw [hbad]; simp_all) (by assumption); simp_all; done)
    | (exfalso; omega)
    | (simp_all; done))
noncomputable def rCks_con : Con:={ f:=29,args:=[salsArg 0 0],N:=1,M:=1,pre:=[(.app 23 [.var 1],true)],out:=.tuple [.sint .i64 (.ite (.op2 .eq (.app 164 [.var 1]) (.num 0)) (.num 0) (.app 165 [.var 1])),.sint .i64 (.app 164 [.var 1])],news:=[] }
noncomputable def rCks_call : Env→CallL:=fun E => acallAll E (evH E (RC E) ((fun E => oneH 29 (hooks [(2,lRk_D.hook E.facts rck_vs)])) E) 9)
noncomputable def rCks_t : GTree:=(.fork qVC11 (.leaf [[]]) (.leaf [[]]))
noncomputable def rCks_l : List (List (X×Bool)×Option Pairs):=[([(qVC11,true),(qVC20,true)],some [(.ite qVC11 (.num 0) (.app 165 [.var 1]),.num 0),(.app 164 [.var 1],.num 0)]),
 ([(qVC11,false),(qVC20,true)],some [(.ite qVC11 (.num 0) (.app 165 [.var 1]),.app 165 [.var 1]),(.app 164 [.var 1],.app 164 [.var 1])])]
theorem rCks_w (r : Rho) : rCks_con.fn.ways rCks_call E0 r rCks_con.pre rCks_t = some rCks_l:=by kernel_rfl
theorem lRk_H {ρ : Rho} {l : List Sal9} {kc : IntKind} {cap : Int} (h1 : ρ.val 1 = some (salsR l)) (h2 : ρ.val 2 = some (.int kc cap)) (hcap : (l.length : Int)≤cap) (hsy : ρ.sym = sy) (hsh : shortB l = true) (F : List (X×Bool)) : LoopsOk (E0.with F ρ) (oneH 29 (hooks [(2,lRk_D.hook (E0.with F ρ).facts rck_vs)])):=by
 refine loops_all (n:=2) (fun f fn h => h) (by kernel_rfl) fun i hi => ?_
 have h01 : i = 0∨i = 1:=by omega
 rcases h01 with rfl | rfl
 ·rw [hooks_hit (show keyOf (loopAt (E0.with F ρ).P 29 0) = 2 by kernel_rfl)]
  refine hook_in (E₀:=E0) (run:=lRk_run) (ρ:=ρ) (Inv:=lRk_Inv l) (μ:=lRk_mu l) E0_ok lRk_ok (fun F vals => ?_) (fun hp => ⟨lRk_step h1 h2 hcap hsy hsh,[.int .i64 0],?_,rfl,0,Nat.zero_le _,rfl,fun k hk => by omega⟩)
  ·have hN : lRk_D.N = 100:=rfl
   exact bodyRun_ok E0_ok (RC_ok F (r:=ρ.ext lRk_D.N vals) hsy) (rf_H (r:=ρ.ext lRk_D.N vals) (by rw [ext_low _ _ _ _ (by rw [hN]; omega)]; exact h1) hsy hsh F)
  ·simp only [rck_vs,X.bool,X.den,denL,dX,denSub,denIte,asB,dY,sals_len,sals_cell,sals_lsub,hds_len,hds_cell,hds_lsub,hds_snocN,hds_snoc0N,snoc_nil,heads_len]
 ·rw [hooks_miss (show Nat.beq (keyOf (loopAt (E0.with F ρ).P 29 1)) 2 = false by kernel_rfl)]
  exact fun f S outs h => by cases h
theorem rCks_cok : rCks_con.Ok Tryz.prog sy:=by
 intro r σ w us hsy hρ hpre hrel hins
 obtain ⟨l,h1⟩:=sals_open hrel rfl hρ
 obtain ⟨u0,us,rfl,g0,hi⟩:=ins_cons hins
 obtain ⟨kc,cap,h2,hcap⟩:=sals_cap g0 (show σ.rho.val 1 = some (salsR l) by rw [hρ]; exact h1)
 rw [hρ] at h2
 have hsh : shortB l = true:=by
  have:=hpre.1
  simpa only [X.bool,X.den,denL,dX,denSub,denIte,asB,dY,sals_len,sals_cell,sals_lsub,hds_len,hds_cell,hds_lsub,hds_snocN,hds_snoc0N,snoc_nil,heads_len,h1,hsy,sym23,Option.some.injEq,Value.bool.injEq] using this
 refine con_of (E:=E0) E0_ok E0_glob (sy:=sy) (fun F => RC_ok F hsy) (fun F => lRk_H h1 h2 hcap hsy hsh F) (rCks_w r) hρ hpre hrel hins ?_ ?_
 ·simp only [rCks_con,rCks_t,qVC25,qVC24,qVC23,qVC22,qVC21,qVC20,qVC19,qVC18,qVC17,qVC16,qVC15,qVC14,qVC13,qVC12,qVC11,qVC10,qVC9,qVC8,qVC7,qVC6,qVC5,qVC4,qVC3,qVC2,qVC1,qVC0,AsksL,GTree.asks,FTree.asks,FactsIn,List.append_nil,List.nil_append,List.cons_append,Option.some.injEq,exists_eq',implies_true,and_self,X.bool,X.den,denL,dX,denSub,denIte,asB,dY,sals_len,sals_cell,sals_lsub,hds_len,hds_cell,hds_lsub,hds_snocN,hds_snoc0N,snoc_nil,heads_len,h1,hsy,sym23,sym131,sym164,sym165,sym180,sym181,sym182,sym183]
  try simp
 ·by_cases he : chkE l = 0
  all_goals (simp only [rCks_l,qVC25,qVC24,qVC23,qVC22,qVC21,qVC20,qVC19,qVC18,qVC17,qVC16,qVC15,qVC14,qVC13,qVC12,qVC11,qVC10,qVC9,qVC8,qVC7,qVC6,qVC5,qVC4,qVC3,qVC2,qVC1,qVC0,EndsOk,WaysOk,forall_cons,forall_nil,TgtOk,gpair,FactsIn,hold_cons,hold_nil,Option.some.injEq,dZ,X.bool,X.den,denL,dX,denSub,denIte,asB,dY,beq_iff_eq,beq_eq_false_iff_ne,ne_eq,sals_len,sals_cell,sals_lsub,hds_len,hds_cell,hds_lsub,hds_snocN,hds_snoc0N,snoc_nil,heads_len,beq_iff_eq,beq_eq_false_iff_ne,ne_eq,h1,hsy,sym23,sym131,sym164,sym165,sym180,sym181,sym182,sym183])
  ·rw [he]
   simp
  ·have hb : (chkE l == 0) = false:=by simpa using he
   rw [hb]
   simp [he]
end Go.Proofs.YtckefonlahokkaaGreatDoor.Zs
