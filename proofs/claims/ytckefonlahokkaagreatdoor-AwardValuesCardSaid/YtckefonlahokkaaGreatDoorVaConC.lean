/-
  Contracts: Sold.
-/
import Derived.Test.YtckefonlahokkaaGreatDoorVaConB
import Derived.Test.YtckefonlahokkaaGreatDoorVaKeys
import Derived.KernelRfl
set_option linter.unusedSimpArgs false
set_option linter.unusedVariables false
namespace Go.Proofs.YtckefonlahokkaaGreatDoor.Zs
open Go
noncomputable def LO : Env→CallE:=libs [cLib cCks_con,sortLib 33 113]
theorem LO_ok (F : List (X×Bool)) {r : Rho} (h : r.sym = sy) : CallsOk (E0.with F r) (LO (E0.with F r)):=libs_ok fun c hc => by
 simp only [List.mem_cons,List.not_mem_nil,or_false] at hc
 rcases hc with rfl | rfl
 ·exact lib_ok (E:=E0) cCks_cok F h
 ·exact sortLib_ok (E:=E0.with F r) (Env.with_ok E0_ok F r) (r:=r) rfl (fun rows => by rw [h]; exact sym113R rows) sortSays
noncomputable def lVs_D : LoopD:={ N:=100,M:=102,size:=sizeOfF 54,reads:=[(0,.rows 9 salSch (.var 0) (.var 1) false 27),(2,.cells [.slx 0 9 (.var 0) (.num 0) (.op1 .len (.var 1)) (.var 2)] 22),(3,.cells [.sint .i64 (.var 4)] 3),(4,.cells [.func (.func 28) [] []] 73)],pats:=[{ slots:=[(0,.yield 6),(1,.ptr 2 0),(2,.ptr 4 0),(3,.ptr 3 0),(5,.map 7),(14,.slx 0 9 (.var 0) (.num 0) (.op1 .len (.var 1)) (.var 2)),(15,.sint .i64 (.op1 .len (.var 1))),(16,.sint .i64 (.var 100))],heap:=[(7,.smap false [.int .i64] false [.bool] (.var 101))] }],exits:=[(.exit 0,{ slots:=[(0,.yield 6),(1,.ptr 2 0),(2,.ptr 4 0),(3,.ptr 3 0),(5,.map 7)],heap:=[(7,.smap false [.int .i64] false [.bool] (.app 166 [.var 1,.var 4]))] })],own:=[7],pre:=[(.app 23 [.var 1],true)],dfs:=[] }
noncomputable def lVs_run : Env→AF→ASt→Option (List Out):=bodyRun LO 9 (fun _ => noLoop) (loopAt Tryz.prog 54 0)
def lVs0_F : List (X×Bool):=[(.op2 .lt (.var 100) (.num 0),false)]
def qFC0 : X:=.snoc .nil [(.op1 (.kind .i64) (.cell 0 (.var 1) (.var 200)))]
def qFC1 : X:=.op2 .eq (.cell 8 (.var 1) (.var 200)) (.num 0)
def qFC2 : X:=.op2 .lt (.var 200) (.op1 .len (.var 1))
def qFC3 : X:=.op2 .lt (.var 4) (.cell 1 (.var 1) (.var 200))
def qFC4 : X:=.app 166 [(.var 1),(.var 4)]
def qFC5 : X:=.op1 (.wrap .i64) (.op2 .add (.var 200) (.num 1))
def qFC6 : X:=.app 171 [(.var 1),(.var 4)]
def qFC7 : X:=.op2 .lt (.num 1000000000) (.op2 .add (.op1 .len (.var 201)) (.num 1))
def qFC8 : X:=.op2 .lt (.var 200) (.num 0)
def qFC9 : X:=.op1 .len (.var 201)
def qFC10 : X:=.op2 .mhas qFC4 qFC0
def qFC11 : X:=.op2 .lt (.var 100) (.op1 .len (.var 1))
def qFC12 : X:=.op2 .eq (.cell 8 (.var 1) (.var 100)) (.num 0)
def qFC13 : X:=.op1 (.kind .i64) (.cell 3 (.var 1) (.var 200))
noncomputable def lVs0_t : FTree:=(.fork qFC11 (.fork qFC12 (.leaf [.again 0 []]) (.fork (.op2 .lt (.var 4) (.cell 1 (.var 1) (.var 100))) (.leaf [.again 0 []]) (.leaf [.again 0 []]))) (.leaf [.leave 0 []]))
noncomputable def lVs0_l : List (List (X×Bool)×Option (List (Tgt×Pairs))):=[([(qFC12,true),(qFC11,true),(.op2 .lt (.var 100) (.num 0),false)],some [(.again 0 [],[(.var 100,.op1 (.wrap .i64) (.op2 .add (.var 100) (.num 1))),(.var 101,.var 101)])]),
 ([(.op2 .lt (.var 4) (.cell 1 (.var 1) (.var 100)),true),(qFC12,false),(qFC11,true),(.op2 .lt (.var 100) (.num 0),false)],some [(.again 0 [],[(.var 100,.op1 (.wrap .i64) (.op2 .add (.var 100) (.num 1))),(.var 101,.var 101)])]),
 ([(.op2 .lt (.var 4) (.cell 1 (.var 1) (.var 100)),false),(qFC12,false),(qFC11,true),(.op2 .lt (.var 100) (.num 0),false)],some [(.again 0 [],[(.var 100,.op1 (.wrap .i64) (.op2 .add (.var 100) (.num 1))),(.var 101,.op2 (.mput 1) (.var 101) (.snoc .nil [.op1 (.kind .i64) (.cell 8 (.var 1) (.var 100)),.boo true]))])]),
 ([(qFC11,false),(.op2 .lt (.var 100) (.num 0),false)],some [(.leave 0 [],[(qFC4,.var 101)])])]
theorem lVs0_w (r : Rho) : lVs_D.ways lVs_run E0 r 0 lVs0_F lVs0_t = some lVs0_l:=by kernel_rfl
theorem lVs_ok : lVs_D.ok = true:=by kernel_rfl
def lVs_Inv (l : List Sal9) (K : Int) (j : Nat) (vals : List Value) : Prop:=j = 0∧∃ i : Nat,i≤l.length∧vals = [.int .i64 (i : Int),flgsR (voidK (l.take i) K)]
def lVs_mu (l : List Sal9) (_ : Nat) (vals : List Value) : Nat:=l.length - (vI (vals.getD 0 default)).toNat
set_option maxHeartbeats 1000000 in
theorem lVs_step {ρ : Rho} {l : List Sal9} {K : Int} {k4 : IntKind} (h1 : ρ.val 1 = some (salsR l)) (h4 : ρ.val 4 = some (.int k4 K)) (hsy : ρ.sym = sy) (hsh : shortB l = true) (j : Nat) (vals : List Value) (hI : lVs_Inv l K j vals) : StepOk lVs_D lVs_run E0 ρ (lVs_Inv l K) (lVs_mu l) j vals:=by
 obtain ⟨rfl,i,hi,rfl⟩:=hI
 have hN : lVs_D.N = 100:=rfl
 have hmax:=short_len hsh
 have v1 : (ρ.ext lVs_D.N [.int .i64 (i : Int),flgsR (voidK (l.take i) K)]).val 1 = some (salsR l):=by rw [ext_low _ _ _ _ (by rw [hN]; omega)]; exact h1
 have v4 : (ρ.ext lVs_D.N [.int .i64 (i : Int),flgsR (voidK (l.take i) K)]).val 4 = some (.int k4 K):=by rw [ext_low _ _ _ _ (by rw [hN]; omega)]; exact h4
 have v100 : (ρ.ext lVs_D.N [.int .i64 (i : Int),flgsR (voidK (l.take i) K)]).val 100 = some (.int .i64 (i : Int)):=by rw [ext_high _ _ _ _ (by rw [hN]; omega)]; rfl
 have v101 : (ρ.ext lVs_D.N [.int .i64 (i : Int),flgsR (voidK (l.take i) K)]).val 101 = some (flgsR (voidK (l.take i) K)):=by rw [ext_high _ _ _ _ (by rw [hN]; omega)]; rfl
 have vs : (ρ.ext lVs_D.N [.int .i64 (i : Int),flgsR (voidK (l.take i) K)]).sym = sy:=hsy
 have hF : FactsIn (ρ.ext lVs_D.N [.int .i64 (i : Int),flgsR (voidK (l.take i) K)]) lVs0_F:=by
  simp only [lVs0_F,FactsIn,X.bool,X.den,denL,dX,denSub,denIte,asB,dY,v100,Option.some.injEq,Value.bool.injEq,decide_eq_false_iff_not,and_true]
  omega
 suffices both : AsksL (ρ.ext lVs_D.N [.int .i64 (i : Int),flgsR (voidK (l.take i) K)]) (lVs0_t.asks lVs0_F)∧WaysOk lVs_D ρ (lVs_Inv l K) (lVs_mu l) 0 [.int .i64 (i : Int),flgsR (voidK (l.take i) K)] lVs0_l from step_of_ways (lVs0_w _) hF both.1.ok both.2
 cases hp : l[i]? with
 | none =>
   have hge:=List.getElem?_eq_none_iff.1 hp
   have hge' : ¬ (i : Int) < l.length:=by omega
   obtain rfl : i = l.length:=by omega
   refine ⟨?_,?_⟩
   ·simp only [lVs0_t,qFC13,qFC12,qFC11,qFC10,qFC9,qFC8,qFC7,qFC6,qFC5,qFC4,qFC3,qFC2,qFC1,qFC0,lVs0_F,AsksL,GTree.asks,FTree.asks,FactsIn,List.append_nil,List.nil_append,List.cons_append,Option.some.injEq,exists_eq',implies_true,and_self,X.bool,X.den,denL,dX,denSub,denIte,asB,dY,d_hasF,d_putF,d_delF,d_hasR5,d_putR5,whos_snocN,whos_snoc0N,recs_snoc0N,flgs_snoc0N,sals_len,sals_cell,v1,v4,v100,v101,vs,sym23,sym164,sym165,sym166,sym171,Int.toNat_natCast,hp,hge']
    try simp
   ·simp only [lVs0_l,qFC13,qFC12,qFC11,qFC10,qFC9,qFC8,qFC7,qFC6,qFC5,qFC4,qFC3,qFC2,qFC1,qFC0,EndsOk,WaysOk,forall_cons,forall_nil,TgtOk,gpair,FactsIn,hold_cons,hold_nil,Option.some.injEq,dZ,X.bool,X.den,denL,dX,denSub,denIte,asB,dY,beq_iff_eq,beq_eq_false_iff_ne,ne_eq,d_hasF,d_putF,d_delF,d_hasR5,d_putR5,whos_snocN,whos_snoc0N,recs_snoc0N,flgs_snoc0N,sals_len,sals_cell,beq_iff_eq,beq_eq_false_iff_ne,ne_eq,v1,v4,v100,v101,vs,h1,h4,hsy,sym23,sym164,sym165,sym166,sym171,Int.toNat_natCast,hp,hge',reduceCtorEq,Bool.false_eq_true,false_implies,implies_true,true_implies,and_self,and_true,true_and]
    try simp
 | some x =>
   have hil : i < l.length:=(List.getElem?_eq_some_iff.1 hp).1
   have hil1 : (i : Int) < l.length:=by omega
   have hw : IntKind.i64.wrap ((i : Int) + 1) = ((i + 1 : Nat) : Int):=by rw [IntWalk.i64_in _ (by omega)]; rfl
   have hnext : voidK (l.take (i + 1)) K = if x.of_≠0∧x.known≤K then putF x.of_ true (voidK (l.take i) K) else voidK (l.take i) K:=by rw [List.take_add_one,hp]; exact voidK_snoc _ K x
   have go : ∀ m,m = voidK (l.take (i + 1)) K→∃ vals',((ρ.ext lVs_D.N vals').val 100 = some (.int .i64 ((i + 1 : Nat) : Int))∧(ρ.ext lVs_D.N vals').val 101 = some (flgsR m))∧lVs_Inv l K 0 vals'∧lVs_mu l 0 vals' < lVs_mu l 0 [.int .i64 (i : Int),flgsR (voidK (l.take i) K)]:=by
    rintro m rfl
    refine ⟨[.int .i64 ((i + 1 : Nat) : Int),flgsR (voidK (l.take (i + 1)) K)],⟨?_,?_⟩,⟨rfl,i + 1,by omega,rfl⟩,?_⟩
    ·rw [ext_high _ _ _ _ (by rw [hN]; omega)]; rfl
    ·rw [ext_high _ _ _ _ (by rw [hN]; omega)]; rfl
    ·simp [lVs_mu,vI]; omega
   have g1 : ¬ (x.of_≠0∧x.known≤K)→voidK (l.take i) K = voidK (l.take (i + 1)) K:=fun h => by rw [hnext,if_neg h]
   have g2 : (x.of_≠0∧x.known≤K)→putF x.of_ true (voidK (l.take i) K) = voidK (l.take (i + 1)) K:=fun h => by rw [hnext,if_pos h]
   refine ⟨?_,?_⟩
   all_goals (simp only [lVs0_t,qFC13,qFC12,qFC11,qFC10,qFC9,qFC8,qFC7,qFC6,qFC5,qFC4,qFC3,qFC2,qFC1,qFC0,lVs0_F,lVs0_l,AsksL,GTree.asks,FTree.asks,FactsIn,List.append_nil,List.nil_append,List.cons_append,Option.some.injEq,exists_eq',implies_true,and_self,X.bool,X.den,denL,dX,denSub,denIte,asB,dY,d_hasF,d_putF,d_delF,d_hasR5,d_putR5,whos_snocN,whos_snoc0N,recs_snoc0N,flgs_snoc0N,sals_len,sals_cell,EndsOk,WaysOk,forall_cons,forall_nil,TgtOk,gpair,FactsIn,hold_cons,hold_nil,Option.some.injEq,dZ,X.bool,X.den,denL,dX,denSub,denIte,asB,dY,beq_iff_eq,beq_eq_false_iff_ne,ne_eq,d_hasF,d_putF,d_delF,d_hasR5,d_putR5,whos_snocN,whos_snoc0N,recs_snoc0N,flgs_snoc0N,sals_len,sals_cell,beq_iff_eq,beq_eq_false_iff_ne,ne_eq,v1,v4,v100,v101,vs,h1,h4,hsy,sym23,sym164,sym165,sym166,sym171,Int.toNat_natCast,hp,Option.bind_some,sal0,sal1,sal2,sal3,sal4,sal5,sal6,sal7,sal8,hil1,hw,reduceCtorEq,Bool.false_eq_true,false_implies,implies_true,true_implies,and_self,and_true,true_and])
   all_goals (clear v1 v4 v100 v101 vs h1 h4 hsy hp hF)
   all_goals ((repeat' apply And.intro) <;> intros <;> first
    | trivial
    | (exfalso; omega)
    | (exact go _ (g1 (by omega)))
    | (exact go _ (g2 (by omega))))
noncomputable def lSd_D : LoopD:={ N:=200,M:=211,size:=sizeOfF 54,reads:=[(0,.rows 9 salSch (.var 0) (.var 1) false 27),(2,.cells [.slx 0 9 (.var 0) (.num 0) (.op1 .len (.var 1)) (.var 2)] 22),(3,.cells [.sint .i64 (.var 4)] 3),(4,.cells [.func (.func 28) [] []] 73),(7,.smap false [.int .i64] false [.bool] (.app 166 [.var 1,.var 4]))],pats:=[{ slots:=[(0,.yield 6),(1,.ptr 2 0),(2,.ptr 4 0),(3,.ptr 3 0),(5,.map 7),(35,.slx 0 9 (.var 0) (.num 0) (.op1 .len (.var 1)) (.var 2)),(36,.sint .i64 (.op1 .len (.var 1))),(37,.sint .i64 (.var 200))],heap:=[(1,.cells [.nilslice] 23),(6,.loop { state:=.ready,pending:=none,tmps:=buildT [(5,.ptr 1 0)],size:=22,src:=.at_ 12 6,defers:=5 })] },{ slots:=[(0,.yield 6),(1,.ptr 2 0),(2,.ptr 4 0),(3,.ptr 3 0),(5,.map 7),(35,.slx 0 9 (.var 0) (.num 0) (.op1 .len (.var 1)) (.var 2)),(36,.sint .i64 (.op1 .len (.var 1))),(37,.sint .i64 (.var 200))],heap:=[(1,.cells [.slo 210 1 (.op1 .len (.var 201))] 23),(210,.rows 1 [.int .i64] (.num 0) (.var 201) true 3),(6,.loop { state:=.ready,pending:=none,tmps:=buildT [(5,.ptr 1 0)],size:=22,src:=.at_ 12 6,defers:=5 })] }],exits:=[(.exit 2,{ slots:=[],heap:=[(1,.cells [.nilslice] 23),(6,.loop { state:=.ready,pending:=none,tmps:=buildT [(5,.ptr 1 0)],size:=22,src:=.at_ 12 6,defers:=5 })],guard:=.op2 .eq (.op1 .len (.app 171 [.var 1,.var 4])) (.num 0) }),(.exit 2,{ slots:=[],heap:=[(1,.cells [.slo 210 1 (.op1 .len (.app 171 [.var 1,.var 4]))] 23),(210,.rows 1 [.int .i64] (.num 0) (.app 171 [.var 1,.var 4]) true 3),(6,.loop { state:=.ready,pending:=none,tmps:=buildT [(5,.ptr 1 0)],size:=22,src:=.at_ 12 6,defers:=5 })],guard:=.op1 .not (.op2 .eq (.op1 .len (.app 171 [.var 1,.var 4])) (.num 0)) })],own:=[1,6],pre:=[(.app 23 [.var 1],true)],dfs:=[] }
noncomputable def lSd_run : Env→AF→ASt→Option (List Out):=bodyRun LO 9 (fun _ => noLoop) (loopAt Tryz.prog 54 1)
def lSd0_F : List (X×Bool):=[(.op2 .lt (.var 200) (.num 0),false)]
def lSd1_F : List (X×Bool):=[(.op2 .lt (.var 200) (.num 0),false)]
noncomputable def lSd0_t : FTree:=(.fork qFC2 (.fork qFC1 (.fork qFC3 (.leaf [.again 0 []]) (.fork qFC10 (.fork (.op2 (.mat 1) qFC4 qFC0) (.leaf [.again 0 []]) (.leaf [.again 1 [(210,218)]])) (.leaf [.again 1 [(210,218)]]))) (.leaf [.again 0 []])) (.leaf [.leave 0 []]))
noncomputable def lSd0_l : List (List (X×Bool)×Option (List (Tgt×Pairs))):=[([(qFC3,true),(qFC1,true),(qFC2,true),(qFC8,false)],some [(.again 0 [],[(.var 200,qFC5)])]),
 ([(.op2 (.mat 1) qFC4 qFC0,true),(qFC10,true),(qFC3,false),(qFC1,true),(qFC2,true),(qFC8,false)],some [(.again 0 [],[(.var 200,qFC5)])]),
 ([(.op2 (.mat 1) qFC4 qFC0,false),(qFC10,true),(qFC3,false),(qFC1,true),(qFC2,true),(qFC8,false)],some [(.again 1 [(210,218)],[(.var 200,qFC5),(qFC9,.num 1),(.var 201,.snoc .nil [qFC13])])]),
 ([(qFC10,false),(qFC3,false),(qFC1,true),(qFC2,true),(qFC8,false)],some [(.again 1 [(210,218)],[(.var 200,qFC5),(qFC9,.num 1),(.var 201,.snoc .nil [qFC13])])]),
 ([(qFC1,false),(qFC2,true),(qFC8,false)],some [(.again 0 [],[(.var 200,qFC5)])]),
 ([(qFC2,false),(qFC8,false)],some [(.leave 0 [],[(.op2 .eq (.op1 .len qFC6) (.num 0),.boo true)])])]
theorem lSd0_w (r : Rho) : lSd_D.ways lSd_run E0 r 0 lSd0_F lSd0_t = some lSd0_l:=by kernel_rfl
noncomputable def lSd1_t : FTree:=(.fork qFC2 (.fork qFC1 (.fork qFC3 (.leaf [.again 1 [(210,210)]]) (.fork qFC10 (.fork (.op2 (.mat 1) qFC4 qFC0) (.leaf [.again 1 [(210,210)]]) (.fork qFC7 .bad (.leaf [.again 1 [(210,218)]]))) (.fork qFC7 .bad (.leaf [.again 1 [(210,218)]])))) (.leaf [.again 1 [(210,210)]])) (.leaf [.leave 1 [(210,210)]]))
noncomputable def lSd1_l : List (List (X×Bool)×Option (List (Tgt×Pairs))):=[([(qFC3,true),(qFC1,true),(qFC2,true),(qFC8,false)],some [(.again 1 [(210,210)],[(.var 200,qFC5),(qFC9,qFC9),(.var 201,.var 201)])]),
 ([(.op2 (.mat 1) qFC4 qFC0,true),(qFC10,true),(qFC3,false),(qFC1,true),(qFC2,true),(qFC8,false)],some [(.again 1 [(210,210)],[(.var 200,qFC5),(qFC9,qFC9),(.var 201,.var 201)])]),
 ([(qFC7,true),(.op2 (.mat 1) qFC4 qFC0,false),(qFC10,true),(qFC3,false),(qFC1,true),(qFC2,true),(qFC8,false)],none),
 ([(qFC7,false),(.op2 (.mat 1) qFC4 qFC0,false),(qFC10,true),(qFC3,false),(qFC1,true),(qFC2,true),(qFC8,false)],some [(.again 1 [(210,218)],[(.var 200,qFC5),(qFC9,.op2 .add qFC9 (.num 1)),(.var 201,.snoc (.var 201) [qFC13])])]),
 ([(qFC7,true),(qFC10,false),(qFC3,false),(qFC1,true),(qFC2,true),(qFC8,false)],none),
 ([(qFC7,false),(qFC10,false),(qFC3,false),(qFC1,true),(qFC2,true),(qFC8,false)],some [(.again 1 [(210,218)],[(.var 200,qFC5),(qFC9,.op2 .add qFC9 (.num 1)),(.var 201,.snoc (.var 201) [qFC13])])]),
 ([(qFC1,false),(qFC2,true),(qFC8,false)],some [(.again 1 [(210,210)],[(.var 200,qFC5),(qFC9,qFC9),(.var 201,.var 201)])]),
 ([(qFC2,false),(qFC8,false)],some [(.leave 1 [(210,210)],[(.op1 .len qFC6,qFC9),(qFC6,.var 201),(.op1 .not (.op2 .eq (.op1 .len qFC6) (.num 0)),.boo true)])])]
theorem lSd1_w (r : Rho) : lSd_D.ways lSd_run E0 r 1 lSd1_F lSd1_t = some lSd1_l:=by kernel_rfl
theorem lSd_ok : lSd_D.ok = true:=by kernel_rfl
def cntI (l : List Sal9) (K : Int) (i : Nat) : List Who:=((l.take i).filter (cntB l K)).map fun x => ⟨x.parcel⟩
theorem cntI_all {l : List Sal9} {K : Int} {i : Nat} (h : l.length≤i) : cntI l K i = cntW l K:=by unfold cntI cntW countS; rw [List.take_of_length_le h]
theorem cntI_len (l : List Sal9) (K : Int) (i : Nat) : (cntI l K i).length≤l.length:=by
 unfold cntI
 rw [List.length_map]
 exact Nat.le_trans (List.length_filter_le _ _) (by rw [List.length_take]; omega)
theorem cntI_next {l : List Sal9} {K : Int} {i : Nat} {x : Sal9} (h : l[i]? = some x) : cntI l K (i + 1) = if cntB l K x = true then cntI l K i ++ [⟨x.parcel⟩] else cntI l K i:=by
 unfold cntI
 rw [List.take_add_one,h]
 by_cases hc : cntB l K x = true
 ·simp [hc]
 ·simp [hc]
def lSd_Inv (l : List Sal9) (K : Int) (j : Nat) (vals : List Value) : Prop:=
 ∃ i : Nat,i≤l.length∧((j = 0∧vals = [.int .i64 (i : Int)]∧cntI l K i = [])∨(j = 1∧vals = [.int .i64 (i : Int),whosR (cntI l K i)]∧cntI l K i≠[]))
def lSd_mu (l : List Sal9) (_ : Nat) (vals : List Value) : Nat:=l.length - (vI (vals.getD 0 default)).toNat
set_option maxHeartbeats 2000000 in
theorem lSd_step0 {ρ : Rho} {l : List Sal9} {K : Int} {k4 : IntKind} (h1 : ρ.val 1 = some (salsR l)) (h4 : ρ.val 4 = some (.int k4 K)) (hsy : ρ.sym = sy) (hsh : shortB l = true) {i : Nat} (hi : i≤l.length) (hn : cntI l K i = []) : StepOk lSd_D lSd_run E0 ρ (lSd_Inv l K) (lSd_mu l) 0 [.int .i64 (i : Int)]:=by
 have hN : lSd_D.N = 200:=rfl
 have hmax:=short_len hsh
 have v1 : (ρ.ext lSd_D.N [.int .i64 (i : Int)]).val 1 = some (salsR l):=by rw [ext_low _ _ _ _ (by rw [hN]; omega)]; exact h1
 have v4 : (ρ.ext lSd_D.N [.int .i64 (i : Int)]).val 4 = some (.int k4 K):=by rw [ext_low _ _ _ _ (by rw [hN]; omega)]; exact h4
 have v200 : (ρ.ext lSd_D.N [.int .i64 (i : Int)]).val 200 = some (.int .i64 (i : Int)):=by rw [ext_high _ _ _ _ (by rw [hN]; omega)]; rfl
 have vs : (ρ.ext lSd_D.N [.int .i64 (i : Int)]).sym = sy:=hsy
 have hF : FactsIn (ρ.ext lSd_D.N [.int .i64 (i : Int)]) lSd0_F:=by
  simp only [lSd0_F,FactsIn,X.bool,X.den,denL,dX,denSub,denIte,asB,dY,v200,Option.some.injEq,Value.bool.injEq,decide_eq_false_iff_not,and_true]
  omega
 suffices both : AsksL (ρ.ext lSd_D.N [.int .i64 (i : Int)]) (lSd0_t.asks lSd0_F)∧WaysOk lSd_D ρ (lSd_Inv l K) (lSd_mu l) 0 [.int .i64 (i : Int)] lSd0_l from step_of_ways (lSd0_w _) hF both.1.ok both.2
 have hlen:=cntI_len l K i
 cases hp : l[i]? with
 | none =>
   have hge:=List.getElem?_eq_none_iff.1 hp
   have hge' : ¬ (i : Int) < l.length:=by omega
   have hl : cntI l K i = cntW l K:=cntI_all hge
   have hle:=congrArg List.length hl
   refine ⟨?_,?_⟩
   ·simp only [lSd0_t,qFC13,qFC12,qFC11,qFC10,qFC9,qFC8,qFC7,qFC6,qFC5,qFC4,qFC3,qFC2,qFC1,qFC0,lSd0_F,AsksL,GTree.asks,FTree.asks,FactsIn,List.append_nil,List.nil_append,List.cons_append,Option.some.injEq,exists_eq',implies_true,and_self,X.bool,X.den,denL,dX,denSub,denIte,asB,dY,d_hasF,d_putF,d_delF,d_hasR5,d_putR5,whos_snocN,whos_snoc0N,recs_snoc0N,flgs_snoc0N,sals_len,sals_cell,v1,v4,v200,vs,sym23,sym164,sym165,sym166,sym171,Int.toNat_natCast,hp,hge']
    try simp
   ·simp only [lSd0_l,qFC13,qFC12,qFC11,qFC10,qFC9,qFC8,qFC7,qFC6,qFC5,qFC4,qFC3,qFC2,qFC1,qFC0,EndsOk,WaysOk,forall_cons,forall_nil,TgtOk,gpair,FactsIn,hold_cons,hold_nil,Option.some.injEq,dZ,X.bool,X.den,denL,dX,denSub,denIte,asB,dY,beq_iff_eq,beq_eq_false_iff_ne,ne_eq,d_hasF,d_putF,d_delF,d_hasR5,d_putR5,whos_snocN,whos_snoc0N,recs_snoc0N,flgs_snoc0N,sals_len,sals_cell,beq_iff_eq,beq_eq_false_iff_ne,ne_eq,v1,v4,v200,vs,h1,h4,hsy,sym23,sym164,sym165,sym166,sym171,Int.toNat_natCast,hp,hge',reduceCtorEq,Bool.false_eq_true,false_implies,implies_true,true_implies,and_self,and_true,true_and]
    rw [hl] at hn
    simp [hl,hn]
 | some x =>
   have hil : i < l.length:=(List.getElem?_eq_some_iff.1 hp).1
   have hil1 : (i : Int) < l.length:=by omega
   have hw : IntKind.i64.wrap ((i : Int) + 1) = ((i + 1 : Nat) : Int):=by rw [IntWalk.i64_in _ (by omega)]; rfl
   have hnext : cntI l K (i + 1) = if cntB l K x = true then cntI l K i ++ [⟨x.parcel⟩] else cntI l K i:=cntI_next hp
   have hc : cntB l K x = ((x.of_ == 0 && decide (x.known≤K)) && !(atF (voidK l K) x.id)):=rfl
   have goA : cntB l K x = true→∃ vals',((ρ.ext lSd_D.N vals').val 200 = some (.int .i64 ((i + 1 : Nat) : Int))∧(match (ρ.ext lSd_D.N vals').val 201 with | some v => den1 .len v | none => none) = some (.int .i64 (1 : Int))∧(ρ.ext lSd_D.N vals').val 201 = some (whosR [⟨x.parcel⟩]))∧lSd_Inv l K 1 vals'∧lSd_mu l 1 vals' < lSd_mu l 0 [.int .i64 (i : Int)]:=by
    intro hc
    have e201 : (ρ.ext lSd_D.N [.int .i64 ((i + 1 : Nat) : Int),whosR (cntI l K (i + 1))]).val 201 = some (whosR (cntI l K (i + 1))):=by rw [ext_high _ _ _ _ (by rw [hN]; omega)]; rfl
    refine ⟨[.int .i64 ((i + 1 : Nat) : Int),whosR (cntI l K (i + 1))],⟨?_,?_,?_⟩,⟨i + 1,by omega,.inr ⟨rfl,rfl,by rw [hnext]; simp [hc,hn]⟩⟩,by simp [lSd_mu,vI]; omega⟩
    ·rw [ext_high _ _ _ _ (by rw [hN]; omega)]; rfl
    ·rw [e201,hnext]
     refine (whos_len _).trans ?_
     simp [hc,hn]
    ·rw [e201,hnext]; simp [hc,hn]
   have goK : cntB l K x = false→∃ vals',(ρ.ext lSd_D.N vals').val 200 = some (.int .i64 ((i + 1 : Nat) : Int))∧lSd_Inv l K 0 vals'∧lSd_mu l 0 vals' < lSd_mu l 0 [.int .i64 (i : Int)]:=by
    intro hc
    refine ⟨[.int .i64 ((i + 1 : Nat) : Int)],?_,⟨i + 1,by omega,.inl ⟨rfl,rfl,by rw [hnext]; simp [hc,hn]⟩⟩,by simp [lSd_mu,vI]; omega⟩
    rw [ext_high _ _ _ _ (by rw [hN]; omega)]; rfl
   cases eV : hasF (voidK l K) x.id with
   | false =>
     have f3:=at_noF eV
     rw [f3] at hc
     refine ⟨?_,?_⟩
     all_goals (simp only [lSd0_t,qFC13,qFC12,qFC11,qFC10,qFC9,qFC8,qFC7,qFC6,qFC5,qFC4,qFC3,qFC2,qFC1,qFC0,lSd0_F,lSd0_l,AsksL,GTree.asks,FTree.asks,FactsIn,List.append_nil,List.nil_append,List.cons_append,Option.some.injEq,exists_eq',implies_true,and_self,X.bool,X.den,denL,dX,denSub,denIte,asB,dY,d_hasF,d_putF,d_delF,d_hasR5,d_putR5,whos_snocN,whos_snoc0N,recs_snoc0N,flgs_snoc0N,sals_len,sals_cell,EndsOk,WaysOk,forall_cons,forall_nil,TgtOk,gpair,FactsIn,hold_cons,hold_nil,Option.some.injEq,dZ,X.bool,X.den,denL,dX,denSub,denIte,asB,dY,beq_iff_eq,beq_eq_false_iff_ne,ne_eq,d_hasF,d_putF,d_delF,d_hasR5,d_putR5,whos_snocN,whos_snoc0N,recs_snoc0N,flgs_snoc0N,sals_len,sals_cell,beq_iff_eq,beq_eq_false_iff_ne,ne_eq,v1,v4,v200,vs,h1,h4,hsy,sym23,sym164,sym165,sym166,sym171,Int.toNat_natCast,hp,Option.bind_some,sal0,sal1,sal2,sal3,sal4,sal5,sal6,sal7,sal8,hil1,hw,eV,reduceCtorEq,Bool.false_eq_true,false_implies,implies_true,true_implies,and_self,and_true,true_and])
     all_goals (clear v1 v4 v200 vs h1 h4 hsy hF)
     all_goals ((repeat' apply And.intro) <;> intros <;> first
      | trivial
      | (exfalso; omega)
      | (refine goA ?_; rw [hc]; simp_all; done)
      | (refine goK ?_; rw [hc]; simp_all; done)
      | (refine goK ?_; rw [hc]; simp_all; omega)
      | (refine goK ?_; rw [hc]; simp_all; intros; exfalso; omega)
      | (simp_all; done)
      | (simp; omega))
   | true =>
     have f1:=d_atF1 (voidK l K) x.id eV
     refine ⟨?_,?_⟩
     all_goals (simp only [lSd0_t,qFC13,qFC12,qFC11,qFC10,qFC9,qFC8,qFC7,qFC6,qFC5,qFC4,qFC3,qFC2,qFC1,qFC0,lSd0_F,lSd0_l,AsksL,GTree.asks,FTree.asks,FactsIn,List.append_nil,List.nil_append,List.cons_append,Option.some.injEq,exists_eq',implies_true,and_self,X.bool,X.den,denL,dX,denSub,denIte,asB,dY,d_hasF,d_putF,d_delF,d_hasR5,d_putR5,whos_snocN,whos_snoc0N,recs_snoc0N,flgs_snoc0N,sals_len,sals_cell,EndsOk,WaysOk,forall_cons,forall_nil,TgtOk,gpair,FactsIn,hold_cons,hold_nil,Option.some.injEq,dZ,X.bool,X.den,denL,dX,denSub,denIte,asB,dY,beq_iff_eq,beq_eq_false_iff_ne,ne_eq,d_hasF,d_putF,d_delF,d_hasR5,d_putR5,whos_snocN,whos_snoc0N,recs_snoc0N,flgs_snoc0N,sals_len,sals_cell,beq_iff_eq,beq_eq_false_iff_ne,ne_eq,v1,v4,v200,vs,h1,h4,hsy,sym23,sym164,sym165,sym166,sym171,Int.toNat_natCast,hp,Option.bind_some,sal0,sal1,sal2,sal3,sal4,sal5,sal6,sal7,sal8,hil1,hw,eV,f1,reduceCtorEq,Bool.false_eq_true,false_implies,implies_true,true_implies,and_self,and_true,true_and])
     all_goals (clear v1 v4 v200 vs h1 h4 hsy hF)
     all_goals ((repeat' apply And.intro) <;> intros <;> first
      | trivial
      | (exfalso; omega)
      | (refine goA ?_; rw [hc]; simp_all; done)
      | (refine goK ?_; rw [hc]; simp_all; done)
      | (refine goK ?_; rw [hc]; simp_all; omega)
      | (refine goK ?_; rw [hc]; simp_all; intros; exfalso; omega)
      | (simp_all; done)
      | (simp; omega))
set_option maxHeartbeats 2000000 in
theorem lSd_step1 {ρ : Rho} {l : List Sal9} {K : Int} {k4 : IntKind} (h1 : ρ.val 1 = some (salsR l)) (h4 : ρ.val 4 = some (.int k4 K)) (hsy : ρ.sym = sy) (hsh : shortB l = true) {i : Nat} (hi : i≤l.length) (hn : cntI l K i≠[]) : StepOk lSd_D lSd_run E0 ρ (lSd_Inv l K) (lSd_mu l) 1 [.int .i64 (i : Int),whosR (cntI l K i)]:=by
 have hN : lSd_D.N = 200:=rfl
 have hmax:=short_len hsh
 have v1 : (ρ.ext lSd_D.N [.int .i64 (i : Int),whosR (cntI l K i)]).val 1 = some (salsR l):=by rw [ext_low _ _ _ _ (by rw [hN]; omega)]; exact h1
 have v4 : (ρ.ext lSd_D.N [.int .i64 (i : Int),whosR (cntI l K i)]).val 4 = some (.int k4 K):=by rw [ext_low _ _ _ _ (by rw [hN]; omega)]; exact h4
 have v200 : (ρ.ext lSd_D.N [.int .i64 (i : Int),whosR (cntI l K i)]).val 200 = some (.int .i64 (i : Int)):=by rw [ext_high _ _ _ _ (by rw [hN]; omega)]; rfl
 have v201 : (ρ.ext lSd_D.N [.int .i64 (i : Int),whosR (cntI l K i)]).val 201 = some (whosR (cntI l K i)):=by rw [ext_high _ _ _ _ (by rw [hN]; omega)]; rfl
 have vs : (ρ.ext lSd_D.N [.int .i64 (i : Int),whosR (cntI l K i)]).sym = sy:=hsy
 have hF : FactsIn (ρ.ext lSd_D.N [.int .i64 (i : Int),whosR (cntI l K i)]) lSd1_F:=by
  simp only [lSd1_F,FactsIn,X.bool,X.den,denL,dX,denSub,denIte,asB,dY,v200,Option.some.injEq,Value.bool.injEq,decide_eq_false_iff_not,and_true]
  omega
 suffices both : AsksL (ρ.ext lSd_D.N [.int .i64 (i : Int),whosR (cntI l K i)]) (lSd1_t.asks lSd1_F)∧WaysOk lSd_D ρ (lSd_Inv l K) (lSd_mu l) 1 [.int .i64 (i : Int),whosR (cntI l K i)] lSd1_l from step_of_ways (lSd1_w _) hF both.1.ok both.2
 have hlen:=cntI_len l K i
 cases hp : l[i]? with
 | none =>
   have hge:=List.getElem?_eq_none_iff.1 hp
   have hge' : ¬ (i : Int) < l.length:=by omega
   have hl : cntI l K i = cntW l K:=cntI_all hge
   have hle:=congrArg List.length hl
   refine ⟨?_,?_⟩
   ·simp only [lSd1_t,qFC13,qFC12,qFC11,qFC10,qFC9,qFC8,qFC7,qFC6,qFC5,qFC4,qFC3,qFC2,qFC1,qFC0,lSd1_F,AsksL,GTree.asks,FTree.asks,FactsIn,List.append_nil,List.nil_append,List.cons_append,Option.some.injEq,exists_eq',implies_true,and_self,X.bool,X.den,denL,dX,denSub,denIte,asB,dY,d_hasF,d_putF,d_delF,d_hasR5,d_putR5,whos_snocN,whos_snoc0N,recs_snoc0N,flgs_snoc0N,sals_len,sals_cell,v1,v4,v200,v201,vs,sym23,sym164,sym165,sym166,sym171,Int.toNat_natCast,hp,hge']
    try simp
   ·simp only [lSd1_l,qFC13,qFC12,qFC11,qFC10,qFC9,qFC8,qFC7,qFC6,qFC5,qFC4,qFC3,qFC2,qFC1,qFC0,EndsOk,WaysOk,forall_cons,forall_nil,TgtOk,gpair,FactsIn,hold_cons,hold_nil,Option.some.injEq,dZ,X.bool,X.den,denL,dX,denSub,denIte,asB,dY,beq_iff_eq,beq_eq_false_iff_ne,ne_eq,d_hasF,d_putF,d_delF,d_hasR5,d_putR5,whos_snocN,whos_snoc0N,recs_snoc0N,flgs_snoc0N,sals_len,sals_cell,beq_iff_eq,beq_eq_false_iff_ne,ne_eq,v1,v4,v200,v201,vs,h1,h4,hsy,sym23,sym164,sym165,sym166,sym171,Int.toNat_natCast,hp,hge',reduceCtorEq,Bool.false_eq_true,false_implies,implies_true,true_implies,and_self,and_true,true_and]
    rw [hl] at hn
    simp [hl,hn]
 | some x =>
   have hil : i < l.length:=(List.getElem?_eq_some_iff.1 hp).1
   have hil1 : (i : Int) < l.length:=by omega
   have hw : IntKind.i64.wrap ((i : Int) + 1) = ((i + 1 : Nat) : Int):=by rw [IntWalk.i64_in _ (by omega)]; rfl
   have hnext : cntI l K (i + 1) = if cntB l K x = true then cntI l K i ++ [⟨x.parcel⟩] else cntI l K i:=cntI_next hp
   have hc : cntB l K x = ((x.of_ == 0 && decide (x.known≤K)) && !(atF (voidK l K) x.id)):=rfl
   have goA : cntB l K x = true→∃ vals',((ρ.ext lSd_D.N vals').val 200 = some (.int .i64 ((i + 1 : Nat) : Int))∧(match (ρ.ext lSd_D.N vals').val 201 with | some v => den1 .len v | none => none) = some (.int .i64 (((cntI l K i).length : Int) + 1))∧(ρ.ext lSd_D.N vals').val 201 = some (whosR (cntI l K i ++ [⟨x.parcel⟩])))∧lSd_Inv l K 1 vals'∧lSd_mu l 1 vals' < lSd_mu l 1 [.int .i64 (i : Int),whosR (cntI l K i)]:=by
    intro hc
    have e201 : (ρ.ext lSd_D.N [.int .i64 ((i + 1 : Nat) : Int),whosR (cntI l K (i + 1))]).val 201 = some (whosR (cntI l K (i + 1))):=by rw [ext_high _ _ _ _ (by rw [hN]; omega)]; rfl
    refine ⟨[.int .i64 ((i + 1 : Nat) : Int),whosR (cntI l K (i + 1))],⟨?_,?_,?_⟩,⟨i + 1,by omega,.inr ⟨rfl,rfl,by rw [hnext]; simp [hc,hn]⟩⟩,by simp [lSd_mu,vI]; omega⟩
    ·rw [ext_high _ _ _ _ (by rw [hN]; omega)]; rfl
    ·rw [e201,hnext]
     refine (whos_len _).trans ?_
     simp [hc,hn]
    ·rw [e201,hnext]; simp [hc,hn]
   have goK : cntB l K x = false→∃ vals',((ρ.ext lSd_D.N vals').val 200 = some (.int .i64 ((i + 1 : Nat) : Int))∧(match (ρ.ext lSd_D.N vals').val 201 with | some v => den1 .len v | none => none) = some (.int .i64 ((cntI l K i).length : Int))∧(ρ.ext lSd_D.N vals').val 201 = some (whosR (cntI l K i)))∧lSd_Inv l K 1 vals'∧lSd_mu l 1 vals' < lSd_mu l 1 [.int .i64 (i : Int),whosR (cntI l K i)]:=by
    intro hc
    have e201 : (ρ.ext lSd_D.N [.int .i64 ((i + 1 : Nat) : Int),whosR (cntI l K (i + 1))]).val 201 = some (whosR (cntI l K (i + 1))):=by rw [ext_high _ _ _ _ (by rw [hN]; omega)]; rfl
    refine ⟨[.int .i64 ((i + 1 : Nat) : Int),whosR (cntI l K (i + 1))],⟨?_,?_,?_⟩,⟨i + 1,by omega,.inr ⟨rfl,rfl,by rw [hnext]; simp [hc,hn]⟩⟩,by simp [lSd_mu,vI]; omega⟩
    ·rw [ext_high _ _ _ _ (by rw [hN]; omega)]; rfl
    ·rw [e201,hnext]
     refine (whos_len _).trans ?_
     simp [hc,hn]
    ·rw [e201,hnext]; simp [hc,hn]
   cases eV : hasF (voidK l K) x.id with
   | false =>
     have f3:=at_noF eV
     rw [f3] at hc
     refine ⟨?_,?_⟩
     all_goals (simp only [lSd1_t,qFC13,qFC12,qFC11,qFC10,qFC9,qFC8,qFC7,qFC6,qFC5,qFC4,qFC3,qFC2,qFC1,qFC0,lSd1_F,lSd1_l,AsksL,GTree.asks,FTree.asks,FactsIn,List.append_nil,List.nil_append,List.cons_append,Option.some.injEq,exists_eq',implies_true,and_self,X.bool,X.den,denL,dX,denSub,denIte,asB,dY,d_hasF,d_putF,d_delF,d_hasR5,d_putR5,whos_snocN,whos_snoc0N,recs_snoc0N,flgs_snoc0N,sals_len,sals_cell,EndsOk,WaysOk,forall_cons,forall_nil,TgtOk,gpair,FactsIn,hold_cons,hold_nil,Option.some.injEq,dZ,X.bool,X.den,denL,dX,denSub,denIte,asB,dY,beq_iff_eq,beq_eq_false_iff_ne,ne_eq,d_hasF,d_putF,d_delF,d_hasR5,d_putR5,whos_snocN,whos_snoc0N,recs_snoc0N,flgs_snoc0N,sals_len,sals_cell,beq_iff_eq,beq_eq_false_iff_ne,ne_eq,v1,v4,v200,v201,vs,h1,h4,hsy,sym23,sym164,sym165,sym166,sym171,Int.toNat_natCast,hp,Option.bind_some,sal0,sal1,sal2,sal3,sal4,sal5,sal6,sal7,sal8,hil1,hw,eV,reduceCtorEq,Bool.false_eq_true,false_implies,implies_true,true_implies,and_self,and_true,true_and])
     all_goals (clear v1 v4 v200 v201 vs h1 h4 hsy hF)
     all_goals ((repeat' apply And.intro) <;> intros <;> first
      | trivial
      | (exfalso; omega)
      | (refine goA ?_; rw [hc]; simp_all; done)
      | (refine goK ?_; rw [hc]; simp_all; done)
      | (refine goK ?_; rw [hc]; simp_all; omega)
      | (refine goK ?_; rw [hc]; simp_all; intros; exfalso; omega)
      | (simp_all; done)
      | (simp; omega))
   | true =>
     have f1:=d_atF1 (voidK l K) x.id eV
     refine ⟨?_,?_⟩
     all_goals (simp only [lSd1_t,qFC13,qFC12,qFC11,qFC10,qFC9,qFC8,qFC7,qFC6,qFC5,qFC4,qFC3,qFC2,qFC1,qFC0,lSd1_F,lSd1_l,AsksL,GTree.asks,FTree.asks,FactsIn,List.append_nil,List.nil_append,List.cons_append,Option.some.injEq,exists_eq',implies_true,and_self,X.bool,X.den,denL,dX,denSub,denIte,asB,dY,d_hasF,d_putF,d_delF,d_hasR5,d_putR5,whos_snocN,whos_snoc0N,recs_snoc0N,flgs_snoc0N,sals_len,sals_cell,EndsOk,WaysOk,forall_cons,forall_nil,TgtOk,gpair,FactsIn,hold_cons,hold_nil,Option.some.injEq,dZ,X.bool,X.den,denL,dX,denSub,denIte,asB,dY,beq_iff_eq,beq_eq_false_iff_ne,ne_eq,d_hasF,d_putF,d_delF,d_hasR5,d_putR5,whos_snocN,whos_snoc0N,recs_snoc0N,flgs_snoc0N,sals_len,sals_cell,beq_iff_eq,beq_eq_false_iff_ne,ne_eq,v1,v4,v200,v201,vs,h1,h4,hsy,sym23,sym164,sym165,sym166,sym171,Int.toNat_natCast,hp,Option.bind_some,sal0,sal1,sal2,sal3,sal4,sal5,sal6,sal7,sal8,hil1,hw,eV,f1,reduceCtorEq,Bool.false_eq_true,false_implies,implies_true,true_implies,and_self,and_true,true_and])
     all_goals (clear v1 v4 v200 v201 vs h1 h4 hsy hF)
     all_goals ((repeat' apply And.intro) <;> intros <;> first
      | trivial
      | (exfalso; omega)
      | (refine goA ?_; rw [hc]; simp_all; done)
      | (refine goK ?_; rw [hc]; simp_all; done)
      | (refine goK ?_; rw [hc]; simp_all; omega)
      | (refine goK ?_; rw [hc]; simp_all; intros; exfalso; omega)
      | (simp_all; done)
      | (simp; omega))
theorem lSd_step {ρ : Rho} {l : List Sal9} {K : Int} {k4 : IntKind} (h1 : ρ.val 1 = some (salsR l)) (h4 : ρ.val 4 = some (.int k4 K)) (hsy : ρ.sym = sy) (hsh : shortB l = true) (j : Nat) (vals : List Value) (hI : lSd_Inv l K j vals) : StepOk lSd_D lSd_run E0 ρ (lSd_Inv l K) (lSd_mu l) j vals:=by
 obtain ⟨i,hi,⟨rfl,rfl,hn⟩ | ⟨rfl,rfl,hn⟩⟩:=hI
 ·exact lSd_step0 h1 h4 hsy hsh hi hn
 ·exact lSd_step1 h1 h4 hsy hsh hi hn
noncomputable def cSdE_con : Con:={ f:=12,args:=[salsArg 0 0,.one (.int .i64 4)],N:=1,M:=1,pre:=[(.app 23 [.var 1],true),(.op2 .eq (.app 164 [.var 1]) (.num 0),false)],out:=.nilslice,news:=[] }
noncomputable def cSdE_call : Env→CallL:=fun E => acallAll E (evH E (LO E) ((fun _ => noLoops) E) 12)
noncomputable def cSdE_t : GTree:=(.leaf [[]])
noncomputable def cSdE_l : List (List (X×Bool)×Option Pairs):=[([(.app 23 [.var 1],true),(.op2 .eq (.app 164 [.var 1]) (.num 0),false)],some [])]
theorem cSdE_w (r : Rho) : cSdE_con.fn.ways cSdE_call E0 r cSdE_con.pre cSdE_t = some cSdE_l:=by kernel_rfl
theorem sd_H {ρ : Rho} {l : List Sal9} {K : Int} {k4 : IntKind} (h1 : ρ.val 1 = some (salsR l)) (h4 : ρ.val 4 = some (.int k4 K)) (hsy : ρ.sym = sy) (hsh : shortB l = true) (F : List (X×Bool)) : LoopsOk (E0.with F ρ) (oneH 54 (hooks [(2,lVs_D.hook (E0.with F ρ).facts vd_vs),(9,lSd_D.hook (E0.with F ρ).facts so_vs)])):=by
 refine loops_all (n:=2) (fun f fn h => h) (by kernel_rfl) fun i hi => ?_
 have h01 : i = 0∨i = 1:=by omega
 rcases h01 with rfl | rfl
 ·rw [hooks_hit (show keyOf (loopAt (E0.with F ρ).P 54 0) = 2 by kernel_rfl)]
  refine hook_ok (E₀:=E0) (run:=lVs_run) (ρ:=ρ) (Inv:=lVs_Inv l K) (μ:=lVs_mu l) E0_ok lVs_ok (fun F r' h => ?_) (fun hp => ⟨lVs_step h1 h4 hsy hsh,[.int .i64 0,flgsR []],?_,rfl,0,Nat.zero_le _,rfl⟩)
  ·exact bodyRun_ok E0_ok (LO_ok F (h.trans hsy)) fun _ _ => noLoop_ok
  ·simp only [vd_vs,X.bool,X.den,denL,dX,denSub,denIte,asB,dY]
   rfl
 ·rw [hooks_miss (show Nat.beq (keyOf (loopAt (E0.with F ρ).P 54 1)) 2 = false by kernel_rfl),hooks_hit (show keyOf (loopAt (E0.with F ρ).P 54 1) = 9 by kernel_rfl)]
  refine hook_ok (E₀:=E0) (run:=lSd_run) (ρ:=ρ) (Inv:=lSd_Inv l K) (μ:=lSd_mu l) E0_ok lSd_ok (fun F r' h => ?_) (fun hp => ⟨lSd_step h1 h4 hsy hsh,[.int .i64 0],?_,0,Nat.zero_le _,.inl ⟨rfl,rfl,rfl⟩⟩)
  ·exact bodyRun_ok E0_ok (LO_ok F (h.trans hsy)) fun _ _ => noLoop_ok
  ·simp only [so_vs,X.bool,X.den,denL,dX,denSub,denIte,asB,dY]
theorem cntW_len (l : List Sal9) (K : Int) : (cntW l K).length≤l.length:=by rw [← cntI_all (Nat.le_refl _)]; exact cntI_len l K _
theorem cSdE_cok : cSdE_con.Ok Tryz.prog sy:=by
 intro r σ w us hsy hρ hpre hrel hins
 obtain ⟨l,h1⟩:=sals_open hrel rfl hρ
 obtain ⟨u0,us,rfl,g0,hi⟩:=ins_cons hins
 obtain ⟨u1,us,rfl,g1,hi⟩:=ins_cons hi
 obtain ⟨K,k4,rfl,h4⟩:=one_int g1
 rw [hρ] at h4
 have hsh : shortB l = true:=by
  have:=hpre.1
  simpa only [X.bool,X.den,denL,dX,denSub,denIte,asB,dY,h1,hsy,sym23,Option.some.injEq,Value.bool.injEq] using this
 have hmax:=short_len hsh
 have hcl:=cntW_len l K
 refine con_of (E:=E0) E0_ok E0_glob (sy:=sy) (fun F => LO_ok F hsy) (fun F => noH_ok) (cSdE_w r) hρ hpre hrel hins ?_ ?_
 ·simp only [cSdE_con,cSdE_t,qFC13,qFC12,qFC11,qFC10,qFC9,qFC8,qFC7,qFC6,qFC5,qFC4,qFC3,qFC2,qFC1,qFC0,AsksL,GTree.asks,FTree.asks,FactsIn,List.append_nil,List.nil_append,List.cons_append,Option.some.injEq,exists_eq',implies_true,and_self,X.bool,X.den,denL,dX,denSub,denIte,asB,dY,d_hasF,d_putF,d_delF,d_hasR5,d_putR5,whos_snocN,whos_snoc0N,recs_snoc0N,flgs_snoc0N,sals_len,sals_cell,h1,h4,hsy,sym23,sym164,sym165,sym166,sym171,sym113W]
  try simp
 ·simp only [cSdE_l,qFC13,qFC12,qFC11,qFC10,qFC9,qFC8,qFC7,qFC6,qFC5,qFC4,qFC3,qFC2,qFC1,qFC0,EndsOk,WaysOk,forall_cons,forall_nil,TgtOk,gpair,FactsIn,hold_cons,hold_nil,Option.some.injEq,dZ,X.bool,X.den,denL,dX,denSub,denIte,asB,dY,beq_iff_eq,beq_eq_false_iff_ne,ne_eq,d_hasF,d_putF,d_delF,d_hasR5,d_putR5,whos_snocN,whos_snoc0N,recs_snoc0N,flgs_snoc0N,sals_len,sals_cell,beq_iff_eq,beq_eq_false_iff_ne,ne_eq,h1,h4,hsy,sym23,sym164,sym165,sym166,sym171,sym113W]
  try simp
  try omega
noncomputable def cSdN_con : Con:={ f:=12,args:=[salsArg 0 0,.one (.int .i64 4)],N:=1,M:=1,pre:=[(.app 23 [.var 1],true),(.op2 .eq (.app 164 [.var 1]) (.num 0),true),(.op2 .eq (.op1 .len (.app 171 [.var 1,.var 4])) (.num 0),true)],out:=.nilslice,news:=[] }
noncomputable def cSdN_call : Env→CallL:=fun E => acallAll E (evH E (LO E) ((fun E => oneH 54 (hooks [(2,lVs_D.hook E.facts vd_vs),(9,lSd_D.hook E.facts so_vs)])) E) 12)
noncomputable def cSdN_t : GTree:=(.leaf [[]])
noncomputable def cSdN_l : List (List (X×Bool)×Option Pairs):=[([(.app 23 [.var 1],true),(.op2 .eq (.app 164 [.var 1]) (.num 0),true),(.op2 .eq (.op1 .len qFC6) (.num 0),true)],some [])]
theorem cSdN_w (r : Rho) : cSdN_con.fn.ways cSdN_call E0 r cSdN_con.pre cSdN_t = some cSdN_l:=by kernel_rfl
theorem cSdN_cok : cSdN_con.Ok Tryz.prog sy:=by
 intro r σ w us hsy hρ hpre hrel hins
 obtain ⟨l,h1⟩:=sals_open hrel rfl hρ
 obtain ⟨u0,us,rfl,g0,hi⟩:=ins_cons hins
 obtain ⟨u1,us,rfl,g1,hi⟩:=ins_cons hi
 obtain ⟨K,k4,rfl,h4⟩:=one_int g1
 rw [hρ] at h4
 have hsh : shortB l = true:=by
  have:=hpre.1
  simpa only [X.bool,X.den,denL,dX,denSub,denIte,asB,dY,h1,hsy,sym23,Option.some.injEq,Value.bool.injEq] using this
 have hmax:=short_len hsh
 have hcl:=cntW_len l K
 refine con_of (E:=E0) E0_ok E0_glob (sy:=sy) (fun F => LO_ok F hsy) (fun F => sd_H h1 h4 hsy hsh F) (cSdN_w r) hρ hpre hrel hins ?_ ?_
 ·simp only [cSdN_con,cSdN_t,qFC13,qFC12,qFC11,qFC10,qFC9,qFC8,qFC7,qFC6,qFC5,qFC4,qFC3,qFC2,qFC1,qFC0,AsksL,GTree.asks,FTree.asks,FactsIn,List.append_nil,List.nil_append,List.cons_append,Option.some.injEq,exists_eq',implies_true,and_self,X.bool,X.den,denL,dX,denSub,denIte,asB,dY,d_hasF,d_putF,d_delF,d_hasR5,d_putR5,whos_snocN,whos_snoc0N,recs_snoc0N,flgs_snoc0N,sals_len,sals_cell,h1,h4,hsy,sym23,sym164,sym165,sym166,sym171,sym113W]
  try simp
 ·simp only [cSdN_l,qFC13,qFC12,qFC11,qFC10,qFC9,qFC8,qFC7,qFC6,qFC5,qFC4,qFC3,qFC2,qFC1,qFC0,EndsOk,WaysOk,forall_cons,forall_nil,TgtOk,gpair,FactsIn,hold_cons,hold_nil,Option.some.injEq,dZ,X.bool,X.den,denL,dX,denSub,denIte,asB,dY,beq_iff_eq,beq_eq_false_iff_ne,ne_eq,d_hasF,d_putF,d_delF,d_hasR5,d_putR5,whos_snocN,whos_snoc0N,recs_snoc0N,flgs_snoc0N,sals_len,sals_cell,beq_iff_eq,beq_eq_false_iff_ne,ne_eq,h1,h4,hsy,sym23,sym164,sym165,sym166,sym171,sym113W]
  try simp
  try omega
noncomputable def cSdY_con : Con:={ f:=12,args:=[salsArg 0 0,.one (.int .i64 4)],N:=1,M:=2,pre:=[(.app 23 [.var 1],true),(.op2 .eq (.app 164 [.var 1]) (.num 0),true),(.op2 .eq (.op1 .len (.app 171 [.var 1,.var 4])) (.num 0),false)],out:=.slo 1 1 (.op1 .len (.app 113 [.app 171 [.var 1,.var 4]])),news:=[(1,.rows 1 [.int .i64] (.num 0) (.app 113 [.app 171 [.var 1,.var 4]]) true 3)] }
noncomputable def cSdY_call : Env→CallL:=fun E => acallAll E (evH E (LO E) ((fun E => oneH 54 (hooks [(2,lVs_D.hook E.facts vd_vs),(9,lSd_D.hook E.facts so_vs)])) E) 12)
noncomputable def cSdY_t : GTree:=(.fork (.op2 .lt (.num 1000000000) (.op1 .len qFC6)) .bad (.leaf [[(1,210)]]))
noncomputable def cSdY_l : List (List (X×Bool)×Option Pairs):=[([(.op2 .lt (.num 1000000000) (.op1 .len qFC6),true),(.app 23 [.var 1],true),(.op2 .eq (.app 164 [.var 1]) (.num 0),true),(.op2 .eq (.op1 .len qFC6) (.num 0),false)],none),
 ([(.op2 .lt (.num 1000000000) (.op1 .len qFC6),false),(.app 23 [.var 1],true),(.op2 .eq (.app 164 [.var 1]) (.num 0),true),(.op2 .eq (.op1 .len qFC6) (.num 0),false)],some [(.op1 .len (.app 113 [qFC6]),.op1 .len qFC6),(.app 113 [qFC6],.app 113 [qFC6])])]
theorem cSdY_w (r : Rho) : cSdY_con.fn.ways cSdY_call E0 r cSdY_con.pre cSdY_t = some cSdY_l:=by kernel_rfl
theorem cSdY_cok : cSdY_con.Ok Tryz.prog sy:=by
 intro r σ w us hsy hρ hpre hrel hins
 obtain ⟨l,h1⟩:=sals_open hrel rfl hρ
 obtain ⟨u0,us,rfl,g0,hi⟩:=ins_cons hins
 obtain ⟨u1,us,rfl,g1,hi⟩:=ins_cons hi
 obtain ⟨K,k4,rfl,h4⟩:=one_int g1
 rw [hρ] at h4
 have hsh : shortB l = true:=by
  have:=hpre.1
  simpa only [X.bool,X.den,denL,dX,denSub,denIte,asB,dY,h1,hsy,sym23,Option.some.injEq,Value.bool.injEq] using this
 have hmax:=short_len hsh
 have hcl:=cntW_len l K
 refine con_of (E:=E0) E0_ok E0_glob (sy:=sy) (fun F => LO_ok F hsy) (fun F => sd_H h1 h4 hsy hsh F) (cSdY_w r) hρ hpre hrel hins ?_ ?_
 ·simp only [cSdY_con,cSdY_t,qFC13,qFC12,qFC11,qFC10,qFC9,qFC8,qFC7,qFC6,qFC5,qFC4,qFC3,qFC2,qFC1,qFC0,AsksL,GTree.asks,FTree.asks,FactsIn,List.append_nil,List.nil_append,List.cons_append,Option.some.injEq,exists_eq',implies_true,and_self,X.bool,X.den,denL,dX,denSub,denIte,asB,dY,d_hasF,d_putF,d_delF,d_hasR5,d_putR5,whos_snocN,whos_snoc0N,recs_snoc0N,flgs_snoc0N,sals_len,sals_cell,h1,h4,hsy,sym23,sym164,sym165,sym166,sym171,sym113W]
  try simp
 ·simp only [cSdY_l,qFC13,qFC12,qFC11,qFC10,qFC9,qFC8,qFC7,qFC6,qFC5,qFC4,qFC3,qFC2,qFC1,qFC0,EndsOk,WaysOk,forall_cons,forall_nil,TgtOk,gpair,FactsIn,hold_cons,hold_nil,Option.some.injEq,dZ,X.bool,X.den,denL,dX,denSub,denIte,asB,dY,beq_iff_eq,beq_eq_false_iff_ne,ne_eq,d_hasF,d_putF,d_delF,d_hasR5,d_putR5,whos_snocN,whos_snoc0N,recs_snoc0N,flgs_snoc0N,sals_len,sals_cell,beq_iff_eq,beq_eq_false_iff_ne,ne_eq,h1,h4,hsy,sym23,sym164,sym165,sym166,sym171,sym113W]
  try simp [sortedW]
  try omega
end Go.Proofs.YtckefonlahokkaaGreatDoor.Zs
