/-
  Contracts: what counts, SaleOf.
-/
import Derived.Test.YtckefonlahokkaaGreatDoorVaConA
import Derived.KernelRfl
set_option linter.unusedSimpArgs false
set_option linter.unusedVariables false
namespace Go.Proofs.YtckefonlahokkaaGreatDoor.Zs
open Go
noncomputable def LT : Env→CallE:=libs [cLib cCks_con]
theorem LT_ok (F : List (X×Bool)) {r : Rho} (h : r.sym = sy) : CallsOk (E0.with F r) (LT (E0.with F r)):=libs_ok fun c hc => by
 simp only [List.mem_cons,List.not_mem_nil,or_false] at hc
 subst hc; exact lib_ok (E:=E0) cCks_cok F h
def vd_vs : List X:=[.num 0,.nil]
def so_vs : List X:=[.num 0]
noncomputable def lVd_D : LoopD:={ N:=100,M:=102,size:=sizeOfF 54,reads:=[(0,.rows 9 salSch (.var 0) (.var 1) false 27),(4,.cells [.slx 0 9 (.var 0) (.num 0) (.op1 .len (.var 1)) (.var 2)] 22),(5,.cells [.sint .i64 (.var 4)] 3),(6,.cells [.func (.func 28) [] []] 73)],pats:=[{ slots:=[(0,.yield 8),(1,.ptr 4 0),(2,.ptr 6 0),(3,.ptr 5 0),(5,.map 9),(14,.slx 0 9 (.var 0) (.num 0) (.op1 .len (.var 1)) (.var 2)),(15,.sint .i64 (.op1 .len (.var 1))),(16,.sint .i64 (.var 100))],heap:=[(9,.smap false [.int .i64] false [.bool] (.var 101))] }],exits:=[(.exit 0,{ slots:=[(0,.yield 8),(1,.ptr 4 0),(2,.ptr 6 0),(3,.ptr 5 0),(5,.map 9)],heap:=[(9,.smap false [.int .i64] false [.bool] (.app 166 [.var 1,.var 4]))] })],own:=[9],pre:=[(.app 23 [.var 1],true)],dfs:=[] }
noncomputable def lVd_run : Env→AF→ASt→Option (List Out):=bodyRun LT 9 (fun _ => noLoop) (loopAt Tryz.prog 54 0)
def lVd0_F : List (X×Bool):=[(.op2 .lt (.var 100) (.num 0),false)]
def qFB0 : X:=.snoc .nil [(.op1 (.kind .i64) (.cell 0 (.var 1) (.var 200)))]
def qFB1 : X:=.op2 .eq (.cell 8 (.var 1) (.var 200)) (.num 0)
def qFB2 : X:=.op2 .lt (.var 200) (.op1 .len (.var 1))
def qFB3 : X:=.app 166 [(.var 1),(.var 4)]
def qFB4 : X:=.op2 .lt (.var 4) (.cell 1 (.var 1) (.var 200))
def qFB5 : X:=.op2 .eq (.cell 3 (.var 1) (.var 200)) (.var 3)
def qFB6 : X:=.op1 (.wrap .i64) (.op2 .add (.var 200) (.num 1))
def qFB7 : X:=.op2 .lt (.var 200) (.num 0)
def qFB8 : X:=.op2 .lt (.var 100) (.op1 .len (.var 1))
def qFB9 : X:=.app 169 [(.var 1),(.var 3),(.var 4)]
def qFB10 : X:=.app 170 [(.var 1),(.var 3),(.var 4),(.num 0)]
def qFB11 : X:=.app 170 [(.var 1),(.var 3),(.var 4),(.num 1)]
def qFB12 : X:=.app 170 [(.var 1),(.var 3),(.var 4),(.num 2)]
def qFB13 : X:=.app 170 [(.var 1),(.var 3),(.var 4),(.num 3)]
def qFB14 : X:=.app 170 [(.var 1),(.var 3),(.var 4),(.num 4)]
def qFB15 : X:=.app 170 [(.var 1),(.var 3),(.var 4),(.num 5)]
def qFB16 : X:=.app 170 [(.var 1),(.var 3),(.var 4),(.num 6)]
def qFB17 : X:=.app 170 [(.var 1),(.var 3),(.var 4),(.num 7)]
def qFB18 : X:=.app 170 [(.var 1),(.var 3),(.var 4),(.num 8)]
def qFB19 : X:=.op2 .eq (.cell 8 (.var 1) (.var 100)) (.num 0)
noncomputable def lVd0_t : FTree:=(.fork qFB8 (.fork qFB19 (.leaf [.again 0 []]) (.fork (.op2 .lt (.var 4) (.cell 1 (.var 1) (.var 100))) (.leaf [.again 0 []]) (.leaf [.again 0 []]))) (.leaf [.leave 0 []]))
noncomputable def lVd0_l : List (List (X×Bool)×Option (List (Tgt×Pairs))):=[([(qFB19,true),(qFB8,true),(.op2 .lt (.var 100) (.num 0),false)],some [(.again 0 [],[(.var 100,.op1 (.wrap .i64) (.op2 .add (.var 100) (.num 1))),(.var 101,.var 101)])]),
 ([(.op2 .lt (.var 4) (.cell 1 (.var 1) (.var 100)),true),(qFB19,false),(qFB8,true),(.op2 .lt (.var 100) (.num 0),false)],some [(.again 0 [],[(.var 100,.op1 (.wrap .i64) (.op2 .add (.var 100) (.num 1))),(.var 101,.var 101)])]),
 ([(.op2 .lt (.var 4) (.cell 1 (.var 1) (.var 100)),false),(qFB19,false),(qFB8,true),(.op2 .lt (.var 100) (.num 0),false)],some [(.again 0 [],[(.var 100,.op1 (.wrap .i64) (.op2 .add (.var 100) (.num 1))),(.var 101,.op2 (.mput 1) (.var 101) (.snoc .nil [.op1 (.kind .i64) (.cell 8 (.var 1) (.var 100)),.boo true]))])]),
 ([(qFB8,false),(.op2 .lt (.var 100) (.num 0),false)],some [(.leave 0 [],[(qFB3,.var 101)])])]
theorem lVd0_w (r : Rho) : lVd_D.ways lVd_run E0 r 0 lVd0_F lVd0_t = some lVd0_l:=by kernel_rfl
theorem lVd_ok : lVd_D.ok = true:=by kernel_rfl
theorem voidK_snoc (l : List Sal9) (K : Int) (x : Sal9) : voidK (l ++ [x]) K = if x.of_≠0∧x.known≤K then putF x.of_ true (voidK l K) else voidK l K:=by simp [voidK]
def lVd_Inv (l : List Sal9) (K : Int) (j : Nat) (vals : List Value) : Prop:=j = 0∧∃ i : Nat,i≤l.length∧vals = [.int .i64 (i : Int),flgsR (voidK (l.take i) K)]
def lVd_mu (l : List Sal9) (_ : Nat) (vals : List Value) : Nat:=l.length - (vI (vals.getD 0 default)).toNat
set_option maxHeartbeats 1000000 in
theorem lVd_step {ρ : Rho} {l : List Sal9} {p K : Int} {k3 k4 : IntKind} (h1 : ρ.val 1 = some (salsR l)) (h3 : ρ.val 3 = some (.int k3 p)) (h4 : ρ.val 4 = some (.int k4 K)) (hsy : ρ.sym = sy) (hsh : shortB l = true) (j : Nat) (vals : List Value) (hI : lVd_Inv l K j vals) : StepOk lVd_D lVd_run E0 ρ (lVd_Inv l K) (lVd_mu l) j vals:=by
 obtain ⟨rfl,i,hi,rfl⟩:=hI
 have hN : lVd_D.N = 100:=rfl
 have hmax:=short_len hsh
 have v1 : (ρ.ext lVd_D.N [.int .i64 (i : Int),flgsR (voidK (l.take i) K)]).val 1 = some (salsR l):=by rw [ext_low _ _ _ _ (by rw [hN]; omega)]; exact h1
 have v3 : (ρ.ext lVd_D.N [.int .i64 (i : Int),flgsR (voidK (l.take i) K)]).val 3 = some (.int k3 p):=by rw [ext_low _ _ _ _ (by rw [hN]; omega)]; exact h3
 have v4 : (ρ.ext lVd_D.N [.int .i64 (i : Int),flgsR (voidK (l.take i) K)]).val 4 = some (.int k4 K):=by rw [ext_low _ _ _ _ (by rw [hN]; omega)]; exact h4
 have v100 : (ρ.ext lVd_D.N [.int .i64 (i : Int),flgsR (voidK (l.take i) K)]).val 100 = some (.int .i64 (i : Int)):=by rw [ext_high _ _ _ _ (by rw [hN]; omega)]; rfl
 have v101 : (ρ.ext lVd_D.N [.int .i64 (i : Int),flgsR (voidK (l.take i) K)]).val 101 = some (flgsR (voidK (l.take i) K)):=by rw [ext_high _ _ _ _ (by rw [hN]; omega)]; rfl
 have vs : (ρ.ext lVd_D.N [.int .i64 (i : Int),flgsR (voidK (l.take i) K)]).sym = sy:=hsy
 have hF : FactsIn (ρ.ext lVd_D.N [.int .i64 (i : Int),flgsR (voidK (l.take i) K)]) lVd0_F:=by
  simp only [lVd0_F,FactsIn,X.bool,X.den,denL,dX,denSub,denIte,asB,dY,v100,Option.some.injEq,Value.bool.injEq,decide_eq_false_iff_not,and_true]
  omega
 suffices both : AsksL (ρ.ext lVd_D.N [.int .i64 (i : Int),flgsR (voidK (l.take i) K)]) (lVd0_t.asks lVd0_F)∧WaysOk lVd_D ρ (lVd_Inv l K) (lVd_mu l) 0 [.int .i64 (i : Int),flgsR (voidK (l.take i) K)] lVd0_l from step_of_ways (lVd0_w _) hF both.1.ok both.2
 cases hp : l[i]? with
 | none =>
   have hge:=List.getElem?_eq_none_iff.1 hp
   have hge' : ¬ (i : Int) < l.length:=by omega
   obtain rfl : i = l.length:=by omega
   refine ⟨?_,?_⟩
   ·simp only [lVd0_t,qFB19,qFB18,qFB17,qFB16,qFB15,qFB14,qFB13,qFB12,qFB11,qFB10,qFB9,qFB8,qFB7,qFB6,qFB5,qFB4,qFB3,qFB2,qFB1,qFB0,lVd0_F,AsksL,GTree.asks,FTree.asks,FactsIn,List.append_nil,List.nil_append,List.cons_append,Option.some.injEq,exists_eq',implies_true,and_self,X.bool,X.den,denL,dX,denSub,denIte,asB,dY,d_hasF,d_putF,d_delF,d_hasR5,d_putR5,whos_snocN,whos_snoc0N,recs_snoc0N,flgs_snoc0N,sals_len,sals_cell,v1,v3,v4,v100,v101,vs,sym23,sym164,sym165,sym166,sym169,sym170,Int.toNat_natCast,hp,hge']
    try simp
   ·simp only [lVd0_l,qFB19,qFB18,qFB17,qFB16,qFB15,qFB14,qFB13,qFB12,qFB11,qFB10,qFB9,qFB8,qFB7,qFB6,qFB5,qFB4,qFB3,qFB2,qFB1,qFB0,EndsOk,WaysOk,forall_cons,forall_nil,TgtOk,gpair,FactsIn,hold_cons,hold_nil,Option.some.injEq,dZ,X.bool,X.den,denL,dX,denSub,denIte,asB,dY,beq_iff_eq,beq_eq_false_iff_ne,ne_eq,d_hasF,d_putF,d_delF,d_hasR5,d_putR5,whos_snocN,whos_snoc0N,recs_snoc0N,flgs_snoc0N,sals_len,sals_cell,beq_iff_eq,beq_eq_false_iff_ne,ne_eq,v1,v3,v4,v100,v101,vs,h1,h3,h4,hsy,sym23,sym164,sym165,sym166,sym169,sym170,Int.toNat_natCast,hp,hge',reduceCtorEq,Bool.false_eq_true,false_implies,implies_true,true_implies,and_self,and_true,true_and]
    try simp
 | some x =>
   have hil : i < l.length:=(List.getElem?_eq_some_iff.1 hp).1
   have hil1 : (i : Int) < l.length:=by omega
   have hw : IntKind.i64.wrap ((i : Int) + 1) = ((i + 1 : Nat) : Int):=by rw [IntWalk.i64_in _ (by omega)]; rfl
   have hnext : voidK (l.take (i + 1)) K = if x.of_≠0∧x.known≤K then putF x.of_ true (voidK (l.take i) K) else voidK (l.take i) K:=by rw [List.take_add_one,hp]; exact voidK_snoc _ K x
   have go : ∀ m,m = voidK (l.take (i + 1)) K→∃ vals',((ρ.ext lVd_D.N vals').val 100 = some (.int .i64 ((i + 1 : Nat) : Int))∧(ρ.ext lVd_D.N vals').val 101 = some (flgsR m))∧lVd_Inv l K 0 vals'∧lVd_mu l 0 vals' < lVd_mu l 0 [.int .i64 (i : Int),flgsR (voidK (l.take i) K)]:=by
    rintro m rfl
    refine ⟨[.int .i64 ((i + 1 : Nat) : Int),flgsR (voidK (l.take (i + 1)) K)],⟨?_,?_⟩,⟨rfl,i + 1,by omega,rfl⟩,?_⟩
    ·rw [ext_high _ _ _ _ (by rw [hN]; omega)]; rfl
    ·rw [ext_high _ _ _ _ (by rw [hN]; omega)]; rfl
    ·simp [lVd_mu,vI]; omega
   have g1 : ¬ (x.of_≠0∧x.known≤K)→voidK (l.take i) K = voidK (l.take (i + 1)) K:=fun h => by rw [hnext,if_neg h]
   have g2 : (x.of_≠0∧x.known≤K)→putF x.of_ true (voidK (l.take i) K) = voidK (l.take (i + 1)) K:=fun h => by rw [hnext,if_pos h]
   refine ⟨?_,?_⟩
   all_goals (simp only [lVd0_t,qFB19,qFB18,qFB17,qFB16,qFB15,qFB14,qFB13,qFB12,qFB11,qFB10,qFB9,qFB8,qFB7,qFB6,qFB5,qFB4,qFB3,qFB2,qFB1,qFB0,lVd0_F,lVd0_l,AsksL,GTree.asks,FTree.asks,FactsIn,List.append_nil,List.nil_append,List.cons_append,Option.some.injEq,exists_eq',implies_true,and_self,X.bool,X.den,denL,dX,denSub,denIte,asB,dY,d_hasF,d_putF,d_delF,d_hasR5,d_putR5,whos_snocN,whos_snoc0N,recs_snoc0N,flgs_snoc0N,sals_len,sals_cell,EndsOk,WaysOk,forall_cons,forall_nil,TgtOk,gpair,FactsIn,hold_cons,hold_nil,Option.some.injEq,dZ,X.bool,X.den,denL,dX,denSub,denIte,asB,dY,beq_iff_eq,beq_eq_false_iff_ne,ne_eq,d_hasF,d_putF,d_delF,d_hasR5,d_putR5,whos_snocN,whos_snoc0N,recs_snoc0N,flgs_snoc0N,sals_len,sals_cell,beq_iff_eq,beq_eq_false_iff_ne,ne_eq,v1,v3,v4,v100,v101,vs,h1,h3,h4,hsy,sym23,sym164,sym165,sym166,sym169,sym170,Int.toNat_natCast,hp,Option.bind_some,sal0,sal1,sal2,sal3,sal4,sal5,sal6,sal7,sal8,hil1,hw,reduceCtorEq,Bool.false_eq_true,false_implies,implies_true,true_implies,and_self,and_true,true_and])
   all_goals (clear v1 v3 v4 v100 v101 vs h1 h3 h4 hsy hp hF)
   all_goals ((repeat' apply And.intro) <;> intros <;> first
    | trivial
    | (exfalso; omega)
    | (exact go _ (g1 (by omega)))
    | (exact go _ (g2 (by omega))))
noncomputable def lSo_D : LoopD:={ N:=200,M:=201,size:=sizeOfF 54,reads:=[(0,.rows 9 salSch (.var 0) (.var 1) false 27),(4,.cells [.slx 0 9 (.var 0) (.num 0) (.op1 .len (.var 1)) (.var 2)] 22),(5,.cells [.sint .i64 (.var 4)] 3),(6,.cells [.func (.func 28) [] []] 73),(9,.smap false [.int .i64] false [.bool] (.app 166 [.var 1,.var 4])),(1,.cells [.sint .i64 (.var 3)] 3)],pats:=[{ slots:=[(0,.yield 8),(1,.ptr 4 0),(2,.ptr 6 0),(3,.ptr 5 0),(5,.map 9),(35,.slx 0 9 (.var 0) (.num 0) (.op1 .len (.var 1)) (.var 2)),(36,.sint .i64 (.op1 .len (.var 1))),(37,.sint .i64 (.var 200))],heap:=[(2,.cells [.int .i64 0,.int .i64 0,.int .i64 0,.int .i64 0,.int .i64 0,.int .i64 0,.int .i64 0,.int .i64 0,.int .i64 0] 27),(3,.cells [.int .i64 0] 28),(8,.loop { state:=.ready,pending:=none,tmps:=buildT [(4,.ptr 1 0),(6,.ptr 2 0),(7,.ptr 3 0)],size:=26,src:=.at_ 7 6,defers:=7 })] }],exits:=[(.exit 2,{ slots:=[],heap:=[(2,.cells [.int .i64 0,.int .i64 0,.int .i64 0,.int .i64 0,.int .i64 0,.int .i64 0,.int .i64 0,.int .i64 0,.int .i64 0] 27),(3,.cells [.int .i64 0] 28),(8,.loop { state:=.ready,pending:=none,tmps:=buildT [(4,.ptr 1 0),(6,.ptr 2 0),(7,.ptr 3 0)],size:=26,src:=.at_ 7 6,defers:=7 })],guard:=.op1 .not (.app 169 [.var 1,.var 3,.var 4]) }),(.ret,{ slots:=[],heap:=[(2,.cells [.sint .i64 (.app 170 [.var 1,.var 3,.var 4,.num 0]),.sint .i64 (.app 170 [.var 1,.var 3,.var 4,.num 1]),.sint .i64 (.app 170 [.var 1,.var 3,.var 4,.num 2]),.sint .i64 (.app 170 [.var 1,.var 3,.var 4,.num 3]),.sint .i64 (.app 170 [.var 1,.var 3,.var 4,.num 4]),.sint .i64 (.app 170 [.var 1,.var 3,.var 4,.num 5]),.sint .i64 (.app 170 [.var 1,.var 3,.var 4,.num 6]),.sint .i64 (.app 170 [.var 1,.var 3,.var 4,.num 7]),.sint .i64 (.app 170 [.var 1,.var 3,.var 4,.num 8])] 27),(3,.cells [.int .i64 0] 28),(8,.loop { state:=.done,pending:=some .ret,tmps:=buildT [(4,.ptr 1 0),(6,.ptr 2 0),(7,.ptr 3 0)],size:=26,src:=.at_ 7 6,defers:=7 })],guard:=.app 169 [.var 1,.var 3,.var 4] })],own:=[2,3,8],pre:=[(.app 23 [.var 1],true)],dfs:=[] }
noncomputable def lSo_run : Env→AF→ASt→Option (List Out):=bodyRun LT 9 (fun _ => noLoop) (loopAt Tryz.prog 54 1)
def lSo0_F : List (X×Bool):=[(.op2 .lt (.var 200) (.num 0),false)]
noncomputable def lSo0_t : FTree:=(.fork qFB2 (.fork qFB1 (.fork qFB4 (.leaf [.again 0 []]) (.fork (.op2 .mhas qFB3 qFB0) (.fork (.op2 (.mat 1) qFB3 qFB0) (.leaf [.again 0 []]) (.fork qFB5 (.leaf [.leave 1 []]) (.leaf [.again 0 []]))) (.fork qFB5 (.leaf [.leave 1 []]) (.leaf [.again 0 []])))) (.leaf [.again 0 []])) (.leaf [.leave 0 []]))
noncomputable def lSo0_l : List (List (X×Bool)×Option (List (Tgt×Pairs))):=[([(qFB4,true),(qFB1,true),(qFB2,true),(qFB7,false)],some [(.again 0 [],[(.var 200,qFB6)])]),
 ([(.op2 (.mat 1) qFB3 qFB0,true),(.op2 .mhas qFB3 qFB0,true),(qFB4,false),(qFB1,true),(qFB2,true),(qFB7,false)],some [(.again 0 [],[(.var 200,qFB6)])]),
 ([(qFB5,true),(.op2 (.mat 1) qFB3 qFB0,false),(.op2 .mhas qFB3 qFB0,true),(qFB4,false),(qFB1,true),(qFB2,true),(qFB7,false)],some [(.leave 1 [],[(qFB10,.cell 0 (.var 1) (.var 200)),(qFB11,.cell 1 (.var 1) (.var 200)),(qFB12,.cell 2 (.var 1) (.var 200)),(qFB13,.cell 3 (.var 1) (.var 200)),(qFB14,.cell 4 (.var 1) (.var 200)),(qFB15,.cell 5 (.var 1) (.var 200)),(qFB16,.cell 6 (.var 1) (.var 200)),(qFB17,.cell 7 (.var 1) (.var 200)),(qFB18,.cell 8 (.var 1) (.var 200)),(qFB9,.boo true)])]),
 ([(qFB5,false),(.op2 (.mat 1) qFB3 qFB0,false),(.op2 .mhas qFB3 qFB0,true),(qFB4,false),(qFB1,true),(qFB2,true),(qFB7,false)],some [(.again 0 [],[(.var 200,qFB6)])]),
 ([(qFB5,true),(.op2 .mhas qFB3 qFB0,false),(qFB4,false),(qFB1,true),(qFB2,true),(qFB7,false)],some [(.leave 1 [],[(qFB10,.cell 0 (.var 1) (.var 200)),(qFB11,.cell 1 (.var 1) (.var 200)),(qFB12,.cell 2 (.var 1) (.var 200)),(qFB13,.cell 3 (.var 1) (.var 200)),(qFB14,.cell 4 (.var 1) (.var 200)),(qFB15,.cell 5 (.var 1) (.var 200)),(qFB16,.cell 6 (.var 1) (.var 200)),(qFB17,.cell 7 (.var 1) (.var 200)),(qFB18,.cell 8 (.var 1) (.var 200)),(qFB9,.boo true)])]),
 ([(qFB5,false),(.op2 .mhas qFB3 qFB0,false),(qFB4,false),(qFB1,true),(qFB2,true),(qFB7,false)],some [(.again 0 [],[(.var 200,qFB6)])]),
 ([(qFB1,false),(qFB2,true),(qFB7,false)],some [(.again 0 [],[(.var 200,qFB6)])]),
 ([(qFB2,false),(qFB7,false)],some [(.leave 0 [],[(.op1 .not qFB9,.boo true)])])]
theorem lSo0_w (r : Rho) : lSo_D.ways lSo_run E0 r 0 lSo0_F lSo0_t = some lSo0_l:=by kernel_rfl
theorem lSo_ok : lSo_D.ok = true:=by kernel_rfl
def noSale (l : List Sal9) (p K : Int) (i : Nat) : Prop:=∀ x ∈ l.take i,cntB l K x = true→x.parcel≠p
theorem sale_none {l : List Sal9} {p K : Int} (h : noSale l p K l.length) : saleAt l p K = none:=by
 unfold saleAt countS
 rw [List.find?_eq_none]
 intro x hx
 obtain ⟨hm,hc⟩:=List.mem_filter.1 hx
 simpa using h x (by rw [List.take_length]; exact hm) hc
theorem sale_some {l : List Sal9} {p K : Int} {i : Nat} {x : Sal9} (hp : l[i]? = some x) (h : noSale l p K i) (hc : cntB l K x = true) (he : x.parcel = p) : saleAt l p K = some x:=by
 unfold saleAt countS
 obtain ⟨hi,rfl⟩:=List.getElem?_eq_some_iff.1 hp
 have e : l = l.take i ++ l[i] :: l.drop (i + 1):=by rw [← List.drop_eq_getElem_cons hi,List.take_append_drop]
 have key : ∀ c : Sal9→Bool,c l[i] = true→(∀ x ∈ l.take i,c x = true→x.parcel≠p)→(l.filter c).find? (fun x => x.parcel == p) = some l[i]:=by
  intro c hc' hn
  conv => lhs; rw [e]
  rw [List.filter_append,List.find?_append,List.filter_cons,if_pos hc',List.find?_cons]
  have h0 : ((l.take i).filter c).find? (fun x => x.parcel == p) = none:=by
   rw [List.find?_eq_none]
   intro x hx
   obtain ⟨hm,hcx⟩:=List.mem_filter.1 hx
   simpa using hn x hm hcx
  rw [h0]
  simp [he]
 exact key _ hc h
def lSo_Inv (l : List Sal9) (p K : Int) (j : Nat) (vals : List Value) : Prop:=j = 0∧∃ i : Nat,i≤l.length∧vals = [.int .i64 (i : Int)]∧noSale l p K i
def lSo_mu (l : List Sal9) (_ : Nat) (vals : List Value) : Nat:=l.length - (vI (vals.getD 0 default)).toNat
set_option maxHeartbeats 2000000 in
theorem lSo_step {ρ : Rho} {l : List Sal9} {p K : Int} {k3 k4 : IntKind} (h1 : ρ.val 1 = some (salsR l)) (h3 : ρ.val 3 = some (.int k3 p)) (h4 : ρ.val 4 = some (.int k4 K)) (hsy : ρ.sym = sy) (hsh : shortB l = true) (j : Nat) (vals : List Value) (hI : lSo_Inv l p K j vals) : StepOk lSo_D lSo_run E0 ρ (lSo_Inv l p K) (lSo_mu l) j vals:=by
 obtain ⟨rfl,i,hi,rfl,hno⟩:=hI
 have hN : lSo_D.N = 200:=rfl
 have hmax:=short_len hsh
 have v1 : (ρ.ext lSo_D.N [.int .i64 (i : Int)]).val 1 = some (salsR l):=by rw [ext_low _ _ _ _ (by rw [hN]; omega)]; exact h1
 have v3 : (ρ.ext lSo_D.N [.int .i64 (i : Int)]).val 3 = some (.int k3 p):=by rw [ext_low _ _ _ _ (by rw [hN]; omega)]; exact h3
 have v4 : (ρ.ext lSo_D.N [.int .i64 (i : Int)]).val 4 = some (.int k4 K):=by rw [ext_low _ _ _ _ (by rw [hN]; omega)]; exact h4
 have v200 : (ρ.ext lSo_D.N [.int .i64 (i : Int)]).val 200 = some (.int .i64 (i : Int)):=by rw [ext_high _ _ _ _ (by rw [hN]; omega)]; rfl
 have vs : (ρ.ext lSo_D.N [.int .i64 (i : Int)]).sym = sy:=hsy
 have hF : FactsIn (ρ.ext lSo_D.N [.int .i64 (i : Int)]) lSo0_F:=by
  simp only [lSo0_F,FactsIn,X.bool,X.den,denL,dX,denSub,denIte,asB,dY,v200,Option.some.injEq,Value.bool.injEq,decide_eq_false_iff_not,and_true]
  omega
 suffices both : AsksL (ρ.ext lSo_D.N [.int .i64 (i : Int)]) (lSo0_t.asks lSo0_F)∧WaysOk lSo_D ρ (lSo_Inv l p K) (lSo_mu l) 0 [.int .i64 (i : Int)] lSo0_l from step_of_ways (lSo0_w _) hF both.1.ok both.2
 cases hp : l[i]? with
 | none =>
   have hge:=List.getElem?_eq_none_iff.1 hp
   have hge' : ¬ (i : Int) < l.length:=by omega
   obtain rfl : i = l.length:=by omega
   have hsa:=sale_none hno
   refine ⟨?_,?_⟩
   ·simp only [lSo0_t,qFB19,qFB18,qFB17,qFB16,qFB15,qFB14,qFB13,qFB12,qFB11,qFB10,qFB9,qFB8,qFB7,qFB6,qFB5,qFB4,qFB3,qFB2,qFB1,qFB0,lSo0_F,AsksL,GTree.asks,FTree.asks,FactsIn,List.append_nil,List.nil_append,List.cons_append,Option.some.injEq,exists_eq',implies_true,and_self,X.bool,X.den,denL,dX,denSub,denIte,asB,dY,d_hasF,d_putF,d_delF,d_hasR5,d_putR5,whos_snocN,whos_snoc0N,recs_snoc0N,flgs_snoc0N,sals_len,sals_cell,v1,v3,v4,v200,vs,sym23,sym164,sym165,sym166,sym169,sym170,Int.toNat_natCast,hp,hge']
    try simp
   ·simp only [lSo0_l,qFB19,qFB18,qFB17,qFB16,qFB15,qFB14,qFB13,qFB12,qFB11,qFB10,qFB9,qFB8,qFB7,qFB6,qFB5,qFB4,qFB3,qFB2,qFB1,qFB0,EndsOk,WaysOk,forall_cons,forall_nil,TgtOk,gpair,FactsIn,hold_cons,hold_nil,Option.some.injEq,dZ,X.bool,X.den,denL,dX,denSub,denIte,asB,dY,beq_iff_eq,beq_eq_false_iff_ne,ne_eq,d_hasF,d_putF,d_delF,d_hasR5,d_putR5,whos_snocN,whos_snoc0N,recs_snoc0N,flgs_snoc0N,sals_len,sals_cell,beq_iff_eq,beq_eq_false_iff_ne,ne_eq,v1,v3,v4,v200,vs,h1,h3,h4,hsy,sym23,sym164,sym165,sym166,sym169,sym170,Int.toNat_natCast,hp,hge',hsa,reduceCtorEq,Bool.false_eq_true,false_implies,implies_true,true_implies,and_self,and_true,true_and]
    try simp
 | some x =>
   have hil : i < l.length:=(List.getElem?_eq_some_iff.1 hp).1
   have hil1 : (i : Int) < l.length:=by omega
   have hw : IntKind.i64.wrap ((i : Int) + 1) = ((i + 1 : Nat) : Int):=by rw [IntWalk.i64_in _ (by omega)]; rfl
   have go : ¬ (cntB l K x = true∧x.parcel = p)→∃ vals',(ρ.ext lSo_D.N vals').val 200 = some (.int .i64 ((i + 1 : Nat) : Int))∧lSo_Inv l p K 0 vals'∧lSo_mu l 0 vals' < lSo_mu l 0 [.int .i64 (i : Int)]:=by
    intro hn
    refine ⟨[.int .i64 ((i + 1 : Nat) : Int)],?_,⟨rfl,i + 1,by omega,rfl,?_⟩,?_⟩
    ·rw [ext_high _ _ _ _ (by rw [hN]; omega)]; rfl
    ·intro y hy hc he
     rw [List.take_add_one,hp] at hy
     rcases List.mem_append.1 hy with hy | hy
     ·exact hno y hy hc he
     ·obtain rfl : y = x:=by simpa using hy
      exact hn ⟨hc,he⟩
    ·simp [lSo_mu,vI]; omega
   have hc : cntB l K x = ((x.of_ == 0 && decide (x.known≤K)) && !(atF (voidK l K) x.id)):=rfl
   have hit : cntB l K x = true→x.parcel = p→saleAt l p K = some x:=fun a b => sale_some hp hno a b
   have hcell : cntB l K x = true→x.parcel = p→∀ j : Int,saleCell l p K j = x.row[j.toNat]?:=fun a b j => by unfold saleCell; rw [hit a b]; rfl
   cases eV : hasF (voidK l K) x.id with
   | false =>
     have f3:=at_noF eV
     rw [f3] at hc
     refine ⟨?_,?_⟩
     all_goals (simp only [lSo0_t,qFB19,qFB18,qFB17,qFB16,qFB15,qFB14,qFB13,qFB12,qFB11,qFB10,qFB9,qFB8,qFB7,qFB6,qFB5,qFB4,qFB3,qFB2,qFB1,qFB0,lSo0_F,lSo0_l,AsksL,GTree.asks,FTree.asks,FactsIn,List.append_nil,List.nil_append,List.cons_append,Option.some.injEq,exists_eq',implies_true,and_self,X.bool,X.den,denL,dX,denSub,denIte,asB,dY,d_hasF,d_putF,d_delF,d_hasR5,d_putR5,whos_snocN,whos_snoc0N,recs_snoc0N,flgs_snoc0N,sals_len,sals_cell,EndsOk,WaysOk,forall_cons,forall_nil,TgtOk,gpair,FactsIn,hold_cons,hold_nil,Option.some.injEq,dZ,X.bool,X.den,denL,dX,denSub,denIte,asB,dY,beq_iff_eq,beq_eq_false_iff_ne,ne_eq,d_hasF,d_putF,d_delF,d_hasR5,d_putR5,whos_snocN,whos_snoc0N,recs_snoc0N,flgs_snoc0N,sals_len,sals_cell,beq_iff_eq,beq_eq_false_iff_ne,ne_eq,v1,v3,v4,v200,vs,h1,h3,h4,hsy,sym23,sym164,sym165,sym166,sym169,sym170,Int.toNat_natCast,hp,Option.bind_some,sal0,sal1,sal2,sal3,sal4,sal5,sal6,sal7,sal8,hil1,hw,eV,reduceCtorEq,Bool.false_eq_true,false_implies,implies_true,true_implies,and_self,and_true,true_and])
     all_goals (clear v1 v3 v4 v200 vs h1 h3 h4 hsy hF)
     all_goals ((repeat' apply And.intro) <;> intros <;> first
      | trivial
      | (exfalso; omega)
      | (exact go (by rw [hc]; simp_all; omega))
      | (exact go (by rw [hc]; simp_all))
      | (have hcn : cntB l K x = true:=by rw [hc]; simp_all
         have hpx : x.parcel = p:=by assumption
         have hcc:=hcell hcn hpx
         have hii:=hit hcn hpx
         (repeat' apply And.intro) <;> first | (rw [hcc]; rfl) | (rw [hii]; rfl))
      | (simp_all; done))
   | true =>
     have f1:=d_atF1 (voidK l K) x.id eV
     refine ⟨?_,?_⟩
     all_goals (simp only [lSo0_t,qFB19,qFB18,qFB17,qFB16,qFB15,qFB14,qFB13,qFB12,qFB11,qFB10,qFB9,qFB8,qFB7,qFB6,qFB5,qFB4,qFB3,qFB2,qFB1,qFB0,lSo0_F,lSo0_l,AsksL,GTree.asks,FTree.asks,FactsIn,List.append_nil,List.nil_append,List.cons_append,Option.some.injEq,exists_eq',implies_true,and_self,X.bool,X.den,denL,dX,denSub,denIte,asB,dY,d_hasF,d_putF,d_delF,d_hasR5,d_putR5,whos_snocN,whos_snoc0N,recs_snoc0N,flgs_snoc0N,sals_len,sals_cell,EndsOk,WaysOk,forall_cons,forall_nil,TgtOk,gpair,FactsIn,hold_cons,hold_nil,Option.some.injEq,dZ,X.bool,X.den,denL,dX,denSub,denIte,asB,dY,beq_iff_eq,beq_eq_false_iff_ne,ne_eq,d_hasF,d_putF,d_delF,d_hasR5,d_putR5,whos_snocN,whos_snoc0N,recs_snoc0N,flgs_snoc0N,sals_len,sals_cell,beq_iff_eq,beq_eq_false_iff_ne,ne_eq,v1,v3,v4,v200,vs,h1,h3,h4,hsy,sym23,sym164,sym165,sym166,sym169,sym170,Int.toNat_natCast,hp,Option.bind_some,sal0,sal1,sal2,sal3,sal4,sal5,sal6,sal7,sal8,hil1,hw,eV,f1,reduceCtorEq,Bool.false_eq_true,false_implies,implies_true,true_implies,and_self,and_true,true_and])
     all_goals (clear v1 v3 v4 v200 vs h1 h3 h4 hsy hF)
     all_goals ((repeat' apply And.intro) <;> intros <;> first
      | trivial
      | (exfalso; omega)
      | (exact go (by rw [hc]; simp_all; omega))
      | (exact go (by rw [hc]; simp_all))
      | (have hcn : cntB l K x = true:=by rw [hc]; simp_all
         have hpx : x.parcel = p:=by assumption
         have hcc:=hcell hcn hpx
         have hii:=hit hcn hpx
         (repeat' apply And.intro) <;> first | (rw [hcc]; rfl) | (rw [hii]; rfl))
      | (simp_all; done))
noncomputable def cSoE_con : Con:={ f:=7,args:=[salsArg 0 0,.one (.int .i64 3),.one (.int .i64 4)],N:=1,M:=1,pre:=[(.app 23 [.var 1],true),(.op2 .eq (.app 164 [.var 1]) (.num 0),false)],out:=.tuple [.agg [.int .i64 0,.int .i64 0,.int .i64 0,.int .i64 0,.int .i64 0,.int .i64 0,.int .i64 0,.int .i64 0,.int .i64 0],.sint .i64 (.app 164 [.var 1])],news:=[] }
noncomputable def cSoE_call : Env→CallL:=fun E => acallAll E (evH E (LT E) ((fun _ => noLoops) E) 12)
noncomputable def cSoE_t : GTree:=(.leaf [[]])
noncomputable def cSoE_l : List (List (X×Bool)×Option Pairs):=[([(.app 23 [.var 1],true),(.op2 .eq (.app 164 [.var 1]) (.num 0),false)],some [(.app 164 [.var 1],.app 164 [.var 1])])]
theorem cSoE_w (r : Rho) : cSoE_con.fn.ways cSoE_call E0 r cSoE_con.pre cSoE_t = some cSoE_l:=by kernel_rfl
theorem so_H {ρ : Rho} {l : List Sal9} {p K : Int} {k3 k4 : IntKind} (h1 : ρ.val 1 = some (salsR l)) (h3 : ρ.val 3 = some (.int k3 p)) (h4 : ρ.val 4 = some (.int k4 K)) (hsy : ρ.sym = sy) (hsh : shortB l = true) (F : List (X×Bool)) : LoopsOk (E0.with F ρ) (oneH 54 (hooks [(2,lVd_D.hook (E0.with F ρ).facts vd_vs),(9,lSo_D.hook (E0.with F ρ).facts so_vs)])):=by
 refine loops_all (n:=2) (fun f fn h => h) (by kernel_rfl) fun i hi => ?_
 have h01 : i = 0∨i = 1:=by omega
 rcases h01 with rfl | rfl
 ·rw [hooks_hit (show keyOf (loopAt (E0.with F ρ).P 54 0) = 2 by kernel_rfl)]
  refine hook_ok (E₀:=E0) (run:=lVd_run) (ρ:=ρ) (Inv:=lVd_Inv l K) (μ:=lVd_mu l) E0_ok lVd_ok (fun F r' h => ?_) (fun hp => ⟨lVd_step h1 h3 h4 hsy hsh,[.int .i64 0,flgsR []],?_,rfl,0,Nat.zero_le _,rfl⟩)
  ·exact bodyRun_ok E0_ok (LT_ok F (h.trans hsy)) fun _ _ => noLoop_ok
  ·simp only [vd_vs,X.bool,X.den,denL,dX,denSub,denIte,asB,dY]
   rfl
 ·rw [hooks_miss (show Nat.beq (keyOf (loopAt (E0.with F ρ).P 54 1)) 2 = false by kernel_rfl),hooks_hit (show keyOf (loopAt (E0.with F ρ).P 54 1) = 9 by kernel_rfl)]
  refine hook_ok (E₀:=E0) (run:=lSo_run) (ρ:=ρ) (Inv:=lSo_Inv l p K) (μ:=lSo_mu l) E0_ok lSo_ok (fun F r' h => ?_) (fun hp => ⟨lSo_step h1 h3 h4 hsy hsh,[.int .i64 0],?_,rfl,0,Nat.zero_le _,rfl,fun x hx => by cases hx⟩)
  ·exact bodyRun_ok E0_ok (LT_ok F (h.trans hsy)) fun _ _ => noLoop_ok
  ·simp only [so_vs,X.bool,X.den,denL,dX,denSub,denIte,asB,dY]
theorem cSoE_cok : cSoE_con.Ok Tryz.prog sy:=by
 intro r σ w us hsy hρ hpre hrel hins
 obtain ⟨l,h1⟩:=sals_open hrel rfl hρ
 obtain ⟨u0,us,rfl,g0,hi⟩:=ins_cons hins
 obtain ⟨u1,us,rfl,g1,hi⟩:=ins_cons hi
 obtain ⟨u2,us,rfl,g2,hi⟩:=ins_cons hi
 obtain ⟨p,k3,rfl,h3⟩:=one_int g1
 obtain ⟨K,k4,rfl,h4⟩:=one_int g2
 rw [hρ] at h3 h4
 have hsh : shortB l = true:=by
  have:=hpre.1
  simpa only [X.bool,X.den,denL,dX,denSub,denIte,asB,dY,h1,hsy,sym23,Option.some.injEq,Value.bool.injEq] using this
 refine con_of (E:=E0) E0_ok E0_glob (sy:=sy) (fun F => LT_ok F hsy) (fun F => noH_ok) (cSoE_w r) hρ hpre hrel hins ?_ ?_
 ·simp only [cSoE_con,cSoE_t,qFB19,qFB18,qFB17,qFB16,qFB15,qFB14,qFB13,qFB12,qFB11,qFB10,qFB9,qFB8,qFB7,qFB6,qFB5,qFB4,qFB3,qFB2,qFB1,qFB0,AsksL,GTree.asks,FTree.asks,FactsIn,List.append_nil,List.nil_append,List.cons_append,Option.some.injEq,exists_eq',implies_true,and_self,X.bool,X.den,denL,dX,denSub,denIte,asB,dY,d_hasF,d_putF,d_delF,d_hasR5,d_putR5,whos_snocN,whos_snoc0N,recs_snoc0N,flgs_snoc0N,sals_len,sals_cell,h1,h3,h4,hsy,sym23,sym164,sym165,sym166,sym169,sym170]
  try simp
 ·simp only [cSoE_l,qFB19,qFB18,qFB17,qFB16,qFB15,qFB14,qFB13,qFB12,qFB11,qFB10,qFB9,qFB8,qFB7,qFB6,qFB5,qFB4,qFB3,qFB2,qFB1,qFB0,EndsOk,WaysOk,forall_cons,forall_nil,TgtOk,gpair,FactsIn,hold_cons,hold_nil,Option.some.injEq,dZ,X.bool,X.den,denL,dX,denSub,denIte,asB,dY,beq_iff_eq,beq_eq_false_iff_ne,ne_eq,d_hasF,d_putF,d_delF,d_hasR5,d_putR5,whos_snocN,whos_snoc0N,recs_snoc0N,flgs_snoc0N,sals_len,sals_cell,beq_iff_eq,beq_eq_false_iff_ne,ne_eq,h1,h3,h4,hsy,sym23,sym164,sym165,sym166,sym169,sym170]
  try simp
noncomputable def cSoN_con : Con:={ f:=7,args:=[salsArg 0 0,.one (.int .i64 3),.one (.int .i64 4)],N:=1,M:=1,pre:=[(.app 23 [.var 1],true),(.op2 .eq (.app 164 [.var 1]) (.num 0),true),(.app 169 [.var 1,.var 3,.var 4],false)],out:=.tuple [.agg [.int .i64 0,.int .i64 0,.int .i64 0,.int .i64 0,.int .i64 0,.int .i64 0,.int .i64 0,.int .i64 0,.int .i64 0],.int .i64 61],news:=[] }
noncomputable def cSoN_call : Env→CallL:=fun E => acallAll E (evH E (LT E) ((fun E => oneH 54 (hooks [(2,lVd_D.hook E.facts vd_vs),(9,lSo_D.hook E.facts so_vs)])) E) 12)
noncomputable def cSoN_t : GTree:=(.leaf [[]])
noncomputable def cSoN_l : List (List (X×Bool)×Option Pairs):=[([(.app 23 [.var 1],true),(.op2 .eq (.app 164 [.var 1]) (.num 0),true),(qFB9,false)],some [])]
theorem cSoN_w (r : Rho) : cSoN_con.fn.ways cSoN_call E0 r cSoN_con.pre cSoN_t = some cSoN_l:=by kernel_rfl
theorem cSoN_cok : cSoN_con.Ok Tryz.prog sy:=by
 intro r σ w us hsy hρ hpre hrel hins
 obtain ⟨l,h1⟩:=sals_open hrel rfl hρ
 obtain ⟨u0,us,rfl,g0,hi⟩:=ins_cons hins
 obtain ⟨u1,us,rfl,g1,hi⟩:=ins_cons hi
 obtain ⟨u2,us,rfl,g2,hi⟩:=ins_cons hi
 obtain ⟨p,k3,rfl,h3⟩:=one_int g1
 obtain ⟨K,k4,rfl,h4⟩:=one_int g2
 rw [hρ] at h3 h4
 have hsh : shortB l = true:=by
  have:=hpre.1
  simpa only [X.bool,X.den,denL,dX,denSub,denIte,asB,dY,h1,hsy,sym23,Option.some.injEq,Value.bool.injEq] using this
 refine con_of (E:=E0) E0_ok E0_glob (sy:=sy) (fun F => LT_ok F hsy) (fun F => so_H h1 h3 h4 hsy hsh F) (cSoN_w r) hρ hpre hrel hins ?_ ?_
 ·simp only [cSoN_con,cSoN_t,qFB19,qFB18,qFB17,qFB16,qFB15,qFB14,qFB13,qFB12,qFB11,qFB10,qFB9,qFB8,qFB7,qFB6,qFB5,qFB4,qFB3,qFB2,qFB1,qFB0,AsksL,GTree.asks,FTree.asks,FactsIn,List.append_nil,List.nil_append,List.cons_append,Option.some.injEq,exists_eq',implies_true,and_self,X.bool,X.den,denL,dX,denSub,denIte,asB,dY,d_hasF,d_putF,d_delF,d_hasR5,d_putR5,whos_snocN,whos_snoc0N,recs_snoc0N,flgs_snoc0N,sals_len,sals_cell,h1,h3,h4,hsy,sym23,sym164,sym165,sym166,sym169,sym170]
  try simp
 ·simp only [cSoN_l,qFB19,qFB18,qFB17,qFB16,qFB15,qFB14,qFB13,qFB12,qFB11,qFB10,qFB9,qFB8,qFB7,qFB6,qFB5,qFB4,qFB3,qFB2,qFB1,qFB0,EndsOk,WaysOk,forall_cons,forall_nil,TgtOk,gpair,FactsIn,hold_cons,hold_nil,Option.some.injEq,dZ,X.bool,X.den,denL,dX,denSub,denIte,asB,dY,beq_iff_eq,beq_eq_false_iff_ne,ne_eq,d_hasF,d_putF,d_delF,d_hasR5,d_putR5,whos_snocN,whos_snoc0N,recs_snoc0N,flgs_snoc0N,sals_len,sals_cell,beq_iff_eq,beq_eq_false_iff_ne,ne_eq,h1,h3,h4,hsy,sym23,sym164,sym165,sym166,sym169,sym170]
  try simp
noncomputable def cSoY_con : Con:={ f:=7,args:=[salsArg 0 0,.one (.int .i64 3),.one (.int .i64 4)],N:=1,M:=1,pre:=[(.app 23 [.var 1],true),(.op2 .eq (.app 164 [.var 1]) (.num 0),true),(.app 169 [.var 1,.var 3,.var 4],true)],out:=.tuple [.agg [.sint .i64 (.app 170 [.var 1,.var 3,.var 4,.num 0]),.sint .i64 (.app 170 [.var 1,.var 3,.var 4,.num 1]),.sint .i64 (.app 170 [.var 1,.var 3,.var 4,.num 2]),.sint .i64 (.app 170 [.var 1,.var 3,.var 4,.num 3]),.sint .i64 (.app 170 [.var 1,.var 3,.var 4,.num 4]),.sint .i64 (.app 170 [.var 1,.var 3,.var 4,.num 5]),.sint .i64 (.app 170 [.var 1,.var 3,.var 4,.num 6]),.sint .i64 (.app 170 [.var 1,.var 3,.var 4,.num 7]),.sint .i64 (.app 170 [.var 1,.var 3,.var 4,.num 8])],.int .i64 0],news:=[] }
noncomputable def cSoY_call : Env→CallL:=fun E => acallAll E (evH E (LT E) ((fun E => oneH 54 (hooks [(2,lVd_D.hook E.facts vd_vs),(9,lSo_D.hook E.facts so_vs)])) E) 12)
noncomputable def cSoY_t : GTree:=(.leaf [[]])
noncomputable def cSoY_l : List (List (X×Bool)×Option Pairs):=[([(.app 23 [.var 1],true),(.op2 .eq (.app 164 [.var 1]) (.num 0),true),(qFB9,true)],some [(qFB10,qFB10),(qFB11,qFB11),(qFB12,qFB12),(qFB13,qFB13),(qFB14,qFB14),(qFB15,qFB15),(qFB16,qFB16),(qFB17,qFB17),(qFB18,qFB18)])]
theorem cSoY_w (r : Rho) : cSoY_con.fn.ways cSoY_call E0 r cSoY_con.pre cSoY_t = some cSoY_l:=by kernel_rfl
theorem cSoY_cok : cSoY_con.Ok Tryz.prog sy:=by
 intro r σ w us hsy hρ hpre hrel hins
 obtain ⟨l,h1⟩:=sals_open hrel rfl hρ
 obtain ⟨u0,us,rfl,g0,hi⟩:=ins_cons hins
 obtain ⟨u1,us,rfl,g1,hi⟩:=ins_cons hi
 obtain ⟨u2,us,rfl,g2,hi⟩:=ins_cons hi
 obtain ⟨p,k3,rfl,h3⟩:=one_int g1
 obtain ⟨K,k4,rfl,h4⟩:=one_int g2
 rw [hρ] at h3 h4
 have hsh : shortB l = true:=by
  have:=hpre.1
  simpa only [X.bool,X.den,denL,dX,denSub,denIte,asB,dY,h1,hsy,sym23,Option.some.injEq,Value.bool.injEq] using this
 refine con_of (E:=E0) E0_ok E0_glob (sy:=sy) (fun F => LT_ok F hsy) (fun F => so_H h1 h3 h4 hsy hsh F) (cSoY_w r) hρ hpre hrel hins ?_ ?_
 ·simp only [cSoY_con,cSoY_t,qFB19,qFB18,qFB17,qFB16,qFB15,qFB14,qFB13,qFB12,qFB11,qFB10,qFB9,qFB8,qFB7,qFB6,qFB5,qFB4,qFB3,qFB2,qFB1,qFB0,AsksL,GTree.asks,FTree.asks,FactsIn,List.append_nil,List.nil_append,List.cons_append,Option.some.injEq,exists_eq',implies_true,and_self,X.bool,X.den,denL,dX,denSub,denIte,asB,dY,d_hasF,d_putF,d_delF,d_hasR5,d_putR5,whos_snocN,whos_snoc0N,recs_snoc0N,flgs_snoc0N,sals_len,sals_cell,h1,h3,h4,hsy,sym23,sym164,sym165,sym166,sym169,sym170]
  try simp
 ·simp only [cSoY_l,qFB19,qFB18,qFB17,qFB16,qFB15,qFB14,qFB13,qFB12,qFB11,qFB10,qFB9,qFB8,qFB7,qFB6,qFB5,qFB4,qFB3,qFB2,qFB1,qFB0,EndsOk,WaysOk,forall_cons,forall_nil,TgtOk,gpair,FactsIn,hold_cons,hold_nil,Option.some.injEq,dZ,X.bool,X.den,denL,dX,denSub,denIte,asB,dY,beq_iff_eq,beq_eq_false_iff_ne,ne_eq,d_hasF,d_putF,d_delF,d_hasR5,d_putR5,whos_snocN,whos_snoc0N,recs_snoc0N,flgs_snoc0N,sals_len,sals_cell,beq_iff_eq,beq_eq_false_iff_ne,ne_eq,h1,h3,h4,hsy,sym23,sym164,sym165,sym166,sym169,sym170]
  try simp
end Go.Proofs.YtckefonlahokkaaGreatDoor.Zs
