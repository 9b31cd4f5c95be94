/-
  A contract: CheckSales.
-/
import Derived.Test.YtckefonlahokkaaGreatDoorVaConS
import Derived.KernelRfl
set_option linter.unusedSimpArgs false
set_option linter.unusedVariables false
namespace Go.Proofs.YtckefonlahokkaaGreatDoor.Zs
open Go
noncomputable def LS : Env→CallE:=libs [cLib cSl_con]
theorem LS_ok (F : List (X×Bool)) {r : Rho} (h : r.sym = sy) : CallsOk (E0.with F r) (LS (E0.with F r)):=libs_ok fun c hc => by
 simp only [List.mem_cons,List.not_mem_nil,or_false] at hc
 subst hc; exact lib_ok (E:=E0) cSl_cok F h
def ck_vs : List X:=[.num 0,.nil,.nil,.nil,.num 0]
noncomputable def lCk_D : LoopD:={ N:=100,M:=105,size:=sizeOfF 34,reads:=[(0,.rows 9 salSch (.var 0) (.var 1) false 27)],pats:=[{ slots:=[(0,.slx 0 9 (.var 0) (.num 0) (.op1 .len (.var 1)) (.var 2)),(1,.int .i64 200),(2,.func (.func 35) [] []),(3,.func (.func 28) [] []),(10,.ptr 4 0),(18,.slx 0 9 (.var 0) (.num 0) (.op1 .len (.var 1)) (.var 2)),(19,.sint .i64 (.op1 .len (.var 1))),(20,.sint .i64 (.var 100))],heap:=[(1,.smap false [.int .i64] true [.int .i64,.int .i64,.int .i64,.int .i64] (.var 101)),(2,.smap false [.int .i64] false [.bool] (.var 102)),(3,.smap false [.int .i64] false [.bool] (.var 103)),(4,.cells [.map 1,.map 2,.map 3,.sint .i64 (.var 104)] 120)] }],exits:=[(.exit 0,{ slots:=[],heap:=[],guard:=.op2 .eq (.app 164 [.var 1]) (.num 0) }),(.ret,{ slots:=[(8,.sint .i64 (.app 165 [.var 1])),(9,.sint .i64 (.app 164 [.var 1]))],heap:=[],guard:=.op1 .not (.op2 .eq (.app 164 [.var 1]) (.num 0)) })],own:=[1,2,3,4],pre:=[(.app 23 [.var 1],true)],dfs:=[] }
noncomputable def lCk_run : Env→AF→ASt→Option (List Out):=bodyRun LS 9 (fun _ => noLoop) (loopAt Tryz.prog 34 0)
def lCk0_F : List (X×Bool):=[(.op2 .lt (.var 100) (.num 0),false)]
def qFA0 : X:=.op2 (.mput 1) (.var 101) (.snoc .nil [(.op1 (.kind .i64) (.cell 0 (.var 1) (.var 100))),(.op1 (.kind .i64) (.cell 0 (.var 1) (.var 100))),(.op1 (.kind .i64) (.cell 1 (.var 1) (.var 100))),(.op1 (.kind .i64) (.cell 8 (.var 1) (.var 100))),(.op1 (.kind .i64) (.cell 3 (.var 1) (.var 100)))])
def qFA1 : X:=.op2 .eq (.ite (.app 131 [(.cell 0 (.var 1) (.var 100)),(.cell 1 (.var 1) (.var 100)),(.cell 2 (.var 1) (.var 100)),(.cell 3 (.var 1) (.var 100)),(.cell 4 (.var 1) (.var 100)),(.cell 5 (.var 1) (.var 100)),(.cell 6 (.var 1) (.var 100)),(.cell 7 (.var 1) (.var 100)),(.cell 8 (.var 1) (.var 100))]) (.num 0) (.num 1)) (.num 0)
def qFA2 : X:=.snoc .nil [(.op1 (.kind .i64) (.cell 8 (.var 1) (.var 100)))]
def qFA3 : X:=.op2 .mhas (.var 101) (.snoc .nil [(.op1 (.kind .i64) (.cell 0 (.var 1) (.var 100)))])
def qFA4 : X:=.cell 3 (.var 1) (.var 100)
def qFA5 : X:=.op2 .lt (.cell 1 (.var 1) (.var 100)) (.var 104)
def qFA6 : X:=.op2 .lt (.var 100) (.op1 .len (.var 1))
def qFA7 : X:=.op2 .eq (.cell 8 (.var 1) (.var 100)) (.num 0)
def qFA8 : X:=.op2 (.mput 1) (.var 102) (.snoc .nil [(.op1 (.kind .i64) (.cell 8 (.var 1) (.var 100))),(.boo true)])
def qFA9 : X:=.op2 .eq (.var 100) (.num 200)
def qFA10 : X:=.op1 (.wrap .i64) (.op2 .add (.var 100) (.num 1))
def qFA11 : X:=.op2 .lt (.var 100) (.num 0)
def qFA12 : X:=.op2 .eq (.app 164 [(.var 1)]) (.num 0)
def qFA13 : X:=.op2 .eq (.op2 (.mat 3) (.var 101) qFA2) (.num 0)
def qFA14 : X:=.op2 .eq qFA4 (.num 0)
def qFA15 : X:=.snoc .nil [(.op1 (.kind .i64) qFA4)]
def qFA16 : X:=.cell 1 (.var 1) (.var 100)
def qFA17 : X:=.op2 .mhas (.var 101) qFA2
def qFA18 : X:=.op2 .mdel (.var 103) (.snoc .nil [(.op1 (.kind .i64) (.op2 (.mat 4) qFA0 qFA2))])
def qFA19 : X:=.snoc .nil [(.op1 (.kind .i64) qFA4),(.boo true)]
def qFA20 : X:=.op2 .mhas (.var 102) qFA2
def qFA21 : X:=.op2 .mdel (.var 103) (.snoc .nil [(.op1 (.kind .i64) (.num 0))])
def qFA22 : X:=.app 165 [(.var 1)]
def qFA23 : X:=.app 164 [(.var 1)]
def qFA24 : X:=.op2 .mhas qFA0 qFA2
def qFA25 : X:=.op2 (.mat 1) (.var 102) qFA2
noncomputable def lCk0_t : FTree:=(.fork qFA6 (.fork qFA9 (.leaf [.leave 1 []]) (.fork qFA1 (.fork qFA3 (.leaf [.leave 1 []]) (.fork qFA5 (.leaf [.leave 1 []]) (.fork qFA7 (.fork (.op2 .mhas (.var 103) qFA15) (.fork (.op2 (.mat 1) (.var 103) qFA15) (.leaf [.leave 1 []]) (.fork qFA14 (.leaf [.again 0 []]) (.leaf [.again 0 []]))) (.fork qFA14 (.leaf [.again 0 []]) (.leaf [.again 0 []]))) (.fork qFA17 (.fork qFA13 (.fork qFA20 (.fork qFA25 (.leaf [.leave 1 []]) (.fork qFA24 (.fork qFA14 (.leaf [.again 0 []]) (.leaf [.again 0 []])) (.fork qFA14 (.leaf [.again 0 []]) (.leaf [.again 0 []])))) (.fork qFA24 (.fork qFA14 (.leaf [.again 0 []]) (.leaf [.again 0 []])) (.fork qFA14 (.leaf [.again 0 []]) (.leaf [.again 0 []])))) (.leaf [.leave 1 []])) (.leaf [.leave 1 []]))))) (.leaf [.leave 1 []]))) (.leaf [.leave 0 []]))
noncomputable def lCk0_l : List (List (X×Bool)×Option (List (Tgt×Pairs))):=[([(qFA9,true),(qFA6,true),(qFA11,false)],some [(.leave 1 [],[(qFA22,.var 100),(qFA23,.num 2),(.op1 .not qFA12,.boo true)])]),
 ([(qFA3,true),(qFA1,true),(qFA9,false),(qFA6,true),(qFA11,false)],some [(.leave 1 [],[(qFA22,.var 100),(qFA23,.num 6),(.op1 .not qFA12,.boo true)])]),
 ([(qFA5,true),(qFA3,false),(qFA1,true),(qFA9,false),(qFA6,true),(qFA11,false)],some [(.leave 1 [],[(qFA22,.var 100),(qFA23,.num 7),(.op1 .not qFA12,.boo true)])]),
 ([(.op2 (.mat 1) (.var 103) qFA15,true),(.op2 .mhas (.var 103) qFA15,true),(qFA7,true),(qFA5,false),(qFA3,false),(qFA1,true),(qFA9,false),(qFA6,true),(qFA11,false)],some [(.leave 1 [],[(qFA22,.var 100),(qFA23,.num 61),(.op1 .not qFA12,.boo true)])]),
 ([(qFA14,true),(.op2 (.mat 1) (.var 103) qFA15,false),(.op2 .mhas (.var 103) qFA15,true),(qFA7,true),(qFA5,false),(qFA3,false),(qFA1,true),(qFA9,false),(qFA6,true),(qFA11,false)],some [(.again 0 [],[(.var 100,qFA10),(.var 101,qFA0),(.var 102,.var 102),(.var 103,.var 103),(.var 104,qFA16)])]),
 ([(qFA14,false),(.op2 (.mat 1) (.var 103) qFA15,false),(.op2 .mhas (.var 103) qFA15,true),(qFA7,true),(qFA5,false),(qFA3,false),(qFA1,true),(qFA9,false),(qFA6,true),(qFA11,false)],some [(.again 0 [],[(.var 100,qFA10),(.var 101,qFA0),(.var 102,.var 102),(.var 103,.op2 (.mput 1) (.var 103) qFA19),(.var 104,qFA16)])]),
 ([(qFA14,true),(.op2 .mhas (.var 103) qFA15,false),(qFA7,true),(qFA5,false),(qFA3,false),(qFA1,true),(qFA9,false),(qFA6,true),(qFA11,false)],some [(.again 0 [],[(.var 100,qFA10),(.var 101,qFA0),(.var 102,.var 102),(.var 103,.var 103),(.var 104,qFA16)])]),
 ([(qFA14,false),(.op2 .mhas (.var 103) qFA15,false),(qFA7,true),(qFA5,false),(qFA3,false),(qFA1,true),(qFA9,false),(qFA6,true),(qFA11,false)],some [(.again 0 [],[(.var 100,qFA10),(.var 101,qFA0),(.var 102,.var 102),(.var 103,.op2 (.mput 1) (.var 103) qFA19),(.var 104,qFA16)])]),
 ([(qFA25,true),(qFA20,true),(qFA13,true),(qFA17,true),(qFA7,false),(qFA5,false),(qFA3,false),(qFA1,true),(qFA9,false),(qFA6,true),(qFA11,false)],some [(.leave 1 [],[(qFA22,.var 100),(qFA23,.num 6),(.op1 .not qFA12,.boo true)])]),
 ([(qFA14,true),(qFA24,true),(qFA25,false),(qFA20,true),(qFA13,true),(qFA17,true),(qFA7,false),(qFA5,false),(qFA3,false),(qFA1,true),(qFA9,false),(qFA6,true),(qFA11,false)],some [(.again 0 [],[(.var 100,qFA10),(.var 101,qFA0),(.var 102,qFA8),(.var 103,qFA18),(.var 104,qFA16)])]),
 ([(qFA14,false),(qFA24,true),(qFA25,false),(qFA20,true),(qFA13,true),(qFA17,true),(qFA7,false),(qFA5,false),(qFA3,false),(qFA1,true),(qFA9,false),(qFA6,true),(qFA11,false)],some [(.again 0 [],[(.var 100,qFA10),(.var 101,qFA0),(.var 102,qFA8),(.var 103,.op2 (.mput 1) qFA18 qFA19),(.var 104,qFA16)])]),
 ([(qFA14,true),(qFA24,false),(qFA25,false),(qFA20,true),(qFA13,true),(qFA17,true),(qFA7,false),(qFA5,false),(qFA3,false),(qFA1,true),(qFA9,false),(qFA6,true),(qFA11,false)],some [(.again 0 [],[(.var 100,qFA10),(.var 101,qFA0),(.var 102,qFA8),(.var 103,qFA21),(.var 104,qFA16)])]),
 ([(qFA14,false),(qFA24,false),(qFA25,false),(qFA20,true),(qFA13,true),(qFA17,true),(qFA7,false),(qFA5,false),(qFA3,false),(qFA1,true),(qFA9,false),(qFA6,true),(qFA11,false)],some [(.again 0 [],[(.var 100,qFA10),(.var 101,qFA0),(.var 102,qFA8),(.var 103,.op2 (.mput 1) qFA21 qFA19),(.var 104,qFA16)])]),
 ([(qFA14,true),(qFA24,true),(qFA20,false),(qFA13,true),(qFA17,true),(qFA7,false),(qFA5,false),(qFA3,false),(qFA1,true),(qFA9,false),(qFA6,true),(qFA11,false)],some [(.again 0 [],[(.var 100,qFA10),(.var 101,qFA0),(.var 102,qFA8),(.var 103,qFA18),(.var 104,qFA16)])]),
 ([(qFA14,false),(qFA24,true),(qFA20,false),(qFA13,true),(qFA17,true),(qFA7,false),(qFA5,false),(qFA3,false),(qFA1,true),(qFA9,false),(qFA6,true),(qFA11,false)],some [(.again 0 [],[(.var 100,qFA10),(.var 101,qFA0),(.var 102,qFA8),(.var 103,.op2 (.mput 1) qFA18 qFA19),(.var 104,qFA16)])]),
 ([(qFA14,true),(qFA24,false),(qFA20,false),(qFA13,true),(qFA17,true),(qFA7,false),(qFA5,false),(qFA3,false),(qFA1,true),(qFA9,false),(qFA6,true),(qFA11,false)],some [(.again 0 [],[(.var 100,qFA10),(.var 101,qFA0),(.var 102,qFA8),(.var 103,qFA21),(.var 104,qFA16)])]),
 ([(qFA14,false),(qFA24,false),(qFA20,false),(qFA13,true),(qFA17,true),(qFA7,false),(qFA5,false),(qFA3,false),(qFA1,true),(qFA9,false),(qFA6,true),(qFA11,false)],some [(.again 0 [],[(.var 100,qFA10),(.var 101,qFA0),(.var 102,qFA8),(.var 103,.op2 (.mput 1) qFA21 qFA19),(.var 104,qFA16)])]),
 ([(qFA13,false),(qFA17,true),(qFA7,false),(qFA5,false),(qFA3,false),(qFA1,true),(qFA9,false),(qFA6,true),(qFA11,false)],some [(.leave 1 [],[(qFA22,.var 100),(qFA23,.num 5),(.op1 .not qFA12,.boo true)])]),
 ([(qFA17,false),(qFA7,false),(qFA5,false),(qFA3,false),(qFA1,true),(qFA9,false),(qFA6,true),(qFA11,false)],some [(.leave 1 [],[(qFA22,.var 100),(qFA23,.num 5),(.op1 .not qFA12,.boo true)])]),
 ([(qFA1,false),(qFA9,false),(qFA6,true),(qFA11,false)],some [(.leave 1 [],[(qFA22,.var 100),(qFA23,.ite (.app 131 [.cell 0 (.var 1) (.var 100),qFA16,.cell 2 (.var 1) (.var 100),qFA4,.cell 4 (.var 1) (.var 100),.cell 5 (.var 1) (.var 100),.cell 6 (.var 1) (.var 100),.cell 7 (.var 1) (.var 100),.cell 8 (.var 1) (.var 100)]) (.num 0) (.num 1)),(.op1 .not qFA12,.boo true)])]),
 ([(qFA6,false),(qFA11,false)],some [(.leave 0 [],[(qFA12,.boo true)])])]
theorem lCk0_w (r : Rho) : lCk_D.ways lCk_run E0 r 0 lCk0_F lCk0_t = some lCk0_l:=by kernel_rfl
theorem lCk_ok : lCk_D.ok = true:=by kernel_rfl
def lCk_Inv (l : List Sal9) (j : Nat) (vals : List Value) : Prop:=
 j = 0∧∃ i : Nat,i≤l.length∧vals = [.int .i64 (i : Int),recsR (recM (l.take i)),flgsR (voidM (l.take i)),flgsR (soldM (l.take i)),.int .i64 (lastS (l.take i))]∧∀ k,k < i→badS l k = 0
def lCk_mu (l : List Sal9) (_ : Nat) (vals : List Value) : Nat:=l.length - (vI (vals.getD 0 default)).toNat
theorem d_atF1 (m : List Flg) (k : Int) (h : hasF m k = true) : den2 (.mat 1) (flgsR m) (whosR [⟨k⟩]) = some (.bool (atF m k)):=by rw [d_atF,h]; rfl
theorem at_noF {m : List Flg} {k : Int} (h : hasF m k = false) : atF m k = false:=by
 have : m.find? (fun x => x.k == k) = none:=List.find?_eq_none.2 fun x hx => by
  have:=List.any_eq_false.1 h x hx
  simpa using this
 simp [atF,this]
theorem get_noR {m : List Rec5} {k : Int} (h : hasR m k = false) : getR m k = ⟨0,0,0,0,0⟩:=by
 have : m.find? (fun x => x.k == k) = none:=List.find?_eq_none.2 fun x hx => by
  have:=List.any_eq_false.1 h x hx
  simpa using this
 simp [getR,this]
set_option maxHeartbeats 4000000 in
theorem lCk_step {ρ : Rho} {l : List Sal9} (h1 : ρ.val 1 = some (salsR l)) (hsy : ρ.sym = sy) (hsh : shortB l = true) (j : Nat) (vals : List Value) (hI : lCk_Inv l j vals) :
  StepOk lCk_D lCk_run E0 ρ (lCk_Inv l) (lCk_mu l) j vals:=by
 obtain ⟨rfl,i,hi,rfl,hall⟩:=hI
 have hN : lCk_D.N = 100:=rfl
 have hmax:=short_len hsh
 have v1 : (ρ.ext lCk_D.N [.int .i64 (i : Int),recsR (recM (l.take i)),flgsR (voidM (l.take i)),flgsR (soldM (l.take i)),.int .i64 (lastS (l.take i))]).val 1 = some (salsR l):=by rw [ext_low _ _ _ _ (by rw [hN]; omega)]; exact h1
 have v100 : (ρ.ext lCk_D.N [.int .i64 (i : Int),recsR (recM (l.take i)),flgsR (voidM (l.take i)),flgsR (soldM (l.take i)),.int .i64 (lastS (l.take i))]).val 100 = some (.int .i64 (i : Int)):=by rw [ext_high _ _ _ _ (by rw [hN]; omega)]; rfl
 have v101 : (ρ.ext lCk_D.N [.int .i64 (i : Int),recsR (recM (l.take i)),flgsR (voidM (l.take i)),flgsR (soldM (l.take i)),.int .i64 (lastS (l.take i))]).val 101 = some (recsR (recM (l.take i))):=by rw [ext_high _ _ _ _ (by rw [hN]; omega)]; rfl
 have v102 : (ρ.ext lCk_D.N [.int .i64 (i : Int),recsR (recM (l.take i)),flgsR (voidM (l.take i)),flgsR (soldM (l.take i)),.int .i64 (lastS (l.take i))]).val 102 = some (flgsR (voidM (l.take i))):=by rw [ext_high _ _ _ _ (by rw [hN]; omega)]; rfl
 have v103 : (ρ.ext lCk_D.N [.int .i64 (i : Int),recsR (recM (l.take i)),flgsR (voidM (l.take i)),flgsR (soldM (l.take i)),.int .i64 (lastS (l.take i))]).val 103 = some (flgsR (soldM (l.take i))):=by rw [ext_high _ _ _ _ (by rw [hN]; omega)]; rfl
 have v104 : (ρ.ext lCk_D.N [.int .i64 (i : Int),recsR (recM (l.take i)),flgsR (voidM (l.take i)),flgsR (soldM (l.take i)),.int .i64 (lastS (l.take i))]).val 104 = some (.int .i64 (lastS (l.take i))):=by rw [ext_high _ _ _ _ (by rw [hN]; omega)]; rfl
 have vs : (ρ.ext lCk_D.N [.int .i64 (i : Int),recsR (recM (l.take i)),flgsR (voidM (l.take i)),flgsR (soldM (l.take i)),.int .i64 (lastS (l.take i))]).sym = sy:=hsy
 have hF : FactsIn (ρ.ext lCk_D.N [.int .i64 (i : Int),recsR (recM (l.take i)),flgsR (voidM (l.take i)),flgsR (soldM (l.take i)),.int .i64 (lastS (l.take i))]) lCk0_F:=by
  simp only [lCk0_F,FactsIn,X.bool,X.den,denL,dX,denSub,denIte,asB,dY,v100,Option.some.injEq,Value.bool.injEq,decide_eq_false_iff_not,and_true]
  omega
 suffices both : AsksL (ρ.ext lCk_D.N [.int .i64 (i : Int),recsR (recM (l.take i)),flgsR (voidM (l.take i)),flgsR (soldM (l.take i)),.int .i64 (lastS (l.take i))]) (lCk0_t.asks lCk0_F)∧WaysOk lCk_D ρ (lCk_Inv l) (lCk_mu l) 0 [.int .i64 (i : Int),recsR (recM (l.take i)),flgsR (voidM (l.take i)),flgsR (soldM (l.take i)),.int .i64 (lastS (l.take i))] lCk0_l from step_of_ways (lCk0_w _) hF both.1.ok both.2
 cases hp : l[i]? with
 | none =>
   have hge:=List.getElem?_eq_none_iff.1 hp
   have hge' : ¬ (i : Int) < l.length:=by omega
   have he : chkE l = 0:=by unfold chkE; rw [stop_none fun k hk => hall k (by omega)]
   refine ⟨?_,?_⟩
   ·simp only [lCk0_t,qFA25,qFA24,qFA23,qFA22,qFA21,qFA20,qFA19,qFA18,qFA17,qFA16,qFA15,qFA14,qFA13,qFA12,qFA11,qFA10,qFA9,qFA8,qFA7,qFA6,qFA5,qFA4,qFA3,qFA2,qFA1,qFA0,lCk0_F,AsksL,GTree.asks,FTree.asks,FactsIn,List.append_nil,List.nil_append,List.cons_append,Option.some.injEq,exists_eq',implies_true,and_self,X.bool,X.den,denL,dX,denSub,denIte,asB,dY,d_hasF,d_putF,d_delF,d_hasR5,d_putR5,whos_snocN,whos_snoc0N,recs_snoc0N,flgs_snoc0N,sals_len,sals_cell,v1,v100,v101,v102,v103,v104,vs,sym23,sym131,sym164,sym165,Int.toNat_natCast,hp,hge']
    try simp
   ·simp only [lCk0_l,qFA25,qFA24,qFA23,qFA22,qFA21,qFA20,qFA19,qFA18,qFA17,qFA16,qFA15,qFA14,qFA13,qFA12,qFA11,qFA10,qFA9,qFA8,qFA7,qFA6,qFA5,qFA4,qFA3,qFA2,qFA1,qFA0,EndsOk,WaysOk,forall_cons,forall_nil,TgtOk,gpair,FactsIn,hold_cons,hold_nil,Option.some.injEq,dZ,X.bool,X.den,denL,dX,denSub,denIte,asB,dY,beq_iff_eq,beq_eq_false_iff_ne,ne_eq,d_hasF,d_putF,d_delF,d_hasR5,d_putR5,whos_snocN,whos_snoc0N,recs_snoc0N,flgs_snoc0N,sals_len,sals_cell,v1,v100,v101,v102,v103,v104,vs,h1,hsy,sym23,sym131,sym164,sym165,Int.toNat_natCast,hp,hge',he,reduceCtorEq,Bool.false_eq_true,false_implies,implies_true,true_implies,and_self,and_true,true_and]
    try simp
 | some x =>
   have hil : i < l.length:=(List.getElem?_eq_some_iff.1 hp).1
   have hil1 : (i : Int) < l.length:=by omega
   have hgx : l.getD i ⟨0,0,0,0,0,0,0,0,0⟩ = x:=by rw [List.getD_eq_getElem?_getD,hp]; rfl
   have hbad : badS l i = if i = 200 then 2 else refS (l.take i) x:=by unfold badS; rw [hgx]
   have hw : IntKind.i64.wrap ((i : Int) + 1) = ((i + 1 : Nat) : Int):=by rw [IntWalk.i64_in _ (by omega)]; rfl
   have h200 : ((i : Int) = 200) = (i = 200):=by rw [eq_iff_iff]; omega
   have out : ∀ e,badS l i = e→e≠0→chkI l = i∧chkE l = e:=fun e he hne => by
    have:=stop_some hil hall (by rw [he]; exact hne)
    unfold chkI chkE
    rw [this]
    exact ⟨rfl,he⟩
   have t1 : recM (l.take (i + 1)) = putR (recOf x) (recM (l.take i)):=by rw [List.take_add_one,hp]; exact recM_snoc _ x
   have t2 : voidM (l.take (i + 1)) = if x.of_ = 0 then voidM (l.take i) else putF x.of_ true (voidM (l.take i)):=by rw [List.take_add_one,hp]; exact voidM_snoc _ x
   have t3 : soldM (l.take (i + 1)) = soldStep (recM (l.take i)) (soldM (l.take i)) x:=by rw [List.take_add_one,hp]; exact soldM_snoc _ x
   have t4 : lastS (l.take (i + 1)) = x.known:=by rw [List.take_add_one,hp]; exact lastS_snoc _ x
   have go : badS l i = 0→∀ a b c,a = recM (l.take (i + 1))→b = voidM (l.take (i + 1))→c = soldM (l.take (i + 1))→∃ vals',((ρ.ext lCk_D.N vals').val 100 = some (.int .i64 ((i + 1 : Nat) : Int))∧(ρ.ext lCk_D.N vals').val 101 = some (recsR a)∧(ρ.ext lCk_D.N vals').val 102 = some (flgsR b)∧(ρ.ext lCk_D.N vals').val 103 = some (flgsR c)∧(ρ.ext lCk_D.N vals').val 104 = some (.int .i64 x.known))∧lCk_Inv l 0 vals'∧lCk_mu l 0 vals' < lCk_mu l 0 [.int .i64 (i : Int),recsR (recM (l.take i)),flgsR (voidM (l.take i)),flgsR (soldM (l.take i)),.int .i64 (lastS (l.take i))]:=by
    rintro hb _ _ _ rfl rfl rfl
    refine ⟨[.int .i64 ((i + 1 : Nat) : Int),recsR (recM (l.take (i + 1))),flgsR (voidM (l.take (i + 1))),flgsR (soldM (l.take (i + 1))),.int .i64 (lastS (l.take (i + 1)))],⟨?_,?_,?_,?_,?_⟩,⟨rfl,i + 1,by omega,rfl,fun k hk => ?_⟩,?_⟩
    ·rw [ext_high _ _ _ _ (by rw [hN]; omega)]; rfl
    ·rw [ext_high _ _ _ _ (by rw [hN]; omega)]; rfl
    ·rw [ext_high _ _ _ _ (by rw [hN]; omega)]; rfl
    ·rw [ext_high _ _ _ _ (by rw [hN]; omega)]; rfl
    ·rw [ext_high _ _ _ _ (by rw [hN]; omega),← t4]; rfl
    ·rcases Nat.lt_or_ge k i with h | h
     ·exact hall k h
     ·rw [show k = i by omega]; exact hb
    ·simp [lCk_mu,vI]; omega
   have hmu : lCk_mu l 0 [.int .i64 (i : Int),recsR (recM (l.take i)),flgsR (voidM (l.take i)),flgsR (soldM (l.take i)),.int .i64 (lastS (l.take i))] = l.length - i:=by simp [lCk_mu,vI]
   rw [hmu] at go
   have hxs : saleB ⟨x.id,x.known,x.hour,x.parcel,x.price,x.carter,x.keeper,x.since,x.of_⟩ = saleB x:=rfl
   have hro : (⟨x.id,x.id,x.known,x.of_,x.parcel⟩ : Rec5) = recOf x:=rfl
   unfold refS at hbad
   have bz : ∀ a : Int,(a == 0) = decide (a = 0):=fun a => by rw [Bool.eq_iff_iff]; simp
   have bl : ∀ a b : Int,decide (a < b) = !(decide (b≤a)):=fun a b => by rw [Bool.eq_iff_iff]; simp
   simp only [bz,bl] at hbad
   clear bz bl
   rw [t1,t2,t3] at go
   unfold soldStep at go
   clear t1 t2 t3 t4
   generalize recM (l.take i) = rm at hbad go v101 v1 v100 v102 v103 v104 vs hF ⊢
   generalize voidM (l.take i) = vm at hbad go v101 v1 v100 v102 v103 v104 vs hF ⊢
   generalize soldM (l.take i) = sm at hbad go v101 v1 v100 v102 v103 v104 vs hF ⊢
   generalize lastS (l.take i) = lk at hbad go v101 v1 v100 v102 v103 v104 vs hF ⊢
   cases eS : saleB x with
   | false =>
     refine ⟨?_,?_⟩
     all_goals (simp only [lCk0_t,qFA25,qFA24,qFA23,qFA22,qFA21,qFA20,qFA19,qFA18,qFA17,qFA16,qFA15,qFA14,qFA13,qFA12,qFA11,qFA10,qFA9,qFA8,qFA7,qFA6,qFA5,qFA4,qFA3,qFA2,qFA1,qFA0,lCk0_F,lCk0_l,AsksL,GTree.asks,FTree.asks,FactsIn,List.append_nil,List.nil_append,List.cons_append,Option.some.injEq,exists_eq',implies_true,and_self,X.bool,X.den,denL,dX,denSub,denIte,asB,dY,d_hasF,d_putF,d_delF,d_hasR5,d_putR5,whos_snocN,whos_snoc0N,recs_snoc0N,flgs_snoc0N,sals_len,sals_cell,EndsOk,WaysOk,forall_cons,forall_nil,TgtOk,gpair,FactsIn,hold_cons,hold_nil,Option.some.injEq,dZ,X.bool,X.den,denL,dX,denSub,denIte,asB,dY,beq_iff_eq,beq_eq_false_iff_ne,ne_eq,d_hasF,d_putF,d_delF,d_hasR5,d_putR5,whos_snocN,whos_snoc0N,recs_snoc0N,flgs_snoc0N,sals_len,sals_cell,beq_iff_eq,beq_eq_false_iff_ne,ne_eq,v1,v100,v101,v102,v103,v104,vs,h1,hsy,sym23,sym131,sym164,sym165,Int.toNat_natCast,hp,Option.bind_some,sal0,sal1,sal2,sal3,sal4,sal5,sal6,sal7,sal8,hil1,hw,hxs,hro,h200,eS,reduceCtorEq,Bool.false_eq_true,false_implies,implies_true,true_implies,and_self,and_true,true_and])
     all_goals (clear v1 v100 v101 v102 v103 v104 vs h1 hsy hp hF)
     all_goals ((repeat' apply And.intro) <;> intros <;> first
      | trivial
      | contradiction
      | (exact go (by rw [hbad]; simp_all) _ _ _ rfl (by simp_all) (by simp_all))
      | (obtain ⟨oa,ob⟩:=out 7 (by rw [hbad,show decide (lk≤x.known) = false from decide_eq_false (by omega)]; simp_all) (by decide); simp [oa,ob]; done)
      | (obtain ⟨oa,ob⟩:=out 2 (by rw [hbad]; simp_all) (by decide); simp [oa,ob]; done) | (obtain ⟨oa,ob⟩:=out 6 (by rw [hbad]; simp_all) (by decide); simp [oa,ob]; done) | (obtain ⟨oa,ob⟩:=out 7 (by rw [hbad]; simp_all) (by decide); simp [oa,ob]; done) | (obtain ⟨oa,ob⟩:=out 61 (by rw [hbad]; simp_all) (by decide); simp [oa,ob]; done) | (obtain ⟨oa,ob⟩:=out 5 (by rw [hbad]; simp_all) (by decide); simp [oa,ob]; done) | (obtain ⟨oa,ob⟩:=out 1 (by rw [hbad]; simp_all) (by decide); simp [oa,ob]; done)
      | (exfalso; omega)
      | (exfalso; simp_all; done)
      | (simp_all; done))
   | true =>
     by_cases hof : x.of_ = 0
     ·have hofe : (x.of_ = 0) = True:=eq_true hof
      cases eP : hasF sm x.parcel with
      | false =>
        have f4:=at_noF eP
        refine ⟨?_,?_⟩
        all_goals (simp only [lCk0_t,qFA25,qFA24,qFA23,qFA22,qFA21,qFA20,qFA19,qFA18,qFA17,qFA16,qFA15,qFA14,qFA13,qFA12,qFA11,qFA10,qFA9,qFA8,qFA7,qFA6,qFA5,qFA4,qFA3,qFA2,qFA1,qFA0,lCk0_F,lCk0_l,AsksL,GTree.asks,FTree.asks,FactsIn,List.append_nil,List.nil_append,List.cons_append,Option.some.injEq,exists_eq',implies_true,and_self,X.bool,X.den,denL,dX,denSub,denIte,asB,dY,d_hasF,d_putF,d_delF,d_hasR5,d_putR5,whos_snocN,whos_snoc0N,recs_snoc0N,flgs_snoc0N,sals_len,sals_cell,EndsOk,WaysOk,forall_cons,forall_nil,TgtOk,gpair,FactsIn,hold_cons,hold_nil,Option.some.injEq,dZ,X.bool,X.den,denL,dX,denSub,denIte,asB,dY,beq_iff_eq,beq_eq_false_iff_ne,ne_eq,d_hasF,d_putF,d_delF,d_hasR5,d_putR5,whos_snocN,whos_snoc0N,recs_snoc0N,flgs_snoc0N,sals_len,sals_cell,beq_iff_eq,beq_eq_false_iff_ne,ne_eq,v1,v100,v101,v102,v103,v104,vs,h1,hsy,sym23,sym131,sym164,sym165,Int.toNat_natCast,hp,Option.bind_some,sal0,sal1,sal2,sal3,sal4,sal5,sal6,sal7,sal8,hil1,hw,hxs,hro,h200,eS,eP,hofe,reduceCtorEq,Bool.false_eq_true,false_implies,implies_true,true_implies,and_self,and_true,true_and])
        all_goals (clear v1 v100 v101 v102 v103 v104 vs h1 hsy hp hF)
        all_goals ((repeat' apply And.intro) <;> intros <;> first
         | trivial
         | contradiction
         | (exact go (by rw [hbad]; simp_all) _ _ _ rfl (by simp_all) (by simp_all))
         | (obtain ⟨oa,ob⟩:=out 7 (by rw [hbad,show decide (lk≤x.known) = false from decide_eq_false (by omega)]; simp_all) (by decide); simp [oa,ob]; done)
         | (obtain ⟨oa,ob⟩:=out 2 (by rw [hbad]; simp_all) (by decide); simp [oa,ob]; done) | (obtain ⟨oa,ob⟩:=out 6 (by rw [hbad]; simp_all) (by decide); simp [oa,ob]; done) | (obtain ⟨oa,ob⟩:=out 7 (by rw [hbad]; simp_all) (by decide); simp [oa,ob]; done) | (obtain ⟨oa,ob⟩:=out 61 (by rw [hbad]; simp_all) (by decide); simp [oa,ob]; done) | (obtain ⟨oa,ob⟩:=out 5 (by rw [hbad]; simp_all) (by decide); simp [oa,ob]; done) | (obtain ⟨oa,ob⟩:=out 1 (by rw [hbad]; simp_all) (by decide); simp [oa,ob]; done)
         | (exfalso; omega)
         | (exfalso; simp_all; done)
         | (simp_all; done))
      | true =>
        have f2:=d_atF1 sm x.parcel eP
        refine ⟨?_,?_⟩
        all_goals (simp only [lCk0_t,qFA25,qFA24,qFA23,qFA22,qFA21,qFA20,qFA19,qFA18,qFA17,qFA16,qFA15,qFA14,qFA13,qFA12,qFA11,qFA10,qFA9,qFA8,qFA7,qFA6,qFA5,qFA4,qFA3,qFA2,qFA1,qFA0,lCk0_F,lCk0_l,AsksL,GTree.asks,FTree.asks,FactsIn,List.append_nil,List.nil_append,List.cons_append,Option.some.injEq,exists_eq',implies_true,and_self,X.bool,X.den,denL,dX,denSub,denIte,asB,dY,d_hasF,d_putF,d_delF,d_hasR5,d_putR5,whos_snocN,whos_snoc0N,recs_snoc0N,flgs_snoc0N,sals_len,sals_cell,EndsOk,WaysOk,forall_cons,forall_nil,TgtOk,gpair,FactsIn,hold_cons,hold_nil,Option.some.injEq,dZ,X.bool,X.den,denL,dX,denSub,denIte,asB,dY,beq_iff_eq,beq_eq_false_iff_ne,ne_eq,d_hasF,d_putF,d_delF,d_hasR5,d_putR5,whos_snocN,whos_snoc0N,recs_snoc0N,flgs_snoc0N,sals_len,sals_cell,beq_iff_eq,beq_eq_false_iff_ne,ne_eq,v1,v100,v101,v102,v103,v104,vs,h1,hsy,sym23,sym131,sym164,sym165,Int.toNat_natCast,hp,Option.bind_some,sal0,sal1,sal2,sal3,sal4,sal5,sal6,sal7,sal8,hil1,hw,hxs,hro,h200,eS,eP,f2,hofe,reduceCtorEq,Bool.false_eq_true,false_implies,implies_true,true_implies,and_self,and_true,true_and])
        all_goals (clear v1 v100 v101 v102 v103 v104 vs h1 hsy hp hF)
        all_goals ((repeat' apply And.intro) <;> intros <;> first
         | trivial
         | contradiction
         | (exact go (by rw [hbad]; simp_all) _ _ _ rfl (by simp_all) (by simp_all))
         | (obtain ⟨oa,ob⟩:=out 7 (by rw [hbad,show decide (lk≤x.known) = false from decide_eq_false (by omega)]; simp_all) (by decide); simp [oa,ob]; done)
         | (obtain ⟨oa,ob⟩:=out 2 (by rw [hbad]; simp_all) (by decide); simp [oa,ob]; done) | (obtain ⟨oa,ob⟩:=out 6 (by rw [hbad]; simp_all) (by decide); simp [oa,ob]; done) | (obtain ⟨oa,ob⟩:=out 7 (by rw [hbad]; simp_all) (by decide); simp [oa,ob]; done) | (obtain ⟨oa,ob⟩:=out 61 (by rw [hbad]; simp_all) (by decide); simp [oa,ob]; done) | (obtain ⟨oa,ob⟩:=out 5 (by rw [hbad]; simp_all) (by decide); simp [oa,ob]; done) | (obtain ⟨oa,ob⟩:=out 1 (by rw [hbad]; simp_all) (by decide); simp [oa,ob]; done)
         | (exfalso; omega)
         | (exfalso; simp_all; done)
         | (simp_all; done))
     ·have hofe : (x.of_ = 0) = False:=eq_false hof
      cases eR : hasR rm x.of_ with
      | false =>
        refine ⟨?_,?_⟩
        all_goals (simp only [lCk0_t,qFA25,qFA24,qFA23,qFA22,qFA21,qFA20,qFA19,qFA18,qFA17,qFA16,qFA15,qFA14,qFA13,qFA12,qFA11,qFA10,qFA9,qFA8,qFA7,qFA6,qFA5,qFA4,qFA3,qFA2,qFA1,qFA0,lCk0_F,lCk0_l,AsksL,GTree.asks,FTree.asks,FactsIn,List.append_nil,List.nil_append,List.cons_append,Option.some.injEq,exists_eq',implies_true,and_self,X.bool,X.den,denL,dX,denSub,denIte,asB,dY,d_hasF,d_putF,d_delF,d_hasR5,d_putR5,whos_snocN,whos_snoc0N,recs_snoc0N,flgs_snoc0N,sals_len,sals_cell,EndsOk,WaysOk,forall_cons,forall_nil,TgtOk,gpair,FactsIn,hold_cons,hold_nil,Option.some.injEq,dZ,X.bool,X.den,denL,dX,denSub,denIte,asB,dY,beq_iff_eq,beq_eq_false_iff_ne,ne_eq,d_hasF,d_putF,d_delF,d_hasR5,d_putR5,whos_snocN,whos_snoc0N,recs_snoc0N,flgs_snoc0N,sals_len,sals_cell,beq_iff_eq,beq_eq_false_iff_ne,ne_eq,v1,v100,v101,v102,v103,v104,vs,h1,hsy,sym23,sym131,sym164,sym165,Int.toNat_natCast,hp,Option.bind_some,sal0,sal1,sal2,sal3,sal4,sal5,sal6,sal7,sal8,hil1,hw,hxs,hro,h200,eS,eR,hofe,reduceCtorEq,Bool.false_eq_true,false_implies,implies_true,true_implies,and_self,and_true,true_and])
        all_goals (clear v1 v100 v101 v102 v103 v104 vs h1 hsy hp hF)
        all_goals ((repeat' apply And.intro) <;> intros <;> first
         | trivial
         | contradiction
         | (exact go (by rw [hbad]; simp_all) _ _ _ rfl (by simp_all) (by simp_all))
         | (obtain ⟨oa,ob⟩:=out 7 (by rw [hbad,show decide (lk≤x.known) = false from decide_eq_false (by omega)]; simp_all) (by decide); simp [oa,ob]; done)
         | (obtain ⟨oa,ob⟩:=out 2 (by rw [hbad]; simp_all) (by decide); simp [oa,ob]; done) | (obtain ⟨oa,ob⟩:=out 6 (by rw [hbad]; simp_all) (by decide); simp [oa,ob]; done) | (obtain ⟨oa,ob⟩:=out 7 (by rw [hbad]; simp_all) (by decide); simp [oa,ob]; done) | (obtain ⟨oa,ob⟩:=out 61 (by rw [hbad]; simp_all) (by decide); simp [oa,ob]; done) | (obtain ⟨oa,ob⟩:=out 5 (by rw [hbad]; simp_all) (by decide); simp [oa,ob]; done) | (obtain ⟨oa,ob⟩:=out 1 (by rw [hbad]; simp_all) (by decide); simp [oa,ob]; done)
         | (exfalso; omega)
         | (exfalso; simp_all; done)
         | (simp_all; done))
      | true =>
        have r3 : den2 (.mat 3) (recsR rm) (whosR [⟨x.of_⟩]) = some (.int .i64 (getR rm x.of_).of_):=by rw [d_atR5,eR]; rfl
        cases eQ : hasR (putR (recOf x) rm) x.of_ with
        | false =>
          have r5 : (getR (putR (recOf x) rm) x.of_).parcel = 0:=by rw [get_noR eQ]
          cases eV : hasF vm x.of_ with
          | false =>
            have f3:=at_noF eV
            refine ⟨?_,?_⟩
            all_goals (simp only [lCk0_t,qFA25,qFA24,qFA23,qFA22,qFA21,qFA20,qFA19,qFA18,qFA17,qFA16,qFA15,qFA14,qFA13,qFA12,qFA11,qFA10,qFA9,qFA8,qFA7,qFA6,qFA5,qFA4,qFA3,qFA2,qFA1,qFA0,lCk0_F,lCk0_l,AsksL,GTree.asks,FTree.asks,FactsIn,List.append_nil,List.nil_append,List.cons_append,Option.some.injEq,exists_eq',implies_true,and_self,X.bool,X.den,denL,dX,denSub,denIte,asB,dY,d_hasF,d_putF,d_delF,d_hasR5,d_putR5,whos_snocN,whos_snoc0N,recs_snoc0N,flgs_snoc0N,sals_len,sals_cell,EndsOk,WaysOk,forall_cons,forall_nil,TgtOk,gpair,FactsIn,hold_cons,hold_nil,Option.some.injEq,dZ,X.bool,X.den,denL,dX,denSub,denIte,asB,dY,beq_iff_eq,beq_eq_false_iff_ne,ne_eq,d_hasF,d_putF,d_delF,d_hasR5,d_putR5,whos_snocN,whos_snoc0N,recs_snoc0N,flgs_snoc0N,sals_len,sals_cell,beq_iff_eq,beq_eq_false_iff_ne,ne_eq,v1,v100,v101,v102,v103,v104,vs,h1,hsy,sym23,sym131,sym164,sym165,Int.toNat_natCast,hp,Option.bind_some,sal0,sal1,sal2,sal3,sal4,sal5,sal6,sal7,sal8,hil1,hw,hxs,hro,h200,eS,eR,eQ,eV,r3,hofe,reduceCtorEq,Bool.false_eq_true,false_implies,implies_true,true_implies,and_self,and_true,true_and])
            all_goals (clear v1 v100 v101 v102 v103 v104 vs h1 hsy hp hF)
            all_goals ((repeat' apply And.intro) <;> intros <;> first
             | trivial
             | contradiction
             | (exact go (by rw [hbad]; simp_all) _ _ _ rfl (by simp_all) (by simp_all))
             | (obtain ⟨oa,ob⟩:=out 7 (by rw [hbad,show decide (lk≤x.known) = false from decide_eq_false (by omega)]; simp_all) (by decide); simp [oa,ob]; done)
             | (obtain ⟨oa,ob⟩:=out 2 (by rw [hbad]; simp_all) (by decide); simp [oa,ob]; done) | (obtain ⟨oa,ob⟩:=out 6 (by rw [hbad]; simp_all) (by decide); simp [oa,ob]; done) | (obtain ⟨oa,ob⟩:=out 7 (by rw [hbad]; simp_all) (by decide); simp [oa,ob]; done) | (obtain ⟨oa,ob⟩:=out 61 (by rw [hbad]; simp_all) (by decide); simp [oa,ob]; done) | (obtain ⟨oa,ob⟩:=out 5 (by rw [hbad]; simp_all) (by decide); simp [oa,ob]; done) | (obtain ⟨oa,ob⟩:=out 1 (by rw [hbad]; simp_all) (by decide); simp [oa,ob]; done)
             | (exfalso; omega)
             | (exfalso; simp_all; done)
             | (simp_all; done))
          | true =>
            have f1:=d_atF1 vm x.of_ eV
            refine ⟨?_,?_⟩
            all_goals (simp only [lCk0_t,qFA25,qFA24,qFA23,qFA22,qFA21,qFA20,qFA19,qFA18,qFA17,qFA16,qFA15,qFA14,qFA13,qFA12,qFA11,qFA10,qFA9,qFA8,qFA7,qFA6,qFA5,qFA4,qFA3,qFA2,qFA1,qFA0,lCk0_F,lCk0_l,AsksL,GTree.asks,FTree.asks,FactsIn,List.append_nil,List.nil_append,List.cons_append,Option.some.injEq,exists_eq',implies_true,and_self,X.bool,X.den,denL,dX,denSub,denIte,asB,dY,d_hasF,d_putF,d_delF,d_hasR5,d_putR5,whos_snocN,whos_snoc0N,recs_snoc0N,flgs_snoc0N,sals_len,sals_cell,EndsOk,WaysOk,forall_cons,forall_nil,TgtOk,gpair,FactsIn,hold_cons,hold_nil,Option.some.injEq,dZ,X.bool,X.den,denL,dX,denSub,denIte,asB,dY,beq_iff_eq,beq_eq_false_iff_ne,ne_eq,d_hasF,d_putF,d_delF,d_hasR5,d_putR5,whos_snocN,whos_snoc0N,recs_snoc0N,flgs_snoc0N,sals_len,sals_cell,beq_iff_eq,beq_eq_false_iff_ne,ne_eq,v1,v100,v101,v102,v103,v104,vs,h1,hsy,sym23,sym131,sym164,sym165,Int.toNat_natCast,hp,Option.bind_some,sal0,sal1,sal2,sal3,sal4,sal5,sal6,sal7,sal8,hil1,hw,hxs,hro,h200,eS,eR,eQ,eV,r3,f1,hofe,reduceCtorEq,Bool.false_eq_true,false_implies,implies_true,true_implies,and_self,and_true,true_and])
            all_goals (clear v1 v100 v101 v102 v103 v104 vs h1 hsy hp hF)
            all_goals ((repeat' apply And.intro) <;> intros <;> first
             | trivial
             | contradiction
             | (exact go (by rw [hbad]; simp_all) _ _ _ rfl (by simp_all) (by simp_all))
             | (obtain ⟨oa,ob⟩:=out 7 (by rw [hbad,show decide (lk≤x.known) = false from decide_eq_false (by omega)]; simp_all) (by decide); simp [oa,ob]; done)
             | (obtain ⟨oa,ob⟩:=out 2 (by rw [hbad]; simp_all) (by decide); simp [oa,ob]; done) | (obtain ⟨oa,ob⟩:=out 6 (by rw [hbad]; simp_all) (by decide); simp [oa,ob]; done) | (obtain ⟨oa,ob⟩:=out 7 (by rw [hbad]; simp_all) (by decide); simp [oa,ob]; done) | (obtain ⟨oa,ob⟩:=out 61 (by rw [hbad]; simp_all) (by decide); simp [oa,ob]; done) | (obtain ⟨oa,ob⟩:=out 5 (by rw [hbad]; simp_all) (by decide); simp [oa,ob]; done) | (obtain ⟨oa,ob⟩:=out 1 (by rw [hbad]; simp_all) (by decide); simp [oa,ob]; done)
             | (exfalso; omega)
             | (exfalso; simp_all; done)
             | (simp_all; done))
        | true =>
          have r4 : den2 (.mat 4) (recsR (putR (recOf x) rm)) (whosR [⟨x.of_⟩]) = some (.int .i64 (getR (putR (recOf x) rm) x.of_).parcel):=by rw [d_atR5,eQ]; rfl
          cases eV : hasF vm x.of_ with
          | false =>
            have f3:=at_noF eV
            refine ⟨?_,?_⟩
            all_goals (simp only [lCk0_t,qFA25,qFA24,qFA23,qFA22,qFA21,qFA20,qFA19,qFA18,qFA17,qFA16,qFA15,qFA14,qFA13,qFA12,qFA11,qFA10,qFA9,qFA8,qFA7,qFA6,qFA5,qFA4,qFA3,qFA2,qFA1,qFA0,lCk0_F,lCk0_l,AsksL,GTree.asks,FTree.asks,FactsIn,List.append_nil,List.nil_append,List.cons_append,Option.some.injEq,exists_eq',implies_true,and_self,X.bool,X.den,denL,dX,denSub,denIte,asB,dY,d_hasF,d_putF,d_delF,d_hasR5,d_putR5,whos_snocN,whos_snoc0N,recs_snoc0N,flgs_snoc0N,sals_len,sals_cell,EndsOk,WaysOk,forall_cons,forall_nil,TgtOk,gpair,FactsIn,hold_cons,hold_nil,Option.some.injEq,dZ,X.bool,X.den,denL,dX,denSub,denIte,asB,dY,beq_iff_eq,beq_eq_false_iff_ne,ne_eq,d_hasF,d_putF,d_delF,d_hasR5,d_putR5,whos_snocN,whos_snoc0N,recs_snoc0N,flgs_snoc0N,sals_len,sals_cell,beq_iff_eq,beq_eq_false_iff_ne,ne_eq,v1,v100,v101,v102,v103,v104,vs,h1,hsy,sym23,sym131,sym164,sym165,Int.toNat_natCast,hp,Option.bind_some,sal0,sal1,sal2,sal3,sal4,sal5,sal6,sal7,sal8,hil1,hw,hxs,hro,h200,eS,eR,eQ,eV,r3,hofe,r4,reduceCtorEq,Bool.false_eq_true,false_implies,implies_true,true_implies,and_self,and_true,true_and])
            all_goals (clear v1 v100 v101 v102 v103 v104 vs h1 hsy hp hF)
            all_goals ((repeat' apply And.intro) <;> intros <;> first
             | trivial
             | contradiction
             | (exact go (by rw [hbad]; simp_all) _ _ _ rfl (by simp_all) (by simp_all))
             | (obtain ⟨oa,ob⟩:=out 7 (by rw [hbad,show decide (lk≤x.known) = false from decide_eq_false (by omega)]; simp_all) (by decide); simp [oa,ob]; done)
             | (obtain ⟨oa,ob⟩:=out 2 (by rw [hbad]; simp_all) (by decide); simp [oa,ob]; done) | (obtain ⟨oa,ob⟩:=out 6 (by rw [hbad]; simp_all) (by decide); simp [oa,ob]; done) | (obtain ⟨oa,ob⟩:=out 7 (by rw [hbad]; simp_all) (by decide); simp [oa,ob]; done) | (obtain ⟨oa,ob⟩:=out 61 (by rw [hbad]; simp_all) (by decide); simp [oa,ob]; done) | (obtain ⟨oa,ob⟩:=out 5 (by rw [hbad]; simp_all) (by decide); simp [oa,ob]; done) | (obtain ⟨oa,ob⟩:=out 1 (by rw [hbad]; simp_all) (by decide); simp [oa,ob]; done)
             | (exfalso; omega)
             | (exfalso; simp_all; done)
             | (simp_all; done))
          | true =>
            have f1:=d_atF1 vm x.of_ eV
            refine ⟨?_,?_⟩
            all_goals (simp only [lCk0_t,qFA25,qFA24,qFA23,qFA22,qFA21,qFA20,qFA19,qFA18,qFA17,qFA16,qFA15,qFA14,qFA13,qFA12,qFA11,qFA10,qFA9,qFA8,qFA7,qFA6,qFA5,qFA4,qFA3,qFA2,qFA1,qFA0,lCk0_F,lCk0_l,AsksL,GTree.asks,FTree.asks,FactsIn,List.append_nil,List.nil_append,List.cons_append,Option.some.injEq,exists_eq',implies_true,and_self,X.bool,X.den,denL,dX,denSub,denIte,asB,dY,d_hasF,d_putF,d_delF,d_hasR5,d_putR5,whos_snocN,whos_snoc0N,recs_snoc0N,flgs_snoc0N,sals_len,sals_cell,EndsOk,WaysOk,forall_cons,forall_nil,TgtOk,gpair,FactsIn,hold_cons,hold_nil,Option.some.injEq,dZ,X.bool,X.den,denL,dX,denSub,denIte,asB,dY,beq_iff_eq,beq_eq_false_iff_ne,ne_eq,d_hasF,d_putF,d_delF,d_hasR5,d_putR5,whos_snocN,whos_snoc0N,recs_snoc0N,flgs_snoc0N,sals_len,sals_cell,beq_iff_eq,beq_eq_false_iff_ne,ne_eq,v1,v100,v101,v102,v103,v104,vs,h1,hsy,sym23,sym131,sym164,sym165,Int.toNat_natCast,hp,Option.bind_some,sal0,sal1,sal2,sal3,sal4,sal5,sal6,sal7,sal8,hil1,hw,hxs,hro,h200,eS,eR,eQ,eV,r3,f1,hofe,r4,reduceCtorEq,Bool.false_eq_true,false_implies,implies_true,true_implies,and_self,and_true,true_and])
            all_goals (clear v1 v100 v101 v102 v103 v104 vs h1 hsy hp hF)
            all_goals ((repeat' apply And.intro) <;> intros <;> first
             | trivial
             | contradiction
             | (exact go (by rw [hbad]; simp_all) _ _ _ rfl (by simp_all) (by simp_all))
             | (obtain ⟨oa,ob⟩:=out 7 (by rw [hbad,show decide (lk≤x.known) = false from decide_eq_false (by omega)]; simp_all) (by decide); simp [oa,ob]; done)
             | (obtain ⟨oa,ob⟩:=out 2 (by rw [hbad]; simp_all) (by decide); simp [oa,ob]; done) | (obtain ⟨oa,ob⟩:=out 6 (by rw [hbad]; simp_all) (by decide); simp [oa,ob]; done) | (obtain ⟨oa,ob⟩:=out 7 (by rw [hbad]; simp_all) (by decide); simp [oa,ob]; done) | (obtain ⟨oa,ob⟩:=out 61 (by rw [hbad]; simp_all) (by decide); simp [oa,ob]; done) | (obtain ⟨oa,ob⟩:=out 5 (by rw [hbad]; simp_all) (by decide); simp [oa,ob]; done) | (obtain ⟨oa,ob⟩:=out 1 (by rw [hbad]; simp_all) (by decide); simp [oa,ob]; done)
             | (exfalso; omega)
             | (exfalso; simp_all; done)
             | (simp_all; done))
noncomputable def cCks_con : Con:={ f:=14,args:=[salsArg 0 0],N:=1,M:=1,pre:=[(.app 23 [.var 1],true)],out:=.tuple [.sint .i64 (.ite (.op2 .eq (.app 164 [.var 1]) (.num 0)) (.num 0) (.app 165 [.var 1])),.sint .i64 (.app 164 [.var 1])],news:=[] }
noncomputable def cCks_call : Env→CallL:=fun E => acallAll E (evH E (LS E) ((fun E => oneH 34 (hooks [(3,lCk_D.hook E.facts ck_vs)])) E) 9)
noncomputable def cCks_t : GTree:=(.fork qFA12 (.leaf [[]]) (.leaf [[]]))
noncomputable def cCks_l : List (List (X×Bool)×Option Pairs):=[([(qFA12,true),(.app 23 [.var 1],true)],some [(.ite qFA12 (.num 0) qFA22,.num 0),(qFA23,.num 0)]),
 ([(qFA12,false),(.app 23 [.var 1],true)],some [(.ite qFA12 (.num 0) qFA22,qFA22),(qFA23,qFA23)])]
theorem cCks_w (r : Rho) : cCks_con.fn.ways cCks_call E0 r cCks_con.pre cCks_t = some cCks_l:=by kernel_rfl
theorem ck_H {r : Rho} {l : List Sal9} (h1 : r.val 1 = some (salsR l)) (hsy : r.sym = sy) (hsh : shortB l = true) (F : List (X×Bool)) : LoopsOk (E0.with F r) (oneH 34 (hooks [(3,lCk_D.hook (E0.with F r).facts ck_vs)])):=by
 refine loops_all (n:=1) (fun f fn h => h) (by kernel_rfl) fun i hi => ?_
 obtain rfl : i = 0:=by omega
 rw [hooks_hit (show keyOf (loopAt (E0.with F r).P 34 0) = 3 by kernel_rfl)]
 refine hook_ok (E₀:=E0) (run:=lCk_run) (ρ:=r) (Inv:=lCk_Inv l) (μ:=lCk_mu l) E0_ok lCk_ok (fun F r' h => ?_) (fun hp => ⟨lCk_step h1 hsy hsh,[.int .i64 0,recsR [],flgsR [],flgsR [],.int .i64 0],?_,rfl,0,Nat.zero_le _,rfl,fun k hk => by omega⟩)
 ·exact bodyRun_ok E0_ok (LS_ok F (h.trans hsy)) fun _ _ => noLoop_ok
 ·simp only [ck_vs,X.bool,X.den,denL,dX,denSub,denIte,asB,dY]
  rfl
theorem sals_open {r : Rho} {σ : Sig} {w : World} {l : List (Nat×ABlock)} {N : Nat} {b : X} {own : Bool} {t : TypeId} {Wr : Nat→Prop} (hrel : (memOf l N).rel Tryz.prog σ w Wr) (hg : (buildH l).get 0 = some (.rows 9 salSch b (.var 1) own t)) (hρ : σ.rho = r) : ∃ ps : List Sal9,r.val 1 = some (salsR ps):=by
 obtain ⟨ps,h⟩:=sals_at hrel hg
 rw [hρ] at h
 exact ⟨ps,h⟩
theorem cCks_cok : cCks_con.Ok Tryz.prog sy:=by
 intro r σ w us hsy hρ hpre hrel hins
 obtain ⟨l,h1⟩:=sals_open hrel rfl hρ
 have hsh : shortB l = true:=by
  have:=hpre.1
  simpa only [X.bool,X.den,denL,dX,denSub,denIte,asB,dY,h1,hsy,sym23,Option.some.injEq,Value.bool.injEq] using this
 refine con_of (E:=E0) E0_ok E0_glob (sy:=sy) (fun F => LS_ok F hsy) (fun F => ck_H h1 hsy hsh F) (cCks_w r) hρ hpre hrel hins ?_ ?_
 ·simp only [cCks_con,cCks_t,qFA25,qFA24,qFA23,qFA22,qFA21,qFA20,qFA19,qFA18,qFA17,qFA16,qFA15,qFA14,qFA13,qFA12,qFA11,qFA10,qFA9,qFA8,qFA7,qFA6,qFA5,qFA4,qFA3,qFA2,qFA1,qFA0,AsksL,GTree.asks,FTree.asks,FactsIn,List.append_nil,List.nil_append,List.cons_append,Option.some.injEq,exists_eq',implies_true,and_self,X.bool,X.den,denL,dX,denSub,denIte,asB,dY,d_hasF,d_putF,d_delF,d_hasR5,d_putR5,whos_snocN,whos_snoc0N,recs_snoc0N,flgs_snoc0N,sals_len,sals_cell,h1,hsy,sym23,sym131,sym164,sym165]
  try simp
 ·by_cases he : chkE l = 0
  all_goals (simp only [cCks_l,qFA25,qFA24,qFA23,qFA22,qFA21,qFA20,qFA19,qFA18,qFA17,qFA16,qFA15,qFA14,qFA13,qFA12,qFA11,qFA10,qFA9,qFA8,qFA7,qFA6,qFA5,qFA4,qFA3,qFA2,qFA1,qFA0,EndsOk,WaysOk,forall_cons,forall_nil,TgtOk,gpair,FactsIn,hold_cons,hold_nil,Option.some.injEq,dZ,X.bool,X.den,denL,dX,denSub,denIte,asB,dY,beq_iff_eq,beq_eq_false_iff_ne,ne_eq,d_hasF,d_putF,d_delF,d_hasR5,d_putR5,whos_snocN,whos_snoc0N,recs_snoc0N,flgs_snoc0N,sals_len,sals_cell,beq_iff_eq,beq_eq_false_iff_ne,ne_eq,h1,hsy,sym23,sym131,sym164,sym165])
  ·rw [he]
   simp
  ·have hb : (chkE l == 0) = false:=by simpa using he
   rw [hb]
   simp [he]
end Go.Proofs.YtckefonlahokkaaGreatDoor.Zs
