/-
  Contracts of the reference: why a record is refused behind others, and whether it counts.
-/
import Derived.Test.YtckefonlahokkaaGreatDoorVaRefA
import Derived.KernelRfl
set_option linter.unusedSimpArgs false
set_option linter.unusedVariables false
namespace Go.Proofs.YtckefonlahokkaaGreatDoor.Zs
open Go
def rhd_vs : List X:=[.num 0,.boo false,.boo false]
def rct_vs : List X:=[.num 0]
noncomputable def lHd_D : LoopD:={ N:=100,M:=103,size:=sizeOfF 57,reads:=[(0,.rows 3 hdSch (.var 0) (.var 1) false 78),(1,.cells [.sint .i64 (.var 3),.sint .i64 (.var 4),.sint .i64 (.var 5)] 78)],pats:=[{ slots:=[(0,.slx 0 3 (.var 0) (.num 0) (.op1 .len (.var 1)) (.var 2)),(3,.ptr 1 0),(5,.sbool (.var 101)),(6,.sbool (.var 102)),(7,.sint .i64 (.var 100))],heap:=[] }],exits:=[(.exit 0,{ slots:=[(0,.slx 0 3 (.var 0) (.num 0) (.op1 .len (.var 1)) (.var 2)),(3,.ptr 1 0),(5,.sbool (.app 184 [.var 1,.var 5])),(6,.sbool (.app 185 [.var 1,.var 5]))],heap:=[],guard:=.op1 .not (.app 186 [.var 1,.var 3]) }),(.ret,{ slots:=[(4,.int .i64 6)],heap:=[],guard:=.app 186 [.var 1,.var 3] })],own:=[],pre:=[(.op2 .lt (.num 1010) (.op1 .len (.var 1)),false)],dfs:=[] }
noncomputable def lHd_run : Env→AF→ASt→Option (List Out):=bodyRun noL 6 (fun _ => noLoop) (loopAt Tryz.prog 57 0)
def lHd0_F : List (X×Bool):=[(.op2 .lt (.var 100) (.num 0),false)]
def qVB0 : X:=.op1 (.wrap .i64) (.op2 .sub (.op1 .len (.var 1)) (.num 1))
def qVB1 : X:=.op1 .len (.var 1)
def qVB2 : X:=.app 181 [(.var 1),(.var 3),(.var 4),(.var 5)]
def qVB3 : X:=.app 186 [(.var 1),(.var 3)]
def qVB4 : X:=.op1 (.wrap .i64) (.op2 .add (.var 100) (.num 1))
def qVB5 : X:=.op2 .lt (.num 1010) qVB1
def qVB6 : X:=.op2 .eq (.cell 0 (.var 1) (.var 100)) (.var 3)
def qVB7 : X:=.op2 .eq (.var 5) (.num 0)
def qVB8 : X:=.op2 .lt (.var 100) qVB1
def qVB9 : X:=.op2 .lt (.var 100) (.num 0)
def qVB10 : X:=.cell 2 (.var 1) (.var 100)
def qVB11 : X:=.op2 .lt (.num 0) qVB1
def qVB12 : X:=.app 184 [(.var 1),(.var 5)]
def qVB13 : X:=.op2 .lt (.var 4) (.cell 1 (.var 1) qVB0)
def qVB14 : X:=.app 187 [(.var 1),(.var 3),(.var 6)]
def qVB15 : X:=.app 185 [(.var 1),(.var 5)]
def qVB16 : X:=.op2 .lt qVB0 (.num 0)
noncomputable def lHd0_t : FTree:=(.fork qVB8 (.fork qVB6 (.leaf [.leave 1 []]) (.fork (.var 101) (.fork (.var 102) (.leaf [.again 0 []]) (.leaf [.again 0 []])) (.fork (.op2 .eq qVB10 (.num 0)) (.fork (.var 102) (.leaf [.again 0 []]) (.leaf [.again 0 []])) (.fork (.var 102) (.leaf [.again 0 []]) (.leaf [.again 0 []]))))) (.leaf [.leave 0 []]))
noncomputable def lHd0_l : List (List (X×Bool)×Option (List (Tgt×Pairs))):=[([(qVB6,true),(qVB8,true),(qVB9,false)],some [(.leave 1 [],[(qVB3,.boo true)])]),
 ([(.var 102,true),(.var 101,true),(qVB6,false),(qVB8,true),(qVB9,false)],some [(.again 0 [],[(.var 101,.boo true),(.var 102,.boo true),(.var 100,qVB4)])]),
 ([(.var 102,false),(.var 101,true),(qVB6,false),(qVB8,true),(qVB9,false)],some [(.again 0 [],[(.var 101,.boo true),(.var 102,.op2 .eq qVB10 (.var 5)),(.var 100,qVB4)])]),
 ([(.var 102,true),(.op2 .eq qVB10 (.num 0),true),(.var 101,false),(qVB6,false),(qVB8,true),(qVB9,false)],some [(.again 0 [],[(.var 101,.op2 .eq (.cell 0 (.var 1) (.var 100)) (.var 5)),(.var 102,.boo true),(.var 100,qVB4)])]),
 ([(.var 102,false),(.op2 .eq qVB10 (.num 0),true),(.var 101,false),(qVB6,false),(qVB8,true),(qVB9,false)],some [(.again 0 [],[(.var 101,.op2 .eq (.cell 0 (.var 1) (.var 100)) (.var 5)),(.var 102,.op2 .eq qVB10 (.var 5)),(.var 100,qVB4)])]),
 ([(.var 102,true),(.op2 .eq qVB10 (.num 0),false),(.var 101,false),(qVB6,false),(qVB8,true),(qVB9,false)],some [(.again 0 [],[(.var 101,.boo false),(.var 102,.boo true),(.var 100,qVB4)])]),
 ([(.var 102,false),(.op2 .eq qVB10 (.num 0),false),(.var 101,false),(qVB6,false),(qVB8,true),(qVB9,false)],some [(.again 0 [],[(.var 101,.boo false),(.var 102,.op2 .eq qVB10 (.var 5)),(.var 100,qVB4)])]),
 ([(qVB8,false),(qVB9,false)],some [(.leave 0 [],[(qVB12,.var 101),(qVB15,.var 102),(.op1 .not qVB3,.boo true)])])]
theorem lHd0_w (r : Rho) : lHd_D.ways lHd_run E0 r 0 lHd0_F lHd0_t = some lHd0_l:=by kernel_rfl
theorem lHd_ok : lHd_D.ok = true:=by kernel_rfl
theorem nmd_snoc (h : List Hd3) (y : Hd3) (o : Int) : nmdH (h ++ [y]) o = (nmdH h o || (y.of_ == 0 && y.id == o)):=by simp [nmdH]
theorem twc_snoc (h : List Hd3) (y : Hd3) (o : Int) : twcH (h ++ [y]) o = (twcH h o || y.of_ == o):=by simp [twcH]
theorem has_snoc (h : List Hd3) (y : Hd3) (o : Int) : hasH (h ++ [y]) o = (hasH h o || y.id == o):=by simp [hasH]
theorem has_at {h : List Hd3} {i : Nat} {y : Hd3} (hp : h[i]? = some y) : hasH h y.id = true:=List.any_eq_true.2 ⟨y,List.mem_of_getElem? hp,by simp⟩
def lHd_Inv (h : List Hd3) (d o : Int) (j : Nat) (vals : List Value) : Prop:=j = 0∧∃ i : Nat,i≤h.length∧vals = [.int .i64 (i : Int),.bool (nmdH (h.take i) o),.bool (twcH (h.take i) o)]∧hasH (h.take i) d = false
def lHd_mu (h : List Hd3) (_ : Nat) (vals : List Value) : Nat:=h.length - (vI (vals.getD 0 default)).toNat
set_option maxHeartbeats 1000000 in
theorem lHd_step {ρ : Rho} {h : List Hd3} {d kn o : Int} {k3 k4 k5 : IntKind} (h1 : ρ.val 1 = some (hdsR h)) (h3 : ρ.val 3 = some (.int k3 d)) (h4 : ρ.val 4 = some (.int k4 kn)) (h5 : ρ.val 5 = some (.int k5 o)) (hsy : ρ.sym = sy) (hmax : (h.length : Int)≤1010) (j : Nat) (vals : List Value) (hI : lHd_Inv h d o j vals) : StepOk lHd_D lHd_run E0 ρ (lHd_Inv h d o) (lHd_mu h) j vals:=by
 obtain ⟨rfl,i,hi,rfl,hno⟩:=hI
 have hN : lHd_D.N = 100:=rfl
 have v1 : (ρ.ext lHd_D.N [.int .i64 (i : Int),.bool (nmdH (h.take i) o),.bool (twcH (h.take i) o)]).val 1 = some (hdsR h):=by rw [ext_low _ _ _ _ (by rw [hN]; omega)]; exact h1
 have v3 : (ρ.ext lHd_D.N [.int .i64 (i : Int),.bool (nmdH (h.take i) o),.bool (twcH (h.take i) o)]).val 3 = some (.int k3 d):=by rw [ext_low _ _ _ _ (by rw [hN]; omega)]; exact h3
 have v4 : (ρ.ext lHd_D.N [.int .i64 (i : Int),.bool (nmdH (h.take i) o),.bool (twcH (h.take i) o)]).val 4 = some (.int k4 kn):=by rw [ext_low _ _ _ _ (by rw [hN]; omega)]; exact h4
 have v5 : (ρ.ext lHd_D.N [.int .i64 (i : Int),.bool (nmdH (h.take i) o),.bool (twcH (h.take i) o)]).val 5 = some (.int k5 o):=by rw [ext_low _ _ _ _ (by rw [hN]; omega)]; exact h5
 have v100 : (ρ.ext lHd_D.N [.int .i64 (i : Int),.bool (nmdH (h.take i) o),.bool (twcH (h.take i) o)]).val 100 = some (.int .i64 (i : Int)):=by rw [ext_high _ _ _ _ (by rw [hN]; omega)]; rfl
 have v101 : (ρ.ext lHd_D.N [.int .i64 (i : Int),.bool (nmdH (h.take i) o),.bool (twcH (h.take i) o)]).val 101 = some (.bool (nmdH (h.take i) o)):=by rw [ext_high _ _ _ _ (by rw [hN]; omega)]; rfl
 have v102 : (ρ.ext lHd_D.N [.int .i64 (i : Int),.bool (nmdH (h.take i) o),.bool (twcH (h.take i) o)]).val 102 = some (.bool (twcH (h.take i) o)):=by rw [ext_high _ _ _ _ (by rw [hN]; omega)]; rfl
 have vs : (ρ.ext lHd_D.N [.int .i64 (i : Int),.bool (nmdH (h.take i) o),.bool (twcH (h.take i) o)]).sym = sy:=hsy
 have hF : FactsIn (ρ.ext lHd_D.N [.int .i64 (i : Int),.bool (nmdH (h.take i) o),.bool (twcH (h.take i) o)]) lHd0_F:=by
  simp only [lHd0_F,FactsIn,X.bool,X.den,denL,dX,denSub,denIte,asB,dY,sals_len,sals_cell,sals_lsub,hds_len,hds_cell,hds_lsub,hds_snocN,hds_snoc0N,snoc_nil,heads_len,v100,Option.some.injEq,Value.bool.injEq,decide_eq_false_iff_not,and_true]
  omega
 suffices both : AsksL (ρ.ext lHd_D.N [.int .i64 (i : Int),.bool (nmdH (h.take i) o),.bool (twcH (h.take i) o)]) (lHd0_t.asks lHd0_F)∧WaysOk lHd_D ρ (lHd_Inv h d o) (lHd_mu h) 0 [.int .i64 (i : Int),.bool (nmdH (h.take i) o),.bool (twcH (h.take i) o)] lHd0_l from step_of_ways (lHd0_w _) hF both.1.ok both.2
 cases hp : h[i]? with
 | none =>
   have hge:=List.getElem?_eq_none_iff.1 hp
   have hge' : ¬ (i : Int) < h.length:=by omega
   have hl : h.take i = h:=List.take_of_length_le hge
   rw [hl] at hno
   refine ⟨?_,?_⟩
   ·simp only [lHd0_t,qVB16,qVB15,qVB14,qVB13,qVB12,qVB11,qVB10,qVB9,qVB8,qVB7,qVB6,qVB5,qVB4,qVB3,qVB2,qVB1,qVB0,lHd0_F,AsksL,GTree.asks,FTree.asks,FactsIn,List.append_nil,List.nil_append,List.cons_append,Option.some.injEq,exists_eq',implies_true,and_self,X.bool,X.den,denL,dX,denSub,denIte,asB,dY,sals_len,sals_cell,sals_lsub,hds_len,hds_cell,hds_lsub,hds_snocN,hds_snoc0N,snoc_nil,heads_len,v1,v3,v4,v5,v100,v101,v102,vs,sym181,sym182,sym184,sym185,sym186,sym187,Int.toNat_natCast,hp,hge']
    try simp
   ·simp only [lHd0_l,qVB16,qVB15,qVB14,qVB13,qVB12,qVB11,qVB10,qVB9,qVB8,qVB7,qVB6,qVB5,qVB4,qVB3,qVB2,qVB1,qVB0,EndsOk,WaysOk,forall_cons,forall_nil,TgtOk,gpair,FactsIn,hold_cons,hold_nil,Option.some.injEq,dZ,X.bool,X.den,denL,dX,denSub,denIte,asB,dY,beq_iff_eq,beq_eq_false_iff_ne,ne_eq,sals_len,sals_cell,sals_lsub,hds_len,hds_cell,hds_lsub,hds_snocN,hds_snoc0N,snoc_nil,heads_len,beq_iff_eq,beq_eq_false_iff_ne,ne_eq,v1,v3,v4,v5,v100,v101,v102,vs,h1,h3,h4,h5,hsy,sym181,sym182,sym184,sym185,sym186,sym187,Int.toNat_natCast,hp,hge',reduceCtorEq,Bool.false_eq_true,false_implies,implies_true,true_implies,and_self,and_true,true_and]
    try simp [hl,hno]
 | some y =>
   have hil : i < h.length:=(List.getElem?_eq_some_iff.1 hp).1
   have hil1 : (i : Int) < h.length:=by omega
   have hw : IntKind.i64.wrap ((i : Int) + 1) = ((i + 1 : Nat) : Int):=by rw [IntWalk.i64_in _ (by omega)]; rfl
   have ht : h.take (i + 1) = h.take i ++ [y]:=by rw [List.take_add_one,hp]; rfl
   have hit : y.id = d→hasH h d = true:=fun e => by rw [← e]; exact has_at hp
   have go : ∀ a b,y.id≠d→a = nmdH (h.take (i + 1)) o→b = twcH (h.take (i + 1)) o→∃ vals',((ρ.ext lHd_D.N vals').val 101 = some (.bool a)∧(ρ.ext lHd_D.N vals').val 102 = some (.bool b)∧(ρ.ext lHd_D.N vals').val 100 = some (.int .i64 ((i + 1 : Nat) : Int)))∧lHd_Inv h d o 0 vals'∧lHd_mu h 0 vals' < lHd_mu h 0 [.int .i64 (i : Int),.bool (nmdH (h.take i) o),.bool (twcH (h.take i) o)]:=by
    rintro a b hne rfl rfl
    refine ⟨[.int .i64 ((i + 1 : Nat) : Int),.bool (nmdH (h.take (i + 1)) o),.bool (twcH (h.take (i + 1)) o)],⟨?_,?_,?_⟩,⟨rfl,i + 1,by omega,rfl,?_⟩,by simp [lHd_mu,vI]; omega⟩
    ·rw [ext_high _ _ _ _ (by rw [hN]; omega)]; rfl
    ·rw [ext_high _ _ _ _ (by rw [hN]; omega)]; rfl
    ·rw [ext_high _ _ _ _ (by rw [hN]; omega)]; rfl
    ·rw [ht,has_snoc,hno]; simpa using hne
   rw [ht,nmd_snoc,twc_snoc] at go
   generalize nmdH (h.take i) o = na at *
   generalize twcH (h.take i) o = ta at *
   refine ⟨?_,?_⟩
   all_goals (simp only [lHd0_t,qVB16,qVB15,qVB14,qVB13,qVB12,qVB11,qVB10,qVB9,qVB8,qVB7,qVB6,qVB5,qVB4,qVB3,qVB2,qVB1,qVB0,lHd0_F,lHd0_l,AsksL,GTree.asks,FTree.asks,FactsIn,List.append_nil,List.nil_append,List.cons_append,Option.some.injEq,exists_eq',implies_true,and_self,X.bool,X.den,denL,dX,denSub,denIte,asB,dY,sals_len,sals_cell,sals_lsub,hds_len,hds_cell,hds_lsub,hds_snocN,hds_snoc0N,snoc_nil,heads_len,EndsOk,WaysOk,forall_cons,forall_nil,TgtOk,gpair,FactsIn,hold_cons,hold_nil,Option.some.injEq,dZ,X.bool,X.den,denL,dX,denSub,denIte,asB,dY,beq_iff_eq,beq_eq_false_iff_ne,ne_eq,sals_len,sals_cell,sals_lsub,hds_len,hds_cell,hds_lsub,hds_snocN,hds_snoc0N,snoc_nil,heads_len,beq_iff_eq,beq_eq_false_iff_ne,ne_eq,v1,v3,v4,v5,v100,v101,v102,vs,h1,h3,h4,h5,hsy,sym181,sym182,sym184,sym185,sym186,sym187,Int.toNat_natCast,hp,Option.bind_some,hd0,hd1,hd2,hil1,hw,reduceCtorEq,Bool.false_eq_true,false_implies,implies_true,true_implies,and_self,and_true,true_and])
   all_goals (clear v1 v3 v4 v5 v100 v101 v102 vs h1 h3 h4 h5 hsy hF)
   all_goals ((repeat' apply And.intro) <;> intros <;> first
    | trivial
    | (exact hit (by assumption))
    | (refine go _ _ (by assumption) ?_ ?_ <;> simp_all)
    | (exfalso; omega)
    | (simp_all; done))
noncomputable def rHd_con : Con:={ f:=57,args:=[hdsArg 0 0,.agg (hdLeaves 3)],N:=1,M:=1,pre:=[(.op2 .lt (.num 1010) (.op1 .len (.var 1)),false)],out:=.sint .i64 (.app 181 [.var 1,.var 3,.var 4,.var 5]),news:=[] }
noncomputable def rHd_call : Env→CallL:=fun E => acallAll E (evH E (noL E) ((fun E => oneH 57 (hooks [(4,lHd_D.hook E.facts rhd_vs)])) E) 9)
noncomputable def rHd_t : GTree:=(.fork qVB3 (.leaf [[]]) (.fork qVB11 (.fork qVB16 .bad (.fork (.op2 .lt qVB0 qVB1) (.fork qVB13 (.leaf [[]]) (.fork qVB7 (.leaf [[]]) (.fork qVB12 (.fork qVB15 (.leaf [[]]) (.leaf [[]])) (.leaf [[]])))) .bad)) (.fork qVB7 (.leaf [[]]) (.fork qVB12 (.fork qVB15 (.leaf [[]]) (.leaf [[]])) (.leaf [[]])))))
noncomputable def rHd_l : List (List (X×Bool)×Option Pairs):=[([(qVB3,true),(qVB5,false)],some [(qVB2,.num 6)]),
 ([(qVB16,true),(qVB11,true),(qVB3,false),(qVB5,false)],none),
 ([(qVB13,true),(.op2 .lt qVB0 qVB1,true),(qVB16,false),(qVB11,true),(qVB3,false),(qVB5,false)],some [(qVB2,.num 7)]),
 ([(qVB7,true),(qVB13,false),(.op2 .lt qVB0 qVB1,true),(qVB16,false),(qVB11,true),(qVB3,false),(qVB5,false)],some [(qVB2,.num 0)]),
 ([(qVB15,true),(qVB12,true),(qVB7,false),(qVB13,false),(.op2 .lt qVB0 qVB1,true),(qVB16,false),(qVB11,true),(qVB3,false),(qVB5,false)],some [(qVB2,.num 6)]),
 ([(qVB15,false),(qVB12,true),(qVB7,false),(qVB13,false),(.op2 .lt qVB0 qVB1,true),(qVB16,false),(qVB11,true),(qVB3,false),(qVB5,false)],some [(qVB2,.num 0)]),
 ([(qVB12,false),(qVB7,false),(qVB13,false),(.op2 .lt qVB0 qVB1,true),(qVB16,false),(qVB11,true),(qVB3,false),(qVB5,false)],some [(qVB2,.num 5)]),
 ([(.op2 .lt qVB0 qVB1,false),(qVB16,false),(qVB11,true),(qVB3,false),(qVB5,false)],none),
 ([(qVB7,true),(qVB11,false),(qVB3,false),(qVB5,false)],some [(qVB2,.num 0)]),
 ([(qVB15,true),(qVB12,true),(qVB7,false),(qVB11,false),(qVB3,false),(qVB5,false)],some [(qVB2,.num 6)]),
 ([(qVB15,false),(qVB12,true),(qVB7,false),(qVB11,false),(qVB3,false),(qVB5,false)],some [(qVB2,.num 0)]),
 ([(qVB12,false),(qVB7,false),(qVB11,false),(qVB3,false),(qVB5,false)],some [(qVB2,.num 5)])]
theorem rHd_w (r : Rho) : rHd_con.fn.ways rHd_call E0 r rHd_con.pre rHd_t = some rHd_l:=by kernel_rfl
theorem lHd_H {ρ : Rho} {h : List Hd3} {d kn o : Int} {k3 k4 k5 : IntKind} (h1 : ρ.val 1 = some (hdsR h)) (h3 : ρ.val 3 = some (.int k3 d)) (h4 : ρ.val 4 = some (.int k4 kn)) (h5 : ρ.val 5 = some (.int k5 o)) (hsy : ρ.sym = sy) (hmax : (h.length : Int)≤1010) (F : List (X×Bool)) : LoopsOk (E0.with F ρ) (oneH 57 (hooks [(4,lHd_D.hook (E0.with F ρ).facts rhd_vs)])):=by
 refine loops_all (n:=1) (fun f fn h => h) (by kernel_rfl) fun i hi => ?_
 obtain rfl : i = 0:=by omega
 rw [hooks_hit (show keyOf (loopAt (E0.with F ρ).P 57 0) = 4 by kernel_rfl)]
 refine hook_ok (E₀:=E0) (run:=lHd_run) (ρ:=ρ) (Inv:=lHd_Inv h d o) (μ:=lHd_mu h) E0_ok lHd_ok (fun F r' h => ?_) (fun hp => ⟨lHd_step h1 h3 h4 h5 hsy hmax,[.int .i64 0,.bool false,.bool false],?_,rfl,0,Nat.zero_le _,rfl,rfl⟩)
 ·exact bodyRun_ok E0_ok (noL_ok F (h.trans hsy)) fun _ _ => noLoop_ok
 ·simp only [rhd_vs,X.bool,X.den,denL,dX,denSub,denIte,asB,dY,sals_len,sals_cell,sals_lsub,hds_len,hds_cell,hds_lsub,hds_snocN,hds_snoc0N,snoc_nil,heads_len]
theorem last_at {h : List Hd3} (hl : 0 < (h.length : Int)) (hm : (h.length : Int)≤1010) : IntKind.i64.wrap ((h.length : Int) - 1) = ((h.length - 1 : Nat) : Int)∧∃ y,h[h.length - 1]? = some y∧lastH h = y.known:=by
 refine ⟨?_,h[h.length - 1]'(by omega),List.getElem?_eq_getElem _,?_⟩
 ·rw [IntWalk.i64_in _ (by omega)]; omega
 ·unfold lastH
  rw [List.getElem?_eq_getElem (show h.length - 1 < h.length by omega)]
set_option maxHeartbeats 1000000 in
theorem rHd_cok : rHd_con.Ok Tryz.prog sy:=by
 intro r σ w us hsy hρ hpre hrel hins
 obtain ⟨h,h1⟩:=hds_at hrel (i:=0) rfl
 obtain ⟨u0,us,rfl,g0,hi⟩:=ins_cons hins
 obtain ⟨u1,us,rfl,g1,hi2⟩:=ins_cons hi
 obtain ⟨p,kp,rfl,hq⟩:=hd_agg g1
 rw [hρ] at h1 hq
 have h1 : r.val 1 = some (hdsR h):=h1
 have h3:=hq.h0
 have h4:=hq.h1
 have h5:=hq.h2
 have hmax : (h.length : Int)≤1010:=by
  have:=hpre.1
  simp only [X.bool,X.den,denL,dX,denSub,denIte,asB,dY,sals_len,sals_cell,sals_lsub,hds_len,hds_cell,hds_lsub,hds_snocN,hds_snoc0N,snoc_nil,heads_len,h1,Option.some.injEq,Value.bool.injEq,decide_eq_false_iff_not] at this
  omega
 refine con_of (E:=E0) E0_ok E0_glob (sy:=sy) (fun F => noL_ok F hsy) (fun F => lHd_H h1 h3 h4 h5 hsy hmax F) (rHd_w r) hρ hpre hrel hins ?_ ?_
 ·by_cases hl : 0 < (h.length : Int)
  ·obtain ⟨hw,y,hy,hk⟩:=last_at hl hmax
   have hz : ¬ ((h.length - 1 : Nat) : Int) < 0:=by omega
   have hz' : ((h.length - 1 : Nat) : Int) < h.length:=by omega
   simp only [rHd_con,rHd_t,qVB16,qVB15,qVB14,qVB13,qVB12,qVB11,qVB10,qVB9,qVB8,qVB7,qVB6,qVB5,qVB4,qVB3,qVB2,qVB1,qVB0,AsksL,GTree.asks,FTree.asks,FactsIn,List.append_nil,List.nil_append,List.cons_append,Option.some.injEq,exists_eq',implies_true,and_self,X.bool,X.den,denL,dX,denSub,denIte,asB,dY,sals_len,sals_cell,sals_lsub,hds_len,hds_cell,hds_lsub,hds_snocN,hds_snoc0N,snoc_nil,heads_len,h1,h3,h4,h5,hsy,sym181,sym182,sym184,sym185,sym186,sym187,hl,hw,hz,hz',Int.toNat_natCast,hy,Option.bind_some,hd0,hd1,hd2,reduceCtorEq,Bool.false_eq_true,false_implies,implies_true,true_implies,and_self,and_true,true_and]
   try simp
  ·simp only [rHd_con,rHd_t,qVB16,qVB15,qVB14,qVB13,qVB12,qVB11,qVB10,qVB9,qVB8,qVB7,qVB6,qVB5,qVB4,qVB3,qVB2,qVB1,qVB0,AsksL,GTree.asks,FTree.asks,FactsIn,List.append_nil,List.nil_append,List.cons_append,Option.some.injEq,exists_eq',implies_true,and_self,X.bool,X.den,denL,dX,denSub,denIte,asB,dY,sals_len,sals_cell,sals_lsub,hds_len,hds_cell,hds_lsub,hds_snocN,hds_snoc0N,snoc_nil,heads_len,h1,h3,h4,h5,hsy,sym181,sym182,sym184,sym185,sym186,sym187,hl,reduceCtorEq,Bool.false_eq_true,false_implies,implies_true,true_implies,and_self,and_true,true_and]
   try simp
 ·by_cases hl : 0 < (h.length : Int)
  ·obtain ⟨hw,y,hy,hk⟩:=last_at hl hmax
   have hz : ¬ ((h.length - 1 : Nat) : Int) < 0:=by omega
   have hz' : ((h.length - 1 : Nat) : Int) < h.length:=by omega
   simp only [rHd_l,qVB16,qVB15,qVB14,qVB13,qVB12,qVB11,qVB10,qVB9,qVB8,qVB7,qVB6,qVB5,qVB4,qVB3,qVB2,qVB1,qVB0,EndsOk,WaysOk,forall_cons,forall_nil,TgtOk,gpair,FactsIn,hold_cons,hold_nil,Option.some.injEq,dZ,X.bool,X.den,denL,dX,denSub,denIte,asB,dY,beq_iff_eq,beq_eq_false_iff_ne,ne_eq,sals_len,sals_cell,sals_lsub,hds_len,hds_cell,hds_lsub,hds_snocN,hds_snoc0N,snoc_nil,heads_len,beq_iff_eq,beq_eq_false_iff_ne,ne_eq,h1,h3,h4,h5,hsy,sym181,sym182,sym184,sym185,sym186,sym187,hl,hw,hz,hz',Int.toNat_natCast,hy,Option.bind_some,hd0,hd1,hd2,reduceCtorEq,Bool.false_eq_true,false_implies,implies_true,true_implies,and_self,and_true,true_and]
   clear h1 h3 h4 h5 hsy hρ hpre hrel hins g0 g1 hi hi2 hq
   unfold hdE
   have bl : decide (p.known < y.known) = !(decide (y.known≤p.known)):=by rw [Bool.eq_iff_iff]; simp
   have bz : (p.of_ == 0) = decide (p.of_ = 0):=by rw [Bool.eq_iff_iff]; simp
   rw [hk,bz]
   (repeat' apply And.intro) <;> intros <;> first | (simp_all; done) | (rw [bl]; simp_all; done)
  ·simp only [rHd_l,qVB16,qVB15,qVB14,qVB13,qVB12,qVB11,qVB10,qVB9,qVB8,qVB7,qVB6,qVB5,qVB4,qVB3,qVB2,qVB1,qVB0,EndsOk,WaysOk,forall_cons,forall_nil,TgtOk,gpair,FactsIn,hold_cons,hold_nil,Option.some.injEq,dZ,X.bool,X.den,denL,dX,denSub,denIte,asB,dY,beq_iff_eq,beq_eq_false_iff_ne,ne_eq,sals_len,sals_cell,sals_lsub,hds_len,hds_cell,hds_lsub,hds_snocN,hds_snoc0N,snoc_nil,heads_len,beq_iff_eq,beq_eq_false_iff_ne,ne_eq,h1,h3,h4,h5,hsy,sym181,sym182,sym184,sym185,sym186,sym187,hl,reduceCtorEq,Bool.false_eq_true,false_implies,implies_true,true_implies,and_self,and_true,true_and]
   clear h1 h3 h4 h5 hsy hρ hpre hrel hins g0 g1 hi hi2 hq
   unfold hdE
   have bz : (p.of_ == 0) = decide (p.of_ = 0):=by rw [Bool.eq_iff_iff]; simp
   rw [bz]
   (repeat' apply And.intro) <;> intros <;> simp_all
noncomputable def lCt_D : LoopD:={ N:=100,M:=101,size:=sizeOfF 31,reads:=[(0,.rows 3 hdSch (.var 0) (.var 1) false 78),(1,.cells [.sint .i64 (.var 3),.sint .i64 (.var 4),.sint .i64 (.var 5)] 78)],pats:=[{ slots:=[(0,.slx 0 3 (.var 0) (.num 0) (.op1 .len (.var 1)) (.var 2)),(2,.sint .i64 (.var 6)),(4,.ptr 1 0),(7,.sint .i64 (.var 100))],heap:=[] }],exits:=[(.exit 0,{ slots:=[(2,.sint .i64 (.var 6)),(4,.ptr 1 0)],heap:=[],guard:=.op1 .not (.app 187 [.var 1,.var 3,.var 6]) }),(.ret,{ slots:=[(6,.bool false)],heap:=[],guard:=.app 187 [.var 1,.var 3,.var 6] })],own:=[],pre:=[(.op2 .lt (.num 1010) (.op1 .len (.var 1)),false)],dfs:=[] }
noncomputable def lCt_run : Env→AF→ASt→Option (List Out):=bodyRun noL 6 (fun _ => noLoop) (loopAt Tryz.prog 31 0)
def lCt0_F : List (X×Bool):=[(.op2 .lt (.var 100) (.num 0),false)]
noncomputable def lCt0_t : FTree:=(.fork qVB8 (.fork (.op2 .eq qVB10 (.var 3)) (.fork (.op2 .lt (.var 6) (.cell 1 (.var 1) (.var 100))) (.leaf [.again 0 []]) (.leaf [.leave 1 []])) (.leaf [.again 0 []])) (.leaf [.leave 0 []]))
noncomputable def lCt0_l : List (List (X×Bool)×Option (List (Tgt×Pairs))):=[([(.op2 .lt (.var 6) (.cell 1 (.var 1) (.var 100)),true),(.op2 .eq qVB10 (.var 3),true),(qVB8,true),(qVB9,false)],some [(.again 0 [],[(.var 100,qVB4)])]),
 ([(.op2 .lt (.var 6) (.cell 1 (.var 1) (.var 100)),false),(.op2 .eq qVB10 (.var 3),true),(qVB8,true),(qVB9,false)],some [(.leave 1 [],[(qVB14,.boo true)])]),
 ([(.op2 .eq qVB10 (.var 3),false),(qVB8,true),(qVB9,false)],some [(.again 0 [],[(.var 100,qVB4)])]),
 ([(qVB8,false),(qVB9,false)],some [(.leave 0 [],[(.op1 .not qVB14,.boo true)])])]
theorem lCt0_w (r : Rho) : lCt_D.ways lCt_run E0 r 0 lCt0_F lCt0_t = some lCt0_l:=by kernel_rfl
theorem lCt_ok : lCt_D.ok = true:=by kernel_rfl
theorem vd_snoc (h : List Hd3) (y : Hd3) (o K : Int) : vdH (h ++ [y]) o K = (vdH h o K || (y.of_ == o && decide (y.known≤K))):=by simp [vdH]
theorem vd_at {h : List Hd3} {i : Nat} {y : Hd3} {K : Int} (hp : h[i]? = some y) (hk : y.known≤K) : vdH h y.of_ K = true:=List.any_eq_true.2 ⟨y,List.mem_of_getElem? hp,by simp [hk]⟩
def lCt_Inv (h : List Hd3) (d K : Int) (j : Nat) (vals : List Value) : Prop:=j = 0∧∃ i : Nat,i≤h.length∧vals = [.int .i64 (i : Int)]∧vdH (h.take i) d K = false
def lCt_mu (h : List Hd3) (_ : Nat) (vals : List Value) : Nat:=h.length - (vI (vals.getD 0 default)).toNat
set_option maxHeartbeats 1000000 in
theorem lCt_step {ρ : Rho} {h : List Hd3} {d kn o K : Int} {k3 k4 k5 k6 : IntKind} (h1 : ρ.val 1 = some (hdsR h)) (h3 : ρ.val 3 = some (.int k3 d)) (h4 : ρ.val 4 = some (.int k4 kn)) (h5 : ρ.val 5 = some (.int k5 o)) (h6 : ρ.val 6 = some (.int k6 K)) (hsy : ρ.sym = sy) (hmax : (h.length : Int)≤1010) (j : Nat) (vals : List Value) (hI : lCt_Inv h d K j vals) : StepOk lCt_D lCt_run E0 ρ (lCt_Inv h d K) (lCt_mu h) j vals:=by
 obtain ⟨rfl,i,hi,rfl,hno⟩:=hI
 have hN : lCt_D.N = 100:=rfl
 have v1 : (ρ.ext lCt_D.N [.int .i64 (i : Int)]).val 1 = some (hdsR h):=by rw [ext_low _ _ _ _ (by rw [hN]; omega)]; exact h1
 have v3 : (ρ.ext lCt_D.N [.int .i64 (i : Int)]).val 3 = some (.int k3 d):=by rw [ext_low _ _ _ _ (by rw [hN]; omega)]; exact h3
 have v4 : (ρ.ext lCt_D.N [.int .i64 (i : Int)]).val 4 = some (.int k4 kn):=by rw [ext_low _ _ _ _ (by rw [hN]; omega)]; exact h4
 have v5 : (ρ.ext lCt_D.N [.int .i64 (i : Int)]).val 5 = some (.int k5 o):=by rw [ext_low _ _ _ _ (by rw [hN]; omega)]; exact h5
 have v6 : (ρ.ext lCt_D.N [.int .i64 (i : Int)]).val 6 = some (.int k6 K):=by rw [ext_low _ _ _ _ (by rw [hN]; omega)]; exact h6
 have v100 : (ρ.ext lCt_D.N [.int .i64 (i : Int)]).val 100 = some (.int .i64 (i : Int)):=by rw [ext_high _ _ _ _ (by rw [hN]; omega)]; rfl
 have vs : (ρ.ext lCt_D.N [.int .i64 (i : Int)]).sym = sy:=hsy
 have hF : FactsIn (ρ.ext lCt_D.N [.int .i64 (i : Int)]) lCt0_F:=by
  simp only [lCt0_F,FactsIn,X.bool,X.den,denL,dX,denSub,denIte,asB,dY,sals_len,sals_cell,sals_lsub,hds_len,hds_cell,hds_lsub,hds_snocN,hds_snoc0N,snoc_nil,heads_len,v100,Option.some.injEq,Value.bool.injEq,decide_eq_false_iff_not,and_true]
  omega
 suffices both : AsksL (ρ.ext lCt_D.N [.int .i64 (i : Int)]) (lCt0_t.asks lCt0_F)∧WaysOk lCt_D ρ (lCt_Inv h d K) (lCt_mu h) 0 [.int .i64 (i : Int)] lCt0_l from step_of_ways (lCt0_w _) hF both.1.ok both.2
 cases hp : h[i]? with
 | none =>
   have hge:=List.getElem?_eq_none_iff.1 hp
   have hge' : ¬ (i : Int) < h.length:=by omega
   have hl : h.take i = h:=List.take_of_length_le hge
   rw [hl] at hno
   refine ⟨?_,?_⟩
   ·simp only [lCt0_t,qVB16,qVB15,qVB14,qVB13,qVB12,qVB11,qVB10,qVB9,qVB8,qVB7,qVB6,qVB5,qVB4,qVB3,qVB2,qVB1,qVB0,lCt0_F,AsksL,GTree.asks,FTree.asks,FactsIn,List.append_nil,List.nil_append,List.cons_append,Option.some.injEq,exists_eq',implies_true,and_self,X.bool,X.den,denL,dX,denSub,denIte,asB,dY,sals_len,sals_cell,sals_lsub,hds_len,hds_cell,hds_lsub,hds_snocN,hds_snoc0N,snoc_nil,heads_len,v1,v3,v4,v5,v6,v100,vs,sym181,sym182,sym184,sym185,sym186,sym187,Int.toNat_natCast,hp,hge']
    try simp
   ·simp only [lCt0_l,qVB16,qVB15,qVB14,qVB13,qVB12,qVB11,qVB10,qVB9,qVB8,qVB7,qVB6,qVB5,qVB4,qVB3,qVB2,qVB1,qVB0,EndsOk,WaysOk,forall_cons,forall_nil,TgtOk,gpair,FactsIn,hold_cons,hold_nil,Option.some.injEq,dZ,X.bool,X.den,denL,dX,denSub,denIte,asB,dY,beq_iff_eq,beq_eq_false_iff_ne,ne_eq,sals_len,sals_cell,sals_lsub,hds_len,hds_cell,hds_lsub,hds_snocN,hds_snoc0N,snoc_nil,heads_len,beq_iff_eq,beq_eq_false_iff_ne,ne_eq,v1,v3,v4,v5,v6,v100,vs,h1,h3,h4,h5,h6,hsy,sym181,sym182,sym184,sym185,sym186,sym187,Int.toNat_natCast,hp,hge',reduceCtorEq,Bool.false_eq_true,false_implies,implies_true,true_implies,and_self,and_true,true_and]
    try simp [hno]
 | some y =>
   have hil : i < h.length:=(List.getElem?_eq_some_iff.1 hp).1
   have hil1 : (i : Int) < h.length:=by omega
   have hw : IntKind.i64.wrap ((i : Int) + 1) = ((i + 1 : Nat) : Int):=by rw [IntWalk.i64_in _ (by omega)]; rfl
   have ht : h.take (i + 1) = h.take i ++ [y]:=by rw [List.take_add_one,hp]; rfl
   have hit : y.of_ = d→y.known≤K→vdH h d K = true:=fun e hk => by rw [← e]; exact vd_at hp hk
   have go : ¬ (y.of_ = d∧y.known≤K)→∃ vals',(ρ.ext lCt_D.N vals').val 100 = some (.int .i64 ((i + 1 : Nat) : Int))∧lCt_Inv h d K 0 vals'∧lCt_mu h 0 vals' < lCt_mu h 0 [.int .i64 (i : Int)]:=by
    intro hne
    refine ⟨[.int .i64 ((i + 1 : Nat) : Int)],?_,⟨rfl,i + 1,by omega,rfl,?_⟩,by simp [lCt_mu,vI]; omega⟩
    ·rw [ext_high _ _ _ _ (by rw [hN]; omega)]; rfl
    ·rw [ht,vd_snoc,hno]
     simp only [Bool.false_or,Bool.and_eq_false_iff,beq_eq_false_iff_ne,decide_eq_false_iff_not]
     omega
   refine ⟨?_,?_⟩
   all_goals (simp only [lCt0_t,qVB16,qVB15,qVB14,qVB13,qVB12,qVB11,qVB10,qVB9,qVB8,qVB7,qVB6,qVB5,qVB4,qVB3,qVB2,qVB1,qVB0,lCt0_F,lCt0_l,AsksL,GTree.asks,FTree.asks,FactsIn,List.append_nil,List.nil_append,List.cons_append,Option.some.injEq,exists_eq',implies_true,and_self,X.bool,X.den,denL,dX,denSub,denIte,asB,dY,sals_len,sals_cell,sals_lsub,hds_len,hds_cell,hds_lsub,hds_snocN,hds_snoc0N,snoc_nil,heads_len,EndsOk,WaysOk,forall_cons,forall_nil,TgtOk,gpair,FactsIn,hold_cons,hold_nil,Option.some.injEq,dZ,X.bool,X.den,denL,dX,denSub,denIte,asB,dY,beq_iff_eq,beq_eq_false_iff_ne,ne_eq,sals_len,sals_cell,sals_lsub,hds_len,hds_cell,hds_lsub,hds_snocN,hds_snoc0N,snoc_nil,heads_len,beq_iff_eq,beq_eq_false_iff_ne,ne_eq,v1,v3,v4,v5,v6,v100,vs,h1,h3,h4,h5,h6,hsy,sym181,sym182,sym184,sym185,sym186,sym187,Int.toNat_natCast,hp,Option.bind_some,hd0,hd1,hd2,hil1,hw,reduceCtorEq,Bool.false_eq_true,false_implies,implies_true,true_implies,and_self,and_true,true_and])
   all_goals (clear v1 v3 v4 v5 v6 v100 vs h1 h3 h4 h5 h6 hsy hF)
   all_goals ((repeat' apply And.intro) <;> intros <;> first
    | trivial
    | (exact hit (by assumption) (by omega))
    | (exact go (by omega))
    | (exfalso; omega)
    | (simp_all; done))
noncomputable def rCt_con : Con:={ f:=31,args:=[hdsArg 0 0,.agg (hdLeaves 3),.one (.int .i64 6)],N:=1,M:=1,pre:=[(.op2 .lt (.num 1010) (.op1 .len (.var 1)),false)],out:=.sbool (.app 182 [.var 1,.var 3,.var 4,.var 5,.var 6]),news:=[] }
noncomputable def rCt_call : Env→CallL:=fun E => acallAll E (evH E (noL E) ((fun E => oneH 31 (hooks [(2,lCt_D.hook E.facts rct_vs)])) E) 9)
noncomputable def rCt_t : GTree:=(.fork qVB14 (.leaf [[]]) (.fork qVB7 (.leaf [[]]) (.leaf [[]])))
noncomputable def rCt_l : List (List (X×Bool)×Option Pairs):=[([(qVB14,true),(qVB5,false)],some [(.app 182 [.var 1,.var 3,.var 4,.var 5,.var 6],.boo false)]),
 ([(qVB7,true),(qVB14,false),(qVB5,false)],some [(.app 182 [.var 1,.var 3,.var 4,.var 5,.var 6],.op1 .not (.op2 .lt (.var 6) (.var 4)))]),
 ([(qVB7,false),(qVB14,false),(qVB5,false)],some [(.app 182 [.var 1,.var 3,.var 4,.var 5,.var 6],.boo false)])]
theorem rCt_w (r : Rho) : rCt_con.fn.ways rCt_call E0 r rCt_con.pre rCt_t = some rCt_l:=by kernel_rfl
theorem lCt_H {ρ : Rho} {h : List Hd3} {d kn o K : Int} {k3 k4 k5 k6 : IntKind} (h1 : ρ.val 1 = some (hdsR h)) (h3 : ρ.val 3 = some (.int k3 d)) (h4 : ρ.val 4 = some (.int k4 kn)) (h5 : ρ.val 5 = some (.int k5 o)) (h6 : ρ.val 6 = some (.int k6 K)) (hsy : ρ.sym = sy) (hmax : (h.length : Int)≤1010) (F : List (X×Bool)) : LoopsOk (E0.with F ρ) (oneH 31 (hooks [(2,lCt_D.hook (E0.with F ρ).facts rct_vs)])):=by
 refine loops_all (n:=1) (fun f fn h => h) (by kernel_rfl) fun i hi => ?_
 obtain rfl : i = 0:=by omega
 rw [hooks_hit (show keyOf (loopAt (E0.with F ρ).P 31 0) = 2 by kernel_rfl)]
 refine hook_ok (E₀:=E0) (run:=lCt_run) (ρ:=ρ) (Inv:=lCt_Inv h d K) (μ:=lCt_mu h) E0_ok lCt_ok (fun F r' h => ?_) (fun hp => ⟨lCt_step h1 h3 h4 h5 h6 hsy hmax,[.int .i64 0],?_,rfl,0,Nat.zero_le _,rfl,rfl⟩)
 ·exact bodyRun_ok E0_ok (noL_ok F (h.trans hsy)) fun _ _ => noLoop_ok
 ·simp only [rct_vs,X.bool,X.den,denL,dX,denSub,denIte,asB,dY,sals_len,sals_cell,sals_lsub,hds_len,hds_cell,hds_lsub,hds_snocN,hds_snoc0N,snoc_nil,heads_len]
theorem rCt_cok : rCt_con.Ok Tryz.prog sy:=by
 intro r σ w us hsy hρ hpre hrel hins
 obtain ⟨h,h1⟩:=hds_at hrel (i:=0) rfl
 obtain ⟨u0,us,rfl,g0,hi⟩:=ins_cons hins
 obtain ⟨u1,us,rfl,g1,hi2⟩:=ins_cons hi
 obtain ⟨p,kp,rfl,hq⟩:=hd_agg g1
 rw [hρ] at h1 hq
 have h1 : r.val 1 = some (hdsR h):=h1
 have h3:=hq.h0
 have h4:=hq.h1
 have h5:=hq.h2
 have hmax : (h.length : Int)≤1010:=by
  have:=hpre.1
  simp only [X.bool,X.den,denL,dX,denSub,denIte,asB,dY,sals_len,sals_cell,sals_lsub,hds_len,hds_cell,hds_lsub,hds_snocN,hds_snoc0N,snoc_nil,heads_len,h1,Option.some.injEq,Value.bool.injEq,decide_eq_false_iff_not] at this
  omega
 obtain ⟨u2,us,rfl,g2,hi3⟩:=ins_cons hi2
 obtain ⟨K,k6,rfl,h6⟩:=one_int g2
 rw [hρ] at h6
 refine con_of (E:=E0) E0_ok E0_glob (sy:=sy) (fun F => noL_ok F hsy) (fun F => lCt_H h1 h3 h4 h5 h6 hsy hmax F) (rCt_w r) hρ hpre hrel hins ?_ ?_
 ·simp only [rCt_con,rCt_t,qVB16,qVB15,qVB14,qVB13,qVB12,qVB11,qVB10,qVB9,qVB8,qVB7,qVB6,qVB5,qVB4,qVB3,qVB2,qVB1,qVB0,AsksL,GTree.asks,FTree.asks,FactsIn,List.append_nil,List.nil_append,List.cons_append,Option.some.injEq,exists_eq',implies_true,and_self,X.bool,X.den,denL,dX,denSub,denIte,asB,dY,sals_len,sals_cell,sals_lsub,hds_len,hds_cell,hds_lsub,hds_snocN,hds_snoc0N,snoc_nil,heads_len,h1,h3,h4,h5,h6,hsy,sym181,sym182,sym184,sym185,sym186,sym187]
  try simp
 ·simp only [rCt_l,qVB16,qVB15,qVB14,qVB13,qVB12,qVB11,qVB10,qVB9,qVB8,qVB7,qVB6,qVB5,qVB4,qVB3,qVB2,qVB1,qVB0,EndsOk,WaysOk,forall_cons,forall_nil,TgtOk,gpair,FactsIn,hold_cons,hold_nil,Option.some.injEq,dZ,X.bool,X.den,denL,dX,denSub,denIte,asB,dY,beq_iff_eq,beq_eq_false_iff_ne,ne_eq,sals_len,sals_cell,sals_lsub,hds_len,hds_cell,hds_lsub,hds_snocN,hds_snoc0N,snoc_nil,heads_len,beq_iff_eq,beq_eq_false_iff_ne,ne_eq,h1,h3,h4,h5,h6,hsy,sym181,sym182,sym184,sym185,sym186,sym187]
  clear h1 h3 h4 h5 h6 hsy hρ hpre hrel hins g0 g1 g2 hi hi2 hi3 hq
  unfold cntH
  have bz : (p.of_ == 0) = decide (p.of_ = 0):=by rw [Bool.eq_iff_iff]; simp
  have bk : decide (p.known≤K) = !decide (K < p.known):=by rw [Bool.eq_iff_iff]; simp
  rw [bz]
  (repeat' apply And.intro) <;> intros <;> first | trivial | (simp_all; done) | (simp_all; omega) | (rw [bk]; simp_all; done)
end Go.Proofs.YtckefonlahokkaaGreatDoor.Zs
