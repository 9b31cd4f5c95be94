/-
  Contracts: precedence, counting, the rate in force.
-/
import Derived.Test.YtfddkbbjnghefaaGreatDoorToConB
import Derived.KernelRfl
set_option linter.unusedSimpArgs false
set_option maxHeartbeats 4000000
set_option linter.unusedVariables false
namespace Go.Proofs.YtfddkbbjnghefaaGreatDoor.Zs
open Go
abbrev qRC22 : X:=.cell 0 (.var 1) (.var 200)
abbrev qRC0 : X:=.op2 .mhas (.app 203 [.var 1,.var 5]) (.snoc .nil [.op1 (.kind .i64) qRC22])
abbrev qRC1 : X:=.app 207 [.var 3,.var 2,.var 12,.var 11]
abbrev qRC2 : X:=.cell 3 (.var 1) (.var 200)
abbrev qRC3 : X:=.op2 .eq (.var 11) (.var 11)
abbrev qRC4 : X:=.op2 (.mat 1) (.app 203 [.var 1,.var 5]) (.snoc .nil [.op1 (.kind .i64) qRC22])
abbrev qRC5 : X:=.op2 .eqs (.var 12) (.var 12)
abbrev qRC6 : X:=.op2 .eq (.var 2) (.var 2)
abbrev qRC7 : X:=.cell 2 (.var 1) (.var 200)
abbrev qRC28 : X:=.cell 8 (.var 1) (.var 200)
abbrev qRC8 : X:=.op2 .eq qRC28 (.num 0)
abbrev qRC9 : X:=.op1 (.wrap .i64) (.op2 .add (.var 200) (.num 1))
abbrev qRC23 : X:=.cell 1 (.var 1) (.var 200)
abbrev qRC10 : X:=.op2 .lt (.var 5) qRC23
abbrev qRC11 : X:=.op2 .eqs (.var 3) (.var 3)
abbrev qRC29 : X:=.op1 .len (.var 1)
abbrev qRC12 : X:=.op2 .lt (.var 200) qRC29
abbrev qRC13 : X:=.op2 .lt (.app 207 [qRC2,qRC7,.var 204,.var 203]) (.num 0)
abbrev qRC14 : X:=.op2 .lt (.var 2) (.var 11)
abbrev qRC15 : X:=.op2 .lt (.var 200) (.num 0)
abbrev qRC16 : X:=.op2 .lts (.var 3) (.var 12)
abbrev qRC17 : X:=.op2 .lt (.var 11) (.var 2)
abbrev qRC18 : X:=.op2 .eqs qRC2 (.var 3)
abbrev qRC19 : X:=.op2 .lt (.var 4) qRC7
abbrev qRC20 : X:=.op2 .eqs (.var 3) (.var 12)
abbrev qRC21 : X:=.op2 .eqs qRC2 (.str [])
abbrev qRC24 : X:=.cell 4 (.var 1) (.var 200)
abbrev qRC25 : X:=.cell 5 (.var 1) (.var 200)
abbrev qRC26 : X:=.cell 6 (.var 1) (.var 200)
abbrev qRC27 : X:=.cell 7 (.var 1) (.var 200)
abbrev qRC30 : X:=.op2 .eq (.cell 8 (.var 1) (.var 100)) (.num 0)
abbrev qRC31 : X:=.app 205 [.var 1,.var 3,.var 4,.var 5,.num 0]
abbrev qRC32 : X:=.app 205 [.var 1,.var 3,.var 4,.var 5,.num 1]
abbrev qRC33 : X:=.app 205 [.var 1,.var 3,.var 4,.var 5,.num 2]
abbrev qRC34 : X:=.app 205 [.var 1,.var 3,.var 4,.var 5,.num 3]
abbrev qRC35 : X:=.app 205 [.var 1,.var 3,.var 4,.var 5,.num 4]
abbrev qRC36 : X:=.app 205 [.var 1,.var 3,.var 4,.var 5,.num 5]
abbrev qRC37 : X:=.app 205 [.var 1,.var 3,.var 4,.var 5,.num 6]
abbrev qRC38 : X:=.app 205 [.var 1,.var 3,.var 4,.var 5,.num 7]
abbrev qRC39 : X:=.app 205 [.var 1,.var 3,.var 4,.var 5,.num 8]
abbrev qRC40 : X:=.op2 .lt (.var 100) (.num 0)
abbrev qRC41 : X:=.op1 (.wrap .i64) (.op2 .add (.var 100) (.num 1))
abbrev qRC42 : X:=.app 204 [.var 1,.var 3,.var 4,.var 5]
abbrev qRC43 : X:=.op2 .lt (.var 100) qRC29
abbrev qRC44 : X:=.op2 .lt (.var 5) (.cell 1 (.var 1) (.var 100))
abbrev qRCf0 : List (X×Bool):=[(qRC10,false),(qRC8,true),(qRC12,true),(qRC15,false)]
abbrev qRCf1 : List (X×Bool):=[(qRC16,false),(qRC5,true),(qRC11,true)]
abbrev qRCf2 : List (X×Bool):=[(qRC16,true),(qRC5,true),(qRC11,true)]
abbrev qRCf3 : List (X×Bool):=(qRC4,false) :: (qRC0,true) :: qRCf0
abbrev qRCf4 : List (X×Bool):=[(qRC5,false),(qRC11,false)]
abbrev qRCf5 : List (X×Bool):=[(qRC5,false),(qRC11,true)]
abbrev qRCf6 : List (X×Bool):=[(qRC5,true),(qRC11,false)]
abbrev qRCf7 : List (X×Bool):=(qRC21,true) :: (qRC18,false) :: (qRC0,false) :: qRCf0
abbrev qRCf8 : List (X×Bool):=(qRC19,false) :: (qRC21,true) :: (qRC18,false) :: qRCf3
abbrev qRCf9 : List (X×Bool):=(qRC19,false) :: (qRC18,true) :: (qRC0,false) :: qRCf0
abbrev qRCf10 : List (X×Bool):=(qRC3,true) :: (qRC6,true) :: (qRC20,false) :: qRCf1
abbrev qRCf11 : List (X×Bool):=(qRC3,true) :: (qRC6,true) :: (qRC20,true) :: qRCf1
noncomputable def cPr_con : Con:={ f:=72,args:=[.agg [.int .i64 0,.int .i64 1,.int .i64 2,.str 3,.int .i64 4,.int .i64 5,.int .i64 6,.int .i64 7,.int .i64 8],.agg [.int .i64 9,.int .i64 10,.int .i64 11,.str 12,.int .i64 13,.int .i64 14,.int .i64 15,.int .i64 16,.int .i64 17]],N:=0,M:=0,pre:=[],out:=.sint .i64 (.app 207 [.var 3,.var 2,.var 12,.var 11]),news:=[] }
noncomputable def cPr_call : Env→Za:=fun E => zS E (evH E (noL E) ((fun _ => yX) E) 9)
noncomputable def cPr_t : GTree:=(.fork qRC11 (.fork qRC5 (.fork qRC16 (.fork qRC6 (.fork qRC3 (.fork qRC14 (.leaf [[]]) (.fork qRC17 (.leaf [[]]) (.leaf [[]]))) (.leaf [[]])) (.fork qRC3 (.leaf [[]]) (.leaf [[]]))) (.fork qRC20 (.fork qRC6 (.fork qRC3 (.fork qRC14 (.leaf [[]]) (.fork qRC17 (.leaf [[]]) (.leaf [[]]))) (.leaf [[]])) (.fork qRC3 (.leaf [[]]) (.leaf [[]]))) (.fork qRC6 (.fork qRC3 (.fork qRC14 (.leaf [[]]) (.fork qRC17 (.leaf [[]]) (.leaf [[]]))) (.leaf [[]])) (.fork qRC3 (.leaf [[]]) (.leaf [[]]))))) (.fork qRC6 (.fork qRC3 (.fork qRC14 (.leaf [[]]) (.fork qRC17 (.leaf [[]]) (.leaf [[]]))) (.leaf [[]])) (.fork qRC3 (.leaf [[]]) (.leaf [[]])))) (.fork qRC5 (.fork qRC6 (.fork qRC3 (.fork qRC14 (.leaf [[]]) (.fork qRC17 (.leaf [[]]) (.leaf [[]]))) (.leaf [[]])) (.fork qRC3 (.leaf [[]]) (.leaf [[]]))) (.fork qRC6 (.fork qRC3 (.fork qRC14 (.leaf [[]]) (.fork qRC17 (.leaf [[]]) (.leaf [[]]))) (.leaf [[]])) (.fork qRC3 (.leaf [[]]) (.leaf [[]])))))
noncomputable def cPr_l : List (List (X×Bool)×Option zp):=[((qRC14,true) :: (qRC3,true) :: (qRC6,true) :: qRCf2,some [(qRC1,.num (-1))]),
 ((qRC17,true) :: (qRC14,false) :: (qRC3,true) :: (qRC6,true) :: qRCf2,some [(qRC1,.num (-1))]),
 ((qRC17,false) :: (qRC14,false) :: (qRC3,true) :: (qRC6,true) :: qRCf2,some [(qRC1,.num (-1))]),
 ((qRC3,false) :: (qRC6,true) :: qRCf2,some [(qRC1,.num (-1))]),
 ((qRC3,true) :: (qRC6,false) :: qRCf2,some [(qRC1,.num (-1))]),
 ((qRC3,false) :: (qRC6,false) :: qRCf2,some [(qRC1,.num (-1))]),
 ((qRC14,true) :: qRCf11,some [(qRC1,.num (-1))]),
 ((qRC17,true) :: (qRC14,false) :: qRCf11,some [(qRC1,.num 1)]),
 ((qRC17,false) :: (qRC14,false) :: qRCf11,some [(qRC1,.num 0)]),
 ((qRC3,false) :: (qRC6,true) :: (qRC20,true) :: qRCf1,some [(qRC1,.num 1)]),
 ((qRC3,true) :: (qRC6,false) :: (qRC20,true) :: qRCf1,some [(qRC1,.num (-1))]),
 ((qRC3,false) :: (qRC6,false) :: (qRC20,true) :: qRCf1,some [(qRC1,.num 0)]),
 ((qRC14,true) :: qRCf10,some [(qRC1,.num 1)]),
 ((qRC17,true) :: (qRC14,false) :: qRCf10,some [(qRC1,.num 1)]),
 ((qRC17,false) :: (qRC14,false) :: qRCf10,some [(qRC1,.num 1)]),
 ((qRC3,false) :: (qRC6,true) :: (qRC20,false) :: qRCf1,some [(qRC1,.num 1)]),
 ((qRC3,true) :: (qRC6,false) :: (qRC20,false) :: qRCf1,some [(qRC1,.num 1)]),
 ((qRC3,false) :: (qRC6,false) :: (qRC20,false) :: qRCf1,some [(qRC1,.num 1)]),
 ((qRC14,true) :: (qRC3,true) :: (qRC6,true) :: qRCf5,some [(qRC1,.num 1)]),
 ((qRC17,true) :: (qRC14,false) :: (qRC3,true) :: (qRC6,true) :: qRCf5,some [(qRC1,.num 1)]),
 ((qRC17,false) :: (qRC14,false) :: (qRC3,true) :: (qRC6,true) :: qRCf5,some [(qRC1,.num 1)]),
 ((qRC3,false) :: (qRC6,true) :: qRCf5,some [(qRC1,.num 1)]),
 ((qRC3,true) :: (qRC6,false) :: qRCf5,some [(qRC1,.num 1)]),
 ((qRC3,false) :: (qRC6,false) :: qRCf5,some [(qRC1,.num 1)]),
 ((qRC14,true) :: (qRC3,true) :: (qRC6,true) :: qRCf6,some [(qRC1,.num (-1))]),
 ((qRC17,true) :: (qRC14,false) :: (qRC3,true) :: (qRC6,true) :: qRCf6,some [(qRC1,.num (-1))]),
 ((qRC17,false) :: (qRC14,false) :: (qRC3,true) :: (qRC6,true) :: qRCf6,some [(qRC1,.num (-1))]),
 ((qRC3,false) :: (qRC6,true) :: qRCf6,some [(qRC1,.num (-1))]),
 ((qRC3,true) :: (qRC6,false) :: qRCf6,some [(qRC1,.num (-1))]),
 ((qRC3,false) :: (qRC6,false) :: qRCf6,some [(qRC1,.num (-1))]),
 ((qRC14,true) :: (qRC3,true) :: (qRC6,true) :: qRCf4,some [(qRC1,.num (-1))]),
 ((qRC17,true) :: (qRC14,false) :: (qRC3,true) :: (qRC6,true) :: qRCf4,some [(qRC1,.num 1)]),
 ((qRC17,false) :: (qRC14,false) :: (qRC3,true) :: (qRC6,true) :: qRCf4,some [(qRC1,.num 0)]),
 ((qRC3,false) :: (qRC6,true) :: qRCf4,some [(qRC1,.num 1)]),
 ((qRC3,true) :: (qRC6,false) :: qRCf4,some [(qRC1,.num (-1))]),
 ((qRC3,false) :: (qRC6,false) :: qRCf4,some [(qRC1,.num 0)])]
theorem cPr_w (r : Rho) : cPr_con.fn.ways cPr_call E0 r cPr_con.pre cPr_t = some cPr_l:=by kernel_rfl
theorem cPr_cok : cPr_con.Ok Tryz.prog sy:=by
 intro r σ w us hsy hρ hpre hrel hins
 obtain ⟨u0,us,rfl,g0,hi⟩:=zn hins
 obtain ⟨u1,us,rfl,g1,hi1⟩:=zn hi
 obtain ⟨p,kp,rfl,hp⟩:=rat_agg (v:=0) g0
 obtain ⟨q,kq,rfl,hq⟩:=rat_agg (v:=9) g1
 rw [hρ] at hp hq
 have p2:=hp.h2
 have p3:=hp.h3
 have q2:=hq.h2
 have q3:=hq.h3
 simp only [Nat.zero_add,Nat.reduceAdd] at p2 p3 q2 q3
 refine y6 (E:=E0) yQ yC (sy:=sy) (fun F => noL_ok F hsy) (fun F => noH_ok) (cPr_w r) hρ hpre hrel hins ?_ ?_
 ·simp only [cPr_con,cPr_t,gA,gB,zd,yV,yU,yW,yr,yq,zI,zJ,rats_len,zU,zH,p2,p3,q2,q3,hsy,sym207]
  try simp
 ·simp only [cPr_l,gE,dZ,gB,zd,g3,yV,yU,yW,yr,yq,zI,zJ,rats_len,zU,zH,p2,p3,q2,q3,hsy,sym207]
  clear hsy hρ hpre hrel hins g0 g1 hi hi1 hp hq p2 p3 q2 q3
  unfold precI
  generalize Op.bytesLess p.goods.toList q.goods.toList = L
  generalize (p.goods == q.goods) = E
  have eg : ∀ s : ByteArray,(s == s) = true:=fun s => by
   first
    | exact beq_self_eq_true s
    | (rw [← beq_toListBytes]; simp)
    | (rw [beq_toListBytes]; simp)
    | exact decide_eq_true rfl
  by_cases h1 : p.from_ < q.from_ <;> by_cases h2 : q.from_ < p.from_
  all_goals (simp only [h1,h2,decide_true,decide_false,cond_true,cond_false,not_true_eq_false,not_false_eq_true,eg,Bool.true_eq_false,reduceCtorEq,gR])
  all_goals (clear h1 h2; revert L E; decide)
noncomputable def LP : Env→yj:=libs [cLib cPr_con]
theorem LP_ok (F : List (X×Bool)) {r : Rho} (h : r.sym = sy) : zu (E0.with F r) (LP (E0.with F r)):=libs_ok fun c hc => by
 simp only [List.mem_cons,List.not_mem_nil,or_false] at hc
 subst hc; exact ya (E:=E0) cPr_cok F h
def vd_vs : List X:=[.num 0,.nil]
def if_vs : List X:=[.num 0,.num 0,.num 0,.num 0,.str [],.num 0,.num 0,.num 0,.num 0,.num 0,.boo false]
noncomputable def lVr_D : LoopD:={ N:=100,M:=102,size:=sizeOfF 104,reads:=[(0,.rows 9 ratSch (.var 0) (.var 1) false 26),(5,.cells [.slx 0 9 (.var 0) (.num 0) qRC29 (.var 2)] 22),(6,.cells [.sint .i64 (.var 5)] 3),(7,.cells [.func (.func 60) [] []] 98)],pats:=[{ slots:=[(0,.yield 9),(1,.ptr 5 0),(2,.ptr 7 0),(3,.ptr 6 0),(5,.map 10),(14,.slx 0 9 (.var 0) (.num 0) qRC29 (.var 2)),(15,.sint .i64 qRC29),(16,.sint .i64 (.var 100))],heap:=[(10,.smap false [.int .i64] false [.bool] (.var 101))] }],exits:=[(.exit 0,{ slots:=[(0,.yield 9),(1,.ptr 5 0),(2,.ptr 7 0),(3,.ptr 6 0),(5,.map 10)],heap:=[(10,.smap false [.int .i64] false [.bool] (.app 203 [.var 1,.var 5]))] })],own:=[10],pre:=[(.app 202 [.var 1],true)],dfs:=[] }
noncomputable def lVr_run : Env→AF→ASt→Option (List Out):=bodyRun LP 9 (fun _ => noLoop) (yA Tryz.prog 104 0)
def lVr0_F : List (X×Bool):=[(qRC40,false)]
noncomputable def lVr0_t : FTree:=(.fork qRC43 (.fork qRC30 (.leaf [.again 0 []]) (.fork qRC44 (.leaf [.again 0 []]) (.leaf [.again 0 []]))) (.leaf [.leave 0 []]))
noncomputable def lVr0_l : List (List (X×Bool)×Option (List (Tgt×zp))):=[([(qRC30,true),(qRC43,true),(qRC40,false)],some [(.again 0 [],[(.var 100,qRC41),(.var 101,.var 101)])]),
 ([(qRC44,true),(qRC30,false),(qRC43,true),(qRC40,false)],some [(.again 0 [],[(.var 100,qRC41),(.var 101,.var 101)])]),
 ([(qRC44,false),(qRC30,false),(qRC43,true),(qRC40,false)],some [(.again 0 [],[(.var 100,qRC41),(.var 101,.op2 (.mput 1) (.var 101) (.snoc .nil [.op1 (.kind .i64) (.cell 8 (.var 1) (.var 100)),.boo true]))])]),
 ([(qRC43,false),(qRC40,false)],some [(.leave 0 [],[(.app 203 [.var 1,.var 5],.var 101)])])]
theorem lVr0_w (r : Rho) : lVr_D.ways lVr_run E0 r 0 lVr0_F lVr0_t = some lVr0_l:=by kernel_rfl
theorem lVr_ok : lVr_D.ok = true:=by kernel_rfl
def lVr_Inv (l : List Rat9) (K : Int) (j : Nat) (vals : List Value) : Prop:=j = 0∧∃ i : Nat,i≤l.length∧vals = [.int .i64 (i : Int),yH (y5 (zt (l.take i)) K)]
def lVr_mu (l : List Rat9) (_ : Nat) (vals : List Value) : Nat:=l.length - (vI (vals.getD 0 default)).toNat
theorem lVr_step {ρ : Rho} {l : List Rat9} {K : Int} {k5 : IntKind} (h1 : ρ.val 1 = some (ratsR l)) (h5 : ρ.val 5 = some (.int k5 K)) (hsy : ρ.sym = sy) (hsh : okR9 l = true) (j : Nat) (vals : List Value) (hI : lVr_Inv l K j vals) : yn lVr_D lVr_run E0 ρ (lVr_Inv l K) (lVr_mu l) j vals:=by
 obtain ⟨rfl,i,hi,rfl⟩:=hI
 have hN : lVr_D.N = 100:=rfl
 have hmax:=ok_len hsh
 have xl {jq vq}:=@xL ρ lVr_D.N 100 [.int .i64 (i : Int),yH (y5 (zt (l.take i)) K)] jq vq hN
 have xh {jq vq}:=@xH ρ lVr_D.N 100 [.int .i64 (i : Int),yH (y5 (zt (l.take i)) K)] jq vq hN
 have v1:=xl (jq:=1) h1 (by decide)
 have v5:=xl (jq:=5) h5 (by decide)
 have v100:=xh (jq:=100) (vq:=.int .i64 (i : Int)) rfl (by decide)
 have v101:=xh (jq:=101) (vq:=yH (y5 (zt (l.take i)) K)) rfl (by decide)
 have vs : (ρ.ext lVr_D.N [.int .i64 (i : Int),yH (y5 (zt (l.take i)) K)]).sym = sy:=hsy
 have hF : zf (ρ.ext lVr_D.N [.int .i64 (i : Int),yH (y5 (zt (l.take i)) K)]) lVr0_F:=by
  simp only [lVr0_F,zf,gB,zd,yV,yU,yW,yr,yq,zI,zJ,rats_len,zU,zH,v100,Option.some.injEq,Value.bool.injEq,decide_eq_false_iff_not,and_true]
  omega
 suffices both : y9 (ρ.ext lVr_D.N [.int .i64 (i : Int),yH (y5 (zt (l.take i)) K)]) (lVr0_t.asks lVr0_F)∧zD lVr_D ρ (lVr_Inv l K) (lVr_mu l) 0 [.int .i64 (i : Int),yH (y5 (zt (l.take i)) K)] lVr0_l from zC (lVr0_w _) hF both.1.ok both.2
 cases hp : l[i]? with
 | none =>
   have hge:=List.getElem?_eq_none_iff.1 hp
   have hge' : ¬ (i : Int) < l.length:=by omega
   obtain rfl : i = l.length:=by omega
   refine ⟨?_,?_⟩
   ·simp only [lVr0_t,lVr0_F,gA,gB,zd,yV,yU,yW,yr,yq,zI,zJ,rats_len,zU,zH,v1,v5,v100,v101,vs,ze,sym203,zF,zl,sym207,Int.toNat_natCast,hp,hge']
    try simp
   ·simp only [lVr0_l,gE,dZ,gB,zd,g3,yV,yU,yW,yr,yq,zI,zJ,rats_len,zU,zH,v1,v5,v100,v101,vs,h1,h5,hsy,ze,sym203,zF,zl,sym207,Int.toNat_natCast,hp,hge',reduceCtorEq,gR]
    try simp
 | some x =>
   have hil : i < l.length:=(List.getElem?_eq_some_iff.1 hp).1
   have hil1 : (i : Int) < l.length:=by omega
   have hw : IntKind.i64.wrap ((i : Int) + 1) = ((i + 1 : Nat) : Int):=by rw [IntWalk.i64_in _ (by omega)]; rfl
   have hnext : y5 (zt (l.take (i + 1))) K = if x.of_≠0∧x.known≤K then putF x.of_ true (y5 (zt (l.take i)) K) else y5 (zt (l.take i)) K:=by rw [List.take_add_one,hp]; exact (congrArg (fun h => y5 h K) (headsR9_snoc _ x)).trans (voidKh_snoc _ K _)
   have go : ∀ m,m = y5 (zt (l.take (i + 1))) K→∃ vals',((ρ.ext lVr_D.N vals').val 100 = some (.int .i64 ((i + 1 : Nat) : Int))∧(ρ.ext lVr_D.N vals').val 101 = some (yH m))∧lVr_Inv l K 0 vals'∧lVr_mu l 0 vals' < lVr_mu l 0 [.int .i64 (i : Int),yH (y5 (zt (l.take i)) K)]:=by
    rintro m rfl
    refine ⟨[.int .i64 ((i + 1 : Nat) : Int),yH (y5 (zt (l.take (i + 1))) K)],⟨?_,?_⟩,⟨rfl,i + 1,by omega,rfl⟩,?_⟩
    ·exact xH hN rfl (by decide)
    ·exact xH hN rfl (by decide)
    ·simp [lVr_mu,vI]; omega
   have g1 : ¬ (x.of_≠0∧x.known≤K)→y5 (zt (l.take i)) K = y5 (zt (l.take (i + 1))) K:=fun h => by rw [hnext,if_neg h]
   have g2 : (x.of_≠0∧x.known≤K)→putF x.of_ true (y5 (zt (l.take i)) K) = y5 (zt (l.take (i + 1))) K:=fun h => by rw [hnext,if_pos h]
   refine ⟨?_,?_⟩
   all_goals (simp only [lVr0_t,lVr0_F,lVr0_l,gA,gB,zd,yV,yU,yW,yr,yq,zI,zJ,rats_len,zU,zH,zR,zD,zh,zk,yw,yy,zr,zE,dZ,g3,v1,v5,v100,v101,vs,h1,h5,hsy,ze,sym203,zF,zl,sym207,Int.toNat_natCast,hp,Option.bind_some,gN,hil1,hw,reduceCtorEq,Bool.false_eq_true,false_implies,true_implies,and_true,true_and])
   all_goals (clear v1 v5 v100 v101 vs h1 h5 hsy hp hF)
   all_goals ((repeat' apply And.intro) <;> intros <;> first
    | trivial
    | (exfalso; omega)
    | (exact go _ (g1 (by omega)))
    | (exact go _ (g2 (by omega))))
noncomputable def lIf_D : LoopD:={ N:=200,M:=211,size:=sizeOfF 104,reads:=[(0,.rows 9 ratSch (.var 0) (.var 1) false 26),(5,.cells [.slx 0 9 (.var 0) (.num 0) qRC29 (.var 2)] 22),(6,.cells [.sint .i64 (.var 5)] 3),(7,.cells [.func (.func 60) [] []] 98),(10,.smap false [.int .i64] false [.bool] (.app 203 [.var 1,.var 5])),(1,.cells [.sstr (.var 3)] 9),(2,.cells [.sint .i64 (.var 4)] 3)],pats:=[{ slots:=[(0,.yield 9),(1,.ptr 5 0),(2,.ptr 7 0),(3,.ptr 6 0),(5,.map 10),(35,.slx 0 9 (.var 0) (.num 0) qRC29 (.var 2)),(36,.sint .i64 qRC29),(37,.sint .i64 (.var 200))],heap:=[(3,.cells [.sint .i64 (.var 201),.sint .i64 (.var 202),.sint .i64 (.var 203),.sstr (.var 204),.sint .i64 (.var 205),.sint .i64 (.var 206),.sint .i64 (.var 207),.sint .i64 (.var 208),.sint .i64 (.var 209)] 26),(4,.cells [.sbool (.var 210)] 4),(9,.loop { state:=.ready,pending:=none,tmps:=buildT [(5,.ptr 1 0),(6,.ptr 2 0),(8,.ptr 3 0),(9,.ptr 4 0)],size:=45,src:=.at_ 34 3,defers:=8 })] }],exits:=[(.exit 2,{ slots:=[],heap:=[(3,.cells [.sint .i64 (.app 205 [.var 1,.var 3,.var 4,.var 5,.num 0]),.sint .i64 (.app 205 [.var 1,.var 3,.var 4,.var 5,.num 1]),.sint .i64 (.app 205 [.var 1,.var 3,.var 4,.var 5,.num 2]),.sstr (.app 205 [.var 1,.var 3,.var 4,.var 5,.num 3]),.sint .i64 (.app 205 [.var 1,.var 3,.var 4,.var 5,.num 4]),.sint .i64 (.app 205 [.var 1,.var 3,.var 4,.var 5,.num 5]),.sint .i64 (.app 205 [.var 1,.var 3,.var 4,.var 5,.num 6]),.sint .i64 (.app 205 [.var 1,.var 3,.var 4,.var 5,.num 7]),.sint .i64 (.app 205 [.var 1,.var 3,.var 4,.var 5,.num 8])] 26),(4,.cells [.sbool (.app 204 [.var 1,.var 3,.var 4,.var 5])] 4),(9,.loop { state:=.ready,pending:=none,tmps:=buildT [(5,.ptr 1 0),(6,.ptr 2 0),(8,.ptr 3 0),(9,.ptr 4 0)],size:=45,src:=.at_ 34 3,defers:=8 })] })],own:=[3,4,9],pre:=[(.app 202 [.var 1],true)],dfs:=[] }
noncomputable def lIf_run : Env→AF→ASt→Option (List Out):=bodyRun LP 9 (fun _ => noLoop) (yA Tryz.prog 104 1)
def lIf0_F : List (X×Bool):=[(qRC15,false)]
noncomputable def lIf0_t : FTree:=(.fork qRC12 (.fork qRC8 (.fork qRC10 (.leaf [.again 0 []]) (.fork qRC0 (.fork qRC4 (.leaf [.again 0 []]) (.fork qRC18 (.fork qRC19 (.leaf [.again 0 []]) (.fork (.var 210) (.fork qRC13 (.leaf [.again 0 []]) (.leaf [.again 0 []])) (.leaf [.again 0 []]))) (.fork qRC21 (.fork qRC19 (.leaf [.again 0 []]) (.fork (.var 210) (.fork qRC13 (.leaf [.again 0 []]) (.leaf [.again 0 []])) (.leaf [.again 0 []]))) (.leaf [.again 0 []])))) (.fork qRC18 (.fork qRC19 (.leaf [.again 0 []]) (.fork (.var 210) (.fork qRC13 (.leaf [.again 0 []]) (.leaf [.again 0 []])) (.leaf [.again 0 []]))) (.fork qRC21 (.fork qRC19 (.leaf [.again 0 []]) (.fork (.var 210) (.fork qRC13 (.leaf [.again 0 []]) (.leaf [.again 0 []])) (.leaf [.again 0 []]))) (.leaf [.again 0 []]))))) (.leaf [.again 0 []])) (.leaf [.leave 0 []]))
noncomputable def lIf0_l : List (List (X×Bool)×Option (List (Tgt×zp))):=[([(qRC10,true),(qRC8,true),(qRC12,true),(qRC15,false)],some [(.again 0 [],[(.var 200,qRC9),(.var 201,.var 201),(.var 202,.var 202),(.var 203,.var 203),(.var 204,.var 204),(.var 205,.var 205),(.var 206,.var 206),(.var 207,.var 207),(.var 208,.var 208),(.var 209,.var 209),(.var 210,.var 210)])]),
 ((qRC4,true) :: (qRC0,true) :: qRCf0,some [(.again 0 [],[(.var 200,qRC9),(.var 201,.var 201),(.var 202,.var 202),(.var 203,.var 203),(.var 204,.var 204),(.var 205,.var 205),(.var 206,.var 206),(.var 207,.var 207),(.var 208,.var 208),(.var 209,.var 209),(.var 210,.var 210)])]),
 ((qRC19,true) :: (qRC18,true) :: qRCf3,some [(.again 0 [],[(.var 200,qRC9),(.var 201,.var 201),(.var 202,.var 202),(.var 203,.var 203),(.var 204,.var 204),(.var 205,.var 205),(.var 206,.var 206),(.var 207,.var 207),(.var 208,.var 208),(.var 209,.var 209),(.var 210,.var 210)])]),
 ((qRC13,true) :: (.var 210,true) :: (qRC19,false) :: (qRC18,true) :: qRCf3,some [(.again 0 [],[(.var 200,qRC9),(.var 201,.var 201),(.var 202,.var 202),(.var 203,.var 203),(.var 204,.var 204),(.var 205,.var 205),(.var 206,.var 206),(.var 207,.var 207),(.var 208,.var 208),(.var 209,.var 209),(.var 210,.var 210)])]),
 ((qRC13,false) :: (.var 210,true) :: (qRC19,false) :: (qRC18,true) :: qRCf3,some [(.again 0 [],[(.var 200,qRC9),(.var 201,qRC22),(.var 202,qRC23),(.var 203,qRC7),(.var 204,qRC2),(.var 205,qRC24),(.var 206,qRC25),(.var 207,qRC26),(.var 208,qRC27),(.var 209,qRC28),(.var 210,.boo true)])]),
 ((.var 210,false) :: (qRC19,false) :: (qRC18,true) :: qRCf3,some [(.again 0 [],[(.var 200,qRC9),(.var 201,qRC22),(.var 202,qRC23),(.var 203,qRC7),(.var 204,qRC2),(.var 205,qRC24),(.var 206,qRC25),(.var 207,qRC26),(.var 208,qRC27),(.var 209,qRC28),(.var 210,.boo true)])]),
 ((qRC19,true) :: (qRC21,true) :: (qRC18,false) :: qRCf3,some [(.again 0 [],[(.var 200,qRC9),(.var 201,.var 201),(.var 202,.var 202),(.var 203,.var 203),(.var 204,.var 204),(.var 205,.var 205),(.var 206,.var 206),(.var 207,.var 207),(.var 208,.var 208),(.var 209,.var 209),(.var 210,.var 210)])]),
 ((qRC13,true) :: (.var 210,true) :: qRCf8,some [(.again 0 [],[(.var 200,qRC9),(.var 201,.var 201),(.var 202,.var 202),(.var 203,.var 203),(.var 204,.var 204),(.var 205,.var 205),(.var 206,.var 206),(.var 207,.var 207),(.var 208,.var 208),(.var 209,.var 209),(.var 210,.var 210)])]),
 ((qRC13,false) :: (.var 210,true) :: qRCf8,some [(.again 0 [],[(.var 200,qRC9),(.var 201,qRC22),(.var 202,qRC23),(.var 203,qRC7),(.var 204,qRC2),(.var 205,qRC24),(.var 206,qRC25),(.var 207,qRC26),(.var 208,qRC27),(.var 209,qRC28),(.var 210,.boo true)])]),
 ((.var 210,false) :: qRCf8,some [(.again 0 [],[(.var 200,qRC9),(.var 201,qRC22),(.var 202,qRC23),(.var 203,qRC7),(.var 204,qRC2),(.var 205,qRC24),(.var 206,qRC25),(.var 207,qRC26),(.var 208,qRC27),(.var 209,qRC28),(.var 210,.boo true)])]),
 ((qRC21,false) :: (qRC18,false) :: qRCf3,some [(.again 0 [],[(.var 200,qRC9),(.var 201,.var 201),(.var 202,.var 202),(.var 203,.var 203),(.var 204,.var 204),(.var 205,.var 205),(.var 206,.var 206),(.var 207,.var 207),(.var 208,.var 208),(.var 209,.var 209),(.var 210,.var 210)])]),
 ((qRC19,true) :: (qRC18,true) :: (qRC0,false) :: qRCf0,some [(.again 0 [],[(.var 200,qRC9),(.var 201,.var 201),(.var 202,.var 202),(.var 203,.var 203),(.var 204,.var 204),(.var 205,.var 205),(.var 206,.var 206),(.var 207,.var 207),(.var 208,.var 208),(.var 209,.var 209),(.var 210,.var 210)])]),
 ((qRC13,true) :: (.var 210,true) :: qRCf9,some [(.again 0 [],[(.var 200,qRC9),(.var 201,.var 201),(.var 202,.var 202),(.var 203,.var 203),(.var 204,.var 204),(.var 205,.var 205),(.var 206,.var 206),(.var 207,.var 207),(.var 208,.var 208),(.var 209,.var 209),(.var 210,.var 210)])]),
 ((qRC13,false) :: (.var 210,true) :: qRCf9,some [(.again 0 [],[(.var 200,qRC9),(.var 201,qRC22),(.var 202,qRC23),(.var 203,qRC7),(.var 204,qRC2),(.var 205,qRC24),(.var 206,qRC25),(.var 207,qRC26),(.var 208,qRC27),(.var 209,qRC28),(.var 210,.boo true)])]),
 ((.var 210,false) :: qRCf9,some [(.again 0 [],[(.var 200,qRC9),(.var 201,qRC22),(.var 202,qRC23),(.var 203,qRC7),(.var 204,qRC2),(.var 205,qRC24),(.var 206,qRC25),(.var 207,qRC26),(.var 208,qRC27),(.var 209,qRC28),(.var 210,.boo true)])]),
 ((qRC19,true) :: qRCf7,some [(.again 0 [],[(.var 200,qRC9),(.var 201,.var 201),(.var 202,.var 202),(.var 203,.var 203),(.var 204,.var 204),(.var 205,.var 205),(.var 206,.var 206),(.var 207,.var 207),(.var 208,.var 208),(.var 209,.var 209),(.var 210,.var 210)])]),
 ((qRC13,true) :: (.var 210,true) :: (qRC19,false) :: qRCf7,some [(.again 0 [],[(.var 200,qRC9),(.var 201,.var 201),(.var 202,.var 202),(.var 203,.var 203),(.var 204,.var 204),(.var 205,.var 205),(.var 206,.var 206),(.var 207,.var 207),(.var 208,.var 208),(.var 209,.var 209),(.var 210,.var 210)])]),
 ((qRC13,false) :: (.var 210,true) :: (qRC19,false) :: qRCf7,some [(.again 0 [],[(.var 200,qRC9),(.var 201,qRC22),(.var 202,qRC23),(.var 203,qRC7),(.var 204,qRC2),(.var 205,qRC24),(.var 206,qRC25),(.var 207,qRC26),(.var 208,qRC27),(.var 209,qRC28),(.var 210,.boo true)])]),
 ((.var 210,false) :: (qRC19,false) :: qRCf7,some [(.again 0 [],[(.var 200,qRC9),(.var 201,qRC22),(.var 202,qRC23),(.var 203,qRC7),(.var 204,qRC2),(.var 205,qRC24),(.var 206,qRC25),(.var 207,qRC26),(.var 208,qRC27),(.var 209,qRC28),(.var 210,.boo true)])]),
 ((qRC21,false) :: (qRC18,false) :: (qRC0,false) :: qRCf0,some [(.again 0 [],[(.var 200,qRC9),(.var 201,.var 201),(.var 202,.var 202),(.var 203,.var 203),(.var 204,.var 204),(.var 205,.var 205),(.var 206,.var 206),(.var 207,.var 207),(.var 208,.var 208),(.var 209,.var 209),(.var 210,.var 210)])]),
 ([(qRC8,false),(qRC12,true),(qRC15,false)],some [(.again 0 [],[(.var 200,qRC9),(.var 201,.var 201),(.var 202,.var 202),(.var 203,.var 203),(.var 204,.var 204),(.var 205,.var 205),(.var 206,.var 206),(.var 207,.var 207),(.var 208,.var 208),(.var 209,.var 209),(.var 210,.var 210)])]),
 ([(qRC12,false),(qRC15,false)],some [(.leave 0 [],[(qRC31,.var 201),(qRC32,.var 202),(qRC33,.var 203),(qRC34,.var 204),(qRC35,.var 205),(qRC36,.var 206),(qRC37,.var 207),(qRC38,.var 208),(qRC39,.var 209),(qRC42,.var 210)])])]
theorem lIf0_w (r : Rho) : lIf_D.ways lIf_run E0 r 0 lIf0_F lIf0_t = some lIf0_l:=by kernel_rfl
theorem lIf_ok : lIf_D.ok = true:=by kernel_rfl
def lIf_Inv (l : List Rat9) (g : ByteArray) (h K : Int) (j : Nat) (vals : List Value) : Prop:=
 j = 0∧∃ (i : Nat) (B : Rat9) (S : Bool),i≤l.length∧vals = [.int .i64 (i : Int),.int .i64 B.id,.int .i64 B.known,.int .i64 B.from_,.string B.goods,.int .i64 B.num,.int .i64 B.den,.int .i64 B.cart,.int .i64 B.store,.int .i64 B.of_,.bool S]∧inFk l g h K i = (if S then some B else none)∧(S = false→B = zy)
def lIf_mu (l : List Rat9) (_ : Nat) (vals : List Value) : Nat:=l.length - (vI (vals.getD 0 default)).toNat
theorem stepR_is (l : List Rat9) (g : ByteArray) (h K : Int) (B x : Rat9) (S : Bool) : stepR l g h K (if S then some B else none) x = if ((cntR l K x && forR g h x) && (!S || precR x B)) = true then some x else (if S then some B else none):=by
 unfold stepR
 cases S <;> simp
theorem lIf_step {ρ : Rho} {l : List Rat9} {g : ByteArray} {h K : Int} {k4 k5 : IntKind} (h1 : ρ.val 1 = some (ratsR l)) (h3 : ρ.val 3 = some (.string g)) (h4 : ρ.val 4 = some (.int k4 h)) (h5 : ρ.val 5 = some (.int k5 K)) (hsy : ρ.sym = sy) (hsh : okR9 l = true) (j : Nat) (vals : List Value) (hI : lIf_Inv l g h K j vals) : yn lIf_D lIf_run E0 ρ (lIf_Inv l g h K) (lIf_mu l) j vals:=by
 obtain ⟨rfl,i,B,S,hi,rfl,hB,hz⟩:=hI
 have hN : lIf_D.N = 200:=rfl
 have hmax:=ok_len hsh
 have xl {jq vq}:=@xL ρ lIf_D.N 200 [.int .i64 (i : Int),.int .i64 B.id,.int .i64 B.known,.int .i64 B.from_,.string B.goods,.int .i64 B.num,.int .i64 B.den,.int .i64 B.cart,.int .i64 B.store,.int .i64 B.of_,.bool S] jq vq hN
 have xh {jq vq}:=@xH ρ lIf_D.N 200 [.int .i64 (i : Int),.int .i64 B.id,.int .i64 B.known,.int .i64 B.from_,.string B.goods,.int .i64 B.num,.int .i64 B.den,.int .i64 B.cart,.int .i64 B.store,.int .i64 B.of_,.bool S] jq vq hN
 have v1:=xl (jq:=1) h1 (by decide)
 have v3:=xl (jq:=3) h3 (by decide)
 have v4:=xl (jq:=4) h4 (by decide)
 have v5:=xl (jq:=5) h5 (by decide)
 have v200:=xh (jq:=200) (vq:=.int .i64 (i : Int)) rfl (by decide)
 have v201:=xh (jq:=201) (vq:=.int .i64 B.id) rfl (by decide)
 have v202:=xh (jq:=202) (vq:=.int .i64 B.known) rfl (by decide)
 have v203:=xh (jq:=203) (vq:=.int .i64 B.from_) rfl (by decide)
 have v204:=xh (jq:=204) (vq:=.string B.goods) rfl (by decide)
 have v205:=xh (jq:=205) (vq:=.int .i64 B.num) rfl (by decide)
 have v206:=xh (jq:=206) (vq:=.int .i64 B.den) rfl (by decide)
 have v207:=xh (jq:=207) (vq:=.int .i64 B.cart) rfl (by decide)
 have v208:=xh (jq:=208) (vq:=.int .i64 B.store) rfl (by decide)
 have v209:=xh (jq:=209) (vq:=.int .i64 B.of_) rfl (by decide)
 have v210:=xh (jq:=210) (vq:=.bool S) rfl (by decide)
 have vs : (ρ.ext lIf_D.N [.int .i64 (i : Int),.int .i64 B.id,.int .i64 B.known,.int .i64 B.from_,.string B.goods,.int .i64 B.num,.int .i64 B.den,.int .i64 B.cart,.int .i64 B.store,.int .i64 B.of_,.bool S]).sym = sy:=hsy
 have hF : zf (ρ.ext lIf_D.N [.int .i64 (i : Int),.int .i64 B.id,.int .i64 B.known,.int .i64 B.from_,.string B.goods,.int .i64 B.num,.int .i64 B.den,.int .i64 B.cart,.int .i64 B.store,.int .i64 B.of_,.bool S]) lIf0_F:=by
  simp only [lIf0_F,zf,gB,zd,yV,yU,yW,yr,yq,zI,zJ,rats_len,zU,zH,v200,Option.some.injEq,Value.bool.injEq,decide_eq_false_iff_not,and_true]
  omega
 suffices both : y9 (ρ.ext lIf_D.N [.int .i64 (i : Int),.int .i64 B.id,.int .i64 B.known,.int .i64 B.from_,.string B.goods,.int .i64 B.num,.int .i64 B.den,.int .i64 B.cart,.int .i64 B.store,.int .i64 B.of_,.bool S]) (lIf0_t.asks lIf0_F)∧zD lIf_D ρ (lIf_Inv l g h K) (lIf_mu l) 0 [.int .i64 (i : Int),.int .i64 B.id,.int .i64 B.known,.int .i64 B.from_,.string B.goods,.int .i64 B.num,.int .i64 B.den,.int .i64 B.cart,.int .i64 B.store,.int .i64 B.of_,.bool S] lIf0_l from zC (lIf0_w _) hF both.1.ok both.2
 cases hp : l[i]? with
 | none =>
   have hge:=List.getElem?_eq_none_iff.1 hp
   have hge' : ¬ (i : Int) < l.length:=by omega
   rw [inFk_all hge] at hB
   have hBB : (inF l g h K).getD zy = B:=by
    rw [hB]
    cases S with
    | false => exact (hz rfl).symm
    | true => rfl
   have hSS : (inF l g h K).isSome = S:=by rw [hB]; cases S <;> rfl
   have c0 : za l g h K 0 = some (.int .i64 ((inF l g h K).getD zy).id):=rfl
   have c1 : za l g h K 1 = some (.int .i64 ((inF l g h K).getD zy).known):=rfl
   have c2 : za l g h K 2 = some (.int .i64 ((inF l g h K).getD zy).from_):=rfl
   have c3 : za l g h K 3 = some (.string ((inF l g h K).getD zy).goods):=rfl
   have c4 : za l g h K 4 = some (.int .i64 ((inF l g h K).getD zy).num):=rfl
   have c5 : za l g h K 5 = some (.int .i64 ((inF l g h K).getD zy).den):=rfl
   have c6 : za l g h K 6 = some (.int .i64 ((inF l g h K).getD zy).cart):=rfl
   have c7 : za l g h K 7 = some (.int .i64 ((inF l g h K).getD zy).store):=rfl
   have c8 : za l g h K 8 = some (.int .i64 ((inF l g h K).getD zy).of_):=rfl
   rw [hBB] at c0 c1 c2 c3 c4 c5 c6 c7 c8
   refine ⟨?_,?_⟩
   ·simp only [lIf0_t,lIf0_F,gA,gB,zd,yV,yU,yW,yr,yq,zI,zJ,rats_len,zU,zH,v1,v3,v4,v5,v200,v201,v202,v203,v204,v205,v206,v207,v208,v209,v210,vs,ze,sym203,zF,zl,sym207,Int.toNat_natCast,hp,hge']
    try simp
   ·simp only [lIf0_l,gE,dZ,gB,zd,g3,yV,yU,yW,yr,yq,zI,zJ,rats_len,zU,zH,v1,v3,v4,v5,v200,v201,v202,v203,v204,v205,v206,v207,v208,v209,v210,vs,h1,h3,h4,h5,hsy,ze,sym203,zF,zl,sym207,Int.toNat_natCast,hp,hge',hSS,c0,c1,c2,c3,c4,c5,c6,c7,c8,reduceCtorEq,gR]
    try simp
 | some x =>
   have hil : i < l.length:=(List.getElem?_eq_some_iff.1 hp).1
   have hil1 : (i : Int) < l.length:=by omega
   have hw : IntKind.i64.wrap ((i : Int) + 1) = ((i + 1 : Nat) : Int):=by rw [IntWalk.i64_in _ (by omega)]; rfl
   have hnext : inFk l g h K (i + 1) = if ((cntR l K x && forR g h x) && (!S || precR x B)) = true then some x else (if S then some B else none):=by rw [inFk_next hp,hB,stepR_is]
   have hc : cntR l K x = ((x.of_ == 0 && decide (x.known≤K)) && !(atF (y5 (zt l) K) x.id)):=rfl
   have hf : forR g h x = ((x.goods == g || x.goods == z7 []) && decide (x.from_≤h)):=rfl
   have hpr : precR x B = decide (0≤precI x.goods x.from_ B.goods B.from_):=rfl
   have goA : ((cntR l K x && forR g h x) && (!S || precR x B)) = true→∃ vals',((ρ.ext lIf_D.N vals').val 200 = some (.int .i64 ((i + 1 : Nat) : Int))∧(ρ.ext lIf_D.N vals').val 201 = some (.int .i64 x.id)∧(ρ.ext lIf_D.N vals').val 202 = some (.int .i64 x.known)∧(ρ.ext lIf_D.N vals').val 203 = some (.int .i64 x.from_)∧(ρ.ext lIf_D.N vals').val 204 = some (.string x.goods)∧(ρ.ext lIf_D.N vals').val 205 = some (.int .i64 x.num)∧(ρ.ext lIf_D.N vals').val 206 = some (.int .i64 x.den)∧(ρ.ext lIf_D.N vals').val 207 = some (.int .i64 x.cart)∧(ρ.ext lIf_D.N vals').val 208 = some (.int .i64 x.store)∧(ρ.ext lIf_D.N vals').val 209 = some (.int .i64 x.of_)∧(ρ.ext lIf_D.N vals').val 210 = some (.bool true))∧lIf_Inv l g h K 0 vals'∧lIf_mu l 0 vals' < lIf_mu l 0 [.int .i64 (i : Int),.int .i64 B.id,.int .i64 B.known,.int .i64 B.from_,.string B.goods,.int .i64 B.num,.int .i64 B.den,.int .i64 B.cart,.int .i64 B.store,.int .i64 B.of_,.bool S]:=by
    intro hcond
    refine ⟨[.int .i64 ((i + 1 : Nat) : Int),.int .i64 x.id,.int .i64 x.known,.int .i64 x.from_,.string x.goods,.int .i64 x.num,.int .i64 x.den,.int .i64 x.cart,.int .i64 x.store,.int .i64 x.of_,.bool true],⟨?_,?_,?_,?_,?_,?_,?_,?_,?_,?_,?_⟩,⟨rfl,i + 1,x,true,by omega,rfl,by rw [hnext,if_pos hcond]; rfl,fun e => by cases e⟩,by simp [lIf_mu,vI]; omega⟩
    all_goals (exact xH hN rfl (by decide))
   have goK : ((cntR l K x && forR g h x) && (!S || precR x B)) = false→∃ vals',((ρ.ext lIf_D.N vals').val 200 = some (.int .i64 ((i + 1 : Nat) : Int))∧(ρ.ext lIf_D.N vals').val 201 = some (.int .i64 B.id)∧(ρ.ext lIf_D.N vals').val 202 = some (.int .i64 B.known)∧(ρ.ext lIf_D.N vals').val 203 = some (.int .i64 B.from_)∧(ρ.ext lIf_D.N vals').val 204 = some (.string B.goods)∧(ρ.ext lIf_D.N vals').val 205 = some (.int .i64 B.num)∧(ρ.ext lIf_D.N vals').val 206 = some (.int .i64 B.den)∧(ρ.ext lIf_D.N vals').val 207 = some (.int .i64 B.cart)∧(ρ.ext lIf_D.N vals').val 208 = some (.int .i64 B.store)∧(ρ.ext lIf_D.N vals').val 209 = some (.int .i64 B.of_)∧(ρ.ext lIf_D.N vals').val 210 = some (.bool S))∧lIf_Inv l g h K 0 vals'∧lIf_mu l 0 vals' < lIf_mu l 0 [.int .i64 (i : Int),.int .i64 B.id,.int .i64 B.known,.int .i64 B.from_,.string B.goods,.int .i64 B.num,.int .i64 B.den,.int .i64 B.cart,.int .i64 B.store,.int .i64 B.of_,.bool S]:=by
    intro hcond
    refine ⟨[.int .i64 ((i + 1 : Nat) : Int),.int .i64 B.id,.int .i64 B.known,.int .i64 B.from_,.string B.goods,.int .i64 B.num,.int .i64 B.den,.int .i64 B.cart,.int .i64 B.store,.int .i64 B.of_,.bool S],⟨?_,?_,?_,?_,?_,?_,?_,?_,?_,?_,?_⟩,⟨rfl,i + 1,B,S,by omega,rfl,by rw [hnext,if_neg (by rw [hcond]; decide)],hz⟩,by simp [lIf_mu,vI]; omega⟩
    all_goals (exact xH hN rfl (by decide))
   cases eV : hasF (y5 (zt l) K) x.id with
   | false =>
     have f3:=at_noF eV
     rw [f3] at hc
     refine ⟨?_,?_⟩
     all_goals (simp only [lIf0_t,lIf0_F,lIf0_l,gA,gB,zd,yV,yU,yW,yr,yq,zI,zJ,rats_len,zU,zH,zR,zD,zh,zk,yw,yy,zr,zE,dZ,g3,v1,v3,v4,v5,v200,v201,v202,v203,v204,v205,v206,v207,v208,v209,v210,vs,h1,h3,h4,h5,hsy,ze,sym203,zF,zl,sym207,Int.toNat_natCast,hp,Option.bind_some,gN,hil1,hw,eV,reduceCtorEq,Bool.false_eq_true,false_implies,true_implies,and_true,true_and])
     all_goals (clear v1 v3 v4 v5 v200 v201 v202 v203 v204 v205 v206 v207 v208 v209 v210 vs h1 h3 h4 h5 hsy hF)
     all_goals ((repeat' apply And.intro) <;> intros <;> first
      | trivial
      | contradiction
      | (refine goK ?_; rw [hc,hf,hpr]; simp_all; done)
      | (refine goK ?_; rw [hc,hf,hpr]; simp_all; omega)
      | (refine goA ?_; rw [hc,hf,hpr]; simp_all; done)
      | (refine goA ?_; rw [hc,hf,hpr]; simp_all; omega)
      | (refine goK ?_; rw [hc,hf,hpr]; simp_all; intros; omega)
      | (exfalso; omega)
      | (simp_all; done)
      )
   | true =>
     have f1:=d_atF1 (y5 (zt l) K) x.id eV
     refine ⟨?_,?_⟩
     all_goals (simp only [lIf0_t,lIf0_F,lIf0_l,gA,gB,zd,yV,yU,yW,yr,yq,zI,zJ,rats_len,zU,zH,zR,zD,zh,zk,yw,yy,zr,zE,dZ,g3,v1,v3,v4,v5,v200,v201,v202,v203,v204,v205,v206,v207,v208,v209,v210,vs,h1,h3,h4,h5,hsy,ze,sym203,zF,zl,sym207,Int.toNat_natCast,hp,Option.bind_some,gN,hil1,hw,eV,f1,reduceCtorEq,Bool.false_eq_true,false_implies,true_implies,and_true,true_and])
     all_goals (clear v1 v3 v4 v5 v200 v201 v202 v203 v204 v205 v206 v207 v208 v209 v210 vs h1 h3 h4 h5 hsy hF)
     all_goals ((repeat' apply And.intro) <;> intros <;> first
      | trivial
      | contradiction
      | (refine goK ?_; rw [hc,hf,hpr]; simp_all; done)
      | (refine goK ?_; rw [hc,hf,hpr]; simp_all; omega)
      | (refine goA ?_; rw [hc,hf,hpr]; simp_all; done)
      | (refine goA ?_; rw [hc,hf,hpr]; simp_all; omega)
      | (refine goK ?_; rw [hc,hf,hpr]; simp_all; intros; omega)
      | (exfalso; omega)
      | (simp_all; done)
      )
noncomputable def cIf_con : Con:={ f:=34,args:=[ratsArg 0 0,.one (.str 3),.one (.int .i64 4),.one (.int .i64 5)],N:=1,M:=1,pre:=[(.app 202 [.var 1],true)],out:=.tuple [.agg [.sint .i64 (.app 205 [.var 1,.var 3,.var 4,.var 5,.num 0]),.sint .i64 (.app 205 [.var 1,.var 3,.var 4,.var 5,.num 1]),.sint .i64 (.app 205 [.var 1,.var 3,.var 4,.var 5,.num 2]),.sstr (.app 205 [.var 1,.var 3,.var 4,.var 5,.num 3]),.sint .i64 (.app 205 [.var 1,.var 3,.var 4,.var 5,.num 4]),.sint .i64 (.app 205 [.var 1,.var 3,.var 4,.var 5,.num 5]),.sint .i64 (.app 205 [.var 1,.var 3,.var 4,.var 5,.num 6]),.sint .i64 (.app 205 [.var 1,.var 3,.var 4,.var 5,.num 7]),.sint .i64 (.app 205 [.var 1,.var 3,.var 4,.var 5,.num 8])],.sbool (.app 204 [.var 1,.var 3,.var 4,.var 5])],news:=[] }
noncomputable def cIf_call : Env→Za:=fun E => zS E (evH E (LP E) ((fun E => oneH 104 (hooks [(2,lVr_D.hook E.facts vd_vs),(9,lIf_D.hook E.facts if_vs)])) E) 12)
noncomputable def cIf_t : GTree:=(.leaf [[]])
noncomputable def cIf_l : List (List (X×Bool)×Option zp):=[([(.app 202 [.var 1],true)],some [(qRC31,qRC31),(qRC32,qRC32),(qRC33,qRC33),(qRC34,qRC34),(qRC35,qRC35),(qRC36,qRC36),(qRC37,qRC37),(qRC38,qRC38),(qRC39,qRC39),(qRC42,qRC42)])]
theorem cIf_w (r : Rho) : cIf_con.fn.ways cIf_call E0 r cIf_con.pre cIf_t = some cIf_l:=by kernel_rfl
theorem if_H {ρ : Rho} {l : List Rat9} {g : ByteArray} {h K : Int} {k4 k5 : IntKind} (h1 : ρ.val 1 = some (ratsR l)) (h3 : ρ.val 3 = some (.string g)) (h4 : ρ.val 4 = some (.int k4 h)) (h5 : ρ.val 5 = some (.int k5 K)) (hsy : ρ.sym = sy) (hsh : okR9 l = true) (F : List (X×Bool)) : LoopsOk (E0.with F ρ) (oneH 104 (hooks [(2,lVr_D.hook (E0.with F ρ).facts vd_vs),(9,lIf_D.hook (E0.with F ρ).facts if_vs)])):=by
 refine loops_all (n:=2) (fun f fn h => h) (by kernel_rfl) fun i hi => ?_
 have h01 : i = 0∨i = 1:=by omega
 rcases h01 with rfl | rfl
 ·rw [hooks_hit (show keyOf (yA (E0.with F ρ).P 104 0) = 2 by kernel_rfl)]
  refine hook_ok (E₀:=E0) (run:=lVr_run) (ρ:=ρ) (Inv:=lVr_Inv l K) (μ:=lVr_mu l) yQ lVr_ok (fun F r' h => ?_) (fun hp => ⟨lVr_step h1 h5 hsy hsh,[.int .i64 0,yH []],?_,rfl,0,Nat.zero_le _,rfl⟩)
  ·exact ye yQ (LP_ok F (h.trans hsy)) fun _ _ => yc
  ·simp only [vd_vs,gB,zd]
   rfl
 ·rw [hooks_miss (show Nat.beq (keyOf (yA (E0.with F ρ).P 104 1)) 2 = false by kernel_rfl),hooks_hit (show keyOf (yA (E0.with F ρ).P 104 1) = 9 by kernel_rfl)]
  refine hook_ok (E₀:=E0) (run:=lIf_run) (ρ:=ρ) (Inv:=lIf_Inv l g h K) (μ:=lIf_mu l) yQ lIf_ok (fun F r' h => ?_) (fun hp => ⟨lIf_step h1 h3 h4 h5 hsy hsh,[.int .i64 0,.int .i64 zy.id,.int .i64 zy.known,.int .i64 zy.from_,.string zy.goods,.int .i64 zy.num,.int .i64 zy.den,.int .i64 zy.cart,.int .i64 zy.store,.int .i64 zy.of_,.bool false],?_,rfl,0,zy,false,Nat.zero_le _,rfl,rfl,fun _ => rfl⟩)
  ·exact ye yQ (LP_ok F (h.trans hsy)) fun _ _ => yc
  ·simp only [if_vs,gB,zd]
   rfl
theorem cIf_cok : cIf_con.Ok Tryz.prog sy:=by
 intro r σ w us hsy hρ hpre hrel hins
 obtain ⟨l,h1⟩:=yK hrel rfl hρ
 obtain ⟨u0,us,rfl,g0,hi⟩:=zn hins
 obtain ⟨u1,us,rfl,g1,hi1⟩:=zn hi
 obtain ⟨u2,us,rfl,g2,hi2⟩:=zn hi1
 obtain ⟨u3,us,rfl,g3,hi3⟩:=zn hi2
 obtain ⟨g,rfl,h3⟩:=one_str g1
 obtain ⟨h,k4,rfl,h4⟩:=yl g2
 obtain ⟨K,k5,rfl,h5⟩:=yl g3
 rw [hρ] at h3 h4 h5
 have hsh : okR9 l = true:=by
  have:=hpre.1
  simpa only [gB,zd,yV,yU,yW,yr,yq,zI,zJ,rats_len,zU,zH,h1,hsy,ze,Option.some.injEq,Value.bool.injEq] using this
 have c0 : za l g h K 0 = some (.int .i64 ((inF l g h K).getD zy).id):=rfl
 have c1 : za l g h K 1 = some (.int .i64 ((inF l g h K).getD zy).known):=rfl
 have c2 : za l g h K 2 = some (.int .i64 ((inF l g h K).getD zy).from_):=rfl
 have c3 : za l g h K 3 = some (.string ((inF l g h K).getD zy).goods):=rfl
 have c4 : za l g h K 4 = some (.int .i64 ((inF l g h K).getD zy).num):=rfl
 have c5 : za l g h K 5 = some (.int .i64 ((inF l g h K).getD zy).den):=rfl
 have c6 : za l g h K 6 = some (.int .i64 ((inF l g h K).getD zy).cart):=rfl
 have c7 : za l g h K 7 = some (.int .i64 ((inF l g h K).getD zy).store):=rfl
 have c8 : za l g h K 8 = some (.int .i64 ((inF l g h K).getD zy).of_):=rfl
 refine y6 (E:=E0) yQ yC (sy:=sy) (fun F => LP_ok F hsy) (fun F => if_H h1 h3 h4 h5 hsy hsh F) (cIf_w r) hρ hpre hrel hins ?_ ?_
 ·simp only [cIf_con,cIf_t,gA,gB,zd,yV,yU,yW,yr,yq,zI,zJ,rats_len,zU,zH,h1,h3,h4,h5,hsy,ze,sym203,zF,zl,sym207,c0,c1,c2,c3,c4,c5,c6,c7,c8]
  try simp
 ·simp only [cIf_l,gE,dZ,gB,zd,g3,yV,yU,yW,yr,yq,zI,zJ,rats_len,zU,zH,h1,h3,h4,h5,hsy,ze,sym203,zF,zl,sym207,c0,c1,c2,c3,c4,c5,c6,c7,c8]
  try simp
open Go
noncomputable def LQ : Env→yj:=libs [cLib cCkr_con,cLib cIf_con]
theorem LQ_ok (F : List (X×Bool)) {r : Rho} (h : r.sym = sy) : zu (E0.with F r) (LQ (E0.with F r)):=libs_ok fun c hc => by
 simp only [List.mem_cons,List.not_mem_nil,or_false] at hc
 rcases hc with rfl | rfl
 ·exact ya (E:=E0) cCkr_cok F h
 ·exact ya (E:=E0) cIf_cok F h
abbrev qRD0 : X:=.app 205 [.var 1,.var 3,.var 4,.var 5,.num 0]
abbrev qRD1 : X:=.op2 .eq (.app 200 [.var 1]) (.num 0)
abbrev qRD2 : X:=.op2 .eq (.app 200 [.var 1]) (.num 0)
abbrev qRD3 : X:=.app 205 [.var 1,.var 3,.var 4,.var 5,.num 1]
abbrev qRD4 : X:=.app 205 [.var 1,.var 3,.var 4,.var 5,.num 2]
abbrev qRD5 : X:=.app 205 [.var 1,.var 3,.var 4,.var 5,.num 3]
abbrev qRD6 : X:=.app 205 [.var 1,.var 3,.var 4,.var 5,.num 4]
abbrev qRD7 : X:=.app 205 [.var 1,.var 3,.var 4,.var 5,.num 5]
abbrev qRD8 : X:=.app 205 [.var 1,.var 3,.var 4,.var 5,.num 6]
abbrev qRD9 : X:=.app 205 [.var 1,.var 3,.var 4,.var 5,.num 7]
noncomputable def cRoE_con : Con:={ f:=9,args:=[ratsArg 0 0,.one (.str 3),.one (.int .i64 4),.one (.int .i64 5)],N:=1,M:=1,pre:=[(.app 202 [.var 1],true),(qRD2,false)],out:=.tuple [.agg [.int .i64 0,.int .i64 0,.int .i64 0,.str [],.int .i64 0,.int .i64 0,.int .i64 0,.int .i64 0,.int .i64 0],.sint .i64 (.app 200 [.var 1])],news:=[] }
noncomputable def cRoE_call : Env→Za:=fun E => zS E (evH E (LQ E) ((fun _ => yX) E) 12)
noncomputable def cRoE_t : GTree:=(.leaf [[]])
noncomputable def cRoE_l : List (List (X×Bool)×Option zp):=[([(.app 202 [.var 1],true),(qRD1,false)],some [(.app 200 [.var 1],.app 200 [.var 1])])]
theorem cRoE_w (r : Rho) : cRoE_con.fn.ways cRoE_call E0 r cRoE_con.pre cRoE_t = some cRoE_l:=by kernel_rfl
theorem cRoE_cok : cRoE_con.Ok Tryz.prog sy:=by
 intro r σ w us hsy hρ hpre hrel hins
 obtain ⟨l,h1⟩:=yK hrel rfl hρ
 obtain ⟨u0,us,rfl,g0,hi⟩:=zn hins
 obtain ⟨u1,us,rfl,g1,hi1⟩:=zn hi
 obtain ⟨u2,us,rfl,g2,hi2⟩:=zn hi1
 obtain ⟨u3,us,rfl,g3,hi3⟩:=zn hi2
 obtain ⟨g,rfl,h3⟩:=one_str g1
 obtain ⟨h,k4,rfl,h4⟩:=yl g2
 obtain ⟨K,k5,rfl,h5⟩:=yl g3
 rw [hρ] at h3 h4 h5
 have c0 : za l g h K 0 = some (.int .i64 ((inF l g h K).getD zy).id):=rfl
 have c1 : za l g h K 1 = some (.int .i64 ((inF l g h K).getD zy).known):=rfl
 have c2 : za l g h K 2 = some (.int .i64 ((inF l g h K).getD zy).from_):=rfl
 have c3 : za l g h K 3 = some (.string ((inF l g h K).getD zy).goods):=rfl
 have c4 : za l g h K 4 = some (.int .i64 ((inF l g h K).getD zy).num):=rfl
 have c5 : za l g h K 5 = some (.int .i64 ((inF l g h K).getD zy).den):=rfl
 have c6 : za l g h K 6 = some (.int .i64 ((inF l g h K).getD zy).cart):=rfl
 have c7 : za l g h K 7 = some (.int .i64 ((inF l g h K).getD zy).store):=rfl
 have c8 : za l g h K 8 = some (.int .i64 ((inF l g h K).getD zy).of_):=rfl
 refine y6 (E:=E0) yQ yC (sy:=sy) (fun F => LQ_ok F hsy) (fun F => noH_ok) (cRoE_w r) hρ hpre hrel hins ?_ ?_
 ·simp only [cRoE_con,cRoE_t,gA,gB,zd,yV,yU,yW,yr,yq,zI,zJ,rats_len,zU,zH,h1,h3,h4,h5,hsy,zi,zG,ze,sym203,zF,zl,sym207,c0,c1,c2,c3,c4,c5,c6,c7,c8]
  try simp
 ·simp only [cRoE_l,gE,dZ,gB,zd,g3,yV,yU,yW,yr,yq,zI,zJ,rats_len,zU,zH,h1,h3,h4,h5,hsy,zi,zG,ze,sym203,zF,zl,sym207,c0,c1,c2,c3,c4,c5,c6,c7,c8]
  try simp
noncomputable def cRoN_con : Con:={ f:=9,args:=[ratsArg 0 0,.one (.str 3),.one (.int .i64 4),.one (.int .i64 5)],N:=1,M:=1,pre:=[(.app 202 [.var 1],true),(qRD2,true),(.app 204 [.var 1,.var 3,.var 4,.var 5],false)],out:=.tuple [.agg [.int .i64 0,.int .i64 0,.int .i64 0,.str [],.int .i64 0,.int .i64 0,.int .i64 0,.int .i64 0,.int .i64 0],.int .i64 60],news:=[] }
noncomputable def cRoN_call : Env→Za:=fun E => zS E (evH E (LQ E) ((fun _ => yX) E) 12)
noncomputable def cRoN_t : GTree:=(.leaf [[]])
noncomputable def cRoN_l : List (List (X×Bool)×Option zp):=[([(.app 202 [.var 1],true),(qRD1,true),(.app 204 [.var 1,.var 3,.var 4,.var 5],false)],some [])]
theorem cRoN_w (r : Rho) : cRoN_con.fn.ways cRoN_call E0 r cRoN_con.pre cRoN_t = some cRoN_l:=by kernel_rfl
theorem cRoN_cok : cRoN_con.Ok Tryz.prog sy:=by
 intro r σ w us hsy hρ hpre hrel hins
 obtain ⟨l,h1⟩:=yK hrel rfl hρ
 obtain ⟨u0,us,rfl,g0,hi⟩:=zn hins
 obtain ⟨u1,us,rfl,g1,hi1⟩:=zn hi
 obtain ⟨u2,us,rfl,g2,hi2⟩:=zn hi1
 obtain ⟨u3,us,rfl,g3,hi3⟩:=zn hi2
 obtain ⟨g,rfl,h3⟩:=one_str g1
 obtain ⟨h,k4,rfl,h4⟩:=yl g2
 obtain ⟨K,k5,rfl,h5⟩:=yl g3
 rw [hρ] at h3 h4 h5
 have c0 : za l g h K 0 = some (.int .i64 ((inF l g h K).getD zy).id):=rfl
 have c1 : za l g h K 1 = some (.int .i64 ((inF l g h K).getD zy).known):=rfl
 have c2 : za l g h K 2 = some (.int .i64 ((inF l g h K).getD zy).from_):=rfl
 have c3 : za l g h K 3 = some (.string ((inF l g h K).getD zy).goods):=rfl
 have c4 : za l g h K 4 = some (.int .i64 ((inF l g h K).getD zy).num):=rfl
 have c5 : za l g h K 5 = some (.int .i64 ((inF l g h K).getD zy).den):=rfl
 have c6 : za l g h K 6 = some (.int .i64 ((inF l g h K).getD zy).cart):=rfl
 have c7 : za l g h K 7 = some (.int .i64 ((inF l g h K).getD zy).store):=rfl
 have c8 : za l g h K 8 = some (.int .i64 ((inF l g h K).getD zy).of_):=rfl
 refine y6 (E:=E0) yQ yC (sy:=sy) (fun F => LQ_ok F hsy) (fun F => noH_ok) (cRoN_w r) hρ hpre hrel hins ?_ ?_
 ·simp only [cRoN_con,cRoN_t,gA,gB,zd,yV,yU,yW,yr,yq,zI,zJ,rats_len,zU,zH,h1,h3,h4,h5,hsy,zi,zG,ze,sym203,zF,zl,sym207,c0,c1,c2,c3,c4,c5,c6,c7,c8]
  try simp
 ·simp only [cRoN_l,gE,dZ,gB,zd,g3,yV,yU,yW,yr,yq,zI,zJ,rats_len,zU,zH,h1,h3,h4,h5,hsy,zi,zG,ze,sym203,zF,zl,sym207,c0,c1,c2,c3,c4,c5,c6,c7,c8]
  try simp
noncomputable def cRoY_con : Con:={ f:=9,args:=[ratsArg 0 0,.one (.str 3),.one (.int .i64 4),.one (.int .i64 5)],N:=1,M:=1,pre:=[(.app 202 [.var 1],true),(qRD2,true),(.app 204 [.var 1,.var 3,.var 4,.var 5],true)],out:=.tuple [.agg [.sint .i64 (.app 205 [.var 1,.var 3,.var 4,.var 5,.num 0]),.sint .i64 (.app 205 [.var 1,.var 3,.var 4,.var 5,.num 1]),.sint .i64 (.app 205 [.var 1,.var 3,.var 4,.var 5,.num 2]),.sstr (.app 205 [.var 1,.var 3,.var 4,.var 5,.num 3]),.sint .i64 (.app 205 [.var 1,.var 3,.var 4,.var 5,.num 4]),.sint .i64 (.app 205 [.var 1,.var 3,.var 4,.var 5,.num 5]),.sint .i64 (.app 205 [.var 1,.var 3,.var 4,.var 5,.num 6]),.sint .i64 (.app 205 [.var 1,.var 3,.var 4,.var 5,.num 7]),.sint .i64 (.app 205 [.var 1,.var 3,.var 4,.var 5,.num 8])],.int .i64 0],news:=[] }
noncomputable def cRoY_call : Env→Za:=fun E => zS E (evH E (LQ E) ((fun _ => yX) E) 12)
noncomputable def cRoY_t : GTree:=(.leaf [[]])
noncomputable def cRoY_l : List (List (X×Bool)×Option zp):=[([(.app 202 [.var 1],true),(qRD1,true),(.app 204 [.var 1,.var 3,.var 4,.var 5],true)],some [(qRD0,qRD0),(qRD3,qRD3),(qRD4,qRD4),(qRD5,qRD5),(qRD6,qRD6),(qRD7,qRD7),(qRD8,qRD8),(qRD9,qRD9),(.app 205 [.var 1,.var 3,.var 4,.var 5,.num 8],.app 205 [.var 1,.var 3,.var 4,.var 5,.num 8])])]
theorem cRoY_w (r : Rho) : cRoY_con.fn.ways cRoY_call E0 r cRoY_con.pre cRoY_t = some cRoY_l:=by kernel_rfl
theorem cRoY_cok : cRoY_con.Ok Tryz.prog sy:=by
 intro r σ w us hsy hρ hpre hrel hins
 obtain ⟨l,h1⟩:=yK hrel rfl hρ
 obtain ⟨u0,us,rfl,g0,hi⟩:=zn hins
 obtain ⟨u1,us,rfl,g1,hi1⟩:=zn hi
 obtain ⟨u2,us,rfl,g2,hi2⟩:=zn hi1
 obtain ⟨u3,us,rfl,g3,hi3⟩:=zn hi2
 obtain ⟨g,rfl,h3⟩:=one_str g1
 obtain ⟨h,k4,rfl,h4⟩:=yl g2
 obtain ⟨K,k5,rfl,h5⟩:=yl g3
 rw [hρ] at h3 h4 h5
 have c0 : za l g h K 0 = some (.int .i64 ((inF l g h K).getD zy).id):=rfl
 have c1 : za l g h K 1 = some (.int .i64 ((inF l g h K).getD zy).known):=rfl
 have c2 : za l g h K 2 = some (.int .i64 ((inF l g h K).getD zy).from_):=rfl
 have c3 : za l g h K 3 = some (.string ((inF l g h K).getD zy).goods):=rfl
 have c4 : za l g h K 4 = some (.int .i64 ((inF l g h K).getD zy).num):=rfl
 have c5 : za l g h K 5 = some (.int .i64 ((inF l g h K).getD zy).den):=rfl
 have c6 : za l g h K 6 = some (.int .i64 ((inF l g h K).getD zy).cart):=rfl
 have c7 : za l g h K 7 = some (.int .i64 ((inF l g h K).getD zy).store):=rfl
 have c8 : za l g h K 8 = some (.int .i64 ((inF l g h K).getD zy).of_):=rfl
 refine y6 (E:=E0) yQ yC (sy:=sy) (fun F => LQ_ok F hsy) (fun F => noH_ok) (cRoY_w r) hρ hpre hrel hins ?_ ?_
 ·simp only [cRoY_con,cRoY_t,gA,gB,zd,yV,yU,yW,yr,yq,zI,zJ,rats_len,zU,zH,h1,h3,h4,h5,hsy,zi,zG,ze,sym203,zF,zl,sym207,c0,c1,c2,c3,c4,c5,c6,c7,c8]
  try simp
 ·simp only [cRoY_l,gE,dZ,gB,zd,g3,yV,yU,yW,yr,yq,zI,zJ,rats_len,zU,zH,h1,h3,h4,h5,hsy,zi,zG,ze,sym203,zF,zl,sym207,c0,c1,c2,c3,c4,c5,c6,c7,c8]
  try simp
noncomputable def cId_con : Con:={ f:=38,args:=[ratsArg 0 0,.one (.str 3),.one (.int .i64 4),.one (.int .i64 5)],N:=1,M:=1,pre:=[(.app 202 [.var 1],true)],out:=.sint .i64 (.app 205 [.var 1,.var 3,.var 4,.var 5,.num 0]),news:=[] }
noncomputable def cId_call : Env→Za:=fun E => zS E (evH E (LQ E) ((fun _ => yX) E) 12)
noncomputable def cId_t : GTree:=(.leaf [[]])
noncomputable def cId_l : List (List (X×Bool)×Option zp):=[([(.app 202 [.var 1],true)],some [(qRD0,qRD0)])]
theorem cId_w (r : Rho) : cId_con.fn.ways cId_call E0 r cId_con.pre cId_t = some cId_l:=by kernel_rfl
theorem cId_cok : cId_con.Ok Tryz.prog sy:=by
 intro r σ w us hsy hρ hpre hrel hins
 obtain ⟨l,h1⟩:=yK hrel rfl hρ
 obtain ⟨u0,us,rfl,g0,hi⟩:=zn hins
 obtain ⟨u1,us,rfl,g1,hi1⟩:=zn hi
 obtain ⟨u2,us,rfl,g2,hi2⟩:=zn hi1
 obtain ⟨u3,us,rfl,g3,hi3⟩:=zn hi2
 obtain ⟨g,rfl,h3⟩:=one_str g1
 obtain ⟨h,k4,rfl,h4⟩:=yl g2
 obtain ⟨K,k5,rfl,h5⟩:=yl g3
 rw [hρ] at h3 h4 h5
 have c0 : za l g h K 0 = some (.int .i64 ((inF l g h K).getD zy).id):=rfl
 have c1 : za l g h K 1 = some (.int .i64 ((inF l g h K).getD zy).known):=rfl
 have c2 : za l g h K 2 = some (.int .i64 ((inF l g h K).getD zy).from_):=rfl
 have c3 : za l g h K 3 = some (.string ((inF l g h K).getD zy).goods):=rfl
 have c4 : za l g h K 4 = some (.int .i64 ((inF l g h K).getD zy).num):=rfl
 have c5 : za l g h K 5 = some (.int .i64 ((inF l g h K).getD zy).den):=rfl
 have c6 : za l g h K 6 = some (.int .i64 ((inF l g h K).getD zy).cart):=rfl
 have c7 : za l g h K 7 = some (.int .i64 ((inF l g h K).getD zy).store):=rfl
 have c8 : za l g h K 8 = some (.int .i64 ((inF l g h K).getD zy).of_):=rfl
 refine y6 (E:=E0) yQ yC (sy:=sy) (fun F => LQ_ok F hsy) (fun F => noH_ok) (cId_w r) hρ hpre hrel hins ?_ ?_
 ·simp only [cId_con,cId_t,gA,gB,zd,yV,yU,yW,yr,yq,zI,zJ,rats_len,zU,zH,h1,h3,h4,h5,hsy,zi,zG,ze,sym203,zF,zl,sym207,c0,c1,c2,c3,c4,c5,c6,c7,c8]
  try simp
 ·simp only [cId_l,gE,dZ,gB,zd,g3,yV,yU,yW,yr,yq,zI,zJ,rats_len,zU,zH,h1,h3,h4,h5,hsy,zi,zG,ze,sym203,zF,zl,sym207,c0,c1,c2,c3,c4,c5,c6,c7,c8]
  try simp
end Go.Proofs.YtfddkbbjnghefaaGreatDoor.Zs
