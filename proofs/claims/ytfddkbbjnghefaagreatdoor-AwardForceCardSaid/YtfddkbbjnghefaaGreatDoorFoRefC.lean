/-
  Contracts of the reference: the best rate, RateOf, AppendRate.
-/
import Derived.Test.YtfddkbbjnghefaaGreatDoorFoRefB
import Derived.KernelRfl
set_option linter.unusedSimpArgs false
set_option maxHeartbeats 4000000
set_option linter.unusedVariables false
namespace Go.Proofs.YtfddkbbjnghefaaGreatDoor.Zs
open Go
noncomputable def RBL : Env→yi:=libs [cLib rSsN_con,cLib rSsY_con,cLib rCt_con]
theorem RBL_ok (F : List (X×Bool)) {r : Rho} (h : r.sym = sy) : zt (E0.with F r) (RBL (E0.with F r)):=yU fun c hc => by
 simp only [List.mem_cons,List.not_mem_nil,or_false] at hc
 rcases hc with rfl | rfl | rfl
 ·exact zH (E:=E0) rSsN_cok F h
 ·exact zH (E:=E0) rSsY_cok F h
 ·exact zH (E:=E0) rCt_cok F h
def rbs_vs : List X:=[.num 0,.num (-1)]
abbrev qRM0 : X:=.app 182 [.app 206 [.var 1],.cell 0 (.app 206 [.var 1]) (.var 100),.cell 1 (.app 206 [.var 1]) (.var 100),.cell 2 (.app 206 [.var 1]) (.var 100),.var 5]
abbrev qRM1 : X:=.op1 .len (.app 206 [.var 1])
abbrev qRM2 : X:=.op1 .len (.var 1)
abbrev qRM3 : X:=.app 214 [.var 1,.var 3,.var 4,.var 5]
abbrev qRM4 : X:=.op2 .eqs (.cell 3 (.var 1) (.var 100)) (.var 3)
abbrev qRM5 : X:=.op2 .lt (.var 100) (.num 0)
abbrev qRM6 : X:=.op1 (.wrap .i64) (.op2 .add (.var 100) (.num 1))
abbrev qRM7 : X:=.op2 .lt (.var 4) (.cell 2 (.var 1) (.var 100))
abbrev qRM8 : X:=.op2 .lt (.var 100) qRM2
abbrev qRM9 : X:=.app 202 [.var 1]
abbrev qRM10 : X:=.op2 .lt (.var 100) qRM1
abbrev qRM11 : X:=.op2 .lt (.num 1010) qRM1
abbrev qRM12 : X:=.op2 .lt (.num 0) qRM2
abbrev qRM13 : X:=.op2 .lt (.cell 2 (.var 1) (.var 100)) (.cell 2 (.var 1) (.var 101))
abbrev qRM14 : X:=.op2 .lt (.var 101) (.num 0)
abbrev qRM15 : X:=.op2 .lt (.var 101) qRM2
abbrev qRMf1 : List (X×Bool):=[(qRM8,true),(qRM5,false),(qRM9,true)]
abbrev qRMf0 : List (X×Bool):=(qRM0,true) :: (qRM11,false) :: (qRM10,true) :: qRMf1
abbrev qRMf2 : List (X×Bool):=(qRM14,false) :: (qRM7,false) :: (qRM4,true) :: qRMf0
noncomputable def lBs_D : LoopD:={ N:=100,M:=102,size:=Zk 76,reads:=[(0,.rows 9 ratSch (.var 0) (.var 1) false 26),(1,.rows 3 hdSch (.num 0) (.app 206 [.var 1]) true 118)],pats:=[{ slots:=[(0,.slx 0 9 (.var 0) (.num 0) qRM2 (.var 2)),(1,.sstr (.var 3)),(2,.sint .i64 (.var 4)),(3,.sint .i64 (.var 5)),(9,.slo 1 3 (.op1 .len (.app 206 [.var 1]))),(10,.sint .i64 (.var 101)),(11,.sint .i64 (.var 100))],heap:=[] }],exits:=[(.exit 0,{ slots:=[(10,.sint .i64 (.app 214 [.var 1,.var 3,.var 4,.var 5]))],heap:=[] })],own:=[],pre:=[(.app 202 [.var 1],true)],dfs:=[] }
noncomputable def lBs_run : Env→AF→ASt→Option (List Out):=Zh RBL 9 (fun _ => Zl) (yh Tryz.prog 76 0)
def lBs0_F : List (X×Bool):=[(qRM5,false),(.app 202 [.var 1],true)]
noncomputable def lBs0_t : FTree:=(.fork qRM8 (.fork qRM10 (.fork qRM11 .bad (.fork qRM0 (.fork qRM4 (.fork qRM7 (.leaf [.again 0 []]) (.fork qRM14 (.leaf [.again 0 []]) (.fork qRM15 (.fork qRM13 (.leaf [.again 0 []]) (.leaf [.again 0 []])) .bad))) (.leaf [.again 0 []])) (.leaf [.again 0 []]))) .bad) (.leaf [.leave 0 []]))
noncomputable def lBs0_l : List (List (X×Bool)×Option (List (Tgt×zo))):=[((qRM11,true) :: (qRM10,true) :: qRMf1,none),
 ((qRM7,true) :: (qRM4,true) :: qRMf0,some [(.again 0 [],[(.var 101,.var 101),(.var 100,qRM6)])]),
 ((qRM14,true) :: (qRM7,false) :: (qRM4,true) :: qRMf0,some [(.again 0 [],[(.var 101,.var 100),(.var 100,qRM6)])]),
 ((qRM13,true) :: (qRM15,true) :: qRMf2,some [(.again 0 [],[(.var 101,.var 101),(.var 100,qRM6)])]),
 ((qRM13,false) :: (qRM15,true) :: qRMf2,some [(.again 0 [],[(.var 101,.var 100),(.var 100,qRM6)])]),
 ((qRM15,false) :: qRMf2,none),
 ((qRM4,false) :: qRMf0,some [(.again 0 [],[(.var 101,.var 101),(.var 100,qRM6)])]),
 ((qRM0,false) :: (qRM11,false) :: (qRM10,true) :: qRMf1,some [(.again 0 [],[(.var 101,.var 101),(.var 100,qRM6)])]),
 ((qRM10,false) :: qRMf1,none),
 ([(qRM8,false),(qRM5,false),(qRM9,true)],some [(.leave 0 [],[(qRM3,.var 101)])])]
theorem lBs0_w (r : Rho) : lBs_D.ways lBs_run E0 r 0 lBs0_F lBs0_t = some lBs0_l:=by kernel_rfl
theorem lBs_ok : lBs_D.ok = true:=by kernel_rfl
theorem best_lt (l : List Rat9) (g : ByteArray) (h K : Int) : ∀ n : Nat,yF l g h K n < n∧-1≤yF l g h K n
 | 0 => by simp [yF]
 | n + 1 => by
   have ih:=best_lt l g h K n
   rw [bestIk_next]
   unfold bestStep
   generalize (cntH (zj l) (l.getD n zC).id (l.getD n zC).known (l.getD n zC).of_ K && _) = c
   cases c <;> simp only [cond_true,cond_false] <;> omega
def lBs_Inv (l : List Rat9) (g : ByteArray) (h K : Int) (j : Nat) (vals : List Value) : Prop:=j = 0∧∃ i : Nat,i≤l.length∧vals = [.int .i64 (i : Int),.int .i64 (yF l g h K i)]
def lBs_mu (l : List Rat9) (_ : Nat) (vals : List Value) : Nat:=l.length - (vI (vals.getD 0 default)).toNat
theorem lBs_step {ρ : Rho} {l : List Rat9} {g : ByteArray} {h K : Int} {k4 k5 : IntKind} (h1 : ρ.val 1 = some (ratsR l)) (h3 : ρ.val 3 = some (.string g)) (h4 : ρ.val 4 = some (.int k4 h)) (h5 : ρ.val 5 = some (.int k5 K)) (hsy : ρ.sym = sy) (hsh : okR9 l = true) (j : Nat) (vals : List Value) (hI : lBs_Inv l g h K j vals) : yI lBs_D lBs_run E0 ρ (lBs_Inv l g h K) (lBs_mu l) j vals:=by
 obtain ⟨rfl,i,hi,rfl⟩:=hI
 have hN : lBs_D.N = 100:=rfl
 have hmax:=ok_len hsh
 have xl {jq vq}:=@xL ρ lBs_D.N 100 [.int .i64 (i : Int),.int .i64 (yF l g h K i)] jq vq hN
 have xh {jq vq}:=@xH ρ lBs_D.N 100 [.int .i64 (i : Int),.int .i64 (yF l g h K i)] jq vq hN
 have v1:=xl (jq:=1) h1 (by decide)
 have v3:=xl (jq:=3) h3 (by decide)
 have v4:=xl (jq:=4) h4 (by decide)
 have v5:=xl (jq:=5) h5 (by decide)
 have v100:=xh (jq:=100) (vq:=.int .i64 (i : Int)) rfl (by decide)
 have v101:=xh (jq:=101) (vq:=.int .i64 (yF l g h K i)) rfl (by decide)
 have vs : (ρ.ext lBs_D.N [.int .i64 (i : Int),.int .i64 (yF l g h K i)]).sym = sy:=hsy
 have hF : zp (ρ.ext lBs_D.N [.int .i64 (i : Int),.int .i64 (yF l g h K i)]) lBs0_F:=by
  simp only [lBs0_F,zp,gB,za,zh,gHds,zm,zd,v1,v100,vs,zg,hsh,Option.some.injEq,Value.bool.injEq,decide_eq_false_iff_not,and_true]
  omega
 suffices both : Zp (ρ.ext lBs_D.N [.int .i64 (i : Int),.int .i64 (yF l g h K i)]) (lBs0_t.asks lBs0_F)∧zR lBs_D ρ (lBs_Inv l g h K) (lBs_mu l) 0 [.int .i64 (i : Int),.int .i64 (yF l g h K i)] lBs0_l from zD (lBs0_w _) hF both.1.ok both.2
 have hb:=best_lt l g h K i
 cases hp : l[i]? with
 | none =>
   have hge:=List.getElem?_eq_none_iff.1 hp
   have hge' : ¬ (i : Int) < l.length:=by omega
   have he : (yF l g h K i) = bestI l g h K:=by rw [show i = l.length by omega]; rfl
   refine ⟨?_,?_⟩
   ·simp only [lBs0_t,lBs0_F,gA,gB,za,zh,gHds,zm,zd,v1,v3,v4,v5,v100,v101,vs,zg,sym206,sym182,sym214,Zi,hsh,Int.toNat_natCast,hp,hge']
    try simp
   ·simp only [lBs0_l,gE,dZ,gB,za,g3,zh,gHds,zm,zd,v1,v3,v4,v5,v100,v101,vs,h1,h3,h4,h5,hsy,zg,sym206,sym182,sym214,Zi,hsh,Int.toNat_natCast,hp,hge',reduceCtorEq,gR]
    simp [he]
 | some x =>
   have hil : i < l.length:=(List.getElem?_eq_some_iff.1 hp).1
   have hil1 : (i : Int) < l.length:=by omega
   have hwi : IntKind.i64.wrap ((i : Int) + 1) = ((i + 1 : Nat) : Int):=by rw [IntWalk.i64_in _ (by omega)]; rfl
   have hAt : (zj l)[i]? = some ⟨x.id,x.known,x.of_⟩:=by rw [headsR9_at,hp]; rfl
   have hg : l.getD i zC = x:=by rw [List.getD_eq_getElem?_getD,hp]; rfl
   have n7 : ¬ (1010 : Int) < l.length:=by omega
   have d1 : ∀ a b : Int,decide (a≤b) = !decide (b < a):=fun a b => by rw [Bool.eq_iff_iff]; simp
   have go : ∀ n,(yF l g h K (i + 1)) = n→∃ vals',((ρ.ext lBs_D.N vals').val 101 = some (.int .i64 n)∧(ρ.ext lBs_D.N vals').val 100 = some (.int .i64 ((i + 1 : Nat) : Int)))∧lBs_Inv l g h K 0 vals'∧lBs_mu l 0 vals' < lBs_mu l 0 [.int .i64 (i : Int),.int .i64 (yF l g h K i)]:=by
    rintro n rfl
    refine ⟨[.int .i64 ((i + 1 : Nat) : Int),.int .i64 (yF l g h K (i + 1))],⟨?_,?_⟩,⟨rfl,i + 1,by omega,rfl⟩,by simp [lBs_mu,vI]; omega⟩
    ·exact xH hN rfl (by decide)
    ·exact xH hN rfl (by decide)
   have hnext0 : (yF l g h K (i + 1)) = bif cntH (zj l) x.id x.known x.of_ K && (x.goods == g && (!decide (h < x.from_) && (decide ((yF l g h K i) < 0) || !decide (x.from_ < (l.getD (yF l g h K i).toNat zC).from_)))) then (i : Int) else (yF l g h K i):=by
    rw [bestIk_next]; unfold bestStep; rw [hg,d1,d1]
   generalize hs : (yF l g h K i) = s at *
   rcases Int.lt_or_le s 0 with hneg | hpos
   ·have hnext:=hnext0
    rw [decide_eq_true hneg,Bool.true_or,Bool.and_true] at hnext
    clear hnext0 d1
    refine ⟨?_,?_⟩
    all_goals (simp only [lBs0_t,lBs0_F,lBs0_l,gA,gB,za,zh,gHds,zm,zd,yq,zR,zB,zI,Zn,Zo,zT,zY,dZ,g3,v1,v3,v4,v5,v100,v101,vs,h1,h3,h4,h5,hsy,zg,sym206,sym182,sym214,Zi,hsh,Int.toNat_natCast,Int.toNat_zero,hp,Option.bind_some,gN,hd0,hd1,hd2,hil1,hwi,hAt,n7,hneg,reduceCtorEq,Bool.false_eq_true,false_implies,true_implies,and_true,true_and])
    all_goals (clear v1 v3 v4 v5 v100 v101 vs h1 h3 h4 h5 hsy hF)
    all_goals ((repeat' apply And.intro) <;> intros <;> first
     | trivial
     | contradiction
     | (refine go _ ?_; rw [hnext]; clear go hnext; simp_all; done)
     | (refine go _ ?_; rw [hnext,decide_eq_false (show ¬ h < x.from_ by omega)]; clear go hnext; simp_all; done)
     | (refine go _ ?_; rw [hnext,decide_eq_false (show ¬ h < x.from_ by omega),decide_eq_false (show ¬ x.from_ < y.from_ by omega)]; clear go hnext; simp_all; done)
     | (refine go _ ?_; rw [hnext,decide_eq_true (show x.from_ < y.from_ by omega)]; clear go hnext; simp_all; done)
     | (exfalso; omega)
     | (simp_all; done))
   ·obtain ⟨y,hy⟩ : ∃ y,l[s.toNat]? = some y:=⟨_,List.getElem?_eq_getElem (by omega)⟩
    have hnn : ¬ s < 0:=by omega
    have hsl : s < l.length:=by omega
    have hnext:=hnext0
    rw [decide_eq_false hnn,Bool.false_or,show l.getD s.toNat zC = y by rw [List.getD_eq_getElem?_getD,hy]; rfl] at hnext
    clear hnext0 d1
    refine ⟨?_,?_⟩
    all_goals (simp only [lBs0_t,lBs0_F,lBs0_l,gA,gB,za,zh,gHds,zm,zd,yq,zR,zB,zI,Zn,Zo,zT,zY,dZ,g3,v1,v3,v4,v5,v100,v101,vs,h1,h3,h4,h5,hsy,zg,sym206,sym182,sym214,Zi,hsh,Int.toNat_natCast,Int.toNat_zero,hp,Option.bind_some,gN,hd0,hd1,hd2,hil1,hwi,hAt,n7,hnn,hsl,hy,reduceCtorEq,Bool.false_eq_true,false_implies,true_implies,and_true,true_and])
    all_goals (clear v1 v3 v4 v5 v100 v101 vs h1 h3 h4 h5 hsy hF)
    all_goals ((repeat' apply And.intro) <;> intros <;> first
     | trivial
     | contradiction
     | (refine go _ ?_; rw [hnext]; clear go hnext; simp_all; done)
     | (refine go _ ?_; rw [hnext,decide_eq_false (show ¬ h < x.from_ by omega)]; clear go hnext; simp_all; done)
     | (refine go _ ?_; rw [hnext,decide_eq_false (show ¬ h < x.from_ by omega),decide_eq_false (show ¬ x.from_ < y.from_ by omega)]; clear go hnext; simp_all; done)
     | (refine go _ ?_; rw [hnext,decide_eq_true (show x.from_ < y.from_ by omega)]; clear go hnext; simp_all; done)
     | (exfalso; omega)
     | (simp_all; done))
noncomputable def rBsN_con : Con:={ f:=76,args:=[ratsArg 0 0,.one (.str 3),.one (.int .i64 4),.one (.int .i64 5)],N:=1,M:=1,pre:=[(qRM12,false)],out:=.int .i64 (-1),news:=[] }
noncomputable def rBsN_call : Env→yC:=fun E => zw E (evH E (RBL E) ((fun _ => yo) E) 9)
noncomputable def rBsN_t : GTree:=(.leaf [[]])
noncomputable def rBsN_l : List (List (X×Bool)×Option zo):=[([(qRM12,false)],some [])]
theorem rBsN_w (r : Rho) : rBsN_con.fn.ways rBsN_call E0 r rBsN_con.pre rBsN_t = some rBsN_l:=by kernel_rfl
theorem rBsN_cok : rBsN_con.Ok Tryz.prog sy:=by
 intro r σ w us hsy hρ hpre hrel hins
 obtain ⟨l,h1⟩:=zS hrel rfl hρ
 obtain ⟨u0,us,rfl,g0,hi⟩:=zf hins
 obtain ⟨u1,us,rfl,g1,hi1⟩:=zf hi
 obtain ⟨u2,us,rfl,g2,hi2⟩:=zf hi1
 obtain ⟨u3,us,rfl,g3,hi3⟩:=zf hi2
 obtain ⟨g,rfl,h3⟩:=yz g1
 obtain ⟨h,k4,rfl,h4⟩:=zK g2
 obtain ⟨K,k5,rfl,h5⟩:=zK g3
 rw [hρ] at h3 h4 h5
 refine zX (E:=E0) zU zG (sy:=sy) (fun F => RBL_ok F hsy) (fun F => yP) (rBsN_w r) hρ hpre hrel hins ?_ ?_
 ·simp only [rBsN_con,rBsN_t,gA,gB,za,zh,gHds,zm,zd,h1,h3,h4,h5,hsy,zg,sym206,sym182,sym214,Zi]
  try simp
 ·simp only [rBsN_l,gE,dZ,gB,za,g3,zh,gHds,zm,zd,h1,h3,h4,h5,hsy,zg,sym206,sym182,sym214,Zi]
  skip
  try simp
  skip
noncomputable def rBsY_con : Con:={ f:=76,args:=[ratsArg 0 0,.one (.str 3),.one (.int .i64 4),.one (.int .i64 5)],N:=1,M:=1,pre:=[(.app 202 [.var 1],true),(qRM12,true)],out:=.sint .i64 (.app 214 [.var 1,.var 3,.var 4,.var 5]),news:=[] }
noncomputable def rBsY_call : Env→yC:=fun E => zw E (evH E (RBL E) ((fun E => oneH 76 (yR [(4,lBs_D.hook E.facts rbs_vs)])) E) 9)
noncomputable def rBsY_t : GTree:=(.leaf [[]])
noncomputable def rBsY_l : List (List (X×Bool)×Option zo):=[([(qRM9,true),(qRM12,true)],some [(qRM3,qRM3)])]
theorem rBsY_w (r : Rho) : rBsY_con.fn.ways rBsY_call E0 r rBsY_con.pre rBsY_t = some rBsY_l:=by kernel_rfl
theorem lBs_H {ρ : Rho} {l : List Rat9} {g : ByteArray} {h K : Int} {k4 k5 : IntKind} (h1 : ρ.val 1 = some (ratsR l)) (h3 : ρ.val 3 = some (.string g)) (h4 : ρ.val 4 = some (.int k4 h)) (h5 : ρ.val 5 = some (.int k5 K)) (hsy : ρ.sym = sy) (hsh : okR9 l = true) (F : List (X×Bool)) : yV (E0.with F ρ) (oneH 76 (yR [(4,lBs_D.hook (E0.with F ρ).facts rbs_vs)])):=by
 refine yN (n:=1) (fun f fn h => h) (by kernel_rfl) fun i hi => ?_
 obtain rfl : i = 0:=by omega
 rw [yA (show Zr (yh (E0.with F ρ).P 76 0) = 4 by kernel_rfl)]
 refine hook_ok (E₀:=E0) (run:=lBs_run) (ρ:=ρ) (Inv:=lBs_Inv l g h K) (μ:=lBs_mu l) zU lBs_ok (fun F r' h => ?_) (fun hp => ⟨lBs_step h1 h3 h4 h5 hsy hsh,[.int .i64 0,.int .i64 (-1)],?_,rfl,0,Nat.zero_le _,rfl⟩)
 ·exact yl zU (RBL_ok F (h.trans hsy)) fun _ _ => yj
 ·simp only [rbs_vs,gB,za,zh,gHds,zm,zd]
theorem rBsY_cok : rBsY_con.Ok Tryz.prog sy:=by
 intro r σ w us hsy hρ hpre hrel hins
 obtain ⟨l,h1⟩:=zS hrel rfl hρ
 obtain ⟨u0,us,rfl,g0,hi⟩:=zf hins
 obtain ⟨u1,us,rfl,g1,hi1⟩:=zf hi
 obtain ⟨u2,us,rfl,g2,hi2⟩:=zf hi1
 obtain ⟨u3,us,rfl,g3,hi3⟩:=zf hi2
 obtain ⟨g,rfl,h3⟩:=yz g1
 obtain ⟨h,k4,rfl,h4⟩:=zK g2
 obtain ⟨K,k5,rfl,h5⟩:=zK g3
 rw [hρ] at h3 h4 h5
 have hsh : okR9 l = true:=by
  have:=hpre.1
  simpa only [gB,za,zh,gHds,zm,zd,h1,hsy,zg,Option.some.injEq,Value.bool.injEq] using this
 refine zX (E:=E0) zU zG (sy:=sy) (fun F => RBL_ok F hsy) (fun F => lBs_H h1 h3 h4 h5 hsy hsh F) (rBsY_w r) hρ hpre hrel hins ?_ ?_
 ·simp only [rBsY_con,rBsY_t,gA,gB,za,zh,gHds,zm,zd,h1,h3,h4,h5,hsy,zg,sym206,sym182,sym214,Zi]
  try simp
 ·simp only [rBsY_l,gE,dZ,gB,za,g3,zh,gHds,zm,zd,h1,h3,h4,h5,hsy,zg,sym206,sym182,sym214,Zi]
  skip
  try simp
  skip
noncomputable def RFL : Env→yi:=libs [cLib rBsN_con,cLib rBsY_con]
theorem RFL_ok (F : List (X×Bool)) {r : Rho} (h : r.sym = sy) : zt (E0.with F r) (RFL (E0.with F r)):=yU fun c hc => by
 simp only [List.mem_cons,List.not_mem_nil,or_false] at hc
 rcases hc with rfl | rfl
 ·exact zH (E:=E0) rBsN_cok F h
 ·exact zH (E:=E0) rBsY_cok F h
noncomputable def rFoN_con : Con:={ f:=36,args:=[ratsArg 0 0,.one (.str 3),.one (.int .i64 4),.one (.int .i64 5)],N:=1,M:=1,pre:=[(qRM12,false)],out:=.int .i64 (-1),news:=[] }
noncomputable def rFoN_call : Env→yC:=fun E => zw E (evH E (RFL E) ((fun _ => yo) E) 9)
noncomputable def rFoN_t : GTree:=(.leaf [[]])
noncomputable def rFoN_l : List (List (X×Bool)×Option zo):=[([(qRM12,false)],some [])]
theorem rFoN_w (r : Rho) : rFoN_con.fn.ways rFoN_call E0 r rFoN_con.pre rFoN_t = some rFoN_l:=by kernel_rfl
theorem rFoN_cok : rFoN_con.Ok Tryz.prog sy:=by
 intro r σ w us hsy hρ hpre hrel hins
 obtain ⟨l,h1⟩:=zS hrel rfl hρ
 obtain ⟨u0,us,rfl,g0,hi⟩:=zf hins
 obtain ⟨u1,us,rfl,g1,hi1⟩:=zf hi
 obtain ⟨u2,us,rfl,g2,hi2⟩:=zf hi1
 obtain ⟨u3,us,rfl,g3,hi3⟩:=zf hi2
 obtain ⟨g,rfl,h3⟩:=yz g1
 obtain ⟨h,k4,rfl,h4⟩:=zK g2
 obtain ⟨K,k5,rfl,h5⟩:=zK g3
 rw [hρ] at h3 h4 h5
 refine zX (E:=E0) zU zG (sy:=sy) (fun F => RFL_ok F hsy) (fun F => yP) (rFoN_w r) hρ hpre hrel hins ?_ ?_
 ·simp only [rFoN_con,rFoN_t,gA,gB,za,zh,gHds,zm,zd,h1,h3,h4,h5,hsy,zg,sym206,sym182,sym214,Zi]
  try simp
 ·simp only [rFoN_l,gE,dZ,gB,za,g3,zh,gHds,zm,zd,h1,h3,h4,h5,hsy,zg,sym206,sym182,sym214,Zi]
  skip
  try simp
  skip
noncomputable def rFoY_con : Con:={ f:=36,args:=[ratsArg 0 0,.one (.str 3),.one (.int .i64 4),.one (.int .i64 5)],N:=1,M:=1,pre:=[(.app 202 [.var 1],true),(qRM12,true)],out:=.sint .i64 (.app 215 [.var 1,.var 3,.var 4,.var 5]),news:=[] }
noncomputable def rFoY_call : Env→yC:=fun E => zw E (evH E (RFL E) ((fun _ => yo) E) 9)
noncomputable def rFoY_t : GTree:=(.fork (.op2 .lt qRM3 (.num 0)) (.leaf [[]]) (.leaf [[]]))
noncomputable def rFoY_l : List (List (X×Bool)×Option zo):=[([(.op2 .lt qRM3 (.num 0),true),(qRM9,true),(qRM12,true)],some [(.app 215 [.var 1,.var 3,.var 4,.var 5],.app 214 [.var 1,.str [],.var 4,.var 5])]),
 ([(.op2 .lt qRM3 (.num 0),false),(qRM9,true),(qRM12,true)],some [(.app 215 [.var 1,.var 3,.var 4,.var 5],qRM3)])]
theorem rFoY_w (r : Rho) : rFoY_con.fn.ways rFoY_call E0 r rFoY_con.pre rFoY_t = some rFoY_l:=by kernel_rfl
theorem rFoY_cok : rFoY_con.Ok Tryz.prog sy:=by
 intro r σ w us hsy hρ hpre hrel hins
 obtain ⟨l,h1⟩:=zS hrel rfl hρ
 obtain ⟨u0,us,rfl,g0,hi⟩:=zf hins
 obtain ⟨u1,us,rfl,g1,hi1⟩:=zf hi
 obtain ⟨u2,us,rfl,g2,hi2⟩:=zf hi1
 obtain ⟨u3,us,rfl,g3,hi3⟩:=zf hi2
 obtain ⟨g,rfl,h3⟩:=yz g1
 obtain ⟨h,k4,rfl,h4⟩:=zK g2
 obtain ⟨K,k5,rfl,h5⟩:=zK g3
 rw [hρ] at h3 h4 h5
 have hsh : okR9 l = true:=by
  have:=hpre.1
  simpa only [gB,za,zh,gHds,zm,zd,h1,hsy,zg,Option.some.injEq,Value.bool.injEq] using this
 refine zX (E:=E0) zU zG (sy:=sy) (fun F => RFL_ok F hsy) (fun F => yP) (rFoY_w r) hρ hpre hrel hins ?_ ?_
 ·simp only [rFoY_con,rFoY_t,gA,gB,za,zh,gHds,zm,zd,h1,h3,h4,h5,hsy,zg,sym206,sym182,sym214,Zi]
  try simp
 ·simp only [rFoY_l,gE,dZ,gB,za,g3,zh,gHds,zm,zd,h1,h3,h4,h5,hsy,zg,sym206,sym182,sym214,Zi]
  simp only [forceI]
  try simp
  exact ⟨fun q _ _ => by rw [decide_eq_true q]; rfl,fun q _ _ => by rw [decide_eq_false (show ¬ bestI l g h K < 0 by omega)]; rfl⟩
open Go
theorem voidKh_any (K k : Int) : ∀ (h : List Hd3) (m : List Flg),atF (h.foldl (fun m x => if x.of_≠0∧x.known≤K then putF x.of_ true m else m) m) k = (atF m k || h.any fun x => (!(x.of_ == 0) && decide (x.known≤K)) && x.of_ == k)
 | [],m => by simp
 | x :: h,m => by
   rw [List.foldl_cons,voidKh_any K k h,List.any_cons]
   by_cases h1 : x.of_≠0∧x.known≤K
   ·rw [if_pos h1,atF_put]
    by_cases h2 : x.of_ = k
    ·simp [h2,h1.2,show ¬ k = 0 from fun e => h1.1 (h2.trans e)]
    ·have h2' : (x.of_ == k) = false:=beq_eq_false_iff_ne.2 h2
     simp [h2,h2']
   ·rw [if_neg h1]
    have : ((!(x.of_ == 0) && decide (x.known≤K)) && x.of_ == k) = false:=by
     rw [Bool.eq_false_iff]
     intro e
     simp at e
     exact h1 e.1
    rw [this,Bool.false_or]
theorem vdH_is (h : List Hd3) (K : Int) {k : Int} (hk : k≠0) : vdH h k K = atF (Zj h K) k:=by
 have:=voidKh_any K k h []
 rw [show atF ([] : List Flg) k = false by simp [atF],Bool.false_or] at this
 refine Eq.trans ?_ this.symm
 unfold vdH
 congr 1
 funext x
 rw [Bool.eq_iff_iff]
 simp only [Bool.and_eq_true,Bool.not_eq_true',decide_eq_true_eq,g3]
 constructor
 ·rintro ⟨e,ek⟩; exact ⟨⟨fun e0 => hk (e.symm.trans e0),ek⟩,e⟩
 ·rintro ⟨⟨_,ek⟩,e⟩; exact ⟨e,ek⟩
theorem ok_bad {l : List Rat9} (h : yy l = 0) : ∀ i,i < l.length→badR l i = 0:=by
 intro i hi
 unfold yy at h
 cases hs : stopR l with
 | none =>
   unfold stopR at hs
   have:=List.find?_eq_none.1 hs i (List.mem_range.2 hi)
   simpa using this
 | some k =>
   rw [hs] at h
   unfold stopR at hs
   have:=List.find?_some hs
   simp [h] at this
theorem ok_rate {l : List Rat9} (h : yy l = 0) {i : Nat} {x : Rat9} (hp : l[i]? = some x) : rateB x = true:=by
 have hb:=ok_bad h i (List.getElem?_eq_some_iff.1 hp).1
 rw [badR_at hp] at hb
 cases hr : rateB x with
 | true => rfl
 | false => rw [hr] at hb; split at hb <;> simp at hb
theorem rate_id {x : Rat9} (h : rateB x = true) : x.id≠0:=by
 unfold rateB at h
 simp only [Bool.and_eq_true,zE,decide_eq_true_eq] at h
 omega
theorem rate_from {x : Rat9} (h : rateB x = true) : 0≤x.from_∧x.from_≤1000000:=by
 unfold rateB at h
 simp only [Bool.and_eq_true] at h
 obtain ⟨_,h⟩:=h
 split at h
 ·simp only [Bool.and_eq_true,zE,decide_eq_true_eq] at h
  omega
 ·simp only [Bool.and_eq_true,beq_iff_eq] at h
  omega
theorem cnt_is {l : List Rat9} (h : yy l = 0) (K : Int) {i : Nat} {x : Rat9} (hp : l[i]? = some x) : cntH (zj l) x.id x.known x.of_ K = cntR l K x:=by
 unfold cntH cntR
 rw [vdH_is _ K (rate_id (ok_rate h hp)),Bool.and_comm]
theorem less_nil : ∀ l,Op.bytesLess l [] = false
 | [] => rfl
 | _ :: _ => rfl
theorem less_self : ∀ l,Op.bytesLess l l = false
 | [] => rfl
 | a :: l => by simp [Op.bytesLess,less_self l]
theorem nil_less : ∀ {l},l≠[]→Op.bytesLess [] l = true
 | [],h => absurd rfl h
 | _ :: _,_ => rfl
theorem empty_list : (z8 []).toList = []:=by
 unfold z8 ByteArray.toList
 rw [ByteArray.toList.loop]
 rfl
theorem prec_same {a b : Rat9} (h : a.goods.toList = b.goods.toList) : precR a b = !decide (a.from_ < b.from_):=by
 unfold precR precI
 rw [beq_toListBytes,h,less_self,beq_self_eq_true]
 simp only [cond_false,Bool.false_or,cond_true]
 rcases Int.lt_trichotomy a.from_ b.from_ with q | q | q
 ·simp [q]
 ·simp [q]
 ·have : ¬ a.from_ < b.from_:=by omega
  simp [q,this]
theorem prec_up {a b : Rat9} (ha : a.goods.toList≠[]) (hb : b.goods.toList = []) : precR a b = true:=by
 unfold precR precI
 have e : (a.goods.toList == []) = false:=beq_eq_false_iff_ne.2 ha
 rw [beq_toListBytes,hb,e,less_nil]
 rfl
theorem prec_down {a b : Rat9} (ha : a.goods.toList = []) (hb : b.goods.toList≠[]) : precR a b = false:=by
 unfold precR precI
 rw [ha,nil_less hb]
 rfl
def pick (l : List Rat9) (g : ByteArray) (h K : Int) (i : Nat) : Option Rat9:=
 if yF l g h K i < 0 then (if yF l (z8 []) h K i < 0 then none else l[(yF l (z8 []) h K i).toNat]?) else l[(yF l g h K i).toNat]?
theorem best_next {l : List Rat9} (ok : yy l = 0) (g : ByteArray) (h K : Int) {i : Nat} {x : Rat9} (hp : l[i]? = some x) :
  yF l g h K (i + 1) = if (cntR l K x = true∧x.goods.toList = g.toList)∧(x.from_≤h∧(yF l g h K i < 0∨(l.getD (yF l g h K i).toNat zC).from_≤x.from_)) then (i : Int) else yF l g h K i:=by
 rw [bestIk_next]
 unfold bestStep
 rw [show l.getD i zC = x by rw [List.getD_eq_getElem?_getD,hp]; rfl,cnt_is ok K hp,beq_toListBytes]
 generalize cntR l K x = c
 by_cases q : (c = true∧x.goods.toList = g.toList)∧(x.from_≤h∧(yF l g h K i < 0∨(l.getD (yF l g h K i).toNat zC).from_≤x.from_))
 ·rw [if_pos q]
  obtain ⟨⟨q1,q2⟩,q3,q4⟩:=q
  rw [q1,q2,beq_self_eq_true,decide_eq_true q3]
  rcases q4 with q4 | q4
  ·rw [decide_eq_true q4]; rfl
  ·rw [decide_eq_true q4,Bool.or_true]; rfl
 ·rw [if_neg q]
  have : (c && (x.goods.toList == g.toList && (decide (x.from_≤h) && (decide (yF l g h K i < 0) || decide ((l.getD (yF l g h K i).toNat zC).from_≤x.from_))))) = false:=by
   rw [Bool.eq_false_iff]
   intro e
   simp only [Bool.and_eq_true,Bool.or_eq_true,decide_eq_true_eq,beq_iff_eq] at e
   exact q ⟨⟨e.1,e.2.1⟩,e.2.2.1,e.2.2.2⟩
  rw [this]; rfl
theorem best_at {l : List Rat9} (ok : yy l = 0) (g : ByteArray) (h K : Int) : ∀ {i : Nat},i≤l.length→0≤yF l g h K i→∃ y,l[(yF l g h K i).toNat]? = some y∧y.goods.toList = g.toList
 | 0,_,hn => by simp [yF] at hn
 | i + 1,hi,hn => by
   have hp : l[i]? = some l[i]:=List.getElem?_eq_getElem (by omega)
   rw [best_next ok g h K hp] at hn ⊢
   split at hn
   ·rename_i q
    rw [if_pos q]
    exact ⟨_,hp,q.1.2⟩
   ·rename_i q
    rw [if_neg q]
    exact best_at ok g h K (by omega) hn
theorem step_no {l : List Rat9} {g : ByteArray} {h K : Int} {b : Option Rat9} {x : Rat9} (hx : ¬ (cntR l K x = true∧(x.goods.toList = g.toList∨x.goods.toList = [])∧x.from_≤h)) : stepR l g h K b x = b:=by
 unfold stepR
 rw [if_neg]
 intro e
 simp only [forR,Bool.and_eq_true,Bool.or_eq_true,decide_eq_true_eq,beq_toListBytes,empty_list,beq_iff_eq] at e
 exact hx ⟨e.1.1,e.1.2.1,e.1.2.2⟩
theorem step_yes {l : List Rat9} {g : ByteArray} {h K : Int} {b : Option Rat9} {x : Rat9} (hx : cntR l K x = true∧(x.goods.toList = g.toList∨x.goods.toList = [])∧x.from_≤h) : stepR l g h K b x = if (match b with | none => true | some b => precR x b) = true then some x else b:=by
 unfold stepR
 have e : (cntR l K x && forR g h x) = true:=by
  simp only [forR,Bool.and_eq_true,Bool.or_eq_true,decide_eq_true_eq,beq_toListBytes,empty_list,beq_iff_eq]
  exact ⟨hx.1,hx.2.1,hx.2.2⟩
 rw [e,Bool.true_and]
 cases b <;> rfl
theorem best_cong {l : List Rat9} {g g' : ByteArray} (e : g.toList = g'.toList) (h K : Int) : ∀ n,yF l g h K n = yF l g' h K n
 | 0 => rfl
 | n + 1 => by
   rw [bestIk_next,bestIk_next,best_cong e h K n]
   unfold bestStep
   rw [beq_toListBytes,beq_toListBytes,e]
theorem pick_is {l : List Rat9} (ok : yy l = 0) (g : ByteArray) (h K : Int) : ∀ {i : Nat},i≤l.length→inFk l g h K i = pick l g h K i
 | 0,_ => by simp [inFk,pick,yF]
 | i + 1,hi => by
   have hp : l[i]? = some l[i]:=List.getElem?_eq_getElem (by omega)
   have ih:=pick_is ok g h K (i:=i) (by omega)
   generalize hx : l[i] = x at hp
   rw [inFk_next hp,ih]
   have ag:=best_at ok g h K (i:=i) (by omega)
   have ae:=best_at ok (z8 []) h K (i:=i) (by omega)
   have lg:=best_lt l g h K i
   have le:=best_lt l (z8 []) h K i
   have hst : g.toList = []→yF l g h K i = yF l (z8 []) h K i:=fun e => best_cong (e.trans empty_list.symm) h K i
   unfold pick
   rw [best_next ok g h K hp,best_next ok (z8 []) h K hp]
   rw [empty_list] at ae ⊢
   generalize hsg : yF l g h K i = s at *
   generalize hse : yF l (z8 []) h K i = t at *
   have hin : ¬ ((i : Nat) : Int) < 0:=by omega
   have hpi : l[((i : Nat) : Int).toNat]? = some x:=by rw [Int.toNat_natCast]; exact hp
   by_cases hc : cntR l K x = true∧(x.goods.toList = g.toList∨x.goods.toList = [])∧x.from_≤h
   ·rw [step_yes hc]
    obtain ⟨c1,c2,c3⟩:=hc
    by_cases hge : g.toList = []
    ·-- the goods are none: both are one
     have hxe : x.goods.toList = []:=by rcases c2 with q | q; exact q.trans hge; exact q
     have hst:=hst hge
     subst hst
     rw [hge]
     by_cases h1 : s < 0
     ·rw [if_pos h1,if_pos h1,if_pos (c:=(_∧_)∧_) ⟨⟨c1,hxe⟩,c3,.inl h1⟩,if_neg hin,hpi]
      rfl
     ·obtain ⟨y,hy,hyg⟩:=ae (by omega)
      rw [if_neg h1,hy,List.getD_eq_getElem?_getD,hy]
      show (if precR x y = true then some x else some y) = _
      rw [prec_same (hxe.trans hyg.symm)]
      by_cases h3 : y.from_≤x.from_
      ·rw [if_pos (c:=(_∧_)∧_) ⟨⟨c1,hxe⟩,c3,.inr h3⟩,if_neg hin,hpi,decide_eq_false (show ¬ x.from_ < y.from_ by omega)]
       rfl
      ·rw [if_neg (c:=(_∧_)∧_) (fun q => by rcases q.2.2 with q | q; exact h1 q; exact h3 q),if_neg h1,hy,decide_eq_true (show x.from_ < y.from_ by omega)]
       rfl
    ·by_cases hxe : x.goods.toList = []
     ·have hxg : ¬ x.goods.toList = g.toList:=fun q => hge (q.symm.trans hxe)
      rw [if_neg (c:=(cntR l K x = true∧x.goods.toList = g.toList)∧_) (fun q => hxg q.1.2)]
      by_cases h1 : s < 0
      ·rw [if_pos h1,if_pos h1]
       by_cases h2 : t < 0
       ·rw [if_pos h2,if_pos (c:=(_∧_)∧_) ⟨⟨c1,hxe⟩,c3,.inl h2⟩,if_neg hin,hpi]
        rfl
       ·obtain ⟨y,hy,hyg⟩:=ae (by omega)
        rw [if_neg h2,hy,List.getD_eq_getElem?_getD,hy]
        show (if precR x y = true then some x else some y) = _
        rw [prec_same (hxe.trans hyg.symm)]
        by_cases h3 : y.from_≤x.from_
        ·rw [if_pos (c:=(_∧_)∧_) ⟨⟨c1,hxe⟩,c3,.inr h3⟩,if_neg hin,hpi,decide_eq_false (show ¬ x.from_ < y.from_ by omega)]
         rfl
        ·rw [if_neg (c:=(_∧_)∧_) (fun q => by rcases q.2.2 with q | q; exact h2 q; exact h3 q),if_neg h2,hy,decide_eq_true (show x.from_ < y.from_ by omega)]
         rfl
      ·obtain ⟨y,hy,hyg⟩:=ag (by omega)
       rw [if_neg h1,if_neg h1,hy]
       show (if precR x y = true then some x else some y) = _
       rw [prec_down hxe (by rw [hyg]; exact hge)]
       rfl
     ·have hxg : x.goods.toList = g.toList:=by rcases c2 with q | q; exact q; exact absurd q hxe
      rw [if_neg (c:=(cntR l K x = true∧x.goods.toList = [])∧_) (fun q => hxe q.1.2)]
      by_cases h1 : s < 0
      ·rw [if_pos h1,if_pos (c:=(_∧_)∧_) ⟨⟨c1,hxg⟩,c3,.inl h1⟩,if_neg hin,hpi]
       by_cases h2 : t < 0
       ·rw [if_pos h2]; rfl
       ·obtain ⟨y,hy,hyg⟩:=ae (by omega)
        rw [if_neg h2,hy]
        show (if precR x y = true then some x else some y) = _
        rw [prec_up hxe hyg]
        rfl
      ·obtain ⟨y,hy,hyg⟩:=ag (by omega)
       rw [if_neg h1,hy,List.getD_eq_getElem?_getD,hy]
       show (if precR x y = true then some x else some y) = _
       rw [prec_same (hxg.trans hyg.symm)]
       by_cases h3 : y.from_≤x.from_
       ·rw [if_pos (c:=(_∧_)∧_) ⟨⟨c1,hxg⟩,c3,.inr h3⟩,if_neg hin,hpi,decide_eq_false (show ¬ x.from_ < y.from_ by omega)]
        rfl
       ·rw [if_neg (c:=(_∧_)∧_) (fun q => by rcases q.2.2 with q | q; exact h1 q; exact h3 q),if_neg h1,hy,decide_eq_true (show x.from_ < y.from_ by omega)]
        rfl
   ·rw [step_no hc]
    rw [if_neg (c:=(cntR l K x = true∧x.goods.toList = g.toList)∧_) (fun q => hc ⟨q.1.1,.inl q.1.2,q.2.1⟩),if_neg (c:=(cntR l K x = true∧x.goods.toList = [])∧_) (fun q => hc ⟨q.1.1,.inr q.1.2,q.2.1⟩)]
theorem force_is {l : List Rat9} (ok : yy l = 0) (g : ByteArray) (h K : Int) : inF l g h K = if forceI l g h K < 0 then none else l[(forceI l g h K).toNat]?:=by
 rw [← inFk_all (i:=l.length) (Nat.le_refl _),pick_is ok g h K (Nat.le_refl _)]
 unfold pick forceI
 show (if bestI l g h K < 0 then (if bestI l (z8 []) h K < 0 then none else l[(bestI l (z8 []) h K).toNat]?) else l[(bestI l g h K).toNat]?) = _
 by_cases h1 : bestI l g h K < 0
 ·rw [if_pos h1,decide_eq_true h1]; rfl
 ·rw [if_neg h1,decide_eq_false h1]
  show _ = if bestI l g h K < 0 then none else l[(bestI l g h K).toNat]?
  rw [if_neg h1]
theorem force_lt (l : List Rat9) (g : ByteArray) (h K : Int) : forceI l g h K < l.length∨l.length = 0:=by
 unfold forceI
 have h1:=best_lt l g h K l.length
 have h2:=best_lt l (z8 []) h K l.length
 cases decide (bestI l g h K < 0)
 ·exact .inl h1.1
 ·exact .inl h2.1
open Go
noncomputable def RQ : Env→yi:=libs [cLib rCks_con,cLib rFoN_con,cLib rFoY_con]
theorem RQ_ok (F : List (X×Bool)) {r : Rho} (h : r.sym = sy) : zt (E0.with F r) (RQ (E0.with F r)):=yU fun c hc => by
 simp only [List.mem_cons,List.not_mem_nil,or_false] at hc
 rcases hc with rfl | rfl | rfl
 ·exact zH (E:=E0) rCks_cok F h
 ·exact zH (E:=E0) rFoN_cok F h
 ·exact zH (E:=E0) rFoY_cok F h
abbrev qRN0 : X:=.app 215 [.var 1,.var 3,.var 4,.var 5]
abbrev qRN1 : X:=.op2 .lt (.num 0) (.op1 .len (.var 1))
abbrev qRN2 : X:=.op2 .eq (.app 200 [.var 1]) (.num 0)
abbrev qRN3 : X:=.app 204 [.var 1,.var 3,.var 4,.var 5]
abbrev qRN4 : X:=.op2 .lt qRN0 (.num 0)
abbrev qRN5 : X:=.app 202 [.var 1]
abbrev qRN6 : X:=.app 205 [.var 1,.var 3,.var 4,.var 5,.num 0]
abbrev qRN7 : X:=.op2 .lt qRN0 (.op1 .len (.var 1))
abbrev qRN8 : X:=.op2 .eq (.app 200 [.var 1]) (.num 0)
abbrev qRNf0 : List (X×Bool):=[(qRN5,true),(qRN2,true),(qRN3,true)]
abbrev qRNf1 : List (X×Bool):=[(qRN5,true),(qRN2,true),(qRN3,false)]
abbrev qRNf2 : List (X×Bool):=[(qRN1,true),(qRN5,true),(qRN2,true)]
noncomputable def rId_con : Con:={ f:=41,args:=[ratsArg 0 0,.one (.str 3),.one (.int .i64 4),.one (.int .i64 5)],N:=1,M:=1,pre:=[(.app 202 [.var 1],true),(qRN8,true)],out:=.sint .i64 (.app 205 [.var 1,.var 3,.var 4,.var 5,.num 0]),news:=[] }
noncomputable def rId_call : Env→yC:=fun E => zw E (evH E (RQ E) ((fun _ => yo) E) 9)
noncomputable def rId_t : GTree:=(.fork qRN1 (.fork qRN4 (.leaf [[]]) (.fork qRN7 (.leaf [[]]) .bad)) (.leaf [[]]))
noncomputable def rId_l : List (List (X×Bool)×Option zo):=[((qRN4,true) :: qRNf2,some [(qRN6,.num 0)]),
 ((qRN7,true) :: (qRN4,false) :: qRNf2,some [(qRN6,.cell 0 (.var 1) qRN0)]),
 ((qRN7,false) :: (qRN4,false) :: qRNf2,none),
 ([(qRN1,false),(qRN5,true),(qRN2,true)],some [(qRN6,.num 0)])]
theorem rId_w (r : Rho) : rId_con.fn.ways rId_call E0 r rId_con.pre rId_t = some rId_l:=by kernel_rfl
theorem rId_cok : rId_con.Ok Tryz.prog sy:=by
 intro r σ w us hsy hρ hpre hrel hins
 obtain ⟨l,h1⟩:=zS hrel rfl hρ
 obtain ⟨u0,us,rfl,g0,hi⟩:=zf hins
 obtain ⟨u1,us,rfl,g1,hi1⟩:=zf hi
 obtain ⟨u2,us,rfl,g2,hi2⟩:=zf hi1
 obtain ⟨u3,us,rfl,g3,hi3⟩:=zf hi2
 obtain ⟨g,rfl,h3⟩:=yz g1
 obtain ⟨h,k4,rfl,h4⟩:=zK g2
 obtain ⟨K,k5,rfl,h5⟩:=zK g3
 rw [hρ] at h3 h4 h5
 have hsh : okR9 l = true:=by
  have:=hpre.1
  simpa only [gB,za,zh,gHds,zm,zd,h1,hsy,zg,Option.some.injEq,Value.bool.injEq] using this
 have hok : yy l = 0:=by
  have:=hpre.2.1
  simpa only [gB,za,zh,gHds,zm,zd,h1,hsy,zl,Option.some.injEq,Value.bool.injEq,beq_iff_eq] using this
 have hf:=force_is hok g h K
 have hl:=force_lt l g h K
 by_cases hz : l.length = 0
 ·have hin : inF l g h K = none:=by rw [List.length_eq_zero_iff.1 hz]; rfl
  have hz0 : ¬ (0 : Int) < l.length:=by omega
  have c0 : zb l g h K 0 = some (.int .i64 0):=by unfold zb; rw [hin]; rfl
  have c1 : zb l g h K 1 = some (.int .i64 0):=by unfold zb; rw [hin]; rfl
  have c2 : zb l g h K 2 = some (.int .i64 0):=by unfold zb; rw [hin]; rfl
  have c3 : zb l g h K 3 = some (.string (z8 [])):=by unfold zb; rw [hin]; rfl
  have c4 : zb l g h K 4 = some (.int .i64 0):=by unfold zb; rw [hin]; rfl
  have c5 : zb l g h K 5 = some (.int .i64 0):=by unfold zb; rw [hin]; rfl
  have c6 : zb l g h K 6 = some (.int .i64 0):=by unfold zb; rw [hin]; rfl
  have c7 : zb l g h K 7 = some (.int .i64 0):=by unfold zb; rw [hin]; rfl
  have c8 : zb l g h K 8 = some (.int .i64 0):=by unfold zb; rw [hin]; rfl
  refine zX (E:=E0) zU zG (sy:=sy) (fun F => RQ_ok F hsy) (fun F => yP) (rId_w r) hρ hpre hrel hins ?_ ?_
  ·simp only [rId_con,rId_t,gA,gB,za,zh,gHds,zm,zd,h1,h3,h4,h5,hsy,zl,zg,yE,zu,Zi,hz0,hin,Option.isSome_none,c0,c1,c2,c3,c4,c5,c6,c7,c8]
   try simp
  ·simp only [rId_l,gE,dZ,gB,za,g3,zh,gHds,zm,zd,h1,h3,h4,h5,hsy,zl,zg,yE,zu,Zi,hz0,hin,Option.isSome_none,c0,c1,c2,c3,c4,c5,c6,c7,c8,Option.bind_some,gN,reduceCtorEq,gR]
   try simp
   try (intros; omega)
   try (simp_all; done)
 have hz0 : (0 : Int) < l.length:=by omega
 have hlt : forceI l g h K < l.length:=by omega
 by_cases hn : forceI l g h K < 0
 ·have hin : inF l g h K = none:=by rw [hf,if_pos hn]
  have c0 : zb l g h K 0 = some (.int .i64 0):=by unfold zb; rw [hin]; rfl
  have c1 : zb l g h K 1 = some (.int .i64 0):=by unfold zb; rw [hin]; rfl
  have c2 : zb l g h K 2 = some (.int .i64 0):=by unfold zb; rw [hin]; rfl
  have c3 : zb l g h K 3 = some (.string (z8 [])):=by unfold zb; rw [hin]; rfl
  have c4 : zb l g h K 4 = some (.int .i64 0):=by unfold zb; rw [hin]; rfl
  have c5 : zb l g h K 5 = some (.int .i64 0):=by unfold zb; rw [hin]; rfl
  have c6 : zb l g h K 6 = some (.int .i64 0):=by unfold zb; rw [hin]; rfl
  have c7 : zb l g h K 7 = some (.int .i64 0):=by unfold zb; rw [hin]; rfl
  have c8 : zb l g h K 8 = some (.int .i64 0):=by unfold zb; rw [hin]; rfl
  refine zX (E:=E0) zU zG (sy:=sy) (fun F => RQ_ok F hsy) (fun F => yP) (rId_w r) hρ hpre hrel hins ?_ ?_
  ·simp only [rId_con,rId_t,gA,gB,za,zh,gHds,zm,zd,h1,h3,h4,h5,hsy,zl,zg,yE,zu,Zi,hz0,hn,hlt,hin,Option.isSome_none,c0,c1,c2,c3,c4,c5,c6,c7,c8]
   try simp
  ·simp only [rId_l,gE,dZ,gB,za,g3,zh,gHds,zm,zd,h1,h3,h4,h5,hsy,zl,zg,yE,zu,Zi,hz0,hn,hlt,hin,Option.isSome_none,c0,c1,c2,c3,c4,c5,c6,c7,c8,Option.bind_some,gN,reduceCtorEq,gR]
   try simp
   try (intros; omega)
   try (simp_all; done)
 ·obtain ⟨x,hx⟩ : ∃ x,l[(forceI l g h K).toNat]? = some x:=⟨_,List.getElem?_eq_getElem (by omega)⟩
  have hin : inF l g h K = some x:=by rw [hf,if_neg hn,hx]
  have c0 : zb l g h K 0 = some (.int .i64 x.id):=by unfold zb; rw [hin]; rfl
  have c1 : zb l g h K 1 = some (.int .i64 x.known):=by unfold zb; rw [hin]; rfl
  have c2 : zb l g h K 2 = some (.int .i64 x.from_):=by unfold zb; rw [hin]; rfl
  have c3 : zb l g h K 3 = some (.string x.goods):=by unfold zb; rw [hin]; rfl
  have c4 : zb l g h K 4 = some (.int .i64 x.num):=by unfold zb; rw [hin]; rfl
  have c5 : zb l g h K 5 = some (.int .i64 x.den):=by unfold zb; rw [hin]; rfl
  have c6 : zb l g h K 6 = some (.int .i64 x.cart):=by unfold zb; rw [hin]; rfl
  have c7 : zb l g h K 7 = some (.int .i64 x.store):=by unfold zb; rw [hin]; rfl
  have c8 : zb l g h K 8 = some (.int .i64 x.of_):=by unfold zb; rw [hin]; rfl
  refine zX (E:=E0) zU zG (sy:=sy) (fun F => RQ_ok F hsy) (fun F => yP) (rId_w r) hρ hpre hrel hins ?_ ?_
  ·simp only [rId_con,rId_t,gA,gB,za,zh,gHds,zm,zd,h1,h3,h4,h5,hsy,zl,zg,yE,zu,Zi,hz0,hn,hlt,hx,hin,Option.isSome_some,c0,c1,c2,c3,c4,c5,c6,c7,c8]
   try simp
  ·simp only [rId_l,gE,dZ,gB,za,g3,zh,gHds,zm,zd,h1,h3,h4,h5,hsy,zl,zg,yE,zu,Zi,hz0,hn,hlt,hx,hin,Option.isSome_some,c0,c1,c2,c3,c4,c5,c6,c7,c8,Option.bind_some,gN,reduceCtorEq,gR]
   try simp
   try (intros; omega)
   try (simp_all; done)
noncomputable def rRoE_con : Con:={ f:=10,args:=[ratsArg 0 0,.one (.str 3),.one (.int .i64 4),.one (.int .i64 5)],N:=1,M:=1,pre:=[(.app 202 [.var 1],true),(qRN8,false)],out:=.tuple [.agg [.int .i64 0,.int .i64 0,.int .i64 0,.str [],.int .i64 0,.int .i64 0,.int .i64 0,.int .i64 0,.int .i64 0],.sint .i64 (.app 200 [.var 1])],news:=[] }
noncomputable def rRoE_call : Env→yC:=fun E => zw E (evH E (RQ E) ((fun _ => yo) E) 12)
noncomputable def rRoE_t : GTree:=(.leaf [[]])
noncomputable def rRoE_l : List (List (X×Bool)×Option zo):=[([(qRN5,true),(qRN2,false)],some [(.app 200 [.var 1],.app 200 [.var 1])])]
theorem rRoE_w (r : Rho) : rRoE_con.fn.ways rRoE_call E0 r rRoE_con.pre rRoE_t = some rRoE_l:=by kernel_rfl
theorem rRoE_cok : rRoE_con.Ok Tryz.prog sy:=by
 intro r σ w us hsy hρ hpre hrel hins
 obtain ⟨l,h1⟩:=zS hrel rfl hρ
 obtain ⟨u0,us,rfl,g0,hi⟩:=zf hins
 obtain ⟨u1,us,rfl,g1,hi1⟩:=zf hi
 obtain ⟨u2,us,rfl,g2,hi2⟩:=zf hi1
 obtain ⟨u3,us,rfl,g3,hi3⟩:=zf hi2
 obtain ⟨g,rfl,h3⟩:=yz g1
 obtain ⟨h,k4,rfl,h4⟩:=zK g2
 obtain ⟨K,k5,rfl,h5⟩:=zK g3
 rw [hρ] at h3 h4 h5
 have hsh : okR9 l = true:=by
  have:=hpre.1
  simpa only [gB,za,zh,gHds,zm,zd,h1,hsy,zg,Option.some.injEq,Value.bool.injEq] using this
 refine zX (E:=E0) zU zG (sy:=sy) (fun F => RQ_ok F hsy) (fun F => yP) (rRoE_w r) hρ hpre hrel hins ?_ ?_
 ·simp only [rRoE_con,rRoE_t,gA,gB,za,zh,gHds,zm,zd,h1,h3,h4,h5,hsy,zl,zg,yE,zu,Zi]
  try simp
 ·simp only [rRoE_l,gE,dZ,gB,za,g3,zh,gHds,zm,zd,h1,h3,h4,h5,hsy,zl,zg,yE,zu,Zi]
  try simp
noncomputable def rRoN_con : Con:={ f:=10,args:=[ratsArg 0 0,.one (.str 3),.one (.int .i64 4),.one (.int .i64 5)],N:=1,M:=1,pre:=[(.app 202 [.var 1],true),(qRN8,true),(.app 204 [.var 1,.var 3,.var 4,.var 5],false)],out:=.tuple [.agg [.int .i64 0,.int .i64 0,.int .i64 0,.str [],.int .i64 0,.int .i64 0,.int .i64 0,.int .i64 0,.int .i64 0],.int .i64 60],news:=[] }
noncomputable def rRoN_call : Env→yC:=fun E => zw E (evH E (RQ E) ((fun _ => yo) E) 12)
noncomputable def rRoN_t : GTree:=(.fork qRN1 (.fork qRN4 (.leaf [[]]) .bad) (.leaf [[]]))
noncomputable def rRoN_l : List (List (X×Bool)×Option zo):=[((qRN4,true) :: (qRN1,true) :: qRNf1,some []),
 ((qRN4,false) :: (qRN1,true) :: qRNf1,none),
 ((qRN1,false) :: qRNf1,some [])]
theorem rRoN_w (r : Rho) : rRoN_con.fn.ways rRoN_call E0 r rRoN_con.pre rRoN_t = some rRoN_l:=by kernel_rfl
theorem rRoN_cok : rRoN_con.Ok Tryz.prog sy:=by
 intro r σ w us hsy hρ hpre hrel hins
 obtain ⟨l,h1⟩:=zS hrel rfl hρ
 obtain ⟨u0,us,rfl,g0,hi⟩:=zf hins
 obtain ⟨u1,us,rfl,g1,hi1⟩:=zf hi
 obtain ⟨u2,us,rfl,g2,hi2⟩:=zf hi1
 obtain ⟨u3,us,rfl,g3,hi3⟩:=zf hi2
 obtain ⟨g,rfl,h3⟩:=yz g1
 obtain ⟨h,k4,rfl,h4⟩:=zK g2
 obtain ⟨K,k5,rfl,h5⟩:=zK g3
 rw [hρ] at h3 h4 h5
 have hsh : okR9 l = true:=by
  have:=hpre.1
  simpa only [gB,za,zh,gHds,zm,zd,h1,hsy,zg,Option.some.injEq,Value.bool.injEq] using this
 have hok : yy l = 0:=by
  have:=hpre.2.1
  simpa only [gB,za,zh,gHds,zm,zd,h1,hsy,zl,Option.some.injEq,Value.bool.injEq,beq_iff_eq] using this
 have hf:=force_is hok g h K
 have hl:=force_lt l g h K
 by_cases hz : l.length = 0
 ·have hin : inF l g h K = none:=by rw [List.length_eq_zero_iff.1 hz]; rfl
  have hz0 : ¬ (0 : Int) < l.length:=by omega
  have c0 : zb l g h K 0 = some (.int .i64 0):=by unfold zb; rw [hin]; rfl
  have c1 : zb l g h K 1 = some (.int .i64 0):=by unfold zb; rw [hin]; rfl
  have c2 : zb l g h K 2 = some (.int .i64 0):=by unfold zb; rw [hin]; rfl
  have c3 : zb l g h K 3 = some (.string (z8 [])):=by unfold zb; rw [hin]; rfl
  have c4 : zb l g h K 4 = some (.int .i64 0):=by unfold zb; rw [hin]; rfl
  have c5 : zb l g h K 5 = some (.int .i64 0):=by unfold zb; rw [hin]; rfl
  have c6 : zb l g h K 6 = some (.int .i64 0):=by unfold zb; rw [hin]; rfl
  have c7 : zb l g h K 7 = some (.int .i64 0):=by unfold zb; rw [hin]; rfl
  have c8 : zb l g h K 8 = some (.int .i64 0):=by unfold zb; rw [hin]; rfl
  refine zX (E:=E0) zU zG (sy:=sy) (fun F => RQ_ok F hsy) (fun F => yP) (rRoN_w r) hρ hpre hrel hins ?_ ?_
  ·simp only [rRoN_con,rRoN_t,gA,gB,za,zh,gHds,zm,zd,h1,h3,h4,h5,hsy,zl,zg,yE,zu,Zi,hz0,hin,Option.isSome_none,c0,c1,c2,c3,c4,c5,c6,c7,c8]
   try simp
  ·simp only [rRoN_l,gE,dZ,gB,za,g3,zh,gHds,zm,zd,h1,h3,h4,h5,hsy,zl,zg,yE,zu,Zi,hz0,hin,Option.isSome_none,c0,c1,c2,c3,c4,c5,c6,c7,c8,Option.bind_some,gN,reduceCtorEq,gR]
   try simp
   try (intros; omega)
   try (simp_all; done)
 have hz0 : (0 : Int) < l.length:=by omega
 have hlt : forceI l g h K < l.length:=by omega
 by_cases hn : forceI l g h K < 0
 ·have hin : inF l g h K = none:=by rw [hf,if_pos hn]
  have c0 : zb l g h K 0 = some (.int .i64 0):=by unfold zb; rw [hin]; rfl
  have c1 : zb l g h K 1 = some (.int .i64 0):=by unfold zb; rw [hin]; rfl
  have c2 : zb l g h K 2 = some (.int .i64 0):=by unfold zb; rw [hin]; rfl
  have c3 : zb l g h K 3 = some (.string (z8 [])):=by unfold zb; rw [hin]; rfl
  have c4 : zb l g h K 4 = some (.int .i64 0):=by unfold zb; rw [hin]; rfl
  have c5 : zb l g h K 5 = some (.int .i64 0):=by unfold zb; rw [hin]; rfl
  have c6 : zb l g h K 6 = some (.int .i64 0):=by unfold zb; rw [hin]; rfl
  have c7 : zb l g h K 7 = some (.int .i64 0):=by unfold zb; rw [hin]; rfl
  have c8 : zb l g h K 8 = some (.int .i64 0):=by unfold zb; rw [hin]; rfl
  refine zX (E:=E0) zU zG (sy:=sy) (fun F => RQ_ok F hsy) (fun F => yP) (rRoN_w r) hρ hpre hrel hins ?_ ?_
  ·simp only [rRoN_con,rRoN_t,gA,gB,za,zh,gHds,zm,zd,h1,h3,h4,h5,hsy,zl,zg,yE,zu,Zi,hz0,hn,hlt,hin,Option.isSome_none,c0,c1,c2,c3,c4,c5,c6,c7,c8]
   try simp
  ·simp only [rRoN_l,gE,dZ,gB,za,g3,zh,gHds,zm,zd,h1,h3,h4,h5,hsy,zl,zg,yE,zu,Zi,hz0,hn,hlt,hin,Option.isSome_none,c0,c1,c2,c3,c4,c5,c6,c7,c8,Option.bind_some,gN,reduceCtorEq,gR]
   try simp
   try (intros; omega)
   try (simp_all; done)
 ·obtain ⟨x,hx⟩ : ∃ x,l[(forceI l g h K).toNat]? = some x:=⟨_,List.getElem?_eq_getElem (by omega)⟩
  have hin : inF l g h K = some x:=by rw [hf,if_neg hn,hx]
  have c0 : zb l g h K 0 = some (.int .i64 x.id):=by unfold zb; rw [hin]; rfl
  have c1 : zb l g h K 1 = some (.int .i64 x.known):=by unfold zb; rw [hin]; rfl
  have c2 : zb l g h K 2 = some (.int .i64 x.from_):=by unfold zb; rw [hin]; rfl
  have c3 : zb l g h K 3 = some (.string x.goods):=by unfold zb; rw [hin]; rfl
  have c4 : zb l g h K 4 = some (.int .i64 x.num):=by unfold zb; rw [hin]; rfl
  have c5 : zb l g h K 5 = some (.int .i64 x.den):=by unfold zb; rw [hin]; rfl
  have c6 : zb l g h K 6 = some (.int .i64 x.cart):=by unfold zb; rw [hin]; rfl
  have c7 : zb l g h K 7 = some (.int .i64 x.store):=by unfold zb; rw [hin]; rfl
  have c8 : zb l g h K 8 = some (.int .i64 x.of_):=by unfold zb; rw [hin]; rfl
  refine zX (E:=E0) zU zG (sy:=sy) (fun F => RQ_ok F hsy) (fun F => yP) (rRoN_w r) hρ hpre hrel hins ?_ ?_
  ·simp only [rRoN_con,rRoN_t,gA,gB,za,zh,gHds,zm,zd,h1,h3,h4,h5,hsy,zl,zg,yE,zu,Zi,hz0,hn,hlt,hx,hin,Option.isSome_some,c0,c1,c2,c3,c4,c5,c6,c7,c8]
   try simp
  ·simp only [rRoN_l,gE,dZ,gB,za,g3,zh,gHds,zm,zd,h1,h3,h4,h5,hsy,zl,zg,yE,zu,Zi,hz0,hn,hlt,hx,hin,Option.isSome_some,c0,c1,c2,c3,c4,c5,c6,c7,c8,Option.bind_some,gN,reduceCtorEq,gR]
   try simp
   try (intros; omega)
   try (simp_all; done)
noncomputable def rRoY_con : Con:={ f:=10,args:=[ratsArg 0 0,.one (.str 3),.one (.int .i64 4),.one (.int .i64 5)],N:=1,M:=1,pre:=[(.app 202 [.var 1],true),(qRN8,true),(.app 204 [.var 1,.var 3,.var 4,.var 5],true)],out:=.tuple [.agg [.sint .i64 (.app 205 [.var 1,.var 3,.var 4,.var 5,.num 0]),.sint .i64 (.app 205 [.var 1,.var 3,.var 4,.var 5,.num 1]),.sint .i64 (.app 205 [.var 1,.var 3,.var 4,.var 5,.num 2]),.sstr (.app 205 [.var 1,.var 3,.var 4,.var 5,.num 3]),.sint .i64 (.app 205 [.var 1,.var 3,.var 4,.var 5,.num 4]),.sint .i64 (.app 205 [.var 1,.var 3,.var 4,.var 5,.num 5]),.sint .i64 (.app 205 [.var 1,.var 3,.var 4,.var 5,.num 6]),.sint .i64 (.app 205 [.var 1,.var 3,.var 4,.var 5,.num 7]),.sint .i64 (.app 205 [.var 1,.var 3,.var 4,.var 5,.num 8])],.int .i64 0],news:=[] }
noncomputable def rRoY_call : Env→yC:=fun E => zw E (evH E (RQ E) ((fun _ => yo) E) 12)
noncomputable def rRoY_t : GTree:=(.fork qRN1 (.fork qRN4 .bad (.fork qRN7 (.leaf [[]]) .bad)) .bad)
noncomputable def rRoY_l : List (List (X×Bool)×Option zo):=[((qRN4,true) :: (qRN1,true) :: qRNf0,none),
 ((qRN7,true) :: (qRN4,false) :: (qRN1,true) :: qRNf0,some [(qRN6,.cell 0 (.var 1) qRN0),(.app 205 [.var 1,.var 3,.var 4,.var 5,.num 1],.cell 1 (.var 1) qRN0),(.app 205 [.var 1,.var 3,.var 4,.var 5,.num 2],.cell 2 (.var 1) qRN0),(.app 205 [.var 1,.var 3,.var 4,.var 5,.num 3],.cell 3 (.var 1) qRN0),(.app 205 [.var 1,.var 3,.var 4,.var 5,.num 4],.cell 4 (.var 1) qRN0),(.app 205 [.var 1,.var 3,.var 4,.var 5,.num 5],.cell 5 (.var 1) qRN0),(.app 205 [.var 1,.var 3,.var 4,.var 5,.num 6],.cell 6 (.var 1) qRN0),(.app 205 [.var 1,.var 3,.var 4,.var 5,.num 7],.cell 7 (.var 1) qRN0),(.app 205 [.var 1,.var 3,.var 4,.var 5,.num 8],.cell 8 (.var 1) qRN0)]),
 ((qRN7,false) :: (qRN4,false) :: (qRN1,true) :: qRNf0,none),
 ((qRN1,false) :: qRNf0,none)]
theorem rRoY_w (r : Rho) : rRoY_con.fn.ways rRoY_call E0 r rRoY_con.pre rRoY_t = some rRoY_l:=by kernel_rfl
theorem rRoY_cok : rRoY_con.Ok Tryz.prog sy:=by
 intro r σ w us hsy hρ hpre hrel hins
 obtain ⟨l,h1⟩:=zS hrel rfl hρ
 obtain ⟨u0,us,rfl,g0,hi⟩:=zf hins
 obtain ⟨u1,us,rfl,g1,hi1⟩:=zf hi
 obtain ⟨u2,us,rfl,g2,hi2⟩:=zf hi1
 obtain ⟨u3,us,rfl,g3,hi3⟩:=zf hi2
 obtain ⟨g,rfl,h3⟩:=yz g1
 obtain ⟨h,k4,rfl,h4⟩:=zK g2
 obtain ⟨K,k5,rfl,h5⟩:=zK g3
 rw [hρ] at h3 h4 h5
 have hsh : okR9 l = true:=by
  have:=hpre.1
  simpa only [gB,za,zh,gHds,zm,zd,h1,hsy,zg,Option.some.injEq,Value.bool.injEq] using this
 have hok : yy l = 0:=by
  have:=hpre.2.1
  simpa only [gB,za,zh,gHds,zm,zd,h1,hsy,zl,Option.some.injEq,Value.bool.injEq,beq_iff_eq] using this
 have hf:=force_is hok g h K
 have hl:=force_lt l g h K
 by_cases hz : l.length = 0
 ·have hin : inF l g h K = none:=by rw [List.length_eq_zero_iff.1 hz]; rfl
  have hz0 : ¬ (0 : Int) < l.length:=by omega
  have c0 : zb l g h K 0 = some (.int .i64 0):=by unfold zb; rw [hin]; rfl
  have c1 : zb l g h K 1 = some (.int .i64 0):=by unfold zb; rw [hin]; rfl
  have c2 : zb l g h K 2 = some (.int .i64 0):=by unfold zb; rw [hin]; rfl
  have c3 : zb l g h K 3 = some (.string (z8 [])):=by unfold zb; rw [hin]; rfl
  have c4 : zb l g h K 4 = some (.int .i64 0):=by unfold zb; rw [hin]; rfl
  have c5 : zb l g h K 5 = some (.int .i64 0):=by unfold zb; rw [hin]; rfl
  have c6 : zb l g h K 6 = some (.int .i64 0):=by unfold zb; rw [hin]; rfl
  have c7 : zb l g h K 7 = some (.int .i64 0):=by unfold zb; rw [hin]; rfl
  have c8 : zb l g h K 8 = some (.int .i64 0):=by unfold zb; rw [hin]; rfl
  refine zX (E:=E0) zU zG (sy:=sy) (fun F => RQ_ok F hsy) (fun F => yP) (rRoY_w r) hρ hpre hrel hins ?_ ?_
  ·simp only [rRoY_con,rRoY_t,gA,gB,za,zh,gHds,zm,zd,h1,h3,h4,h5,hsy,zl,zg,yE,zu,Zi,hz0,hin,Option.isSome_none,c0,c1,c2,c3,c4,c5,c6,c7,c8]
   try simp
  ·simp only [rRoY_l,gE,dZ,gB,za,g3,zh,gHds,zm,zd,h1,h3,h4,h5,hsy,zl,zg,yE,zu,Zi,hz0,hin,Option.isSome_none,c0,c1,c2,c3,c4,c5,c6,c7,c8,Option.bind_some,gN,reduceCtorEq,gR]
   try simp
   try (intros; omega)
   try (simp_all; done)
 have hz0 : (0 : Int) < l.length:=by omega
 have hlt : forceI l g h K < l.length:=by omega
 by_cases hn : forceI l g h K < 0
 ·have hin : inF l g h K = none:=by rw [hf,if_pos hn]
  have c0 : zb l g h K 0 = some (.int .i64 0):=by unfold zb; rw [hin]; rfl
  have c1 : zb l g h K 1 = some (.int .i64 0):=by unfold zb; rw [hin]; rfl
  have c2 : zb l g h K 2 = some (.int .i64 0):=by unfold zb; rw [hin]; rfl
  have c3 : zb l g h K 3 = some (.string (z8 [])):=by unfold zb; rw [hin]; rfl
  have c4 : zb l g h K 4 = some (.int .i64 0):=by unfold zb; rw [hin]; rfl
  have c5 : zb l g h K 5 = some (.int .i64 0):=by unfold zb; rw [hin]; rfl
  have c6 : zb l g h K 6 = some (.int .i64 0):=by unfold zb; rw [hin]; rfl
  have c7 : zb l g h K 7 = some (.int .i64 0):=by unfold zb; rw [hin]; rfl
  have c8 : zb l g h K 8 = some (.int .i64 0):=by unfold zb; rw [hin]; rfl
  refine zX (E:=E0) zU zG (sy:=sy) (fun F => RQ_ok F hsy) (fun F => yP) (rRoY_w r) hρ hpre hrel hins ?_ ?_
  ·simp only [rRoY_con,rRoY_t,gA,gB,za,zh,gHds,zm,zd,h1,h3,h4,h5,hsy,zl,zg,yE,zu,Zi,hz0,hn,hlt,hin,Option.isSome_none,c0,c1,c2,c3,c4,c5,c6,c7,c8]
   try simp
  ·simp only [rRoY_l,gE,dZ,gB,za,g3,zh,gHds,zm,zd,h1,h3,h4,h5,hsy,zl,zg,yE,zu,Zi,hz0,hn,hlt,hin,Option.isSome_none,c0,c1,c2,c3,c4,c5,c6,c7,c8,Option.bind_some,gN,reduceCtorEq,gR]
   try simp
   try (intros; omega)
   try (simp_all; done)
 ·obtain ⟨x,hx⟩ : ∃ x,l[(forceI l g h K).toNat]? = some x:=⟨_,List.getElem?_eq_getElem (by omega)⟩
  have hin : inF l g h K = some x:=by rw [hf,if_neg hn,hx]
  have c0 : zb l g h K 0 = some (.int .i64 x.id):=by unfold zb; rw [hin]; rfl
  have c1 : zb l g h K 1 = some (.int .i64 x.known):=by unfold zb; rw [hin]; rfl
  have c2 : zb l g h K 2 = some (.int .i64 x.from_):=by unfold zb; rw [hin]; rfl
  have c3 : zb l g h K 3 = some (.string x.goods):=by unfold zb; rw [hin]; rfl
  have c4 : zb l g h K 4 = some (.int .i64 x.num):=by unfold zb; rw [hin]; rfl
  have c5 : zb l g h K 5 = some (.int .i64 x.den):=by unfold zb; rw [hin]; rfl
  have c6 : zb l g h K 6 = some (.int .i64 x.cart):=by unfold zb; rw [hin]; rfl
  have c7 : zb l g h K 7 = some (.int .i64 x.store):=by unfold zb; rw [hin]; rfl
  have c8 : zb l g h K 8 = some (.int .i64 x.of_):=by unfold zb; rw [hin]; rfl
  refine zX (E:=E0) zU zG (sy:=sy) (fun F => RQ_ok F hsy) (fun F => yP) (rRoY_w r) hρ hpre hrel hins ?_ ?_
  ·simp only [rRoY_con,rRoY_t,gA,gB,za,zh,gHds,zm,zd,h1,h3,h4,h5,hsy,zl,zg,yE,zu,Zi,hz0,hn,hlt,hx,hin,Option.isSome_some,c0,c1,c2,c3,c4,c5,c6,c7,c8]
   try simp
  ·simp only [rRoY_l,gE,dZ,gB,za,g3,zh,gHds,zm,zd,h1,h3,h4,h5,hsy,zl,zg,yE,zu,Zi,hz0,hn,hlt,hx,hin,Option.isSome_some,c0,c1,c2,c3,c4,c5,c6,c7,c8,Option.bind_some,gN,reduceCtorEq,gR]
   try simp
   try (intros; omega)
   try (simp_all; done)
open Go
noncomputable def RAL : Env→yi:=libs [cLib rCks_con]
theorem RAL_ok (F : List (X×Bool)) {r : Rho} (h : r.sym = sy) : zt (E0.with F r) (RAL (E0.with F r)):=yU fun c hc => by
 simp only [List.mem_cons,List.not_mem_nil,or_false] at hc
 subst hc; exact zH (E:=E0) rCks_cok F h
abbrev qRO0 : X:=.snoc (.var 1) [.op1 (.kind .i64) (.var 3),.op1 (.kind .i64) (.var 4),.op1 (.kind .i64) (.var 5),.var 6,.op1 (.kind .i64) (.var 7),.op1 (.kind .i64) (.var 8),.op1 (.kind .i64) (.var 9),.op1 (.kind .i64) (.var 10),.op1 (.kind .i64) (.var 11)]
abbrev qRO1 : X:=.snoc (.var 1) [.op1 (.kind .i64) (.var 3),.op1 (.kind .i64) (.var 4),.op1 (.kind .i64) (.var 5),.var 6,.op1 (.kind .i64) (.var 7),.op1 (.kind .i64) (.var 8),.op1 (.kind .i64) (.var 9),.op1 (.kind .i64) (.var 10),.op1 (.kind .i64) (.var 11)]
abbrev qRO2 : X:=.op1 .len (.var 1)
abbrev qRO3 : X:=.op2 .lt (.num 100) (.op1 .slen (.var 6))
abbrev qRO4 : X:=.op2 .eq (.app 200 [.var 1]) (.num 0)
abbrev qRO10 : X:=.op2 .add qRO2 (.num 1)
abbrev qRO5 : X:=.op2 .lt (.num 1000000000) qRO10
abbrev qRO11 : X:=.app 200 [qRO0]
abbrev qRO6 : X:=.op2 .eq qRO11 (.num 0)
abbrev qRO7 : X:=.op2 .lt (.num 1000000000) qRO2
abbrev qRO8 : X:=.op2 .lt (.num 1000) qRO2
abbrev qRO9 : X:=.app 202 [.var 1]
abbrev qRO12 : X:=.app 202 [qRO0]
abbrev qROf0 : List (X×Bool):=[(qRO9,true),(qRO8,false),(qRO3,false),(qRO6,false)]
abbrev qROf1 : List (X×Bool):=[(qRO9,true),(qRO8,false),(qRO3,false),(qRO6,true)]
noncomputable def rApE_con : Con:={ f:=39,args:=[ratsArg 0 0,.agg [.int .i64 3,.int .i64 4,.int .i64 5,.str 6,.int .i64 7,.int .i64 8,.int .i64 9,.int .i64 10,.int .i64 11]],N:=1,M:=1,pre:=[(.app 202 [.var 1],true),(qRO8,false),(qRO3,false),(.op2 .eq (.app 200 [qRO1]) (.num 0),false)],out:=.tuple [.nilslice,.sint .i64 (.app 200 [qRO1])],news:=[] }
noncomputable def rApE_call : Env→yC:=fun E => zw E (evH E (RAL E) ((fun _ => yo) E) 12)
noncomputable def rApE_t : GTree:=(.fork qRO4 (.fork qRO7 .bad (.fork qRO5 .bad (.fork qRO12 (.leaf [[],[],[]]) .bad))) (.leaf [[]]))
noncomputable def rApE_l : List (List (X×Bool)×Option zo):=[((qRO7,true) :: (qRO4,true) :: qROf0,none),
 ((qRO5,true) :: (qRO7,false) :: (qRO4,true) :: qROf0,none),
 ((qRO12,true) :: (qRO5,false) :: (qRO7,false) :: (qRO4,true) :: qROf0,some [(qRO11,qRO11),(qRO11,qRO11),(qRO11,qRO11)]),
 ((qRO12,false) :: (qRO5,false) :: (qRO7,false) :: (qRO4,true) :: qROf0,none),
 ((qRO4,false) :: qROf0,some [(qRO11,.app 200 [.var 1])])]
theorem rApE_w (r : Rho) : rApE_con.fn.ways rApE_call E0 r rApE_con.pre rApE_t = some rApE_l:=by kernel_rfl
theorem badR_app {l : List Rat9} {x : Rat9} {i : Nat} (hi : i < l.length) : badR (l ++ [x]) i = badR l i:=by
 unfold badR
 rw [List.getD_eq_getElem?_getD,List.getD_eq_getElem?_getD,List.getElem?_append_left hi,List.take_append_of_le_length (by omega)]
theorem chk_app {l : List Rat9} {x : Rat9} (h : yy l≠0) : yy (l ++ [x]) = yy l:=by
 unfold yy at h ⊢
 cases hs : stopR l with
 | none => rw [hs] at h; exact absurd rfl h
 | some i =>
   have hs2:=hs
   unfold stopR at hs2
   rw [List.find?_range_eq_some] at hs2
   obtain ⟨h1,h2,h3⟩:=hs2
   have hil : i < l.length:=List.mem_range.1 h2
   have : stopR (l ++ [x]) = some i:=by
    refine stopR_some (by rw [List.length_append]; omega) (fun j hj => ?_) ?_
    ·rw [badR_app (by omega)]
     have:=h3 j hj
     simpa using this
    ·rw [badR_app hil]
     simpa using h1
   rw [this]
   exact badR_app hil
theorem rApE_cok : rApE_con.Ok Tryz.prog sy:=by
 intro r σ w us hsy hρ hpre hrel hins
 obtain ⟨l,h1⟩:=zS hrel rfl hρ
 obtain ⟨u0,us,rfl,g0,hi⟩:=zf hins
 obtain ⟨u1,us,rfl,g1,hi1⟩:=zf hi
 obtain ⟨x,kx,rfl,hx⟩:=rat_agg (v:=3) g1
 rw [hρ] at hx
 have a0:=hx.h0
 have a1:=hx.h1
 have a2:=hx.h2
 have a3:=hx.h3
 have a4:=hx.h4
 have a5:=hx.h5
 have a6:=hx.h6
 have a7:=hx.h7
 have a8:=hx.h8
 simp only [Nat.reduceAdd] at a0 a1 a2 a3 a4 a5 a6 a7 a8
 have hsh : okR9 l = true:=by
  have:=hpre.1
  simpa only [gB,za,gW,zh,h1,hsy,zg,Option.some.injEq,Value.bool.injEq] using this
 have hml : (l.length : Int)≤1000:=by
  have:=hpre.2.1
  simp only [gB,za,gW,zh,h1,Option.some.injEq,Value.bool.injEq,decide_eq_false_iff_not] at this
  omega
 have hgx : (x.goods.size : Int)≤100:=by
  have:=hpre.2.2.1
  simp only [gB,za,gW,zh,a3,Option.some.injEq,Value.bool.injEq,decide_eq_false_iff_not] at this
  omega
 have hN1 : IntKind.i64.wrap ((l.length : Int) + 1) = (l.length : Int) + 1:=IntWalk.i64_in _ (by omega)
 have hxx : (⟨x.id,x.known,x.from_,x.goods,x.num,x.den,x.cart,x.store,x.of_⟩ : Rat9) = x:=rfl
 have hok:=ok_snoc hsh hgx hml
 have hll : ((l ++ [x]).length : Int) = (l.length : Int) + 1:=by simp
 have hch : yy l≠0→yy (l ++ [x]) = yy l:=chk_app
 refine zX (E:=E0) zU zG (sy:=sy) (fun F => RAL_ok F hsy) (fun F => yP) (rApE_w r) hρ hpre hrel hins ?_ ?_
 ·simp only [rApE_con,rApE_t,gA,gB,za,gW,zh,h1,a0,a1,a2,a3,a4,a5,a6,a7,a8,hsy,zl,zx,zg,hN1,hxx,hok,hll]
  try simp
 ·simp only [rApE_l,gE,dZ,gB,za,g3,gW,zh,h1,a0,a1,a2,a3,a4,a5,a6,a7,a8,hsy,zl,zx,zg,hN1,hxx,hok,hll]
  clear hpre hrel hins hsy
  (repeat' apply And.intro) <;> intros <;> first
    | trivial
    | (exfalso; omega)
    | (simp_all; done)
    | (have:=hch (by assumption); simp_all; done)
    | (simp_all; omega)
noncomputable def rApY_con : Con:={ f:=39,args:=[ratsArg 0 0,.agg [.int .i64 3,.int .i64 4,.int .i64 5,.str 6,.int .i64 7,.int .i64 8,.int .i64 9,.int .i64 10,.int .i64 11]],N:=1,M:=2,pre:=[(.app 202 [.var 1],true),(qRO8,false),(qRO3,false),(.op2 .eq (.app 200 [qRO1]) (.num 0),true)],out:=.tuple [.slo 1 9 qRO10,.int .i64 0],news:=[(1,.rows 9 ratSch (.num 0) qRO1 true 26)] }
noncomputable def rApY_call : Env→yC:=fun E => zw E (evH E (RAL E) ((fun _ => yo) E) 12)
noncomputable def rApY_t : GTree:=(.fork qRO4 (.fork qRO7 .bad (.fork qRO5 .bad (.fork qRO12 (.leaf [[(1,5)],[(1,5)],[(1,5)]]) .bad))) .bad)
noncomputable def rApY_l : List (List (X×Bool)×Option zo):=[((qRO7,true) :: (qRO4,true) :: qROf1,none),
 ((qRO5,true) :: (qRO7,false) :: (qRO4,true) :: qROf1,none),
 ((qRO12,true) :: (qRO5,false) :: (qRO7,false) :: (qRO4,true) :: qROf1,some [(qRO10,qRO10),(qRO0,qRO0),(qRO10,qRO10),(qRO0,qRO0),(qRO10,qRO10),(qRO0,qRO0)]),
 ((qRO12,false) :: (qRO5,false) :: (qRO7,false) :: (qRO4,true) :: qROf1,none),
 ((qRO4,false) :: qROf1,none)]
theorem rApY_w (r : Rho) : rApY_con.fn.ways rApY_call E0 r rApY_con.pre rApY_t = some rApY_l:=by kernel_rfl
theorem rApY_cok : rApY_con.Ok Tryz.prog sy:=by
 intro r σ w us hsy hρ hpre hrel hins
 obtain ⟨l,h1⟩:=zS hrel rfl hρ
 obtain ⟨u0,us,rfl,g0,hi⟩:=zf hins
 obtain ⟨u1,us,rfl,g1,hi1⟩:=zf hi
 obtain ⟨x,kx,rfl,hx⟩:=rat_agg (v:=3) g1
 rw [hρ] at hx
 have a0:=hx.h0
 have a1:=hx.h1
 have a2:=hx.h2
 have a3:=hx.h3
 have a4:=hx.h4
 have a5:=hx.h5
 have a6:=hx.h6
 have a7:=hx.h7
 have a8:=hx.h8
 simp only [Nat.reduceAdd] at a0 a1 a2 a3 a4 a5 a6 a7 a8
 have hsh : okR9 l = true:=by
  have:=hpre.1
  simpa only [gB,za,gW,zh,h1,hsy,zg,Option.some.injEq,Value.bool.injEq] using this
 have hml : (l.length : Int)≤1000:=by
  have:=hpre.2.1
  simp only [gB,za,gW,zh,h1,Option.some.injEq,Value.bool.injEq,decide_eq_false_iff_not] at this
  omega
 have hgx : (x.goods.size : Int)≤100:=by
  have:=hpre.2.2.1
  simp only [gB,za,gW,zh,a3,Option.some.injEq,Value.bool.injEq,decide_eq_false_iff_not] at this
  omega
 have hN1 : IntKind.i64.wrap ((l.length : Int) + 1) = (l.length : Int) + 1:=IntWalk.i64_in _ (by omega)
 have hxx : (⟨x.id,x.known,x.from_,x.goods,x.num,x.den,x.cart,x.store,x.of_⟩ : Rat9) = x:=rfl
 have hok:=ok_snoc hsh hgx hml
 have hll : ((l ++ [x]).length : Int) = (l.length : Int) + 1:=by simp
 have hch : yy l≠0→yy (l ++ [x]) = yy l:=chk_app
 refine zX (E:=E0) zU zG (sy:=sy) (fun F => RAL_ok F hsy) (fun F => yP) (rApY_w r) hρ hpre hrel hins ?_ ?_
 ·simp only [rApY_con,rApY_t,gA,gB,za,gW,zh,h1,a0,a1,a2,a3,a4,a5,a6,a7,a8,hsy,zl,zx,zg,hN1,hxx,hok,hll]
  try simp
 ·simp only [rApY_l,gE,dZ,gB,za,g3,gW,zh,h1,a0,a1,a2,a3,a4,a5,a6,a7,a8,hsy,zl,zx,zg,hN1,hxx,hok,hll]
  clear hpre hrel hins hsy
  (repeat' apply And.intro) <;> intros <;> first
    | trivial
    | (exfalso; omega)
    | (simp_all; done)
    | (have:=hch (by assumption); simp_all; done)
    | (simp_all; omega)
end Go.Proofs.YtfddkbbjnghefaaGreatDoor.Zs
