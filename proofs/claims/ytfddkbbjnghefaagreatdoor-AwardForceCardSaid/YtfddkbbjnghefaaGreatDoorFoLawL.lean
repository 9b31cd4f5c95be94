/-
  The law AwardForce: two forms, a list or nil.
-/
import Derived.Test.YtfddkbbjnghefaaGreatDoorFoRefN
import Derived.Test.YtfddkbbjnghefaaGreatDoorFoRunZ
import Derived.KernelRfl
set_option linter.unusedSimpArgs false
set_option maxHeartbeats 16000000
set_option linter.unusedVariables false
namespace Go.Proofs.YtfddkbbjnghefaaGreatDoor.Zs
open Go
def fw_vs : List X:=[.num 0]
abbrev qWL0 : X:=.snoc (.var 1) [.op1 (.kind .i64) (.var 6),.op1 (.kind .i64) (.var 7),.op1 (.kind .i64) (.var 8),.var 9,.op1 (.kind .i64) (.var 10),.op1 (.kind .i64) (.var 11),.op1 (.kind .i64) (.var 12),.op1 (.kind .i64) (.var 13),.op1 (.kind .i64) (.var 14)]
abbrev qWL20 : X:=.op1 .len (.var 1)
abbrev qWL15 : X:=.app 202 [.var 1]
abbrev qWL1 : X:=.ite (.op2 .lt (.num 103) qWL20) (.boo false) (.op2 .and qWL15 (.op2 .or (.op1 .not (.op2 .lt (.num 30) qWL20)) (.op2 .lt (.num 100) qWL20)))
abbrev qWL2 : X:=.snoc .nil [.op1 (.kind .i64) (.var 6),.op1 (.kind .i64) (.var 7),.op1 (.kind .i64) (.var 8),.var 9,.op1 (.kind .i64) (.var 10),.op1 (.kind .i64) (.var 11),.op1 (.kind .i64) (.var 12),.op1 (.kind .i64) (.var 13),.op1 (.kind .i64) (.var 14)]
abbrev qWL3 : X:=.app 210 [.var 1,.var 3,.var 5]
abbrev qWL4 : X:=.op2 .lt (.num 100) (.op1 .slen (.var 3))
abbrev qWL5 : X:=.op2 .lt (.num 100) (.op1 .slen (.var 9))
abbrev qWL6 : X:=.op2 .lt (.num 1000) qWL20
abbrev qWL7 : X:=.op2 .eq (.app 211 [.var 1,qWL0,.var 3,.var 7]) (.app 211 [.var 1,qWL0,.var 3,.var 7])
abbrev qWL8 : X:=.op2 .eq (.app 200 [.var 1]) (.num 0)
abbrev qWL9 : X:=.app 204 [.var 1,.var 3,.var 4,.var 5]
abbrev qWL10 : X:=.op2 .eq (.app 200 [qWL0]) (.num 0)
abbrev qWL11 : X:=.op2 .eq (.app 212 [.var 1,qWL0,.var 3,.var 7]) (.app 212 [.var 1,qWL0,.var 3,.var 7])
abbrev qWL12 : X:=.app 213 [.var 1,qWL0,.var 3,.var 7]
abbrev qWL13 : X:=.op2 .eq (.op1 .len qWL3) (.num 0)
abbrev qWL14 : X:=.op2 .lt (.num 0) (.op1 .len qWL0)
abbrev qWL16 : X:=.op2 .lt (.num 2000) (.op1 .len qWL3)
abbrev qWL17 : X:=.ite (.op2 .lt (.num 103) qWL20) (.boo true) qWL15
abbrev qWL18 : X:=.op2 .eq (.app 200 [.var 1]) (.app 200 [.var 1])
abbrev qWL19 : X:=.app 202 [qWL0]
abbrev qWL21 : X:=.app 190 [qWL3,qWL3]
abbrev qWL22 : X:=.op2 .eq (.app 211 [.nil,qWL2,.var 3,.var 7]) (.app 211 [.nil,qWL2,.var 3,.var 7])
abbrev qWL23 : X:=.op2 .eq (.app 200 [qWL2]) (.num 0)
abbrev qWL24 : X:=.app 212 [.nil,qWL2,.var 3,.var 7]
abbrev qWL25 : X:=.op2 .lt (.num 30) qWL20
abbrev qWL26 : X:=.op2 .eq (.app 200 [qWL0]) (.app 200 [qWL0])
abbrev qWL27 : X:=.op2 .lt (.num 0) (.op1 .len qWL2)
abbrev qWL28 : X:=.op2 .lt (.num 100) qWL20
abbrev qWL29 : X:=.app 213 [.nil,qWL2,.var 3,.var 7]
abbrev qWL30 : X:=.op2 .lt (.num 100) (.op1 .slen (.cell 3 (.var 1) (.var 100)))
abbrev qWL31 : X:=.ite (.op2 .lt (.num 103) qWL20) (.boo false) (.op2 .and (.app 202 [.var 1]) (.op2 .or (.op1 .not qWL25) qWL28))
abbrev qWL32 : X:=.op2 .lt (.var 100) (.num 0)
abbrev qWL33 : X:=.op2 .lt (.var 100) qWL20
abbrev qWL34 : X:=.op2 .lt (.var 100) (.num 110)
abbrev qWL35 : X:=.app 202 [qWL2]
abbrev qWLf0 : List (X×Bool):=[(qWL15,true),(qWL5,false),(qWL4,false),(qWL1,true)]
abbrev qWLf4 : List (X×Bool):=(qWL6,false) :: (qWL9,false) :: (qWL8,true) :: qWLf0
abbrev qWLf1 : List (X×Bool):=(qWL14,true) :: (qWL19,true) :: (qWL10,true) :: qWLf4
abbrev qWLf5 : List (X×Bool):=(qWL6,false) :: (qWL9,true) :: (qWL8,true) :: qWLf0
abbrev qWLf2 : List (X×Bool):=(qWL14,true) :: (qWL19,true) :: (qWL10,true) :: qWLf5
abbrev qWLf9 : List (X×Bool):=(qWL6,false) :: (qWL8,false) :: qWLf0
abbrev qWLf3 : List (X×Bool):=(qWL14,true) :: (qWL19,true) :: (qWL10,true) :: qWLf9
abbrev qWLf6 : List (X×Bool):=[(qWL35,true),(qWL23,true),(qWL5,false),(qWL4,false)]
abbrev qWLf7 : List (X×Bool):=(qWL16,false) :: (qWL13,false) :: (qWL12,true) :: qWLf2
abbrev qWLf8 : List (X×Bool):=(qWL16,false) :: (qWL13,false) :: (qWL12,true) :: qWLf1
noncomputable def lFw_D : LoopD:={ N:=100,M:=111,size:=Zk 7,reads:=[(0,.rows 9 ratSch (.var 0) (.var 1) false 26)],pats:=[{ slots:=[(0,.slx 0 9 (.var 0) (.num 0) qWL20 (.var 2)),(3,.sint .i64 (.var 100))],heap:=[] }],exits:=[(.exit 0,{ slots:=[(0,.slx 0 9 (.var 0) (.num 0) qWL20 (.var 2))],heap:=[],guard:=.ite (.op2 .lt (.num 103) qWL20) (.boo true) (.app 202 [.var 1]) }),(.ret,{ slots:=[(2,.bool false)],heap:=[],guard:=.op1 .not qWL31 })],own:=[],pre:=[],dfs:=[] }
noncomputable def lFw_run : Env→AF→ASt→Option (List Out):=Zh noL 9 (fun _ => Zl) (yh Tryz.prog 7 0)
def lFw0_F : List (X×Bool):=[(qWL32,false)]
noncomputable def lFw0_t : FTree:=(.fork qWL33 (.fork qWL34 (.fork qWL30 (.leaf [.leave 1 []]) (.leaf [.again 0 []])) (.leaf [.leave 0 []])) (.leaf [.leave 0 []]))
noncomputable def lFw0_l : List (List (X×Bool)×Option (List (Tgt×zo))):=[([(qWL30,true),(qWL34,true),(qWL33,true),(qWL32,false)],some [(.leave 1 [],[(.op1 .not qWL1,.boo true)])]),
 ([(qWL30,false),(qWL34,true),(qWL33,true),(qWL32,false)],some [(.again 0 [],[(.var 100,.op1 (.wrap .i64) (.op2 .add (.var 100) (.num 1)))])]),
 ([(qWL34,false),(qWL33,true),(qWL32,false)],some [(.leave 0 [],[(qWL17,.boo true)])]),
 ([(qWL33,false),(qWL32,false)],some [(.leave 0 [],[(qWL17,.boo true)])])]
theorem lFw0_w (r : Rho) : lFw_D.ways lFw_run E0 r 0 lFw0_F lFw0_t = some lFw0_l:=by kernel_rfl
theorem lFw_ok : lFw_D.ok = true:=by kernel_rfl
theorem d_iteB (b x y : Bool) : za (some (.bool b)) (some (.bool x)) (some (.bool y)) = some (.bool (bif b then x else y)):=by cases b <;> rfl
theorem ok_all {l : List Rat9} (hl : (l.length : Int)≤1010) (h : ∀ (k : Nat) (x : Rat9),l[k]? = some x→(x.goods.size : Int)≤100) : okR9 l = true:=by
 unfold okR9
 simp only [Bool.and_eq_true,decide_eq_true_eq,List.all_eq_true]
 refine ⟨hl,fun y hy => ?_⟩
 obtain ⟨k,hk⟩:=List.getElem?_of_mem hy
 exact h k y hk
theorem ok_not {l : List Rat9} {k : Nat} {x : Rat9} (hp : l[k]? = some x) (hx : (100 : Int) < x.goods.size) : okR9 l = false:=by
 cases h : okR9 l with
 | false => rfl
 | true => have:=ok_goodsL h hp; omega
def lFw_Inv (l : List Rat9) (j : Nat) (vals : List Value) : Prop:=
 j = 0∧∃ i : Nat,i≤110∧i≤l.length∧vals = [.int .i64 (i : Int)]∧∀ (k : Nat) (x : Rat9),k < i→l[k]? = some x→(x.goods.size : Int)≤100
def lFw_mu (_ : List Rat9) (_ : Nat) (vals : List Value) : Nat:=111 - (vI (vals.getD 0 default)).toNat
theorem lFw_step {ρ : Rho} {l : List Rat9} (h1 : ρ.val 1 = some (ratsR l)) (hsy : ρ.sym = sy) (j : Nat) (vals : List Value) (hI : lFw_Inv l j vals) : yI lFw_D lFw_run E0 ρ (lFw_Inv l) (lFw_mu l) j vals:=by
 obtain ⟨rfl,i,hi0,hi,rfl,hall⟩:=hI
 have hN : lFw_D.N = 100:=rfl
 have xl {jq vq}:=@xL ρ lFw_D.N 100 [.int .i64 (i : Int)] jq vq hN
 have xh {jq vq}:=@xH ρ lFw_D.N 100 [.int .i64 (i : Int)] jq vq hN
 have v1:=xl (jq:=1) h1 (by decide)
 have v100:=xh (jq:=100) (vq:=.int .i64 (i : Int)) rfl (by decide)
 have vs : (ρ.ext lFw_D.N [.int .i64 (i : Int)]).sym = sy:=hsy
 have hF : zp (ρ.ext lFw_D.N [.int .i64 (i : Int)]) lFw0_F:=by
  simp only [lFw0_F,zp,gB,d_iteB,zh,gHds,zd,gW,yX,v1,v100,vs,Option.some.injEq,Value.bool.injEq,decide_eq_false_iff_not,and_true]
  omega
 suffices both : Zp (ρ.ext lFw_D.N [.int .i64 (i : Int)]) (lFw0_t.asks lFw0_F)∧zR lFw_D ρ (lFw_Inv l) (lFw_mu l) 0 [.int .i64 (i : Int)] lFw0_l from zD (lFw0_w _) hF both.1.ok both.2
 have hfull : ¬ (103 : Int) < l.length→l.length≤i→okR9 l = true:=fun h h2 => ok_all (by omega) fun k x hk => hall k x (by have:=(List.getElem?_eq_some_iff.1 hk).1; omega) hk
 have h110 : ((i : Int) < 110)∨¬ (i : Int) < 110:=by omega
 cases hp : l[i]? with
 | none =>
   have hge:=List.getElem?_eq_none_iff.1 hp
   have hge' : ¬ (i : Int) < l.length:=by omega
   refine ⟨?_,?_⟩
   ·simp only [lFw0_t,lFw0_F,gA,gB,d_iteB,zh,gHds,zd,gW,yX,v1,v100,vs,zl,zx,zg,yE,zu,y9,yf,ye,yd,sym190D,Int.toNat_natCast,hp,hge']
    try simp
   ·simp only [lFw0_l,gE,dZ,gB,d_iteB,g3,zh,gHds,zd,gW,yX,v1,v100,vs,h1,hsy,zl,zx,zg,yE,zu,y9,yf,ye,yd,sym190D,Int.toNat_natCast,hp,hge',reduceCtorEq,gR]
    rcases Int.lt_or_le 103 l.length with h | h
    ·simp [h]
    ·simp [hfull (by omega) hge,Int.not_lt.2 h]
 | some x =>
   have hil : i < l.length:=(List.getElem?_eq_some_iff.1 hp).1
   have hil1 : (i : Int) < l.length:=by omega
   have hw : IntKind.i64.wrap ((i : Int) + 1) = ((i + 1 : Nat) : Int):=by rw [IntWalk.i64_in _ (by omega)]; rfl
   have hx : l.getD i zC = x:=by rw [List.getD_eq_getElem?_getD,hp]; rfl
   have go : ¬ (100 : Int) < x.goods.size→(i : Int) < 110→∃ vals',(ρ.ext lFw_D.N vals').val 100 = some (.int .i64 ((i + 1 : Nat) : Int))∧lFw_Inv l 0 vals'∧lFw_mu l 0 vals' < lFw_mu l 0 [.int .i64 (i : Int)]:=by
    intro hg h
    refine ⟨[.int .i64 ((i + 1 : Nat) : Int)],?_,⟨rfl,i + 1,by omega,by omega,rfl,fun k y hk hy => ?_⟩,by simp [lFw_mu,vI]; omega⟩
    ·exact xH hN rfl (by decide)
    ·rcases Nat.lt_succ_iff_lt_or_eq.1 hk with h2 | rfl
     ·exact hall k y h2 hy
     ·rw [hp] at hy; cases hy; omega
   have hno : (100 : Int) < x.goods.size→okR9 l = false:=ok_not hp
   refine ⟨?_,?_⟩
   all_goals (simp only [lFw0_t,lFw0_F,lFw0_l,gA,gB,d_iteB,zh,gHds,zd,gW,yX,yq,zR,zB,zI,Zn,Zo,zT,zY,dZ,g3,v1,v100,vs,h1,hsy,zl,zx,zg,yE,zu,y9,yf,ye,yd,sym190D,Int.toNat_natCast,hp,Option.bind_some,gN,hil1,hw,reduceCtorEq,Bool.false_eq_true,false_implies,true_implies,and_true,true_and])
   all_goals (clear v1 v100 vs h1 hsy hF)
   all_goals ((repeat' apply And.intro) <;> intros <;> first
    | trivial
    | contradiction
    | (exact go (by assumption) (by assumption))
    | (have q:=hno (by assumption); rw [q]; cases decide ((103 : Int) < l.length) <;> rfl)
    | (rw [decide_eq_true (show (103 : Int) < l.length by omega)]; rfl)
    | (exfalso; omega)
    | (simp_all; done))
noncomputable def cFw_con : Con:={ f:=7,args:=[ratsArg 0 0],N:=1,M:=1,pre:=[],out:=.sbool qWL31,news:=[] }
noncomputable def cFw_call : Env→yC:=fun E => zw E (evH E (noL E) ((fun E => oneH 7 (yR [(2,lFw_D.hook E.facts fw_vs)])) E) 9)
noncomputable def cFw_t : GTree:=(.fork qWL17 (.fork qWL1 (.fork qWL25 (.fork qWL28 (.leaf [[]]) (.leaf [[]])) (.leaf [[]])) (.fork qWL25 (.fork qWL28 (.leaf [[],[]]) (.leaf [[],[]])) (.leaf [[],[]]))) (.fork qWL1 (.leaf []) (.leaf [[]])))
noncomputable def cFw_l : List (List (X×Bool)×Option zo):=[([(qWL28,true),(qWL25,true),(qWL1,true),(qWL17,true)],some [(qWL1,.op1 .not (.op2 .lt (.num 103) qWL20))]),
 ([(qWL28,false),(qWL25,true),(qWL1,true),(qWL17,true)],some [(qWL1,.boo false)]),
 ([(qWL25,false),(qWL1,true),(qWL17,true)],some [(qWL1,.boo true)]),
 ([(qWL28,true),(qWL25,true),(qWL1,false),(qWL17,true)],some [(qWL1,.op1 .not (.op2 .lt (.num 103) qWL20)),(qWL1,.boo false)]),
 ([(qWL28,false),(qWL25,true),(qWL1,false),(qWL17,true)],some [(qWL1,.boo false),(qWL1,.boo false)]),
 ([(qWL25,false),(qWL1,false),(qWL17,true)],some [(qWL1,.boo true),(qWL1,.boo false)]),
 ([(qWL1,true),(qWL17,false)],some []),
 ([(qWL1,false),(qWL17,false)],some [(qWL1,.boo false)])]
theorem cFw_w (r : Rho) : cFw_con.fn.ways cFw_call E0 r cFw_con.pre cFw_t = some cFw_l:=by kernel_rfl
theorem lFw_H {ρ : Rho} {l : List Rat9} (h1 : ρ.val 1 = some (ratsR l)) (hsy : ρ.sym = sy) (F : List (X×Bool)) : yV (E0.with F ρ) (oneH 7 (yR [(2,lFw_D.hook (E0.with F ρ).facts fw_vs)])):=by
 refine yN (n:=1) (fun f fn h => h) (by kernel_rfl) fun i hi => ?_
 obtain rfl : i = 0:=by omega
 rw [yA (show Zr (yh (E0.with F ρ).P 7 0) = 2 by kernel_rfl)]
 refine hook_ok (E₀:=E0) (run:=lFw_run) (ρ:=ρ) (Inv:=lFw_Inv l) (μ:=lFw_mu l) zU lFw_ok (fun F r' h => ?_) (fun hp => ⟨lFw_step h1 hsy,[.int .i64 0],?_,rfl,0,Nat.zero_le _,Nat.zero_le _,rfl,fun k x hk => absurd hk (Nat.not_lt_zero _)⟩)
 ·exact yl zU (noL_ok F (h.trans hsy)) fun _ _ => yj
 ·simp only [fw_vs,gB,d_iteB,zh,gHds,zd,gW,yX]
  try rfl
theorem cFw_cok : cFw_con.Ok Tryz.prog sy:=by
 intro r σ w us hsy hρ hpre hrel hins
 obtain ⟨l,h1⟩:=zS hrel rfl hρ
 refine zX (E:=E0) zU zG (sy:=sy) (fun F => noL_ok F hsy) (fun F => lFw_H h1 hsy F) (cFw_w r) hρ hpre hrel hins ?_ ?_
 ·simp only [cFw_con,cFw_t,gA,gB,d_iteB,zh,gHds,zd,gW,yX,h1,hsy,zl,zx,zg,yE,zu,y9,yf,ye,yd,sym190D]
  try simp
 ·simp only [cFw_l,gE,dZ,gB,d_iteB,g3,zh,gHds,zd,gW,yX,h1,hsy,zl,zx,zg,yE,zu,y9,yf,ye,yd,sym190D]
  rcases Int.lt_or_le 103 l.length with h | h
  ·have h30 : (30 : Int) < l.length:=by omega
   have h100 : (100 : Int) < l.length:=by omega
   simp [h,h30,h100]
  ·have h':=Int.not_lt.2 h
   cases okR9 l <;> cases Decidable.em ((30 : Int) < l.length) <;> cases Decidable.em ((100 : Int) < l.length) <;> first | (simp_all; done) | (simp_all; (repeat' apply And.intro) <;> intros <;> omega)
noncomputable def cTuZ_con : Con:={ f:=14,args:=[.nils,.one (.str 3),.one (.int .i64 4)],N:=1,M:=1,pre:=[],out:=.nilslice,news:=[] }
noncomputable def cTuZ_call : Env→yC:=fun E => zw E (evH E (LB E) ((fun _ => yo) E) 12)
noncomputable def cTuZ_t : GTree:=(.leaf [[]])
noncomputable def cTuZ_l : List (List (X×Bool)×Option zo):=[([],some [])]
theorem cTuZ_w (r : Rho) : cTuZ_con.fn.ways cTuZ_call E0 r cTuZ_con.pre cTuZ_t = some cTuZ_l:=by kernel_rfl
theorem cTuZ_cok : cTuZ_con.Ok Tryz.prog sy:=by
 intro r σ w us hsy hρ hpre hrel hins
 refine zX (E:=E0) zU zG (sy:=sy) (fun F => LB_ok F hsy) (fun F => yP) (cTuZ_w r) hρ hpre hrel hins ?_ ?_
 ·simp only [cTuZ_con,cTuZ_t,gA,gB,d_iteB,zh,gHds,zd,gW,yX]
  try simp
 ·simp only [cTuZ_l,gE,dZ,gB,d_iteB,g3,zh,gHds,zd,gW,yX]
  try simp
noncomputable def WLL : Env→yi:=libs [cLib cFw_con,cLib cCkr_con,cLib cRoE_con,cLib cRoN_con,cLib cRoY_con,cLib cTcE_con,cLib cTcN_con,cLib cTcY_con,cLib cTuE_con,cLib cTuN_con,cLib cTuY_con,cLib rCks_con,cLib rRoE_con,cLib rRoN_con,cLib rRoY_con,cLib rTcE_con,cLib rTcN_con,cLib rTcY_con,cLib rTuE_con,cLib rTuN_con,cLib rTuY_con,cLib rSi_con,fun _ => aliveL]
theorem WLL_ok (F : List (X×Bool)) {r : Rho} (h : r.sym = sy) : zt (E1.with F r) (WLL (E1.with F r)):=yU fun c hc => by
 simp only [List.mem_cons,List.not_mem_nil,or_false] at hc
 rcases hc with rfl | rfl | rfl | rfl | rfl | rfl | rfl | rfl | rfl | rfl | rfl | rfl | rfl | rfl | rfl | rfl | rfl | rfl | rfl | rfl | rfl | rfl | rfl
 ·exact zH (E:=E1) cFw_cok F h
 ·exact zH (E:=E1) cCkr_cok F h
 ·exact zH (E:=E1) cRoE_cok F h
 ·exact zH (E:=E1) cRoN_cok F h
 ·exact zH (E:=E1) cRoY_cok F h
 ·exact zH (E:=E1) cTcE_cok F h
 ·exact zH (E:=E1) cTcN_cok F h
 ·exact zH (E:=E1) cTcY_cok F h
 ·exact zH (E:=E1) cTuE_cok F h
 ·exact zH (E:=E1) cTuN_cok F h
 ·exact zH (E:=E1) cTuY_cok F h
 ·exact zH (E:=E1) rCks_cok F h
 ·exact zH (E:=E1) rRoE_cok F h
 ·exact zH (E:=E1) rRoN_cok F h
 ·exact zH (E:=E1) rRoY_cok F h
 ·exact zH (E:=E1) rTcE_cok F h
 ·exact zH (E:=E1) rTcN_cok F h
 ·exact zH (E:=E1) rTcY_cok F h
 ·exact zH (E:=E1) rTuE_cok F h
 ·exact zH (E:=E1) rTuN_cok F h
 ·exact zH (E:=E1) rTuY_cok F h
 ·exact zH (E:=E1) rSi_cok F h
 ·exact alive_ok F r
noncomputable def WLN : Env→yi:=libs [cLib cTuZ_con,cLib cTnE_con,cLib cTnN_con,cLib cTnY_con,cLib rTnE_con,cLib rTnN_con,cLib rTnY_con,cLib rCks_con,cLib cCkr_con,fun _ => aliveL]
theorem WLN_ok (F : List (X×Bool)) {r : Rho} (h : r.sym = sy) : zt (E1.with F r) (WLN (E1.with F r)):=yU fun c hc => by
 simp only [List.mem_cons,List.not_mem_nil,or_false] at hc
 rcases hc with rfl | rfl | rfl | rfl | rfl | rfl | rfl | rfl | rfl | rfl
 ·exact zH (E:=E1) cTuZ_cok F h
 ·exact zH (E:=E1) cTnE_cok F h
 ·exact zH (E:=E1) cTnN_cok F h
 ·exact zH (E:=E1) cTnY_cok F h
 ·exact zH (E:=E1) rTnE_cok F h
 ·exact zH (E:=E1) rTnN_cok F h
 ·exact zH (E:=E1) rTnY_cok F h
 ·exact zH (E:=E1) rCks_cok F h
 ·exact zH (E:=E1) cCkr_cok F h
 ·exact alive_ok F r
noncomputable def fo_fn : FnD:={ f:=3,args:=argsAV [ratsArg 60 0,.one (.str 3),.one (.int .i64 4),.one (.int .i64 5),.agg [.int .i64 6,.int .i64 7,.int .i64 8,.str 9,.int .i64 10,.int .i64 11,.int .i64 12,.int .i64 13,.int .i64 14]],heap:=hRoot ++ argsBlk [ratsArg 60 0,.one (.str 3),.one (.int .i64 4),.one (.int .i64 5),.agg [.int .i64 6,.int .i64 7,.int .i64 8,.str 9,.int .i64 10,.int .i64 11,.int .i64 12,.int .i64 13,.int .i64 14]],N:=100,M:=100,out:=.sbool (.boo true),news:=[] }
noncomputable def fo_call : Env→yC:=fun E => zw E (evH E (WLL E) ((fun _ => yo) E) 9)
noncomputable def fo_pre : List (X×Bool):=[]
noncomputable def fo_t : GTree:=(.fork qWL1 (.fork qWL4 (.leaf [[]]) (.fork qWL5 (.leaf [[]]) (.fork qWL15 (.fork qWL8 (.fork qWL9 (.fork qWL6 .bad (.fork qWL10 (.fork qWL19 (.fork qWL14 (.fork qWL12 (.fork qWL13 (.fork qWL7 (.fork qWL11 (.leaf [[]]) .bad) .bad) (.fork qWL16 .bad (.fork qWL21 (.fork qWL7 (.fork qWL11 (.leaf [[]]) .bad) .bad) .bad))) (.fork qWL13 (.leaf [[]]) (.fork qWL16 .bad (.fork qWL21 (.leaf [[]]) .bad)))) .bad) .bad) (.fork qWL13 (.leaf [[]]) (.fork qWL16 .bad (.fork qWL21 (.leaf [[]]) .bad))))) (.fork qWL6 .bad (.fork qWL10 (.fork qWL19 (.fork qWL14 (.fork qWL12 (.fork qWL13 (.fork qWL7 (.fork qWL11 (.leaf [[]]) .bad) .bad) (.fork qWL16 .bad (.fork qWL21 (.fork qWL7 (.fork qWL11 (.leaf [[]]) .bad) .bad) .bad))) (.fork qWL13 (.leaf [[]]) (.fork qWL16 .bad (.fork qWL21 (.leaf [[]]) .bad)))) .bad) .bad) (.fork qWL13 (.leaf [[]]) (.fork qWL16 .bad (.fork qWL21 (.leaf [[]]) .bad)))))) (.fork qWL6 .bad (.fork qWL10 (.fork qWL19 (.fork qWL14 (.fork qWL12 (.fork qWL18 (.fork qWL7 (.fork qWL11 (.leaf [[]]) .bad) .bad) .bad) (.fork qWL18 (.leaf [[]]) .bad)) .bad) .bad) (.fork qWL18 (.leaf [[]]) .bad)))) .bad))) (.leaf [[]]))
noncomputable def fo_l : List (List (X×Bool)×Option zo):=[([(qWL4,true),(qWL1,true)],some []),
 ([(qWL5,true),(qWL4,false),(qWL1,true)],some []),
 ((qWL6,true) :: (qWL9,true) :: (qWL8,true) :: qWLf0,none),
 ((qWL11,true) :: (qWL7,true) :: (qWL13,true) :: (qWL12,true) :: qWLf2,some []),
 ((qWL11,false) :: (qWL7,true) :: (qWL13,true) :: (qWL12,true) :: qWLf2,none),
 ((qWL7,false) :: (qWL13,true) :: (qWL12,true) :: qWLf2,none),
 ((qWL16,true) :: (qWL13,false) :: (qWL12,true) :: qWLf2,none),
 ((qWL11,true) :: (qWL7,true) :: (qWL21,true) :: qWLf7,some []),
 ((qWL11,false) :: (qWL7,true) :: (qWL21,true) :: qWLf7,none),
 ((qWL7,false) :: (qWL21,true) :: qWLf7,none),
 ((qWL21,false) :: qWLf7,none),
 ((qWL13,true) :: (qWL12,false) :: qWLf2,some []),
 ((qWL16,true) :: (qWL13,false) :: (qWL12,false) :: qWLf2,none),
 ((qWL21,true) :: (qWL16,false) :: (qWL13,false) :: (qWL12,false) :: qWLf2,some []),
 ((qWL21,false) :: (qWL16,false) :: (qWL13,false) :: (qWL12,false) :: qWLf2,none),
 ((qWL14,false) :: (qWL19,true) :: (qWL10,true) :: qWLf5,none),
 ((qWL19,false) :: (qWL10,true) :: qWLf5,none),
 ((qWL13,true) :: (qWL10,false) :: qWLf5,some [(.boo true,qWL26)]),
 ((qWL16,true) :: (qWL13,false) :: (qWL10,false) :: qWLf5,none),
 ((qWL21,true) :: (qWL16,false) :: (qWL13,false) :: (qWL10,false) :: qWLf5,some [(.boo true,qWL26)]),
 ((qWL21,false) :: (qWL16,false) :: (qWL13,false) :: (qWL10,false) :: qWLf5,none),
 ((qWL6,true) :: (qWL9,false) :: (qWL8,true) :: qWLf0,none),
 ((qWL11,true) :: (qWL7,true) :: (qWL13,true) :: (qWL12,true) :: qWLf1,some []),
 ((qWL11,false) :: (qWL7,true) :: (qWL13,true) :: (qWL12,true) :: qWLf1,none),
 ((qWL7,false) :: (qWL13,true) :: (qWL12,true) :: qWLf1,none),
 ((qWL16,true) :: (qWL13,false) :: (qWL12,true) :: qWLf1,none),
 ((qWL11,true) :: (qWL7,true) :: (qWL21,true) :: qWLf8,some []),
 ((qWL11,false) :: (qWL7,true) :: (qWL21,true) :: qWLf8,none),
 ((qWL7,false) :: (qWL21,true) :: qWLf8,none),
 ((qWL21,false) :: qWLf8,none),
 ((qWL13,true) :: (qWL12,false) :: qWLf1,some []),
 ((qWL16,true) :: (qWL13,false) :: (qWL12,false) :: qWLf1,none),
 ((qWL21,true) :: (qWL16,false) :: (qWL13,false) :: (qWL12,false) :: qWLf1,some []),
 ((qWL21,false) :: (qWL16,false) :: (qWL13,false) :: (qWL12,false) :: qWLf1,none),
 ((qWL14,false) :: (qWL19,true) :: (qWL10,true) :: qWLf4,none),
 ((qWL19,false) :: (qWL10,true) :: qWLf4,none),
 ((qWL13,true) :: (qWL10,false) :: qWLf4,some [(.boo true,qWL26)]),
 ((qWL16,true) :: (qWL13,false) :: (qWL10,false) :: qWLf4,none),
 ((qWL21,true) :: (qWL16,false) :: (qWL13,false) :: (qWL10,false) :: qWLf4,some [(.boo true,qWL26)]),
 ((qWL21,false) :: (qWL16,false) :: (qWL13,false) :: (qWL10,false) :: qWLf4,none),
 ((qWL6,true) :: (qWL8,false) :: qWLf0,none),
 ((qWL11,true) :: (qWL7,true) :: (qWL18,true) :: (qWL12,true) :: qWLf3,some []),
 ((qWL11,false) :: (qWL7,true) :: (qWL18,true) :: (qWL12,true) :: qWLf3,none),
 ((qWL7,false) :: (qWL18,true) :: (qWL12,true) :: qWLf3,none),
 ((qWL18,false) :: (qWL12,true) :: qWLf3,none),
 ((qWL18,true) :: (qWL12,false) :: qWLf3,some []),
 ((qWL18,false) :: (qWL12,false) :: qWLf3,none),
 ((qWL14,false) :: (qWL19,true) :: (qWL10,true) :: qWLf9,none),
 ((qWL19,false) :: (qWL10,true) :: qWLf9,none),
 ((qWL18,true) :: (qWL10,false) :: qWLf9,some [(.boo true,qWL26)]),
 ((qWL18,false) :: (qWL10,false) :: qWLf9,none),
 ([(qWL15,false),(qWL5,false),(qWL4,false),(qWL1,true)],none),
 ([(qWL1,false)],some [])]
theorem fo_w (r : Rho) : fo_fn.ways fo_call E1 r fo_pre fo_t = some fo_l:=by kernel_rfl
theorem turns_lenW (l : List Rat9) (g : ByteArray) (K : Int) : (turnsW l g K).length≤l.length:=by
 rw [← turnsI_all (Nat.le_refl _)]
 exact turns_len l g K _
theorem fo_60 : (yk fo_fn.heap).get 60 = some (.rows 9 ratSch (.var 0) (.var 1) false 26):=by kernel_rfl
theorem fo_out (σ : Sig) : fo_fn.out.inst σ = some (.bool true):=rfl
set_option maxRecDepth 100000 in
theorem fo_true {r : Rho} {σ : Sig} {w : World} {us : List Value} (hsy : r.sym = sy) (hρ : σ.rho = r) (hA : ∀ g id,E1.glob g = some id→∃ κ,σ id = some (g,κ)) (hrel : (memOf fo_fn.heap 100).rel Tryz.prog σ w (fun b => w.heap.size≤b)) (hins : Ins σ fo_fn.args us) :
  Calls Tryz.prog 3 us.toArray w fun e w' => e = .returned (.bool true)∧Kept (fun b => w.heap.size≤b) w w':=by
 obtain ⟨u0,us,rfl,g0,hi⟩:=zf hins
 obtain ⟨u1,us,rfl,g1,hi1⟩:=zf hi
 obtain ⟨u2,us,rfl,g2,hi2⟩:=zf hi1
 obtain ⟨u3,us,rfl,g3,hi3⟩:=zf hi2
 obtain ⟨u4,us,rfl,g4,hi4⟩:=zf hi3
 obtain ⟨g,e1,h3⟩:=yz g1
 obtain ⟨h,k4,e2,h4⟩:=zK g2
 obtain ⟨K,k5,e3,h5⟩:=zK g3
 obtain ⟨x,kx,e4,hx⟩:=rat_agg (v:=6) g4
 obtain ⟨l,h1⟩:=rats_at hrel (i:=60) fo_60
 rw [hρ] at h1 h3 h4 h5 hx
 have h1 : r.val 1 = some (ratsR l):=h1
 have a0:=hx.h0
 have a1:=hx.h1
 have a2:=hx.h2
 have a3:=hx.h3
 have a4:=hx.h4
 have a5:=hx.h5
 have a6:=hx.h6
 have a7:=hx.h7
 have a8:=hx.h8
 simp only [Nat.reduceAdd] at a0 a1 a2 a3 a4 a5 a6 a7 a8
 have hxx : (⟨x.id,x.known,x.from_,x.goods,x.num,x.den,x.cart,x.store,x.of_⟩ : Rat9) = x:=rfl
 have hfew : okR9 l = true→(x.goods.size : Int)≤100→(l.length : Int)≤103→okR9 (l ++ [x]) = true:=fun a b c => ok_snoc a b (by omega)
 have htl:=turns_lenW l g K
 have hll : ((l ++ [x]).length : Int) = (l.length : Int) + 1:=by simp
 have c0 : zb l g h K 0 = some (.int .i64 ((inF l g h K).getD zC).id):=rfl
 have c1 : zb l g h K 1 = some (.int .i64 ((inF l g h K).getD zC).known):=rfl
 have c2 : zb l g h K 2 = some (.int .i64 ((inF l g h K).getD zC).from_):=rfl
 have c3 : zb l g h K 3 = some (.string ((inF l g h K).getD zC).goods):=rfl
 have c4 : zb l g h K 4 = some (.int .i64 ((inF l g h K).getD zC).num):=rfl
 have c5 : zb l g h K 5 = some (.int .i64 ((inF l g h K).getD zC).den):=rfl
 have c6 : zb l g h K 6 = some (.int .i64 ((inF l g h K).getD zC).cart):=rfl
 have c7 : zb l g h K 7 = some (.int .i64 ((inF l g h K).getD zC).store):=rfl
 have c8 : zb l g h K 8 = some (.int .i64 ((inF l g h K).getD zC).of_):=rfl
 refine law_of (E:=E1) (D:=fo_fn) E1_ok (fun F => WLL_ok F hsy) (fun F => yP) (fo_w r) hρ hA trivial hrel hins ?_ ?_ fo_out
 ·simp only [fo_pre,fo_t,gA,gB,d_iteB,zh,gHds,zd,gW,yX,h1,h3,h4,h5,a0,a1,a2,a3,a4,a5,a6,a7,a8,hxx,hsy,zl,zx,zg,yE,zu,y9,yf,ye,yd,sym190D,c0,c1,c2,c3,c4,c5,c6,c7,c8]
  try simp
 ·simp only [fo_l,gE,dZ,gB,d_iteB,g3,zh,gHds,zd,gW,yX,h1,h3,h4,h5,a0,a1,a2,a3,a4,a5,a6,a7,a8,hxx,hsy,zl,zx,zg,yE,zu,y9,yf,ye,yd,sym190D,c0,c1,c2,c3,c4,c5,c6,c7,c8]
  clear hρ hrel hi hi1 hi2 hi3 hi4 hins g0 g1 g2 g3 g4 h1 h3 h4 h5 a0 a1 a2 a3 a4 a5 a6 a7 a8 hx hsy hA
  (repeat' apply And.intro) <;> intros <;> first
    | (exact True.intro)
    | rfl
    | contradiction
    | (exfalso; omega)
    | (simp_all; done)
    | (exfalso; simp_all; done)
    | (exfalso; simp_all; omega)
noncomputable def fn_fn : FnD:={ f:=3,args:=argsAV [.nils,.one (.str 3),.one (.int .i64 4),.one (.int .i64 5),.agg [.int .i64 6,.int .i64 7,.int .i64 8,.str 9,.int .i64 10,.int .i64 11,.int .i64 12,.int .i64 13,.int .i64 14]],heap:=hRoot ++ argsBlk [.nils,.one (.str 3),.one (.int .i64 4),.one (.int .i64 5),.agg [.int .i64 6,.int .i64 7,.int .i64 8,.str 9,.int .i64 10,.int .i64 11,.int .i64 12,.int .i64 13,.int .i64 14]],N:=100,M:=100,out:=.sbool (.boo true),news:=[] }
noncomputable def fn_call : Env→yC:=fun E => zw E (evH E (WLN E) ((fun _ => yo) E) 14)
noncomputable def fn_pre : List (X×Bool):=[]
noncomputable def fn_t : GTree:=(.fork qWL4 (.leaf [[]]) (.fork qWL5 (.leaf [[]]) (.fork qWL23 (.fork qWL35 (.fork qWL27 (.fork qWL29 (.fork qWL22 (.fork (.op2 .eq qWL24 qWL24) (.leaf [[]]) .bad) .bad) (.leaf [[]])) .bad) .bad) (.leaf [[]]))))
noncomputable def fn_l : List (List (X×Bool)×Option zo):=[([(qWL4,true)],some []),
 ([(qWL5,true),(qWL4,false)],some []),
 ((.op2 .eq qWL24 qWL24,true) :: (qWL22,true) :: (qWL29,true) :: (qWL27,true) :: qWLf6,some []),
 ((.op2 .eq qWL24 qWL24,false) :: (qWL22,true) :: (qWL29,true) :: (qWL27,true) :: qWLf6,none),
 ((qWL22,false) :: (qWL29,true) :: (qWL27,true) :: qWLf6,none),
 ((qWL29,false) :: (qWL27,true) :: qWLf6,some []),
 ((qWL27,false) :: qWLf6,none),
 ([(qWL35,false),(qWL23,true),(qWL5,false),(qWL4,false)],none),
 ([(qWL23,false),(qWL5,false),(qWL4,false)],some [(.boo true,.op2 .eq (.app 200 [qWL2]) (.app 200 [qWL2]))])]
theorem fn_w (r : Rho) : fn_fn.ways fn_call E1 r fn_pre fn_t = some fn_l:=by kernel_rfl
theorem fn_out (σ : Sig) : fn_fn.out.inst σ = some (.bool true):=rfl
set_option maxRecDepth 100000 in
theorem fn_true {r : Rho} {σ : Sig} {w : World} {us : List Value} (hsy : r.sym = sy) (hρ : σ.rho = r) (hA : ∀ g id,E1.glob g = some id→∃ κ,σ id = some (g,κ)) (hrel : (memOf fn_fn.heap 100).rel Tryz.prog σ w (fun b => w.heap.size≤b)) (hins : Ins σ fn_fn.args us) :
  Calls Tryz.prog 3 us.toArray w fun e w' => e = .returned (.bool true)∧Kept (fun b => w.heap.size≤b) w w':=by
 obtain ⟨u0,us,rfl,g0,hi⟩:=zf hins
 obtain ⟨u1,us,rfl,g1,hi1⟩:=zf hi
 obtain ⟨u2,us,rfl,g2,hi2⟩:=zf hi1
 obtain ⟨u3,us,rfl,g3,hi3⟩:=zf hi2
 obtain ⟨u4,us,rfl,g4,hi4⟩:=zf hi3
 obtain ⟨g,e1,h3⟩:=yz g1
 obtain ⟨h,k4,e2,h4⟩:=zK g2
 obtain ⟨K,k5,e3,h5⟩:=zK g3
 obtain ⟨x,kx,e4,hx⟩:=rat_agg (v:=6) g4
 rw [hρ] at h3 h4 h5 hx
 have a0:=hx.h0
 have a1:=hx.h1
 have a2:=hx.h2
 have a3:=hx.h3
 have a4:=hx.h4
 have a5:=hx.h5
 have a6:=hx.h6
 have a7:=hx.h7
 have a8:=hx.h8
 simp only [Nat.reduceAdd] at a0 a1 a2 a3 a4 a5 a6 a7 a8
 have hxx : (⟨x.id,x.known,x.from_,x.goods,x.num,x.den,x.cart,x.store,x.of_⟩ : Rat9) = x:=rfl
 have hfew : (x.goods.size : Int)≤100→okR9 [x] = true:=fun b => ok_snoc (l:=[]) rfl b (by simp)
 refine law_of (E:=E1) (D:=fn_fn) E1_ok (fun F => WLN_ok F hsy) (fun F => yP) (fn_w r) hρ hA trivial hrel hins ?_ ?_ fn_out
 ·simp only [fn_pre,fn_t,gA,gB,d_iteB,zh,gHds,zd,gW,yX,yc,h3,h4,h5,a0,a1,a2,a3,a4,a5,a6,a7,a8,hxx,hsy,zl,zx,zg,yE,zu,y9,yf,ye,yd,sym190D]
  try simp
 ·simp only [fn_l,gE,dZ,gB,d_iteB,g3,zh,gHds,zd,gW,yX,yc,List.nil_append,h3,h4,h5,a0,a1,a2,a3,a4,a5,a6,a7,a8,hxx,hsy,zl,zx,zg,yE,zu,y9,yf,ye,yd,sym190D]
  clear hρ hrel hi hi1 hi2 hi3 hi4 hins g0 g1 g2 g3 g4 h3 h4 h5 a0 a1 a2 a3 a4 a5 a6 a7 a8 hx hsy hA
  (repeat' apply And.intro) <;> intros <;> first
    | (exact True.intro)
    | rfl
    | contradiction
    | (exfalso; omega)
    | (simp_all; done)
    | (exfalso; simp_all; done)
    | (exfalso; simp_all; omega)
end Go.Proofs.YtfddkbbjnghefaaGreatDoor.Zs
