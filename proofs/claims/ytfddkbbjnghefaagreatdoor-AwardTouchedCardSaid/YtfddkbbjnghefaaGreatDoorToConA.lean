/-
  Contracts: numbers within bounds, fractions.
-/
import Derived.Test.YtfddkbbjnghefaaGreatDoorToBase
import Derived.Test.YtfddkbbjnghefaaGreatDoorToData
import Derived.KernelRfl
set_option linter.unusedSimpArgs false
set_option linter.unusedVariables false
namespace Go.Proofs.YtfddkbbjnghefaaGreatDoor.Zs
open Go
noncomputable def noL : Env→yj:=libs []
theorem noL_ok (F : List (X×Bool)) {r : Rho} (h : r.sym = sy) : zu (E0.with F r) (noL (E0.with F r)):=libs_ok fun c hc => by
 cases hc
noncomputable def cwithin_con : Con:={ f:=67,args:=[.one (.int .i64 0),.one (.int .i64 1),.one (.int .i64 2)],N:=0,M:=0,pre:=[],out:=.sbool (.app 10 [.var 0,.var 1,.var 2]),news:=[] }
noncomputable def cwithin_call : Env→Za:=fun E => zS E (evH E (noL E) ((fun _ => yX) E) 4)
noncomputable def cwithin_t : GTree:=(.fork (.op2 .lt (.var 0) (.var 1)) (.leaf [[]]) (.leaf [[]]))
noncomputable def cwithin_l : List (List (X×Bool)×Option zp):=[([(.op2 .lt (.var 0) (.var 1),true)],some [(.app 10 [.var 0,.var 1,.var 2],.boo false)]),
 ([(.op2 .lt (.var 0) (.var 1),false)],some [(.app 10 [.var 0,.var 1,.var 2],.op1 .not (.op2 .lt (.var 2) (.var 0)))])]
theorem cwithin_w (r : Rho) : cwithin_con.fn.ways cwithin_call E0 r cwithin_con.pre cwithin_t = some cwithin_l:=by kernel_rfl
theorem cwithin_cok : cwithin_con.Ok Tryz.prog sy:=by
 intro r σ w us hsy hρ hpre hrel hins
 obtain ⟨u0,us,rfl,g0,hins⟩:=zn hins
 obtain ⟨u1,us,rfl,g1,hins⟩:=zn hins
 obtain ⟨u2,us,rfl,g2,hins⟩:=zn hins
 obtain ⟨a,k0,rfl,h0⟩:=yl g0
 obtain ⟨b,k1,rfl,h1⟩:=yl g1
 obtain ⟨c,k2,rfl,h2⟩:=yl g2
 rw [hρ] at h0 h1 h2
 have hs : r.sym 10 [.int k0 a,.int k1 b,.int k2 c] = some (.bool (zY a b c)):=by rw [hsy]; rfl
 refine y6 (E:=E0) yQ yC (sy:=sy) (fun F => noL_ok F hsy) (fun F => noH_ok) (cwithin_w r) hρ hpre hrel hins ?_ ?_
 ·simp only [cwithin_con,cwithin_t,gA,gB,zd,h0,h1,h2,hs]
 ·simp only [cwithin_l,gE,dZ,gB,zd,g3,h0,h1,h2,hs]
  (repeat' apply And.intro) <;> intros <;> first | trivial | (simp [zY]; omega) | (rw [Bool.eq_iff_iff]; simp [zY]; omega)
noncomputable def LW : Env→yj:=libs [cLib cwithin_con]
theorem LW_ok (F : List (X×Bool)) {r : Rho} (h : r.sym = sy) : zu (E0.with F r) (LW (E0.with F r)):=libs_ok fun c hc => by
 simp only [List.mem_cons,List.not_mem_nil,or_false] at hc
 subst hc; exact ya (E:=E0) cwithin_cok F h
open Go
def div_vs : List X:=[.var 0,.var 1]
abbrev qEF0 : X:=.app 10 [.var 0,.num (-1000000000000000),.num 1000000000000000]
abbrev qEF1 : X:=.app 10 [.var 1,.num (-1000000000000000),.num 1000000000000000]
abbrev qEF2 : X:=.op1 (.wrap .i64) (.op2 .sub (.num 0) (.var 0))
abbrev qEF3 : X:=.op1 (.wrap .i64) (.op2 .sub (.num 0) (.var 1))
abbrev qEF4 : X:=.app 72 [.var 0,.var 1]
abbrev qEF5 : X:=.app 70 [.var 0,.var 1]
abbrev qEF6 : X:=.app 71 [.var 0,.var 1]
abbrev qEF7 : X:=.op2 .eq (.var 1) (.num 0)
abbrev qEF8 : X:=.app 58 [.var 0,.var 1]
abbrev qEF9 : X:=.op2 .lt (.var 1) (.num 0)
abbrev qEF10 : X:=.app 10 [.app 54 [.var 0,.var 1],.num 1,.num 1000000]
abbrev qEF11 : X:=.app 10 [.app 53 [.var 0,.var 1],.num (-1000000000000),.num 1000000000000]
abbrev qEF12 : X:=.app 10 [.app 54 [qEF2,qEF3],.num 1,.num 1000000]
abbrev qEF13 : X:=.app 10 [.app 53 [qEF2,qEF3],.num (-1000000000000),.num 1000000000000]
abbrev qEF14 : X:=.app 50 [.var 0,.var 1]
abbrev qEF15 : X:=.app 52 [.var 0,.var 1]
abbrev qEF16 : X:=.app 132 [.var 0,.var 1]
abbrev qEF17 : X:=.op2 .eq qEF4 (.num 0)
abbrev qEF18 : X:=.app 55 [.var 0]
abbrev qEF19 : X:=.app 58 [qEF2,qEF3]
abbrev qEF20 : X:=.app 55 [.var 1]
abbrev qEF21 : X:=.op2 .eq (.var 0) qEF5
abbrev qEFf0 : List (X×Bool):=[(qEF1,true),(qEF0,true),(qEF7,false)]
noncomputable def kwithin_con : Con:={ f:=120,args:=[.one (.int .i64 0),.one (.int .i64 1),.one (.int .i64 2)],N:=0,M:=0,pre:=[],out:=.sbool (.app 10 [.var 0,.var 1,.var 2]),news:=[] }
noncomputable def kwithin_call : Env→Za:=fun E => zS E (evH E (noL E) ((fun _ => yX) E) 4)
noncomputable def kwithin_t : GTree:=(.fork (.op2 .lt (.var 0) (.var 1)) (.leaf [[]]) (.leaf [[]]))
noncomputable def kwithin_l : List (List (X×Bool)×Option zp):=[([(.op2 .lt (.var 0) (.var 1),true)],some [(.app 10 [.var 0,.var 1,.var 2],.boo false)]),
 ([(.op2 .lt (.var 0) (.var 1),false)],some [(.app 10 [.var 0,.var 1,.var 2],.op1 .not (.op2 .lt (.var 2) (.var 0)))])]
theorem kwithin_w (r : Rho) : kwithin_con.fn.ways kwithin_call E0 r kwithin_con.pre kwithin_t = some kwithin_l:=by kernel_rfl
theorem kwithin_cok : kwithin_con.Ok Tryz.prog sy:=by
 intro r σ w us hsy hρ hpre hrel hins
 obtain ⟨u0,us,rfl,g0,hins⟩:=zn hins
 obtain ⟨u1,us,rfl,g1,hins⟩:=zn hins
 obtain ⟨u2,us,rfl,g2,hins⟩:=zn hins
 obtain ⟨a,k0,rfl,h0⟩:=yl g0
 obtain ⟨b,k1,rfl,h1⟩:=yl g1
 obtain ⟨c,k2,rfl,h2⟩:=yl g2
 rw [hρ] at h0 h1 h2
 have hs : r.sym 10 [.int k0 a,.int k1 b,.int k2 c] = some (.bool (zY a b c)):=by rw [hsy]; rfl
 refine y6 (E:=E0) yQ yC (sy:=sy) (fun F => noL_ok F hsy) (fun F => noH_ok) (kwithin_w r) hρ hpre hrel hins ?_ ?_
 ·simp only [kwithin_con,kwithin_t,gA,gB,zd,h0,h1,h2,hs]
 ·simp only [kwithin_l,gE,dZ,gB,zd,g3,h0,h1,h2,hs]
  (repeat' apply And.intro) <;> intros <;> first | trivial | (simp [zY]; omega) | (rw [Bool.eq_iff_iff]; simp [zY]; omega)
noncomputable def kdiv_D : LoopD:={ N:=100,M:=102,size:=sizeOfF 157,reads:=[],pats:=[{ slots:=[(0,.sint .i64 (.var 100)),(1,.sint .i64 (.var 101))],heap:=[] }],exits:=[(.exit 0,{ slots:=[(0,.sint .i64 (.app 52 [.var 0,.var 1]))],heap:=[] })],own:=[],pre:=[(.app 55 [.var 0],true),(.app 55 [.var 1],true)],dfs:=[] }
noncomputable def kdiv_run : Env→AF→ASt→Option (List Out):=bodyRun noL 4 (fun _ => noLoop) (yA Tryz.prog 157 0)
def kdiv0_F : List (X×Bool):=[]
noncomputable def kdiv0_t : FTree:=(.fork (.op2 .eq (.var 101) (.num 0)) (.leaf [.leave 0 []]) (.leaf [.again 0 []]))
noncomputable def kdiv0_l : List (List (X×Bool)×Option (List (Tgt×zp))):=[([(.op2 .eq (.var 101) (.num 0),true)],some [(.leave 0 [],[(qEF15,.var 100)])]),
 ([(.op2 .eq (.var 101) (.num 0),false)],some [(.again 0 [],[(.var 100,.var 101),(.var 101,.op1 (.kind .i64) (.op2 .mod (.var 100) (.var 101)))])])]
theorem kdiv0_w (r : Rho) : kdiv_D.ways kdiv_run E0 r 0 kdiv0_F kdiv0_t = some kdiv0_l:=by kernel_rfl
theorem kdiv_ok : kdiv_D.ok = true:=by kernel_rfl
def kdiv_Inv (k0 k1 : IntKind) (a b : Int) (j : Nat) (vals : List Value) : Prop:=
 j = 0∧∃ (x y : Int) (j0 j1 : IntKind),vals = [.int j0 x,.int j1 y]∧wideB x = true∧wideB y = true∧lastI x y = lastI a b∧lastK j0 j1 x y = lastK k0 k1 a b
def kdiv_mu (_ : Nat) (vals : List Value) : Nat:=(vI (vals.getD 1 default)).natAbs
theorem kdiv_step {ρ : Rho} {a b : Int} {k0 k1 : IntKind} (h0 : ρ.val 0 = some (.int k0 a)) (h1 : ρ.val 1 = some (.int k1 b)) (hsy : ρ.sym = sy) (j : Nat) (vals : List Value) (hI : kdiv_Inv k0 k1 a b j vals) :
  yn kdiv_D kdiv_run E0 ρ (kdiv_Inv k0 k1 a b) kdiv_mu j vals:=by
 obtain ⟨rfl,x,y,j0,j1,rfl,hx,hy,hl,hk⟩:=hI
 have hN : kdiv_D.N = 100:=rfl
 have xl {jq vq}:=@xL ρ kdiv_D.N 100 [.int j0 x,.int j1 y] jq vq hN
 have xh {jq vq}:=@xH ρ kdiv_D.N 100 [.int j0 x,.int j1 y] jq vq hN
 have v0:=xl (jq:=0) h0 (by decide)
 have v1:=xl (jq:=1) h1 (by decide)
 have v100:=xh (jq:=100) (vq:=.int j0 x) rfl (by decide)
 have v101:=xh (jq:=101) (vq:=.int j1 y) rfl (by decide)
 have vs : (ρ.ext kdiv_D.N [.int j0 x,.int j1 y]).sym = sy:=hsy
 refine zC (kdiv0_w _) (F:=kdiv0_F) ?_ (y9.ok ?_) ?_
 ·simp only [kdiv0_F,zf]
 ·simp only [kdiv0_t,kdiv0_F,gA,gB,zd,v0,v1,v100,v101,vs,sym50,sym52,sym55]
 ·simp only [kdiv0_l,gE,dZ,gB,zd,v0,v1,v100,v101,vs,h0,h1,hsy,sym50,sym52,sym55,g3]
  refine ⟨fun e => ?_,fun e => ⟨[.int j1 y,.int .i64 (x.tmod y)],⟨?_,?_⟩,⟨rfl,y,x.tmod y,j1,.i64,rfl,hy,wide_tmod hy e,by rw [← lastI_step _ _ e]; exact hl,by rw [lastK_step j0 j1 x y e]; exact hk⟩,?_⟩⟩
  ·subst e
   rw [lastI_zero] at hl
   simp only [lastK,if_true] at hk
   exact ⟨hk.symm,hl.symm⟩
  ·exact xH hN rfl (by decide)
  ·exact xH hN rfl (by decide)
  ·exact tmod_lt x y e
noncomputable def kdiv_con : Con:={ f:=157,args:=[.one (.int .i64 0),.one (.int .i64 1)],N:=0,M:=0,pre:=[(.app 55 [.var 0],true),(.app 55 [.var 1],true)],out:=.sint .i64 (.app 50 [.var 0,.var 1]),news:=[] }
noncomputable def kdiv_call : Env→Za:=fun E => zS E (evH E (noL E) ((fun E => oneH 157 (hooks [(1,kdiv_D.hook E.facts div_vs)])) E) 4)
noncomputable def kdiv_t : GTree:=(.leaf [[]])
noncomputable def kdiv_l : List (List (X×Bool)×Option zp):=[([(qEF18,true),(qEF20,true)],some [(qEF14,.ite (.op2 .lt qEF15 (.op1 (.wrap .i64) (.op2 .sub (.num 0) qEF15))) (.op1 (.kind .i64) (.op1 (.wrap .i64) (.op2 .sub (.num 0) qEF15))) (.op1 (.kind .i64) qEF15))])]
theorem kdiv_w (r : Rho) : kdiv_con.fn.ways kdiv_call E0 r kdiv_con.pre kdiv_t = some kdiv_l:=by kernel_rfl
theorem kdiv_H {r : Rho} {a b : Int} {k0 k1 : IntKind} (h0 : r.val 0 = some (.int k0 a)) (h1 : r.val 1 = some (.int k1 b)) (ha : wideB a = true) (hb : wideB b = true) (hsy : r.sym = sy) (F : List (X×Bool)) :
  LoopsOk (E0.with F r) (oneH 157 (hooks [(1,kdiv_D.hook (E0.with F r).facts div_vs)])):=by
 refine loops_all (n:=1) (fun f fn h => h) (by kernel_rfl) fun i hi => ?_
 obtain rfl : i = 0:=by omega
 rw [hooks_hit (show keyOf (yA (E0.with F r).P 157 0) = 1 by kernel_rfl)]
 refine hook_ok (E₀:=E0) (run:=kdiv_run) (ρ:=r) (Inv:=kdiv_Inv k0 k1 a b) (μ:=kdiv_mu) yQ kdiv_ok (fun F r' h => ?_) (fun _ => ⟨kdiv_step h0 h1 hsy,[.int k0 a,.int k1 b],?_,rfl,a,b,k0,k1,rfl,ha,hb,rfl,rfl⟩)
 ·exact ye yQ (noL_ok F (h.trans hsy)) fun _ _ => yc
 ·simp only [div_vs,gB,zd,h0,h1]
theorem kdiv_cok : kdiv_con.Ok Tryz.prog sy:=by
 intro r σ w us hsy hρ hpre hrel hins
 obtain ⟨u0,us,rfl,g0,hins⟩:=zn hins
 obtain ⟨u1,us,rfl,g1,hins⟩:=zn hins
 obtain ⟨a,k0,rfl,h0⟩:=yl g0
 obtain ⟨b,k1,rfl,h1⟩:=yl g1
 rw [hρ] at h0 h1
 have hw:=hpre
 simp only [kdiv_con,zf,gB,zd,h0,h1,hsy,sym55,Option.some.injEq,Value.bool.injEq,and_true] at hw
 obtain ⟨ha,hb⟩:=hw
 refine y6 (E:=E0) yQ yC (sy:=sy) (fun F => noL_ok F hsy) (fun F => kdiv_H h0 h1 ha hb hsy F) (kdiv_w r) hρ hpre hrel hins ?_ ?_
 ·simp only [kdiv_con,kdiv_t,gA,gB,zd,h0,h1,hsy,sym50,sym52,sym55]
 ·simp only [kdiv_l,gE,dZ,gB,zd,h0,h1,hsy,sym50,sym52,sym55]
  have hg:=last_gcd a b
  have hn:=last_wide ha hb
  have hwr : IntKind.i64.wrap (0 - lastI a b) = - lastI a b:=by rw [IntWalk.i64_in _ (by rw [wide_iff] at hn; omega)]; omega
  intros
  have e : gcdI a b = if lastI a b < - lastI a b then - lastI a b else lastI a b:=by split <;> omega
  rw [hwr]
  by_cases hlt : lastI a b < - lastI a b
  ·rw [if_pos hlt] at e
   simp [hlt,e]
  ·rw [if_neg hlt] at e
   simp [hlt,e]
noncomputable def K2 : Env→yj:=libs [cLib kwithin_con,cLib kdiv_con]
theorem K2_ok (F : List (X×Bool)) {r : Rho} (h : r.sym = sy) : zu (E0.with F r) (K2 (E0.with F r)):=libs_ok fun c hc => by
 simp only [List.mem_cons,List.not_mem_nil,or_false] at hc
 rcases hc with rfl | rfl
 ·exact ya (E:=E0) kwithin_cok F h
 ·exact ya (E:=E0) kdiv_cok F h
noncomputable def kLow_con : Con:={ f:=155,args:=[.one (.int .i64 0),.one (.int .i64 1)],N:=0,M:=0,pre:=[(.app 58 [.var 0,.var 1],true)],out:=.agg [.sint .i64 (.app 53 [.var 0,.var 1]),.sint .i64 (.app 54 [.var 0,.var 1])],news:=[] }
noncomputable def kLow_call : Env→Za:=fun E => zS E (evH E (K2 E) ((fun _ => yX) E) 4)
noncomputable def kLow_t : GTree:=(.fork qEF18 (.fork qEF20 (.fork (.op2 .eq qEF14 (.num 0)) .bad (.leaf [[]])) .bad) .bad)
noncomputable def kLow_l : List (List (X×Bool)×Option zp):=[([(.op2 .eq qEF14 (.num 0),true),(qEF20,true),(qEF18,true),(qEF8,true)],none),
 ([(.op2 .eq qEF14 (.num 0),false),(qEF20,true),(qEF18,true),(qEF8,true)],some [(.app 53 [.var 0,.var 1],.op1 (.wrap .i64) (.op2 .div (.var 0) qEF14)),(.app 54 [.var 0,.var 1],.op1 (.wrap .i64) (.op2 .div (.var 1) qEF14))]),
 ([(qEF20,false),(qEF18,true),(qEF8,true)],none),
 ([(qEF18,false),(qEF8,true)],none)]
theorem kLow_w (r : Rho) : kLow_con.fn.ways kLow_call E0 r kLow_con.pre kLow_t = some kLow_l:=by kernel_rfl
theorem kLow_cok : kLow_con.Ok Tryz.prog sy:=by
 intro r σ w us hsy hρ hpre hrel hins
 obtain ⟨u0,us,rfl,g0,hins⟩:=zn hins
 obtain ⟨u1,us,rfl,g1,hins⟩:=zn hins
 obtain ⟨n,k0,rfl,h0⟩:=yl g0
 obtain ⟨d,k1,rfl,h1⟩:=yl g1
 rw [hρ] at h0 h1
 have hw:=hpre
 simp only [kLow_con,zf,gB,zd,h0,h1,hsy,sym58,Option.some.injEq,Value.bool.injEq,and_true,can_iff] at hw
 obtain ⟨hn,hd,hp⟩:=hw
 have e1:=wrap_lowN d hn
 have e2:=wrap_lowD n hd
 have e3:=gcd_ne (n:=n) hp
 refine y6 (E:=E0) yQ yC (sy:=sy) (fun F => K2_ok F hsy) (fun F => noH_ok) (kLow_w r) hρ hpre hrel hins ?_ ?_
 ·simp only [kLow_con,kLow_t,gA,gB,zd,h0,h1,hsy,sym10,sym50,sym53,sym54,sym55,sym58,sym59,e1,e2,hn,hd,e3]
 ·simp only [kLow_l,gE,dZ,gB,zd,g3,h0,h1,hsy,sym10,sym50,sym53,sym54,sym55,sym58,sym59,e1,e2,hn,hd,e3]
  simp_all
noncomputable def K3 : Env→yj:=libs [cLib kwithin_con,cLib kdiv_con,cLib kLow_con]
theorem K3_ok (F : List (X×Bool)) {r : Rho} (h : r.sym = sy) : zu (E0.with F r) (K3 (E0.with F r)):=libs_ok fun c hc => by
 simp only [List.mem_cons,List.not_mem_nil,or_false] at hc
 rcases hc with rfl | rfl | rfl
 ·exact ya (E:=E0) kwithin_cok F h
 ·exact ya (E:=E0) kdiv_cok F h
 ·exact ya (E:=E0) kLow_cok F h
noncomputable def kNorm_con : Con:={ f:=142,args:=[.one (.int .i64 0),.one (.int .i64 1)],N:=0,M:=0,pre:=[],out:=.tuple [.agg [.sint .i64 (.app 70 [.var 0,.var 1]),.sint .i64 (.app 71 [.var 0,.var 1])],.sint .i64 (.app 72 [.var 0,.var 1])],news:=[] }
noncomputable def kNorm_call : Env→Za:=fun E => zS E (evH E (K3 E) ((fun _ => yX) E) 20)
noncomputable def kNorm_t : GTree:=(.fork qEF7 (.leaf [[]]) (.fork qEF0 (.fork qEF1 (.fork qEF9 (.fork qEF19 (.fork qEF12 (.fork qEF13 (.leaf [[]]) (.leaf [[]])) (.leaf [[]])) .bad) (.fork qEF8 (.fork qEF10 (.fork qEF11 (.leaf [[]]) (.leaf [[]])) (.leaf [[]])) .bad)) (.leaf [[]])) (.leaf [[]])))
noncomputable def kNorm_l : List (List (X×Bool)×Option zp):=[([(qEF7,true)],some [(qEF5,.num 0),(qEF6,.num 0),(qEF4,.num 1)]),
 ((qEF13,true) :: (qEF12,true) :: (qEF19,true) :: (qEF9,true) :: qEFf0,some [(qEF5,.app 53 [qEF2,qEF3]),(qEF6,.app 54 [qEF2,qEF3]),(qEF4,.num 0)]),
 ((qEF13,false) :: (qEF12,true) :: (qEF19,true) :: (qEF9,true) :: qEFf0,some [(qEF5,.num 0),(qEF6,.num 0),(qEF4,.num 2)]),
 ((qEF12,false) :: (qEF19,true) :: (qEF9,true) :: qEFf0,some [(qEF5,.num 0),(qEF6,.num 0),(qEF4,.num 2)]),
 ((qEF19,false) :: (qEF9,true) :: qEFf0,none),
 ((qEF11,true) :: (qEF10,true) :: (qEF8,true) :: (qEF9,false) :: qEFf0,some [(qEF5,.app 53 [.var 0,.var 1]),(qEF6,.app 54 [.var 0,.var 1]),(qEF4,.num 0)]),
 ((qEF11,false) :: (qEF10,true) :: (qEF8,true) :: (qEF9,false) :: qEFf0,some [(qEF5,.num 0),(qEF6,.num 0),(qEF4,.num 2)]),
 ((qEF10,false) :: (qEF8,true) :: (qEF9,false) :: qEFf0,some [(qEF5,.num 0),(qEF6,.num 0),(qEF4,.num 2)]),
 ((qEF8,false) :: (qEF9,false) :: qEFf0,none),
 ([(qEF1,false),(qEF0,true),(qEF7,false)],some [(qEF5,.num 0),(qEF6,.num 0),(qEF4,.num 1)]),
 ([(qEF0,false),(qEF7,false)],some [(qEF5,.num 0),(qEF6,.num 0),(qEF4,.num 1)])]
theorem kNorm_w (r : Rho) : kNorm_con.fn.ways kNorm_call E0 r kNorm_con.pre kNorm_t = some kNorm_l:=by kernel_rfl
theorem kNorm_cok : kNorm_con.Ok Tryz.prog sy:=by
 intro r σ w us hsy hρ hpre hrel hins
 obtain ⟨u0,us,rfl,g0,hins⟩:=zn hins
 obtain ⟨u1,us,rfl,g1,hins⟩:=zn hins
 obtain ⟨n,k0,rfl,h0⟩:=yl g0
 obtain ⟨d,k1,rfl,h1⟩:=yl g1
 rw [hρ] at h0 h1
 refine y6 (E:=E0) yQ yC (sy:=sy) (fun F => K3_ok F hsy) (fun F => noH_ok) (kNorm_w r) hρ hpre hrel hins ?_ ?_
 ·simp only [kNorm_con,kNorm_t,gA,gB,zd,h0,h1,hsy,sym10,sym50,sym53,sym54,sym55,sym58,sym59,sym70,sym71,sym72]
 ·simp only [kNorm_l,gE,dZ,gB,zd,g3,h0,h1,hsy,sym10,sym50,sym53,sym54,sym55,sym58,sym59,sym70,sym71,sym72]
  clear hsy hρ hpre hrel hins g0 g1 h0 h1
  cases hb : numB n d with
  | false =>
    have hr : normR n d = (0,0,1):=by unfold normR; rw [hb]; rfl
    simp only [hr]
    simp only [numB,Bool.and_eq_false_iff,Bool.not_eq_false',beq_iff_eq] at hb
    (repeat' apply And.intro) <;> intros <;> first
      | trivial
      | (exfalso; simp_all; done)
      | (simp_all; done)
  | true =>
    have hb':=hb
    simp only [numB,zY,Bool.and_eq_true,Bool.not_eq_true',beq_eq_false_iff_ne,ne_eq,decide_eq_true_eq] at hb'
    obtain ⟨h0,⟨h1,h2⟩,h3,h4⟩:=hb'
    have wn : wideB n = true:=(wide_iff n).2 (by omega)
    have wd : wideB d = true:=(wide_iff d).2 (by omega)
    have i1 : zY n (-1000000000000000) 1000000000000000 = true:=by simp [zY,h1,h2]
    have i2 : zY d (-1000000000000000) 1000000000000000 = true:=by simp [zY,h3,h4]
    have e1:=wrap_neg wn
    have e2:=wrap_neg wd
    by_cases hd : d < 0
    ·have hc : canB (-n) (-d) = true:=(can_iff _ _).2 ⟨(wide_iff _).2 (by omega),(wide_iff _).2 (by omega),by omega⟩
     have hv:=valid_low (n:=-n) (d:=-d) (by omega)
     have hr : normR n d = lowR (-n) (-d):=by unfold normR; rw [if_pos hb,if_pos hd]
     unfold lowB at hv
     simp only [e1,e2,hr,lowR,lowB,i1,i2,hd,h0,hc]
     cases q1 : zY (lowD (-n) (-d)) 1 1000000 <;> cases q2 : zY (lowN (-n) (-d)) (-1000000000000) 1000000000000 <;> simp_all
    ·have hc : canB n d = true:=(can_iff _ _).2 ⟨wn,wd,by omega⟩
     have hv:=valid_low (n:=n) (d:=d) (by omega)
     have hr : normR n d = lowR n d:=by unfold normR; rw [if_pos hb,if_neg hd]
     unfold lowB at hv
     simp only [e1,e2,hr,lowR,lowB,i1,i2,hd,h0,hc]
     cases q1 : zY (lowD n d) 1 1000000 <;> cases q2 : zY (lowN n d) (-1000000000000) 1000000000000 <;> simp_all
noncomputable def K4 : Env→yj:=libs [cLib cwithin_con,cLib kNorm_con]
theorem K4_ok (F : List (X×Bool)) {r : Rho} (h : r.sym = sy) : zu (E0.with F r) (K4 (E0.with F r)):=libs_ok fun c hc => by
 simp only [List.mem_cons,List.not_mem_nil,or_false] at hc
 rcases hc with rfl | rfl
 ·exact ya (E:=E0) cwithin_cok F h
 ·exact ya (E:=E0) kNorm_cok F h
noncomputable def pPart_con : Con:={ f:=119,args:=[.agg [.int .i64 0,.int .i64 1]],N:=0,M:=0,pre:=[],out:=.sbool (.app 132 [.var 0,.var 1]),news:=[] }
noncomputable def pPart_call : Env→Za:=fun E => zS E (evH E (K4 E) ((fun _ => yX) E) 6)
noncomputable def pPart_t : GTree:=(.fork qEF17 (.fork qEF21 (.fork (.op2 .eq (.var 1) qEF6) (.leaf [[]]) (.leaf [[]])) (.leaf [[]])) (.leaf [[]]))
noncomputable def pPart_l : List (List (X×Bool)×Option zp):=[([(.op2 .eq (.var 1) qEF6,true),(qEF21,true),(qEF17,true)],some [(qEF16,.app 10 [.var 0,.num 0,.var 1])]),
 ([(.op2 .eq (.var 1) qEF6,false),(qEF21,true),(qEF17,true)],some [(qEF16,.boo false)]),
 ([(qEF21,false),(qEF17,true)],some [(qEF16,.boo false)]),
 ([(qEF17,false)],some [(qEF16,.boo false)])]
theorem pPart_w (r : Rho) : pPart_con.fn.ways pPart_call E0 r pPart_con.pre pPart_t = some pPart_l:=by kernel_rfl
theorem pPart_cok : pPart_con.Ok Tryz.prog sy:=by
 intro r σ w us hsy hρ hpre hrel hins
 obtain ⟨u0,us,rfl,g0,hins⟩:=zn hins
 obtain ⟨p,kp,rfl,hpp⟩:=fra_agg g0
 rw [hρ] at hpp
 have a0:=hpp.h0
 have a1:=hpp.h1
 simp only [Nat.zero_add,Nat.reduceAdd] at a0 a1
 refine y6 (E:=E0) yQ yC (sy:=sy) (fun F => K4_ok F hsy) (fun F => noH_ok) (pPart_w r) hρ hpre hrel hins ?_ ?_
 ·simp only [pPart_con,pPart_t,gA,gB,zd,a0,a1,hsy,sym10,sym70,sym71,sym72,sym132]
 ·simp only [pPart_l,gE,dZ,gB,zd,g3,a0,a1,hsy,sym10,sym70,sym71,sym72,sym132]
  clear hsy hρ hpre hrel hins g0 hpp a0 a1
  obtain ⟨a,b⟩:=p
  simp only [partB]
  generalize normR a b = q
  obtain ⟨x,y,z⟩:=q
  simp only [Prod.mk.injEq]
  (repeat' apply And.intro) <;> intros <;> first
    | trivial
    | (simp_all; done)
    | (symm; simp_all; done)
    | (simp_all; omega)
end Go.Proofs.YtfddkbbjnghefaaGreatDoor.Zs
