/-
  The law AwardValues: four forms, a list or nil each.
-/
import Derived.Test.YtckefonlahokkaaGreatDoorVaRefG
import Derived.Test.YtckefonlahokkaaGreatDoorVaConE
import Derived.Test.YtckefonlahokkaaGreatDoorVaRunZ
import Derived.KernelRfl
set_option linter.unusedSimpArgs false
set_option linter.unusedVariables false
namespace Go.Proofs.YtckefonlahokkaaGreatDoor.Zs
open Go
noncomputable def VLL : Env→CallE:=libs [cLib cCks_con,cLib cSoE_con,cLib cSoN_con,cLib cSoY_con,cLib cSdE_con,cLib cSdN_con,cLib cSdY_con,cLib rCks_con,cLib rSoE_con,cLib rSoN_con,cLib rSoY_con,cLib rSdE_con,cLib rSdN_con,cLib rSdY_con,cLib rSi_con,cLib cVaL_con,cLib rVaL_con,fun _ => aliveL]
theorem VLL_ok (F : List (X×Bool)) {r : Rho} (h : r.sym = sy) : CallsOk (E1.with F r) (VLL (E1.with F r)):=libs_ok fun c hc => by
 simp only [List.mem_cons,List.not_mem_nil,or_false] at hc
 rcases hc with rfl | rfl | rfl | rfl | rfl | rfl | rfl | rfl | rfl | rfl | rfl | rfl | rfl | rfl | rfl | rfl | rfl | rfl
 ·exact lib_ok (E:=E1) cCks_cok F h
 ·exact lib_ok (E:=E1) cSoE_cok F h
 ·exact lib_ok (E:=E1) cSoN_cok F h
 ·exact lib_ok (E:=E1) cSoY_cok F h
 ·exact lib_ok (E:=E1) cSdE_cok F h
 ·exact lib_ok (E:=E1) cSdN_cok F h
 ·exact lib_ok (E:=E1) cSdY_cok F h
 ·exact lib_ok (E:=E1) rCks_cok F h
 ·exact lib_ok (E:=E1) rSoE_cok F h
 ·exact lib_ok (E:=E1) rSoN_cok F h
 ·exact lib_ok (E:=E1) rSoY_cok F h
 ·exact lib_ok (E:=E1) rSdE_cok F h
 ·exact lib_ok (E:=E1) rSdN_cok F h
 ·exact lib_ok (E:=E1) rSdY_cok F h
 ·exact lib_ok (E:=E1) rSi_cok F h
 ·exact lib_ok (E:=E1) cVaL_cok F h
 ·exact lib_ok (E:=E1) rVaL_cok F h
 ·exact alive_ok F r
noncomputable def VLN : Env→CallE:=libs [cLib cCks_con,cLib cSoE_con,cLib cSoN_con,cLib cSoY_con,cLib cSdE_con,cLib cSdN_con,cLib cSdY_con,cLib rCks_con,cLib rSoE_con,cLib rSoN_con,cLib rSoY_con,cLib rSdE_con,cLib rSdN_con,cLib rSdY_con,cLib rSi_con,cLib cVaN_con,cLib rVaN_con,fun _ => aliveL]
theorem VLN_ok (F : List (X×Bool)) {r : Rho} (h : r.sym = sy) : CallsOk (E1.with F r) (VLN (E1.with F r)):=libs_ok fun c hc => by
 simp only [List.mem_cons,List.not_mem_nil,or_false] at hc
 rcases hc with rfl | rfl | rfl | rfl | rfl | rfl | rfl | rfl | rfl | rfl | rfl | rfl | rfl | rfl | rfl | rfl | rfl | rfl
 ·exact lib_ok (E:=E1) cCks_cok F h
 ·exact lib_ok (E:=E1) cSoE_cok F h
 ·exact lib_ok (E:=E1) cSoN_cok F h
 ·exact lib_ok (E:=E1) cSoY_cok F h
 ·exact lib_ok (E:=E1) cSdE_cok F h
 ·exact lib_ok (E:=E1) cSdN_cok F h
 ·exact lib_ok (E:=E1) cSdY_cok F h
 ·exact lib_ok (E:=E1) rCks_cok F h
 ·exact lib_ok (E:=E1) rSoE_cok F h
 ·exact lib_ok (E:=E1) rSoN_cok F h
 ·exact lib_ok (E:=E1) rSoY_cok F h
 ·exact lib_ok (E:=E1) rSdE_cok F h
 ·exact lib_ok (E:=E1) rSdN_cok F h
 ·exact lib_ok (E:=E1) rSdY_cok F h
 ·exact lib_ok (E:=E1) rSi_cok F h
 ·exact lib_ok (E:=E1) cVaN_cok F h
 ·exact lib_ok (E:=E1) rVaN_cok F h
 ·exact alive_ok F r
noncomputable def VNL : Env→CallE:=libs [cLib cVnL_con,cLib rVnL_con,fun _ => aliveL]
theorem VNL_ok (F : List (X×Bool)) {r : Rho} (h : r.sym = sy) : CallsOk (E1.with F r) (VNL (E1.with F r)):=libs_ok fun c hc => by
 simp only [List.mem_cons,List.not_mem_nil,or_false] at hc
 rcases hc with rfl | rfl | rfl
 ·exact lib_ok (E:=E1) cVnL_cok F h
 ·exact lib_ok (E:=E1) rVnL_cok F h
 ·exact alive_ok F r
noncomputable def VNN : Env→CallE:=libs [fun _ => aliveL]
theorem VNN_ok (F : List (X×Bool)) {r : Rho} (h : r.sym = sy) : CallsOk (E1.with F r) (VNN (E1.with F r)):=libs_ok fun c hc => by
 simp only [List.mem_cons,List.not_mem_nil,or_false] at hc
 subst hc; exact alive_ok F r
noncomputable def vaLL_fn : FnD:={ f:=3,args:=argsAV [salsArg 60 0,.one (.int .i64 3),whosArg 61 4,.one (.int .i64 7)],heap:=hRoot ++ argsBlk [salsArg 60 0,.one (.int .i64 3),whosArg 61 4,.one (.int .i64 7)],N:=100,M:=100,out:=.sbool (.boo true),news:=[] }
noncomputable def vaLL_call : Env→CallL:=fun E => acallAll E (evH E (VLL E) ((fun _ => noLoops) E) 9)
noncomputable def vaLL_pre : List (X×Bool):=[]
def qVL0 : X:=.app 171 [(.var 1),(.var 7)]
def qVL1 : X:=.op2 .eq (.app 174 [(.var 1),(.var 5),(.var 7)]) (.app 174 [(.var 1),(.var 5),(.var 7)])
def qVL2 : X:=.op2 .lt (.num 30) (.op1 .len (.var 1))
def qVL3 : X:=.op1 .len (.var 5)
def qVL4 : X:=.op2 .eq (.app 164 [(.var 1)]) (.num 0)
def qVL5 : X:=.op2 .lt (.num 2000) (.op1 .len (.app 113 [qVL0]))
def qVL6 : X:=.app 169 [(.var 1),(.var 3),(.var 7)]
def qVL7 : X:=.op2 .eq (.op1 .len qVL0) (.num 0)
def qVL8 : X:=.op2 .lt (.num 200) (.op1 .len (.var 1))
def qVL9 : X:=.app 190 [(.app 113 [qVL0]),(.app 113 [qVL0])]
def qVL10 : X:=.op2 .lt (.num 203) (.op1 .len (.var 1))
def qVL11 : X:=.op2 .eq (.app 173 [(.var 1),(.var 5),(.var 7)]) (.app 173 [(.var 1),(.var 5),(.var 7)])
def qVL12 : X:=.op2 .lt (.num 205) qVL3
def qVL13 : X:=.op2 .lt (.num 40) qVL3
def qVL14 : X:=.app 23 [(.var 1)]
def qVL15 : X:=.op2 .eq (.app 164 [(.var 1)]) (.app 164 [(.var 1)])
def qVL16 : X:=.op2 .lt (.num 200) qVL3
def qVL17 : X:=.ite qVL16 (.num 2) (.ite (.app 175 [(.var 5)]) (.num 6) (.ite (.op2 .lt (.num 0) qVL3) (.num 61) (.num 0)))
noncomputable def vaLL_t : GTree:=(.fork qVL2 (.fork qVL8 (.fork qVL10 (.leaf [[]]) (.fork qVL13 (.fork qVL16 (.fork qVL12 (.leaf [[]]) (.fork qVL14 (.fork qVL4 (.fork qVL6 (.fork qVL7 (.fork qVL1 (.leaf [[]]) .bad) (.fork qVL5 .bad (.fork qVL9 (.fork qVL1 (.leaf [[]]) .bad) .bad))) (.fork qVL7 (.fork qVL1 (.leaf [[]]) .bad) (.fork qVL5 .bad (.fork qVL9 (.fork qVL1 (.leaf [[]]) .bad) .bad)))) (.fork qVL15 (.fork qVL1 (.leaf [[]]) .bad) .bad)) .bad)) (.leaf [[]])) (.fork qVL12 (.leaf [[]]) (.fork qVL14 (.fork qVL4 (.fork qVL6 (.fork qVL7 (.fork qVL1 (.leaf [[]]) .bad) (.fork qVL5 .bad (.fork qVL9 (.fork qVL1 (.leaf [[]]) .bad) .bad))) (.fork qVL7 (.fork qVL1 (.leaf [[]]) .bad) (.fork qVL5 .bad (.fork qVL9 (.fork qVL1 (.leaf [[]]) .bad) .bad)))) (.fork qVL15 (.fork qVL1 (.leaf [[]]) .bad) .bad)) .bad)))) (.leaf [[]])) (.fork qVL13 (.fork qVL16 (.fork qVL12 (.leaf [[]]) (.fork qVL14 (.fork qVL4 (.fork qVL6 (.fork qVL7 (.fork qVL1 (.leaf [[]]) .bad) (.fork qVL5 .bad (.fork qVL9 (.fork qVL1 (.leaf [[]]) .bad) .bad))) (.fork qVL7 (.fork qVL1 (.leaf [[]]) .bad) (.fork qVL5 .bad (.fork qVL9 (.fork qVL1 (.leaf [[]]) .bad) .bad)))) (.fork qVL15 (.fork qVL1 (.leaf [[]]) .bad) .bad)) .bad)) (.leaf [[]])) (.fork qVL12 (.leaf [[]]) (.fork qVL14 (.fork qVL4 (.fork qVL6 (.fork qVL7 (.fork qVL1 (.leaf [[]]) .bad) (.fork qVL5 .bad (.fork qVL9 (.fork qVL1 (.leaf [[]]) .bad) .bad))) (.fork qVL7 (.fork qVL1 (.leaf [[]]) .bad) (.fork qVL5 .bad (.fork qVL9 (.fork qVL1 (.leaf [[]]) .bad) .bad)))) (.fork qVL15 (.fork qVL1 (.leaf [[]]) .bad) .bad)) .bad))))
noncomputable def vaLL_l : List (List (X×Bool)×Option Pairs):=[([(qVL10,true),(qVL8,true),(qVL2,true)],some []),
 ([(qVL12,true),(qVL16,true),(qVL13,true),(qVL10,false),(qVL8,true),(qVL2,true)],some []),
 ([(qVL1,true),(qVL7,true),(qVL6,true),(qVL4,true),(qVL14,true),(qVL12,false),(qVL16,true),(qVL13,true),(qVL10,false),(qVL8,true),(qVL2,true)],some [(.boo true,qVL11)]),
 ([(qVL1,false),(qVL7,true),(qVL6,true),(qVL4,true),(qVL14,true),(qVL12,false),(qVL16,true),(qVL13,true),(qVL10,false),(qVL8,true),(qVL2,true)],none),
 ([(qVL5,true),(qVL7,false),(qVL6,true),(qVL4,true),(qVL14,true),(qVL12,false),(qVL16,true),(qVL13,true),(qVL10,false),(qVL8,true),(qVL2,true)],none),
 ([(qVL1,true),(qVL9,true),(qVL5,false),(qVL7,false),(qVL6,true),(qVL4,true),(qVL14,true),(qVL12,false),(qVL16,true),(qVL13,true),(qVL10,false),(qVL8,true),(qVL2,true)],some [(.boo true,qVL11)]),
 ([(qVL1,false),(qVL9,true),(qVL5,false),(qVL7,false),(qVL6,true),(qVL4,true),(qVL14,true),(qVL12,false),(qVL16,true),(qVL13,true),(qVL10,false),(qVL8,true),(qVL2,true)],none),
 ([(qVL9,false),(qVL5,false),(qVL7,false),(qVL6,true),(qVL4,true),(qVL14,true),(qVL12,false),(qVL16,true),(qVL13,true),(qVL10,false),(qVL8,true),(qVL2,true)],none),
 ([(qVL1,true),(qVL7,true),(qVL6,false),(qVL4,true),(qVL14,true),(qVL12,false),(qVL16,true),(qVL13,true),(qVL10,false),(qVL8,true),(qVL2,true)],some [(.boo true,qVL11)]),
 ([(qVL1,false),(qVL7,true),(qVL6,false),(qVL4,true),(qVL14,true),(qVL12,false),(qVL16,true),(qVL13,true),(qVL10,false),(qVL8,true),(qVL2,true)],none),
 ([(qVL5,true),(qVL7,false),(qVL6,false),(qVL4,true),(qVL14,true),(qVL12,false),(qVL16,true),(qVL13,true),(qVL10,false),(qVL8,true),(qVL2,true)],none),
 ([(qVL1,true),(qVL9,true),(qVL5,false),(qVL7,false),(qVL6,false),(qVL4,true),(qVL14,true),(qVL12,false),(qVL16,true),(qVL13,true),(qVL10,false),(qVL8,true),(qVL2,true)],some [(.boo true,qVL11)]),
 ([(qVL1,false),(qVL9,true),(qVL5,false),(qVL7,false),(qVL6,false),(qVL4,true),(qVL14,true),(qVL12,false),(qVL16,true),(qVL13,true),(qVL10,false),(qVL8,true),(qVL2,true)],none),
 ([(qVL9,false),(qVL5,false),(qVL7,false),(qVL6,false),(qVL4,true),(qVL14,true),(qVL12,false),(qVL16,true),(qVL13,true),(qVL10,false),(qVL8,true),(qVL2,true)],none),
 ([(qVL1,true),(qVL15,true),(qVL4,false),(qVL14,true),(qVL12,false),(qVL16,true),(qVL13,true),(qVL10,false),(qVL8,true),(qVL2,true)],some [(.boo true,qVL11)]),
 ([(qVL1,false),(qVL15,true),(qVL4,false),(qVL14,true),(qVL12,false),(qVL16,true),(qVL13,true),(qVL10,false),(qVL8,true),(qVL2,true)],none),
 ([(qVL15,false),(qVL4,false),(qVL14,true),(qVL12,false),(qVL16,true),(qVL13,true),(qVL10,false),(qVL8,true),(qVL2,true)],none),
 ([(qVL14,false),(qVL12,false),(qVL16,true),(qVL13,true),(qVL10,false),(qVL8,true),(qVL2,true)],none),
 ([(qVL16,false),(qVL13,true),(qVL10,false),(qVL8,true),(qVL2,true)],some []),
 ([(qVL12,true),(qVL13,false),(qVL10,false),(qVL8,true),(qVL2,true)],some []),
 ([(qVL1,true),(qVL7,true),(qVL6,true),(qVL4,true),(qVL14,true),(qVL12,false),(qVL13,false),(qVL10,false),(qVL8,true),(qVL2,true)],some [(.boo true,qVL11)]),
 ([(qVL1,false),(qVL7,true),(qVL6,true),(qVL4,true),(qVL14,true),(qVL12,false),(qVL13,false),(qVL10,false),(qVL8,true),(qVL2,true)],none),
 ([(qVL5,true),(qVL7,false),(qVL6,true),(qVL4,true),(qVL14,true),(qVL12,false),(qVL13,false),(qVL10,false),(qVL8,true),(qVL2,true)],none),
 ([(qVL1,true),(qVL9,true),(qVL5,false),(qVL7,false),(qVL6,true),(qVL4,true),(qVL14,true),(qVL12,false),(qVL13,false),(qVL10,false),(qVL8,true),(qVL2,true)],some [(.boo true,qVL11)]),
 ([(qVL1,false),(qVL9,true),(qVL5,false),(qVL7,false),(qVL6,true),(qVL4,true),(qVL14,true),(qVL12,false),(qVL13,false),(qVL10,false),(qVL8,true),(qVL2,true)],none),
 ([(qVL9,false),(qVL5,false),(qVL7,false),(qVL6,true),(qVL4,true),(qVL14,true),(qVL12,false),(qVL13,false),(qVL10,false),(qVL8,true),(qVL2,true)],none),
 ([(qVL1,true),(qVL7,true),(qVL6,false),(qVL4,true),(qVL14,true),(qVL12,false),(qVL13,false),(qVL10,false),(qVL8,true),(qVL2,true)],some [(.boo true,qVL11)]),
 ([(qVL1,false),(qVL7,true),(qVL6,false),(qVL4,true),(qVL14,true),(qVL12,false),(qVL13,false),(qVL10,false),(qVL8,true),(qVL2,true)],none),
 ([(qVL5,true),(qVL7,false),(qVL6,false),(qVL4,true),(qVL14,true),(qVL12,false),(qVL13,false),(qVL10,false),(qVL8,true),(qVL2,true)],none),
 ([(qVL1,true),(qVL9,true),(qVL5,false),(qVL7,false),(qVL6,false),(qVL4,true),(qVL14,true),(qVL12,false),(qVL13,false),(qVL10,false),(qVL8,true),(qVL2,true)],some [(.boo true,qVL11)]),
 ([(qVL1,false),(qVL9,true),(qVL5,false),(qVL7,false),(qVL6,false),(qVL4,true),(qVL14,true),(qVL12,false),(qVL13,false),(qVL10,false),(qVL8,true),(qVL2,true)],none),
 ([(qVL9,false),(qVL5,false),(qVL7,false),(qVL6,false),(qVL4,true),(qVL14,true),(qVL12,false),(qVL13,false),(qVL10,false),(qVL8,true),(qVL2,true)],none),
 ([(qVL1,true),(qVL15,true),(qVL4,false),(qVL14,true),(qVL12,false),(qVL13,false),(qVL10,false),(qVL8,true),(qVL2,true)],some [(.boo true,qVL11)]),
 ([(qVL1,false),(qVL15,true),(qVL4,false),(qVL14,true),(qVL12,false),(qVL13,false),(qVL10,false),(qVL8,true),(qVL2,true)],none),
 ([(qVL15,false),(qVL4,false),(qVL14,true),(qVL12,false),(qVL13,false),(qVL10,false),(qVL8,true),(qVL2,true)],none),
 ([(qVL14,false),(qVL12,false),(qVL13,false),(qVL10,false),(qVL8,true),(qVL2,true)],none),
 ([(qVL8,false),(qVL2,true)],some []),
 ([(qVL12,true),(qVL16,true),(qVL13,true),(qVL2,false)],some []),
 ([(qVL1,true),(qVL7,true),(qVL6,true),(qVL4,true),(qVL14,true),(qVL12,false),(qVL16,true),(qVL13,true),(qVL2,false)],some [(.boo true,qVL11)]),
 ([(qVL1,false),(qVL7,true),(qVL6,true),(qVL4,true),(qVL14,true),(qVL12,false),(qVL16,true),(qVL13,true),(qVL2,false)],none),
 ([(qVL5,true),(qVL7,false),(qVL6,true),(qVL4,true),(qVL14,true),(qVL12,false),(qVL16,true),(qVL13,true),(qVL2,false)],none),
 ([(qVL1,true),(qVL9,true),(qVL5,false),(qVL7,false),(qVL6,true),(qVL4,true),(qVL14,true),(qVL12,false),(qVL16,true),(qVL13,true),(qVL2,false)],some [(.boo true,qVL11)]),
 ([(qVL1,false),(qVL9,true),(qVL5,false),(qVL7,false),(qVL6,true),(qVL4,true),(qVL14,true),(qVL12,false),(qVL16,true),(qVL13,true),(qVL2,false)],none),
 ([(qVL9,false),(qVL5,false),(qVL7,false),(qVL6,true),(qVL4,true),(qVL14,true),(qVL12,false),(qVL16,true),(qVL13,true),(qVL2,false)],none),
 ([(qVL1,true),(qVL7,true),(qVL6,false),(qVL4,true),(qVL14,true),(qVL12,false),(qVL16,true),(qVL13,true),(qVL2,false)],some [(.boo true,qVL11)]),
 ([(qVL1,false),(qVL7,true),(qVL6,false),(qVL4,true),(qVL14,true),(qVL12,false),(qVL16,true),(qVL13,true),(qVL2,false)],none),
 ([(qVL5,true),(qVL7,false),(qVL6,false),(qVL4,true),(qVL14,true),(qVL12,false),(qVL16,true),(qVL13,true),(qVL2,false)],none),
 ([(qVL1,true),(qVL9,true),(qVL5,false),(qVL7,false),(qVL6,false),(qVL4,true),(qVL14,true),(qVL12,false),(qVL16,true),(qVL13,true),(qVL2,false)],some [(.boo true,qVL11)]),
 ([(qVL1,false),(qVL9,true),(qVL5,false),(qVL7,false),(qVL6,false),(qVL4,true),(qVL14,true),(qVL12,false),(qVL16,true),(qVL13,true),(qVL2,false)],none),
 ([(qVL9,false),(qVL5,false),(qVL7,false),(qVL6,false),(qVL4,true),(qVL14,true),(qVL12,false),(qVL16,true),(qVL13,true),(qVL2,false)],none),
 ([(qVL1,true),(qVL15,true),(qVL4,false),(qVL14,true),(qVL12,false),(qVL16,true),(qVL13,true),(qVL2,false)],some [(.boo true,qVL11)]),
 ([(qVL1,false),(qVL15,true),(qVL4,false),(qVL14,true),(qVL12,false),(qVL16,true),(qVL13,true),(qVL2,false)],none),
 ([(qVL15,false),(qVL4,false),(qVL14,true),(qVL12,false),(qVL16,true),(qVL13,true),(qVL2,false)],none),
 ([(qVL14,false),(qVL12,false),(qVL16,true),(qVL13,true),(qVL2,false)],none),
 ([(qVL16,false),(qVL13,true),(qVL2,false)],some []),
 ([(qVL12,true),(qVL13,false),(qVL2,false)],some []),
 ([(qVL1,true),(qVL7,true),(qVL6,true),(qVL4,true),(qVL14,true),(qVL12,false),(qVL13,false),(qVL2,false)],some [(.boo true,qVL11)]),
 ([(qVL1,false),(qVL7,true),(qVL6,true),(qVL4,true),(qVL14,true),(qVL12,false),(qVL13,false),(qVL2,false)],none),
 ([(qVL5,true),(qVL7,false),(qVL6,true),(qVL4,true),(qVL14,true),(qVL12,false),(qVL13,false),(qVL2,false)],none),
 ([(qVL1,true),(qVL9,true),(qVL5,false),(qVL7,false),(qVL6,true),(qVL4,true),(qVL14,true),(qVL12,false),(qVL13,false),(qVL2,false)],some [(.boo true,qVL11)]),
 ([(qVL1,false),(qVL9,true),(qVL5,false),(qVL7,false),(qVL6,true),(qVL4,true),(qVL14,true),(qVL12,false),(qVL13,false),(qVL2,false)],none),
 ([(qVL9,false),(qVL5,false),(qVL7,false),(qVL6,true),(qVL4,true),(qVL14,true),(qVL12,false),(qVL13,false),(qVL2,false)],none),
 ([(qVL1,true),(qVL7,true),(qVL6,false),(qVL4,true),(qVL14,true),(qVL12,false),(qVL13,false),(qVL2,false)],some [(.boo true,qVL11)]),
 ([(qVL1,false),(qVL7,true),(qVL6,false),(qVL4,true),(qVL14,true),(qVL12,false),(qVL13,false),(qVL2,false)],none),
 ([(qVL5,true),(qVL7,false),(qVL6,false),(qVL4,true),(qVL14,true),(qVL12,false),(qVL13,false),(qVL2,false)],none),
 ([(qVL1,true),(qVL9,true),(qVL5,false),(qVL7,false),(qVL6,false),(qVL4,true),(qVL14,true),(qVL12,false),(qVL13,false),(qVL2,false)],some [(.boo true,qVL11)]),
 ([(qVL1,false),(qVL9,true),(qVL5,false),(qVL7,false),(qVL6,false),(qVL4,true),(qVL14,true),(qVL12,false),(qVL13,false),(qVL2,false)],none),
 ([(qVL9,false),(qVL5,false),(qVL7,false),(qVL6,false),(qVL4,true),(qVL14,true),(qVL12,false),(qVL13,false),(qVL2,false)],none),
 ([(qVL1,true),(qVL15,true),(qVL4,false),(qVL14,true),(qVL12,false),(qVL13,false),(qVL2,false)],some [(.boo true,qVL11)]),
 ([(qVL1,false),(qVL15,true),(qVL4,false),(qVL14,true),(qVL12,false),(qVL13,false),(qVL2,false)],none),
 ([(qVL15,false),(qVL4,false),(qVL14,true),(qVL12,false),(qVL13,false),(qVL2,false)],none),
 ([(qVL14,false),(qVL12,false),(qVL13,false),(qVL2,false)],none)]
theorem vaLL_w (r : Rho) : vaLL_fn.ways vaLL_call E1 r vaLL_pre vaLL_t = some vaLL_l:=by kernel_rfl
theorem d_eq_sameV (k : IntKind) (n : Int) : den2 .eq (.int k n) (.int k n) = some (.bool true):=by simp [den2]
theorem vaLL_60 : (buildH vaLL_fn.heap).get 60 = some (.rows 9 salSch (.var 0) (.var 1) false 27):=by kernel_rfl
theorem vaLL_61 : (buildH vaLL_fn.heap).get 61 = some (.rows 1 whoSch (.var 4) (.var 5) false 3):=by kernel_rfl
theorem vaLL_out (σ : Sig) : vaLL_fn.out.inst σ = some (.bool true):=rfl
set_option maxRecDepth 100000 in
set_option maxHeartbeats 16000000 in
theorem vaLL_true {r : Rho} {σ : Sig} {w : World} {us : List Value} (hsy : r.sym = sy) (hρ : σ.rho = r) (hA : ∀ g id,E1.glob g = some id→∃ κ,σ id = some (g,κ)) (hrel : (memOf vaLL_fn.heap 100).rel Tryz.prog σ w (fun b => w.heap.size≤b)) (hins : Ins σ vaLL_fn.args us) :
  Calls Tryz.prog 3 us.toArray w fun e w' => e = .returned (.bool true)∧Kept (fun b => w.heap.size≤b) w w':=by
 obtain ⟨u0,us,rfl,g0,hi⟩:=ins_cons hins
 obtain ⟨u1,us,rfl,g1,hi1⟩:=ins_cons hi
 obtain ⟨u2,us,rfl,g2,hi2⟩:=ins_cons hi1
 obtain ⟨u3,us,rfl,g3,hi3⟩:=ins_cons hi2
 obtain ⟨p,k3,e3,h3⟩:=one_int g1
 obtain ⟨K,k7,e7,h7⟩:=one_int g3
 obtain ⟨l,h1⟩:=sals_at hrel (i:=60) vaLL_60
 obtain ⟨m,h5⟩:=whos_at hrel (i:=61) vaLL_61
 rw [hρ] at h1 h5 h3 h7
 have h1 : r.val 1 = some (salsR l):=h1
 have h5 : r.val 5 = some (whosR m):=h5
 have a2 : (l.length : Int)≤1003→shortB l = true:=fun h => len_short (by omega)
 have n0:=sorted_len (cntW l K)
 have n1:=cntW_len l K
 have c0 : saleCell l p K 0 = some (.int .i64 ((saleAt l p K).getD ⟨0,0,0,0,0,0,0,0,0⟩).id):=rfl
 have c1 : saleCell l p K 1 = some (.int .i64 ((saleAt l p K).getD ⟨0,0,0,0,0,0,0,0,0⟩).known):=rfl
 have c2 : saleCell l p K 2 = some (.int .i64 ((saleAt l p K).getD ⟨0,0,0,0,0,0,0,0,0⟩).hour):=rfl
 have c3 : saleCell l p K 3 = some (.int .i64 ((saleAt l p K).getD ⟨0,0,0,0,0,0,0,0,0⟩).parcel):=rfl
 have c4 : saleCell l p K 4 = some (.int .i64 ((saleAt l p K).getD ⟨0,0,0,0,0,0,0,0,0⟩).price):=rfl
 have c5 : saleCell l p K 5 = some (.int .i64 ((saleAt l p K).getD ⟨0,0,0,0,0,0,0,0,0⟩).carter):=rfl
 have c6 : saleCell l p K 6 = some (.int .i64 ((saleAt l p K).getD ⟨0,0,0,0,0,0,0,0,0⟩).keeper):=rfl
 have c7 : saleCell l p K 7 = some (.int .i64 ((saleAt l p K).getD ⟨0,0,0,0,0,0,0,0,0⟩).since):=rfl
 have c8 : saleCell l p K 8 = some (.int .i64 ((saleAt l p K).getD ⟨0,0,0,0,0,0,0,0,0⟩).of_):=rfl
 refine law_of (E:=E1) (D:=vaLL_fn) E1_ok (fun F => VLL_ok F hsy) (fun F => noH_ok) (vaLL_w r) hρ hA trivial hrel hins ?_ ?_ vaLL_out
 ·simp only [vaLL_pre,vaLL_t,qVL17,qVL16,qVL15,qVL14,qVL13,qVL12,qVL11,qVL10,qVL9,qVL8,qVL7,qVL6,qVL5,qVL4,qVL3,qVL2,qVL1,qVL0,AsksL,GTree.asks,FTree.asks,FactsIn,List.append_nil,List.nil_append,List.cons_append,Option.some.injEq,exists_eq',implies_true,and_self,X.bool,X.den,denL,dX,denSub,d_iteV,asB,dY,sals_len,sals_cell,sals_lsub,hds_len,hds_cell,hds_lsub,hds_snocN,hds_snoc0N,heads_len,whos_len,whos_cell,whos_lsub,d_eq_sameV,h1,h5,h3,h7,hsy,sym23,sym164,sym165,sym169,sym170,sym171,sym113W,sym173,sym174,sym175,sym190D,c0,c1,c2,c3,c4,c5,c6,c7,c8]
  try simp
 ·simp only [vaLL_l,qVL17,qVL16,qVL15,qVL14,qVL13,qVL12,qVL11,qVL10,qVL9,qVL8,qVL7,qVL6,qVL5,qVL4,qVL3,qVL2,qVL1,qVL0,EndsOk,WaysOk,forall_cons,forall_nil,TgtOk,gpair,FactsIn,hold_cons,hold_nil,Option.some.injEq,dZ,X.bool,X.den,denL,dX,denSub,d_iteV,asB,dY,beq_iff_eq,beq_eq_false_iff_ne,ne_eq,sals_len,sals_cell,sals_lsub,hds_len,hds_cell,hds_lsub,hds_snocN,hds_snoc0N,heads_len,whos_len,whos_cell,whos_lsub,beq_iff_eq,beq_eq_false_iff_ne,ne_eq,d_eq_sameV,h1,h5,h3,h7,hsy,sym23,sym164,sym165,sym169,sym170,sym171,sym113W,sym173,sym174,sym175,sym190D,c0,c1,c2,c3,c4,c5,c6,c7,c8]
  clear hρ hrel hi hi1 hi2 hi3 hins g0 g1 g2 g3 h1 h5 h3 h7 hsy hA
  (repeat' apply And.intro) <;> intros <;> first
    | (exact True.intro)
    | rfl
    | contradiction
    | (exfalso; omega)
    | (exfalso; have q:=a2 (by omega); simp_all; done)
    | (simp_all; done)
    | (exfalso; simp_all; done)
    | (exfalso; simp_all; omega)
noncomputable def vaLN_fn : FnD:={ f:=3,args:=argsAV [salsArg 60 0,.one (.int .i64 3),.nils,.one (.int .i64 7)],heap:=hRoot ++ argsBlk [salsArg 60 0,.one (.int .i64 3),.nils,.one (.int .i64 7)],N:=100,M:=100,out:=.sbool (.boo true),news:=[] }
noncomputable def vaLN_call : Env→CallL:=fun E => acallAll E (evH E (VLN E) ((fun _ => noLoops) E) 9)
noncomputable def vaLN_pre : List (X×Bool):=[]
noncomputable def vaLN_t : GTree:=(.fork qVL2 (.fork qVL8 (.fork qVL10 (.leaf [[]]) (.fork qVL14 (.fork qVL4 (.fork qVL6 (.fork qVL7 (.leaf [[]]) (.fork qVL5 .bad (.fork qVL9 (.leaf [[]]) .bad))) (.fork qVL7 (.leaf [[]]) (.fork qVL5 .bad (.fork qVL9 (.leaf [[]]) .bad)))) (.fork qVL15 (.leaf [[]]) .bad)) .bad)) (.leaf [[]])) (.fork qVL14 (.fork qVL4 (.fork qVL6 (.fork qVL7 (.leaf [[]]) (.fork qVL5 .bad (.fork qVL9 (.leaf [[]]) .bad))) (.fork qVL7 (.leaf [[]]) (.fork qVL5 .bad (.fork qVL9 (.leaf [[]]) .bad)))) (.fork qVL15 (.leaf [[]]) .bad)) .bad))
noncomputable def vaLN_l : List (List (X×Bool)×Option Pairs):=[([(qVL10,true),(qVL8,true),(qVL2,true)],some []),
 ([(qVL7,true),(qVL6,true),(qVL4,true),(qVL14,true),(qVL10,false),(qVL8,true),(qVL2,true)],some []),
 ([(qVL5,true),(qVL7,false),(qVL6,true),(qVL4,true),(qVL14,true),(qVL10,false),(qVL8,true),(qVL2,true)],none),
 ([(qVL9,true),(qVL5,false),(qVL7,false),(qVL6,true),(qVL4,true),(qVL14,true),(qVL10,false),(qVL8,true),(qVL2,true)],some []),
 ([(qVL9,false),(qVL5,false),(qVL7,false),(qVL6,true),(qVL4,true),(qVL14,true),(qVL10,false),(qVL8,true),(qVL2,true)],none),
 ([(qVL7,true),(qVL6,false),(qVL4,true),(qVL14,true),(qVL10,false),(qVL8,true),(qVL2,true)],some []),
 ([(qVL5,true),(qVL7,false),(qVL6,false),(qVL4,true),(qVL14,true),(qVL10,false),(qVL8,true),(qVL2,true)],none),
 ([(qVL9,true),(qVL5,false),(qVL7,false),(qVL6,false),(qVL4,true),(qVL14,true),(qVL10,false),(qVL8,true),(qVL2,true)],some []),
 ([(qVL9,false),(qVL5,false),(qVL7,false),(qVL6,false),(qVL4,true),(qVL14,true),(qVL10,false),(qVL8,true),(qVL2,true)],none),
 ([(qVL15,true),(qVL4,false),(qVL14,true),(qVL10,false),(qVL8,true),(qVL2,true)],some []),
 ([(qVL15,false),(qVL4,false),(qVL14,true),(qVL10,false),(qVL8,true),(qVL2,true)],none),
 ([(qVL14,false),(qVL10,false),(qVL8,true),(qVL2,true)],none),
 ([(qVL8,false),(qVL2,true)],some []),
 ([(qVL7,true),(qVL6,true),(qVL4,true),(qVL14,true),(qVL2,false)],some []),
 ([(qVL5,true),(qVL7,false),(qVL6,true),(qVL4,true),(qVL14,true),(qVL2,false)],none),
 ([(qVL9,true),(qVL5,false),(qVL7,false),(qVL6,true),(qVL4,true),(qVL14,true),(qVL2,false)],some []),
 ([(qVL9,false),(qVL5,false),(qVL7,false),(qVL6,true),(qVL4,true),(qVL14,true),(qVL2,false)],none),
 ([(qVL7,true),(qVL6,false),(qVL4,true),(qVL14,true),(qVL2,false)],some []),
 ([(qVL5,true),(qVL7,false),(qVL6,false),(qVL4,true),(qVL14,true),(qVL2,false)],none),
 ([(qVL9,true),(qVL5,false),(qVL7,false),(qVL6,false),(qVL4,true),(qVL14,true),(qVL2,false)],some []),
 ([(qVL9,false),(qVL5,false),(qVL7,false),(qVL6,false),(qVL4,true),(qVL14,true),(qVL2,false)],none),
 ([(qVL15,true),(qVL4,false),(qVL14,true),(qVL2,false)],some []),
 ([(qVL15,false),(qVL4,false),(qVL14,true),(qVL2,false)],none),
 ([(qVL14,false),(qVL2,false)],none)]
theorem vaLN_w (r : Rho) : vaLN_fn.ways vaLN_call E1 r vaLN_pre vaLN_t = some vaLN_l:=by kernel_rfl
theorem vaLN_60 : (buildH vaLN_fn.heap).get 60 = some (.rows 9 salSch (.var 0) (.var 1) false 27):=by kernel_rfl
theorem vaLN_out (σ : Sig) : vaLN_fn.out.inst σ = some (.bool true):=rfl
set_option maxRecDepth 100000 in
set_option maxHeartbeats 16000000 in
theorem vaLN_true {r : Rho} {σ : Sig} {w : World} {us : List Value} (hsy : r.sym = sy) (hρ : σ.rho = r) (hA : ∀ g id,E1.glob g = some id→∃ κ,σ id = some (g,κ)) (hrel : (memOf vaLN_fn.heap 100).rel Tryz.prog σ w (fun b => w.heap.size≤b)) (hins : Ins σ vaLN_fn.args us) :
  Calls Tryz.prog 3 us.toArray w fun e w' => e = .returned (.bool true)∧Kept (fun b => w.heap.size≤b) w w':=by
 obtain ⟨u0,us,rfl,g0,hi⟩:=ins_cons hins
 obtain ⟨u1,us,rfl,g1,hi1⟩:=ins_cons hi
 obtain ⟨u2,us,rfl,g2,hi2⟩:=ins_cons hi1
 obtain ⟨u3,us,rfl,g3,hi3⟩:=ins_cons hi2
 obtain ⟨p,k3,e3,h3⟩:=one_int g1
 obtain ⟨K,k7,e7,h7⟩:=one_int g3
 obtain ⟨l,h1⟩:=sals_at hrel (i:=60) vaLN_60
 rw [hρ] at h1 h3 h7
 have h1 : r.val 1 = some (salsR l):=h1
 have a2 : (l.length : Int)≤1003→shortB l = true:=fun h => len_short (by omega)
 have n0:=sorted_len (cntW l K)
 have n1:=cntW_len l K
 have c0 : saleCell l p K 0 = some (.int .i64 ((saleAt l p K).getD ⟨0,0,0,0,0,0,0,0,0⟩).id):=rfl
 have c1 : saleCell l p K 1 = some (.int .i64 ((saleAt l p K).getD ⟨0,0,0,0,0,0,0,0,0⟩).known):=rfl
 have c2 : saleCell l p K 2 = some (.int .i64 ((saleAt l p K).getD ⟨0,0,0,0,0,0,0,0,0⟩).hour):=rfl
 have c3 : saleCell l p K 3 = some (.int .i64 ((saleAt l p K).getD ⟨0,0,0,0,0,0,0,0,0⟩).parcel):=rfl
 have c4 : saleCell l p K 4 = some (.int .i64 ((saleAt l p K).getD ⟨0,0,0,0,0,0,0,0,0⟩).price):=rfl
 have c5 : saleCell l p K 5 = some (.int .i64 ((saleAt l p K).getD ⟨0,0,0,0,0,0,0,0,0⟩).carter):=rfl
 have c6 : saleCell l p K 6 = some (.int .i64 ((saleAt l p K).getD ⟨0,0,0,0,0,0,0,0,0⟩).keeper):=rfl
 have c7 : saleCell l p K 7 = some (.int .i64 ((saleAt l p K).getD ⟨0,0,0,0,0,0,0,0,0⟩).since):=rfl
 have c8 : saleCell l p K 8 = some (.int .i64 ((saleAt l p K).getD ⟨0,0,0,0,0,0,0,0,0⟩).of_):=rfl
 refine law_of (E:=E1) (D:=vaLN_fn) E1_ok (fun F => VLN_ok F hsy) (fun F => noH_ok) (vaLN_w r) hρ hA trivial hrel hins ?_ ?_ vaLN_out
 ·simp only [vaLN_pre,vaLN_t,qVL17,qVL16,qVL15,qVL14,qVL13,qVL12,qVL11,qVL10,qVL9,qVL8,qVL7,qVL6,qVL5,qVL4,qVL3,qVL2,qVL1,qVL0,AsksL,GTree.asks,FTree.asks,FactsIn,List.append_nil,List.nil_append,List.cons_append,Option.some.injEq,exists_eq',implies_true,and_self,X.bool,X.den,denL,dX,denSub,d_iteV,asB,dY,sals_len,sals_cell,sals_lsub,hds_len,hds_cell,hds_lsub,hds_snocN,hds_snoc0N,heads_len,whos_len,whos_cell,whos_lsub,d_eq_sameV,h1,h3,h7,hsy,sym23,sym164,sym165,sym169,sym170,sym171,sym113W,sym173,sym174,sym175,sym190D,c0,c1,c2,c3,c4,c5,c6,c7,c8]
  try simp
 ·simp only [vaLN_l,qVL17,qVL16,qVL15,qVL14,qVL13,qVL12,qVL11,qVL10,qVL9,qVL8,qVL7,qVL6,qVL5,qVL4,qVL3,qVL2,qVL1,qVL0,EndsOk,WaysOk,forall_cons,forall_nil,TgtOk,gpair,FactsIn,hold_cons,hold_nil,Option.some.injEq,dZ,X.bool,X.den,denL,dX,denSub,d_iteV,asB,dY,beq_iff_eq,beq_eq_false_iff_ne,ne_eq,sals_len,sals_cell,sals_lsub,hds_len,hds_cell,hds_lsub,hds_snocN,hds_snoc0N,heads_len,whos_len,whos_cell,whos_lsub,beq_iff_eq,beq_eq_false_iff_ne,ne_eq,d_eq_sameV,h1,h3,h7,hsy,sym23,sym164,sym165,sym169,sym170,sym171,sym113W,sym173,sym174,sym175,sym190D,c0,c1,c2,c3,c4,c5,c6,c7,c8]
  clear hρ hrel hi hi1 hi2 hi3 hins g0 g1 g2 g3 h1 h3 h7 hsy hA
  (repeat' apply And.intro) <;> intros <;> first
    | (exact True.intro)
    | rfl
    | contradiction
    | (exfalso; omega)
    | (exfalso; have q:=a2 (by omega); simp_all; done)
    | (simp_all; done)
    | (exfalso; simp_all; done)
    | (exfalso; simp_all; omega)
noncomputable def vaNL_fn : FnD:={ f:=3,args:=argsAV [.nils,.one (.int .i64 3),whosArg 61 4,.one (.int .i64 7)],heap:=hRoot ++ argsBlk [.nils,.one (.int .i64 3),whosArg 61 4,.one (.int .i64 7)],N:=100,M:=100,out:=.sbool (.boo true),news:=[] }
noncomputable def vaNL_call : Env→CallL:=fun E => acallAll E (evH E (VNL E) ((fun _ => noLoops) E) 14)
noncomputable def vaNL_pre : List (X×Bool):=[]
noncomputable def vaNL_t : GTree:=(.fork qVL13 (.fork qVL16 (.fork qVL12 (.leaf [[]]) (.leaf [[]])) (.leaf [[]])) (.fork qVL12 (.leaf [[]]) (.leaf [[]])))
noncomputable def vaNL_l : List (List (X×Bool)×Option Pairs):=[([(qVL12,true),(qVL16,true),(qVL13,true)],some []),
 ([(qVL12,false),(qVL16,true),(qVL13,true)],some [(.boo true,.op2 .eq qVL17 qVL17)]),
 ([(qVL16,false),(qVL13,true)],some []),
 ([(qVL12,true),(qVL13,false)],some []),
 ([(qVL12,false),(qVL13,false)],some [(.boo true,.op2 .eq qVL17 qVL17)])]
theorem vaNL_w (r : Rho) : vaNL_fn.ways vaNL_call E1 r vaNL_pre vaNL_t = some vaNL_l:=by kernel_rfl
theorem vaNL_61 : (buildH vaNL_fn.heap).get 61 = some (.rows 1 whoSch (.var 4) (.var 5) false 3):=by kernel_rfl
theorem vaNL_out (σ : Sig) : vaNL_fn.out.inst σ = some (.bool true):=rfl
set_option maxRecDepth 100000 in
set_option maxHeartbeats 16000000 in
theorem vaNL_true {r : Rho} {σ : Sig} {w : World} {us : List Value} (hsy : r.sym = sy) (hρ : σ.rho = r) (hA : ∀ g id,E1.glob g = some id→∃ κ,σ id = some (g,κ)) (hrel : (memOf vaNL_fn.heap 100).rel Tryz.prog σ w (fun b => w.heap.size≤b)) (hins : Ins σ vaNL_fn.args us) :
  Calls Tryz.prog 3 us.toArray w fun e w' => e = .returned (.bool true)∧Kept (fun b => w.heap.size≤b) w w':=by
 obtain ⟨u0,us,rfl,g0,hi⟩:=ins_cons hins
 obtain ⟨u1,us,rfl,g1,hi1⟩:=ins_cons hi
 obtain ⟨u2,us,rfl,g2,hi2⟩:=ins_cons hi1
 obtain ⟨u3,us,rfl,g3,hi3⟩:=ins_cons hi2
 obtain ⟨p,k3,e3,h3⟩:=one_int g1
 obtain ⟨K,k7,e7,h7⟩:=one_int g3
 obtain ⟨m,h5⟩:=whos_at hrel (i:=61) vaNL_61
 rw [hρ] at h5 h3 h7
 have h5 : r.val 5 = some (whosR m):=h5
 refine law_of (E:=E1) (D:=vaNL_fn) E1_ok (fun F => VNL_ok F hsy) (fun F => noH_ok) (vaNL_w r) hρ hA trivial hrel hins ?_ ?_ vaNL_out
 ·simp only [vaNL_pre,vaNL_t,qVL17,qVL16,qVL15,qVL14,qVL13,qVL12,qVL11,qVL10,qVL9,qVL8,qVL7,qVL6,qVL5,qVL4,qVL3,qVL2,qVL1,qVL0,AsksL,GTree.asks,FTree.asks,FactsIn,List.append_nil,List.nil_append,List.cons_append,Option.some.injEq,exists_eq',implies_true,and_self,X.bool,X.den,denL,dX,denSub,d_iteV,asB,dY,sals_len,sals_cell,sals_lsub,hds_len,hds_cell,hds_lsub,hds_snocN,hds_snoc0N,heads_len,whos_len,whos_cell,whos_lsub,d_eq_sameV,h5,h3,h7,hsy,sym23,sym164,sym165,sym169,sym170,sym171,sym113W,sym173,sym174,sym175,sym190D]
  try simp
 ·simp only [vaNL_l,qVL17,qVL16,qVL15,qVL14,qVL13,qVL12,qVL11,qVL10,qVL9,qVL8,qVL7,qVL6,qVL5,qVL4,qVL3,qVL2,qVL1,qVL0,EndsOk,WaysOk,forall_cons,forall_nil,TgtOk,gpair,FactsIn,hold_cons,hold_nil,Option.some.injEq,dZ,X.bool,X.den,denL,dX,denSub,d_iteV,asB,dY,beq_iff_eq,beq_eq_false_iff_ne,ne_eq,sals_len,sals_cell,sals_lsub,hds_len,hds_cell,hds_lsub,hds_snocN,hds_snoc0N,heads_len,whos_len,whos_cell,whos_lsub,beq_iff_eq,beq_eq_false_iff_ne,ne_eq,d_eq_sameV,h5,h3,h7,hsy,sym23,sym164,sym165,sym169,sym170,sym171,sym113W,sym173,sym174,sym175,sym190D]
  clear hρ hrel hi hi1 hi2 hi3 hins g0 g1 g2 g3 h5 h3 h7 hsy hA
  (repeat' apply And.intro) <;> intros <;> first
    | (exact True.intro)
    | rfl
    | contradiction
    | (exfalso; omega)
    | (cases decide (200 < (m.length : Int)) <;> cases twiceW m <;> cases decide (0 < (m.length : Int)) <;> simp [den2]; done)
    | (simp_all; done)
    | (exfalso; simp_all; done)
    | (exfalso; simp_all; omega)
noncomputable def vaNN_fn : FnD:={ f:=3,args:=argsAV [.nils,.one (.int .i64 3),.nils,.one (.int .i64 7)],heap:=hRoot ++ argsBlk [.nils,.one (.int .i64 3),.nils,.one (.int .i64 7)],N:=100,M:=100,out:=.sbool (.boo true),news:=[] }
noncomputable def vaNN_call : Env→CallL:=fun E => acallAll E (evH E (VNN E) ((fun _ => noLoops) E) 14)
noncomputable def vaNN_pre : List (X×Bool):=[]
noncomputable def vaNN_t : GTree:=(.leaf [[]])
noncomputable def vaNN_l : List (List (X×Bool)×Option Pairs):=[([],some [])]
theorem vaNN_w (r : Rho) : vaNN_fn.ways vaNN_call E1 r vaNN_pre vaNN_t = some vaNN_l:=by kernel_rfl
theorem vaNN_out (σ : Sig) : vaNN_fn.out.inst σ = some (.bool true):=rfl
set_option maxRecDepth 100000 in
set_option maxHeartbeats 16000000 in
theorem vaNN_true {r : Rho} {σ : Sig} {w : World} {us : List Value} (hsy : r.sym = sy) (hρ : σ.rho = r) (hA : ∀ g id,E1.glob g = some id→∃ κ,σ id = some (g,κ)) (hrel : (memOf vaNN_fn.heap 100).rel Tryz.prog σ w (fun b => w.heap.size≤b)) (hins : Ins σ vaNN_fn.args us) :
  Calls Tryz.prog 3 us.toArray w fun e w' => e = .returned (.bool true)∧Kept (fun b => w.heap.size≤b) w w':=by
 obtain ⟨u0,us,rfl,g0,hi⟩:=ins_cons hins
 obtain ⟨u1,us,rfl,g1,hi1⟩:=ins_cons hi
 obtain ⟨u2,us,rfl,g2,hi2⟩:=ins_cons hi1
 obtain ⟨u3,us,rfl,g3,hi3⟩:=ins_cons hi2
 obtain ⟨p,k3,e3,h3⟩:=one_int g1
 obtain ⟨K,k7,e7,h7⟩:=one_int g3
 rw [hρ] at h3 h7
 refine law_of (E:=E1) (D:=vaNN_fn) E1_ok (fun F => VNN_ok F hsy) (fun F => noH_ok) (vaNN_w r) hρ hA trivial hrel hins ?_ ?_ vaNN_out
 ·simp only [vaNN_pre,vaNN_t,qVL17,qVL16,qVL15,qVL14,qVL13,qVL12,qVL11,qVL10,qVL9,qVL8,qVL7,qVL6,qVL5,qVL4,qVL3,qVL2,qVL1,qVL0,AsksL,GTree.asks,FTree.asks,FactsIn,List.append_nil,List.nil_append,List.cons_append,Option.some.injEq,exists_eq',implies_true,and_self,X.bool,X.den,denL,dX,denSub,d_iteV,asB,dY,sals_len,sals_cell,sals_lsub,hds_len,hds_cell,hds_lsub,hds_snocN,hds_snoc0N,heads_len,whos_len,whos_cell,whos_lsub,d_eq_sameV,h3,h7,hsy,sym23,sym164,sym165,sym169,sym170,sym171,sym113W,sym173,sym174,sym175,sym190D]
  try simp
 ·simp only [vaNN_l,qVL17,qVL16,qVL15,qVL14,qVL13,qVL12,qVL11,qVL10,qVL9,qVL8,qVL7,qVL6,qVL5,qVL4,qVL3,qVL2,qVL1,qVL0,EndsOk,WaysOk,forall_cons,forall_nil,TgtOk,gpair,FactsIn,hold_cons,hold_nil,Option.some.injEq,dZ,X.bool,X.den,denL,dX,denSub,d_iteV,asB,dY,beq_iff_eq,beq_eq_false_iff_ne,ne_eq,sals_len,sals_cell,sals_lsub,hds_len,hds_cell,hds_lsub,hds_snocN,hds_snoc0N,heads_len,whos_len,whos_cell,whos_lsub,beq_iff_eq,beq_eq_false_iff_ne,ne_eq,d_eq_sameV,h3,h7,hsy,sym23,sym164,sym165,sym169,sym170,sym171,sym113W,sym173,sym174,sym175,sym190D]
  clear hρ hrel hi hi1 hi2 hi3 hins g0 g1 g2 g3 h3 h7 hsy hA
  (repeat' apply And.intro) <;> intros <;> first
    | (exact True.intro)
    | rfl
    | contradiction
    | (exfalso; omega)
    | (simp_all; done)
    | (exfalso; simp_all; done)
    | (exfalso; simp_all; omega)
end Go.Proofs.YtckefonlahokkaaGreatDoor.Zs
