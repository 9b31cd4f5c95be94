/-
  Contracts: what a sale is.
-/
import Derived.Test.YtckefonlahokkaaGreatDoorVaBase
import Derived.Test.YtckefonlahokkaaGreatDoorVaData
import Derived.KernelRfl
set_option linter.unusedSimpArgs false
set_option linter.unusedVariables false
namespace Go.Proofs.YtckefonlahokkaaGreatDoor.Zs
open Go
noncomputable def noL : Env→CallE:=libs []
theorem noL_ok (F : List (X×Bool)) {r : Rho} (h : r.sym = sy) : CallsOk (E0.with F r) (noL (E0.with F r)):=libs_ok fun c hc => by
 cases hc
noncomputable def cwithin_con : Con:={ f:=50,args:=[.one (.int .i64 0),.one (.int .i64 1),.one (.int .i64 2)],N:=0,M:=0,pre:=[],out:=.sbool (.app 10 [.var 0,.var 1,.var 2]),news:=[] }
noncomputable def cwithin_call : Env→CallL:=fun E => acallAll E (evH E (noL E) ((fun _ => noLoops) E) 4)
def qSA0 : X:=.ite (.app 131 [(.var 0),(.var 1),(.var 2),(.var 3),(.var 4),(.var 5),(.var 6),(.var 7),(.var 8)]) (.num 0) (.num 1)
def qSA1 : X:=.app 10 [(.var 3),(.num 10),(.num 10000007)]
def qSA2 : X:=.app 10 [(.var 4),(.num 1),(.num 1000000000)]
def qSA3 : X:=.app 10 [(.var 2),(.num 0),(.var 1)]
def qSA4 : X:=.op2 .eq (.var 8) (.num 0)
def qSA5 : X:=.op2 .eq (.var 5) (.num 0)
def qSA6 : X:=.op2 .eq (.var 6) (.num 0)
def qSA7 : X:=.app 10 [(.var 6),(.num 1),(.num 40)]
def qSA8 : X:=.op2 .eq (.var 2) (.num 0)
def qSA9 : X:=.app 10 [(.var 0),(.num 1),(.num 1000000)]
def qSA10 : X:=.op2 .eq (.var 3) (.num 0)
def qSA11 : X:=.app 10 [(.var 1),(.num 0),(.num 1000000)]
def qSA12 : X:=.op2 .eq (.var 7) (.num 0)
def qSA13 : X:=.app 10 [(.var 5),(.num 1),(.num 40)]
def qSA14 : X:=.op2 .eq (.var 4) (.num 0)
def qSA15 : X:=.app 10 [(.var 8),(.num 0),(.num 1000000)]
def qSA16 : X:=.app 10 [(.var 7),(.num 0),(.var 2)]
noncomputable def cwithin_t : GTree:=(.fork (.op2 .lt (.var 0) (.var 1)) (.leaf [[]]) (.leaf [[]]))
noncomputable def cwithin_l : List (List (X×Bool)×Option Pairs):=[([(.op2 .lt (.var 0) (.var 1),true)],some [(.app 10 [.var 0,.var 1,.var 2],.boo false)]),
 ([(.op2 .lt (.var 0) (.var 1),false)],some [(.app 10 [.var 0,.var 1,.var 2],.op1 .not (.op2 .lt (.var 2) (.var 0)))])]
theorem cwithin_w (r : Rho) : cwithin_con.fn.ways cwithin_call E0 r cwithin_con.pre cwithin_t = some cwithin_l:=by kernel_rfl
theorem cwithin_cok : cwithin_con.Ok Tryz.prog sy:=by
 intro r σ w us hsy hρ hpre hrel hins
 obtain ⟨u0,us,rfl,g0,hins⟩:=ins_cons hins
 obtain ⟨u1,us,rfl,g1,hins⟩:=ins_cons hins
 obtain ⟨u2,us,rfl,g2,hins⟩:=ins_cons hins
 obtain ⟨a,k0,rfl,h0⟩:=one_int g0
 obtain ⟨b,k1,rfl,h1⟩:=one_int g1
 obtain ⟨c,k2,rfl,h2⟩:=one_int g2
 rw [hρ] at h0 h1 h2
 have hs : r.sym 10 [.int k0 a,.int k1 b,.int k2 c] = some (.bool (withinB a b c)):=by rw [hsy]; rfl
 refine con_of (E:=E0) E0_ok E0_glob (sy:=sy) (fun F => noL_ok F hsy) (fun F => noH_ok) (cwithin_w r) hρ hpre hrel hins ?_ ?_
 ·simp only [cwithin_con,cwithin_t,qSA16,qSA15,qSA14,qSA13,qSA12,qSA11,qSA10,qSA9,qSA8,qSA7,qSA6,qSA5,qSA4,qSA3,qSA2,qSA1,qSA0,AsksL,GTree.asks,FTree.asks,FactsIn,List.append_nil,List.nil_append,List.cons_append,Option.some.injEq,exists_eq',implies_true,and_self,X.bool,X.den,denL,dX,denSub,denIte,asB,dY,h0,h1,h2,hs]
 ·simp only [cwithin_l,qSA16,qSA15,qSA14,qSA13,qSA12,qSA11,qSA10,qSA9,qSA8,qSA7,qSA6,qSA5,qSA4,qSA3,qSA2,qSA1,qSA0,EndsOk,WaysOk,forall_cons,forall_nil,TgtOk,gpair,FactsIn,hold_cons,hold_nil,Option.some.injEq,dZ,X.bool,X.den,denL,dX,denSub,denIte,asB,dY,beq_iff_eq,beq_eq_false_iff_ne,ne_eq,h0,h1,h2,hs]
  (repeat' apply And.intro) <;> intros <;> first | trivial | (simp [withinB]; omega) | (rw [Bool.eq_iff_iff]; simp [withinB]; omega)
noncomputable def LW : Env→CallE:=libs [cLib cwithin_con]
theorem LW_ok (F : List (X×Bool)) {r : Rho} (h : r.sym = sy) : CallsOk (E0.with F r) (LW (E0.with F r)):=libs_ok fun c hc => by
 simp only [List.mem_cons,List.not_mem_nil,or_false] at hc
 subst hc; exact lib_ok (E:=E0) cwithin_cok F h
noncomputable def cSl_con : Con:={ f:=35,args:=[.agg [.int .i64 0,.int .i64 1,.int .i64 2,.int .i64 3,.int .i64 4,.int .i64 5,.int .i64 6,.int .i64 7,.int .i64 8]],N:=0,M:=0,pre:=[],out:=.sint .i64 (.ite (.app 131 [.var 0,.var 1,.var 2,.var 3,.var 4,.var 5,.var 6,.var 7,.var 8]) (.num 0) (.num 1)),news:=[] }
noncomputable def cSl_call : Env→CallL:=fun E => acallAll E (evH E (LW E) ((fun _ => noLoops) E) 6)
noncomputable def cSl_t : GTree:=(.fork qSA3 (.fork qSA1 (.fork qSA2 (.fork qSA5 (.fork qSA6 (.fork qSA12 (.fork qSA4 (.fork qSA9 (.fork qSA11 (.fork qSA15 (.leaf [[]]) (.leaf [[]])) (.leaf [[]])) (.leaf [[]])) (.fork qSA8 (.fork qSA10 (.fork qSA14 (.fork qSA9 (.fork qSA11 (.fork qSA15 (.leaf [[]]) (.leaf [[]])) (.leaf [[]])) (.leaf [[]])) (.leaf [[]])) (.leaf [[]])) (.leaf [[]]))) (.fork qSA7 (.fork qSA4 (.fork qSA16 (.fork qSA9 (.fork qSA11 (.fork qSA15 (.leaf [[]]) (.leaf [[]])) (.leaf [[]])) (.leaf [[]])) (.leaf [[]])) (.fork qSA8 (.fork qSA10 (.fork qSA14 (.leaf [[]]) (.leaf [[]])) (.leaf [[]])) (.leaf [[]]))) (.fork qSA4 (.leaf [[]]) (.fork qSA8 (.fork qSA10 (.fork qSA14 (.leaf [[]]) (.leaf [[]])) (.leaf [[]])) (.leaf [[]]))))) (.fork qSA7 (.fork qSA4 (.fork qSA16 (.fork qSA9 (.fork qSA11 (.fork qSA15 (.leaf [[]]) (.leaf [[]])) (.leaf [[]])) (.leaf [[]])) (.leaf [[]])) (.fork qSA8 (.fork qSA10 (.fork qSA14 (.leaf [[]]) (.leaf [[]])) (.leaf [[]])) (.leaf [[]]))) (.fork qSA4 (.leaf [[]]) (.fork qSA8 (.fork qSA10 (.fork qSA14 (.leaf [[]]) (.leaf [[]])) (.leaf [[]])) (.leaf [[]]))))) (.fork qSA13 (.fork qSA6 (.fork qSA12 (.fork qSA4 (.fork qSA9 (.fork qSA11 (.fork qSA15 (.leaf [[]]) (.leaf [[]])) (.leaf [[]])) (.leaf [[]])) (.fork qSA8 (.fork qSA10 (.fork qSA14 (.leaf [[]]) (.leaf [[]])) (.leaf [[]])) (.leaf [[]]))) (.fork qSA7 (.fork qSA4 (.fork qSA16 (.fork qSA9 (.fork qSA11 (.fork qSA15 (.leaf [[]]) (.leaf [[]])) (.leaf [[]])) (.leaf [[]])) (.leaf [[]])) (.fork qSA8 (.fork qSA10 (.fork qSA14 (.leaf [[]]) (.leaf [[]])) (.leaf [[]])) (.leaf [[]]))) (.fork qSA4 (.leaf [[]]) (.fork qSA8 (.fork qSA10 (.fork qSA14 (.leaf [[]]) (.leaf [[]])) (.leaf [[]])) (.leaf [[]]))))) (.fork qSA7 (.fork qSA4 (.fork qSA16 (.fork qSA9 (.fork qSA11 (.fork qSA15 (.leaf [[]]) (.leaf [[]])) (.leaf [[]])) (.leaf [[]])) (.leaf [[]])) (.fork qSA8 (.fork qSA10 (.fork qSA14 (.leaf [[]]) (.leaf [[]])) (.leaf [[]])) (.leaf [[]]))) (.fork qSA4 (.leaf [[]]) (.fork qSA8 (.fork qSA10 (.fork qSA14 (.leaf [[]]) (.leaf [[]])) (.leaf [[]])) (.leaf [[]]))))) (.fork qSA4 (.leaf [[]]) (.fork qSA8 (.fork qSA10 (.fork qSA14 (.leaf [[]]) (.leaf [[]])) (.leaf [[]])) (.leaf [[]]))))) (.fork qSA4 (.leaf [[]]) (.fork qSA8 (.fork qSA10 (.fork qSA14 (.fork qSA5 (.fork qSA6 (.fork qSA12 (.fork qSA9 (.fork qSA11 (.fork qSA15 (.leaf [[]]) (.leaf [[]])) (.leaf [[]])) (.leaf [[]])) (.leaf [[]])) (.leaf [[]])) (.leaf [[]])) (.leaf [[]])) (.leaf [[]])) (.leaf [[]])))) (.fork qSA4 (.leaf [[]]) (.fork qSA8 (.fork qSA10 (.fork qSA14 (.fork qSA5 (.fork qSA6 (.fork qSA12 (.fork qSA9 (.fork qSA11 (.fork qSA15 (.leaf [[]]) (.leaf [[]])) (.leaf [[]])) (.leaf [[]])) (.leaf [[]])) (.leaf [[]])) (.leaf [[]])) (.leaf [[]])) (.leaf [[]])) (.leaf [[]])))) (.fork qSA4 (.leaf [[]]) (.fork qSA8 (.fork qSA10 (.fork qSA14 (.fork qSA5 (.fork qSA6 (.fork qSA12 (.fork qSA9 (.fork qSA11 (.fork qSA15 (.leaf [[]]) (.leaf [[]])) (.leaf [[]])) (.leaf [[]])) (.leaf [[]])) (.leaf [[]])) (.leaf [[]])) (.leaf [[]])) (.leaf [[]])) (.leaf [[]]))))
noncomputable def cSl_l : List (List (X×Bool)×Option Pairs):=[([(qSA15,true),(qSA11,true),(qSA9,true),(qSA4,true),(qSA12,true),(qSA6,true),(qSA5,true),(qSA2,true),(qSA1,true),(qSA3,true)],some [(qSA0,.num 0)]),
 ([(qSA15,false),(qSA11,true),(qSA9,true),(qSA4,true),(qSA12,true),(qSA6,true),(qSA5,true),(qSA2,true),(qSA1,true),(qSA3,true)],some [(qSA0,.num 1)]),
 ([(qSA11,false),(qSA9,true),(qSA4,true),(qSA12,true),(qSA6,true),(qSA5,true),(qSA2,true),(qSA1,true),(qSA3,true)],some [(qSA0,.num 1)]),
 ([(qSA9,false),(qSA4,true),(qSA12,true),(qSA6,true),(qSA5,true),(qSA2,true),(qSA1,true),(qSA3,true)],some [(qSA0,.num 1)]),
 ([(qSA15,true),(qSA11,true),(qSA9,true),(qSA14,true),(qSA10,true),(qSA8,true),(qSA4,false),(qSA12,true),(qSA6,true),(qSA5,true),(qSA2,true),(qSA1,true),(qSA3,true)],some [(qSA0,.num 0)]),
 ([(qSA15,false),(qSA11,true),(qSA9,true),(qSA14,true),(qSA10,true),(qSA8,true),(qSA4,false),(qSA12,true),(qSA6,true),(qSA5,true),(qSA2,true),(qSA1,true),(qSA3,true)],some [(qSA0,.num 1)]),
 ([(qSA11,false),(qSA9,true),(qSA14,true),(qSA10,true),(qSA8,true),(qSA4,false),(qSA12,true),(qSA6,true),(qSA5,true),(qSA2,true),(qSA1,true),(qSA3,true)],some [(qSA0,.num 1)]),
 ([(qSA9,false),(qSA14,true),(qSA10,true),(qSA8,true),(qSA4,false),(qSA12,true),(qSA6,true),(qSA5,true),(qSA2,true),(qSA1,true),(qSA3,true)],some [(qSA0,.num 1)]),
 ([(qSA14,false),(qSA10,true),(qSA8,true),(qSA4,false),(qSA12,true),(qSA6,true),(qSA5,true),(qSA2,true),(qSA1,true),(qSA3,true)],some [(qSA0,.num 1)]),
 ([(qSA10,false),(qSA8,true),(qSA4,false),(qSA12,true),(qSA6,true),(qSA5,true),(qSA2,true),(qSA1,true),(qSA3,true)],some [(qSA0,.num 1)]),
 ([(qSA8,false),(qSA4,false),(qSA12,true),(qSA6,true),(qSA5,true),(qSA2,true),(qSA1,true),(qSA3,true)],some [(qSA0,.num 1)]),
 ([(qSA15,true),(qSA11,true),(qSA9,true),(qSA16,true),(qSA4,true),(qSA7,true),(qSA12,false),(qSA6,true),(qSA5,true),(qSA2,true),(qSA1,true),(qSA3,true)],some [(qSA0,.num 0)]),
 ([(qSA15,false),(qSA11,true),(qSA9,true),(qSA16,true),(qSA4,true),(qSA7,true),(qSA12,false),(qSA6,true),(qSA5,true),(qSA2,true),(qSA1,true),(qSA3,true)],some [(qSA0,.num 1)]),
 ([(qSA11,false),(qSA9,true),(qSA16,true),(qSA4,true),(qSA7,true),(qSA12,false),(qSA6,true),(qSA5,true),(qSA2,true),(qSA1,true),(qSA3,true)],some [(qSA0,.num 1)]),
 ([(qSA9,false),(qSA16,true),(qSA4,true),(qSA7,true),(qSA12,false),(qSA6,true),(qSA5,true),(qSA2,true),(qSA1,true),(qSA3,true)],some [(qSA0,.num 1)]),
 ([(qSA16,false),(qSA4,true),(qSA7,true),(qSA12,false),(qSA6,true),(qSA5,true),(qSA2,true),(qSA1,true),(qSA3,true)],some [(qSA0,.num 1)]),
 ([(qSA14,true),(qSA10,true),(qSA8,true),(qSA4,false),(qSA7,true),(qSA12,false),(qSA6,true),(qSA5,true),(qSA2,true),(qSA1,true),(qSA3,true)],some [(qSA0,.num 1)]),
 ([(qSA14,false),(qSA10,true),(qSA8,true),(qSA4,false),(qSA7,true),(qSA12,false),(qSA6,true),(qSA5,true),(qSA2,true),(qSA1,true),(qSA3,true)],some [(qSA0,.num 1)]),
 ([(qSA10,false),(qSA8,true),(qSA4,false),(qSA7,true),(qSA12,false),(qSA6,true),(qSA5,true),(qSA2,true),(qSA1,true),(qSA3,true)],some [(qSA0,.num 1)]),
 ([(qSA8,false),(qSA4,false),(qSA7,true),(qSA12,false),(qSA6,true),(qSA5,true),(qSA2,true),(qSA1,true),(qSA3,true)],some [(qSA0,.num 1)]),
 ([(qSA4,true),(qSA7,false),(qSA12,false),(qSA6,true),(qSA5,true),(qSA2,true),(qSA1,true),(qSA3,true)],some [(qSA0,.num 1)]),
 ([(qSA14,true),(qSA10,true),(qSA8,true),(qSA4,false),(qSA7,false),(qSA12,false),(qSA6,true),(qSA5,true),(qSA2,true),(qSA1,true),(qSA3,true)],some [(qSA0,.num 1)]),
 ([(qSA14,false),(qSA10,true),(qSA8,true),(qSA4,false),(qSA7,false),(qSA12,false),(qSA6,true),(qSA5,true),(qSA2,true),(qSA1,true),(qSA3,true)],some [(qSA0,.num 1)]),
 ([(qSA10,false),(qSA8,true),(qSA4,false),(qSA7,false),(qSA12,false),(qSA6,true),(qSA5,true),(qSA2,true),(qSA1,true),(qSA3,true)],some [(qSA0,.num 1)]),
 ([(qSA8,false),(qSA4,false),(qSA7,false),(qSA12,false),(qSA6,true),(qSA5,true),(qSA2,true),(qSA1,true),(qSA3,true)],some [(qSA0,.num 1)]),
 ([(qSA15,true),(qSA11,true),(qSA9,true),(qSA16,true),(qSA4,true),(qSA7,true),(qSA6,false),(qSA5,true),(qSA2,true),(qSA1,true),(qSA3,true)],some [(qSA0,.num 0)]),
 ([(qSA15,false),(qSA11,true),(qSA9,true),(qSA16,true),(qSA4,true),(qSA7,true),(qSA6,false),(qSA5,true),(qSA2,true),(qSA1,true),(qSA3,true)],some [(qSA0,.num 1)]),
 ([(qSA11,false),(qSA9,true),(qSA16,true),(qSA4,true),(qSA7,true),(qSA6,false),(qSA5,true),(qSA2,true),(qSA1,true),(qSA3,true)],some [(qSA0,.num 1)]),
 ([(qSA9,false),(qSA16,true),(qSA4,true),(qSA7,true),(qSA6,false),(qSA5,true),(qSA2,true),(qSA1,true),(qSA3,true)],some [(qSA0,.num 1)]),
 ([(qSA16,false),(qSA4,true),(qSA7,true),(qSA6,false),(qSA5,true),(qSA2,true),(qSA1,true),(qSA3,true)],some [(qSA0,.num 1)]),
 ([(qSA14,true),(qSA10,true),(qSA8,true),(qSA4,false),(qSA7,true),(qSA6,false),(qSA5,true),(qSA2,true),(qSA1,true),(qSA3,true)],some [(qSA0,.num 1)]),
 ([(qSA14,false),(qSA10,true),(qSA8,true),(qSA4,false),(qSA7,true),(qSA6,false),(qSA5,true),(qSA2,true),(qSA1,true),(qSA3,true)],some [(qSA0,.num 1)]),
 ([(qSA10,false),(qSA8,true),(qSA4,false),(qSA7,true),(qSA6,false),(qSA5,true),(qSA2,true),(qSA1,true),(qSA3,true)],some [(qSA0,.num 1)]),
 ([(qSA8,false),(qSA4,false),(qSA7,true),(qSA6,false),(qSA5,true),(qSA2,true),(qSA1,true),(qSA3,true)],some [(qSA0,.num 1)]),
 ([(qSA4,true),(qSA7,false),(qSA6,false),(qSA5,true),(qSA2,true),(qSA1,true),(qSA3,true)],some [(qSA0,.num 1)]),
 ([(qSA14,true),(qSA10,true),(qSA8,true),(qSA4,false),(qSA7,false),(qSA6,false),(qSA5,true),(qSA2,true),(qSA1,true),(qSA3,true)],some [(qSA0,.num 1)]),
 ([(qSA14,false),(qSA10,true),(qSA8,true),(qSA4,false),(qSA7,false),(qSA6,false),(qSA5,true),(qSA2,true),(qSA1,true),(qSA3,true)],some [(qSA0,.num 1)]),
 ([(qSA10,false),(qSA8,true),(qSA4,false),(qSA7,false),(qSA6,false),(qSA5,true),(qSA2,true),(qSA1,true),(qSA3,true)],some [(qSA0,.num 1)]),
 ([(qSA8,false),(qSA4,false),(qSA7,false),(qSA6,false),(qSA5,true),(qSA2,true),(qSA1,true),(qSA3,true)],some [(qSA0,.num 1)]),
 ([(qSA15,true),(qSA11,true),(qSA9,true),(qSA4,true),(qSA12,true),(qSA6,true),(qSA13,true),(qSA5,false),(qSA2,true),(qSA1,true),(qSA3,true)],some [(qSA0,.num 0)]),
 ([(qSA15,false),(qSA11,true),(qSA9,true),(qSA4,true),(qSA12,true),(qSA6,true),(qSA13,true),(qSA5,false),(qSA2,true),(qSA1,true),(qSA3,true)],some [(qSA0,.num 1)]),
 ([(qSA11,false),(qSA9,true),(qSA4,true),(qSA12,true),(qSA6,true),(qSA13,true),(qSA5,false),(qSA2,true),(qSA1,true),(qSA3,true)],some [(qSA0,.num 1)]),
 ([(qSA9,false),(qSA4,true),(qSA12,true),(qSA6,true),(qSA13,true),(qSA5,false),(qSA2,true),(qSA1,true),(qSA3,true)],some [(qSA0,.num 1)]),
 ([(qSA14,true),(qSA10,true),(qSA8,true),(qSA4,false),(qSA12,true),(qSA6,true),(qSA13,true),(qSA5,false),(qSA2,true),(qSA1,true),(qSA3,true)],some [(qSA0,.num 1)]),
 ([(qSA14,false),(qSA10,true),(qSA8,true),(qSA4,false),(qSA12,true),(qSA6,true),(qSA13,true),(qSA5,false),(qSA2,true),(qSA1,true),(qSA3,true)],some [(qSA0,.num 1)]),
 ([(qSA10,false),(qSA8,true),(qSA4,false),(qSA12,true),(qSA6,true),(qSA13,true),(qSA5,false),(qSA2,true),(qSA1,true),(qSA3,true)],some [(qSA0,.num 1)]),
 ([(qSA8,false),(qSA4,false),(qSA12,true),(qSA6,true),(qSA13,true),(qSA5,false),(qSA2,true),(qSA1,true),(qSA3,true)],some [(qSA0,.num 1)]),
 ([(qSA15,true),(qSA11,true),(qSA9,true),(qSA16,true),(qSA4,true),(qSA7,true),(qSA12,false),(qSA6,true),(qSA13,true),(qSA5,false),(qSA2,true),(qSA1,true),(qSA3,true)],some [(qSA0,.num 0)]),
 ([(qSA15,false),(qSA11,true),(qSA9,true),(qSA16,true),(qSA4,true),(qSA7,true),(qSA12,false),(qSA6,true),(qSA13,true),(qSA5,false),(qSA2,true),(qSA1,true),(qSA3,true)],some [(qSA0,.num 1)]),
 ([(qSA11,false),(qSA9,true),(qSA16,true),(qSA4,true),(qSA7,true),(qSA12,false),(qSA6,true),(qSA13,true),(qSA5,false),(qSA2,true),(qSA1,true),(qSA3,true)],some [(qSA0,.num 1)]),
 ([(qSA9,false),(qSA16,true),(qSA4,true),(qSA7,true),(qSA12,false),(qSA6,true),(qSA13,true),(qSA5,false),(qSA2,true),(qSA1,true),(qSA3,true)],some [(qSA0,.num 1)]),
 ([(qSA16,false),(qSA4,true),(qSA7,true),(qSA12,false),(qSA6,true),(qSA13,true),(qSA5,false),(qSA2,true),(qSA1,true),(qSA3,true)],some [(qSA0,.num 1)]),
 ([(qSA14,true),(qSA10,true),(qSA8,true),(qSA4,false),(qSA7,true),(qSA12,false),(qSA6,true),(qSA13,true),(qSA5,false),(qSA2,true),(qSA1,true),(qSA3,true)],some [(qSA0,.num 1)]),
 ([(qSA14,false),(qSA10,true),(qSA8,true),(qSA4,false),(qSA7,true),(qSA12,false),(qSA6,true),(qSA13,true),(qSA5,false),(qSA2,true),(qSA1,true),(qSA3,true)],some [(qSA0,.num 1)]),
 ([(qSA10,false),(qSA8,true),(qSA4,false),(qSA7,true),(qSA12,false),(qSA6,true),(qSA13,true),(qSA5,false),(qSA2,true),(qSA1,true),(qSA3,true)],some [(qSA0,.num 1)]),
 ([(qSA8,false),(qSA4,false),(qSA7,true),(qSA12,false),(qSA6,true),(qSA13,true),(qSA5,false),(qSA2,true),(qSA1,true),(qSA3,true)],some [(qSA0,.num 1)]),
 ([(qSA4,true),(qSA7,false),(qSA12,false),(qSA6,true),(qSA13,true),(qSA5,false),(qSA2,true),(qSA1,true),(qSA3,true)],some [(qSA0,.num 1)]),
 ([(qSA14,true),(qSA10,true),(qSA8,true),(qSA4,false),(qSA7,false),(qSA12,false),(qSA6,true),(qSA13,true),(qSA5,false),(qSA2,true),(qSA1,true),(qSA3,true)],some [(qSA0,.num 1)]),
 ([(qSA14,false),(qSA10,true),(qSA8,true),(qSA4,false),(qSA7,false),(qSA12,false),(qSA6,true),(qSA13,true),(qSA5,false),(qSA2,true),(qSA1,true),(qSA3,true)],some [(qSA0,.num 1)]),
 ([(qSA10,false),(qSA8,true),(qSA4,false),(qSA7,false),(qSA12,false),(qSA6,true),(qSA13,true),(qSA5,false),(qSA2,true),(qSA1,true),(qSA3,true)],some [(qSA0,.num 1)]),
 ([(qSA8,false),(qSA4,false),(qSA7,false),(qSA12,false),(qSA6,true),(qSA13,true),(qSA5,false),(qSA2,true),(qSA1,true),(qSA3,true)],some [(qSA0,.num 1)]),
 ([(qSA15,true),(qSA11,true),(qSA9,true),(qSA16,true),(qSA4,true),(qSA7,true),(qSA6,false),(qSA13,true),(qSA5,false),(qSA2,true),(qSA1,true),(qSA3,true)],some [(qSA0,.num 0)]),
 ([(qSA15,false),(qSA11,true),(qSA9,true),(qSA16,true),(qSA4,true),(qSA7,true),(qSA6,false),(qSA13,true),(qSA5,false),(qSA2,true),(qSA1,true),(qSA3,true)],some [(qSA0,.num 1)]),
 ([(qSA11,false),(qSA9,true),(qSA16,true),(qSA4,true),(qSA7,true),(qSA6,false),(qSA13,true),(qSA5,false),(qSA2,true),(qSA1,true),(qSA3,true)],some [(qSA0,.num 1)]),
 ([(qSA9,false),(qSA16,true),(qSA4,true),(qSA7,true),(qSA6,false),(qSA13,true),(qSA5,false),(qSA2,true),(qSA1,true),(qSA3,true)],some [(qSA0,.num 1)]),
 ([(qSA16,false),(qSA4,true),(qSA7,true),(qSA6,false),(qSA13,true),(qSA5,false),(qSA2,true),(qSA1,true),(qSA3,true)],some [(qSA0,.num 1)]),
 ([(qSA14,true),(qSA10,true),(qSA8,true),(qSA4,false),(qSA7,true),(qSA6,false),(qSA13,true),(qSA5,false),(qSA2,true),(qSA1,true),(qSA3,true)],some [(qSA0,.num 1)]),
 ([(qSA14,false),(qSA10,true),(qSA8,true),(qSA4,false),(qSA7,true),(qSA6,false),(qSA13,true),(qSA5,false),(qSA2,true),(qSA1,true),(qSA3,true)],some [(qSA0,.num 1)]),
 ([(qSA10,false),(qSA8,true),(qSA4,false),(qSA7,true),(qSA6,false),(qSA13,true),(qSA5,false),(qSA2,true),(qSA1,true),(qSA3,true)],some [(qSA0,.num 1)]),
 ([(qSA8,false),(qSA4,false),(qSA7,true),(qSA6,false),(qSA13,true),(qSA5,false),(qSA2,true),(qSA1,true),(qSA3,true)],some [(qSA0,.num 1)]),
 ([(qSA4,true),(qSA7,false),(qSA6,false),(qSA13,true),(qSA5,false),(qSA2,true),(qSA1,true),(qSA3,true)],some [(qSA0,.num 1)]),
 ([(qSA14,true),(qSA10,true),(qSA8,true),(qSA4,false),(qSA7,false),(qSA6,false),(qSA13,true),(qSA5,false),(qSA2,true),(qSA1,true),(qSA3,true)],some [(qSA0,.num 1)]),
 ([(qSA14,false),(qSA10,true),(qSA8,true),(qSA4,false),(qSA7,false),(qSA6,false),(qSA13,true),(qSA5,false),(qSA2,true),(qSA1,true),(qSA3,true)],some [(qSA0,.num 1)]),
 ([(qSA10,false),(qSA8,true),(qSA4,false),(qSA7,false),(qSA6,false),(qSA13,true),(qSA5,false),(qSA2,true),(qSA1,true),(qSA3,true)],some [(qSA0,.num 1)]),
 ([(qSA8,false),(qSA4,false),(qSA7,false),(qSA6,false),(qSA13,true),(qSA5,false),(qSA2,true),(qSA1,true),(qSA3,true)],some [(qSA0,.num 1)]),
 ([(qSA4,true),(qSA13,false),(qSA5,false),(qSA2,true),(qSA1,true),(qSA3,true)],some [(qSA0,.num 1)]),
 ([(qSA14,true),(qSA10,true),(qSA8,true),(qSA4,false),(qSA13,false),(qSA5,false),(qSA2,true),(qSA1,true),(qSA3,true)],some [(qSA0,.num 1)]),
 ([(qSA14,false),(qSA10,true),(qSA8,true),(qSA4,false),(qSA13,false),(qSA5,false),(qSA2,true),(qSA1,true),(qSA3,true)],some [(qSA0,.num 1)]),
 ([(qSA10,false),(qSA8,true),(qSA4,false),(qSA13,false),(qSA5,false),(qSA2,true),(qSA1,true),(qSA3,true)],some [(qSA0,.num 1)]),
 ([(qSA8,false),(qSA4,false),(qSA13,false),(qSA5,false),(qSA2,true),(qSA1,true),(qSA3,true)],some [(qSA0,.num 1)]),
 ([(qSA4,true),(qSA2,false),(qSA1,true),(qSA3,true)],some [(qSA0,.num 1)]),
 ([(qSA15,true),(qSA11,true),(qSA9,true),(qSA12,true),(qSA6,true),(qSA5,true),(qSA14,true),(qSA10,true),(qSA8,true),(qSA4,false),(qSA2,false),(qSA1,true),(qSA3,true)],some [(qSA0,.num 0)]),
 ([(qSA15,false),(qSA11,true),(qSA9,true),(qSA12,true),(qSA6,true),(qSA5,true),(qSA14,true),(qSA10,true),(qSA8,true),(qSA4,false),(qSA2,false),(qSA1,true),(qSA3,true)],some [(qSA0,.num 1)]),
 ([(qSA11,false),(qSA9,true),(qSA12,true),(qSA6,true),(qSA5,true),(qSA14,true),(qSA10,true),(qSA8,true),(qSA4,false),(qSA2,false),(qSA1,true),(qSA3,true)],some [(qSA0,.num 1)]),
 ([(qSA9,false),(qSA12,true),(qSA6,true),(qSA5,true),(qSA14,true),(qSA10,true),(qSA8,true),(qSA4,false),(qSA2,false),(qSA1,true),(qSA3,true)],some [(qSA0,.num 1)]),
 ([(qSA12,false),(qSA6,true),(qSA5,true),(qSA14,true),(qSA10,true),(qSA8,true),(qSA4,false),(qSA2,false),(qSA1,true),(qSA3,true)],some [(qSA0,.num 1)]),
 ([(qSA6,false),(qSA5,true),(qSA14,true),(qSA10,true),(qSA8,true),(qSA4,false),(qSA2,false),(qSA1,true),(qSA3,true)],some [(qSA0,.num 1)]),
 ([(qSA5,false),(qSA14,true),(qSA10,true),(qSA8,true),(qSA4,false),(qSA2,false),(qSA1,true),(qSA3,true)],some [(qSA0,.num 1)]),
 ([(qSA14,false),(qSA10,true),(qSA8,true),(qSA4,false),(qSA2,false),(qSA1,true),(qSA3,true)],some [(qSA0,.num 1)]),
 ([(qSA10,false),(qSA8,true),(qSA4,false),(qSA2,false),(qSA1,true),(qSA3,true)],some [(qSA0,.num 1)]),
 ([(qSA8,false),(qSA4,false),(qSA2,false),(qSA1,true),(qSA3,true)],some [(qSA0,.num 1)]),
 ([(qSA4,true),(qSA1,false),(qSA3,true)],some [(qSA0,.num 1)]),
 ([(qSA15,true),(qSA11,true),(qSA9,true),(qSA12,true),(qSA6,true),(qSA5,true),(qSA14,true),(qSA10,true),(qSA8,true),(qSA4,false),(qSA1,false),(qSA3,true)],some [(qSA0,.num 0)]),
 ([(qSA15,false),(qSA11,true),(qSA9,true),(qSA12,true),(qSA6,true),(qSA5,true),(qSA14,true),(qSA10,true),(qSA8,true),(qSA4,false),(qSA1,false),(qSA3,true)],some [(qSA0,.num 1)]),
 ([(qSA11,false),(qSA9,true),(qSA12,true),(qSA6,true),(qSA5,true),(qSA14,true),(qSA10,true),(qSA8,true),(qSA4,false),(qSA1,false),(qSA3,true)],some [(qSA0,.num 1)]),
 ([(qSA9,false),(qSA12,true),(qSA6,true),(qSA5,true),(qSA14,true),(qSA10,true),(qSA8,true),(qSA4,false),(qSA1,false),(qSA3,true)],some [(qSA0,.num 1)]),
 ([(qSA12,false),(qSA6,true),(qSA5,true),(qSA14,true),(qSA10,true),(qSA8,true),(qSA4,false),(qSA1,false),(qSA3,true)],some [(qSA0,.num 1)]),
 ([(qSA6,false),(qSA5,true),(qSA14,true),(qSA10,true),(qSA8,true),(qSA4,false),(qSA1,false),(qSA3,true)],some [(qSA0,.num 1)]),
 ([(qSA5,false),(qSA14,true),(qSA10,true),(qSA8,true),(qSA4,false),(qSA1,false),(qSA3,true)],some [(qSA0,.num 1)]),
 ([(qSA14,false),(qSA10,true),(qSA8,true),(qSA4,false),(qSA1,false),(qSA3,true)],some [(qSA0,.num 1)]),
 ([(qSA10,false),(qSA8,true),(qSA4,false),(qSA1,false),(qSA3,true)],some [(qSA0,.num 1)]),
 ([(qSA8,false),(qSA4,false),(qSA1,false),(qSA3,true)],some [(qSA0,.num 1)]),
 ([(qSA4,true),(qSA3,false)],some [(qSA0,.num 1)]),
 ([(qSA15,true),(qSA11,true),(qSA9,true),(qSA12,true),(qSA6,true),(qSA5,true),(qSA14,true),(qSA10,true),(qSA8,true),(qSA4,false),(qSA3,false)],some [(qSA0,.num 0)]),
 ([(qSA15,false),(qSA11,true),(qSA9,true),(qSA12,true),(qSA6,true),(qSA5,true),(qSA14,true),(qSA10,true),(qSA8,true),(qSA4,false),(qSA3,false)],some [(qSA0,.num 1)]),
 ([(qSA11,false),(qSA9,true),(qSA12,true),(qSA6,true),(qSA5,true),(qSA14,true),(qSA10,true),(qSA8,true),(qSA4,false),(qSA3,false)],some [(qSA0,.num 1)]),
 ([(qSA9,false),(qSA12,true),(qSA6,true),(qSA5,true),(qSA14,true),(qSA10,true),(qSA8,true),(qSA4,false),(qSA3,false)],some [(qSA0,.num 1)]),
 ([(qSA12,false),(qSA6,true),(qSA5,true),(qSA14,true),(qSA10,true),(qSA8,true),(qSA4,false),(qSA3,false)],some [(qSA0,.num 1)]),
 ([(qSA6,false),(qSA5,true),(qSA14,true),(qSA10,true),(qSA8,true),(qSA4,false),(qSA3,false)],some [(qSA0,.num 1)]),
 ([(qSA5,false),(qSA14,true),(qSA10,true),(qSA8,true),(qSA4,false),(qSA3,false)],some [(qSA0,.num 1)]),
 ([(qSA14,false),(qSA10,true),(qSA8,true),(qSA4,false),(qSA3,false)],some [(qSA0,.num 1)]),
 ([(qSA10,false),(qSA8,true),(qSA4,false),(qSA3,false)],some [(qSA0,.num 1)]),
 ([(qSA8,false),(qSA4,false),(qSA3,false)],some [(qSA0,.num 1)])]
theorem cSl_w (r : Rho) : cSl_con.fn.ways cSl_call E0 r cSl_con.pre cSl_t = some cSl_l:=by kernel_rfl
set_option maxHeartbeats 4000000 in
theorem cSl_cok : cSl_con.Ok Tryz.prog sy:=by
 intro r σ w us hsy hρ hpre hrel hins
 obtain ⟨u0,us,rfl,g0,hins⟩:=ins_cons hins
 obtain ⟨p,kp,rfl,hp⟩:=sal_agg g0
 rw [hρ] at hp
 have a0:=hp.h0
 have a1:=hp.h1
 have a2:=hp.h2
 have a3:=hp.h3
 have a4:=hp.h4
 have a5:=hp.h5
 have a6:=hp.h6
 have a7:=hp.h7
 have a8:=hp.h8
 simp only [Nat.zero_add,Nat.reduceAdd] at a0 a1 a2 a3 a4 a5 a6 a7 a8
 refine con_of (E:=E0) E0_ok E0_glob (sy:=sy) (fun F => LW_ok F hsy) (fun F => noH_ok) (cSl_w r) hρ hpre hrel hins ?_ ?_
 ·simp only [cSl_con,cSl_t,qSA16,qSA15,qSA14,qSA13,qSA12,qSA11,qSA10,qSA9,qSA8,qSA7,qSA6,qSA5,qSA4,qSA3,qSA2,qSA1,qSA0,AsksL,GTree.asks,FTree.asks,FactsIn,List.append_nil,List.nil_append,List.cons_append,Option.some.injEq,exists_eq',implies_true,and_self,X.bool,X.den,denL,dX,denSub,denIte,asB,dY,a0,a1,a2,a3,a4,a5,a6,a7,a8,hsy,sym10,sym131]
 ·simp only [cSl_l,qSA16,qSA15,qSA14,qSA13,qSA12,qSA11,qSA10,qSA9,qSA8,qSA7,qSA6,qSA5,qSA4,qSA3,qSA2,qSA1,qSA0,EndsOk,WaysOk,forall_cons,forall_nil,TgtOk,gpair,FactsIn,hold_cons,hold_nil,Option.some.injEq,dZ,X.bool,X.den,denL,dX,denSub,denIte,asB,dY,beq_iff_eq,beq_eq_false_iff_ne,ne_eq,a0,a1,a2,a3,a4,a5,a6,a7,a8,hsy,sym10,sym131]
  have bz : ∀ a : Int,(a == 0) = decide (a = 0):=fun a => by rw [Bool.eq_iff_iff]; simp
  simp only [saleB,bz]
  clear bz
  clear hsy hρ hpre hrel hins g0 hp a0 a1 a2 a3 a4 a5 a6 a7 a8
  (repeat' apply And.intro) <;> intros <;> first
    | trivial
    | (exfalso; simp_all; done)
    | (simp_all; done)
    | (symm; simp_all; done)
    | (simp_all; omega)
end Go.Proofs.YtckefonlahokkaaGreatDoor.Zs
