/-
  The law AwardTouched: its loop over three hours, where something is touched.
-/
import Derived.Test.YtfddkbbjnghefaaGreatDoorToLawP
import Derived.KernelRfl
set_option linter.unusedSimpArgs false
set_option maxHeartbeats 8000000
set_option linter.unusedVariables false
namespace Go.Proofs.YtfddkbbjnghefaaGreatDoor.Zs
open Go
abbrev qTQ0 : X:=.snoc (.var 1) [.op1 (.kind .i64) (.var 3),.op1 (.kind .i64) (.var 4),.op1 (.kind .i64) (.var 5),.var 6,.op1 (.kind .i64) (.var 7),.op1 (.kind .i64) (.var 8),.op1 (.kind .i64) (.var 9),.op1 (.kind .i64) (.var 10),.op1 (.kind .i64) (.var 11)]
abbrev qTQ1 : X:=.app 211 [.var 1,qTQ0,.var 12,.var 4]
abbrev qTQ2 : X:=.app 212 [.var 1,qTQ0,.var 12,.var 4]
abbrev qTQ3 : X:=.snoc (.var 1) [.op1 (.kind .i64) (.var 3),.op1 (.kind .i64) (.var 4),.op1 (.kind .i64) (.var 5),.var 6,.op1 (.kind .i64) (.var 7),.op1 (.kind .i64) (.var 8),.op1 (.kind .i64) (.var 9),.op1 (.kind .i64) (.var 10),.op1 (.kind .i64) (.var 11)]
abbrev qTQ4 : X:=.app 213 [.var 1,qTQ0,.var 12,.var 4]
abbrev qTQ5 : X:=.op2 .eq (.app 200 [.var 1]) (.num 0)
abbrev qTQ6 : X:=.op2 .eq (.app 200 [qTQ0]) (.num 0)
abbrev qTQ7 : X:=.op2 .eq (.app 205 [.var 1,.var 12,.var 13,.var 4,.num 0]) (.app 205 [qTQ0,.var 12,.var 13,.var 4,.num 0])
abbrev qTQ8 : X:=.app 204 [.var 1,.var 12,.var 13,.var 4]
abbrev qTQ9 : X:=.app 204 [qTQ0,.var 12,.var 13,.var 4]
abbrev qTQ10 : X:=.op2 .eq (.app 205 [.var 1,.var 12,.var 13,.var 4,.num 1]) (.app 205 [qTQ0,.var 12,.var 13,.var 4,.num 1])
abbrev qTQ11 : X:=.app 202 [.var 1]
abbrev qTQ12 : X:=.op2 .eq (.app 205 [.var 1,.var 12,.var 13,.var 4,.num 2]) (.app 205 [qTQ0,.var 12,.var 13,.var 4,.num 2])
abbrev qTQ13 : X:=.op2 .eqs (.app 205 [.var 1,.var 12,.var 13,.var 4,.num 3]) (.app 205 [qTQ0,.var 12,.var 13,.var 4,.num 3])
abbrev Zc : X:=.op2 .eq (.var 11) (.num 0)
abbrev qTQ15 : X:=.op2 .eq (.app 205 [.var 1,.var 12,.var 13,.var 4,.num 4]) (.app 205 [qTQ0,.var 12,.var 13,.var 4,.num 4])
abbrev qTQ16 : X:=.op2 .lt (.num 1000000) (.var 13)
abbrev qTQ17 : X:=.app 202 [qTQ0]
abbrev qTQ18 : X:=.app 204 [.var 1,.var 12,qTQ1,.var 4]
abbrev qTQ19 : X:=.app 204 [.var 1,.var 12,qTQ2,.var 4]
abbrev qTQ20 : X:=.app 204 [qTQ0,.var 12,qTQ1,.var 4]
abbrev qTQ21 : X:=.app 204 [qTQ0,.var 12,qTQ2,.var 4]
abbrev qTQ22 : X:=.op2 .eq (.app 205 [.var 1,.var 12,.var 13,.var 4,.num 5]) (.app 205 [qTQ0,.var 12,.var 13,.var 4,.num 5])
abbrev qTQ23 : X:=.op2 .lt (.var 13) (.num 0)
abbrev qTQ24 : X:=.op2 .eq (.app 205 [.var 1,.var 12,qTQ1,.var 4,.num 0]) (.app 205 [qTQ0,.var 12,qTQ1,.var 4,.num 0])
abbrev qTQ25 : X:=.op2 .eq (.app 205 [.var 1,.var 12,qTQ2,.var 4,.num 0]) (.app 205 [qTQ0,.var 12,qTQ2,.var 4,.num 0])
abbrev qTQ26 : X:=.op2 .eq (.app 205 [.var 1,.var 12,.var 13,.var 4,.num 6]) (.app 205 [qTQ0,.var 12,.var 13,.var 4,.num 6])
abbrev qTQ27 : X:=.op2 .eq (.app 205 [.var 1,.var 12,.var 13,.var 4,.num 7]) (.app 205 [qTQ0,.var 12,.var 13,.var 4,.num 7])
abbrev qTQ28 : X:=.op2 .lt (.num 1000000) qTQ1
abbrev qTQ29 : X:=.op2 .lt (.num 1000000) qTQ2
abbrev qTQ30 : X:=.op2 .lt qTQ2 qTQ1
abbrev qTQ31 : X:=.op2 .eq (.app 205 [.var 1,.var 12,.var 13,.var 4,.num 0]) (.num 0)
abbrev qTQ32 : X:=.op2 .eq (.num 0) (.app 205 [qTQ0,.var 12,.var 13,.var 4,.num 0])
abbrev qTQ33 : X:=.op2 .eq (.app 205 [.var 1,.var 12,qTQ1,.var 4,.num 0]) (.num 0)
abbrev qTQ34 : X:=.op2 .eq (.app 205 [.var 1,.var 12,qTQ2,.var 4,.num 0]) (.num 0)
abbrev qTQ35 : X:=.op2 .eq (.num 0) (.app 205 [qTQ0,.var 12,qTQ1,.var 4,.num 0])
abbrev qTQ36 : X:=.op2 .eq (.num 0) (.app 205 [qTQ0,.var 12,qTQ2,.var 4,.num 0])
abbrev qTQ37 : X:=.op2 .lt qTQ1 (.num 0)
abbrev qTQ38 : X:=.op2 .lt qTQ2 (.num 0)
abbrev qTQ39 : X:=.op2 .eq (.app 205 [.var 1,.var 12,.var 13,.var 4,.num 8]) (.app 205 [qTQ0,.var 12,.var 13,.var 4,.num 8])
abbrev qTQ40 : X:=.op2 .lt (.var 13) qTQ1
abbrev qTQ41 : X:=.op2 .lt qTQ2 (.var 13)
abbrev qTQ42 : X:=.op2 .lt qTQ1 qTQ1
abbrev qTQ43 : X:=.op2 .lt qTQ2 qTQ2
abbrev qTQ44 : X:=.op2 .lt (.var 13) (.var 5)
abbrev qTQ45 : X:=.op2 .lt qTQ1 (.var 5)
abbrev qTQ46 : X:=.op2 .lt qTQ2 (.var 5)
abbrev qTQ47 : X:=.app 211 [.var 1,qTQ3,.var 12,.var 4]
abbrev qTQ48 : X:=.app 212 [.var 1,qTQ3,.var 12,.var 4]
abbrev qTQ49 : X:=.app 213 [.var 1,qTQ3,.var 12,.var 4]
abbrev qTQ50 : X:=.op2 .eq (.app 200 [.var 1]) (.num 0)
abbrev qTQ51 : X:=.op2 .eq (.app 200 [qTQ3]) (.num 0)
abbrev qTQ52 : X:=.op1 .len (.var 1)
abbrev qTQ53 : X:=.op2 .add qTQ52 (.num 1)
abbrev qTQf0 : List (X×Bool):=[(qTQ11,true),(qTQ17,true),(qTQ5,true),(qTQ6,true),(qTQ4,true)]
abbrev qTQf1 : List (X×Bool):=(qTQ8,true) :: (qTQ16,false) :: (qTQ23,false) :: qTQf0
abbrev qTQf2 : List (X×Bool):=(qTQ28,false) :: (qTQ37,false) :: qTQf0
abbrev qTQf3 : List (X×Bool):=(qTQ29,false) :: (qTQ38,false) :: qTQf0
abbrev qTQf16 : List (X×Bool):=(qTQ10,true) :: (qTQ7,true) :: (qTQ9,true) :: qTQf1
abbrev qTQf4 : List (X×Bool):=(qTQ15,true) :: (qTQ13,true) :: (qTQ12,true) :: qTQf16
abbrev qTQf5 : List (X×Bool):=(qTQ8,false) :: (qTQ16,false) :: (qTQ23,false) :: qTQf0
abbrev qTQf6 : List (X×Bool):=[(.app 202 [.var 1],true),(.app 202 [qTQ3],true),(qTQ50,true),(qTQ51,true),(qTQ49,true)]
abbrev qTQf7 : List (X×Bool):=(qTQ42,false) :: (qTQ33,false) :: (qTQ20,false) :: (qTQ18,true) :: qTQf2
abbrev qTQf8 : List (X×Bool):=(qTQ42,false) :: (qTQ35,false) :: (qTQ20,true) :: (qTQ18,false) :: qTQf2
abbrev qTQf9 : List (X×Bool):=(qTQ30,false) :: (qTQ34,false) :: (qTQ21,false) :: (qTQ19,true) :: qTQf3
abbrev qTQf10 : List (X×Bool):=(qTQ30,false) :: (qTQ36,false) :: (qTQ21,true) :: (qTQ19,false) :: qTQf3
abbrev qTQf11 : List (X×Bool):=(qTQ42,false) :: (qTQ24,false) :: (qTQ20,true) :: (qTQ18,true) :: qTQf2
abbrev qTQf12 : List (X×Bool):=(qTQ30,false) :: (qTQ25,false) :: (qTQ21,true) :: (qTQ19,true) :: qTQf3
abbrev qTQf13 : List (X×Bool):=(qTQ40,false) :: (qTQ31,false) :: (qTQ9,false) :: qTQf1
abbrev qTQf14 : List (X×Bool):=(qTQ40,false) :: (qTQ32,false) :: (qTQ9,true) :: qTQf5
abbrev qTQf15 : List (X×Bool):=(qTQ40,false) :: (qTQ7,false) :: (qTQ9,true) :: qTQf1
abbrev qTQf17 : List (X×Bool):=(qTQ27,true) :: (qTQ26,true) :: (qTQ22,true) :: qTQf4
noncomputable def Zf : LoopD:={ N:=110,M:=121,size:=sizeOfF 5,reads:=[(60,.rows 9 ratSch (.var 0) (.var 1) false 26),(101,.rows 9 ratSch (.num 0) qTQ3 true 26),(100,.cells [.sint .i64 (.var 3),.sint .i64 (.var 4),.sint .i64 (.var 5),.sstr (.var 6),.sint .i64 (.var 7),.sint .i64 (.var 8),.sint .i64 (.var 9),.sint .i64 (.var 10),.sint .i64 (.var 11)] 26),(102,.cells [.sint .i64 (.var 13),.sint .i64 qTQ47,.sint .i64 qTQ48] 3)],pats:=[{ slots:=[(0,.slx 60 9 (.var 0) (.num 0) qTQ52 (.var 2)),(2,.sstr (.var 12)),(3,.sint .i64 (.var 13)),(5,.ptr 100 0),(9,.slo 101 9 qTQ53),(11,.sint .i64 qTQ47),(12,.sint .i64 qTQ48),(13,.bool true),(15,.slice 102 0 3 3 true),(16,.int .i64 0)],heap:=[] },{ slots:=[(0,.slx 60 9 (.var 0) (.num 0) qTQ52 (.var 2)),(2,.sstr (.var 12)),(3,.sint .i64 (.var 13)),(5,.ptr 100 0),(9,.slo 101 9 qTQ53),(11,.sint .i64 qTQ47),(12,.sint .i64 qTQ48),(13,.bool true),(15,.slice 102 0 3 3 true),(16,.int .i64 1)],heap:=[] },{ slots:=[(0,.slx 60 9 (.var 0) (.num 0) qTQ52 (.var 2)),(2,.sstr (.var 12)),(3,.sint .i64 (.var 13)),(5,.ptr 100 0),(9,.slo 101 9 qTQ53),(11,.sint .i64 qTQ47),(12,.sint .i64 qTQ48),(13,.bool true),(15,.slice 102 0 3 3 true),(16,.int .i64 2)],heap:=[] },{ slots:=[(0,.slx 60 9 (.var 0) (.num 0) qTQ52 (.var 2)),(2,.sstr (.var 12)),(3,.sint .i64 (.var 13)),(5,.ptr 100 0),(9,.slo 101 9 qTQ53),(11,.sint .i64 qTQ47),(12,.sint .i64 qTQ48),(13,.bool true),(15,.slice 102 0 3 3 true),(16,.int .i64 3)],heap:=[] }],exits:=[(.exit 0,{ slots:=[(0,.slx 60 9 (.var 0) (.num 0) qTQ52 (.var 2)),(2,.sstr (.var 12)),(3,.sint .i64 (.var 13)),(5,.ptr 100 0)],heap:=[] }),(.ret,{ slots:=[(8,.bool false)],heap:=[],guard:=.boo false })],own:=[],pre:=[(.app 202 [.var 1],true),(.app 202 [qTQ3],true),(qTQ50,true),(qTQ51,true),(qTQ49,true)],dfs:=[] }
noncomputable def lNy_run : Env→AF→ASt→Option (List Out):=bodyRun WTR 9 (fun _ => noLoop) (yA Tryz.prog 5 0)
def lNy0_F : List (X×Bool):=qTQf6
def lNy1_F : List (X×Bool):=qTQf6
def lNy2_F : List (X×Bool):=qTQf6
def lNy3_F : List (X×Bool):=qTQf6
noncomputable def lNy0_t : FTree:=(.fork qTQ23 (.leaf [.again 1 []]) (.fork qTQ16 (.leaf [.again 1 []]) (.fork qTQ8 (.fork qTQ9 (.fork qTQ7 (.fork qTQ10 (.fork qTQ12 (.fork qTQ13 (.fork qTQ15 (.fork qTQ22 (.fork qTQ26 (.fork qTQ27 (.fork qTQ39 (.fork Zc (.leaf [.again 1 []]) (.leaf [.again 1 []])) .bad) .bad) .bad) .bad) .bad) .bad) .bad) .bad) (.fork qTQ40 .bad (.fork qTQ41 .bad (.fork Zc (.fork qTQ44 .bad (.leaf [.again 1 []])) (.leaf [.again 1 []]))))) (.fork qTQ31 .bad (.fork qTQ40 .bad (.fork qTQ41 .bad (.fork Zc (.fork qTQ44 .bad (.leaf [.again 1 []])) (.leaf [.again 1 []])))))) (.fork qTQ9 (.fork qTQ32 .bad (.fork qTQ40 .bad (.fork qTQ41 .bad (.fork Zc (.fork qTQ44 .bad (.leaf [.again 1 []])) (.leaf [.again 1 []]))))) (.fork Zc (.leaf [.again 1 []]) (.leaf [.again 1 []]))))))
noncomputable def lNy0_l : List (List (X×Bool)×Option (List (Tgt×zp))):=[((qTQ23,true) :: qTQf0,some [(.again 1 [],[])]),
 ((qTQ16,true) :: (qTQ23,false) :: qTQf0,some [(.again 1 [],[])]),
 ((Zc,true) :: (qTQ39,true) :: qTQf17,some [(.again 1 [],[])]),
 ((Zc,false) :: (qTQ39,true) :: qTQf17,some [(.again 1 [],[])]),
 ((qTQ39,false) :: qTQf17,none),
 ((qTQ27,false) :: (qTQ26,true) :: (qTQ22,true) :: qTQf4,none),
 ((qTQ26,false) :: (qTQ22,true) :: qTQf4,none),
 ((qTQ22,false) :: qTQf4,none),
 ((qTQ15,false) :: (qTQ13,true) :: (qTQ12,true) :: qTQf16,none),
 ((qTQ13,false) :: (qTQ12,true) :: qTQf16,none),
 ((qTQ12,false) :: qTQf16,none),
 ((qTQ10,false) :: (qTQ7,true) :: (qTQ9,true) :: qTQf1,none),
 ((qTQ40,true) :: (qTQ7,false) :: (qTQ9,true) :: qTQf1,none),
 ((qTQ41,true) :: qTQf15,none),
 ((qTQ44,true) :: (Zc,true) :: (qTQ41,false) :: qTQf15,none),
 ((qTQ44,false) :: (Zc,true) :: (qTQ41,false) :: qTQf15,some [(.again 1 [],[])]),
 ((Zc,false) :: (qTQ41,false) :: qTQf15,some [(.again 1 [],[])]),
 ((qTQ31,true) :: (qTQ9,false) :: qTQf1,none),
 ((qTQ40,true) :: (qTQ31,false) :: (qTQ9,false) :: qTQf1,none),
 ((qTQ41,true) :: qTQf13,none),
 ((qTQ44,true) :: (Zc,true) :: (qTQ41,false) :: qTQf13,none),
 ((qTQ44,false) :: (Zc,true) :: (qTQ41,false) :: qTQf13,some [(.again 1 [],[])]),
 ((Zc,false) :: (qTQ41,false) :: qTQf13,some [(.again 1 [],[])]),
 ((qTQ32,true) :: (qTQ9,true) :: qTQf5,none),
 ((qTQ40,true) :: (qTQ32,false) :: (qTQ9,true) :: qTQf5,none),
 ((qTQ41,true) :: qTQf14,none),
 ((qTQ44,true) :: (Zc,true) :: (qTQ41,false) :: qTQf14,none),
 ((qTQ44,false) :: (Zc,true) :: (qTQ41,false) :: qTQf14,some [(.again 1 [],[])]),
 ((Zc,false) :: (qTQ41,false) :: qTQf14,some [(.again 1 [],[])]),
 ((Zc,true) :: (qTQ9,false) :: qTQf5,some [(.again 1 [],[])]),
 ((Zc,false) :: (qTQ9,false) :: qTQf5,some [(.again 1 [],[])])]
theorem lNy0_w (r : Rho) : Zf.ways lNy_run E1 r 0 lNy0_F lNy0_t = some lNy0_l:=by kernel_rfl
noncomputable def lNy1_t : FTree:=(.fork qTQ37 .bad (.fork qTQ28 .bad (.fork qTQ18 (.fork qTQ20 (.fork qTQ24 .bad (.fork qTQ42 .bad (.fork qTQ30 .bad (.fork Zc (.fork qTQ45 .bad (.leaf [.again 2 []])) (.leaf [.again 2 []]))))) (.fork qTQ33 .bad (.fork qTQ42 .bad (.fork qTQ30 .bad (.fork Zc (.fork qTQ45 .bad (.leaf [.again 2 []])) (.leaf [.again 2 []])))))) (.fork qTQ20 (.fork qTQ35 .bad (.fork qTQ42 .bad (.fork qTQ30 .bad (.fork Zc (.fork qTQ45 .bad (.leaf [.again 2 []])) (.leaf [.again 2 []]))))) (.leaf [.leave 1 []])))))
noncomputable def lNy1_l : List (List (X×Bool)×Option (List (Tgt×zp))):=[((qTQ37,true) :: qTQf0,none),
 ((qTQ28,true) :: (qTQ37,false) :: qTQf0,none),
 ((qTQ24,true) :: (qTQ20,true) :: (qTQ18,true) :: qTQf2,none),
 ((qTQ42,true) :: (qTQ24,false) :: (qTQ20,true) :: (qTQ18,true) :: qTQf2,none),
 ((qTQ30,true) :: qTQf11,none),
 ((qTQ45,true) :: (Zc,true) :: (qTQ30,false) :: qTQf11,none),
 ((qTQ45,false) :: (Zc,true) :: (qTQ30,false) :: qTQf11,some [(.again 2 [],[])]),
 ((Zc,false) :: (qTQ30,false) :: qTQf11,some [(.again 2 [],[])]),
 ((qTQ33,true) :: (qTQ20,false) :: (qTQ18,true) :: qTQf2,none),
 ((qTQ42,true) :: (qTQ33,false) :: (qTQ20,false) :: (qTQ18,true) :: qTQf2,none),
 ((qTQ30,true) :: qTQf7,none),
 ((qTQ45,true) :: (Zc,true) :: (qTQ30,false) :: qTQf7,none),
 ((qTQ45,false) :: (Zc,true) :: (qTQ30,false) :: qTQf7,some [(.again 2 [],[])]),
 ((Zc,false) :: (qTQ30,false) :: qTQf7,some [(.again 2 [],[])]),
 ((qTQ35,true) :: (qTQ20,true) :: (qTQ18,false) :: qTQf2,none),
 ((qTQ42,true) :: (qTQ35,false) :: (qTQ20,true) :: (qTQ18,false) :: qTQf2,none),
 ((qTQ30,true) :: qTQf8,none),
 ((qTQ45,true) :: (Zc,true) :: (qTQ30,false) :: qTQf8,none),
 ((qTQ45,false) :: (Zc,true) :: (qTQ30,false) :: qTQf8,some [(.again 2 [],[])]),
 ((Zc,false) :: (qTQ30,false) :: qTQf8,some [(.again 2 [],[])]),
 ((qTQ20,false) :: (qTQ18,false) :: qTQf2,some [(.leave 1 [],[(.boo false,.boo true)])])]
theorem lNy1_w (r : Rho) : Zf.ways lNy_run E1 r 1 lNy1_F lNy1_t = some lNy1_l:=by kernel_rfl
noncomputable def lNy2_t : FTree:=(.fork qTQ38 .bad (.fork qTQ29 .bad (.fork qTQ19 (.fork qTQ21 (.fork qTQ25 .bad (.fork qTQ30 .bad (.fork qTQ43 .bad (.fork Zc (.fork qTQ46 .bad (.leaf [.again 3 []])) (.leaf [.again 3 []]))))) (.fork qTQ34 .bad (.fork qTQ30 .bad (.fork qTQ43 .bad (.fork Zc (.fork qTQ46 .bad (.leaf [.again 3 []])) (.leaf [.again 3 []])))))) (.fork qTQ21 (.fork qTQ36 .bad (.fork qTQ30 .bad (.fork qTQ43 .bad (.fork Zc (.fork qTQ46 .bad (.leaf [.again 3 []])) (.leaf [.again 3 []]))))) (.leaf [.leave 1 []])))))
noncomputable def lNy2_l : List (List (X×Bool)×Option (List (Tgt×zp))):=[((qTQ38,true) :: qTQf0,none),
 ((qTQ29,true) :: (qTQ38,false) :: qTQf0,none),
 ((qTQ25,true) :: (qTQ21,true) :: (qTQ19,true) :: qTQf3,none),
 ((qTQ30,true) :: (qTQ25,false) :: (qTQ21,true) :: (qTQ19,true) :: qTQf3,none),
 ((qTQ43,true) :: qTQf12,none),
 ((qTQ46,true) :: (Zc,true) :: (qTQ43,false) :: qTQf12,none),
 ((qTQ46,false) :: (Zc,true) :: (qTQ43,false) :: qTQf12,some [(.again 3 [],[])]),
 ((Zc,false) :: (qTQ43,false) :: qTQf12,some [(.again 3 [],[])]),
 ((qTQ34,true) :: (qTQ21,false) :: (qTQ19,true) :: qTQf3,none),
 ((qTQ30,true) :: (qTQ34,false) :: (qTQ21,false) :: (qTQ19,true) :: qTQf3,none),
 ((qTQ43,true) :: qTQf9,none),
 ((qTQ46,true) :: (Zc,true) :: (qTQ43,false) :: qTQf9,none),
 ((qTQ46,false) :: (Zc,true) :: (qTQ43,false) :: qTQf9,some [(.again 3 [],[])]),
 ((Zc,false) :: (qTQ43,false) :: qTQf9,some [(.again 3 [],[])]),
 ((qTQ36,true) :: (qTQ21,true) :: (qTQ19,false) :: qTQf3,none),
 ((qTQ30,true) :: (qTQ36,false) :: (qTQ21,true) :: (qTQ19,false) :: qTQf3,none),
 ((qTQ43,true) :: qTQf10,none),
 ((qTQ46,true) :: (Zc,true) :: (qTQ43,false) :: qTQf10,none),
 ((qTQ46,false) :: (Zc,true) :: (qTQ43,false) :: qTQf10,some [(.again 3 [],[])]),
 ((Zc,false) :: (qTQ43,false) :: qTQf10,some [(.again 3 [],[])]),
 ((qTQ21,false) :: (qTQ19,false) :: qTQf3,some [(.leave 1 [],[(.boo false,.boo true)])])]
theorem lNy2_w (r : Rho) : Zf.ways lNy_run E1 r 2 lNy2_F lNy2_t = some lNy2_l:=by kernel_rfl
noncomputable def lNy3_t : FTree:=(.leaf [.leave 0 []])
noncomputable def lNy3_l : List (List (X×Bool)×Option (List (Tgt×zp))):=[(qTQf0,some [(.leave 0 [],[])])]
theorem lNy3_w (r : Rho) : Zf.ways lNy_run E1 r 3 lNy3_F lNy3_t = some lNy3_l:=by kernel_rfl
theorem lNy_ok : Zf.ok = true:=by kernel_rfl
def lNy_Inv (j : Nat) (vals : List Value) : Prop:=j≤3∧vals = []
def lNy_mu (j : Nat) (_ : List Value) : Nat:=3 - j
theorem lNy_step0 {ρ : Rho} {l : List Rat9} {x : Rat9} {kx : Nat→IntKind} {g : ByteArray} {hr : Int} {k13 : IntKind} (h1 : ρ.val 1 = some (ratsR l)) (hx : Rat9At ρ 3 kx x) (h12 : ρ.val 12 = some (.string g)) (h13 : ρ.val 13 = some (.int k13 hr)) (hsy : ρ.sym = sy) (hsh : okR9 l = true) (hok : okR9 (l ++ [x]) = true) (hc1 : chkER l = 0) (hc2 : chkER (l ++ [x]) = 0) (ht : (tch l (l ++ [x]) g x.known).is = true) : yn Zf lNy_run E1 ρ lNy_Inv lNy_mu 0 []:=by
 have hN : Zf.N = 110:=rfl
 have hxx : (⟨x.id,x.known,x.from_,x.goods,x.num,x.den,x.cart,x.store,x.of_⟩ : Rat9) = x:=rfl
 have xl {jq vq}:=@xL ρ Zf.N 110 [] jq vq hN
 have xh {jq vq}:=@xH ρ Zf.N 110 [] jq vq hN
 have v1:=xl (jq:=1) h1 (by decide)
 have v3:=xl (jq:=3) hx.h0 (by decide)
 have v4:=xl (jq:=4) hx.h1 (by decide)
 have v5:=xl (jq:=5) hx.h2 (by decide)
 have v6:=xl (jq:=6) hx.h3 (by decide)
 have v7:=xl (jq:=7) hx.h4 (by decide)
 have v8:=xl (jq:=8) hx.h5 (by decide)
 have v9:=xl (jq:=9) hx.h6 (by decide)
 have v10:=xl (jq:=10) hx.h7 (by decide)
 have v11:=xl (jq:=11) hx.h8 (by decide)
 have v12:=xl (jq:=12) h12 (by decide)
 have v13:=xl (jq:=13) h13 (by decide)
 have vs : (ρ.ext Zf.N []).sym = sy:=hsy
 have hF : zf (ρ.ext Zf.N []) lNy0_F:=by
  simp only [lNy0_F,zf,gB,zd,gW,zm,v1,v3,v4,v5,v6,v7,v8,v9,v10,v11,v12,v13,vs,hxx,ze,zi,zq,hsh,hok,hc1,hc2,ht,beq_self_eq_true,and_true,true_and]
 suffices both : y9 (ρ.ext Zf.N []) (lNy0_t.asks lNy0_F)∧zD Zf ρ lNy_Inv lNy_mu 0 [] lNy0_l from zC (lNy0_w _) hF both.1.ok both.2
 have go : ∃ vals',lNy_Inv 1 vals'∧lNy_mu 1 vals' < lNy_mu 0 []:=⟨[],⟨by omega,rfl⟩,by simp [lNy_mu]⟩
 obtain ⟨t1,t2⟩:=touch_says hc2 g x.known
 obtain ⟨a1,a2,a3,a4,a5,a6,a7⟩:=t2 ht
 have bs : x.of_ = 0→hr < x.from_→inF (l ++ [x]) g hr x.known = inF l g hr x.known:=fun a b => before_says a g b
 have hlm : idAt l g hr x.known = idAt (l ++ [x]) g hr x.known→inF l g hr x.known = inF (l ++ [x]) g hr x.known:=inF_same hc2 hc1 (fun y hy => List.mem_append_left _ hy)
 cases pin : inF l g hr x.known with
 | none =>
   have idl : idAt l g hr x.known = 0:=by unfold idAt; rw [pin]; rfl
   have p0 : za l g hr x.known 0 = some (.int .i64 0):=by unfold za; rw [pin]; rfl
   have p1 : za l g hr x.known 1 = some (.int .i64 0):=by unfold za; rw [pin]; rfl
   have p2 : za l g hr x.known 2 = some (.int .i64 0):=by unfold za; rw [pin]; rfl
   have p3 : za l g hr x.known 3 = some (.string (z7 [])):=by unfold za; rw [pin]; rfl
   have p4 : za l g hr x.known 4 = some (.int .i64 0):=by unfold za; rw [pin]; rfl
   have p5 : za l g hr x.known 5 = some (.int .i64 0):=by unfold za; rw [pin]; rfl
   have p6 : za l g hr x.known 6 = some (.int .i64 0):=by unfold za; rw [pin]; rfl
   have p7 : za l g hr x.known 7 = some (.int .i64 0):=by unfold za; rw [pin]; rfl
   have p8 : za l g hr x.known 8 = some (.int .i64 0):=by unfold za; rw [pin]; rfl
   cases qin : inF (l ++ [x]) g hr x.known with
   | none =>
     have idm : idAt (l ++ [x]) g hr x.known = 0:=by unfold idAt; rw [qin]; rfl
     have q0 : za (l ++ [x]) g hr x.known 0 = some (.int .i64 0):=by unfold za; rw [qin]; rfl
     have q1 : za (l ++ [x]) g hr x.known 1 = some (.int .i64 0):=by unfold za; rw [qin]; rfl
     have q2 : za (l ++ [x]) g hr x.known 2 = some (.int .i64 0):=by unfold za; rw [qin]; rfl
     have q3 : za (l ++ [x]) g hr x.known 3 = some (.string (z7 [])):=by unfold za; rw [qin]; rfl
     have q4 : za (l ++ [x]) g hr x.known 4 = some (.int .i64 0):=by unfold za; rw [qin]; rfl
     have q5 : za (l ++ [x]) g hr x.known 5 = some (.int .i64 0):=by unfold za; rw [qin]; rfl
     have q6 : za (l ++ [x]) g hr x.known 6 = some (.int .i64 0):=by unfold za; rw [qin]; rfl
     have q7 : za (l ++ [x]) g hr x.known 7 = some (.int .i64 0):=by unfold za; rw [qin]; rfl
     have q8 : za (l ++ [x]) g hr x.known 8 = some (.int .i64 0):=by unfold za; rw [qin]; rfl
     refine ⟨?_,?_⟩
     all_goals (simp only [lNy0_t,lNy0_F,lNy0_l,gA,gB,zd,gW,zm,zR,zD,zh,zk,yw,yy,zr,zE,dZ,g3,v1,v3,v4,v5,v6,v7,v8,v9,v10,v11,v12,v13,vs,h1,h12,h13,hsy,hxx,zi,ze,zF,zl,zx,zw,zq,hsh,hok,hc1,hc2,ht,pin,qin,Option.isSome_none,Option.isSome_some,p0,p1,p2,p3,p4,p5,p6,p7,p8,q0,q1,q2,q3,q4,q5,q6,q7,q8,zX,reduceCtorEq,Bool.false_eq_true,false_implies,true_implies,and_true,true_and])
     all_goals (clear v1 v3 v4 v5 v6 v7 v8 v9 v10 v11 v12 v13 vs h1 hx h12 h13 hsy hF p0 p1 p2 p3 p4 p5 p6 p7 p8 q0 q1 q2 q3 q4 q5 q6 q7 q8)
     all_goals ((repeat' apply And.intro) <;> intros <;> first
      | trivial
      | contradiction
      | (exact go)
      | (exfalso; omega)
      | (exfalso; have:=d1 (by omega); omega)
      | (exfalso; exact d3 (by assumption) (by assumption))
      | (simp_all; done))
   | some z =>
     have idm : idAt (l ++ [x]) g hr x.known = z.id:=by unfold idAt; rw [qin]; rfl
     have hz:=y7 hc2 qin
     have q0 : za (l ++ [x]) g hr x.known 0 = some (.int .i64 z.id):=by unfold za; rw [qin]; rfl
     have q1 : za (l ++ [x]) g hr x.known 1 = some (.int .i64 z.known):=by unfold za; rw [qin]; rfl
     have q2 : za (l ++ [x]) g hr x.known 2 = some (.int .i64 z.from_):=by unfold za; rw [qin]; rfl
     have q3 : za (l ++ [x]) g hr x.known 3 = some (.string z.goods):=by unfold za; rw [qin]; rfl
     have q4 : za (l ++ [x]) g hr x.known 4 = some (.int .i64 z.num):=by unfold za; rw [qin]; rfl
     have q5 : za (l ++ [x]) g hr x.known 5 = some (.int .i64 z.den):=by unfold za; rw [qin]; rfl
     have q6 : za (l ++ [x]) g hr x.known 6 = some (.int .i64 z.cart):=by unfold za; rw [qin]; rfl
     have q7 : za (l ++ [x]) g hr x.known 7 = some (.int .i64 z.store):=by unfold za; rw [qin]; rfl
     have q8 : za (l ++ [x]) g hr x.known 8 = some (.int .i64 z.of_):=by unfold za; rw [qin]; rfl
     have hd : idAt l g hr x.known≠idAt (l ++ [x]) g hr x.known:=by rw [idl,idm]; first | assumption | exact Ne.symm (by assumption)
     have d1 : hr≤1000000→¬ hr < (tch l (l ++ [x]) g x.known).from_∧¬ (tch l (l ++ [x]) g x.known).until_ < hr:=fun b => by have:=a7 hr b hd; omega
     have d3 : x.of_ = 0→¬ hr < x.from_:=fun a b => hd (by unfold idAt; rw [bs a b])
     refine ⟨?_,?_⟩
     all_goals (simp only [lNy0_t,lNy0_F,lNy0_l,gA,gB,zd,gW,zm,zR,zD,zh,zk,yw,yy,zr,zE,dZ,g3,v1,v3,v4,v5,v6,v7,v8,v9,v10,v11,v12,v13,vs,h1,h12,h13,hsy,hxx,zi,ze,zF,zl,zx,zw,zq,hsh,hok,hc1,hc2,ht,pin,qin,Option.isSome_none,Option.isSome_some,p0,p1,p2,p3,p4,p5,p6,p7,p8,q0,q1,q2,q3,q4,q5,q6,q7,q8,zX,reduceCtorEq,Bool.false_eq_true,false_implies,true_implies,and_true,true_and])
     all_goals (clear v1 v3 v4 v5 v6 v7 v8 v9 v10 v11 v12 v13 vs h1 hx h12 h13 hsy hF p0 p1 p2 p3 p4 p5 p6 p7 p8 q0 q1 q2 q3 q4 q5 q6 q7 q8)
     all_goals ((repeat' apply And.intro) <;> intros <;> first
      | trivial
      | contradiction
      | (exact go)
      | (exfalso; omega)
      | (exfalso; have:=d1 (by omega); omega)
      | (exfalso; exact d3 (by assumption) (by assumption))
      | (simp_all; done))
 | some y =>
   have idl : idAt l g hr x.known = y.id:=by unfold idAt; rw [pin]; rfl
   have hy:=y7 hc1 pin
   have p0 : za l g hr x.known 0 = some (.int .i64 y.id):=by unfold za; rw [pin]; rfl
   have p1 : za l g hr x.known 1 = some (.int .i64 y.known):=by unfold za; rw [pin]; rfl
   have p2 : za l g hr x.known 2 = some (.int .i64 y.from_):=by unfold za; rw [pin]; rfl
   have p3 : za l g hr x.known 3 = some (.string y.goods):=by unfold za; rw [pin]; rfl
   have p4 : za l g hr x.known 4 = some (.int .i64 y.num):=by unfold za; rw [pin]; rfl
   have p5 : za l g hr x.known 5 = some (.int .i64 y.den):=by unfold za; rw [pin]; rfl
   have p6 : za l g hr x.known 6 = some (.int .i64 y.cart):=by unfold za; rw [pin]; rfl
   have p7 : za l g hr x.known 7 = some (.int .i64 y.store):=by unfold za; rw [pin]; rfl
   have p8 : za l g hr x.known 8 = some (.int .i64 y.of_):=by unfold za; rw [pin]; rfl
   cases qin : inF (l ++ [x]) g hr x.known with
   | none =>
     have idm : idAt (l ++ [x]) g hr x.known = 0:=by unfold idAt; rw [qin]; rfl
     have q0 : za (l ++ [x]) g hr x.known 0 = some (.int .i64 0):=by unfold za; rw [qin]; rfl
     have q1 : za (l ++ [x]) g hr x.known 1 = some (.int .i64 0):=by unfold za; rw [qin]; rfl
     have q2 : za (l ++ [x]) g hr x.known 2 = some (.int .i64 0):=by unfold za; rw [qin]; rfl
     have q3 : za (l ++ [x]) g hr x.known 3 = some (.string (z7 [])):=by unfold za; rw [qin]; rfl
     have q4 : za (l ++ [x]) g hr x.known 4 = some (.int .i64 0):=by unfold za; rw [qin]; rfl
     have q5 : za (l ++ [x]) g hr x.known 5 = some (.int .i64 0):=by unfold za; rw [qin]; rfl
     have q6 : za (l ++ [x]) g hr x.known 6 = some (.int .i64 0):=by unfold za; rw [qin]; rfl
     have q7 : za (l ++ [x]) g hr x.known 7 = some (.int .i64 0):=by unfold za; rw [qin]; rfl
     have q8 : za (l ++ [x]) g hr x.known 8 = some (.int .i64 0):=by unfold za; rw [qin]; rfl
     have hd : idAt l g hr x.known≠idAt (l ++ [x]) g hr x.known:=by rw [idl,idm]; first | assumption | exact Ne.symm (by assumption)
     have d1 : hr≤1000000→¬ hr < (tch l (l ++ [x]) g x.known).from_∧¬ (tch l (l ++ [x]) g x.known).until_ < hr:=fun b => by have:=a7 hr b hd; omega
     have d3 : x.of_ = 0→¬ hr < x.from_:=fun a b => hd (by unfold idAt; rw [bs a b])
     refine ⟨?_,?_⟩
     all_goals (simp only [lNy0_t,lNy0_F,lNy0_l,gA,gB,zd,gW,zm,zR,zD,zh,zk,yw,yy,zr,zE,dZ,g3,v1,v3,v4,v5,v6,v7,v8,v9,v10,v11,v12,v13,vs,h1,h12,h13,hsy,hxx,zi,ze,zF,zl,zx,zw,zq,hsh,hok,hc1,hc2,ht,pin,qin,Option.isSome_none,Option.isSome_some,p0,p1,p2,p3,p4,p5,p6,p7,p8,q0,q1,q2,q3,q4,q5,q6,q7,q8,zX,reduceCtorEq,Bool.false_eq_true,false_implies,true_implies,and_true,true_and])
     all_goals (clear v1 v3 v4 v5 v6 v7 v8 v9 v10 v11 v12 v13 vs h1 hx h12 h13 hsy hF p0 p1 p2 p3 p4 p5 p6 p7 p8 q0 q1 q2 q3 q4 q5 q6 q7 q8)
     all_goals ((repeat' apply And.intro) <;> intros <;> first
      | trivial
      | contradiction
      | (exact go)
      | (exfalso; omega)
      | (exfalso; have:=d1 (by omega); omega)
      | (exfalso; exact d3 (by assumption) (by assumption))
      | (simp_all; done))
   | some z =>
     have idm : idAt (l ++ [x]) g hr x.known = z.id:=by unfold idAt; rw [qin]; rfl
     have hz:=y7 hc2 qin
     have q0 : za (l ++ [x]) g hr x.known 0 = some (.int .i64 z.id):=by unfold za; rw [qin]; rfl
     have q1 : za (l ++ [x]) g hr x.known 1 = some (.int .i64 z.known):=by unfold za; rw [qin]; rfl
     have q2 : za (l ++ [x]) g hr x.known 2 = some (.int .i64 z.from_):=by unfold za; rw [qin]; rfl
     have q3 : za (l ++ [x]) g hr x.known 3 = some (.string z.goods):=by unfold za; rw [qin]; rfl
     have q4 : za (l ++ [x]) g hr x.known 4 = some (.int .i64 z.num):=by unfold za; rw [qin]; rfl
     have q5 : za (l ++ [x]) g hr x.known 5 = some (.int .i64 z.den):=by unfold za; rw [qin]; rfl
     have q6 : za (l ++ [x]) g hr x.known 6 = some (.int .i64 z.cart):=by unfold za; rw [qin]; rfl
     have q7 : za (l ++ [x]) g hr x.known 7 = some (.int .i64 z.store):=by unfold za; rw [qin]; rfl
     have q8 : za (l ++ [x]) g hr x.known 8 = some (.int .i64 z.of_):=by unfold za; rw [qin]; rfl
     have hyz : y.id = z.id→y = z:=fun e => Option.some.inj (by rw [← pin,← qin]; exact hlm (by rw [idl,idm,e]))
     by_cases eyz : y = z
     ·subst eyz
      refine ⟨?_,?_⟩
      all_goals (simp only [lNy0_t,lNy0_F,lNy0_l,gA,gB,zd,gW,zm,zR,zD,zh,zk,yw,yy,zr,zE,dZ,g3,v1,v3,v4,v5,v6,v7,v8,v9,v10,v11,v12,v13,vs,h1,h12,h13,hsy,hxx,zi,ze,zF,zl,zx,zw,zq,hsh,hok,hc1,hc2,ht,pin,qin,Option.isSome_none,Option.isSome_some,p0,p1,p2,p3,p4,p5,p6,p7,p8,q0,q1,q2,q3,q4,q5,q6,q7,q8,zX,reduceCtorEq,Bool.false_eq_true,false_implies,true_implies,and_true,true_and])
      all_goals (clear v1 v3 v4 v5 v6 v7 v8 v9 v10 v11 v12 v13 vs h1 hx h12 h13 hsy hF p0 p1 p2 p3 p4 p5 p6 p7 p8 q0 q1 q2 q3 q4 q5 q6 q7 q8)
      all_goals ((repeat' apply And.intro) <;> intros <;> first
       | trivial
       | contradiction
       | (exact go)
       | (exfalso; omega)
       | (exfalso; have:=d1 (by omega); omega)
       | (exfalso; exact d3 (by assumption) (by assumption))
       | (simp_all; done))
     ·have nid : ¬ y.id = z.id:=fun e => eyz (hyz e)
      have hd : idAt l g hr x.known≠idAt (l ++ [x]) g hr x.known:=by rw [idl,idm]; first | assumption | exact Ne.symm (by assumption)
      have d1 : hr≤1000000→¬ hr < (tch l (l ++ [x]) g x.known).from_∧¬ (tch l (l ++ [x]) g x.known).until_ < hr:=fun b => by have:=a7 hr b hd; omega
      have d3 : x.of_ = 0→¬ hr < x.from_:=fun a b => hd (by unfold idAt; rw [bs a b])
      refine ⟨?_,?_⟩
      all_goals (simp only [lNy0_t,lNy0_F,lNy0_l,gA,gB,zd,gW,zm,zR,zD,zh,zk,yw,yy,zr,zE,dZ,g3,v1,v3,v4,v5,v6,v7,v8,v9,v10,v11,v12,v13,vs,h1,h12,h13,hsy,hxx,zi,ze,zF,zl,zx,zw,zq,hsh,hok,hc1,hc2,ht,pin,qin,Option.isSome_none,Option.isSome_some,p0,p1,p2,p3,p4,p5,p6,p7,p8,q0,q1,q2,q3,q4,q5,q6,q7,q8,zX,reduceCtorEq,Bool.false_eq_true,false_implies,true_implies,and_true,true_and])
      all_goals (clear v1 v3 v4 v5 v6 v7 v8 v9 v10 v11 v12 v13 vs h1 hx h12 h13 hsy hF p0 p1 p2 p3 p4 p5 p6 p7 p8 q0 q1 q2 q3 q4 q5 q6 q7 q8)
      all_goals ((repeat' apply And.intro) <;> intros <;> first
       | trivial
       | contradiction
       | (exact go)
       | (exfalso; omega)
       | (exfalso; have:=d1 (by omega); omega)
       | (exfalso; exact d3 (by assumption) (by assumption))
       | (simp_all; done))
theorem lNy_step1 {ρ : Rho} {l : List Rat9} {x : Rat9} {kx : Nat→IntKind} {g : ByteArray} {hr : Int} {k13 : IntKind} (h1 : ρ.val 1 = some (ratsR l)) (hx : Rat9At ρ 3 kx x) (h12 : ρ.val 12 = some (.string g)) (h13 : ρ.val 13 = some (.int k13 hr)) (hsy : ρ.sym = sy) (hsh : okR9 l = true) (hok : okR9 (l ++ [x]) = true) (hc1 : chkER l = 0) (hc2 : chkER (l ++ [x]) = 0) (ht : (tch l (l ++ [x]) g x.known).is = true) : yn Zf lNy_run E1 ρ lNy_Inv lNy_mu 1 []:=by
 have hN : Zf.N = 110:=rfl
 have hxx : (⟨x.id,x.known,x.from_,x.goods,x.num,x.den,x.cart,x.store,x.of_⟩ : Rat9) = x:=rfl
 have xl {jq vq}:=@xL ρ Zf.N 110 [] jq vq hN
 have xh {jq vq}:=@xH ρ Zf.N 110 [] jq vq hN
 have v1:=xl (jq:=1) h1 (by decide)
 have v3:=xl (jq:=3) hx.h0 (by decide)
 have v4:=xl (jq:=4) hx.h1 (by decide)
 have v5:=xl (jq:=5) hx.h2 (by decide)
 have v6:=xl (jq:=6) hx.h3 (by decide)
 have v7:=xl (jq:=7) hx.h4 (by decide)
 have v8:=xl (jq:=8) hx.h5 (by decide)
 have v9:=xl (jq:=9) hx.h6 (by decide)
 have v10:=xl (jq:=10) hx.h7 (by decide)
 have v11:=xl (jq:=11) hx.h8 (by decide)
 have v12:=xl (jq:=12) h12 (by decide)
 have v13:=xl (jq:=13) h13 (by decide)
 have vs : (ρ.ext Zf.N []).sym = sy:=hsy
 have hF : zf (ρ.ext Zf.N []) lNy1_F:=by
  simp only [lNy1_F,zf,gB,zd,gW,zm,v1,v3,v4,v5,v6,v7,v8,v9,v10,v11,v12,v13,vs,hxx,ze,zi,zq,hsh,hok,hc1,hc2,ht,beq_self_eq_true,and_true,true_and]
 suffices both : y9 (ρ.ext Zf.N []) (lNy1_t.asks lNy1_F)∧zD Zf ρ lNy_Inv lNy_mu 1 [] lNy1_l from zC (lNy1_w _) hF both.1.ok both.2
 have go : ∃ vals',lNy_Inv 2 vals'∧lNy_mu 2 vals' < lNy_mu 1 []:=⟨[],⟨by omega,rfl⟩,by simp [lNy_mu]⟩
 obtain ⟨t1,t2⟩:=touch_says hc2 g x.known
 obtain ⟨a1,a2,a3,a4,a5,a6,a7⟩:=t2 ht
 generalize hH : ((tch l (l ++ [x]) g x.known).from_ : Int) = hh at *
 have bs : x.of_ = 0→hh < x.from_→inF (l ++ [x]) g hh x.known = inF l g hh x.known:=fun a b => before_says a g b
 have hlm : idAt l g hh x.known = idAt (l ++ [x]) g hh x.known→inF l g hh x.known = inF (l ++ [x]) g hh x.known:=inF_same hc2 hc1 (fun y hy => List.mem_append_left _ hy)
 cases pin : inF l g hh x.known with
 | none =>
   have idl : idAt l g hh x.known = 0:=by unfold idAt; rw [pin]; rfl
   have p0 : za l g hh x.known 0 = some (.int .i64 0):=by unfold za; rw [pin]; rfl
   have p1 : za l g hh x.known 1 = some (.int .i64 0):=by unfold za; rw [pin]; rfl
   have p2 : za l g hh x.known 2 = some (.int .i64 0):=by unfold za; rw [pin]; rfl
   have p3 : za l g hh x.known 3 = some (.string (z7 [])):=by unfold za; rw [pin]; rfl
   have p4 : za l g hh x.known 4 = some (.int .i64 0):=by unfold za; rw [pin]; rfl
   have p5 : za l g hh x.known 5 = some (.int .i64 0):=by unfold za; rw [pin]; rfl
   have p6 : za l g hh x.known 6 = some (.int .i64 0):=by unfold za; rw [pin]; rfl
   have p7 : za l g hh x.known 7 = some (.int .i64 0):=by unfold za; rw [pin]; rfl
   have p8 : za l g hh x.known 8 = some (.int .i64 0):=by unfold za; rw [pin]; rfl
   cases qin : inF (l ++ [x]) g hh x.known with
   | none =>
     have idm : idAt (l ++ [x]) g hh x.known = 0:=by unfold idAt; rw [qin]; rfl
     have q0 : za (l ++ [x]) g hh x.known 0 = some (.int .i64 0):=by unfold za; rw [qin]; rfl
     have q1 : za (l ++ [x]) g hh x.known 1 = some (.int .i64 0):=by unfold za; rw [qin]; rfl
     have q2 : za (l ++ [x]) g hh x.known 2 = some (.int .i64 0):=by unfold za; rw [qin]; rfl
     have q3 : za (l ++ [x]) g hh x.known 3 = some (.string (z7 [])):=by unfold za; rw [qin]; rfl
     have q4 : za (l ++ [x]) g hh x.known 4 = some (.int .i64 0):=by unfold za; rw [qin]; rfl
     have q5 : za (l ++ [x]) g hh x.known 5 = some (.int .i64 0):=by unfold za; rw [qin]; rfl
     have q6 : za (l ++ [x]) g hh x.known 6 = some (.int .i64 0):=by unfold za; rw [qin]; rfl
     have q7 : za (l ++ [x]) g hh x.known 7 = some (.int .i64 0):=by unfold za; rw [qin]; rfl
     have q8 : za (l ++ [x]) g hh x.known 8 = some (.int .i64 0):=by unfold za; rw [qin]; rfl
     have hd : idAt l g hh x.known = idAt (l ++ [x]) g hh x.known:=by rw [idl,idm]
     exact absurd hd (by assumption)
   | some z =>
     have idm : idAt (l ++ [x]) g hh x.known = z.id:=by unfold idAt; rw [qin]; rfl
     have hz:=y7 hc2 qin
     have q0 : za (l ++ [x]) g hh x.known 0 = some (.int .i64 z.id):=by unfold za; rw [qin]; rfl
     have q1 : za (l ++ [x]) g hh x.known 1 = some (.int .i64 z.known):=by unfold za; rw [qin]; rfl
     have q2 : za (l ++ [x]) g hh x.known 2 = some (.int .i64 z.from_):=by unfold za; rw [qin]; rfl
     have q3 : za (l ++ [x]) g hh x.known 3 = some (.string z.goods):=by unfold za; rw [qin]; rfl
     have q4 : za (l ++ [x]) g hh x.known 4 = some (.int .i64 z.num):=by unfold za; rw [qin]; rfl
     have q5 : za (l ++ [x]) g hh x.known 5 = some (.int .i64 z.den):=by unfold za; rw [qin]; rfl
     have q6 : za (l ++ [x]) g hh x.known 6 = some (.int .i64 z.cart):=by unfold za; rw [qin]; rfl
     have q7 : za (l ++ [x]) g hh x.known 7 = some (.int .i64 z.store):=by unfold za; rw [qin]; rfl
     have q8 : za (l ++ [x]) g hh x.known 8 = some (.int .i64 z.of_):=by unfold za; rw [qin]; rfl
     have hd : idAt l g hh x.known≠idAt (l ++ [x]) g hh x.known:=by rw [idl,idm]; first | assumption | exact Ne.symm (by assumption)
     have d1 : hh≤1000000→¬ hh < (tch l (l ++ [x]) g x.known).from_∧¬ (tch l (l ++ [x]) g x.known).until_ < hh:=fun b => by have:=a7 hh b hd; omega
     have d3 : x.of_ = 0→¬ hh < x.from_:=fun a b => hd (by unfold idAt; rw [bs a b])
     refine ⟨?_,?_⟩
     all_goals (simp only [lNy1_t,lNy1_F,lNy1_l,gA,gB,zd,gW,zm,zR,zD,zh,zk,yw,yy,zr,zE,dZ,g3,v1,v3,v4,v5,v6,v7,v8,v9,v10,v11,v12,v13,vs,h1,h12,h13,hsy,hxx,zi,ze,zF,zl,zx,zw,zq,hsh,hok,hc1,hc2,ht,hH,pin,qin,Option.isSome_none,Option.isSome_some,p0,p1,p2,p3,p4,p5,p6,p7,p8,q0,q1,q2,q3,q4,q5,q6,q7,q8,zX,reduceCtorEq,Bool.false_eq_true,false_implies,true_implies,and_true,true_and])
     all_goals (clear v1 v3 v4 v5 v6 v7 v8 v9 v10 v11 v12 v13 vs h1 hx h12 h13 hsy hF p0 p1 p2 p3 p4 p5 p6 p7 p8 q0 q1 q2 q3 q4 q5 q6 q7 q8)
     all_goals ((repeat' apply And.intro) <;> intros <;> first
      | trivial
      | contradiction
      | (exact go)
      | (exfalso; omega)
      | (exfalso; have:=d1 (by omega); omega)
      | (exfalso; exact d3 (by assumption) (by assumption))
      | (simp_all; done))
 | some y =>
   have idl : idAt l g hh x.known = y.id:=by unfold idAt; rw [pin]; rfl
   have hy:=y7 hc1 pin
   have p0 : za l g hh x.known 0 = some (.int .i64 y.id):=by unfold za; rw [pin]; rfl
   have p1 : za l g hh x.known 1 = some (.int .i64 y.known):=by unfold za; rw [pin]; rfl
   have p2 : za l g hh x.known 2 = some (.int .i64 y.from_):=by unfold za; rw [pin]; rfl
   have p3 : za l g hh x.known 3 = some (.string y.goods):=by unfold za; rw [pin]; rfl
   have p4 : za l g hh x.known 4 = some (.int .i64 y.num):=by unfold za; rw [pin]; rfl
   have p5 : za l g hh x.known 5 = some (.int .i64 y.den):=by unfold za; rw [pin]; rfl
   have p6 : za l g hh x.known 6 = some (.int .i64 y.cart):=by unfold za; rw [pin]; rfl
   have p7 : za l g hh x.known 7 = some (.int .i64 y.store):=by unfold za; rw [pin]; rfl
   have p8 : za l g hh x.known 8 = some (.int .i64 y.of_):=by unfold za; rw [pin]; rfl
   cases qin : inF (l ++ [x]) g hh x.known with
   | none =>
     have idm : idAt (l ++ [x]) g hh x.known = 0:=by unfold idAt; rw [qin]; rfl
     have q0 : za (l ++ [x]) g hh x.known 0 = some (.int .i64 0):=by unfold za; rw [qin]; rfl
     have q1 : za (l ++ [x]) g hh x.known 1 = some (.int .i64 0):=by unfold za; rw [qin]; rfl
     have q2 : za (l ++ [x]) g hh x.known 2 = some (.int .i64 0):=by unfold za; rw [qin]; rfl
     have q3 : za (l ++ [x]) g hh x.known 3 = some (.string (z7 [])):=by unfold za; rw [qin]; rfl
     have q4 : za (l ++ [x]) g hh x.known 4 = some (.int .i64 0):=by unfold za; rw [qin]; rfl
     have q5 : za (l ++ [x]) g hh x.known 5 = some (.int .i64 0):=by unfold za; rw [qin]; rfl
     have q6 : za (l ++ [x]) g hh x.known 6 = some (.int .i64 0):=by unfold za; rw [qin]; rfl
     have q7 : za (l ++ [x]) g hh x.known 7 = some (.int .i64 0):=by unfold za; rw [qin]; rfl
     have q8 : za (l ++ [x]) g hh x.known 8 = some (.int .i64 0):=by unfold za; rw [qin]; rfl
     have hd : idAt l g hh x.known≠idAt (l ++ [x]) g hh x.known:=by rw [idl,idm]; first | assumption | exact Ne.symm (by assumption)
     have d1 : hh≤1000000→¬ hh < (tch l (l ++ [x]) g x.known).from_∧¬ (tch l (l ++ [x]) g x.known).until_ < hh:=fun b => by have:=a7 hh b hd; omega
     have d3 : x.of_ = 0→¬ hh < x.from_:=fun a b => hd (by unfold idAt; rw [bs a b])
     refine ⟨?_,?_⟩
     all_goals (simp only [lNy1_t,lNy1_F,lNy1_l,gA,gB,zd,gW,zm,zR,zD,zh,zk,yw,yy,zr,zE,dZ,g3,v1,v3,v4,v5,v6,v7,v8,v9,v10,v11,v12,v13,vs,h1,h12,h13,hsy,hxx,zi,ze,zF,zl,zx,zw,zq,hsh,hok,hc1,hc2,ht,hH,pin,qin,Option.isSome_none,Option.isSome_some,p0,p1,p2,p3,p4,p5,p6,p7,p8,q0,q1,q2,q3,q4,q5,q6,q7,q8,zX,reduceCtorEq,Bool.false_eq_true,false_implies,true_implies,and_true,true_and])
     all_goals (clear v1 v3 v4 v5 v6 v7 v8 v9 v10 v11 v12 v13 vs h1 hx h12 h13 hsy hF p0 p1 p2 p3 p4 p5 p6 p7 p8 q0 q1 q2 q3 q4 q5 q6 q7 q8)
     all_goals ((repeat' apply And.intro) <;> intros <;> first
      | trivial
      | contradiction
      | (exact go)
      | (exfalso; omega)
      | (exfalso; have:=d1 (by omega); omega)
      | (exfalso; exact d3 (by assumption) (by assumption))
      | (simp_all; done))
   | some z =>
     have idm : idAt (l ++ [x]) g hh x.known = z.id:=by unfold idAt; rw [qin]; rfl
     have hz:=y7 hc2 qin
     have q0 : za (l ++ [x]) g hh x.known 0 = some (.int .i64 z.id):=by unfold za; rw [qin]; rfl
     have q1 : za (l ++ [x]) g hh x.known 1 = some (.int .i64 z.known):=by unfold za; rw [qin]; rfl
     have q2 : za (l ++ [x]) g hh x.known 2 = some (.int .i64 z.from_):=by unfold za; rw [qin]; rfl
     have q3 : za (l ++ [x]) g hh x.known 3 = some (.string z.goods):=by unfold za; rw [qin]; rfl
     have q4 : za (l ++ [x]) g hh x.known 4 = some (.int .i64 z.num):=by unfold za; rw [qin]; rfl
     have q5 : za (l ++ [x]) g hh x.known 5 = some (.int .i64 z.den):=by unfold za; rw [qin]; rfl
     have q6 : za (l ++ [x]) g hh x.known 6 = some (.int .i64 z.cart):=by unfold za; rw [qin]; rfl
     have q7 : za (l ++ [x]) g hh x.known 7 = some (.int .i64 z.store):=by unfold za; rw [qin]; rfl
     have q8 : za (l ++ [x]) g hh x.known 8 = some (.int .i64 z.of_):=by unfold za; rw [qin]; rfl
     have hyz : y.id = z.id→y = z:=fun e => Option.some.inj (by rw [← pin,← qin]; exact hlm (by rw [idl,idm,e]))
     by_cases eyz : y = z
     ·subst eyz
      have hd : idAt l g hh x.known = idAt (l ++ [x]) g hh x.known:=by rw [idl,idm]
      exact absurd hd (by assumption)
     ·have nid : ¬ y.id = z.id:=fun e => eyz (hyz e)
      have hd : idAt l g hh x.known≠idAt (l ++ [x]) g hh x.known:=by rw [idl,idm]; first | assumption | exact Ne.symm (by assumption)
      have d1 : hh≤1000000→¬ hh < (tch l (l ++ [x]) g x.known).from_∧¬ (tch l (l ++ [x]) g x.known).until_ < hh:=fun b => by have:=a7 hh b hd; omega
      have d3 : x.of_ = 0→¬ hh < x.from_:=fun a b => hd (by unfold idAt; rw [bs a b])
      refine ⟨?_,?_⟩
      all_goals (simp only [lNy1_t,lNy1_F,lNy1_l,gA,gB,zd,gW,zm,zR,zD,zh,zk,yw,yy,zr,zE,dZ,g3,v1,v3,v4,v5,v6,v7,v8,v9,v10,v11,v12,v13,vs,h1,h12,h13,hsy,hxx,zi,ze,zF,zl,zx,zw,zq,hsh,hok,hc1,hc2,ht,hH,pin,qin,Option.isSome_none,Option.isSome_some,p0,p1,p2,p3,p4,p5,p6,p7,p8,q0,q1,q2,q3,q4,q5,q6,q7,q8,zX,reduceCtorEq,Bool.false_eq_true,false_implies,true_implies,and_true,true_and])
      all_goals (clear v1 v3 v4 v5 v6 v7 v8 v9 v10 v11 v12 v13 vs h1 hx h12 h13 hsy hF p0 p1 p2 p3 p4 p5 p6 p7 p8 q0 q1 q2 q3 q4 q5 q6 q7 q8)
      all_goals ((repeat' apply And.intro) <;> intros <;> first
       | trivial
       | contradiction
       | (exact go)
       | (exfalso; omega)
       | (exfalso; have:=d1 (by omega); omega)
       | (exfalso; exact d3 (by assumption) (by assumption))
       | (simp_all; done))
theorem lNy_step2 {ρ : Rho} {l : List Rat9} {x : Rat9} {kx : Nat→IntKind} {g : ByteArray} {hr : Int} {k13 : IntKind} (h1 : ρ.val 1 = some (ratsR l)) (hx : Rat9At ρ 3 kx x) (h12 : ρ.val 12 = some (.string g)) (h13 : ρ.val 13 = some (.int k13 hr)) (hsy : ρ.sym = sy) (hsh : okR9 l = true) (hok : okR9 (l ++ [x]) = true) (hc1 : chkER l = 0) (hc2 : chkER (l ++ [x]) = 0) (ht : (tch l (l ++ [x]) g x.known).is = true) : yn Zf lNy_run E1 ρ lNy_Inv lNy_mu 2 []:=by
 have hN : Zf.N = 110:=rfl
 have hxx : (⟨x.id,x.known,x.from_,x.goods,x.num,x.den,x.cart,x.store,x.of_⟩ : Rat9) = x:=rfl
 have xl {jq vq}:=@xL ρ Zf.N 110 [] jq vq hN
 have xh {jq vq}:=@xH ρ Zf.N 110 [] jq vq hN
 have v1:=xl (jq:=1) h1 (by decide)
 have v3:=xl (jq:=3) hx.h0 (by decide)
 have v4:=xl (jq:=4) hx.h1 (by decide)
 have v5:=xl (jq:=5) hx.h2 (by decide)
 have v6:=xl (jq:=6) hx.h3 (by decide)
 have v7:=xl (jq:=7) hx.h4 (by decide)
 have v8:=xl (jq:=8) hx.h5 (by decide)
 have v9:=xl (jq:=9) hx.h6 (by decide)
 have v10:=xl (jq:=10) hx.h7 (by decide)
 have v11:=xl (jq:=11) hx.h8 (by decide)
 have v12:=xl (jq:=12) h12 (by decide)
 have v13:=xl (jq:=13) h13 (by decide)
 have vs : (ρ.ext Zf.N []).sym = sy:=hsy
 have hF : zf (ρ.ext Zf.N []) lNy2_F:=by
  simp only [lNy2_F,zf,gB,zd,gW,zm,v1,v3,v4,v5,v6,v7,v8,v9,v10,v11,v12,v13,vs,hxx,ze,zi,zq,hsh,hok,hc1,hc2,ht,beq_self_eq_true,and_true,true_and]
 suffices both : y9 (ρ.ext Zf.N []) (lNy2_t.asks lNy2_F)∧zD Zf ρ lNy_Inv lNy_mu 2 [] lNy2_l from zC (lNy2_w _) hF both.1.ok both.2
 have go : ∃ vals',lNy_Inv 3 vals'∧lNy_mu 3 vals' < lNy_mu 2 []:=⟨[],⟨by omega,rfl⟩,by simp [lNy_mu]⟩
 obtain ⟨t1,t2⟩:=touch_says hc2 g x.known
 obtain ⟨a1,a2,a3,a4,a5,a6,a7⟩:=t2 ht
 generalize hH : ((tch l (l ++ [x]) g x.known).until_ : Int) = hh at *
 have bs : x.of_ = 0→hh < x.from_→inF (l ++ [x]) g hh x.known = inF l g hh x.known:=fun a b => before_says a g b
 have hlm : idAt l g hh x.known = idAt (l ++ [x]) g hh x.known→inF l g hh x.known = inF (l ++ [x]) g hh x.known:=inF_same hc2 hc1 (fun y hy => List.mem_append_left _ hy)
 cases pin : inF l g hh x.known with
 | none =>
   have idl : idAt l g hh x.known = 0:=by unfold idAt; rw [pin]; rfl
   have p0 : za l g hh x.known 0 = some (.int .i64 0):=by unfold za; rw [pin]; rfl
   have p1 : za l g hh x.known 1 = some (.int .i64 0):=by unfold za; rw [pin]; rfl
   have p2 : za l g hh x.known 2 = some (.int .i64 0):=by unfold za; rw [pin]; rfl
   have p3 : za l g hh x.known 3 = some (.string (z7 [])):=by unfold za; rw [pin]; rfl
   have p4 : za l g hh x.known 4 = some (.int .i64 0):=by unfold za; rw [pin]; rfl
   have p5 : za l g hh x.known 5 = some (.int .i64 0):=by unfold za; rw [pin]; rfl
   have p6 : za l g hh x.known 6 = some (.int .i64 0):=by unfold za; rw [pin]; rfl
   have p7 : za l g hh x.known 7 = some (.int .i64 0):=by unfold za; rw [pin]; rfl
   have p8 : za l g hh x.known 8 = some (.int .i64 0):=by unfold za; rw [pin]; rfl
   cases qin : inF (l ++ [x]) g hh x.known with
   | none =>
     have idm : idAt (l ++ [x]) g hh x.known = 0:=by unfold idAt; rw [qin]; rfl
     have q0 : za (l ++ [x]) g hh x.known 0 = some (.int .i64 0):=by unfold za; rw [qin]; rfl
     have q1 : za (l ++ [x]) g hh x.known 1 = some (.int .i64 0):=by unfold za; rw [qin]; rfl
     have q2 : za (l ++ [x]) g hh x.known 2 = some (.int .i64 0):=by unfold za; rw [qin]; rfl
     have q3 : za (l ++ [x]) g hh x.known 3 = some (.string (z7 [])):=by unfold za; rw [qin]; rfl
     have q4 : za (l ++ [x]) g hh x.known 4 = some (.int .i64 0):=by unfold za; rw [qin]; rfl
     have q5 : za (l ++ [x]) g hh x.known 5 = some (.int .i64 0):=by unfold za; rw [qin]; rfl
     have q6 : za (l ++ [x]) g hh x.known 6 = some (.int .i64 0):=by unfold za; rw [qin]; rfl
     have q7 : za (l ++ [x]) g hh x.known 7 = some (.int .i64 0):=by unfold za; rw [qin]; rfl
     have q8 : za (l ++ [x]) g hh x.known 8 = some (.int .i64 0):=by unfold za; rw [qin]; rfl
     have hd : idAt l g hh x.known = idAt (l ++ [x]) g hh x.known:=by rw [idl,idm]
     exact absurd hd (by assumption)
   | some z =>
     have idm : idAt (l ++ [x]) g hh x.known = z.id:=by unfold idAt; rw [qin]; rfl
     have hz:=y7 hc2 qin
     have q0 : za (l ++ [x]) g hh x.known 0 = some (.int .i64 z.id):=by unfold za; rw [qin]; rfl
     have q1 : za (l ++ [x]) g hh x.known 1 = some (.int .i64 z.known):=by unfold za; rw [qin]; rfl
     have q2 : za (l ++ [x]) g hh x.known 2 = some (.int .i64 z.from_):=by unfold za; rw [qin]; rfl
     have q3 : za (l ++ [x]) g hh x.known 3 = some (.string z.goods):=by unfold za; rw [qin]; rfl
     have q4 : za (l ++ [x]) g hh x.known 4 = some (.int .i64 z.num):=by unfold za; rw [qin]; rfl
     have q5 : za (l ++ [x]) g hh x.known 5 = some (.int .i64 z.den):=by unfold za; rw [qin]; rfl
     have q6 : za (l ++ [x]) g hh x.known 6 = some (.int .i64 z.cart):=by unfold za; rw [qin]; rfl
     have q7 : za (l ++ [x]) g hh x.known 7 = some (.int .i64 z.store):=by unfold za; rw [qin]; rfl
     have q8 : za (l ++ [x]) g hh x.known 8 = some (.int .i64 z.of_):=by unfold za; rw [qin]; rfl
     have hd : idAt l g hh x.known≠idAt (l ++ [x]) g hh x.known:=by rw [idl,idm]; first | assumption | exact Ne.symm (by assumption)
     have d1 : hh≤1000000→¬ hh < (tch l (l ++ [x]) g x.known).from_∧¬ (tch l (l ++ [x]) g x.known).until_ < hh:=fun b => by have:=a7 hh b hd; omega
     have d3 : x.of_ = 0→¬ hh < x.from_:=fun a b => hd (by unfold idAt; rw [bs a b])
     refine ⟨?_,?_⟩
     all_goals (simp only [lNy2_t,lNy2_F,lNy2_l,gA,gB,zd,gW,zm,zR,zD,zh,zk,yw,yy,zr,zE,dZ,g3,v1,v3,v4,v5,v6,v7,v8,v9,v10,v11,v12,v13,vs,h1,h12,h13,hsy,hxx,zi,ze,zF,zl,zx,zw,zq,hsh,hok,hc1,hc2,ht,hH,pin,qin,Option.isSome_none,Option.isSome_some,p0,p1,p2,p3,p4,p5,p6,p7,p8,q0,q1,q2,q3,q4,q5,q6,q7,q8,zX,reduceCtorEq,Bool.false_eq_true,false_implies,true_implies,and_true,true_and])
     all_goals (clear v1 v3 v4 v5 v6 v7 v8 v9 v10 v11 v12 v13 vs h1 hx h12 h13 hsy hF p0 p1 p2 p3 p4 p5 p6 p7 p8 q0 q1 q2 q3 q4 q5 q6 q7 q8)
     all_goals ((repeat' apply And.intro) <;> intros <;> first
      | trivial
      | contradiction
      | (exact go)
      | (exfalso; omega)
      | (exfalso; have:=d1 (by omega); omega)
      | (exfalso; exact d3 (by assumption) (by assumption))
      | (simp_all; done))
 | some y =>
   have idl : idAt l g hh x.known = y.id:=by unfold idAt; rw [pin]; rfl
   have hy:=y7 hc1 pin
   have p0 : za l g hh x.known 0 = some (.int .i64 y.id):=by unfold za; rw [pin]; rfl
   have p1 : za l g hh x.known 1 = some (.int .i64 y.known):=by unfold za; rw [pin]; rfl
   have p2 : za l g hh x.known 2 = some (.int .i64 y.from_):=by unfold za; rw [pin]; rfl
   have p3 : za l g hh x.known 3 = some (.string y.goods):=by unfold za; rw [pin]; rfl
   have p4 : za l g hh x.known 4 = some (.int .i64 y.num):=by unfold za; rw [pin]; rfl
   have p5 : za l g hh x.known 5 = some (.int .i64 y.den):=by unfold za; rw [pin]; rfl
   have p6 : za l g hh x.known 6 = some (.int .i64 y.cart):=by unfold za; rw [pin]; rfl
   have p7 : za l g hh x.known 7 = some (.int .i64 y.store):=by unfold za; rw [pin]; rfl
   have p8 : za l g hh x.known 8 = some (.int .i64 y.of_):=by unfold za; rw [pin]; rfl
   cases qin : inF (l ++ [x]) g hh x.known with
   | none =>
     have idm : idAt (l ++ [x]) g hh x.known = 0:=by unfold idAt; rw [qin]; rfl
     have q0 : za (l ++ [x]) g hh x.known 0 = some (.int .i64 0):=by unfold za; rw [qin]; rfl
     have q1 : za (l ++ [x]) g hh x.known 1 = some (.int .i64 0):=by unfold za; rw [qin]; rfl
     have q2 : za (l ++ [x]) g hh x.known 2 = some (.int .i64 0):=by unfold za; rw [qin]; rfl
     have q3 : za (l ++ [x]) g hh x.known 3 = some (.string (z7 [])):=by unfold za; rw [qin]; rfl
     have q4 : za (l ++ [x]) g hh x.known 4 = some (.int .i64 0):=by unfold za; rw [qin]; rfl
     have q5 : za (l ++ [x]) g hh x.known 5 = some (.int .i64 0):=by unfold za; rw [qin]; rfl
     have q6 : za (l ++ [x]) g hh x.known 6 = some (.int .i64 0):=by unfold za; rw [qin]; rfl
     have q7 : za (l ++ [x]) g hh x.known 7 = some (.int .i64 0):=by unfold za; rw [qin]; rfl
     have q8 : za (l ++ [x]) g hh x.known 8 = some (.int .i64 0):=by unfold za; rw [qin]; rfl
     have hd : idAt l g hh x.known≠idAt (l ++ [x]) g hh x.known:=by rw [idl,idm]; first | assumption | exact Ne.symm (by assumption)
     have d1 : hh≤1000000→¬ hh < (tch l (l ++ [x]) g x.known).from_∧¬ (tch l (l ++ [x]) g x.known).until_ < hh:=fun b => by have:=a7 hh b hd; omega
     have d3 : x.of_ = 0→¬ hh < x.from_:=fun a b => hd (by unfold idAt; rw [bs a b])
     refine ⟨?_,?_⟩
     all_goals (simp only [lNy2_t,lNy2_F,lNy2_l,gA,gB,zd,gW,zm,zR,zD,zh,zk,yw,yy,zr,zE,dZ,g3,v1,v3,v4,v5,v6,v7,v8,v9,v10,v11,v12,v13,vs,h1,h12,h13,hsy,hxx,zi,ze,zF,zl,zx,zw,zq,hsh,hok,hc1,hc2,ht,hH,pin,qin,Option.isSome_none,Option.isSome_some,p0,p1,p2,p3,p4,p5,p6,p7,p8,q0,q1,q2,q3,q4,q5,q6,q7,q8,zX,reduceCtorEq,Bool.false_eq_true,false_implies,true_implies,and_true,true_and])
     all_goals (clear v1 v3 v4 v5 v6 v7 v8 v9 v10 v11 v12 v13 vs h1 hx h12 h13 hsy hF p0 p1 p2 p3 p4 p5 p6 p7 p8 q0 q1 q2 q3 q4 q5 q6 q7 q8)
     all_goals ((repeat' apply And.intro) <;> intros <;> first
      | trivial
      | contradiction
      | (exact go)
      | (exfalso; omega)
      | (exfalso; have:=d1 (by omega); omega)
      | (exfalso; exact d3 (by assumption) (by assumption))
      | (simp_all; done))
   | some z =>
     have idm : idAt (l ++ [x]) g hh x.known = z.id:=by unfold idAt; rw [qin]; rfl
     have hz:=y7 hc2 qin
     have q0 : za (l ++ [x]) g hh x.known 0 = some (.int .i64 z.id):=by unfold za; rw [qin]; rfl
     have q1 : za (l ++ [x]) g hh x.known 1 = some (.int .i64 z.known):=by unfold za; rw [qin]; rfl
     have q2 : za (l ++ [x]) g hh x.known 2 = some (.int .i64 z.from_):=by unfold za; rw [qin]; rfl
     have q3 : za (l ++ [x]) g hh x.known 3 = some (.string z.goods):=by unfold za; rw [qin]; rfl
     have q4 : za (l ++ [x]) g hh x.known 4 = some (.int .i64 z.num):=by unfold za; rw [qin]; rfl
     have q5 : za (l ++ [x]) g hh x.known 5 = some (.int .i64 z.den):=by unfold za; rw [qin]; rfl
     have q6 : za (l ++ [x]) g hh x.known 6 = some (.int .i64 z.cart):=by unfold za; rw [qin]; rfl
     have q7 : za (l ++ [x]) g hh x.known 7 = some (.int .i64 z.store):=by unfold za; rw [qin]; rfl
     have q8 : za (l ++ [x]) g hh x.known 8 = some (.int .i64 z.of_):=by unfold za; rw [qin]; rfl
     have hyz : y.id = z.id→y = z:=fun e => Option.some.inj (by rw [← pin,← qin]; exact hlm (by rw [idl,idm,e]))
     by_cases eyz : y = z
     ·subst eyz
      have hd : idAt l g hh x.known = idAt (l ++ [x]) g hh x.known:=by rw [idl,idm]
      exact absurd hd (by assumption)
     ·have nid : ¬ y.id = z.id:=fun e => eyz (hyz e)
      have hd : idAt l g hh x.known≠idAt (l ++ [x]) g hh x.known:=by rw [idl,idm]; first | assumption | exact Ne.symm (by assumption)
      have d1 : hh≤1000000→¬ hh < (tch l (l ++ [x]) g x.known).from_∧¬ (tch l (l ++ [x]) g x.known).until_ < hh:=fun b => by have:=a7 hh b hd; omega
      have d3 : x.of_ = 0→¬ hh < x.from_:=fun a b => hd (by unfold idAt; rw [bs a b])
      refine ⟨?_,?_⟩
      all_goals (simp only [lNy2_t,lNy2_F,lNy2_l,gA,gB,zd,gW,zm,zR,zD,zh,zk,yw,yy,zr,zE,dZ,g3,v1,v3,v4,v5,v6,v7,v8,v9,v10,v11,v12,v13,vs,h1,h12,h13,hsy,hxx,zi,ze,zF,zl,zx,zw,zq,hsh,hok,hc1,hc2,ht,hH,pin,qin,Option.isSome_none,Option.isSome_some,p0,p1,p2,p3,p4,p5,p6,p7,p8,q0,q1,q2,q3,q4,q5,q6,q7,q8,zX,reduceCtorEq,Bool.false_eq_true,false_implies,true_implies,and_true,true_and])
      all_goals (clear v1 v3 v4 v5 v6 v7 v8 v9 v10 v11 v12 v13 vs h1 hx h12 h13 hsy hF p0 p1 p2 p3 p4 p5 p6 p7 p8 q0 q1 q2 q3 q4 q5 q6 q7 q8)
      all_goals ((repeat' apply And.intro) <;> intros <;> first
       | trivial
       | contradiction
       | (exact go)
       | (exfalso; omega)
       | (exfalso; have:=d1 (by omega); omega)
       | (exfalso; exact d3 (by assumption) (by assumption))
       | (simp_all; done))
theorem lNy_step3 {ρ : Rho} {l : List Rat9} {x : Rat9} {kx : Nat→IntKind} {g : ByteArray} {hr : Int} {k13 : IntKind} (h1 : ρ.val 1 = some (ratsR l)) (hx : Rat9At ρ 3 kx x) (h12 : ρ.val 12 = some (.string g)) (h13 : ρ.val 13 = some (.int k13 hr)) (hsy : ρ.sym = sy) (hsh : okR9 l = true) (hok : okR9 (l ++ [x]) = true) (hc1 : chkER l = 0) (hc2 : chkER (l ++ [x]) = 0) (ht : (tch l (l ++ [x]) g x.known).is = true) : yn Zf lNy_run E1 ρ lNy_Inv lNy_mu 3 []:=by
 have hN : Zf.N = 110:=rfl
 have hxx : (⟨x.id,x.known,x.from_,x.goods,x.num,x.den,x.cart,x.store,x.of_⟩ : Rat9) = x:=rfl
 have xl {jq vq}:=@xL ρ Zf.N 110 [] jq vq hN
 have xh {jq vq}:=@xH ρ Zf.N 110 [] jq vq hN
 have v1:=xl (jq:=1) h1 (by decide)
 have v3:=xl (jq:=3) hx.h0 (by decide)
 have v4:=xl (jq:=4) hx.h1 (by decide)
 have v5:=xl (jq:=5) hx.h2 (by decide)
 have v6:=xl (jq:=6) hx.h3 (by decide)
 have v7:=xl (jq:=7) hx.h4 (by decide)
 have v8:=xl (jq:=8) hx.h5 (by decide)
 have v9:=xl (jq:=9) hx.h6 (by decide)
 have v10:=xl (jq:=10) hx.h7 (by decide)
 have v11:=xl (jq:=11) hx.h8 (by decide)
 have v12:=xl (jq:=12) h12 (by decide)
 have v13:=xl (jq:=13) h13 (by decide)
 have vs : (ρ.ext Zf.N []).sym = sy:=hsy
 have hF : zf (ρ.ext Zf.N []) lNy3_F:=by
  simp only [lNy3_F,zf,gB,zd,gW,zm,v1,v3,v4,v5,v6,v7,v8,v9,v10,v11,v12,v13,vs,hxx,ze,zi,zq,hsh,hok,hc1,hc2,ht,beq_self_eq_true,and_true,true_and]
 suffices both : y9 (ρ.ext Zf.N []) (lNy3_t.asks lNy3_F)∧zD Zf ρ lNy_Inv lNy_mu 3 [] lNy3_l from zC (lNy3_w _) hF both.1.ok both.2
 refine ⟨?_,?_⟩
 ·simp only [lNy3_t,lNy3_F,gA,gB,zd,gW,zm,v1,v3,v4,v5,v6,v7,v8,v9,v10,v11,v12,v13,vs]
  try simp
 ·simp only [lNy3_l,gE,dZ,gB,zd,g3,gW,zm,v1,v3,v4,v5,v6,v7,v8,v9,v10,v11,v12,v13,vs]
  try simp
theorem lNy_step {ρ : Rho} {l : List Rat9} {x : Rat9} {kx : Nat→IntKind} {g : ByteArray} {hr : Int} {k13 : IntKind} (h1 : ρ.val 1 = some (ratsR l)) (hx : Rat9At ρ 3 kx x) (h12 : ρ.val 12 = some (.string g)) (h13 : ρ.val 13 = some (.int k13 hr)) (hsy : ρ.sym = sy) (hsh : okR9 l = true) (hok : okR9 (l ++ [x]) = true) (hc1 : chkER l = 0) (hc2 : chkER (l ++ [x]) = 0) (ht : (tch l (l ++ [x]) g x.known).is = true) (j : Nat) (vals : List Value) (hI : lNy_Inv j vals) : yn Zf lNy_run E1 ρ lNy_Inv lNy_mu j vals:=by
 obtain ⟨hj,rfl⟩:=hI
 have hc : j = 0∨j = 1∨j = 2∨j = 3:=by omega
 rcases hc with rfl | rfl | rfl | rfl
 ·exact lNy_step0 h1 hx h12 h13 hsy hsh hok hc1 hc2 ht
 ·exact lNy_step1 h1 hx h12 h13 hsy hsh hok hc1 hc2 ht
 ·exact lNy_step2 h1 hx h12 h13 hsy hsh hok hc1 hc2 ht
 ·exact lNy_step3 h1 hx h12 h13 hsy hsh hok hc1 hc2 ht
end Go.Proofs.YtfddkbbjnghefaaGreatDoor.Zs
