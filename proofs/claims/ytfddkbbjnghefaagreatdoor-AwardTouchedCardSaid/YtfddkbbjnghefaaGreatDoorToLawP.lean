/-
  The law AwardTouched: its loop over three hours, where nothing is touched.
-/
import Derived.Test.YtfddkbbjnghefaaGreatDoorToConH
import Derived.Test.YtfddkbbjnghefaaGreatDoorToRunZ
import Derived.Test.YtfddkbbjnghefaaGreatDoorToAccV
import Derived.KernelRfl
set_option linter.unusedSimpArgs false
set_option maxHeartbeats 8000000
set_option linter.unusedVariables false
namespace Go.Proofs.YtfddkbbjnghefaaGreatDoor.Zs
open Go
noncomputable def WTR : Env→yj:=libs [cLib cRoE_con,cLib cRoN_con,cLib cRoY_con]
theorem WTR_ok (F : List (X×Bool)) {r : Rho} (h : r.sym = sy) : zu (E1.with F r) (WTR (E1.with F r)):=libs_ok fun c hc => by
 simp only [List.mem_cons,List.not_mem_nil,or_false] at hc
 rcases hc with rfl | rfl | rfl
 ·exact ya (E:=E1) cRoE_cok F h
 ·exact ya (E:=E1) cRoN_cok F h
 ·exact ya (E:=E1) cRoY_cok F h
def nw_vs : List X:=[]
abbrev qTP0 : X:=.snoc (.var 1) [.op1 (.kind .i64) (.var 3),.op1 (.kind .i64) (.var 4),.op1 (.kind .i64) (.var 5),.var 6,.op1 (.kind .i64) (.var 7),.op1 (.kind .i64) (.var 8),.op1 (.kind .i64) (.var 9),.op1 (.kind .i64) (.var 10),.op1 (.kind .i64) (.var 11)]
abbrev qTP1 : X:=.snoc (.var 1) [.op1 (.kind .i64) (.var 3),.op1 (.kind .i64) (.var 4),.op1 (.kind .i64) (.var 5),.var 6,.op1 (.kind .i64) (.var 7),.op1 (.kind .i64) (.var 8),.op1 (.kind .i64) (.var 9),.op1 (.kind .i64) (.var 10),.op1 (.kind .i64) (.var 11)]
abbrev qTP2 : X:=.op2 .eq (.app 205 [.var 1,.var 12,.num 0,.var 4,.num 0]) (.app 205 [qTP0,.var 12,.num 0,.var 4,.num 0])
abbrev qTP3 : X:=.op2 .eq (.app 205 [.var 1,.var 12,.num 0,.var 4,.num 1]) (.app 205 [qTP0,.var 12,.num 0,.var 4,.num 1])
abbrev qTP4 : X:=.op2 .eq (.app 205 [.var 1,.var 12,.num 0,.var 4,.num 2]) (.app 205 [qTP0,.var 12,.num 0,.var 4,.num 2])
abbrev qTP5 : X:=.app 213 [.var 1,qTP0,.var 12,.var 4]
abbrev qTP6 : X:=.op2 .eqs (.app 205 [.var 1,.var 12,.num 0,.var 4,.num 3]) (.app 205 [qTP0,.var 12,.num 0,.var 4,.num 3])
abbrev qTP7 : X:=.op2 .eq (.app 200 [.var 1]) (.num 0)
abbrev qTP8 : X:=.op2 .eq (.app 205 [.var 1,.var 12,.num 0,.var 4,.num 4]) (.app 205 [qTP0,.var 12,.num 0,.var 4,.num 4])
abbrev qTP9 : X:=.op2 .eq (.app 200 [qTP0]) (.num 0)
abbrev qTP10 : X:=.op2 .eq (.app 205 [.var 1,.var 12,.num 0,.var 4,.num 5]) (.app 205 [qTP0,.var 12,.num 0,.var 4,.num 5])
abbrev qTP11 : X:=.app 204 [.var 1,.var 12,.num 0,.var 4]
abbrev qTP12 : X:=.app 204 [qTP0,.var 12,.num 0,.var 4]
abbrev qTP13 : X:=.op2 .eq (.app 205 [.var 1,.var 12,.var 13,.var 4,.num 0]) (.app 205 [qTP0,.var 12,.var 13,.var 4,.num 0])
abbrev qTP14 : X:=.op2 .eq (.app 205 [.var 1,.var 12,.num 0,.var 4,.num 6]) (.app 205 [qTP0,.var 12,.num 0,.var 4,.num 6])
abbrev qTP15 : X:=.op2 .eq (.app 205 [.var 1,.var 12,.var 13,.var 4,.num 1]) (.app 205 [qTP0,.var 12,.var 13,.var 4,.num 1])
abbrev qTP16 : X:=.op2 .eq (.app 205 [.var 1,.var 12,.var 13,.var 4,.num 2]) (.app 205 [qTP0,.var 12,.var 13,.var 4,.num 2])
abbrev qTP17 : X:=.op2 .eq (.app 205 [.var 1,.var 12,.num 0,.var 4,.num 7]) (.app 205 [qTP0,.var 12,.num 0,.var 4,.num 7])
abbrev qTP18 : X:=.op2 .eqs (.app 205 [.var 1,.var 12,.var 13,.var 4,.num 3]) (.app 205 [qTP0,.var 12,.var 13,.var 4,.num 3])
abbrev qTP19 : X:=.op2 .eq (.app 205 [.var 1,.var 12,.var 13,.var 4,.num 4]) (.app 205 [qTP0,.var 12,.var 13,.var 4,.num 4])
abbrev qTP20 : X:=.op2 .eq (.app 205 [.var 1,.var 12,.num 0,.var 4,.num 8]) (.app 205 [qTP0,.var 12,.num 0,.var 4,.num 8])
abbrev qTP21 : X:=.app 202 [.var 1]
abbrev qTP22 : X:=.app 204 [.var 1,.var 12,.var 13,.var 4]
abbrev qTP23 : X:=.app 204 [qTP0,.var 12,.var 13,.var 4]
abbrev qTP24 : X:=.op2 .eq (.app 205 [.var 1,.var 12,.var 13,.var 4,.num 5]) (.app 205 [qTP0,.var 12,.var 13,.var 4,.num 5])
abbrev qTP25 : X:=.op2 .eq (.app 205 [.var 1,.var 12,.var 13,.var 4,.num 6]) (.app 205 [qTP0,.var 12,.var 13,.var 4,.num 6])
abbrev qTP26 : X:=.app 202 [qTP0]
abbrev qTP27 : X:=.op2 .lt (.num 1000000) (.var 13)
abbrev qTP28 : X:=.op2 .eq (.app 205 [.var 1,.var 12,.var 13,.var 4,.num 7]) (.app 205 [qTP0,.var 12,.var 13,.var 4,.num 7])
abbrev qTP29 : X:=.op2 .lt (.var 13) (.num 0)
abbrev qTP30 : X:=.op2 .eq (.var 11) (.num 0)
abbrev qTP31 : X:=.op2 .eq (.app 205 [.var 1,.var 12,.var 13,.var 4,.num 8]) (.app 205 [qTP0,.var 12,.var 13,.var 4,.num 8])
abbrev qTP32 : X:=.op2 .eq (.app 205 [.var 1,.var 12,.num 0,.var 4,.num 0]) (.num 0)
abbrev qTP33 : X:=.op2 .eq (.num 0) (.app 205 [qTP0,.var 12,.num 0,.var 4,.num 0])
abbrev qTP34 : X:=.op2 .eq (.app 205 [.var 1,.var 12,.var 13,.var 4,.num 0]) (.num 0)
abbrev qTP35 : X:=.app 213 [.var 1,qTP1,.var 12,.var 4]
abbrev qTP36 : X:=.op2 .eq (.num 0) (.app 205 [qTP0,.var 12,.var 13,.var 4,.num 0])
abbrev qTP37 : X:=.op2 .eq (.app 200 [.var 1]) (.num 0)
abbrev qTP38 : X:=.op2 .eq (.app 200 [qTP1]) (.num 0)
abbrev qTP39 : X:=.op1 .len (.var 1)
abbrev qTP40 : X:=.op2 .add qTP39 (.num 1)
abbrev qTPf0 : List (X×Bool):=[(qTP21,true),(qTP26,true),(qTP7,true),(qTP9,true),(qTP5,false)]
abbrev qTPf6 : List (X×Bool):=(qTP2,true) :: (qTP12,true) :: (qTP11,true) :: qTPf0
abbrev qTPf1 : List (X×Bool):=(qTP6,true) :: (qTP4,true) :: (qTP3,true) :: qTPf6
abbrev qTPf5 : List (X×Bool):=(qTP27,false) :: (qTP29,false) :: qTPf0
abbrev qTPf9 : List (X×Bool):=(qTP13,true) :: (qTP23,true) :: (qTP22,true) :: qTPf5
abbrev qTPf2 : List (X×Bool):=(qTP16,true) :: (qTP15,true) :: qTPf9
abbrev qTPf3 : List (X×Bool):=(qTP14,true) :: (qTP10,true) :: (qTP8,true) :: qTPf1
abbrev qTPf4 : List (X×Bool):=[(.app 202 [.var 1],true),(.app 202 [qTP1],true),(qTP37,true),(qTP38,true),(qTP35,false)]
abbrev qTPf7 : List (X×Bool):=(qTP25,true) :: (qTP24,true) :: (qTP19,true) :: (qTP18,true) :: qTPf2
abbrev qTPf8 : List (X×Bool):=(qTP12,false) :: (qTP11,false) :: qTPf0
abbrev qTPf10 : List (X×Bool):=(qTP12,false) :: (qTP11,true) :: qTPf0
abbrev qTPf11 : List (X×Bool):=(qTP12,true) :: (qTP11,false) :: qTPf0
abbrev qTPf12 : List (X×Bool):=(qTP20,true) :: (qTP17,true) :: qTPf3
noncomputable def Zg : LoopD:={ N:=110,M:=121,size:=sizeOfF 5,reads:=[(60,.rows 9 ratSch (.var 0) (.var 1) false 26),(101,.rows 9 ratSch (.num 0) qTP1 true 26),(100,.cells [.sint .i64 (.var 3),.sint .i64 (.var 4),.sint .i64 (.var 5),.sstr (.var 6),.sint .i64 (.var 7),.sint .i64 (.var 8),.sint .i64 (.var 9),.sint .i64 (.var 10),.sint .i64 (.var 11)] 26),(102,.cells [.sint .i64 (.var 13),.int .i64 0,.int .i64 0] 3)],pats:=[{ slots:=[(0,.slx 60 9 (.var 0) (.num 0) qTP39 (.var 2)),(2,.sstr (.var 12)),(3,.sint .i64 (.var 13)),(5,.ptr 100 0),(9,.slo 101 9 qTP40),(11,.int .i64 0),(12,.int .i64 0),(13,.bool false),(15,.slice 102 0 3 3 true),(16,.int .i64 0)],heap:=[] },{ slots:=[(0,.slx 60 9 (.var 0) (.num 0) qTP39 (.var 2)),(2,.sstr (.var 12)),(3,.sint .i64 (.var 13)),(5,.ptr 100 0),(9,.slo 101 9 qTP40),(11,.int .i64 0),(12,.int .i64 0),(13,.bool false),(15,.slice 102 0 3 3 true),(16,.int .i64 1)],heap:=[] },{ slots:=[(0,.slx 60 9 (.var 0) (.num 0) qTP39 (.var 2)),(2,.sstr (.var 12)),(3,.sint .i64 (.var 13)),(5,.ptr 100 0),(9,.slo 101 9 qTP40),(11,.int .i64 0),(12,.int .i64 0),(13,.bool false),(15,.slice 102 0 3 3 true),(16,.int .i64 2)],heap:=[] },{ slots:=[(0,.slx 60 9 (.var 0) (.num 0) qTP39 (.var 2)),(2,.sstr (.var 12)),(3,.sint .i64 (.var 13)),(5,.ptr 100 0),(9,.slo 101 9 qTP40),(11,.int .i64 0),(12,.int .i64 0),(13,.bool false),(15,.slice 102 0 3 3 true),(16,.int .i64 3)],heap:=[] }],exits:=[(.exit 0,{ slots:=[(0,.slx 60 9 (.var 0) (.num 0) qTP39 (.var 2)),(2,.sstr (.var 12)),(3,.sint .i64 (.var 13)),(5,.ptr 100 0)],heap:=[] }),(.ret,{ slots:=[(8,.bool false)],heap:=[],guard:=.boo false })],own:=[],pre:=[(.app 202 [.var 1],true),(.app 202 [qTP1],true),(qTP37,true),(qTP38,true),(qTP35,false)],dfs:=[] }
noncomputable def lNw_run : Env→AF→ASt→Option (List Out):=bodyRun WTR 9 (fun _ => noLoop) (yA Tryz.prog 5 0)
def lNw0_F : List (X×Bool):=qTPf4
def lNw1_F : List (X×Bool):=qTPf4
def lNw2_F : List (X×Bool):=qTPf4
def lNw3_F : List (X×Bool):=qTPf4
noncomputable def lNw0_t : FTree:=(.fork qTP29 (.leaf [.again 1 []]) (.fork qTP27 (.leaf [.again 1 []]) (.fork qTP22 (.fork qTP23 (.fork qTP13 (.fork qTP15 (.fork qTP16 (.fork qTP18 (.fork qTP19 (.fork qTP24 (.fork qTP25 (.fork qTP28 (.fork qTP31 (.fork qTP30 (.leaf [.again 1 []]) (.leaf [.again 1 []])) .bad) .bad) .bad) .bad) .bad) .bad) .bad) .bad) .bad) (.fork qTP34 .bad (.leaf [.leave 1 []]))) (.fork qTP23 (.fork qTP36 .bad (.leaf [.leave 1 []])) (.fork qTP30 (.leaf [.again 1 []]) (.leaf [.again 1 []]))))))
noncomputable def lNw0_l : List (List (X×Bool)×Option (List (Tgt×zp))):=[((qTP29,true) :: qTPf0,some [(.again 1 [],[])]),
 ((qTP27,true) :: (qTP29,false) :: qTPf0,some [(.again 1 [],[])]),
 ((qTP30,true) :: (qTP31,true) :: (qTP28,true) :: qTPf7,some [(.again 1 [],[])]),
 ((qTP30,false) :: (qTP31,true) :: (qTP28,true) :: qTPf7,some [(.again 1 [],[])]),
 ((qTP31,false) :: (qTP28,true) :: qTPf7,none),
 ((qTP28,false) :: qTPf7,none),
 ((qTP25,false) :: (qTP24,true) :: (qTP19,true) :: (qTP18,true) :: qTPf2,none),
 ((qTP24,false) :: (qTP19,true) :: (qTP18,true) :: qTPf2,none),
 ((qTP19,false) :: (qTP18,true) :: qTPf2,none),
 ((qTP18,false) :: qTPf2,none),
 ((qTP16,false) :: (qTP15,true) :: qTPf9,none),
 ((qTP15,false) :: qTPf9,none),
 ((qTP13,false) :: (qTP23,true) :: (qTP22,true) :: qTPf5,none),
 ((qTP34,true) :: (qTP23,false) :: (qTP22,true) :: qTPf5,none),
 ((qTP34,false) :: (qTP23,false) :: (qTP22,true) :: qTPf5,some [(.leave 1 [],[(.boo false,.boo true)])]),
 ((qTP36,true) :: (qTP23,true) :: (qTP22,false) :: qTPf5,none),
 ((qTP36,false) :: (qTP23,true) :: (qTP22,false) :: qTPf5,some [(.leave 1 [],[(.boo false,.boo true)])]),
 ((qTP30,true) :: (qTP23,false) :: (qTP22,false) :: qTPf5,some [(.again 1 [],[])]),
 ((qTP30,false) :: (qTP23,false) :: (qTP22,false) :: qTPf5,some [(.again 1 [],[])])]
theorem lNw0_w (r : Rho) : Zg.ways lNw_run E1 r 0 lNw0_F lNw0_t = some lNw0_l:=by kernel_rfl
noncomputable def lNw1_t : FTree:=(.fork qTP11 (.fork qTP12 (.fork qTP2 (.fork qTP3 (.fork qTP4 (.fork qTP6 (.fork qTP8 (.fork qTP10 (.fork qTP14 (.fork qTP17 (.fork qTP20 (.fork qTP30 (.leaf [.again 2 []]) (.leaf [.again 2 []])) .bad) .bad) .bad) .bad) .bad) .bad) .bad) .bad) .bad) (.fork qTP32 .bad (.leaf [.leave 1 []]))) (.fork qTP12 (.fork qTP33 .bad (.leaf [.leave 1 []])) (.fork qTP30 (.leaf [.again 2 []]) (.leaf [.again 2 []]))))
noncomputable def lNw1_l : List (List (X×Bool)×Option (List (Tgt×zp))):=[((qTP30,true) :: qTPf12,some [(.again 2 [],[])]),
 ((qTP30,false) :: qTPf12,some [(.again 2 [],[])]),
 ((qTP20,false) :: (qTP17,true) :: qTPf3,none),
 ((qTP17,false) :: qTPf3,none),
 ((qTP14,false) :: (qTP10,true) :: (qTP8,true) :: qTPf1,none),
 ((qTP10,false) :: (qTP8,true) :: qTPf1,none),
 ((qTP8,false) :: qTPf1,none),
 ((qTP6,false) :: (qTP4,true) :: (qTP3,true) :: qTPf6,none),
 ((qTP4,false) :: (qTP3,true) :: qTPf6,none),
 ((qTP3,false) :: qTPf6,none),
 ((qTP2,false) :: (qTP12,true) :: (qTP11,true) :: qTPf0,none),
 ((qTP32,true) :: qTPf10,none),
 ((qTP32,false) :: qTPf10,some [(.leave 1 [],[(.boo false,.boo true)])]),
 ((qTP33,true) :: qTPf11,none),
 ((qTP33,false) :: qTPf11,some [(.leave 1 [],[(.boo false,.boo true)])]),
 ((qTP30,true) :: qTPf8,some [(.again 2 [],[])]),
 ((qTP30,false) :: qTPf8,some [(.again 2 [],[])])]
theorem lNw1_w (r : Rho) : Zg.ways lNw_run E1 r 1 lNw1_F lNw1_t = some lNw1_l:=by kernel_rfl
noncomputable def lNw2_t : FTree:=(.fork qTP11 (.fork qTP12 (.fork qTP2 (.fork qTP3 (.fork qTP4 (.fork qTP6 (.fork qTP8 (.fork qTP10 (.fork qTP14 (.fork qTP17 (.fork qTP20 (.fork qTP30 (.leaf [.again 3 []]) (.leaf [.again 3 []])) .bad) .bad) .bad) .bad) .bad) .bad) .bad) .bad) .bad) (.fork qTP32 .bad (.leaf [.leave 1 []]))) (.fork qTP12 (.fork qTP33 .bad (.leaf [.leave 1 []])) (.fork qTP30 (.leaf [.again 3 []]) (.leaf [.again 3 []]))))
noncomputable def lNw2_l : List (List (X×Bool)×Option (List (Tgt×zp))):=[((qTP30,true) :: qTPf12,some [(.again 3 [],[])]),
 ((qTP30,false) :: qTPf12,some [(.again 3 [],[])]),
 ((qTP20,false) :: (qTP17,true) :: qTPf3,none),
 ((qTP17,false) :: qTPf3,none),
 ((qTP14,false) :: (qTP10,true) :: (qTP8,true) :: qTPf1,none),
 ((qTP10,false) :: (qTP8,true) :: qTPf1,none),
 ((qTP8,false) :: qTPf1,none),
 ((qTP6,false) :: (qTP4,true) :: (qTP3,true) :: qTPf6,none),
 ((qTP4,false) :: (qTP3,true) :: qTPf6,none),
 ((qTP3,false) :: qTPf6,none),
 ((qTP2,false) :: (qTP12,true) :: (qTP11,true) :: qTPf0,none),
 ((qTP32,true) :: qTPf10,none),
 ((qTP32,false) :: qTPf10,some [(.leave 1 [],[(.boo false,.boo true)])]),
 ((qTP33,true) :: qTPf11,none),
 ((qTP33,false) :: qTPf11,some [(.leave 1 [],[(.boo false,.boo true)])]),
 ((qTP30,true) :: qTPf8,some [(.again 3 [],[])]),
 ((qTP30,false) :: qTPf8,some [(.again 3 [],[])])]
theorem lNw2_w (r : Rho) : Zg.ways lNw_run E1 r 2 lNw2_F lNw2_t = some lNw2_l:=by kernel_rfl
noncomputable def lNw3_t : FTree:=(.leaf [.leave 0 []])
noncomputable def lNw3_l : List (List (X×Bool)×Option (List (Tgt×zp))):=[(qTPf0,some [(.leave 0 [],[])])]
theorem lNw3_w (r : Rho) : Zg.ways lNw_run E1 r 3 lNw3_F lNw3_t = some lNw3_l:=by kernel_rfl
theorem lNw_ok : Zg.ok = true:=by kernel_rfl
theorem zX (a : ByteArray) : (a == a) = true:=by rw [beq_toListBytes]; simp
def lNw_Inv (j : Nat) (vals : List Value) : Prop:=j≤3∧vals = []
def lNw_mu (j : Nat) (_ : List Value) : Nat:=3 - j
theorem lNw_step0 {ρ : Rho} {l : List Rat9} {x : Rat9} {kx : Nat→IntKind} {g : ByteArray} {hr : Int} {k13 : IntKind} (h1 : ρ.val 1 = some (ratsR l)) (hx : Rat9At ρ 3 kx x) (h12 : ρ.val 12 = some (.string g)) (h13 : ρ.val 13 = some (.int k13 hr)) (hsy : ρ.sym = sy) (hsh : okR9 l = true) (hok : okR9 (l ++ [x]) = true) (hc1 : chkER l = 0) (hc2 : chkER (l ++ [x]) = 0) (ht : (tch l (l ++ [x]) g x.known).is = false) : yn Zg lNw_run E1 ρ lNw_Inv lNw_mu 0 []:=by
 have hN : Zg.N = 110:=rfl
 have hxx : (⟨x.id,x.known,x.from_,x.goods,x.num,x.den,x.cart,x.store,x.of_⟩ : Rat9) = x:=rfl
 have xl {jq vq}:=@xL ρ Zg.N 110 [] jq vq hN
 have xh {jq vq}:=@xH ρ Zg.N 110 [] jq vq hN
 have v1:=xl (jq:=1) h1 (by decide)
 have v3:=xl (jq:=3) hx.h0 (by decide)
 have v4:=xl (jq:=4) hx.h1 (by decide)
 have v5:=xl (jq:=5) hx.h2 (by decide)
 have v6:=xl (jq:=6) hx.h3 (by decide)
 have v7:=xl (jq:=7) hx.h4 (by decide)
 have v8:=xl (jq:=8) hx.h5 (by decide)
 have v9:=xl (jq:=9) hx.h6 (by decide)
 have v10:=xl (jq:=10) hx.h7 (by decide)
 have v11:=xl (jq:=11) hx.h8 (by decide)
 have v12:=xl (jq:=12) h12 (by decide)
 have v13:=xl (jq:=13) h13 (by decide)
 have vs : (ρ.ext Zg.N []).sym = sy:=hsy
 have hF : zf (ρ.ext Zg.N []) lNw0_F:=by
  simp only [lNw0_F,zf,gB,zd,gW,zm,v1,v3,v4,v5,v6,v7,v8,v9,v10,v11,v12,v13,vs,hxx,ze,zi,zq,hsh,hok,hc1,hc2,ht,beq_self_eq_true,and_true,true_and]
 suffices both : y9 (ρ.ext Zg.N []) (lNw0_t.asks lNw0_F)∧zD Zg ρ lNw_Inv lNw_mu 0 [] lNw0_l from zC (lNw0_w _) hF both.1.ok both.2
 have go : ∃ vals',lNw_Inv 1 vals'∧lNw_mu 1 vals' < lNw_mu 0 []:=⟨[],⟨by omega,rfl⟩,by simp [lNw_mu]⟩
 obtain ⟨t1,t2⟩:=touch_says hc2 g x.known
 obtain ⟨_,_,a7⟩:=t1 ht
 have bs : x.of_ = 0→hr < x.from_→inF (l ++ [x]) g hr x.known = inF l g hr x.known:=fun a b => before_says a g b
 have hlm : idAt l g hr x.known = idAt (l ++ [x]) g hr x.known→inF l g hr x.known = inF (l ++ [x]) g hr x.known:=inF_same hc2 hc1 (fun y hy => List.mem_append_left _ hy)
 cases pin : inF l g hr x.known with
 | none =>
   have idl : idAt l g hr x.known = 0:=by unfold idAt; rw [pin]; rfl
   have p0 : za l g hr x.known 0 = some (.int .i64 0):=by unfold za; rw [pin]; rfl
   have p1 : za l g hr x.known 1 = some (.int .i64 0):=by unfold za; rw [pin]; rfl
   have p2 : za l g hr x.known 2 = some (.int .i64 0):=by unfold za; rw [pin]; rfl
   have p3 : za l g hr x.known 3 = some (.string (z7 [])):=by unfold za; rw [pin]; rfl
   have p4 : za l g hr x.known 4 = some (.int .i64 0):=by unfold za; rw [pin]; rfl
   have p5 : za l g hr x.known 5 = some (.int .i64 0):=by unfold za; rw [pin]; rfl
   have p6 : za l g hr x.known 6 = some (.int .i64 0):=by unfold za; rw [pin]; rfl
   have p7 : za l g hr x.known 7 = some (.int .i64 0):=by unfold za; rw [pin]; rfl
   have p8 : za l g hr x.known 8 = some (.int .i64 0):=by unfold za; rw [pin]; rfl
   cases qin : inF (l ++ [x]) g hr x.known with
   | none =>
     have idm : idAt (l ++ [x]) g hr x.known = 0:=by unfold idAt; rw [qin]; rfl
     have q0 : za (l ++ [x]) g hr x.known 0 = some (.int .i64 0):=by unfold za; rw [qin]; rfl
     have q1 : za (l ++ [x]) g hr x.known 1 = some (.int .i64 0):=by unfold za; rw [qin]; rfl
     have q2 : za (l ++ [x]) g hr x.known 2 = some (.int .i64 0):=by unfold za; rw [qin]; rfl
     have q3 : za (l ++ [x]) g hr x.known 3 = some (.string (z7 [])):=by unfold za; rw [qin]; rfl
     have q4 : za (l ++ [x]) g hr x.known 4 = some (.int .i64 0):=by unfold za; rw [qin]; rfl
     have q5 : za (l ++ [x]) g hr x.known 5 = some (.int .i64 0):=by unfold za; rw [qin]; rfl
     have q6 : za (l ++ [x]) g hr x.known 6 = some (.int .i64 0):=by unfold za; rw [qin]; rfl
     have q7 : za (l ++ [x]) g hr x.known 7 = some (.int .i64 0):=by unfold za; rw [qin]; rfl
     have q8 : za (l ++ [x]) g hr x.known 8 = some (.int .i64 0):=by unfold za; rw [qin]; rfl
     refine ⟨?_,?_⟩
     all_goals (simp only [lNw0_t,lNw0_F,lNw0_l,gA,gB,zd,gW,zm,zR,zD,zh,zk,yw,yy,zr,zE,dZ,g3,v1,v3,v4,v5,v6,v7,v8,v9,v10,v11,v12,v13,vs,h1,h12,h13,hsy,hxx,zi,ze,zF,zl,zx,zw,zq,hsh,hok,hc1,hc2,ht,pin,qin,Option.isSome_none,Option.isSome_some,p0,p1,p2,p3,p4,p5,p6,p7,p8,q0,q1,q2,q3,q4,q5,q6,q7,q8,zX,reduceCtorEq,Bool.false_eq_true,false_implies,true_implies,and_true,true_and])
     all_goals (clear v1 v3 v4 v5 v6 v7 v8 v9 v10 v11 v12 v13 vs h1 hx h12 h13 hsy hF p0 p1 p2 p3 p4 p5 p6 p7 p8 q0 q1 q2 q3 q4 q5 q6 q7 q8)
     all_goals ((repeat' apply And.intro) <;> intros <;> first
      | trivial
      | contradiction
      | (exact go)
      | (exfalso; omega)
      | (exfalso; have:=d1 (by omega); omega)
      | (exfalso; exact d3 (by assumption) (by assumption))
      | (simp_all; done))
   | some z =>
     have idm : idAt (l ++ [x]) g hr x.known = z.id:=by unfold idAt; rw [qin]; rfl
     have hz:=y7 hc2 qin
     have q0 : za (l ++ [x]) g hr x.known 0 = some (.int .i64 z.id):=by unfold za; rw [qin]; rfl
     have q1 : za (l ++ [x]) g hr x.known 1 = some (.int .i64 z.known):=by unfold za; rw [qin]; rfl
     have q2 : za (l ++ [x]) g hr x.known 2 = some (.int .i64 z.from_):=by unfold za; rw [qin]; rfl
     have q3 : za (l ++ [x]) g hr x.known 3 = some (.string z.goods):=by unfold za; rw [qin]; rfl
     have q4 : za (l ++ [x]) g hr x.known 4 = some (.int .i64 z.num):=by unfold za; rw [qin]; rfl
     have q5 : za (l ++ [x]) g hr x.known 5 = some (.int .i64 z.den):=by unfold za; rw [qin]; rfl
     have q6 : za (l ++ [x]) g hr x.known 6 = some (.int .i64 z.cart):=by unfold za; rw [qin]; rfl
     have q7 : za (l ++ [x]) g hr x.known 7 = some (.int .i64 z.store):=by unfold za; rw [qin]; rfl
     have q8 : za (l ++ [x]) g hr x.known 8 = some (.int .i64 z.of_):=by unfold za; rw [qin]; rfl
     have hd : idAt l g hr x.known≠idAt (l ++ [x]) g hr x.known:=by rw [idl,idm]; first | assumption | exact Ne.symm (by assumption)
     have d0 : ¬ hr≤1000000:=fun b => hd (a7 hr b)
     refine ⟨?_,?_⟩
     all_goals (simp only [lNw0_t,lNw0_F,lNw0_l,gA,gB,zd,gW,zm,zR,zD,zh,zk,yw,yy,zr,zE,dZ,g3,v1,v3,v4,v5,v6,v7,v8,v9,v10,v11,v12,v13,vs,h1,h12,h13,hsy,hxx,zi,ze,zF,zl,zx,zw,zq,hsh,hok,hc1,hc2,ht,pin,qin,Option.isSome_none,Option.isSome_some,p0,p1,p2,p3,p4,p5,p6,p7,p8,q0,q1,q2,q3,q4,q5,q6,q7,q8,zX,reduceCtorEq,Bool.false_eq_true,false_implies,true_implies,and_true,true_and])
     all_goals (clear v1 v3 v4 v5 v6 v7 v8 v9 v10 v11 v12 v13 vs h1 hx h12 h13 hsy hF p0 p1 p2 p3 p4 p5 p6 p7 p8 q0 q1 q2 q3 q4 q5 q6 q7 q8)
     all_goals ((repeat' apply And.intro) <;> intros <;> first
      | trivial
      | contradiction
      | (exact go)
      | (exfalso; omega)
      | (exfalso; have:=d1 (by omega); omega)
      | (exfalso; exact d3 (by assumption) (by assumption))
      | (simp_all; done))
 | some y =>
   have idl : idAt l g hr x.known = y.id:=by unfold idAt; rw [pin]; rfl
   have hy:=y7 hc1 pin
   have p0 : za l g hr x.known 0 = some (.int .i64 y.id):=by unfold za; rw [pin]; rfl
   have p1 : za l g hr x.known 1 = some (.int .i64 y.known):=by unfold za; rw [pin]; rfl
   have p2 : za l g hr x.known 2 = some (.int .i64 y.from_):=by unfold za; rw [pin]; rfl
   have p3 : za l g hr x.known 3 = some (.string y.goods):=by unfold za; rw [pin]; rfl
   have p4 : za l g hr x.known 4 = some (.int .i64 y.num):=by unfold za; rw [pin]; rfl
   have p5 : za l g hr x.known 5 = some (.int .i64 y.den):=by unfold za; rw [pin]; rfl
   have p6 : za l g hr x.known 6 = some (.int .i64 y.cart):=by unfold za; rw [pin]; rfl
   have p7 : za l g hr x.known 7 = some (.int .i64 y.store):=by unfold za; rw [pin]; rfl
   have p8 : za l g hr x.known 8 = some (.int .i64 y.of_):=by unfold za; rw [pin]; rfl
   cases qin : inF (l ++ [x]) g hr x.known with
   | none =>
     have idm : idAt (l ++ [x]) g hr x.known = 0:=by unfold idAt; rw [qin]; rfl
     have q0 : za (l ++ [x]) g hr x.known 0 = some (.int .i64 0):=by unfold za; rw [qin]; rfl
     have q1 : za (l ++ [x]) g hr x.known 1 = some (.int .i64 0):=by unfold za; rw [qin]; rfl
     have q2 : za (l ++ [x]) g hr x.known 2 = some (.int .i64 0):=by unfold za; rw [qin]; rfl
     have q3 : za (l ++ [x]) g hr x.known 3 = some (.string (z7 [])):=by unfold za; rw [qin]; rfl
     have q4 : za (l ++ [x]) g hr x.known 4 = some (.int .i64 0):=by unfold za; rw [qin]; rfl
     have q5 : za (l ++ [x]) g hr x.known 5 = some (.int .i64 0):=by unfold za; rw [qin]; rfl
     have q6 : za (l ++ [x]) g hr x.known 6 = some (.int .i64 0):=by unfold za; rw [qin]; rfl
     have q7 : za (l ++ [x]) g hr x.known 7 = some (.int .i64 0):=by unfold za; rw [qin]; rfl
     have q8 : za (l ++ [x]) g hr x.known 8 = some (.int .i64 0):=by unfold za; rw [qin]; rfl
     have hd : idAt l g hr x.known≠idAt (l ++ [x]) g hr x.known:=by rw [idl,idm]; first | assumption | exact Ne.symm (by assumption)
     have d0 : ¬ hr≤1000000:=fun b => hd (a7 hr b)
     refine ⟨?_,?_⟩
     all_goals (simp only [lNw0_t,lNw0_F,lNw0_l,gA,gB,zd,gW,zm,zR,zD,zh,zk,yw,yy,zr,zE,dZ,g3,v1,v3,v4,v5,v6,v7,v8,v9,v10,v11,v12,v13,vs,h1,h12,h13,hsy,hxx,zi,ze,zF,zl,zx,zw,zq,hsh,hok,hc1,hc2,ht,pin,qin,Option.isSome_none,Option.isSome_some,p0,p1,p2,p3,p4,p5,p6,p7,p8,q0,q1,q2,q3,q4,q5,q6,q7,q8,zX,reduceCtorEq,Bool.false_eq_true,false_implies,true_implies,and_true,true_and])
     all_goals (clear v1 v3 v4 v5 v6 v7 v8 v9 v10 v11 v12 v13 vs h1 hx h12 h13 hsy hF p0 p1 p2 p3 p4 p5 p6 p7 p8 q0 q1 q2 q3 q4 q5 q6 q7 q8)
     all_goals ((repeat' apply And.intro) <;> intros <;> first
      | trivial
      | contradiction
      | (exact go)
      | (exfalso; omega)
      | (exfalso; have:=d1 (by omega); omega)
      | (exfalso; exact d3 (by assumption) (by assumption))
      | (simp_all; done))
   | some z =>
     have idm : idAt (l ++ [x]) g hr x.known = z.id:=by unfold idAt; rw [qin]; rfl
     have hz:=y7 hc2 qin
     have q0 : za (l ++ [x]) g hr x.known 0 = some (.int .i64 z.id):=by unfold za; rw [qin]; rfl
     have q1 : za (l ++ [x]) g hr x.known 1 = some (.int .i64 z.known):=by unfold za; rw [qin]; rfl
     have q2 : za (l ++ [x]) g hr x.known 2 = some (.int .i64 z.from_):=by unfold za; rw [qin]; rfl
     have q3 : za (l ++ [x]) g hr x.known 3 = some (.string z.goods):=by unfold za; rw [qin]; rfl
     have q4 : za (l ++ [x]) g hr x.known 4 = some (.int .i64 z.num):=by unfold za; rw [qin]; rfl
     have q5 : za (l ++ [x]) g hr x.known 5 = some (.int .i64 z.den):=by unfold za; rw [qin]; rfl
     have q6 : za (l ++ [x]) g hr x.known 6 = some (.int .i64 z.cart):=by unfold za; rw [qin]; rfl
     have q7 : za (l ++ [x]) g hr x.known 7 = some (.int .i64 z.store):=by unfold za; rw [qin]; rfl
     have q8 : za (l ++ [x]) g hr x.known 8 = some (.int .i64 z.of_):=by unfold za; rw [qin]; rfl
     have hyz : y.id = z.id→y = z:=fun e => Option.some.inj (by rw [← pin,← qin]; exact hlm (by rw [idl,idm,e]))
     by_cases eyz : y = z
     ·subst eyz
      refine ⟨?_,?_⟩
      all_goals (simp only [lNw0_t,lNw0_F,lNw0_l,gA,gB,zd,gW,zm,zR,zD,zh,zk,yw,yy,zr,zE,dZ,g3,v1,v3,v4,v5,v6,v7,v8,v9,v10,v11,v12,v13,vs,h1,h12,h13,hsy,hxx,zi,ze,zF,zl,zx,zw,zq,hsh,hok,hc1,hc2,ht,pin,qin,Option.isSome_none,Option.isSome_some,p0,p1,p2,p3,p4,p5,p6,p7,p8,q0,q1,q2,q3,q4,q5,q6,q7,q8,zX,reduceCtorEq,Bool.false_eq_true,false_implies,true_implies,and_true,true_and])
      all_goals (clear v1 v3 v4 v5 v6 v7 v8 v9 v10 v11 v12 v13 vs h1 hx h12 h13 hsy hF p0 p1 p2 p3 p4 p5 p6 p7 p8 q0 q1 q2 q3 q4 q5 q6 q7 q8)
      all_goals ((repeat' apply And.intro) <;> intros <;> first
       | trivial
       | contradiction
       | (exact go)
       | (exfalso; omega)
       | (exfalso; have:=d1 (by omega); omega)
       | (exfalso; exact d3 (by assumption) (by assumption))
       | (simp_all; done))
     ·have nid : ¬ y.id = z.id:=fun e => eyz (hyz e)
      have hd : idAt l g hr x.known≠idAt (l ++ [x]) g hr x.known:=by rw [idl,idm]; first | assumption | exact Ne.symm (by assumption)
      have d0 : ¬ hr≤1000000:=fun b => hd (a7 hr b)
      refine ⟨?_,?_⟩
      all_goals (simp only [lNw0_t,lNw0_F,lNw0_l,gA,gB,zd,gW,zm,zR,zD,zh,zk,yw,yy,zr,zE,dZ,g3,v1,v3,v4,v5,v6,v7,v8,v9,v10,v11,v12,v13,vs,h1,h12,h13,hsy,hxx,zi,ze,zF,zl,zx,zw,zq,hsh,hok,hc1,hc2,ht,pin,qin,Option.isSome_none,Option.isSome_some,p0,p1,p2,p3,p4,p5,p6,p7,p8,q0,q1,q2,q3,q4,q5,q6,q7,q8,zX,reduceCtorEq,Bool.false_eq_true,false_implies,true_implies,and_true,true_and])
      all_goals (clear v1 v3 v4 v5 v6 v7 v8 v9 v10 v11 v12 v13 vs h1 hx h12 h13 hsy hF p0 p1 p2 p3 p4 p5 p6 p7 p8 q0 q1 q2 q3 q4 q5 q6 q7 q8)
      all_goals ((repeat' apply And.intro) <;> intros <;> first
       | trivial
       | contradiction
       | (exact go)
       | (exfalso; omega)
       | (exfalso; have:=d1 (by omega); omega)
       | (exfalso; exact d3 (by assumption) (by assumption))
       | (simp_all; done))
theorem lNw_step1 {ρ : Rho} {l : List Rat9} {x : Rat9} {kx : Nat→IntKind} {g : ByteArray} {hr : Int} {k13 : IntKind} (h1 : ρ.val 1 = some (ratsR l)) (hx : Rat9At ρ 3 kx x) (h12 : ρ.val 12 = some (.string g)) (h13 : ρ.val 13 = some (.int k13 hr)) (hsy : ρ.sym = sy) (hsh : okR9 l = true) (hok : okR9 (l ++ [x]) = true) (hc1 : chkER l = 0) (hc2 : chkER (l ++ [x]) = 0) (ht : (tch l (l ++ [x]) g x.known).is = false) : yn Zg lNw_run E1 ρ lNw_Inv lNw_mu 1 []:=by
 have hN : Zg.N = 110:=rfl
 have hxx : (⟨x.id,x.known,x.from_,x.goods,x.num,x.den,x.cart,x.store,x.of_⟩ : Rat9) = x:=rfl
 have xl {jq vq}:=@xL ρ Zg.N 110 [] jq vq hN
 have xh {jq vq}:=@xH ρ Zg.N 110 [] jq vq hN
 have v1:=xl (jq:=1) h1 (by decide)
 have v3:=xl (jq:=3) hx.h0 (by decide)
 have v4:=xl (jq:=4) hx.h1 (by decide)
 have v5:=xl (jq:=5) hx.h2 (by decide)
 have v6:=xl (jq:=6) hx.h3 (by decide)
 have v7:=xl (jq:=7) hx.h4 (by decide)
 have v8:=xl (jq:=8) hx.h5 (by decide)
 have v9:=xl (jq:=9) hx.h6 (by decide)
 have v10:=xl (jq:=10) hx.h7 (by decide)
 have v11:=xl (jq:=11) hx.h8 (by decide)
 have v12:=xl (jq:=12) h12 (by decide)
 have v13:=xl (jq:=13) h13 (by decide)
 have vs : (ρ.ext Zg.N []).sym = sy:=hsy
 have hF : zf (ρ.ext Zg.N []) lNw1_F:=by
  simp only [lNw1_F,zf,gB,zd,gW,zm,v1,v3,v4,v5,v6,v7,v8,v9,v10,v11,v12,v13,vs,hxx,ze,zi,zq,hsh,hok,hc1,hc2,ht,beq_self_eq_true,and_true,true_and]
 suffices both : y9 (ρ.ext Zg.N []) (lNw1_t.asks lNw1_F)∧zD Zg ρ lNw_Inv lNw_mu 1 [] lNw1_l from zC (lNw1_w _) hF both.1.ok both.2
 have go : ∃ vals',lNw_Inv 2 vals'∧lNw_mu 2 vals' < lNw_mu 1 []:=⟨[],⟨by omega,rfl⟩,by simp [lNw_mu]⟩
 obtain ⟨t1,t2⟩:=touch_says hc2 g x.known
 obtain ⟨_,_,a7⟩:=t1 ht
 have bs : x.of_ = 0→(0 : Int) < x.from_→inF (l ++ [x]) g (0 : Int) x.known = inF l g (0 : Int) x.known:=fun a b => before_says a g b
 have hlm : idAt l g (0 : Int) x.known = idAt (l ++ [x]) g (0 : Int) x.known→inF l g (0 : Int) x.known = inF (l ++ [x]) g (0 : Int) x.known:=inF_same hc2 hc1 (fun y hy => List.mem_append_left _ hy)
 cases pin : inF l g (0 : Int) x.known with
 | none =>
   have idl : idAt l g (0 : Int) x.known = 0:=by unfold idAt; rw [pin]; rfl
   have p0 : za l g (0 : Int) x.known 0 = some (.int .i64 0):=by unfold za; rw [pin]; rfl
   have p1 : za l g (0 : Int) x.known 1 = some (.int .i64 0):=by unfold za; rw [pin]; rfl
   have p2 : za l g (0 : Int) x.known 2 = some (.int .i64 0):=by unfold za; rw [pin]; rfl
   have p3 : za l g (0 : Int) x.known 3 = some (.string (z7 [])):=by unfold za; rw [pin]; rfl
   have p4 : za l g (0 : Int) x.known 4 = some (.int .i64 0):=by unfold za; rw [pin]; rfl
   have p5 : za l g (0 : Int) x.known 5 = some (.int .i64 0):=by unfold za; rw [pin]; rfl
   have p6 : za l g (0 : Int) x.known 6 = some (.int .i64 0):=by unfold za; rw [pin]; rfl
   have p7 : za l g (0 : Int) x.known 7 = some (.int .i64 0):=by unfold za; rw [pin]; rfl
   have p8 : za l g (0 : Int) x.known 8 = some (.int .i64 0):=by unfold za; rw [pin]; rfl
   cases qin : inF (l ++ [x]) g (0 : Int) x.known with
   | none =>
     have idm : idAt (l ++ [x]) g (0 : Int) x.known = 0:=by unfold idAt; rw [qin]; rfl
     have q0 : za (l ++ [x]) g (0 : Int) x.known 0 = some (.int .i64 0):=by unfold za; rw [qin]; rfl
     have q1 : za (l ++ [x]) g (0 : Int) x.known 1 = some (.int .i64 0):=by unfold za; rw [qin]; rfl
     have q2 : za (l ++ [x]) g (0 : Int) x.known 2 = some (.int .i64 0):=by unfold za; rw [qin]; rfl
     have q3 : za (l ++ [x]) g (0 : Int) x.known 3 = some (.string (z7 [])):=by unfold za; rw [qin]; rfl
     have q4 : za (l ++ [x]) g (0 : Int) x.known 4 = some (.int .i64 0):=by unfold za; rw [qin]; rfl
     have q5 : za (l ++ [x]) g (0 : Int) x.known 5 = some (.int .i64 0):=by unfold za; rw [qin]; rfl
     have q6 : za (l ++ [x]) g (0 : Int) x.known 6 = some (.int .i64 0):=by unfold za; rw [qin]; rfl
     have q7 : za (l ++ [x]) g (0 : Int) x.known 7 = some (.int .i64 0):=by unfold za; rw [qin]; rfl
     have q8 : za (l ++ [x]) g (0 : Int) x.known 8 = some (.int .i64 0):=by unfold za; rw [qin]; rfl
     refine ⟨?_,?_⟩
     all_goals (simp only [lNw1_t,lNw1_F,lNw1_l,gA,gB,zd,gW,zm,zR,zD,zh,zk,yw,yy,zr,zE,dZ,g3,v1,v3,v4,v5,v6,v7,v8,v9,v10,v11,v12,v13,vs,h1,h12,h13,hsy,hxx,zi,ze,zF,zl,zx,zw,zq,hsh,hok,hc1,hc2,ht,pin,qin,Option.isSome_none,Option.isSome_some,p0,p1,p2,p3,p4,p5,p6,p7,p8,q0,q1,q2,q3,q4,q5,q6,q7,q8,zX,reduceCtorEq,Bool.false_eq_true,false_implies,true_implies,and_true,true_and])
     all_goals (clear v1 v3 v4 v5 v6 v7 v8 v9 v10 v11 v12 v13 vs h1 hx h12 h13 hsy hF p0 p1 p2 p3 p4 p5 p6 p7 p8 q0 q1 q2 q3 q4 q5 q6 q7 q8)
     all_goals ((repeat' apply And.intro) <;> intros <;> first
      | trivial
      | contradiction
      | (exact go)
      | (exfalso; omega)
      | (exfalso; have:=d1 (by omega); omega)
      | (exfalso; exact d3 (by assumption) (by assumption))
      | (simp_all; done))
   | some z =>
     have idm : idAt (l ++ [x]) g (0 : Int) x.known = z.id:=by unfold idAt; rw [qin]; rfl
     have hz:=y7 hc2 qin
     have q0 : za (l ++ [x]) g (0 : Int) x.known 0 = some (.int .i64 z.id):=by unfold za; rw [qin]; rfl
     have q1 : za (l ++ [x]) g (0 : Int) x.known 1 = some (.int .i64 z.known):=by unfold za; rw [qin]; rfl
     have q2 : za (l ++ [x]) g (0 : Int) x.known 2 = some (.int .i64 z.from_):=by unfold za; rw [qin]; rfl
     have q3 : za (l ++ [x]) g (0 : Int) x.known 3 = some (.string z.goods):=by unfold za; rw [qin]; rfl
     have q4 : za (l ++ [x]) g (0 : Int) x.known 4 = some (.int .i64 z.num):=by unfold za; rw [qin]; rfl
     have q5 : za (l ++ [x]) g (0 : Int) x.known 5 = some (.int .i64 z.den):=by unfold za; rw [qin]; rfl
     have q6 : za (l ++ [x]) g (0 : Int) x.known 6 = some (.int .i64 z.cart):=by unfold za; rw [qin]; rfl
     have q7 : za (l ++ [x]) g (0 : Int) x.known 7 = some (.int .i64 z.store):=by unfold za; rw [qin]; rfl
     have q8 : za (l ++ [x]) g (0 : Int) x.known 8 = some (.int .i64 z.of_):=by unfold za; rw [qin]; rfl
     have hd : idAt l g (0 : Int) x.known≠idAt (l ++ [x]) g (0 : Int) x.known:=by rw [idl,idm]; first | assumption | exact Ne.symm (by assumption)
     have d0 : ¬ (0 : Int)≤1000000:=fun b => hd (a7 (0 : Int) b)
     refine ⟨?_,?_⟩
     all_goals (simp only [lNw1_t,lNw1_F,lNw1_l,gA,gB,zd,gW,zm,zR,zD,zh,zk,yw,yy,zr,zE,dZ,g3,v1,v3,v4,v5,v6,v7,v8,v9,v10,v11,v12,v13,vs,h1,h12,h13,hsy,hxx,zi,ze,zF,zl,zx,zw,zq,hsh,hok,hc1,hc2,ht,pin,qin,Option.isSome_none,Option.isSome_some,p0,p1,p2,p3,p4,p5,p6,p7,p8,q0,q1,q2,q3,q4,q5,q6,q7,q8,zX,reduceCtorEq,Bool.false_eq_true,false_implies,true_implies,and_true,true_and])
     all_goals (clear v1 v3 v4 v5 v6 v7 v8 v9 v10 v11 v12 v13 vs h1 hx h12 h13 hsy hF p0 p1 p2 p3 p4 p5 p6 p7 p8 q0 q1 q2 q3 q4 q5 q6 q7 q8)
     all_goals ((repeat' apply And.intro) <;> intros <;> first
      | trivial
      | contradiction
      | (exact go)
      | (exfalso; omega)
      | (exfalso; have:=d1 (by omega); omega)
      | (exfalso; exact d3 (by assumption) (by assumption))
      | (simp_all; done))
 | some y =>
   have idl : idAt l g (0 : Int) x.known = y.id:=by unfold idAt; rw [pin]; rfl
   have hy:=y7 hc1 pin
   have p0 : za l g (0 : Int) x.known 0 = some (.int .i64 y.id):=by unfold za; rw [pin]; rfl
   have p1 : za l g (0 : Int) x.known 1 = some (.int .i64 y.known):=by unfold za; rw [pin]; rfl
   have p2 : za l g (0 : Int) x.known 2 = some (.int .i64 y.from_):=by unfold za; rw [pin]; rfl
   have p3 : za l g (0 : Int) x.known 3 = some (.string y.goods):=by unfold za; rw [pin]; rfl
   have p4 : za l g (0 : Int) x.known 4 = some (.int .i64 y.num):=by unfold za; rw [pin]; rfl
   have p5 : za l g (0 : Int) x.known 5 = some (.int .i64 y.den):=by unfold za; rw [pin]; rfl
   have p6 : za l g (0 : Int) x.known 6 = some (.int .i64 y.cart):=by unfold za; rw [pin]; rfl
   have p7 : za l g (0 : Int) x.known 7 = some (.int .i64 y.store):=by unfold za; rw [pin]; rfl
   have p8 : za l g (0 : Int) x.known 8 = some (.int .i64 y.of_):=by unfold za; rw [pin]; rfl
   cases qin : inF (l ++ [x]) g (0 : Int) x.known with
   | none =>
     have idm : idAt (l ++ [x]) g (0 : Int) x.known = 0:=by unfold idAt; rw [qin]; rfl
     have q0 : za (l ++ [x]) g (0 : Int) x.known 0 = some (.int .i64 0):=by unfold za; rw [qin]; rfl
     have q1 : za (l ++ [x]) g (0 : Int) x.known 1 = some (.int .i64 0):=by unfold za; rw [qin]; rfl
     have q2 : za (l ++ [x]) g (0 : Int) x.known 2 = some (.int .i64 0):=by unfold za; rw [qin]; rfl
     have q3 : za (l ++ [x]) g (0 : Int) x.known 3 = some (.string (z7 [])):=by unfold za; rw [qin]; rfl
     have q4 : za (l ++ [x]) g (0 : Int) x.known 4 = some (.int .i64 0):=by unfold za; rw [qin]; rfl
     have q5 : za (l ++ [x]) g (0 : Int) x.known 5 = some (.int .i64 0):=by unfold za; rw [qin]; rfl
     have q6 : za (l ++ [x]) g (0 : Int) x.known 6 = some (.int .i64 0):=by unfold za; rw [qin]; rfl
     have q7 : za (l ++ [x]) g (0 : Int) x.known 7 = some (.int .i64 0):=by unfold za; rw [qin]; rfl
     have q8 : za (l ++ [x]) g (0 : Int) x.known 8 = some (.int .i64 0):=by unfold za; rw [qin]; rfl
     have hd : idAt l g (0 : Int) x.known≠idAt (l ++ [x]) g (0 : Int) x.known:=by rw [idl,idm]; first | assumption | exact Ne.symm (by assumption)
     have d0 : ¬ (0 : Int)≤1000000:=fun b => hd (a7 (0 : Int) b)
     refine ⟨?_,?_⟩
     all_goals (simp only [lNw1_t,lNw1_F,lNw1_l,gA,gB,zd,gW,zm,zR,zD,zh,zk,yw,yy,zr,zE,dZ,g3,v1,v3,v4,v5,v6,v7,v8,v9,v10,v11,v12,v13,vs,h1,h12,h13,hsy,hxx,zi,ze,zF,zl,zx,zw,zq,hsh,hok,hc1,hc2,ht,pin,qin,Option.isSome_none,Option.isSome_some,p0,p1,p2,p3,p4,p5,p6,p7,p8,q0,q1,q2,q3,q4,q5,q6,q7,q8,zX,reduceCtorEq,Bool.false_eq_true,false_implies,true_implies,and_true,true_and])
     all_goals (clear v1 v3 v4 v5 v6 v7 v8 v9 v10 v11 v12 v13 vs h1 hx h12 h13 hsy hF p0 p1 p2 p3 p4 p5 p6 p7 p8 q0 q1 q2 q3 q4 q5 q6 q7 q8)
     all_goals ((repeat' apply And.intro) <;> intros <;> first
      | trivial
      | contradiction
      | (exact go)
      | (exfalso; omega)
      | (exfalso; have:=d1 (by omega); omega)
      | (exfalso; exact d3 (by assumption) (by assumption))
      | (simp_all; done))
   | some z =>
     have idm : idAt (l ++ [x]) g (0 : Int) x.known = z.id:=by unfold idAt; rw [qin]; rfl
     have hz:=y7 hc2 qin
     have q0 : za (l ++ [x]) g (0 : Int) x.known 0 = some (.int .i64 z.id):=by unfold za; rw [qin]; rfl
     have q1 : za (l ++ [x]) g (0 : Int) x.known 1 = some (.int .i64 z.known):=by unfold za; rw [qin]; rfl
     have q2 : za (l ++ [x]) g (0 : Int) x.known 2 = some (.int .i64 z.from_):=by unfold za; rw [qin]; rfl
     have q3 : za (l ++ [x]) g (0 : Int) x.known 3 = some (.string z.goods):=by unfold za; rw [qin]; rfl
     have q4 : za (l ++ [x]) g (0 : Int) x.known 4 = some (.int .i64 z.num):=by unfold za; rw [qin]; rfl
     have q5 : za (l ++ [x]) g (0 : Int) x.known 5 = some (.int .i64 z.den):=by unfold za; rw [qin]; rfl
     have q6 : za (l ++ [x]) g (0 : Int) x.known 6 = some (.int .i64 z.cart):=by unfold za; rw [qin]; rfl
     have q7 : za (l ++ [x]) g (0 : Int) x.known 7 = some (.int .i64 z.store):=by unfold za; rw [qin]; rfl
     have q8 : za (l ++ [x]) g (0 : Int) x.known 8 = some (.int .i64 z.of_):=by unfold za; rw [qin]; rfl
     have hyz : y.id = z.id→y = z:=fun e => Option.some.inj (by rw [← pin,← qin]; exact hlm (by rw [idl,idm,e]))
     by_cases eyz : y = z
     ·subst eyz
      refine ⟨?_,?_⟩
      all_goals (simp only [lNw1_t,lNw1_F,lNw1_l,gA,gB,zd,gW,zm,zR,zD,zh,zk,yw,yy,zr,zE,dZ,g3,v1,v3,v4,v5,v6,v7,v8,v9,v10,v11,v12,v13,vs,h1,h12,h13,hsy,hxx,zi,ze,zF,zl,zx,zw,zq,hsh,hok,hc1,hc2,ht,pin,qin,Option.isSome_none,Option.isSome_some,p0,p1,p2,p3,p4,p5,p6,p7,p8,q0,q1,q2,q3,q4,q5,q6,q7,q8,zX,reduceCtorEq,Bool.false_eq_true,false_implies,true_implies,and_true,true_and])
      all_goals (clear v1 v3 v4 v5 v6 v7 v8 v9 v10 v11 v12 v13 vs h1 hx h12 h13 hsy hF p0 p1 p2 p3 p4 p5 p6 p7 p8 q0 q1 q2 q3 q4 q5 q6 q7 q8)
      all_goals ((repeat' apply And.intro) <;> intros <;> first
       | trivial
       | contradiction
       | (exact go)
       | (exfalso; omega)
       | (exfalso; have:=d1 (by omega); omega)
       | (exfalso; exact d3 (by assumption) (by assumption))
       | (simp_all; done))
     ·have nid : ¬ y.id = z.id:=fun e => eyz (hyz e)
      have hd : idAt l g (0 : Int) x.known≠idAt (l ++ [x]) g (0 : Int) x.known:=by rw [idl,idm]; first | assumption | exact Ne.symm (by assumption)
      have d0 : ¬ (0 : Int)≤1000000:=fun b => hd (a7 (0 : Int) b)
      refine ⟨?_,?_⟩
      all_goals (simp only [lNw1_t,lNw1_F,lNw1_l,gA,gB,zd,gW,zm,zR,zD,zh,zk,yw,yy,zr,zE,dZ,g3,v1,v3,v4,v5,v6,v7,v8,v9,v10,v11,v12,v13,vs,h1,h12,h13,hsy,hxx,zi,ze,zF,zl,zx,zw,zq,hsh,hok,hc1,hc2,ht,pin,qin,Option.isSome_none,Option.isSome_some,p0,p1,p2,p3,p4,p5,p6,p7,p8,q0,q1,q2,q3,q4,q5,q6,q7,q8,zX,reduceCtorEq,Bool.false_eq_true,false_implies,true_implies,and_true,true_and])
      all_goals (clear v1 v3 v4 v5 v6 v7 v8 v9 v10 v11 v12 v13 vs h1 hx h12 h13 hsy hF p0 p1 p2 p3 p4 p5 p6 p7 p8 q0 q1 q2 q3 q4 q5 q6 q7 q8)
      all_goals ((repeat' apply And.intro) <;> intros <;> first
       | trivial
       | contradiction
       | (exact go)
       | (exfalso; omega)
       | (exfalso; have:=d1 (by omega); omega)
       | (exfalso; exact d3 (by assumption) (by assumption))
       | (simp_all; done))
theorem lNw_step2 {ρ : Rho} {l : List Rat9} {x : Rat9} {kx : Nat→IntKind} {g : ByteArray} {hr : Int} {k13 : IntKind} (h1 : ρ.val 1 = some (ratsR l)) (hx : Rat9At ρ 3 kx x) (h12 : ρ.val 12 = some (.string g)) (h13 : ρ.val 13 = some (.int k13 hr)) (hsy : ρ.sym = sy) (hsh : okR9 l = true) (hok : okR9 (l ++ [x]) = true) (hc1 : chkER l = 0) (hc2 : chkER (l ++ [x]) = 0) (ht : (tch l (l ++ [x]) g x.known).is = false) : yn Zg lNw_run E1 ρ lNw_Inv lNw_mu 2 []:=by
 have hN : Zg.N = 110:=rfl
 have hxx : (⟨x.id,x.known,x.from_,x.goods,x.num,x.den,x.cart,x.store,x.of_⟩ : Rat9) = x:=rfl
 have xl {jq vq}:=@xL ρ Zg.N 110 [] jq vq hN
 have xh {jq vq}:=@xH ρ Zg.N 110 [] jq vq hN
 have v1:=xl (jq:=1) h1 (by decide)
 have v3:=xl (jq:=3) hx.h0 (by decide)
 have v4:=xl (jq:=4) hx.h1 (by decide)
 have v5:=xl (jq:=5) hx.h2 (by decide)
 have v6:=xl (jq:=6) hx.h3 (by decide)
 have v7:=xl (jq:=7) hx.h4 (by decide)
 have v8:=xl (jq:=8) hx.h5 (by decide)
 have v9:=xl (jq:=9) hx.h6 (by decide)
 have v10:=xl (jq:=10) hx.h7 (by decide)
 have v11:=xl (jq:=11) hx.h8 (by decide)
 have v12:=xl (jq:=12) h12 (by decide)
 have v13:=xl (jq:=13) h13 (by decide)
 have vs : (ρ.ext Zg.N []).sym = sy:=hsy
 have hF : zf (ρ.ext Zg.N []) lNw2_F:=by
  simp only [lNw2_F,zf,gB,zd,gW,zm,v1,v3,v4,v5,v6,v7,v8,v9,v10,v11,v12,v13,vs,hxx,ze,zi,zq,hsh,hok,hc1,hc2,ht,beq_self_eq_true,and_true,true_and]
 suffices both : y9 (ρ.ext Zg.N []) (lNw2_t.asks lNw2_F)∧zD Zg ρ lNw_Inv lNw_mu 2 [] lNw2_l from zC (lNw2_w _) hF both.1.ok both.2
 have go : ∃ vals',lNw_Inv 3 vals'∧lNw_mu 3 vals' < lNw_mu 2 []:=⟨[],⟨by omega,rfl⟩,by simp [lNw_mu]⟩
 obtain ⟨t1,t2⟩:=touch_says hc2 g x.known
 obtain ⟨_,_,a7⟩:=t1 ht
 have bs : x.of_ = 0→(0 : Int) < x.from_→inF (l ++ [x]) g (0 : Int) x.known = inF l g (0 : Int) x.known:=fun a b => before_says a g b
 have hlm : idAt l g (0 : Int) x.known = idAt (l ++ [x]) g (0 : Int) x.known→inF l g (0 : Int) x.known = inF (l ++ [x]) g (0 : Int) x.known:=inF_same hc2 hc1 (fun y hy => List.mem_append_left _ hy)
 cases pin : inF l g (0 : Int) x.known with
 | none =>
   have idl : idAt l g (0 : Int) x.known = 0:=by unfold idAt; rw [pin]; rfl
   have p0 : za l g (0 : Int) x.known 0 = some (.int .i64 0):=by unfold za; rw [pin]; rfl
   have p1 : za l g (0 : Int) x.known 1 = some (.int .i64 0):=by unfold za; rw [pin]; rfl
   have p2 : za l g (0 : Int) x.known 2 = some (.int .i64 0):=by unfold za; rw [pin]; rfl
   have p3 : za l g (0 : Int) x.known 3 = some (.string (z7 [])):=by unfold za; rw [pin]; rfl
   have p4 : za l g (0 : Int) x.known 4 = some (.int .i64 0):=by unfold za; rw [pin]; rfl
   have p5 : za l g (0 : Int) x.known 5 = some (.int .i64 0):=by unfold za; rw [pin]; rfl
   have p6 : za l g (0 : Int) x.known 6 = some (.int .i64 0):=by unfold za; rw [pin]; rfl
   have p7 : za l g (0 : Int) x.known 7 = some (.int .i64 0):=by unfold za; rw [pin]; rfl
   have p8 : za l g (0 : Int) x.known 8 = some (.int .i64 0):=by unfold za; rw [pin]; rfl
   cases qin : inF (l ++ [x]) g (0 : Int) x.known with
   | none =>
     have idm : idAt (l ++ [x]) g (0 : Int) x.known = 0:=by unfold idAt; rw [qin]; rfl
     have q0 : za (l ++ [x]) g (0 : Int) x.known 0 = some (.int .i64 0):=by unfold za; rw [qin]; rfl
     have q1 : za (l ++ [x]) g (0 : Int) x.known 1 = some (.int .i64 0):=by unfold za; rw [qin]; rfl
     have q2 : za (l ++ [x]) g (0 : Int) x.known 2 = some (.int .i64 0):=by unfold za; rw [qin]; rfl
     have q3 : za (l ++ [x]) g (0 : Int) x.known 3 = some (.string (z7 [])):=by unfold za; rw [qin]; rfl
     have q4 : za (l ++ [x]) g (0 : Int) x.known 4 = some (.int .i64 0):=by unfold za; rw [qin]; rfl
     have q5 : za (l ++ [x]) g (0 : Int) x.known 5 = some (.int .i64 0):=by unfold za; rw [qin]; rfl
     have q6 : za (l ++ [x]) g (0 : Int) x.known 6 = some (.int .i64 0):=by unfold za; rw [qin]; rfl
     have q7 : za (l ++ [x]) g (0 : Int) x.known 7 = some (.int .i64 0):=by unfold za; rw [qin]; rfl
     have q8 : za (l ++ [x]) g (0 : Int) x.known 8 = some (.int .i64 0):=by unfold za; rw [qin]; rfl
     refine ⟨?_,?_⟩
     all_goals (simp only [lNw2_t,lNw2_F,lNw2_l,gA,gB,zd,gW,zm,zR,zD,zh,zk,yw,yy,zr,zE,dZ,g3,v1,v3,v4,v5,v6,v7,v8,v9,v10,v11,v12,v13,vs,h1,h12,h13,hsy,hxx,zi,ze,zF,zl,zx,zw,zq,hsh,hok,hc1,hc2,ht,pin,qin,Option.isSome_none,Option.isSome_some,p0,p1,p2,p3,p4,p5,p6,p7,p8,q0,q1,q2,q3,q4,q5,q6,q7,q8,zX,reduceCtorEq,Bool.false_eq_true,false_implies,true_implies,and_true,true_and])
     all_goals (clear v1 v3 v4 v5 v6 v7 v8 v9 v10 v11 v12 v13 vs h1 hx h12 h13 hsy hF p0 p1 p2 p3 p4 p5 p6 p7 p8 q0 q1 q2 q3 q4 q5 q6 q7 q8)
     all_goals ((repeat' apply And.intro) <;> intros <;> first
      | trivial
      | contradiction
      | (exact go)
      | (exfalso; omega)
      | (exfalso; have:=d1 (by omega); omega)
      | (exfalso; exact d3 (by assumption) (by assumption))
      | (simp_all; done))
   | some z =>
     have idm : idAt (l ++ [x]) g (0 : Int) x.known = z.id:=by unfold idAt; rw [qin]; rfl
     have hz:=y7 hc2 qin
     have q0 : za (l ++ [x]) g (0 : Int) x.known 0 = some (.int .i64 z.id):=by unfold za; rw [qin]; rfl
     have q1 : za (l ++ [x]) g (0 : Int) x.known 1 = some (.int .i64 z.known):=by unfold za; rw [qin]; rfl
     have q2 : za (l ++ [x]) g (0 : Int) x.known 2 = some (.int .i64 z.from_):=by unfold za; rw [qin]; rfl
     have q3 : za (l ++ [x]) g (0 : Int) x.known 3 = some (.string z.goods):=by unfold za; rw [qin]; rfl
     have q4 : za (l ++ [x]) g (0 : Int) x.known 4 = some (.int .i64 z.num):=by unfold za; rw [qin]; rfl
     have q5 : za (l ++ [x]) g (0 : Int) x.known 5 = some (.int .i64 z.den):=by unfold za; rw [qin]; rfl
     have q6 : za (l ++ [x]) g (0 : Int) x.known 6 = some (.int .i64 z.cart):=by unfold za; rw [qin]; rfl
     have q7 : za (l ++ [x]) g (0 : Int) x.known 7 = some (.int .i64 z.store):=by unfold za; rw [qin]; rfl
     have q8 : za (l ++ [x]) g (0 : Int) x.known 8 = some (.int .i64 z.of_):=by unfold za; rw [qin]; rfl
     have hd : idAt l g (0 : Int) x.known≠idAt (l ++ [x]) g (0 : Int) x.known:=by rw [idl,idm]; first | assumption | exact Ne.symm (by assumption)
     have d0 : ¬ (0 : Int)≤1000000:=fun b => hd (a7 (0 : Int) b)
     refine ⟨?_,?_⟩
     all_goals (simp only [lNw2_t,lNw2_F,lNw2_l,gA,gB,zd,gW,zm,zR,zD,zh,zk,yw,yy,zr,zE,dZ,g3,v1,v3,v4,v5,v6,v7,v8,v9,v10,v11,v12,v13,vs,h1,h12,h13,hsy,hxx,zi,ze,zF,zl,zx,zw,zq,hsh,hok,hc1,hc2,ht,pin,qin,Option.isSome_none,Option.isSome_some,p0,p1,p2,p3,p4,p5,p6,p7,p8,q0,q1,q2,q3,q4,q5,q6,q7,q8,zX,reduceCtorEq,Bool.false_eq_true,false_implies,true_implies,and_true,true_and])
     all_goals (clear v1 v3 v4 v5 v6 v7 v8 v9 v10 v11 v12 v13 vs h1 hx h12 h13 hsy hF p0 p1 p2 p3 p4 p5 p6 p7 p8 q0 q1 q2 q3 q4 q5 q6 q7 q8)
     all_goals ((repeat' apply And.intro) <;> intros <;> first
      | trivial
      | contradiction
      | (exact go)
      | (exfalso; omega)
      | (exfalso; have:=d1 (by omega); omega)
      | (exfalso; exact d3 (by assumption) (by assumption))
      | (simp_all; done))
 | some y =>
   have idl : idAt l g (0 : Int) x.known = y.id:=by unfold idAt; rw [pin]; rfl
   have hy:=y7 hc1 pin
   have p0 : za l g (0 : Int) x.known 0 = some (.int .i64 y.id):=by unfold za; rw [pin]; rfl
   have p1 : za l g (0 : Int) x.known 1 = some (.int .i64 y.known):=by unfold za; rw [pin]; rfl
   have p2 : za l g (0 : Int) x.known 2 = some (.int .i64 y.from_):=by unfold za; rw [pin]; rfl
   have p3 : za l g (0 : Int) x.known 3 = some (.string y.goods):=by unfold za; rw [pin]; rfl
   have p4 : za l g (0 : Int) x.known 4 = some (.int .i64 y.num):=by unfold za; rw [pin]; rfl
   have p5 : za l g (0 : Int) x.known 5 = some (.int .i64 y.den):=by unfold za; rw [pin]; rfl
   have p6 : za l g (0 : Int) x.known 6 = some (.int .i64 y.cart):=by unfold za; rw [pin]; rfl
   have p7 : za l g (0 : Int) x.known 7 = some (.int .i64 y.store):=by unfold za; rw [pin]; rfl
   have p8 : za l g (0 : Int) x.known 8 = some (.int .i64 y.of_):=by unfold za; rw [pin]; rfl
   cases qin : inF (l ++ [x]) g (0 : Int) x.known with
   | none =>
     have idm : idAt (l ++ [x]) g (0 : Int) x.known = 0:=by unfold idAt; rw [qin]; rfl
     have q0 : za (l ++ [x]) g (0 : Int) x.known 0 = some (.int .i64 0):=by unfold za; rw [qin]; rfl
     have q1 : za (l ++ [x]) g (0 : Int) x.known 1 = some (.int .i64 0):=by unfold za; rw [qin]; rfl
     have q2 : za (l ++ [x]) g (0 : Int) x.known 2 = some (.int .i64 0):=by unfold za; rw [qin]; rfl
     have q3 : za (l ++ [x]) g (0 : Int) x.known 3 = some (.string (z7 [])):=by unfold za; rw [qin]; rfl
     have q4 : za (l ++ [x]) g (0 : Int) x.known 4 = some (.int .i64 0):=by unfold za; rw [qin]; rfl
     have q5 : za (l ++ [x]) g (0 : Int) x.known 5 = some (.int .i64 0):=by unfold za; rw [qin]; rfl
     have q6 : za (l ++ [x]) g (0 : Int) x.known 6 = some (.int .i64 0):=by unfold za; rw [qin]; rfl
     have q7 : za (l ++ [x]) g (0 : Int) x.known 7 = some (.int .i64 0):=by unfold za; rw [qin]; rfl
     have q8 : za (l ++ [x]) g (0 : Int) x.known 8 = some (.int .i64 0):=by unfold za; rw [qin]; rfl
     have hd : idAt l g (0 : Int) x.known≠idAt (l ++ [x]) g (0 : Int) x.known:=by rw [idl,idm]; first | assumption | exact Ne.symm (by assumption)
     have d0 : ¬ (0 : Int)≤1000000:=fun b => hd (a7 (0 : Int) b)
     refine ⟨?_,?_⟩
     all_goals (simp only [lNw2_t,lNw2_F,lNw2_l,gA,gB,zd,gW,zm,zR,zD,zh,zk,yw,yy,zr,zE,dZ,g3,v1,v3,v4,v5,v6,v7,v8,v9,v10,v11,v12,v13,vs,h1,h12,h13,hsy,hxx,zi,ze,zF,zl,zx,zw,zq,hsh,hok,hc1,hc2,ht,pin,qin,Option.isSome_none,Option.isSome_some,p0,p1,p2,p3,p4,p5,p6,p7,p8,q0,q1,q2,q3,q4,q5,q6,q7,q8,zX,reduceCtorEq,Bool.false_eq_true,false_implies,true_implies,and_true,true_and])
     all_goals (clear v1 v3 v4 v5 v6 v7 v8 v9 v10 v11 v12 v13 vs h1 hx h12 h13 hsy hF p0 p1 p2 p3 p4 p5 p6 p7 p8 q0 q1 q2 q3 q4 q5 q6 q7 q8)
     all_goals ((repeat' apply And.intro) <;> intros <;> first
      | trivial
      | contradiction
      | (exact go)
      | (exfalso; omega)
      | (exfalso; have:=d1 (by omega); omega)
      | (exfalso; exact d3 (by assumption) (by assumption))
      | (simp_all; done))
   | some z =>
     have idm : idAt (l ++ [x]) g (0 : Int) x.known = z.id:=by unfold idAt; rw [qin]; rfl
     have hz:=y7 hc2 qin
     have q0 : za (l ++ [x]) g (0 : Int) x.known 0 = some (.int .i64 z.id):=by unfold za; rw [qin]; rfl
     have q1 : za (l ++ [x]) g (0 : Int) x.known 1 = some (.int .i64 z.known):=by unfold za; rw [qin]; rfl
     have q2 : za (l ++ [x]) g (0 : Int) x.known 2 = some (.int .i64 z.from_):=by unfold za; rw [qin]; rfl
     have q3 : za (l ++ [x]) g (0 : Int) x.known 3 = some (.string z.goods):=by unfold za; rw [qin]; rfl
     have q4 : za (l ++ [x]) g (0 : Int) x.known 4 = some (.int .i64 z.num):=by unfold za; rw [qin]; rfl
     have q5 : za (l ++ [x]) g (0 : Int) x.known 5 = some (.int .i64 z.den):=by unfold za; rw [qin]; rfl
     have q6 : za (l ++ [x]) g (0 : Int) x.known 6 = some (.int .i64 z.cart):=by unfold za; rw [qin]; rfl
     have q7 : za (l ++ [x]) g (0 : Int) x.known 7 = some (.int .i64 z.store):=by unfold za; rw [qin]; rfl
     have q8 : za (l ++ [x]) g (0 : Int) x.known 8 = some (.int .i64 z.of_):=by unfold za; rw [qin]; rfl
     have hyz : y.id = z.id→y = z:=fun e => Option.some.inj (by rw [← pin,← qin]; exact hlm (by rw [idl,idm,e]))
     by_cases eyz : y = z
     ·subst eyz
      refine ⟨?_,?_⟩
      all_goals (simp only [lNw2_t,lNw2_F,lNw2_l,gA,gB,zd,gW,zm,zR,zD,zh,zk,yw,yy,zr,zE,dZ,g3,v1,v3,v4,v5,v6,v7,v8,v9,v10,v11,v12,v13,vs,h1,h12,h13,hsy,hxx,zi,ze,zF,zl,zx,zw,zq,hsh,hok,hc1,hc2,ht,pin,qin,Option.isSome_none,Option.isSome_some,p0,p1,p2,p3,p4,p5,p6,p7,p8,q0,q1,q2,q3,q4,q5,q6,q7,q8,zX,reduceCtorEq,Bool.false_eq_true,false_implies,true_implies,and_true,true_and])
      all_goals (clear v1 v3 v4 v5 v6 v7 v8 v9 v10 v11 v12 v13 vs h1 hx h12 h13 hsy hF p0 p1 p2 p3 p4 p5 p6 p7 p8 q0 q1 q2 q3 q4 q5 q6 q7 q8)
      all_goals ((repeat' apply And.intro) <;> intros <;> first
       | trivial
       | contradiction
       | (exact go)
       | (exfalso; omega)
       | (exfalso; have:=d1 (by omega); omega)
       | (exfalso; exact d3 (by assumption) (by assumption))
       | (simp_all; done))
     ·have nid : ¬ y.id = z.id:=fun e => eyz (hyz e)
      have hd : idAt l g (0 : Int) x.known≠idAt (l ++ [x]) g (0 : Int) x.known:=by rw [idl,idm]; first | assumption | exact Ne.symm (by assumption)
      have d0 : ¬ (0 : Int)≤1000000:=fun b => hd (a7 (0 : Int) b)
      refine ⟨?_,?_⟩
      all_goals (simp only [lNw2_t,lNw2_F,lNw2_l,gA,gB,zd,gW,zm,zR,zD,zh,zk,yw,yy,zr,zE,dZ,g3,v1,v3,v4,v5,v6,v7,v8,v9,v10,v11,v12,v13,vs,h1,h12,h13,hsy,hxx,zi,ze,zF,zl,zx,zw,zq,hsh,hok,hc1,hc2,ht,pin,qin,Option.isSome_none,Option.isSome_some,p0,p1,p2,p3,p4,p5,p6,p7,p8,q0,q1,q2,q3,q4,q5,q6,q7,q8,zX,reduceCtorEq,Bool.false_eq_true,false_implies,true_implies,and_true,true_and])
      all_goals (clear v1 v3 v4 v5 v6 v7 v8 v9 v10 v11 v12 v13 vs h1 hx h12 h13 hsy hF p0 p1 p2 p3 p4 p5 p6 p7 p8 q0 q1 q2 q3 q4 q5 q6 q7 q8)
      all_goals ((repeat' apply And.intro) <;> intros <;> first
       | trivial
       | contradiction
       | (exact go)
       | (exfalso; omega)
       | (exfalso; have:=d1 (by omega); omega)
       | (exfalso; exact d3 (by assumption) (by assumption))
       | (simp_all; done))
theorem lNw_step3 {ρ : Rho} {l : List Rat9} {x : Rat9} {kx : Nat→IntKind} {g : ByteArray} {hr : Int} {k13 : IntKind} (h1 : ρ.val 1 = some (ratsR l)) (hx : Rat9At ρ 3 kx x) (h12 : ρ.val 12 = some (.string g)) (h13 : ρ.val 13 = some (.int k13 hr)) (hsy : ρ.sym = sy) (hsh : okR9 l = true) (hok : okR9 (l ++ [x]) = true) (hc1 : chkER l = 0) (hc2 : chkER (l ++ [x]) = 0) (ht : (tch l (l ++ [x]) g x.known).is = false) : yn Zg lNw_run E1 ρ lNw_Inv lNw_mu 3 []:=by
 have hN : Zg.N = 110:=rfl
 have hxx : (⟨x.id,x.known,x.from_,x.goods,x.num,x.den,x.cart,x.store,x.of_⟩ : Rat9) = x:=rfl
 have xl {jq vq}:=@xL ρ Zg.N 110 [] jq vq hN
 have xh {jq vq}:=@xH ρ Zg.N 110 [] jq vq hN
 have v1:=xl (jq:=1) h1 (by decide)
 have v3:=xl (jq:=3) hx.h0 (by decide)
 have v4:=xl (jq:=4) hx.h1 (by decide)
 have v5:=xl (jq:=5) hx.h2 (by decide)
 have v6:=xl (jq:=6) hx.h3 (by decide)
 have v7:=xl (jq:=7) hx.h4 (by decide)
 have v8:=xl (jq:=8) hx.h5 (by decide)
 have v9:=xl (jq:=9) hx.h6 (by decide)
 have v10:=xl (jq:=10) hx.h7 (by decide)
 have v11:=xl (jq:=11) hx.h8 (by decide)
 have v12:=xl (jq:=12) h12 (by decide)
 have v13:=xl (jq:=13) h13 (by decide)
 have vs : (ρ.ext Zg.N []).sym = sy:=hsy
 have hF : zf (ρ.ext Zg.N []) lNw3_F:=by
  simp only [lNw3_F,zf,gB,zd,gW,zm,v1,v3,v4,v5,v6,v7,v8,v9,v10,v11,v12,v13,vs,hxx,ze,zi,zq,hsh,hok,hc1,hc2,ht,beq_self_eq_true,and_true,true_and]
 suffices both : y9 (ρ.ext Zg.N []) (lNw3_t.asks lNw3_F)∧zD Zg ρ lNw_Inv lNw_mu 3 [] lNw3_l from zC (lNw3_w _) hF both.1.ok both.2
 refine ⟨?_,?_⟩
 ·simp only [lNw3_t,lNw3_F,gA,gB,zd,gW,zm,v1,v3,v4,v5,v6,v7,v8,v9,v10,v11,v12,v13,vs]
  try simp
 ·simp only [lNw3_l,gE,dZ,gB,zd,g3,gW,zm,v1,v3,v4,v5,v6,v7,v8,v9,v10,v11,v12,v13,vs]
  try simp
theorem lNw_step {ρ : Rho} {l : List Rat9} {x : Rat9} {kx : Nat→IntKind} {g : ByteArray} {hr : Int} {k13 : IntKind} (h1 : ρ.val 1 = some (ratsR l)) (hx : Rat9At ρ 3 kx x) (h12 : ρ.val 12 = some (.string g)) (h13 : ρ.val 13 = some (.int k13 hr)) (hsy : ρ.sym = sy) (hsh : okR9 l = true) (hok : okR9 (l ++ [x]) = true) (hc1 : chkER l = 0) (hc2 : chkER (l ++ [x]) = 0) (ht : (tch l (l ++ [x]) g x.known).is = false) (j : Nat) (vals : List Value) (hI : lNw_Inv j vals) : yn Zg lNw_run E1 ρ lNw_Inv lNw_mu j vals:=by
 obtain ⟨hj,rfl⟩:=hI
 have hc : j = 0∨j = 1∨j = 2∨j = 3:=by omega
 rcases hc with rfl | rfl | rfl | rfl
 ·exact lNw_step0 h1 hx h12 h13 hsy hsh hok hc1 hc2 ht
 ·exact lNw_step1 h1 hx h12 h13 hsy hsh hok hc1 hc2 ht
 ·exact lNw_step2 h1 hx h12 h13 hsy hsh hok hc1 hc2 ht
 ·exact lNw_step3 h1 hx h12 h13 hsy hsh hok hc1 hc2 ht
end Go.Proofs.YtfddkbbjnghefaaGreatDoor.Zs
