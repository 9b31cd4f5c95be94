/-
  The law AwardTouched for nil.
-/
import Derived.Test.YtfddkbbjnghefaaGreatDoorToLawW
import Derived.Test.YtfddkbbjnghefaaGreatDoorToConN
import Derived.KernelRfl
set_option linter.unusedSimpArgs false
set_option maxHeartbeats 16000000
set_option linter.unusedVariables false
namespace Go.Proofs.YtfddkbbjnghefaaGreatDoor.Zs
open Go
abbrev qTV0 : X:=.snoc .nil [.op1 (.kind .i64) (.var 3),.op1 (.kind .i64) (.var 4),.op1 (.kind .i64) (.var 5),.var 6,.op1 (.kind .i64) (.var 7),.op1 (.kind .i64) (.var 8),.op1 (.kind .i64) (.var 9),.op1 (.kind .i64) (.var 10),.op1 (.kind .i64) (.var 11)]
abbrev qTV1 : X:=.snoc .nil [.op1 (.kind .i64) (.var 3),.op1 (.kind .i64) (.var 4),.op1 (.kind .i64) (.var 5),.var 6,.op1 (.kind .i64) (.var 7),.op1 (.kind .i64) (.var 8),.op1 (.kind .i64) (.var 9),.op1 (.kind .i64) (.var 10),.op1 (.kind .i64) (.var 11)]
abbrev qTV2 : X:=.app 211 [.nil,qTV0,.var 12,.var 4]
abbrev qTV3 : X:=.app 212 [.nil,qTV0,.var 12,.var 4]
abbrev qTV4 : X:=.app 213 [.nil,qTV0,.var 12,.var 4]
abbrev qTV5 : X:=.op2 .eq (.app 200 [qTV0]) (.num 0)
abbrev qTV6 : X:=.op2 .lt (.num 100) (.op1 .slen (.var 12))
abbrev qTV7 : X:=.app 202 [qTV0]
abbrev qTV8 : X:=.op2 .lt (.num 100) (.op1 .slen (.var 6))
abbrev qTV9 : X:=.op2 .eq (.num 0) (.app 205 [qTV0,.var 12,.var 13,.var 4,.num 0])
abbrev qTV10 : X:=.op2 .lt (.num 1000000) (.var 13)
abbrev qTV11 : X:=.app 204 [qTV0,.var 12,.var 13,.var 4]
abbrev qTV12 : X:=.op2 .eq (.var 11) (.num 0)
abbrev qTV13 : X:=.op2 .eq (.num 0) (.app 205 [qTV0,.var 12,qTV2,.var 4,.num 0])
abbrev qTV14 : X:=.op2 .eq (.num 0) (.app 205 [qTV0,.var 12,qTV3,.var 4,.num 0])
abbrev qTV15 : X:=.op2 .lt (.var 13) (.num 0)
abbrev qTV16 : X:=.app 204 [qTV0,.var 12,.num 0,.var 4]
abbrev qTV17 : X:=.app 213 [.nil,qTV1,.var 12,.var 4]
abbrev qTV18 : X:=.op2 .eq (.app 200 [qTV1]) (.num 0)
abbrev qTV19 : X:=.op2 .eq (.num 0) (.app 205 [qTV0,.var 12,.num 0,.var 4,.num 0])
abbrev qTV20 : X:=.op2 .lt (.num 0) (.op1 .len qTV0)
abbrev qTV21 : X:=.app 204 [qTV0,.var 12,qTV2,.var 4]
abbrev qTV22 : X:=.app 204 [qTV0,.var 12,qTV3,.var 4]
abbrev qTV23 : X:=.op2 .lt (.num 1000000) qTV2
abbrev qTV24 : X:=.op2 .lt (.num 1000000) qTV3
abbrev qTV25 : X:=.op2 .lt qTV2 (.num 0)
abbrev qTV26 : X:=.op2 .lt qTV3 (.num 0)
abbrev qTV27 : X:=.op2 .lt (.var 13) (.num 1)
abbrev qTV28 : X:=.op2 .lt qTV3 qTV2
abbrev qTV29 : X:=.app 211 [.nil,qTV1,.var 12,.var 4]
abbrev qTV30 : X:=.app 212 [.nil,qTV1,.var 12,.var 4]
abbrev qTV31 : X:=.app 202 [qTV1]
abbrev qTV32 : X:=.op2 .lt (.var 13) qTV2
abbrev qTV33 : X:=.op2 .eq (.app 200 [qTV0]) (.app 200 [qTV0])
abbrev qTV34 : X:=.op2 .lt qTV3 (.var 13)
abbrev qTV35 : X:=.op2 .lt qTV2 qTV2
abbrev qTV36 : X:=.op2 .lt qTV3 qTV3
abbrev qTVf13 : List (X×Bool):=[(qTV5,true),(qTV4,true)]
abbrev qTVf0 : List (X×Bool):=(qTV7,true) :: qTVf13
abbrev qTVf12 : List (X×Bool):=[(qTV5,true),(qTV4,false)]
abbrev qTVf1 : List (X×Bool):=(qTV7,true) :: qTVf12
abbrev qTVf2 : List (X×Bool):=(qTV13,false) :: (qTV21,true) :: (qTV23,false) :: (qTV25,false) :: qTVf0
abbrev qTVf3 : List (X×Bool):=(qTV14,false) :: (qTV22,true) :: (qTV24,false) :: (qTV26,false) :: qTVf0
abbrev qTVf10 : List (X×Bool):=(qTV10,false) :: (qTV15,false) :: qTVf0
abbrev qTVf4 : List (X×Bool):=(qTV9,false) :: (qTV11,true) :: qTVf10
abbrev qTVf5 : List (X×Bool):=(qTV8,false) :: (qTV6,false) :: qTVf12
abbrev qTVf6 : List (X×Bool):=(qTV8,false) :: (qTV6,false) :: qTVf13
abbrev qTVf7 : List (X×Bool):=[(qTV31,true),(qTV18,true),(qTV17,false)]
abbrev qTVf8 : List (X×Bool):=[(qTV31,true),(qTV18,true),(qTV17,true)]
abbrev qTVf9 : List (X×Bool):=(qTV10,false) :: (qTV15,false) :: qTVf1
abbrev qTVf11 : List (X×Bool):=[(qTV8,false),(qTV6,false),(qTV5,false)]
noncomputable def cRoZ_con : Con:={ f:=9,args:=[.nils,.one (.str 3),.one (.int .i64 4),.one (.int .i64 5)],N:=1,M:=1,pre:=[],out:=.tuple [.agg [.int .i64 0,.int .i64 0,.int .i64 0,.str [],.int .i64 0,.int .i64 0,.int .i64 0,.int .i64 0,.int .i64 0],.int .i64 60],news:=[] }
noncomputable def cRoZ_call : Env→Za:=fun E => zS E (evH E (noL E) ((fun _ => yX) E) 14)
noncomputable def cRoZ_t : GTree:=(.leaf [[]])
noncomputable def cRoZ_l : List (List (X×Bool)×Option zp):=[([],some [])]
theorem cRoZ_w (r : Rho) : cRoZ_con.fn.ways cRoZ_call E0 r cRoZ_con.pre cRoZ_t = some cRoZ_l:=by kernel_rfl
theorem cRoZ_cok : cRoZ_con.Ok Tryz.prog sy:=by
 intro r σ w us hsy hρ hpre hrel hins
 refine y6 (E:=E0) yQ yC (sy:=sy) (fun F => noL_ok F hsy) (fun F => noH_ok) (cRoZ_w r) hρ hpre hrel hins ?_ ?_
 ·simp only [cRoZ_con,cRoZ_t,gA,gB,zd,gW,zm,zK]
  try simp
 ·simp only [cRoZ_l,gE,dZ,gB,zd,g3,gW,zm,zK,List.nil_append]
  try simp
noncomputable def cTuZ_con : Con:={ f:=14,args:=[.nils,.one (.str 3),.one (.int .i64 4)],N:=1,M:=1,pre:=[],out:=.nilslice,news:=[] }
noncomputable def cTuZ_call : Env→Za:=fun E => zS E (evH E (LB E) ((fun _ => yX) E) 12)
noncomputable def cTuZ_t : GTree:=(.leaf [[]])
noncomputable def cTuZ_l : List (List (X×Bool)×Option zp):=[([],some [])]
theorem cTuZ_w (r : Rho) : cTuZ_con.fn.ways cTuZ_call E0 r cTuZ_con.pre cTuZ_t = some cTuZ_l:=by kernel_rfl
theorem cTuZ_cok : cTuZ_con.Ok Tryz.prog sy:=by
 intro r σ w us hsy hρ hpre hrel hins
 refine y6 (E:=E0) yQ yC (sy:=sy) (fun F => LB_ok F hsy) (fun F => noH_ok) (cTuZ_w r) hρ hpre hrel hins ?_ ?_
 ·simp only [cTuZ_con,cTuZ_t,gA,gB,zd,gW,zm,zK]
  try simp
 ·simp only [cTuZ_l,gE,dZ,gB,zd,g3,gW,zm,zK,List.nil_append]
  try simp
noncomputable def WZL : Env→yj:=libs [cLib cRoZ_con,cLib cTuZ_con,cLib cCkr_con,cLib cTnE_con,cLib cTnN_con,cLib cTnY_con,cLib cRoE_con,cLib cRoN_con,cLib cRoY_con,fun _ => aliveL]
theorem WZL_ok (F : List (X×Bool)) {r : Rho} (h : r.sym = sy) : zu (E1.with F r) (WZL (E1.with F r)):=libs_ok fun c hc => by
 simp only [List.mem_cons,List.not_mem_nil,or_false] at hc
 rcases hc with rfl | rfl | rfl | rfl | rfl | rfl | rfl | rfl | rfl | rfl
 ·exact ya (E:=E1) cRoZ_cok F h
 ·exact ya (E:=E1) cTuZ_cok F h
 ·exact ya (E:=E1) cCkr_cok F h
 ·exact ya (E:=E1) cTnE_cok F h
 ·exact ya (E:=E1) cTnN_cok F h
 ·exact ya (E:=E1) cTnY_cok F h
 ·exact ya (E:=E1) cRoE_cok F h
 ·exact ya (E:=E1) cRoN_cok F h
 ·exact ya (E:=E1) cRoY_cok F h
 ·exact alive_ok F r
noncomputable def WZR : Env→yj:=libs [cLib cRoZ_con,cLib cCkr_con,cLib cRoE_con,cLib cRoN_con,cLib cRoY_con]
theorem WZR_ok (F : List (X×Bool)) {r : Rho} (h : r.sym = sy) : zu (E1.with F r) (WZR (E1.with F r)):=libs_ok fun c hc => by
 simp only [List.mem_cons,List.not_mem_nil,or_false] at hc
 rcases hc with rfl | rfl | rfl | rfl | rfl
 ·exact ya (E:=E1) cRoZ_cok F h
 ·exact ya (E:=E1) cCkr_cok F h
 ·exact ya (E:=E1) cRoE_cok F h
 ·exact ya (E:=E1) cRoN_cok F h
 ·exact ya (E:=E1) cRoY_cok F h
noncomputable def Ze : LoopD:={ N:=110,M:=121,size:=sizeOfF 5,reads:=[(105,.rows 9 ratSch (.num 0) qTV1 true 26),(100,.cells [.sint .i64 (.var 3),.sint .i64 (.var 4),.sint .i64 (.var 5),.sstr (.var 6),.sint .i64 (.var 7),.sint .i64 (.var 8),.sint .i64 (.var 9),.sint .i64 (.var 10),.sint .i64 (.var 11)] 26),(106,.cells [.sint .i64 (.var 13),.int .i64 0,.int .i64 0] 3)],pats:=[{ slots:=[(0,.nilslice),(2,.sstr (.var 12)),(3,.sint .i64 (.var 13)),(5,.ptr 100 0),(9,.slo 105 9 (.num 1)),(11,.int .i64 0),(12,.int .i64 0),(13,.bool false),(15,.slice 106 0 3 3 true),(16,.int .i64 0)],heap:=[] },{ slots:=[(0,.nilslice),(2,.sstr (.var 12)),(3,.sint .i64 (.var 13)),(5,.ptr 100 0),(9,.slo 105 9 (.num 1)),(11,.int .i64 0),(12,.int .i64 0),(13,.bool false),(15,.slice 106 0 3 3 true),(16,.int .i64 1)],heap:=[] },{ slots:=[(0,.nilslice),(2,.sstr (.var 12)),(3,.sint .i64 (.var 13)),(5,.ptr 100 0),(9,.slo 105 9 (.num 1)),(11,.int .i64 0),(12,.int .i64 0),(13,.bool false),(15,.slice 106 0 3 3 true),(16,.int .i64 2)],heap:=[] },{ slots:=[(0,.nilslice),(2,.sstr (.var 12)),(3,.sint .i64 (.var 13)),(5,.ptr 100 0),(9,.slo 105 9 (.num 1)),(11,.int .i64 0),(12,.int .i64 0),(13,.bool false),(15,.slice 106 0 3 3 true),(16,.int .i64 3)],heap:=[] }],exits:=[(.exit 0,{ slots:=[(0,.nilslice),(2,.sstr (.var 12)),(3,.sint .i64 (.var 13)),(5,.ptr 100 0)],heap:=[] }),(.ret,{ slots:=[(8,.bool false)],heap:=[],guard:=.boo false })],own:=[],pre:=[(qTV31,true),(qTV18,true),(qTV17,false)],dfs:=[] }
noncomputable def lZw_run : Env→AF→ASt→Option (List Out):=bodyRun WZR 14 (fun _ => noLoop) (yA Tryz.prog 5 0)
def lZw0_F : List (X×Bool):=qTVf7
def lZw1_F : List (X×Bool):=qTVf7
def lZw2_F : List (X×Bool):=qTVf7
def lZw3_F : List (X×Bool):=qTVf7
noncomputable def lZw0_t : FTree:=(.fork qTV15 (.leaf [.again 1 []]) (.fork qTV10 (.leaf [.again 1 []]) (.fork qTV11 (.fork qTV9 .bad (.leaf [.leave 1 []])) (.fork qTV12 (.leaf [.again 1 []]) (.leaf [.again 1 []])))))
noncomputable def lZw0_l : List (List (X×Bool)×Option (List (Tgt×zp))):=[((qTV15,true) :: qTVf1,some [(.again 1 [],[])]),
 ((qTV10,true) :: (qTV15,false) :: qTVf1,some [(.again 1 [],[])]),
 ((qTV9,true) :: (qTV11,true) :: qTVf9,none),
 ((qTV9,false) :: (qTV11,true) :: qTVf9,some [(.leave 1 [],[(.boo false,.boo true)])]),
 ((qTV12,true) :: (qTV11,false) :: qTVf9,some [(.again 1 [],[])]),
 ((qTV12,false) :: (qTV11,false) :: qTVf9,some [(.again 1 [],[])])]
theorem lZw0_w (r : Rho) : Ze.ways lZw_run E1 r 0 lZw0_F lZw0_t = some lZw0_l:=by kernel_rfl
noncomputable def lZw1_t : FTree:=(.fork qTV16 (.fork qTV19 .bad (.leaf [.leave 1 []])) (.fork qTV12 (.leaf [.again 2 []]) (.leaf [.again 2 []])))
noncomputable def lZw1_l : List (List (X×Bool)×Option (List (Tgt×zp))):=[((qTV19,true) :: (qTV16,true) :: qTVf1,none),
 ((qTV19,false) :: (qTV16,true) :: qTVf1,some [(.leave 1 [],[(.boo false,.boo true)])]),
 ((qTV12,true) :: (qTV16,false) :: qTVf1,some [(.again 2 [],[])]),
 ((qTV12,false) :: (qTV16,false) :: qTVf1,some [(.again 2 [],[])])]
theorem lZw1_w (r : Rho) : Ze.ways lZw_run E1 r 1 lZw1_F lZw1_t = some lZw1_l:=by kernel_rfl
noncomputable def lZw2_t : FTree:=(.fork qTV16 (.fork qTV19 .bad (.leaf [.leave 1 []])) (.fork qTV12 (.leaf [.again 3 []]) (.leaf [.again 3 []])))
noncomputable def lZw2_l : List (List (X×Bool)×Option (List (Tgt×zp))):=[((qTV19,true) :: (qTV16,true) :: qTVf1,none),
 ((qTV19,false) :: (qTV16,true) :: qTVf1,some [(.leave 1 [],[(.boo false,.boo true)])]),
 ((qTV12,true) :: (qTV16,false) :: qTVf1,some [(.again 3 [],[])]),
 ((qTV12,false) :: (qTV16,false) :: qTVf1,some [(.again 3 [],[])])]
theorem lZw2_w (r : Rho) : Ze.ways lZw_run E1 r 2 lZw2_F lZw2_t = some lZw2_l:=by kernel_rfl
noncomputable def lZw3_t : FTree:=(.leaf [.leave 0 []])
noncomputable def lZw3_l : List (List (X×Bool)×Option (List (Tgt×zp))):=[(qTVf1,some [(.leave 0 [],[])])]
theorem lZw3_w (r : Rho) : Ze.ways lZw_run E1 r 3 lZw3_F lZw3_t = some lZw3_l:=by kernel_rfl
theorem lZw_ok : Ze.ok = true:=by kernel_rfl
def lZw_Inv (j : Nat) (vals : List Value) : Prop:=j≤3∧vals = []
def lZw_mu (j : Nat) (_ : List Value) : Nat:=3 - j
theorem lZw_step0 {ρ : Rho} {x : Rat9} {kx : Nat→IntKind} {g : ByteArray} {hr : Int} {k13 : IntKind} (hx : Rat9At ρ 3 kx x) (h12 : ρ.val 12 = some (.string g)) (h13 : ρ.val 13 = some (.int k13 hr)) (hsy : ρ.sym = sy) (hok : okR9 [x] = true) (hc2 : chkER [x] = 0) (ht : (tch [] [x] g x.known).is = false) : yn Ze lZw_run E1 ρ lZw_Inv lZw_mu 0 []:=by
 have hN : Ze.N = 110:=rfl
 have hxx : (⟨x.id,x.known,x.from_,x.goods,x.num,x.den,x.cart,x.store,x.of_⟩ : Rat9) = x:=rfl
 have xl {jq vq}:=@xL ρ Ze.N 110 [] jq vq hN
 have xh {jq vq}:=@xH ρ Ze.N 110 [] jq vq hN
 have v3:=xl (jq:=3) hx.h0 (by decide)
 have v4:=xl (jq:=4) hx.h1 (by decide)
 have v5:=xl (jq:=5) hx.h2 (by decide)
 have v6:=xl (jq:=6) hx.h3 (by decide)
 have v7:=xl (jq:=7) hx.h4 (by decide)
 have v8:=xl (jq:=8) hx.h5 (by decide)
 have v9:=xl (jq:=9) hx.h6 (by decide)
 have v10:=xl (jq:=10) hx.h7 (by decide)
 have v11:=xl (jq:=11) hx.h8 (by decide)
 have v12:=xl (jq:=12) h12 (by decide)
 have v13:=xl (jq:=13) h13 (by decide)
 have vs : (ρ.ext Ze.N []).sym = sy:=hsy
 have hF : zf (ρ.ext Ze.N []) lZw0_F:=by
  simp only [lZw0_F,zf,gB,zd,gW,zm,zK,List.nil_append,v3,v4,v5,v6,v7,v8,v9,v10,v11,v12,v13,vs,hxx,ze,zi,zq,hok,hc2,ht,beq_self_eq_true,and_true,true_and]
 suffices both : y9 (ρ.ext Ze.N []) (lZw0_t.asks lZw0_F)∧zD Ze ρ lZw_Inv lZw_mu 0 [] lZw0_l from zC (lZw0_w _) hF both.1.ok both.2
 have go : ∃ vals',lZw_Inv 1 vals'∧lZw_mu 1 vals' < lZw_mu 0 []:=⟨[],⟨by omega,rfl⟩,by simp [lZw_mu]⟩
 have T:=touch_says (l:=[]) (x:=x) hc2 g x.known
 simp only [List.nil_append] at T
 obtain ⟨t1,t2⟩:=T
 obtain ⟨_,_,a7⟩:=t1 ht
 have bs : x.of_ = 0→hr < x.from_→inF [x] g hr x.known = inF [] g hr x.known:=fun a b => before_says (l:=[]) a g b
 have idl : idAt [] g hr x.known = 0:=rfl
 cases qin : inF [x] g hr x.known with
 | none =>
    have idm : idAt [x] g hr x.known = 0:=by unfold idAt; rw [qin]; rfl
    have q0 : za [x] g hr x.known 0 = some (.int .i64 0):=by unfold za; rw [qin]; rfl
    have q1 : za [x] g hr x.known 1 = some (.int .i64 0):=by unfold za; rw [qin]; rfl
    have q2 : za [x] g hr x.known 2 = some (.int .i64 0):=by unfold za; rw [qin]; rfl
    have q3 : za [x] g hr x.known 3 = some (.string (z7 [])):=by unfold za; rw [qin]; rfl
    have q4 : za [x] g hr x.known 4 = some (.int .i64 0):=by unfold za; rw [qin]; rfl
    have q5 : za [x] g hr x.known 5 = some (.int .i64 0):=by unfold za; rw [qin]; rfl
    have q6 : za [x] g hr x.known 6 = some (.int .i64 0):=by unfold za; rw [qin]; rfl
    have q7 : za [x] g hr x.known 7 = some (.int .i64 0):=by unfold za; rw [qin]; rfl
    have q8 : za [x] g hr x.known 8 = some (.int .i64 0):=by unfold za; rw [qin]; rfl
    refine ⟨?_,?_⟩
    all_goals (simp only [lZw0_t,lZw0_F,lZw0_l,gA,gB,zd,gW,zm,zK,zR,zD,zh,zk,yw,yy,zr,zE,dZ,g3,v3,v4,v5,v6,v7,v8,v9,v10,v11,v12,v13,vs,h12,h13,hsy,hxx,zi,ze,zF,zl,zx,zw,zq,hok,hc2,ht,qin,Option.isSome_none,Option.isSome_some,q0,q1,q2,q3,q4,q5,q6,q7,q8,reduceCtorEq,Bool.false_eq_true,false_implies,true_implies,and_true,true_and])
    all_goals (clear v3 v4 v5 v6 v7 v8 v9 v10 v11 v12 v13 vs hx h12 h13 hsy hF q0 q1 q2 q3 q4 q5 q6 q7 q8)
    all_goals ((repeat' apply And.intro) <;> intros <;> first
     | trivial
     | contradiction
     | (exact go)
     | (exfalso; omega)
     | (exfalso; have:=d1 (by omega); omega)
     | (exfalso; exact d3 (by assumption) (by assumption))
     | (simp_all; done))
 | some z =>
    have idm : idAt [x] g hr x.known = z.id:=by unfold idAt; rw [qin]; rfl
    have hz:=y7 hc2 qin
    have q0 : za [x] g hr x.known 0 = some (.int .i64 z.id):=by unfold za; rw [qin]; rfl
    have q1 : za [x] g hr x.known 1 = some (.int .i64 z.known):=by unfold za; rw [qin]; rfl
    have q2 : za [x] g hr x.known 2 = some (.int .i64 z.from_):=by unfold za; rw [qin]; rfl
    have q3 : za [x] g hr x.known 3 = some (.string z.goods):=by unfold za; rw [qin]; rfl
    have q4 : za [x] g hr x.known 4 = some (.int .i64 z.num):=by unfold za; rw [qin]; rfl
    have q5 : za [x] g hr x.known 5 = some (.int .i64 z.den):=by unfold za; rw [qin]; rfl
    have q6 : za [x] g hr x.known 6 = some (.int .i64 z.cart):=by unfold za; rw [qin]; rfl
    have q7 : za [x] g hr x.known 7 = some (.int .i64 z.store):=by unfold za; rw [qin]; rfl
    have q8 : za [x] g hr x.known 8 = some (.int .i64 z.of_):=by unfold za; rw [qin]; rfl
    have hd : idAt [] g hr x.known≠idAt [x] g hr x.known:=by rw [idl,idm]; exact Ne.symm hz
    have d0 : ¬ hr≤1000000:=fun b => hd (a7 hr b)
    refine ⟨?_,?_⟩
    all_goals (simp only [lZw0_t,lZw0_F,lZw0_l,gA,gB,zd,gW,zm,zK,zR,zD,zh,zk,yw,yy,zr,zE,dZ,g3,v3,v4,v5,v6,v7,v8,v9,v10,v11,v12,v13,vs,h12,h13,hsy,hxx,zi,ze,zF,zl,zx,zw,zq,hok,hc2,ht,qin,Option.isSome_none,Option.isSome_some,q0,q1,q2,q3,q4,q5,q6,q7,q8,reduceCtorEq,Bool.false_eq_true,false_implies,true_implies,and_true,true_and])
    all_goals (clear v3 v4 v5 v6 v7 v8 v9 v10 v11 v12 v13 vs hx h12 h13 hsy hF q0 q1 q2 q3 q4 q5 q6 q7 q8)
    all_goals ((repeat' apply And.intro) <;> intros <;> first
     | trivial
     | contradiction
     | (exact go)
     | (exfalso; omega)
     | (exfalso; have:=d1 (by omega); omega)
     | (exfalso; exact d3 (by assumption) (by assumption))
     | (simp_all; done))
theorem lZw_step1 {ρ : Rho} {x : Rat9} {kx : Nat→IntKind} {g : ByteArray} {hr : Int} {k13 : IntKind} (hx : Rat9At ρ 3 kx x) (h12 : ρ.val 12 = some (.string g)) (h13 : ρ.val 13 = some (.int k13 hr)) (hsy : ρ.sym = sy) (hok : okR9 [x] = true) (hc2 : chkER [x] = 0) (ht : (tch [] [x] g x.known).is = false) : yn Ze lZw_run E1 ρ lZw_Inv lZw_mu 1 []:=by
 have hN : Ze.N = 110:=rfl
 have hxx : (⟨x.id,x.known,x.from_,x.goods,x.num,x.den,x.cart,x.store,x.of_⟩ : Rat9) = x:=rfl
 have xl {jq vq}:=@xL ρ Ze.N 110 [] jq vq hN
 have xh {jq vq}:=@xH ρ Ze.N 110 [] jq vq hN
 have v3:=xl (jq:=3) hx.h0 (by decide)
 have v4:=xl (jq:=4) hx.h1 (by decide)
 have v5:=xl (jq:=5) hx.h2 (by decide)
 have v6:=xl (jq:=6) hx.h3 (by decide)
 have v7:=xl (jq:=7) hx.h4 (by decide)
 have v8:=xl (jq:=8) hx.h5 (by decide)
 have v9:=xl (jq:=9) hx.h6 (by decide)
 have v10:=xl (jq:=10) hx.h7 (by decide)
 have v11:=xl (jq:=11) hx.h8 (by decide)
 have v12:=xl (jq:=12) h12 (by decide)
 have v13:=xl (jq:=13) h13 (by decide)
 have vs : (ρ.ext Ze.N []).sym = sy:=hsy
 have hF : zf (ρ.ext Ze.N []) lZw1_F:=by
  simp only [lZw1_F,zf,gB,zd,gW,zm,zK,List.nil_append,v3,v4,v5,v6,v7,v8,v9,v10,v11,v12,v13,vs,hxx,ze,zi,zq,hok,hc2,ht,beq_self_eq_true,and_true,true_and]
 suffices both : y9 (ρ.ext Ze.N []) (lZw1_t.asks lZw1_F)∧zD Ze ρ lZw_Inv lZw_mu 1 [] lZw1_l from zC (lZw1_w _) hF both.1.ok both.2
 have go : ∃ vals',lZw_Inv 2 vals'∧lZw_mu 2 vals' < lZw_mu 1 []:=⟨[],⟨by omega,rfl⟩,by simp [lZw_mu]⟩
 have T:=touch_says (l:=[]) (x:=x) hc2 g x.known
 simp only [List.nil_append] at T
 obtain ⟨t1,t2⟩:=T
 obtain ⟨_,_,a7⟩:=t1 ht
 have bs : x.of_ = 0→(0 : Int) < x.from_→inF [x] g (0 : Int) x.known = inF [] g (0 : Int) x.known:=fun a b => before_says (l:=[]) a g b
 have idl : idAt [] g (0 : Int) x.known = 0:=rfl
 cases qin : inF [x] g (0 : Int) x.known with
 | none =>
    have idm : idAt [x] g (0 : Int) x.known = 0:=by unfold idAt; rw [qin]; rfl
    have q0 : za [x] g (0 : Int) x.known 0 = some (.int .i64 0):=by unfold za; rw [qin]; rfl
    have q1 : za [x] g (0 : Int) x.known 1 = some (.int .i64 0):=by unfold za; rw [qin]; rfl
    have q2 : za [x] g (0 : Int) x.known 2 = some (.int .i64 0):=by unfold za; rw [qin]; rfl
    have q3 : za [x] g (0 : Int) x.known 3 = some (.string (z7 [])):=by unfold za; rw [qin]; rfl
    have q4 : za [x] g (0 : Int) x.known 4 = some (.int .i64 0):=by unfold za; rw [qin]; rfl
    have q5 : za [x] g (0 : Int) x.known 5 = some (.int .i64 0):=by unfold za; rw [qin]; rfl
    have q6 : za [x] g (0 : Int) x.known 6 = some (.int .i64 0):=by unfold za; rw [qin]; rfl
    have q7 : za [x] g (0 : Int) x.known 7 = some (.int .i64 0):=by unfold za; rw [qin]; rfl
    have q8 : za [x] g (0 : Int) x.known 8 = some (.int .i64 0):=by unfold za; rw [qin]; rfl
    refine ⟨?_,?_⟩
    all_goals (simp only [lZw1_t,lZw1_F,lZw1_l,gA,gB,zd,gW,zm,zK,zR,zD,zh,zk,yw,yy,zr,zE,dZ,g3,v3,v4,v5,v6,v7,v8,v9,v10,v11,v12,v13,vs,h12,h13,hsy,hxx,zi,ze,zF,zl,zx,zw,zq,hok,hc2,ht,qin,Option.isSome_none,Option.isSome_some,q0,q1,q2,q3,q4,q5,q6,q7,q8,reduceCtorEq,Bool.false_eq_true,false_implies,true_implies,and_true,true_and])
    all_goals (clear v3 v4 v5 v6 v7 v8 v9 v10 v11 v12 v13 vs hx h12 h13 hsy hF q0 q1 q2 q3 q4 q5 q6 q7 q8)
    all_goals ((repeat' apply And.intro) <;> intros <;> first
     | trivial
     | contradiction
     | (exact go)
     | (exfalso; omega)
     | (exfalso; have:=d1 (by omega); omega)
     | (exfalso; exact d3 (by assumption) (by assumption))
     | (simp_all; done))
 | some z =>
    have idm : idAt [x] g (0 : Int) x.known = z.id:=by unfold idAt; rw [qin]; rfl
    have hz:=y7 hc2 qin
    have q0 : za [x] g (0 : Int) x.known 0 = some (.int .i64 z.id):=by unfold za; rw [qin]; rfl
    have q1 : za [x] g (0 : Int) x.known 1 = some (.int .i64 z.known):=by unfold za; rw [qin]; rfl
    have q2 : za [x] g (0 : Int) x.known 2 = some (.int .i64 z.from_):=by unfold za; rw [qin]; rfl
    have q3 : za [x] g (0 : Int) x.known 3 = some (.string z.goods):=by unfold za; rw [qin]; rfl
    have q4 : za [x] g (0 : Int) x.known 4 = some (.int .i64 z.num):=by unfold za; rw [qin]; rfl
    have q5 : za [x] g (0 : Int) x.known 5 = some (.int .i64 z.den):=by unfold za; rw [qin]; rfl
    have q6 : za [x] g (0 : Int) x.known 6 = some (.int .i64 z.cart):=by unfold za; rw [qin]; rfl
    have q7 : za [x] g (0 : Int) x.known 7 = some (.int .i64 z.store):=by unfold za; rw [qin]; rfl
    have q8 : za [x] g (0 : Int) x.known 8 = some (.int .i64 z.of_):=by unfold za; rw [qin]; rfl
    have hd : idAt [] g (0 : Int) x.known≠idAt [x] g (0 : Int) x.known:=by rw [idl,idm]; exact Ne.symm hz
    have d0 : ¬ (0 : Int)≤1000000:=fun b => hd (a7 (0 : Int) b)
    refine ⟨?_,?_⟩
    all_goals (simp only [lZw1_t,lZw1_F,lZw1_l,gA,gB,zd,gW,zm,zK,zR,zD,zh,zk,yw,yy,zr,zE,dZ,g3,v3,v4,v5,v6,v7,v8,v9,v10,v11,v12,v13,vs,h12,h13,hsy,hxx,zi,ze,zF,zl,zx,zw,zq,hok,hc2,ht,qin,Option.isSome_none,Option.isSome_some,q0,q1,q2,q3,q4,q5,q6,q7,q8,reduceCtorEq,Bool.false_eq_true,false_implies,true_implies,and_true,true_and])
    all_goals (clear v3 v4 v5 v6 v7 v8 v9 v10 v11 v12 v13 vs hx h12 h13 hsy hF q0 q1 q2 q3 q4 q5 q6 q7 q8)
    all_goals ((repeat' apply And.intro) <;> intros <;> first
     | trivial
     | contradiction
     | (exact go)
     | (exfalso; omega)
     | (exfalso; have:=d1 (by omega); omega)
     | (exfalso; exact d3 (by assumption) (by assumption))
     | (simp_all; done))
theorem lZw_step2 {ρ : Rho} {x : Rat9} {kx : Nat→IntKind} {g : ByteArray} {hr : Int} {k13 : IntKind} (hx : Rat9At ρ 3 kx x) (h12 : ρ.val 12 = some (.string g)) (h13 : ρ.val 13 = some (.int k13 hr)) (hsy : ρ.sym = sy) (hok : okR9 [x] = true) (hc2 : chkER [x] = 0) (ht : (tch [] [x] g x.known).is = false) : yn Ze lZw_run E1 ρ lZw_Inv lZw_mu 2 []:=by
 have hN : Ze.N = 110:=rfl
 have hxx : (⟨x.id,x.known,x.from_,x.goods,x.num,x.den,x.cart,x.store,x.of_⟩ : Rat9) = x:=rfl
 have xl {jq vq}:=@xL ρ Ze.N 110 [] jq vq hN
 have xh {jq vq}:=@xH ρ Ze.N 110 [] jq vq hN
 have v3:=xl (jq:=3) hx.h0 (by decide)
 have v4:=xl (jq:=4) hx.h1 (by decide)
 have v5:=xl (jq:=5) hx.h2 (by decide)
 have v6:=xl (jq:=6) hx.h3 (by decide)
 have v7:=xl (jq:=7) hx.h4 (by decide)
 have v8:=xl (jq:=8) hx.h5 (by decide)
 have v9:=xl (jq:=9) hx.h6 (by decide)
 have v10:=xl (jq:=10) hx.h7 (by decide)
 have v11:=xl (jq:=11) hx.h8 (by decide)
 have v12:=xl (jq:=12) h12 (by decide)
 have v13:=xl (jq:=13) h13 (by decide)
 have vs : (ρ.ext Ze.N []).sym = sy:=hsy
 have hF : zf (ρ.ext Ze.N []) lZw2_F:=by
  simp only [lZw2_F,zf,gB,zd,gW,zm,zK,List.nil_append,v3,v4,v5,v6,v7,v8,v9,v10,v11,v12,v13,vs,hxx,ze,zi,zq,hok,hc2,ht,beq_self_eq_true,and_true,true_and]
 suffices both : y9 (ρ.ext Ze.N []) (lZw2_t.asks lZw2_F)∧zD Ze ρ lZw_Inv lZw_mu 2 [] lZw2_l from zC (lZw2_w _) hF both.1.ok both.2
 have go : ∃ vals',lZw_Inv 3 vals'∧lZw_mu 3 vals' < lZw_mu 2 []:=⟨[],⟨by omega,rfl⟩,by simp [lZw_mu]⟩
 have T:=touch_says (l:=[]) (x:=x) hc2 g x.known
 simp only [List.nil_append] at T
 obtain ⟨t1,t2⟩:=T
 obtain ⟨_,_,a7⟩:=t1 ht
 have bs : x.of_ = 0→(0 : Int) < x.from_→inF [x] g (0 : Int) x.known = inF [] g (0 : Int) x.known:=fun a b => before_says (l:=[]) a g b
 have idl : idAt [] g (0 : Int) x.known = 0:=rfl
 cases qin : inF [x] g (0 : Int) x.known with
 | none =>
    have idm : idAt [x] g (0 : Int) x.known = 0:=by unfold idAt; rw [qin]; rfl
    have q0 : za [x] g (0 : Int) x.known 0 = some (.int .i64 0):=by unfold za; rw [qin]; rfl
    have q1 : za [x] g (0 : Int) x.known 1 = some (.int .i64 0):=by unfold za; rw [qin]; rfl
    have q2 : za [x] g (0 : Int) x.known 2 = some (.int .i64 0):=by unfold za; rw [qin]; rfl
    have q3 : za [x] g (0 : Int) x.known 3 = some (.string (z7 [])):=by unfold za; rw [qin]; rfl
    have q4 : za [x] g (0 : Int) x.known 4 = some (.int .i64 0):=by unfold za; rw [qin]; rfl
    have q5 : za [x] g (0 : Int) x.known 5 = some (.int .i64 0):=by unfold za; rw [qin]; rfl
    have q6 : za [x] g (0 : Int) x.known 6 = some (.int .i64 0):=by unfold za; rw [qin]; rfl
    have q7 : za [x] g (0 : Int) x.known 7 = some (.int .i64 0):=by unfold za; rw [qin]; rfl
    have q8 : za [x] g (0 : Int) x.known 8 = some (.int .i64 0):=by unfold za; rw [qin]; rfl
    refine ⟨?_,?_⟩
    all_goals (simp only [lZw2_t,lZw2_F,lZw2_l,gA,gB,zd,gW,zm,zK,zR,zD,zh,zk,yw,yy,zr,zE,dZ,g3,v3,v4,v5,v6,v7,v8,v9,v10,v11,v12,v13,vs,h12,h13,hsy,hxx,zi,ze,zF,zl,zx,zw,zq,hok,hc2,ht,qin,Option.isSome_none,Option.isSome_some,q0,q1,q2,q3,q4,q5,q6,q7,q8,reduceCtorEq,Bool.false_eq_true,false_implies,true_implies,and_true,true_and])
    all_goals (clear v3 v4 v5 v6 v7 v8 v9 v10 v11 v12 v13 vs hx h12 h13 hsy hF q0 q1 q2 q3 q4 q5 q6 q7 q8)
    all_goals ((repeat' apply And.intro) <;> intros <;> first
     | trivial
     | contradiction
     | (exact go)
     | (exfalso; omega)
     | (exfalso; have:=d1 (by omega); omega)
     | (exfalso; exact d3 (by assumption) (by assumption))
     | (simp_all; done))
 | some z =>
    have idm : idAt [x] g (0 : Int) x.known = z.id:=by unfold idAt; rw [qin]; rfl
    have hz:=y7 hc2 qin
    have q0 : za [x] g (0 : Int) x.known 0 = some (.int .i64 z.id):=by unfold za; rw [qin]; rfl
    have q1 : za [x] g (0 : Int) x.known 1 = some (.int .i64 z.known):=by unfold za; rw [qin]; rfl
    have q2 : za [x] g (0 : Int) x.known 2 = some (.int .i64 z.from_):=by unfold za; rw [qin]; rfl
    have q3 : za [x] g (0 : Int) x.known 3 = some (.string z.goods):=by unfold za; rw [qin]; rfl
    have q4 : za [x] g (0 : Int) x.known 4 = some (.int .i64 z.num):=by unfold za; rw [qin]; rfl
    have q5 : za [x] g (0 : Int) x.known 5 = some (.int .i64 z.den):=by unfold za; rw [qin]; rfl
    have q6 : za [x] g (0 : Int) x.known 6 = some (.int .i64 z.cart):=by unfold za; rw [qin]; rfl
    have q7 : za [x] g (0 : Int) x.known 7 = some (.int .i64 z.store):=by unfold za; rw [qin]; rfl
    have q8 : za [x] g (0 : Int) x.known 8 = some (.int .i64 z.of_):=by unfold za; rw [qin]; rfl
    have hd : idAt [] g (0 : Int) x.known≠idAt [x] g (0 : Int) x.known:=by rw [idl,idm]; exact Ne.symm hz
    have d0 : ¬ (0 : Int)≤1000000:=fun b => hd (a7 (0 : Int) b)
    refine ⟨?_,?_⟩
    all_goals (simp only [lZw2_t,lZw2_F,lZw2_l,gA,gB,zd,gW,zm,zK,zR,zD,zh,zk,yw,yy,zr,zE,dZ,g3,v3,v4,v5,v6,v7,v8,v9,v10,v11,v12,v13,vs,h12,h13,hsy,hxx,zi,ze,zF,zl,zx,zw,zq,hok,hc2,ht,qin,Option.isSome_none,Option.isSome_some,q0,q1,q2,q3,q4,q5,q6,q7,q8,reduceCtorEq,Bool.false_eq_true,false_implies,true_implies,and_true,true_and])
    all_goals (clear v3 v4 v5 v6 v7 v8 v9 v10 v11 v12 v13 vs hx h12 h13 hsy hF q0 q1 q2 q3 q4 q5 q6 q7 q8)
    all_goals ((repeat' apply And.intro) <;> intros <;> first
     | trivial
     | contradiction
     | (exact go)
     | (exfalso; omega)
     | (exfalso; have:=d1 (by omega); omega)
     | (exfalso; exact d3 (by assumption) (by assumption))
     | (simp_all; done))
theorem lZw_step3 {ρ : Rho} {x : Rat9} {kx : Nat→IntKind} {g : ByteArray} {hr : Int} {k13 : IntKind} (hx : Rat9At ρ 3 kx x) (h12 : ρ.val 12 = some (.string g)) (h13 : ρ.val 13 = some (.int k13 hr)) (hsy : ρ.sym = sy) (hok : okR9 [x] = true) (hc2 : chkER [x] = 0) (ht : (tch [] [x] g x.known).is = false) : yn Ze lZw_run E1 ρ lZw_Inv lZw_mu 3 []:=by
 have hN : Ze.N = 110:=rfl
 have hxx : (⟨x.id,x.known,x.from_,x.goods,x.num,x.den,x.cart,x.store,x.of_⟩ : Rat9) = x:=rfl
 have xl {jq vq}:=@xL ρ Ze.N 110 [] jq vq hN
 have xh {jq vq}:=@xH ρ Ze.N 110 [] jq vq hN
 have v3:=xl (jq:=3) hx.h0 (by decide)
 have v4:=xl (jq:=4) hx.h1 (by decide)
 have v5:=xl (jq:=5) hx.h2 (by decide)
 have v6:=xl (jq:=6) hx.h3 (by decide)
 have v7:=xl (jq:=7) hx.h4 (by decide)
 have v8:=xl (jq:=8) hx.h5 (by decide)
 have v9:=xl (jq:=9) hx.h6 (by decide)
 have v10:=xl (jq:=10) hx.h7 (by decide)
 have v11:=xl (jq:=11) hx.h8 (by decide)
 have v12:=xl (jq:=12) h12 (by decide)
 have v13:=xl (jq:=13) h13 (by decide)
 have vs : (ρ.ext Ze.N []).sym = sy:=hsy
 have hF : zf (ρ.ext Ze.N []) lZw3_F:=by
  simp only [lZw3_F,zf,gB,zd,gW,zm,zK,List.nil_append,v3,v4,v5,v6,v7,v8,v9,v10,v11,v12,v13,vs,hxx,ze,zi,zq,hok,hc2,ht,beq_self_eq_true,and_true,true_and]
 suffices both : y9 (ρ.ext Ze.N []) (lZw3_t.asks lZw3_F)∧zD Ze ρ lZw_Inv lZw_mu 3 [] lZw3_l from zC (lZw3_w _) hF both.1.ok both.2
 refine ⟨?_,?_⟩
 ·simp only [lZw3_t,lZw3_F,gA,gB,zd,gW,zm,zK,v3,v4,v5,v6,v7,v8,v9,v10,v11,v12,v13,vs]
  try simp
 ·simp only [lZw3_l,gE,dZ,gB,zd,g3,gW,zm,zK,List.nil_append,v3,v4,v5,v6,v7,v8,v9,v10,v11,v12,v13,vs]
  try simp
theorem lZw_step {ρ : Rho} {x : Rat9} {kx : Nat→IntKind} {g : ByteArray} {hr : Int} {k13 : IntKind} (hx : Rat9At ρ 3 kx x) (h12 : ρ.val 12 = some (.string g)) (h13 : ρ.val 13 = some (.int k13 hr)) (hsy : ρ.sym = sy) (hok : okR9 [x] = true) (hc2 : chkER [x] = 0) (ht : (tch [] [x] g x.known).is = false) (j : Nat) (vals : List Value) (hI : lZw_Inv j vals) : yn Ze lZw_run E1 ρ lZw_Inv lZw_mu j vals:=by
 obtain ⟨hj,rfl⟩:=hI
 have hc : j = 0∨j = 1∨j = 2∨j = 3:=by omega
 rcases hc with rfl | rfl | rfl | rfl
 ·exact lZw_step0 hx h12 h13 hsy hok hc2 ht
 ·exact lZw_step1 hx h12 h13 hsy hok hc2 ht
 ·exact lZw_step2 hx h12 h13 hsy hok hc2 ht
 ·exact lZw_step3 hx h12 h13 hsy hok hc2 ht
noncomputable def Zd : LoopD:={ N:=110,M:=121,size:=sizeOfF 5,reads:=[(105,.rows 9 ratSch (.num 0) qTV1 true 26),(100,.cells [.sint .i64 (.var 3),.sint .i64 (.var 4),.sint .i64 (.var 5),.sstr (.var 6),.sint .i64 (.var 7),.sint .i64 (.var 8),.sint .i64 (.var 9),.sint .i64 (.var 10),.sint .i64 (.var 11)] 26),(106,.cells [.sint .i64 (.var 13),.sint .i64 qTV29,.sint .i64 qTV30] 3)],pats:=[{ slots:=[(0,.nilslice),(2,.sstr (.var 12)),(3,.sint .i64 (.var 13)),(5,.ptr 100 0),(9,.slo 105 9 (.num 1)),(11,.sint .i64 qTV29),(12,.sint .i64 qTV30),(13,.bool true),(15,.slice 106 0 3 3 true),(16,.int .i64 0)],heap:=[] },{ slots:=[(0,.nilslice),(2,.sstr (.var 12)),(3,.sint .i64 (.var 13)),(5,.ptr 100 0),(9,.slo 105 9 (.num 1)),(11,.sint .i64 qTV29),(12,.sint .i64 qTV30),(13,.bool true),(15,.slice 106 0 3 3 true),(16,.int .i64 1)],heap:=[] },{ slots:=[(0,.nilslice),(2,.sstr (.var 12)),(3,.sint .i64 (.var 13)),(5,.ptr 100 0),(9,.slo 105 9 (.num 1)),(11,.sint .i64 qTV29),(12,.sint .i64 qTV30),(13,.bool true),(15,.slice 106 0 3 3 true),(16,.int .i64 2)],heap:=[] },{ slots:=[(0,.nilslice),(2,.sstr (.var 12)),(3,.sint .i64 (.var 13)),(5,.ptr 100 0),(9,.slo 105 9 (.num 1)),(11,.sint .i64 qTV29),(12,.sint .i64 qTV30),(13,.bool true),(15,.slice 106 0 3 3 true),(16,.int .i64 3)],heap:=[] }],exits:=[(.exit 0,{ slots:=[(0,.nilslice),(2,.sstr (.var 12)),(3,.sint .i64 (.var 13)),(5,.ptr 100 0)],heap:=[] }),(.ret,{ slots:=[(8,.bool false)],heap:=[],guard:=.boo false })],own:=[],pre:=[(qTV31,true),(qTV18,true),(qTV17,true)],dfs:=[] }
noncomputable def lZy_run : Env→AF→ASt→Option (List Out):=bodyRun WZR 14 (fun _ => noLoop) (yA Tryz.prog 5 0)
def lZy0_F : List (X×Bool):=qTVf8
def lZy1_F : List (X×Bool):=qTVf8
def lZy2_F : List (X×Bool):=qTVf8
def lZy3_F : List (X×Bool):=qTVf8
noncomputable def lZy0_t : FTree:=(.fork qTV15 (.leaf [.again 1 []]) (.fork qTV10 (.leaf [.again 1 []]) (.fork qTV11 (.fork qTV9 .bad (.fork qTV32 .bad (.fork qTV34 .bad (.fork qTV12 (.fork (.op2 .lt (.var 13) (.var 5)) .bad (.leaf [.again 1 []])) (.leaf [.again 1 []]))))) (.fork qTV12 (.leaf [.again 1 []]) (.leaf [.again 1 []])))))
noncomputable def lZy0_l : List (List (X×Bool)×Option (List (Tgt×zp))):=[((qTV15,true) :: qTVf0,some [(.again 1 [],[])]),
 ((qTV10,true) :: (qTV15,false) :: qTVf0,some [(.again 1 [],[])]),
 ((qTV9,true) :: (qTV11,true) :: qTVf10,none),
 ((qTV32,true) :: qTVf4,none),
 ((qTV34,true) :: (qTV32,false) :: qTVf4,none),
 ((.op2 .lt (.var 13) (.var 5),true) :: (qTV12,true) :: (qTV34,false) :: (qTV32,false) :: qTVf4,none),
 ((.op2 .lt (.var 13) (.var 5),false) :: (qTV12,true) :: (qTV34,false) :: (qTV32,false) :: qTVf4,some [(.again 1 [],[])]),
 ((qTV12,false) :: (qTV34,false) :: (qTV32,false) :: qTVf4,some [(.again 1 [],[])]),
 ((qTV12,true) :: (qTV11,false) :: qTVf10,some [(.again 1 [],[])]),
 ((qTV12,false) :: (qTV11,false) :: qTVf10,some [(.again 1 [],[])])]
theorem lZy0_w (r : Rho) : Zd.ways lZy_run E1 r 0 lZy0_F lZy0_t = some lZy0_l:=by kernel_rfl
noncomputable def lZy1_t : FTree:=(.fork qTV25 .bad (.fork qTV23 .bad (.fork qTV21 (.fork qTV13 .bad (.fork qTV35 .bad (.fork qTV28 .bad (.fork qTV12 (.fork (.op2 .lt qTV2 (.var 5)) .bad (.leaf [.again 2 []])) (.leaf [.again 2 []]))))) (.leaf [.leave 1 []]))))
noncomputable def lZy1_l : List (List (X×Bool)×Option (List (Tgt×zp))):=[((qTV25,true) :: qTVf0,none),
 ((qTV23,true) :: (qTV25,false) :: qTVf0,none),
 ((qTV13,true) :: (qTV21,true) :: (qTV23,false) :: (qTV25,false) :: qTVf0,none),
 ((qTV35,true) :: qTVf2,none),
 ((qTV28,true) :: (qTV35,false) :: qTVf2,none),
 ((.op2 .lt qTV2 (.var 5),true) :: (qTV12,true) :: (qTV28,false) :: (qTV35,false) :: qTVf2,none),
 ((.op2 .lt qTV2 (.var 5),false) :: (qTV12,true) :: (qTV28,false) :: (qTV35,false) :: qTVf2,some [(.again 2 [],[])]),
 ((qTV12,false) :: (qTV28,false) :: (qTV35,false) :: qTVf2,some [(.again 2 [],[])]),
 ((qTV21,false) :: (qTV23,false) :: (qTV25,false) :: qTVf0,some [(.leave 1 [],[(.boo false,.boo true)])])]
theorem lZy1_w (r : Rho) : Zd.ways lZy_run E1 r 1 lZy1_F lZy1_t = some lZy1_l:=by kernel_rfl
noncomputable def lZy2_t : FTree:=(.fork qTV26 .bad (.fork qTV24 .bad (.fork qTV22 (.fork qTV14 .bad (.fork qTV28 .bad (.fork qTV36 .bad (.fork qTV12 (.fork (.op2 .lt qTV3 (.var 5)) .bad (.leaf [.again 3 []])) (.leaf [.again 3 []]))))) (.leaf [.leave 1 []]))))
noncomputable def lZy2_l : List (List (X×Bool)×Option (List (Tgt×zp))):=[((qTV26,true) :: qTVf0,none),
 ((qTV24,true) :: (qTV26,false) :: qTVf0,none),
 ((qTV14,true) :: (qTV22,true) :: (qTV24,false) :: (qTV26,false) :: qTVf0,none),
 ((qTV28,true) :: qTVf3,none),
 ((qTV36,true) :: (qTV28,false) :: qTVf3,none),
 ((.op2 .lt qTV3 (.var 5),true) :: (qTV12,true) :: (qTV36,false) :: (qTV28,false) :: qTVf3,none),
 ((.op2 .lt qTV3 (.var 5),false) :: (qTV12,true) :: (qTV36,false) :: (qTV28,false) :: qTVf3,some [(.again 3 [],[])]),
 ((qTV12,false) :: (qTV36,false) :: (qTV28,false) :: qTVf3,some [(.again 3 [],[])]),
 ((qTV22,false) :: (qTV24,false) :: (qTV26,false) :: qTVf0,some [(.leave 1 [],[(.boo false,.boo true)])])]
theorem lZy2_w (r : Rho) : Zd.ways lZy_run E1 r 2 lZy2_F lZy2_t = some lZy2_l:=by kernel_rfl
noncomputable def lZy3_t : FTree:=(.leaf [.leave 0 []])
noncomputable def lZy3_l : List (List (X×Bool)×Option (List (Tgt×zp))):=[(qTVf0,some [(.leave 0 [],[])])]
theorem lZy3_w (r : Rho) : Zd.ways lZy_run E1 r 3 lZy3_F lZy3_t = some lZy3_l:=by kernel_rfl
theorem lZy_ok : Zd.ok = true:=by kernel_rfl
def lZy_Inv (j : Nat) (vals : List Value) : Prop:=j≤3∧vals = []
def lZy_mu (j : Nat) (_ : List Value) : Nat:=3 - j
theorem lZy_step0 {ρ : Rho} {x : Rat9} {kx : Nat→IntKind} {g : ByteArray} {hr : Int} {k13 : IntKind} (hx : Rat9At ρ 3 kx x) (h12 : ρ.val 12 = some (.string g)) (h13 : ρ.val 13 = some (.int k13 hr)) (hsy : ρ.sym = sy) (hok : okR9 [x] = true) (hc2 : chkER [x] = 0) (ht : (tch [] [x] g x.known).is = true) : yn Zd lZy_run E1 ρ lZy_Inv lZy_mu 0 []:=by
 have hN : Zd.N = 110:=rfl
 have hxx : (⟨x.id,x.known,x.from_,x.goods,x.num,x.den,x.cart,x.store,x.of_⟩ : Rat9) = x:=rfl
 have xl {jq vq}:=@xL ρ Zd.N 110 [] jq vq hN
 have xh {jq vq}:=@xH ρ Zd.N 110 [] jq vq hN
 have v3:=xl (jq:=3) hx.h0 (by decide)
 have v4:=xl (jq:=4) hx.h1 (by decide)
 have v5:=xl (jq:=5) hx.h2 (by decide)
 have v6:=xl (jq:=6) hx.h3 (by decide)
 have v7:=xl (jq:=7) hx.h4 (by decide)
 have v8:=xl (jq:=8) hx.h5 (by decide)
 have v9:=xl (jq:=9) hx.h6 (by decide)
 have v10:=xl (jq:=10) hx.h7 (by decide)
 have v11:=xl (jq:=11) hx.h8 (by decide)
 have v12:=xl (jq:=12) h12 (by decide)
 have v13:=xl (jq:=13) h13 (by decide)
 have vs : (ρ.ext Zd.N []).sym = sy:=hsy
 have hF : zf (ρ.ext Zd.N []) lZy0_F:=by
  simp only [lZy0_F,zf,gB,zd,gW,zm,zK,List.nil_append,v3,v4,v5,v6,v7,v8,v9,v10,v11,v12,v13,vs,hxx,ze,zi,zq,hok,hc2,ht,beq_self_eq_true,and_true,true_and]
 suffices both : y9 (ρ.ext Zd.N []) (lZy0_t.asks lZy0_F)∧zD Zd ρ lZy_Inv lZy_mu 0 [] lZy0_l from zC (lZy0_w _) hF both.1.ok both.2
 have go : ∃ vals',lZy_Inv 1 vals'∧lZy_mu 1 vals' < lZy_mu 0 []:=⟨[],⟨by omega,rfl⟩,by simp [lZy_mu]⟩
 have T:=touch_says (l:=[]) (x:=x) hc2 g x.known
 simp only [List.nil_append] at T
 obtain ⟨t1,t2⟩:=T
 obtain ⟨a1,a2,a3,a4,a5,a6,a7⟩:=t2 ht
 have bs : x.of_ = 0→hr < x.from_→inF [x] g hr x.known = inF [] g hr x.known:=fun a b => before_says (l:=[]) a g b
 have idl : idAt [] g hr x.known = 0:=rfl
 cases qin : inF [x] g hr x.known with
 | none =>
    have idm : idAt [x] g hr x.known = 0:=by unfold idAt; rw [qin]; rfl
    have q0 : za [x] g hr x.known 0 = some (.int .i64 0):=by unfold za; rw [qin]; rfl
    have q1 : za [x] g hr x.known 1 = some (.int .i64 0):=by unfold za; rw [qin]; rfl
    have q2 : za [x] g hr x.known 2 = some (.int .i64 0):=by unfold za; rw [qin]; rfl
    have q3 : za [x] g hr x.known 3 = some (.string (z7 [])):=by unfold za; rw [qin]; rfl
    have q4 : za [x] g hr x.known 4 = some (.int .i64 0):=by unfold za; rw [qin]; rfl
    have q5 : za [x] g hr x.known 5 = some (.int .i64 0):=by unfold za; rw [qin]; rfl
    have q6 : za [x] g hr x.known 6 = some (.int .i64 0):=by unfold za; rw [qin]; rfl
    have q7 : za [x] g hr x.known 7 = some (.int .i64 0):=by unfold za; rw [qin]; rfl
    have q8 : za [x] g hr x.known 8 = some (.int .i64 0):=by unfold za; rw [qin]; rfl
    refine ⟨?_,?_⟩
    all_goals (simp only [lZy0_t,lZy0_F,lZy0_l,gA,gB,zd,gW,zm,zK,zR,zD,zh,zk,yw,yy,zr,zE,dZ,g3,v3,v4,v5,v6,v7,v8,v9,v10,v11,v12,v13,vs,h12,h13,hsy,hxx,zi,ze,zF,zl,zx,zw,zq,hok,hc2,ht,qin,Option.isSome_none,Option.isSome_some,q0,q1,q2,q3,q4,q5,q6,q7,q8,reduceCtorEq,Bool.false_eq_true,false_implies,true_implies,and_true,true_and])
    all_goals (clear v3 v4 v5 v6 v7 v8 v9 v10 v11 v12 v13 vs hx h12 h13 hsy hF q0 q1 q2 q3 q4 q5 q6 q7 q8)
    all_goals ((repeat' apply And.intro) <;> intros <;> first
     | trivial
     | contradiction
     | (exact go)
     | (exfalso; omega)
     | (exfalso; have:=d1 (by omega); omega)
     | (exfalso; exact d3 (by assumption) (by assumption))
     | (simp_all; done))
 | some z =>
    have idm : idAt [x] g hr x.known = z.id:=by unfold idAt; rw [qin]; rfl
    have hz:=y7 hc2 qin
    have q0 : za [x] g hr x.known 0 = some (.int .i64 z.id):=by unfold za; rw [qin]; rfl
    have q1 : za [x] g hr x.known 1 = some (.int .i64 z.known):=by unfold za; rw [qin]; rfl
    have q2 : za [x] g hr x.known 2 = some (.int .i64 z.from_):=by unfold za; rw [qin]; rfl
    have q3 : za [x] g hr x.known 3 = some (.string z.goods):=by unfold za; rw [qin]; rfl
    have q4 : za [x] g hr x.known 4 = some (.int .i64 z.num):=by unfold za; rw [qin]; rfl
    have q5 : za [x] g hr x.known 5 = some (.int .i64 z.den):=by unfold za; rw [qin]; rfl
    have q6 : za [x] g hr x.known 6 = some (.int .i64 z.cart):=by unfold za; rw [qin]; rfl
    have q7 : za [x] g hr x.known 7 = some (.int .i64 z.store):=by unfold za; rw [qin]; rfl
    have q8 : za [x] g hr x.known 8 = some (.int .i64 z.of_):=by unfold za; rw [qin]; rfl
    have hd : idAt [] g hr x.known≠idAt [x] g hr x.known:=by rw [idl,idm]; exact Ne.symm hz
    have d1 : hr≤1000000→¬ hr < (tch [] [x] g x.known).from_∧¬ (tch [] [x] g x.known).until_ < hr:=fun b => by have:=a7 hr b hd; omega
    have d3 : x.of_ = 0→¬ hr < x.from_:=fun a b => hd (by unfold idAt; rw [bs a b])
    refine ⟨?_,?_⟩
    all_goals (simp only [lZy0_t,lZy0_F,lZy0_l,gA,gB,zd,gW,zm,zK,zR,zD,zh,zk,yw,yy,zr,zE,dZ,g3,v3,v4,v5,v6,v7,v8,v9,v10,v11,v12,v13,vs,h12,h13,hsy,hxx,zi,ze,zF,zl,zx,zw,zq,hok,hc2,ht,qin,Option.isSome_none,Option.isSome_some,q0,q1,q2,q3,q4,q5,q6,q7,q8,reduceCtorEq,Bool.false_eq_true,false_implies,true_implies,and_true,true_and])
    all_goals (clear v3 v4 v5 v6 v7 v8 v9 v10 v11 v12 v13 vs hx h12 h13 hsy hF q0 q1 q2 q3 q4 q5 q6 q7 q8)
    all_goals ((repeat' apply And.intro) <;> intros <;> first
     | trivial
     | contradiction
     | (exact go)
     | (exfalso; omega)
     | (exfalso; have:=d1 (by omega); omega)
     | (exfalso; exact d3 (by assumption) (by assumption))
     | (simp_all; done))
theorem lZy_step1 {ρ : Rho} {x : Rat9} {kx : Nat→IntKind} {g : ByteArray} {hr : Int} {k13 : IntKind} (hx : Rat9At ρ 3 kx x) (h12 : ρ.val 12 = some (.string g)) (h13 : ρ.val 13 = some (.int k13 hr)) (hsy : ρ.sym = sy) (hok : okR9 [x] = true) (hc2 : chkER [x] = 0) (ht : (tch [] [x] g x.known).is = true) : yn Zd lZy_run E1 ρ lZy_Inv lZy_mu 1 []:=by
 have hN : Zd.N = 110:=rfl
 have hxx : (⟨x.id,x.known,x.from_,x.goods,x.num,x.den,x.cart,x.store,x.of_⟩ : Rat9) = x:=rfl
 have xl {jq vq}:=@xL ρ Zd.N 110 [] jq vq hN
 have xh {jq vq}:=@xH ρ Zd.N 110 [] jq vq hN
 have v3:=xl (jq:=3) hx.h0 (by decide)
 have v4:=xl (jq:=4) hx.h1 (by decide)
 have v5:=xl (jq:=5) hx.h2 (by decide)
 have v6:=xl (jq:=6) hx.h3 (by decide)
 have v7:=xl (jq:=7) hx.h4 (by decide)
 have v8:=xl (jq:=8) hx.h5 (by decide)
 have v9:=xl (jq:=9) hx.h6 (by decide)
 have v10:=xl (jq:=10) hx.h7 (by decide)
 have v11:=xl (jq:=11) hx.h8 (by decide)
 have v12:=xl (jq:=12) h12 (by decide)
 have v13:=xl (jq:=13) h13 (by decide)
 have vs : (ρ.ext Zd.N []).sym = sy:=hsy
 have hF : zf (ρ.ext Zd.N []) lZy1_F:=by
  simp only [lZy1_F,zf,gB,zd,gW,zm,zK,List.nil_append,v3,v4,v5,v6,v7,v8,v9,v10,v11,v12,v13,vs,hxx,ze,zi,zq,hok,hc2,ht,beq_self_eq_true,and_true,true_and]
 suffices both : y9 (ρ.ext Zd.N []) (lZy1_t.asks lZy1_F)∧zD Zd ρ lZy_Inv lZy_mu 1 [] lZy1_l from zC (lZy1_w _) hF both.1.ok both.2
 have go : ∃ vals',lZy_Inv 2 vals'∧lZy_mu 2 vals' < lZy_mu 1 []:=⟨[],⟨by omega,rfl⟩,by simp [lZy_mu]⟩
 have T:=touch_says (l:=[]) (x:=x) hc2 g x.known
 simp only [List.nil_append] at T
 obtain ⟨t1,t2⟩:=T
 obtain ⟨a1,a2,a3,a4,a5,a6,a7⟩:=t2 ht
 generalize hH : ((tch [] [x] g x.known).from_ : Int) = hh at *
 have bs : x.of_ = 0→hh < x.from_→inF [x] g hh x.known = inF [] g hh x.known:=fun a b => before_says (l:=[]) a g b
 have idl : idAt [] g hh x.known = 0:=rfl
 cases qin : inF [x] g hh x.known with
 | none =>
    have idm : idAt [x] g hh x.known = 0:=by unfold idAt; rw [qin]; rfl
    have q0 : za [x] g hh x.known 0 = some (.int .i64 0):=by unfold za; rw [qin]; rfl
    have q1 : za [x] g hh x.known 1 = some (.int .i64 0):=by unfold za; rw [qin]; rfl
    have q2 : za [x] g hh x.known 2 = some (.int .i64 0):=by unfold za; rw [qin]; rfl
    have q3 : za [x] g hh x.known 3 = some (.string (z7 [])):=by unfold za; rw [qin]; rfl
    have q4 : za [x] g hh x.known 4 = some (.int .i64 0):=by unfold za; rw [qin]; rfl
    have q5 : za [x] g hh x.known 5 = some (.int .i64 0):=by unfold za; rw [qin]; rfl
    have q6 : za [x] g hh x.known 6 = some (.int .i64 0):=by unfold za; rw [qin]; rfl
    have q7 : za [x] g hh x.known 7 = some (.int .i64 0):=by unfold za; rw [qin]; rfl
    have q8 : za [x] g hh x.known 8 = some (.int .i64 0):=by unfold za; rw [qin]; rfl
    have hd : idAt [] g hh x.known = idAt [x] g hh x.known:=by rw [idl,idm]
    exact absurd hd (by assumption)
 | some z =>
    have idm : idAt [x] g hh x.known = z.id:=by unfold idAt; rw [qin]; rfl
    have hz:=y7 hc2 qin
    have q0 : za [x] g hh x.known 0 = some (.int .i64 z.id):=by unfold za; rw [qin]; rfl
    have q1 : za [x] g hh x.known 1 = some (.int .i64 z.known):=by unfold za; rw [qin]; rfl
    have q2 : za [x] g hh x.known 2 = some (.int .i64 z.from_):=by unfold za; rw [qin]; rfl
    have q3 : za [x] g hh x.known 3 = some (.string z.goods):=by unfold za; rw [qin]; rfl
    have q4 : za [x] g hh x.known 4 = some (.int .i64 z.num):=by unfold za; rw [qin]; rfl
    have q5 : za [x] g hh x.known 5 = some (.int .i64 z.den):=by unfold za; rw [qin]; rfl
    have q6 : za [x] g hh x.known 6 = some (.int .i64 z.cart):=by unfold za; rw [qin]; rfl
    have q7 : za [x] g hh x.known 7 = some (.int .i64 z.store):=by unfold za; rw [qin]; rfl
    have q8 : za [x] g hh x.known 8 = some (.int .i64 z.of_):=by unfold za; rw [qin]; rfl
    have hd : idAt [] g hh x.known≠idAt [x] g hh x.known:=by rw [idl,idm]; exact Ne.symm hz
    have d1 : hh≤1000000→¬ hh < (tch [] [x] g x.known).from_∧¬ (tch [] [x] g x.known).until_ < hh:=fun b => by have:=a7 hh b hd; omega
    have d3 : x.of_ = 0→¬ hh < x.from_:=fun a b => hd (by unfold idAt; rw [bs a b])
    refine ⟨?_,?_⟩
    all_goals (simp only [lZy1_t,lZy1_F,lZy1_l,gA,gB,zd,gW,zm,zK,zR,zD,zh,zk,yw,yy,zr,zE,dZ,g3,v3,v4,v5,v6,v7,v8,v9,v10,v11,v12,v13,vs,h12,h13,hsy,hxx,zi,ze,zF,zl,zx,zw,zq,hok,hc2,ht,hH,qin,Option.isSome_none,Option.isSome_some,q0,q1,q2,q3,q4,q5,q6,q7,q8,reduceCtorEq,Bool.false_eq_true,false_implies,true_implies,and_true,true_and])
    all_goals (clear v3 v4 v5 v6 v7 v8 v9 v10 v11 v12 v13 vs hx h12 h13 hsy hF q0 q1 q2 q3 q4 q5 q6 q7 q8)
    all_goals ((repeat' apply And.intro) <;> intros <;> first
     | trivial
     | contradiction
     | (exact go)
     | (exfalso; omega)
     | (exfalso; have:=d1 (by omega); omega)
     | (exfalso; exact d3 (by assumption) (by assumption))
     | (simp_all; done))
theorem lZy_step2 {ρ : Rho} {x : Rat9} {kx : Nat→IntKind} {g : ByteArray} {hr : Int} {k13 : IntKind} (hx : Rat9At ρ 3 kx x) (h12 : ρ.val 12 = some (.string g)) (h13 : ρ.val 13 = some (.int k13 hr)) (hsy : ρ.sym = sy) (hok : okR9 [x] = true) (hc2 : chkER [x] = 0) (ht : (tch [] [x] g x.known).is = true) : yn Zd lZy_run E1 ρ lZy_Inv lZy_mu 2 []:=by
 have hN : Zd.N = 110:=rfl
 have hxx : (⟨x.id,x.known,x.from_,x.goods,x.num,x.den,x.cart,x.store,x.of_⟩ : Rat9) = x:=rfl
 have xl {jq vq}:=@xL ρ Zd.N 110 [] jq vq hN
 have xh {jq vq}:=@xH ρ Zd.N 110 [] jq vq hN
 have v3:=xl (jq:=3) hx.h0 (by decide)
 have v4:=xl (jq:=4) hx.h1 (by decide)
 have v5:=xl (jq:=5) hx.h2 (by decide)
 have v6:=xl (jq:=6) hx.h3 (by decide)
 have v7:=xl (jq:=7) hx.h4 (by decide)
 have v8:=xl (jq:=8) hx.h5 (by decide)
 have v9:=xl (jq:=9) hx.h6 (by decide)
 have v10:=xl (jq:=10) hx.h7 (by decide)
 have v11:=xl (jq:=11) hx.h8 (by decide)
 have v12:=xl (jq:=12) h12 (by decide)
 have v13:=xl (jq:=13) h13 (by decide)
 have vs : (ρ.ext Zd.N []).sym = sy:=hsy
 have hF : zf (ρ.ext Zd.N []) lZy2_F:=by
  simp only [lZy2_F,zf,gB,zd,gW,zm,zK,List.nil_append,v3,v4,v5,v6,v7,v8,v9,v10,v11,v12,v13,vs,hxx,ze,zi,zq,hok,hc2,ht,beq_self_eq_true,and_true,true_and]
 suffices both : y9 (ρ.ext Zd.N []) (lZy2_t.asks lZy2_F)∧zD Zd ρ lZy_Inv lZy_mu 2 [] lZy2_l from zC (lZy2_w _) hF both.1.ok both.2
 have go : ∃ vals',lZy_Inv 3 vals'∧lZy_mu 3 vals' < lZy_mu 2 []:=⟨[],⟨by omega,rfl⟩,by simp [lZy_mu]⟩
 have T:=touch_says (l:=[]) (x:=x) hc2 g x.known
 simp only [List.nil_append] at T
 obtain ⟨t1,t2⟩:=T
 obtain ⟨a1,a2,a3,a4,a5,a6,a7⟩:=t2 ht
 generalize hH : ((tch [] [x] g x.known).until_ : Int) = hh at *
 have bs : x.of_ = 0→hh < x.from_→inF [x] g hh x.known = inF [] g hh x.known:=fun a b => before_says (l:=[]) a g b
 have idl : idAt [] g hh x.known = 0:=rfl
 cases qin : inF [x] g hh x.known with
 | none =>
    have idm : idAt [x] g hh x.known = 0:=by unfold idAt; rw [qin]; rfl
    have q0 : za [x] g hh x.known 0 = some (.int .i64 0):=by unfold za; rw [qin]; rfl
    have q1 : za [x] g hh x.known 1 = some (.int .i64 0):=by unfold za; rw [qin]; rfl
    have q2 : za [x] g hh x.known 2 = some (.int .i64 0):=by unfold za; rw [qin]; rfl
    have q3 : za [x] g hh x.known 3 = some (.string (z7 [])):=by unfold za; rw [qin]; rfl
    have q4 : za [x] g hh x.known 4 = some (.int .i64 0):=by unfold za; rw [qin]; rfl
    have q5 : za [x] g hh x.known 5 = some (.int .i64 0):=by unfold za; rw [qin]; rfl
    have q6 : za [x] g hh x.known 6 = some (.int .i64 0):=by unfold za; rw [qin]; rfl
    have q7 : za [x] g hh x.known 7 = some (.int .i64 0):=by unfold za; rw [qin]; rfl
    have q8 : za [x] g hh x.known 8 = some (.int .i64 0):=by unfold za; rw [qin]; rfl
    have hd : idAt [] g hh x.known = idAt [x] g hh x.known:=by rw [idl,idm]
    exact absurd hd (by assumption)
 | some z =>
    have idm : idAt [x] g hh x.known = z.id:=by unfold idAt; rw [qin]; rfl
    have hz:=y7 hc2 qin
    have q0 : za [x] g hh x.known 0 = some (.int .i64 z.id):=by unfold za; rw [qin]; rfl
    have q1 : za [x] g hh x.known 1 = some (.int .i64 z.known):=by unfold za; rw [qin]; rfl
    have q2 : za [x] g hh x.known 2 = some (.int .i64 z.from_):=by unfold za; rw [qin]; rfl
    have q3 : za [x] g hh x.known 3 = some (.string z.goods):=by unfold za; rw [qin]; rfl
    have q4 : za [x] g hh x.known 4 = some (.int .i64 z.num):=by unfold za; rw [qin]; rfl
    have q5 : za [x] g hh x.known 5 = some (.int .i64 z.den):=by unfold za; rw [qin]; rfl
    have q6 : za [x] g hh x.known 6 = some (.int .i64 z.cart):=by unfold za; rw [qin]; rfl
    have q7 : za [x] g hh x.known 7 = some (.int .i64 z.store):=by unfold za; rw [qin]; rfl
    have q8 : za [x] g hh x.known 8 = some (.int .i64 z.of_):=by unfold za; rw [qin]; rfl
    have hd : idAt [] g hh x.known≠idAt [x] g hh x.known:=by rw [idl,idm]; exact Ne.symm hz
    have d1 : hh≤1000000→¬ hh < (tch [] [x] g x.known).from_∧¬ (tch [] [x] g x.known).until_ < hh:=fun b => by have:=a7 hh b hd; omega
    have d3 : x.of_ = 0→¬ hh < x.from_:=fun a b => hd (by unfold idAt; rw [bs a b])
    refine ⟨?_,?_⟩
    all_goals (simp only [lZy2_t,lZy2_F,lZy2_l,gA,gB,zd,gW,zm,zK,zR,zD,zh,zk,yw,yy,zr,zE,dZ,g3,v3,v4,v5,v6,v7,v8,v9,v10,v11,v12,v13,vs,h12,h13,hsy,hxx,zi,ze,zF,zl,zx,zw,zq,hok,hc2,ht,hH,qin,Option.isSome_none,Option.isSome_some,q0,q1,q2,q3,q4,q5,q6,q7,q8,reduceCtorEq,Bool.false_eq_true,false_implies,true_implies,and_true,true_and])
    all_goals (clear v3 v4 v5 v6 v7 v8 v9 v10 v11 v12 v13 vs hx h12 h13 hsy hF q0 q1 q2 q3 q4 q5 q6 q7 q8)
    all_goals ((repeat' apply And.intro) <;> intros <;> first
     | trivial
     | contradiction
     | (exact go)
     | (exfalso; omega)
     | (exfalso; have:=d1 (by omega); omega)
     | (exfalso; exact d3 (by assumption) (by assumption))
     | (simp_all; done))
theorem lZy_step3 {ρ : Rho} {x : Rat9} {kx : Nat→IntKind} {g : ByteArray} {hr : Int} {k13 : IntKind} (hx : Rat9At ρ 3 kx x) (h12 : ρ.val 12 = some (.string g)) (h13 : ρ.val 13 = some (.int k13 hr)) (hsy : ρ.sym = sy) (hok : okR9 [x] = true) (hc2 : chkER [x] = 0) (ht : (tch [] [x] g x.known).is = true) : yn Zd lZy_run E1 ρ lZy_Inv lZy_mu 3 []:=by
 have hN : Zd.N = 110:=rfl
 have hxx : (⟨x.id,x.known,x.from_,x.goods,x.num,x.den,x.cart,x.store,x.of_⟩ : Rat9) = x:=rfl
 have xl {jq vq}:=@xL ρ Zd.N 110 [] jq vq hN
 have xh {jq vq}:=@xH ρ Zd.N 110 [] jq vq hN
 have v3:=xl (jq:=3) hx.h0 (by decide)
 have v4:=xl (jq:=4) hx.h1 (by decide)
 have v5:=xl (jq:=5) hx.h2 (by decide)
 have v6:=xl (jq:=6) hx.h3 (by decide)
 have v7:=xl (jq:=7) hx.h4 (by decide)
 have v8:=xl (jq:=8) hx.h5 (by decide)
 have v9:=xl (jq:=9) hx.h6 (by decide)
 have v10:=xl (jq:=10) hx.h7 (by decide)
 have v11:=xl (jq:=11) hx.h8 (by decide)
 have v12:=xl (jq:=12) h12 (by decide)
 have v13:=xl (jq:=13) h13 (by decide)
 have vs : (ρ.ext Zd.N []).sym = sy:=hsy
 have hF : zf (ρ.ext Zd.N []) lZy3_F:=by
  simp only [lZy3_F,zf,gB,zd,gW,zm,zK,List.nil_append,v3,v4,v5,v6,v7,v8,v9,v10,v11,v12,v13,vs,hxx,ze,zi,zq,hok,hc2,ht,beq_self_eq_true,and_true,true_and]
 suffices both : y9 (ρ.ext Zd.N []) (lZy3_t.asks lZy3_F)∧zD Zd ρ lZy_Inv lZy_mu 3 [] lZy3_l from zC (lZy3_w _) hF both.1.ok both.2
 refine ⟨?_,?_⟩
 ·simp only [lZy3_t,lZy3_F,gA,gB,zd,gW,zm,zK,v3,v4,v5,v6,v7,v8,v9,v10,v11,v12,v13,vs]
  try simp
 ·simp only [lZy3_l,gE,dZ,gB,zd,g3,gW,zm,zK,List.nil_append,v3,v4,v5,v6,v7,v8,v9,v10,v11,v12,v13,vs]
  try simp
theorem lZy_step {ρ : Rho} {x : Rat9} {kx : Nat→IntKind} {g : ByteArray} {hr : Int} {k13 : IntKind} (hx : Rat9At ρ 3 kx x) (h12 : ρ.val 12 = some (.string g)) (h13 : ρ.val 13 = some (.int k13 hr)) (hsy : ρ.sym = sy) (hok : okR9 [x] = true) (hc2 : chkER [x] = 0) (ht : (tch [] [x] g x.known).is = true) (j : Nat) (vals : List Value) (hI : lZy_Inv j vals) : yn Zd lZy_run E1 ρ lZy_Inv lZy_mu j vals:=by
 obtain ⟨hj,rfl⟩:=hI
 have hc : j = 0∨j = 1∨j = 2∨j = 3:=by omega
 rcases hc with rfl | rfl | rfl | rfl
 ·exact lZy_step0 hx h12 h13 hsy hok hc2 ht
 ·exact lZy_step1 hx h12 h13 hsy hok hc2 ht
 ·exact lZy_step2 hx h12 h13 hsy hok hc2 ht
 ·exact lZy_step3 hx h12 h13 hsy hok hc2 ht
noncomputable def tzE_fn : FnD:={ f:=5,args:=argsAV [.nils,.agg [.int .i64 3,.int .i64 4,.int .i64 5,.str 6,.int .i64 7,.int .i64 8,.int .i64 9,.int .i64 10,.int .i64 11],.one (.str 12),.one (.int .i64 13)],heap:=hRoot ++ argsBlk [.nils,.agg [.int .i64 3,.int .i64 4,.int .i64 5,.str 6,.int .i64 7,.int .i64 8,.int .i64 9,.int .i64 10,.int .i64 11],.one (.str 12),.one (.int .i64 13)],N:=100,M:=100,out:=.sbool (.boo true),news:=[] }
noncomputable def tzE_call : Env→Za:=fun E => zS E (evH E (WZL E) ((fun _ => yX) E) 14)
noncomputable def tzE_pre : List (X×Bool):=[(qTV18,false)]
noncomputable def tzE_t : GTree:=(.fork qTV6 (.leaf [[]]) (.fork qTV8 (.leaf [[]]) (.fork qTV7 (.fork qTV33 (.leaf [[]]) (.leaf [[]])) .bad)))
noncomputable def tzE_l : List (List (X×Bool)×Option zp):=[([(qTV6,true),(qTV5,false)],some []),
 ([(qTV8,true),(qTV6,false),(qTV5,false)],some []),
 ((qTV33,true) :: (qTV7,true) :: qTVf11,some []),
 ((qTV33,false) :: (qTV7,true) :: qTVf11,some [(.boo true,.boo false)]),
 ((qTV7,false) :: qTVf11,none)]
theorem tzE_w (r : Rho) : tzE_fn.ways tzE_call E1 r tzE_pre tzE_t = some tzE_l:=by kernel_rfl
theorem tzE_out (σ : Sig) : tzE_fn.out.inst σ = some (.bool true):=rfl
set_option maxRecDepth 100000 in
theorem tzE_true {r : Rho} {σ : Sig} {w : World} {us : List Value} {x : Rat9} {kx : Nat→IntKind} {g : ByteArray} {hr : Int} {k13 : IntKind} (hx : Rat9At r 3 kx x) (h12 : r.val 12 = some (.string g)) (h13 : r.val 13 = some (.int k13 hr)) (hc2 : chkER [x]≠0) (hsy : r.sym = sy) (hρ : σ.rho = r) (hA : ∀ g id,E1.glob g = some id→∃ κ,σ id = some (g,κ)) (hrel : (memOf tzE_fn.heap 100).rel Tryz.prog σ w (fun b => w.heap.size≤b)) (hins : Ins σ tzE_fn.args us) :
  Calls Tryz.prog 5 us.toArray w fun e w' => e = .returned (.bool true)∧Kept (fun b => w.heap.size≤b) w w':=by
 have a0:=hx.h0
 have a1:=hx.h1
 have a2:=hx.h2
 have a3:=hx.h3
 have a4:=hx.h4
 have a5:=hx.h5
 have a6:=hx.h6
 have a7:=hx.h7
 have a8:=hx.h8
 simp only [Nat.reduceAdd] at a0 a1 a2 a3 a4 a5 a6 a7 a8
 have hxx : (⟨x.id,x.known,x.from_,x.goods,x.num,x.den,x.cart,x.store,x.of_⟩ : Rat9) = x:=rfl
 have hfew : (x.goods.size : Int)≤100→okR9 [x] = true:=fun b => ok_snoc (l:=[]) rfl b (by simp)
 refine law_of (E:=E1) (D:=tzE_fn) E1_ok (fun F => WZL_ok F hsy) (fun F => noH_ok) (tzE_w r) hρ hA ?_ hrel hins ?_ ?_ tzE_out
 ·have : (chkER [x] == 0) = false:=by simpa using hc2
  simp only [tzE_pre,zf,gB,zd,gW,zm,zK,List.nil_append,h12,h13,a0,a1,a2,a3,a4,a5,a6,a7,a8,hxx,hsy,zi,ze,zF,zl,zx,zw,zq,this,and_true]
 ·simp only [tzE_pre,tzE_t,gA,gB,zd,gW,zm,zK,h12,h13,a0,a1,a2,a3,a4,a5,a6,a7,a8,hxx,hsy,zi,ze,zF,zl,zx,zw,zq]
  try simp
 ·simp only [tzE_l,gE,dZ,gB,zd,g3,gW,zm,zK,List.nil_append,h12,h13,a0,a1,a2,a3,a4,a5,a6,a7,a8,hxx,hsy,zi,ze,zF,zl,zx,zw,zq]
  clear hρ hrel hins h12 h13 a0 a1 a2 a3 a4 a5 a6 a7 a8 hx hsy hA
  (repeat' apply And.intro) <;> intros <;> first
    | (exact True.intro)
    | rfl
    | contradiction
    | (exfalso; omega)
    | (simp_all; done)
    | (exfalso; simp_all; done)
    | (exfalso; simp_all; omega)
noncomputable def tzN_fn : FnD:={ f:=5,args:=argsAV [.nils,.agg [.int .i64 3,.int .i64 4,.int .i64 5,.str 6,.int .i64 7,.int .i64 8,.int .i64 9,.int .i64 10,.int .i64 11],.one (.str 12),.one (.int .i64 13)],heap:=hRoot ++ argsBlk [.nils,.agg [.int .i64 3,.int .i64 4,.int .i64 5,.str 6,.int .i64 7,.int .i64 8,.int .i64 9,.int .i64 10,.int .i64 11],.one (.str 12),.one (.int .i64 13)],N:=100,M:=100,out:=.sbool (.boo true),news:=[] }
noncomputable def tzN_call : Env→Za:=fun E => zS E (evH E (WZL E) ((fun E => oneH 5 (hooks [(11,Ze.hook E.facts nw_vs)])) E) 14)
noncomputable def tzN_pre : List (X×Bool):=[(qTV18,true),(qTV17,false)]
noncomputable def tzN_t : GTree:=(.fork qTV6 (.leaf [[]]) (.fork qTV8 (.leaf [[]]) (.fork qTV7 (.fork qTV20 (.fork qTV27 (.leaf [[]]) (.fork qTV10 (.leaf [[]]) (.leaf [[]]))) .bad) .bad)))
noncomputable def tzN_l : List (List (X×Bool)×Option zp):=[((qTV6,true) :: qTVf12,some []),
 ((qTV8,true) :: (qTV6,false) :: qTVf12,some []),
 ((qTV27,true) :: (qTV20,true) :: (qTV7,true) :: qTVf5,some []),
 ((qTV10,true) :: (qTV27,false) :: (qTV20,true) :: (qTV7,true) :: qTVf5,some []),
 ((qTV10,false) :: (qTV27,false) :: (qTV20,true) :: (qTV7,true) :: qTVf5,some []),
 ((qTV20,false) :: (qTV7,true) :: qTVf5,none),
 ((qTV7,false) :: qTVf5,none)]
theorem tzN_w (r : Rho) : tzN_fn.ways tzN_call E1 r tzN_pre tzN_t = some tzN_l:=by kernel_rfl
set_option maxRecDepth 100000 in
theorem toZ_tzN {ρ : Rho} {x : Rat9} {kx : Nat→IntKind} {g : ByteArray} {hr : Int} {k13 : IntKind} (hx : Rat9At ρ 3 kx x) (h12 : ρ.val 12 = some (.string g)) (h13 : ρ.val 13 = some (.int k13 hr)) (hsy : ρ.sym = sy) (F : List (X×Bool)) : LoopsOk (E1.with F ρ) (oneH 5 (hooks [(11,Ze.hook (E1.with F ρ).facts nw_vs)])):=by
 have a0:=hx.h0
 have a1:=hx.h1
 have a2:=hx.h2
 have a3:=hx.h3
 have a4:=hx.h4
 have a5:=hx.h5
 have a6:=hx.h6
 have a7:=hx.h7
 have a8:=hx.h8
 simp only [Nat.reduceAdd] at a0 a1 a2 a3 a4 a5 a6 a7 a8
 have hxx : (⟨x.id,x.known,x.from_,x.goods,x.num,x.den,x.cart,x.store,x.of_⟩ : Rat9) = x:=rfl
 refine loops_all (n:=2) (fun f fn h => h) (by kernel_rfl) fun i hi => ?_
 have h01 : i = 0∨i = 1:=by omega
 rcases h01 with rfl | rfl
 ·rw [hooks_hit (show keyOf (yA (E1.with F ρ).P 5 0) = 11 by kernel_rfl)]
  refine hook_ok (E₀:=E1) (run:=lZw_run) (ρ:=ρ) (Inv:=lZw_Inv) (μ:=lZw_mu) E1_ok lZw_ok (fun F r' h => ?_) (fun hp => ?_)
  ·exact ye E1_ok (WZR_ok F (h.trans hsy)) fun _ _ => yc
  ·simp only [Ze,zf,gB,zd,gW,zm,zK,List.nil_append,h12,h13,a0,a1,a2,a3,a4,a5,a6,a7,a8,hsy,hxx,zi,ze,zF,zl,zx,zw,zq,Option.some.injEq,Value.bool.injEq,and_true,beq_iff_eq] at hp
   exact ⟨lZw_step hx h12 h13 hsy hp.1 hp.2.1 hp.2.2,[],rfl,by omega,rfl⟩
 ·rw [hooks_miss (show Nat.beq (keyOf (yA (E1.with F ρ).P 5 1)) 11 = false by kernel_rfl)]
  exact fun f S outs h => by cases h
theorem tzN_out (σ : Sig) : tzN_fn.out.inst σ = some (.bool true):=rfl
set_option maxRecDepth 100000 in
theorem tzN_true {r : Rho} {σ : Sig} {w : World} {us : List Value} {x : Rat9} {kx : Nat→IntKind} {g : ByteArray} {hr : Int} {k13 : IntKind} (hx : Rat9At r 3 kx x) (h12 : r.val 12 = some (.string g)) (h13 : r.val 13 = some (.int k13 hr)) (hc2 : chkER [x] = 0) (ht : (tch [] [x] g x.known).is = false) (hsy : r.sym = sy) (hρ : σ.rho = r) (hA : ∀ g id,E1.glob g = some id→∃ κ,σ id = some (g,κ)) (hrel : (memOf tzN_fn.heap 100).rel Tryz.prog σ w (fun b => w.heap.size≤b)) (hins : Ins σ tzN_fn.args us) :
  Calls Tryz.prog 5 us.toArray w fun e w' => e = .returned (.bool true)∧Kept (fun b => w.heap.size≤b) w w':=by
 have a0:=hx.h0
 have a1:=hx.h1
 have a2:=hx.h2
 have a3:=hx.h3
 have a4:=hx.h4
 have a5:=hx.h5
 have a6:=hx.h6
 have a7:=hx.h7
 have a8:=hx.h8
 simp only [Nat.reduceAdd] at a0 a1 a2 a3 a4 a5 a6 a7 a8
 have hxx : (⟨x.id,x.known,x.from_,x.goods,x.num,x.den,x.cart,x.store,x.of_⟩ : Rat9) = x:=rfl
 have hfew : (x.goods.size : Int)≤100→okR9 [x] = true:=fun b => ok_snoc (l:=[]) rfl b (by simp)
 refine law_of (E:=E1) (D:=tzN_fn) E1_ok (fun F => WZL_ok F hsy) (fun F => toZ_tzN hx h12 h13 hsy F) (tzN_w r) hρ hA ?_ hrel hins ?_ ?_ tzN_out
 ·have : (chkER [x] == 0) = true:=by simpa using hc2
  simp only [tzN_pre,zf,gB,zd,gW,zm,zK,List.nil_append,h12,h13,a0,a1,a2,a3,a4,a5,a6,a7,a8,hxx,hsy,zi,ze,zF,zl,zx,zw,zq,this,ht,and_true]
 ·simp only [tzN_pre,tzN_t,gA,gB,zd,gW,zm,zK,h12,h13,a0,a1,a2,a3,a4,a5,a6,a7,a8,hxx,hsy,zi,ze,zF,zl,zx,zw,zq]
  try simp
 ·simp only [tzN_l,gE,dZ,gB,zd,g3,gW,zm,zK,List.nil_append,h12,h13,a0,a1,a2,a3,a4,a5,a6,a7,a8,hxx,hsy,zi,ze,zF,zl,zx,zw,zq]
  clear hρ hrel hins h12 h13 a0 a1 a2 a3 a4 a5 a6 a7 a8 hx hsy hA
  (repeat' apply And.intro) <;> intros <;> first
    | (exact True.intro)
    | rfl
    | contradiction
    | (exfalso; omega)
    | (simp_all; done)
    | (exfalso; simp_all; done)
    | (exfalso; simp_all; omega)
noncomputable def tzY_fn : FnD:={ f:=5,args:=argsAV [.nils,.agg [.int .i64 3,.int .i64 4,.int .i64 5,.str 6,.int .i64 7,.int .i64 8,.int .i64 9,.int .i64 10,.int .i64 11],.one (.str 12),.one (.int .i64 13)],heap:=hRoot ++ argsBlk [.nils,.agg [.int .i64 3,.int .i64 4,.int .i64 5,.str 6,.int .i64 7,.int .i64 8,.int .i64 9,.int .i64 10,.int .i64 11],.one (.str 12),.one (.int .i64 13)],N:=100,M:=100,out:=.sbool (.boo true),news:=[] }
noncomputable def tzY_call : Env→Za:=fun E => zS E (evH E (WZL E) ((fun E => oneH 5 (hooks [(11,Zd.hook E.facts nw_vs)])) E) 14)
noncomputable def tzY_pre : List (X×Bool):=[(qTV18,true),(qTV17,true)]
noncomputable def tzY_t : GTree:=(.fork qTV6 (.leaf [[]]) (.fork qTV8 (.leaf [[]]) (.fork qTV7 (.fork qTV20 (.fork qTV27 (.leaf [[]]) (.fork qTV10 (.leaf [[]]) (.leaf [[]]))) .bad) .bad)))
noncomputable def tzY_l : List (List (X×Bool)×Option zp):=[((qTV6,true) :: qTVf13,some []),
 ((qTV8,true) :: (qTV6,false) :: qTVf13,some []),
 ((qTV27,true) :: (qTV20,true) :: (qTV7,true) :: qTVf6,some []),
 ((qTV10,true) :: (qTV27,false) :: (qTV20,true) :: (qTV7,true) :: qTVf6,some []),
 ((qTV10,false) :: (qTV27,false) :: (qTV20,true) :: (qTV7,true) :: qTVf6,some []),
 ((qTV20,false) :: (qTV7,true) :: qTVf6,none),
 ((qTV7,false) :: qTVf6,none)]
theorem tzY_w (r : Rho) : tzY_fn.ways tzY_call E1 r tzY_pre tzY_t = some tzY_l:=by kernel_rfl
set_option maxRecDepth 100000 in
theorem toZ_tzY {ρ : Rho} {x : Rat9} {kx : Nat→IntKind} {g : ByteArray} {hr : Int} {k13 : IntKind} (hx : Rat9At ρ 3 kx x) (h12 : ρ.val 12 = some (.string g)) (h13 : ρ.val 13 = some (.int k13 hr)) (hsy : ρ.sym = sy) (F : List (X×Bool)) : LoopsOk (E1.with F ρ) (oneH 5 (hooks [(11,Zd.hook (E1.with F ρ).facts nw_vs)])):=by
 have a0:=hx.h0
 have a1:=hx.h1
 have a2:=hx.h2
 have a3:=hx.h3
 have a4:=hx.h4
 have a5:=hx.h5
 have a6:=hx.h6
 have a7:=hx.h7
 have a8:=hx.h8
 simp only [Nat.reduceAdd] at a0 a1 a2 a3 a4 a5 a6 a7 a8
 have hxx : (⟨x.id,x.known,x.from_,x.goods,x.num,x.den,x.cart,x.store,x.of_⟩ : Rat9) = x:=rfl
 refine loops_all (n:=2) (fun f fn h => h) (by kernel_rfl) fun i hi => ?_
 have h01 : i = 0∨i = 1:=by omega
 rcases h01 with rfl | rfl
 ·rw [hooks_hit (show keyOf (yA (E1.with F ρ).P 5 0) = 11 by kernel_rfl)]
  refine hook_ok (E₀:=E1) (run:=lZy_run) (ρ:=ρ) (Inv:=lZy_Inv) (μ:=lZy_mu) E1_ok lZy_ok (fun F r' h => ?_) (fun hp => ?_)
  ·exact ye E1_ok (WZR_ok F (h.trans hsy)) fun _ _ => yc
  ·simp only [Zd,zf,gB,zd,gW,zm,zK,List.nil_append,h12,h13,a0,a1,a2,a3,a4,a5,a6,a7,a8,hsy,hxx,zi,ze,zF,zl,zx,zw,zq,Option.some.injEq,Value.bool.injEq,and_true,beq_iff_eq] at hp
   exact ⟨lZy_step hx h12 h13 hsy hp.1 hp.2.1 hp.2.2,[],rfl,by omega,rfl⟩
 ·rw [hooks_miss (show Nat.beq (keyOf (yA (E1.with F ρ).P 5 1)) 11 = false by kernel_rfl)]
  exact fun f S outs h => by cases h
theorem tzY_out (σ : Sig) : tzY_fn.out.inst σ = some (.bool true):=rfl
set_option maxRecDepth 100000 in
theorem tzY_true {r : Rho} {σ : Sig} {w : World} {us : List Value} {x : Rat9} {kx : Nat→IntKind} {g : ByteArray} {hr : Int} {k13 : IntKind} (hx : Rat9At r 3 kx x) (h12 : r.val 12 = some (.string g)) (h13 : r.val 13 = some (.int k13 hr)) (hc2 : chkER [x] = 0) (ht : (tch [] [x] g x.known).is = true) (hsy : r.sym = sy) (hρ : σ.rho = r) (hA : ∀ g id,E1.glob g = some id→∃ κ,σ id = some (g,κ)) (hrel : (memOf tzY_fn.heap 100).rel Tryz.prog σ w (fun b => w.heap.size≤b)) (hins : Ins σ tzY_fn.args us) :
  Calls Tryz.prog 5 us.toArray w fun e w' => e = .returned (.bool true)∧Kept (fun b => w.heap.size≤b) w w':=by
 have a0:=hx.h0
 have a1:=hx.h1
 have a2:=hx.h2
 have a3:=hx.h3
 have a4:=hx.h4
 have a5:=hx.h5
 have a6:=hx.h6
 have a7:=hx.h7
 have a8:=hx.h8
 simp only [Nat.reduceAdd] at a0 a1 a2 a3 a4 a5 a6 a7 a8
 have hxx : (⟨x.id,x.known,x.from_,x.goods,x.num,x.den,x.cart,x.store,x.of_⟩ : Rat9) = x:=rfl
 have hfew : (x.goods.size : Int)≤100→okR9 [x] = true:=fun b => ok_snoc (l:=[]) rfl b (by simp)
 refine law_of (E:=E1) (D:=tzY_fn) E1_ok (fun F => WZL_ok F hsy) (fun F => toZ_tzY hx h12 h13 hsy F) (tzY_w r) hρ hA ?_ hrel hins ?_ ?_ tzY_out
 ·have : (chkER [x] == 0) = true:=by simpa using hc2
  simp only [tzY_pre,zf,gB,zd,gW,zm,zK,List.nil_append,h12,h13,a0,a1,a2,a3,a4,a5,a6,a7,a8,hxx,hsy,zi,ze,zF,zl,zx,zw,zq,this,ht,and_true]
 ·simp only [tzY_pre,tzY_t,gA,gB,zd,gW,zm,zK,h12,h13,a0,a1,a2,a3,a4,a5,a6,a7,a8,hxx,hsy,zi,ze,zF,zl,zx,zw,zq]
  try simp
 ·simp only [tzY_l,gE,dZ,gB,zd,g3,gW,zm,zK,List.nil_append,h12,h13,a0,a1,a2,a3,a4,a5,a6,a7,a8,hxx,hsy,zi,ze,zF,zl,zx,zw,zq]
  clear hρ hrel hins h12 h13 a0 a1 a2 a3 a4 a5 a6 a7 a8 hx hsy hA
  (repeat' apply And.intro) <;> intros <;> first
    | (exact True.intro)
    | rfl
    | contradiction
    | (exfalso; omega)
    | (simp_all; done)
    | (exfalso; simp_all; done)
    | (exfalso; simp_all; omega)
end Go.Proofs.YtfddkbbjnghefaaGreatDoor.Zs
