/-
  Contracts: beginnings, Turns, AppendRate.
-/
import Derived.Test.YtfddkbbjnghefaaGreatDoorToConC
import Derived.Test.YtfddkbbjnghefaaGreatDoorToKeys
import Derived.Test.YtfddkbbjnghefaaGreatDoorToAcc
import Derived.KernelRfl
set_option linter.unusedSimpArgs false
set_option maxHeartbeats 2000000
set_option linter.unusedVariables false
namespace Go.Proofs.YtfddkbbjnghefaaGreatDoor.Zs
open Go
noncomputable def LB : Env→yj:=libs [sortLib 77 113,compLib 78 209]
theorem LB_ok (F : List (X×Bool)) {r : Rho} (h : r.sym = sy) : zu (E0.with F r) (LB (E0.with F r)):=libs_ok fun c hc => by
 simp only [List.mem_cons,List.not_mem_nil,or_false] at hc
 rcases hc with rfl | rfl
 ·exact sortLib_ok (E:=E0.with F r) (Env.with_ok yQ F r) (r:=r) rfl (fun rows => by rw [h]; exact sym113R rows) sortSays
 ·exact compLib_ok (E:=E0.with F r) (Env.with_ok yQ F r) (r:=r) rfl (fun rows => by rw [h]; exact sym209C rows) compSays
def bg_vs : List X:=[.num 0]
abbrev qRE0 : X:=.app 208 [.var 1]
abbrev qRE12 : X:=.op1 .len (.var 1)
abbrev qRE1 : X:=.op2 .lt (.num 0) qRE12
abbrev qRE2 : X:=.op1 .len (.app 113 [qRE0])
abbrev qRE3 : X:=.op2 .lt (.var 100) qRE12
abbrev qRE8 : X:=.op1 .len qRE0
abbrev qRE4 : X:=.op2 .lt (.num 1000000000) qRE8
abbrev qRE5 : X:=.op2 .lt (.var 100) (.num 0)
abbrev qRE10 : X:=.op1 .len (.var 101)
abbrev qRE6 : X:=.op2 .lt (.num 1000000000) (.op2 .add qRE10 (.num 1))
abbrev qRE7 : X:=.op2 .lt (.num 1000000000) qRE2
abbrev qRE9 : X:=.app 209 [.app 113 [qRE0]]
abbrev qRE11 : X:=.app 202 [.var 1]
abbrev qREf0 : List (X×Bool):=[(qRE4,false),(qRE11,true),(qRE1,true)]
abbrev qREf1 : List (X×Bool):=[(qRE5,false)]
noncomputable def lBg_D : LoopD:={ N:=100,M:=111,size:=sizeOfF 37,reads:=[(0,.rows 9 ratSch (.var 0) (.var 1) false 26)],pats:=[{ slots:=[(3,.nilslice),(6,.slx 0 9 (.var 0) (.num 0) qRE12 (.var 2)),(7,.sint .i64 qRE12),(8,.sint .i64 (.var 100))],heap:=[] },{ slots:=[(3,.slo 110 1 qRE10),(6,.slx 0 9 (.var 0) (.num 0) qRE12 (.var 2)),(7,.sint .i64 qRE12),(8,.sint .i64 (.var 100))],heap:=[(110,.rows 1 [.int .i64] (.num 0) (.var 101) true 3)] }],exits:=[(.exit 0,{ slots:=[(3,.nilslice)],heap:=[],guard:=.op1 .not qRE1 }),(.exit 0,{ slots:=[(3,.slo 110 1 (.op1 .len (.app 208 [.var 1])))],heap:=[(110,.rows 1 [.int .i64] (.num 0) (.app 208 [.var 1]) true 3)],guard:=.op2 .lt (.num 0) qRE12 })],own:=[],pre:=[(.app 202 [.var 1],true)],dfs:=[] }
noncomputable def lBg_run : Env→AF→ASt→Option (List Out):=bodyRun LB 6 (fun _ => noLoop) (yA Tryz.prog 37 0)
def lBg0_F : List (X×Bool):=qREf1
def lBg1_F : List (X×Bool):=qREf1
noncomputable def lBg0_t : FTree:=(.fork qRE3 (.leaf [.again 1 [(110,113)]]) (.leaf [.leave 0 []]))
noncomputable def lBg0_l : List (List (X×Bool)×Option (List (Tgt×zp))):=[((qRE3,true) :: qREf1,some [(.again 1 [(110,113)],[(qRE10,.num 1),(.var 100,.op1 (.wrap .i64) (.op2 .add (.var 100) (.num 1))),(.var 101,.snoc .nil [.op1 (.kind .i64) (.cell 2 (.var 1) (.var 100))])])]),
 ((qRE3,false) :: qREf1,some [(.leave 0 [],[(.op1 .not qRE1,.boo true)])])]
theorem lBg0_w (r : Rho) : lBg_D.ways lBg_run E0 r 0 lBg0_F lBg0_t = some lBg0_l:=by kernel_rfl
noncomputable def lBg1_t : FTree:=(.fork qRE3 (.fork qRE6 .bad (.leaf [.again 1 [(110,113)]])) (.leaf [.leave 1 [(110,110)]]))
noncomputable def lBg1_l : List (List (X×Bool)×Option (List (Tgt×zp))):=[((qRE6,true) :: (qRE3,true) :: qREf1,none),
 ((qRE6,false) :: (qRE3,true) :: qREf1,some [(.again 1 [(110,113)],[(qRE10,.op2 .add qRE10 (.num 1)),(.var 100,.op1 (.wrap .i64) (.op2 .add (.var 100) (.num 1))),(.var 101,.snoc (.var 101) [.op1 (.kind .i64) (.cell 2 (.var 1) (.var 100))])])]),
 ((qRE3,false) :: qREf1,some [(.leave 1 [(110,110)],[(qRE8,qRE10),(qRE0,.var 101),(qRE1,.boo true)])])]
theorem lBg1_w (r : Rho) : lBg_D.ways lBg_run E0 r 1 lBg1_F lBg1_t = some lBg1_l:=by kernel_rfl
theorem lBg_ok : lBg_D.ok = true:=by kernel_rfl
def lBg_Inv (l : List Rat9) (j : Nat) (vals : List Value) : Prop:=
 ∃ i : Nat,i≤l.length∧((j = 0∧i = 0∧vals = [.int .i64 0])∨(j = 1∧1≤i∧vals = [.int .i64 (i : Int),zP (zj (l.take i))]))
def lBg_mu (l : List Rat9) (_ : Nat) (vals : List Value) : Nat:=l.length - (vI (vals.getD 0 default)).toNat
theorem lBg_step0 {ρ : Rho} {l : List Rat9} (h1 : ρ.val 1 = some (ratsR l)) (hsy : ρ.sym = sy) (hsh : okR9 l = true) : yn lBg_D lBg_run E0 ρ (lBg_Inv l) (lBg_mu l) 0 [.int .i64 0]:=by
 have hN : lBg_D.N = 100:=rfl
 have hmax:=ok_len hsh
 have xl {jq vq}:=@xL ρ lBg_D.N 100 [.int .i64 0] jq vq hN
 have xh {jq vq}:=@xH ρ lBg_D.N 100 [.int .i64 0] jq vq hN
 have v1:=xl (jq:=1) h1 (by decide)
 have v100:=xh (jq:=100) (vq:=.int .i64 0) rfl (by decide)
 have vs : (ρ.ext lBg_D.N [.int .i64 0]).sym = sy:=hsy
 have hF : zf (ρ.ext lBg_D.N [.int .i64 0]) lBg0_F:=by
  simp only [lBg0_F,zf,gB,zd,gW,zm,v100,Option.some.injEq,Value.bool.injEq,decide_eq_false_iff_not,and_true]
  omega
 suffices both : y9 (ρ.ext lBg_D.N [.int .i64 0]) (lBg0_t.asks lBg0_F)∧zD lBg_D ρ (lBg_Inv l) (lBg_mu l) 0 [.int .i64 0] lBg0_l from zC (lBg0_w _) hF both.1.ok both.2
 cases hp : l[0]? with
 | none =>
   have hge:=List.getElem?_eq_none_iff.1 hp
   have hge' : ¬ ((0 : Int) < l.length):=by omega
   refine ⟨?_,?_⟩
   ·simp only [lBg0_t,lBg0_F,gA,gB,zd,gW,zm,v1,v100,vs,ze,ym,z6,zZ,Int.toNat_natCast,hp,hge']
    try simp
   ·simp only [lBg0_l,gE,dZ,gB,zd,g3,gW,zm,v1,v100,vs,h1,hsy,ze,ym,z6,zZ,Int.toNat_natCast,hp,hge',reduceCtorEq,gR]
    skip
    skip
    try simp
 | some x =>
   have hil : 0 < l.length:=(List.getElem?_eq_some_iff.1 hp).1
   have hil1 : (0 : Int) < l.length:=by omega
   have hw : IntKind.i64.wrap ((0 : Int) + 1) = 1:=by rw [IntWalk.i64_in _ (by omega)]; rfl
   have hnext : zj (l.take (0 + 1)) = zj (l.take 0) ++ [⟨x.from_⟩]:=by rw [List.take_add_one,hp]; simp [zj]
   have htl : (zj (l.take 0)).length = 0:=by unfold zj; rw [List.length_map,List.length_take]; omega
   have go : ∃ vals',((match (ρ.ext lBg_D.N vals').val 101 with | some v => den1 .len v | none => none) = some (.int .i64 (1))∧(ρ.ext lBg_D.N vals').val 100 = some (.int .i64 (1))∧(ρ.ext lBg_D.N vals').val 101 = some (zP [⟨x.from_⟩]))∧lBg_Inv l 1 vals'∧lBg_mu l 1 vals' < lBg_mu l 0 [.int .i64 0]:=by
    have e101 : (ρ.ext lBg_D.N [.int .i64 ((0 + 1 : Nat) : Int),zP (zj (l.take (0 + 1)))]).val 101 = some (zP (zj (l.take (0 + 1)))):=by exact xH hN rfl (by decide)
    refine ⟨[.int .i64 ((0 + 1 : Nat) : Int),zP (zj (l.take (0 + 1)))],⟨?_,?_,?_⟩,⟨0 + 1,by omega,.inr ⟨rfl,by omega,rfl⟩⟩,by simp [lBg_mu,vI]; omega⟩
    ·rw [e101,hnext]
     refine (whos_len _).trans ?_
     simp [zj]
    ·exact xH hN rfl (by decide)
    ·rw [e101,hnext]; rfl
   refine ⟨?_,?_⟩
   all_goals (simp only [lBg0_t,lBg0_F,lBg0_l,gA,gB,zd,gW,zm,zR,zD,zh,zk,yw,yy,zr,zE,dZ,g3,v1,v100,vs,h1,hsy,ze,ym,z6,zZ,Int.toNat_natCast,Int.toNat_zero,hp,Option.bind_some,gN,hil1,hw,reduceCtorEq,Bool.false_eq_true,false_implies,true_implies,and_true,true_and])
   all_goals (clear v1 v100 vs h1 hsy hF)
   all_goals ((repeat' apply And.intro) <;> intros <;> first
    | trivial
    | exact go
    | (exfalso; omega)
    | (simp_all; done)
    | (simp; omega))
theorem lBg_step1 {ρ : Rho} {l : List Rat9} (h1 : ρ.val 1 = some (ratsR l)) (hsy : ρ.sym = sy) (hsh : okR9 l = true) {i : Nat} (hi : i≤l.length) (hi1 : 1≤i) : yn lBg_D lBg_run E0 ρ (lBg_Inv l) (lBg_mu l) 1 [.int .i64 (i : Int),zP (zj (l.take i))]:=by
 have hN : lBg_D.N = 100:=rfl
 have hmax:=ok_len hsh
 have xl {jq vq}:=@xL ρ lBg_D.N 100 [.int .i64 (i : Int),zP (zj (l.take i))] jq vq hN
 have xh {jq vq}:=@xH ρ lBg_D.N 100 [.int .i64 (i : Int),zP (zj (l.take i))] jq vq hN
 have v1:=xl (jq:=1) h1 (by decide)
 have v100:=xh (jq:=100) (vq:=.int .i64 (i : Int)) rfl (by decide)
 have v101:=xh (jq:=101) (vq:=zP (zj (l.take i))) rfl (by decide)
 have vs : (ρ.ext lBg_D.N [.int .i64 (i : Int),zP (zj (l.take i))]).sym = sy:=hsy
 have hF : zf (ρ.ext lBg_D.N [.int .i64 (i : Int),zP (zj (l.take i))]) lBg1_F:=by
  simp only [lBg1_F,zf,gB,zd,gW,zm,v100,Option.some.injEq,Value.bool.injEq,decide_eq_false_iff_not,and_true]
  omega
 suffices both : y9 (ρ.ext lBg_D.N [.int .i64 (i : Int),zP (zj (l.take i))]) (lBg1_t.asks lBg1_F)∧zD lBg_D ρ (lBg_Inv l) (lBg_mu l) 1 [.int .i64 (i : Int),zP (zj (l.take i))] lBg1_l from zC (lBg1_w _) hF both.1.ok both.2
 cases hp : l[i]? with
 | none =>
   have hge:=List.getElem?_eq_none_iff.1 hp
   have hge' : ¬ ((i : Int) < l.length):=by omega
   refine ⟨?_,?_⟩
   ·simp only [lBg1_t,lBg1_F,gA,gB,zd,gW,zm,v1,v100,v101,vs,ze,ym,z6,zZ,Int.toNat_natCast,hp,hge']
    try simp
   ·simp only [lBg1_l,gE,dZ,gB,zd,g3,gW,zm,v1,v100,v101,vs,h1,hsy,ze,ym,z6,zZ,Int.toNat_natCast,hp,hge',reduceCtorEq,gR]
    have hl : l.take i = l:=List.take_of_length_le hge
    have hlen : 0 < (l.length : Int):=by omega
    simp [hl]; omega
 | some x =>
   have hil : i < l.length:=(List.getElem?_eq_some_iff.1 hp).1
   have hil1 : (i : Int) < l.length:=by omega
   have hw : IntKind.i64.wrap ((i : Int) + 1) = ((i + 1 : Nat) : Int):=by rw [IntWalk.i64_in _ (by omega)]; rfl
   have hnext : zj (l.take (i + 1)) = zj (l.take i) ++ [⟨x.from_⟩]:=by rw [List.take_add_one,hp]; simp [zj]
   have htl : (zj (l.take i)).length = i:=by unfold zj; rw [List.length_map,List.length_take]; omega
   have go : ∃ vals',((match (ρ.ext lBg_D.N vals').val 101 with | some v => den1 .len v | none => none) = some (.int .i64 (((zj (l.take i)).length : Int) + 1))∧(ρ.ext lBg_D.N vals').val 100 = some (.int .i64 (((i + 1 : Nat) : Int)))∧(ρ.ext lBg_D.N vals').val 101 = some (zP (zj (l.take i) ++ [⟨x.from_⟩])))∧lBg_Inv l 1 vals'∧lBg_mu l 1 vals' < lBg_mu l 1 [.int .i64 (i : Int),zP (zj (l.take i))]:=by
    have e101 : (ρ.ext lBg_D.N [.int .i64 ((i + 1 : Nat) : Int),zP (zj (l.take (i + 1)))]).val 101 = some (zP (zj (l.take (i + 1)))):=by exact xH hN rfl (by decide)
    refine ⟨[.int .i64 ((i + 1 : Nat) : Int),zP (zj (l.take (i + 1)))],⟨?_,?_,?_⟩,⟨i + 1,by omega,.inr ⟨rfl,by omega,rfl⟩⟩,by simp [lBg_mu,vI]; omega⟩
    ·rw [e101,hnext]
     refine (whos_len _).trans ?_
     simp [zj]
    ·exact xH hN rfl (by decide)
    ·rw [e101,hnext]
   refine ⟨?_,?_⟩
   all_goals (simp only [lBg1_t,lBg1_F,lBg1_l,gA,gB,zd,gW,zm,zR,zD,zh,zk,yw,yy,zr,zE,dZ,g3,v1,v100,v101,vs,h1,hsy,ze,ym,z6,zZ,Int.toNat_natCast,Int.toNat_zero,hp,Option.bind_some,gN,hil1,hw,reduceCtorEq,Bool.false_eq_true,false_implies,true_implies,and_true,true_and])
   all_goals (clear v1 v100 v101 vs h1 hsy hF)
   all_goals ((repeat' apply And.intro) <;> intros <;> first
    | trivial
    | exact go
    | (exfalso; omega)
    | (simp_all; done)
    | (simp; omega))
theorem lBg_step {ρ : Rho} {l : List Rat9} (h1 : ρ.val 1 = some (ratsR l)) (hsy : ρ.sym = sy) (hsh : okR9 l = true) (j : Nat) (vals : List Value) (hI : lBg_Inv l j vals) : yn lBg_D lBg_run E0 ρ (lBg_Inv l) (lBg_mu l) j vals:=by
 obtain ⟨i,hi,⟨rfl,rfl,rfl⟩ | ⟨rfl,hi1,rfl⟩⟩:=hI
 ·exact lBg_step0 h1 hsy hsh
 ·exact lBg_step1 h1 hsy hsh hi hi1
noncomputable def cBgN_con : Con:={ f:=37,args:=[ratsArg 0 0],N:=1,M:=1,pre:=[(qRE1,false)],out:=.nilslice,news:=[] }
noncomputable def cBgN_call : Env→Za:=fun E => zS E (evH E (LB E) ((fun _ => yX) E) 9)
noncomputable def cBgN_t : GTree:=(.leaf [[]])
noncomputable def cBgN_l : List (List (X×Bool)×Option zp):=[([(qRE1,false)],some [])]
theorem cBgN_w (r : Rho) : cBgN_con.fn.ways cBgN_call E0 r cBgN_con.pre cBgN_t = some cBgN_l:=by kernel_rfl
theorem cBgN_cok : cBgN_con.Ok Tryz.prog sy:=by
 intro r σ w us hsy hρ hpre hrel hins
 obtain ⟨l,h1⟩:=yK hrel rfl hρ
 refine y6 (E:=E0) yQ yC (sy:=sy) (fun F => LB_ok F hsy) (fun F => noH_ok) (cBgN_w r) hρ hpre hrel hins ?_ ?_
 ·simp only [cBgN_con,cBgN_t,gA,gB,zd,gW,zm,h1,hsy,ze,ym,z6,zZ]
  try simp
 ·simp only [cBgN_l,gE,dZ,gB,zd,g3,gW,zm,h1,hsy,ze,ym,z6,zZ]
  try simp
noncomputable def cBgY_con : Con:={ f:=37,args:=[ratsArg 0 0],N:=1,M:=2,pre:=[(.app 202 [.var 1],true),(qRE1,true)],out:=.slo 1 1 (.op1 .len (.app 209 [.app 113 [.app 208 [.var 1]]])),news:=[(1,.rows 1 [.int .i64] (.num 0) (.app 209 [.app 113 [.app 208 [.var 1]]]) true 3)] }
noncomputable def cBgY_call : Env→Za:=fun E => zS E (evH E (LB E) ((fun E => oneH 37 (hooks [(3,lBg_D.hook E.facts bg_vs)])) E) 9)
noncomputable def cBgY_t : GTree:=(.fork qRE4 .bad (.fork qRE7 .bad (.fork (.op2 .lt qRE2 qRE8) .bad (.fork (.op2 .lt qRE8 qRE2) .bad (.leaf [[(1,110)]])))))
noncomputable def cBgY_l : List (List (X×Bool)×Option zp):=[([(qRE4,true),(qRE11,true),(qRE1,true)],none),
 ((qRE7,true) :: qREf0,none),
 ((.op2 .lt qRE2 qRE8,true) :: (qRE7,false) :: qREf0,none),
 ((.op2 .lt qRE8 qRE2,true) :: (.op2 .lt qRE2 qRE8,false) :: (qRE7,false) :: qREf0,none),
 ((.op2 .lt qRE8 qRE2,false) :: (.op2 .lt qRE2 qRE8,false) :: (qRE7,false) :: qREf0,some [(.op1 .len qRE9,.op1 .len qRE9),(qRE9,qRE9)])]
theorem cBgY_w (r : Rho) : cBgY_con.fn.ways cBgY_call E0 r cBgY_con.pre cBgY_t = some cBgY_l:=by kernel_rfl
theorem lBg_H {ρ : Rho} {l : List Rat9} (h1 : ρ.val 1 = some (ratsR l)) (hsy : ρ.sym = sy) (hsh : okR9 l = true) (F : List (X×Bool)) : LoopsOk (E0.with F ρ) (oneH 37 (hooks [(3,lBg_D.hook (E0.with F ρ).facts bg_vs)])):=by
 refine loops_all (n:=1) (fun f fn h => h) (by kernel_rfl) fun i hi => ?_
 obtain rfl : i = 0:=by omega
 rw [hooks_hit (show keyOf (yA (E0.with F ρ).P 37 0) = 3 by kernel_rfl)]
 refine hook_ok (E₀:=E0) (run:=lBg_run) (ρ:=ρ) (Inv:=lBg_Inv l) (μ:=lBg_mu l) yQ lBg_ok (fun F r' h => ?_) (fun hp => ⟨lBg_step h1 hsy hsh,[.int .i64 0],?_,0,Nat.zero_le _,.inl ⟨rfl,rfl,rfl⟩⟩)
 ·exact ye yQ (LB_ok F (h.trans hsy)) fun _ _ => yc
 ·simp only [bg_vs,gB,zd,gW,zm]
theorem froms_len (l : List Rat9) : (zj l).length = l.length:=List.length_map ..
theorem sorted_lenR (l : List Who) : (zg l).length = l.length:=by simp [zg]
theorem cBgY_cok : cBgY_con.Ok Tryz.prog sy:=by
 intro r σ w us hsy hρ hpre hrel hins
 obtain ⟨l,h1⟩:=yK hrel rfl hρ
 have hsh : okR9 l = true:=by
  have:=hpre.1
  simpa only [gB,zd,gW,zm,h1,hsy,ze,Option.some.injEq,Value.bool.injEq] using this
 have hmax:=ok_len hsh
 have q1:=froms_len l
 have q2:=sorted_lenR (zj l)
 have hne : 0 < (l.length : Int):=by
  have:=hpre.2.1
  simpa only [gB,zd,gW,zm,h1,Option.some.injEq,Value.bool.injEq,decide_eq_true_eq] using this
 refine y6 (E:=E0) yQ yC (sy:=sy) (fun F => LB_ok F hsy) (fun F => lBg_H h1 hsy hsh F) (cBgY_w r) hρ hpre hrel hins ?_ ?_
 ·simp only [cBgY_con,cBgY_t,gA,gB,zd,gW,zm,h1,hsy,ze,ym,z6,zZ,q1,q2]
  try simp
 ·simp only [cBgY_l,gE,dZ,gB,zd,g3,gW,zm,h1,hsy,ze,ym,z6,zZ,q1,q2]
  try simp
  try omega
open Go
noncomputable def LU : Env→yj:=libs [cLib cCkr_con,cLib cBgN_con,cLib cBgY_con,cLib cId_con]
theorem LU_ok (F : List (X×Bool)) {r : Rho} (h : r.sym = sy) : zu (E0.with F r) (LU (E0.with F r)):=libs_ok fun c hc => by
 simp only [List.mem_cons,List.not_mem_nil,or_false] at hc
 rcases hc with rfl | rfl | rfl | rfl
 ·exact ya (E:=E0) cCkr_cok F h
 ·exact ya (E:=E0) cBgN_cok F h
 ·exact ya (E:=E0) cBgY_cok F h
 ·exact ya (E:=E0) cId_cok F h
def tu_vs : List X:=[.num 0,.num 0,.nil]
abbrev qRF0 : X:=.app 205 [.var 1,.var 3,.cell 0 (.app 209 [.app 113 [.app 208 [.var 1]]]) (.var 100),.var 4,.num 0]
abbrev qRF1 : X:=.op2 .lt (.var 100) (.op1 .len (.app 209 [.app 113 [.app 208 [.var 1]]]))
abbrev qRF2 : X:=.app 210 [.var 1,.var 3,.var 4]
abbrev qRF3 : X:=.app 210 [.var 1,.var 3,.var 4]
abbrev qRF4 : X:=.op2 .lt (.var 100) (.num 0)
abbrev qRF5 : X:=.app 202 [.var 1]
abbrev qRF6 : X:=.op2 .lt (.num 0) (.op1 .len (.var 1))
abbrev qRF7 : X:=.app 209 [.app 113 [.app 208 [.var 1]]]
abbrev qRF8 : X:=.op1 .len (.var 102)
abbrev qRF9 : X:=.op2 .eq (.op1 .len qRF2) (.num 0)
abbrev qRF10 : X:=.op2 .eq (.app 200 [.var 1]) (.num 0)
abbrev qRF11 : X:=.op1 (.wrap .i64) (.op2 .add (.var 100) (.num 1))
abbrev qRF12 : X:=.op2 .eq qRF0 (.var 101)
abbrev qRF13 : X:=.op2 .lt (.num 1000000000) (.op2 .add qRF8 (.num 1))
abbrev qRF14 : X:=.op1 (.kind .i64) (.cell 0 (.app 209 [.app 113 [.app 208 [.var 1]]]) (.var 100))
abbrev qRF15 : X:=.app 202 [.var 1]
abbrev qRF16 : X:=.op2 .eq (.app 200 [.var 1]) (.num 0)
abbrev qRF17 : X:=.op2 .eq (.op1 .len qRF3) (.num 0)
abbrev qRFf0 : List (X×Bool):=[(qRF1,true),(qRF4,false),(qRF5,true)]
noncomputable def Zh : LoopD:={ N:=100,M:=111,size:=sizeOfF 14,reads:=[(0,.rows 9 ratSch (.var 0) (.var 1) false 26),(1,.rows 1 [.int .i64] (.num 0) qRF7 true 3)],pats:=[{ slots:=[(0,.slx 0 9 (.var 0) (.num 0) (.op1 .len (.var 1)) (.var 2)),(1,.sstr (.var 3)),(2,.sint .i64 (.var 4)),(7,.nilslice),(8,.sint .i64 (.var 101)),(16,.slo 1 1 (.op1 .len qRF7)),(17,.sint .i64 (.op1 .len qRF7)),(18,.sint .i64 (.var 100))],heap:=[] },{ slots:=[(0,.slx 0 9 (.var 0) (.num 0) (.op1 .len (.var 1)) (.var 2)),(1,.sstr (.var 3)),(2,.sint .i64 (.var 4)),(7,.slo 110 1 qRF8),(8,.sint .i64 (.var 101)),(16,.slo 1 1 (.op1 .len qRF7)),(17,.sint .i64 (.op1 .len qRF7)),(18,.sint .i64 (.var 100))],heap:=[(110,.rows 1 [.int .i64] (.num 0) (.var 102) true 3)] }],exits:=[(.exit 0,{ slots:=[(7,.nilslice)],heap:=[],guard:=.op2 .eq (.op1 .len qRF3) (.num 0) }),(.exit 0,{ slots:=[(7,.slo 110 1 (.op1 .len qRF3))],heap:=[(110,.rows 1 [.int .i64] (.num 0) qRF3 true 3)],guard:=.op1 .not qRF17 })],own:=[],pre:=[(qRF15,true)],dfs:=[] }
noncomputable def lTu_run : Env→AF→ASt→Option (List Out):=bodyRun LU 9 (fun _ => noLoop) (yA Tryz.prog 14 0)
def lTu0_F : List (X×Bool):=[(qRF4,false),(qRF15,true)]
def lTu1_F : List (X×Bool):=[(qRF4,false),(qRF15,true)]
noncomputable def lTu0_t : FTree:=(.fork qRF1 (.fork qRF12 (.leaf [.again 0 []]) (.leaf [.again 1 [(110,112)]])) (.leaf [.leave 0 []]))
noncomputable def lTu0_l : List (List (X×Bool)×Option (List (Tgt×zp))):=[((qRF12,true) :: qRFf0,some [(.again 0 [],[(.var 101,qRF0),(.var 100,qRF11)])]),
 ((qRF12,false) :: qRFf0,some [(.again 1 [(110,112)],[(qRF8,.num 1),(.var 101,qRF0),(.var 100,qRF11),(.var 102,.snoc .nil [qRF14])])]),
 ([(qRF1,false),(qRF4,false),(qRF5,true)],some [(.leave 0 [],[(qRF9,.boo true)])])]
theorem lTu0_w (r : Rho) : Zh.ways lTu_run E0 r 0 lTu0_F lTu0_t = some lTu0_l:=by kernel_rfl
noncomputable def lTu1_t : FTree:=(.fork qRF1 (.fork qRF12 (.leaf [.again 1 [(110,110)]]) (.fork qRF13 .bad (.leaf [.again 1 [(110,112)]]))) (.leaf [.leave 1 [(110,110)]]))
noncomputable def lTu1_l : List (List (X×Bool)×Option (List (Tgt×zp))):=[((qRF12,true) :: qRFf0,some [(.again 1 [(110,110)],[(qRF8,qRF8),(.var 101,qRF0),(.var 100,qRF11),(.var 102,.var 102)])]),
 ((qRF13,true) :: (qRF12,false) :: qRFf0,none),
 ((qRF13,false) :: (qRF12,false) :: qRFf0,some [(.again 1 [(110,112)],[(qRF8,.op2 .add qRF8 (.num 1)),(.var 101,qRF0),(.var 100,qRF11),(.var 102,.snoc (.var 102) [qRF14])])]),
 ([(qRF1,false),(qRF4,false),(qRF5,true)],some [(.leave 1 [(110,110)],[(.op1 .len qRF2,qRF8),(qRF2,.var 102),(.op1 .not qRF9,.boo true)])])]
theorem lTu1_w (r : Rho) : Zh.ways lTu_run E0 r 1 lTu1_F lTu1_t = some lTu1_l:=by kernel_rfl
theorem lTu_ok : Zh.ok = true:=by kernel_rfl
theorem cmpI_le (l : List Int) : (cmpI l).length≤l.length:=by
 rw [← comp_is _ l rfl]
 exact compact_len l
theorem beg_len (l : List Rat9) : (zO (zg (zj l))).length≤l.length:=by
 have:=cmpI_le ((zg (zj l)).map Who.n)
 unfold zO
 rw [List.length_map]
 rw [List.length_map,sorted_lenR,froms_len] at this
 exact this
theorem turns_len (l : List Rat9) (g : ByteArray) (K : Int) (i : Nat) : (zN l g K i).2.length≤l.length:=by
 have key : ∀ (c : List Who) (s : Int×List Who),(c.foldl (turnStep l g K) s).2.length≤s.2.length + c.length:=by
  intro c
  induction c with
  | nil => intro s; exact Nat.le_refl _
  | cons w c ih =>
    intro s
    have:=ih (turnStep l g K s w)
    rw [List.foldl_cons,List.length_cons]
    have h2 : (turnStep l g K s w).2.length≤s.2.length + 1:=by
     unfold turnStep
     dsimp only
     split <;> simp
    omega
 have h1:=key ((begW l).take i) (0,[])
 have h2:=beg_len l
 unfold zN
 have h3 : ((begW l).take i).length≤(begW l).length:=by rw [List.length_take]; omega
 have h4 : (begW l).length = (zO (zg (zj l))).length:=rfl
 have h5 : (([] : List Who)).length = 0:=rfl
 simp only [List.length_nil,Nat.zero_add] at h1
 omega
def lTu_Inv (l : List Rat9) (g : ByteArray) (K : Int) (j : Nat) (vals : List Value) : Prop:=
 ∃ i : Nat,i≤(zO (zg (zj l))).length∧((j = 0∧vals = [.int .i64 (i : Int),.int .i64 (zN l g K i).1,zP []]∧(zN l g K i).2 = [])∨(j = 1∧vals = [.int .i64 (i : Int),.int .i64 (zN l g K i).1,zP (zN l g K i).2]∧(zN l g K i).2≠[]))
def lTu_mu (b : List Who) (_ : Nat) (vals : List Value) : Nat:=b.length - (vI (vals.getD 0 default)).toNat
theorem lTu_step0 {ρ : Rho} {l : List Rat9} {g : ByteArray} {K : Int} {k4 : IntKind} (h1 : ρ.val 1 = some (ratsR l)) (h3 : ρ.val 3 = some (.string g)) (h4 : ρ.val 4 = some (.int k4 K)) (hsy : ρ.sym = sy) (hsh : okR9 l = true) {i : Nat} (hi : i≤(zO (zg (zj l))).length) (hn : (zN l g K i).2 = []) : yn Zh lTu_run E0 ρ (lTu_Inv l g K) (lTu_mu (zO (zg (zj l)))) 0 [.int .i64 (i : Int),.int .i64 (zN l g K i).1,zP []]:=by
 have hN : Zh.N = 100:=rfl
 have hmax:=ok_len hsh
 have hbl:=beg_len l
 have htl:=turns_len l g K i
 have xl {jq vq}:=@xL ρ Zh.N 100 [.int .i64 (i : Int),.int .i64 (zN l g K i).1,zP []] jq vq hN
 have xh {jq vq}:=@xH ρ Zh.N 100 [.int .i64 (i : Int),.int .i64 (zN l g K i).1,zP []] jq vq hN
 have v1:=xl (jq:=1) h1 (by decide)
 have v3:=xl (jq:=3) h3 (by decide)
 have v4:=xl (jq:=4) h4 (by decide)
 have v100:=xh (jq:=100) (vq:=.int .i64 (i : Int)) rfl (by decide)
 have v101:=xh (jq:=101) (vq:=.int .i64 (zN l g K i).1) rfl (by decide)
 have v102:=xh (jq:=102) (vq:=zP []) rfl (by decide)
 have vs : (ρ.ext Zh.N [.int .i64 (i : Int),.int .i64 (zN l g K i).1,zP []]).sym = sy:=hsy
 have hF : zf (ρ.ext Zh.N [.int .i64 (i : Int),.int .i64 (zN l g K i).1,zP []]) lTu0_F:=by
  simp only [lTu0_F,zf,gB,zd,gW,zm,v1,v100,vs,ze,hsh,Option.some.injEq,Value.bool.injEq,decide_eq_false_iff_not,and_true,true_and]
  omega
 suffices both : y9 (ρ.ext Zh.N [.int .i64 (i : Int),.int .i64 (zN l g K i).1,zP []]) (lTu0_t.asks lTu0_F)∧zD Zh ρ (lTu_Inv l g K) (lTu_mu (zO (zg (zj l)))) 0 [.int .i64 (i : Int),.int .i64 (zN l g K i).1,zP []] lTu0_l from zC (lTu0_w _) hF both.1.ok both.2
 cases hp : (zO (zg (zj l)))[i]? with
 | none =>
   have hge:=List.getElem?_eq_none_iff.1 hp
   have hge' : ¬ (i : Int) < (zO (zg (zj l))).length:=by omega
   have hl : (zN l g K i).2 = zV l g K:=turnsI_all hge
   have hle:=congrArg List.length hl
   refine ⟨?_,?_⟩
   ·simp only [lTu0_t,lTu0_F,gA,gB,zd,gW,zm,v1,v3,v4,v100,v101,v102,vs,zi,zG,ze,zl,ym,z6,zZ,yk,hsh,Int.toNat_natCast,hp,hge']
    try simp
   ·simp only [lTu0_l,gE,dZ,gB,zd,g3,gW,zm,v1,v3,v4,v100,v101,v102,vs,h1,h3,h4,hsy,zi,zG,ze,zl,ym,z6,zZ,yk,hsh,Int.toNat_natCast,hp,hge',reduceCtorEq,gR]
    rw [hl] at hn
    simp [hl,hn]
 | some w =>
   have hil : i < (zO (zg (zj l))).length:=(List.getElem?_eq_some_iff.1 hp).1
   have hil1 : (i : Int) < (zO (zg (zj l))).length:=by omega
   have hw : IntKind.i64.wrap ((i : Int) + 1) = ((i + 1 : Nat) : Int):=by rw [IntWalk.i64_in _ (by omega)]; rfl
   have hid : za l g w.n K 0 = some (.int .i64 (idAt l g w.n K)):=rfl
   have hnext:=turnsI_next (g:=g) (K:=K) (l:=l) (i:=i) (w:=w) hp
   have e1 : (zN l g K (i + 1)).1 = idAt l g w.n K:=by rw [hnext]; rfl
   have hbig : ¬ (1000000000 : Int) < ((zN l g K i).2.length : Int) + 1:=by omega
   have goA : ¬ idAt l g w.n K = (zN l g K i).1→∀ n,n = 1→∃ vals',((match (ρ.ext Zh.N vals').val 102 with | some v => den1 .len v | none => none) = some (.int .i64 n)∧(ρ.ext Zh.N vals').val 101 = some (.int .i64 (idAt l g w.n K))∧(ρ.ext Zh.N vals').val 100 = some (.int .i64 ((i + 1 : Nat) : Int))∧(ρ.ext Zh.N vals').val 102 = some (zP ([w])))∧lTu_Inv l g K 1 vals'∧lTu_mu (zO (zg (zj l))) 1 vals' < lTu_mu (zO (zg (zj l))) 0 [.int .i64 (i : Int),.int .i64 (zN l g K i).1,zP []]:=by
    rintro hc n rfl
    have e2 : (zN l g K (i + 1)).2 = [w]:=by rw [hnext]; unfold turnStep; rw [if_neg hc]; rw [hn]; rfl
    have e102 : (ρ.ext Zh.N [.int .i64 ((i + 1 : Nat) : Int),.int .i64 (zN l g K (i + 1)).1,zP (zN l g K (i + 1)).2]).val 102 = some (zP (zN l g K (i + 1)).2):=by exact xH hN rfl (by decide)
    refine ⟨[.int .i64 ((i + 1 : Nat) : Int),.int .i64 (zN l g K (i + 1)).1,zP (zN l g K (i + 1)).2],⟨?_,?_,?_,?_⟩,⟨i + 1,by omega,.inr ⟨rfl,rfl,by rw [e2]; simp⟩⟩,by simp [lTu_mu,vI]; omega⟩
    ·rw [e102,e2]
     refine (whos_len _).trans ?_
     simp
    ·rw [yZ _ _ _ _ (by rw [hN]; omega)]; exact congrArg (fun n => some (Value.int .i64 n)) e1
    ·exact xH hN rfl (by decide)
    ·rw [e102,e2]
   have goK : idAt l g w.n K = (zN l g K i).1→∃ vals',((ρ.ext Zh.N vals').val 101 = some (.int .i64 (idAt l g w.n K))∧(ρ.ext Zh.N vals').val 100 = some (.int .i64 ((i + 1 : Nat) : Int)))∧lTu_Inv l g K 0 vals'∧lTu_mu (zO (zg (zj l))) 0 vals' < lTu_mu (zO (zg (zj l))) 0 [.int .i64 (i : Int),.int .i64 (zN l g K i).1,zP []]:=by
    intro hc
    have e2 : (zN l g K (i + 1)).2 = (zN l g K i).2:=by rw [hnext]; unfold turnStep; rw [if_pos hc]
    refine ⟨[.int .i64 ((i + 1 : Nat) : Int),.int .i64 (zN l g K (i + 1)).1,zP []],⟨?_,?_⟩,⟨i + 1,by omega,.inl ⟨rfl,rfl,by rw [e2]; exact hn⟩⟩,by simp [lTu_mu,vI]; omega⟩
    ·rw [yZ _ _ _ _ (by rw [hN]; omega)]; exact congrArg (fun n => some (Value.int .i64 n)) e1
    ·exact xH hN rfl (by decide)
   refine ⟨?_,?_⟩
   all_goals (simp only [lTu0_t,lTu0_F,lTu0_l,gA,gB,zd,gW,zm,zR,zD,zh,zk,yw,yy,zr,zE,dZ,g3,v1,v3,v4,v100,v101,v102,vs,h1,h3,h4,hsy,zi,zG,ze,zl,ym,z6,zZ,yk,hsh,Int.toNat_natCast,hp,Option.bind_some,who0,hid,hil1,hw,hbig,reduceCtorEq,Bool.false_eq_true,false_implies,true_implies,and_true,true_and])
   all_goals (clear v1 v3 v4 v100 v101 v102 vs h1 h3 h4 hsy hF)
   all_goals ((repeat' apply And.intro) <;> intros <;> first
    | trivial
    | contradiction
    | (exact goK (by assumption))
    | (exact goA (by assumption) _ rfl)
    | (exfalso; omega)
    | (simp_all; done))
theorem lTu_step1 {ρ : Rho} {l : List Rat9} {g : ByteArray} {K : Int} {k4 : IntKind} (h1 : ρ.val 1 = some (ratsR l)) (h3 : ρ.val 3 = some (.string g)) (h4 : ρ.val 4 = some (.int k4 K)) (hsy : ρ.sym = sy) (hsh : okR9 l = true) {i : Nat} (hi : i≤(zO (zg (zj l))).length) (hn : (zN l g K i).2≠[]) : yn Zh lTu_run E0 ρ (lTu_Inv l g K) (lTu_mu (zO (zg (zj l)))) 1 [.int .i64 (i : Int),.int .i64 (zN l g K i).1,zP (zN l g K i).2]:=by
 have hN : Zh.N = 100:=rfl
 have hmax:=ok_len hsh
 have hbl:=beg_len l
 have htl:=turns_len l g K i
 have xl {jq vq}:=@xL ρ Zh.N 100 [.int .i64 (i : Int),.int .i64 (zN l g K i).1,zP (zN l g K i).2] jq vq hN
 have xh {jq vq}:=@xH ρ Zh.N 100 [.int .i64 (i : Int),.int .i64 (zN l g K i).1,zP (zN l g K i).2] jq vq hN
 have v1:=xl (jq:=1) h1 (by decide)
 have v3:=xl (jq:=3) h3 (by decide)
 have v4:=xl (jq:=4) h4 (by decide)
 have v100:=xh (jq:=100) (vq:=.int .i64 (i : Int)) rfl (by decide)
 have v101:=xh (jq:=101) (vq:=.int .i64 (zN l g K i).1) rfl (by decide)
 have v102:=xh (jq:=102) (vq:=zP (zN l g K i).2) rfl (by decide)
 have vs : (ρ.ext Zh.N [.int .i64 (i : Int),.int .i64 (zN l g K i).1,zP (zN l g K i).2]).sym = sy:=hsy
 have hF : zf (ρ.ext Zh.N [.int .i64 (i : Int),.int .i64 (zN l g K i).1,zP (zN l g K i).2]) lTu1_F:=by
  simp only [lTu1_F,zf,gB,zd,gW,zm,v1,v100,vs,ze,hsh,Option.some.injEq,Value.bool.injEq,decide_eq_false_iff_not,and_true,true_and]
  omega
 suffices both : y9 (ρ.ext Zh.N [.int .i64 (i : Int),.int .i64 (zN l g K i).1,zP (zN l g K i).2]) (lTu1_t.asks lTu1_F)∧zD Zh ρ (lTu_Inv l g K) (lTu_mu (zO (zg (zj l)))) 1 [.int .i64 (i : Int),.int .i64 (zN l g K i).1,zP (zN l g K i).2] lTu1_l from zC (lTu1_w _) hF both.1.ok both.2
 cases hp : (zO (zg (zj l)))[i]? with
 | none =>
   have hge:=List.getElem?_eq_none_iff.1 hp
   have hge' : ¬ (i : Int) < (zO (zg (zj l))).length:=by omega
   have hl : (zN l g K i).2 = zV l g K:=turnsI_all hge
   have hle:=congrArg List.length hl
   refine ⟨?_,?_⟩
   ·simp only [lTu1_t,lTu1_F,gA,gB,zd,gW,zm,v1,v3,v4,v100,v101,v102,vs,zi,zG,ze,zl,ym,z6,zZ,yk,hsh,Int.toNat_natCast,hp,hge']
    try simp
   ·simp only [lTu1_l,gE,dZ,gB,zd,g3,gW,zm,v1,v3,v4,v100,v101,v102,vs,h1,h3,h4,hsy,zi,zG,ze,zl,ym,z6,zZ,yk,hsh,Int.toNat_natCast,hp,hge',reduceCtorEq,gR]
    rw [hl] at hn
    simp [hl,hn]
 | some w =>
   have hil : i < (zO (zg (zj l))).length:=(List.getElem?_eq_some_iff.1 hp).1
   have hil1 : (i : Int) < (zO (zg (zj l))).length:=by omega
   have hw : IntKind.i64.wrap ((i : Int) + 1) = ((i + 1 : Nat) : Int):=by rw [IntWalk.i64_in _ (by omega)]; rfl
   have hid : za l g w.n K 0 = some (.int .i64 (idAt l g w.n K)):=rfl
   have hnext:=turnsI_next (g:=g) (K:=K) (l:=l) (i:=i) (w:=w) hp
   have e1 : (zN l g K (i + 1)).1 = idAt l g w.n K:=by rw [hnext]; rfl
   have hbig : ¬ (1000000000 : Int) < ((zN l g K i).2.length : Int) + 1:=by omega
   have goA : ¬ idAt l g w.n K = (zN l g K i).1→∀ n,n = ((zN l g K i).2.length : Int) + 1→∃ vals',((match (ρ.ext Zh.N vals').val 102 with | some v => den1 .len v | none => none) = some (.int .i64 n)∧(ρ.ext Zh.N vals').val 101 = some (.int .i64 (idAt l g w.n K))∧(ρ.ext Zh.N vals').val 100 = some (.int .i64 ((i + 1 : Nat) : Int))∧(ρ.ext Zh.N vals').val 102 = some (zP ((zN l g K i).2 ++ [w])))∧lTu_Inv l g K 1 vals'∧lTu_mu (zO (zg (zj l))) 1 vals' < lTu_mu (zO (zg (zj l))) 1 [.int .i64 (i : Int),.int .i64 (zN l g K i).1,zP (zN l g K i).2]:=by
    rintro hc n rfl
    have e2 : (zN l g K (i + 1)).2 = (zN l g K i).2 ++ [w]:=by rw [hnext]; unfold turnStep; rw [if_neg hc]
    have e102 : (ρ.ext Zh.N [.int .i64 ((i + 1 : Nat) : Int),.int .i64 (zN l g K (i + 1)).1,zP (zN l g K (i + 1)).2]).val 102 = some (zP (zN l g K (i + 1)).2):=by exact xH hN rfl (by decide)
    refine ⟨[.int .i64 ((i + 1 : Nat) : Int),.int .i64 (zN l g K (i + 1)).1,zP (zN l g K (i + 1)).2],⟨?_,?_,?_,?_⟩,⟨i + 1,by omega,.inr ⟨rfl,rfl,by rw [e2]; simp⟩⟩,by simp [lTu_mu,vI]; omega⟩
    ·rw [e102,e2]
     refine (whos_len _).trans ?_
     simp
    ·rw [yZ _ _ _ _ (by rw [hN]; omega)]; exact congrArg (fun n => some (Value.int .i64 n)) e1
    ·exact xH hN rfl (by decide)
    ·rw [e102,e2]
   have goK : idAt l g w.n K = (zN l g K i).1→∀ n,n = ((zN l g K i).2.length : Int)→∃ vals',((match (ρ.ext Zh.N vals').val 102 with | some v => den1 .len v | none => none) = some (.int .i64 n)∧(ρ.ext Zh.N vals').val 101 = some (.int .i64 (idAt l g w.n K))∧(ρ.ext Zh.N vals').val 100 = some (.int .i64 ((i + 1 : Nat) : Int))∧(ρ.ext Zh.N vals').val 102 = some (zP ((zN l g K i).2)))∧lTu_Inv l g K 1 vals'∧lTu_mu (zO (zg (zj l))) 1 vals' < lTu_mu (zO (zg (zj l))) 1 [.int .i64 (i : Int),.int .i64 (zN l g K i).1,zP (zN l g K i).2]:=by
    rintro hc n rfl
    have e2 : (zN l g K (i + 1)).2 = (zN l g K i).2:=by rw [hnext]; unfold turnStep; rw [if_pos hc]
    have e102 : (ρ.ext Zh.N [.int .i64 ((i + 1 : Nat) : Int),.int .i64 (zN l g K (i + 1)).1,zP (zN l g K (i + 1)).2]).val 102 = some (zP (zN l g K (i + 1)).2):=by exact xH hN rfl (by decide)
    refine ⟨[.int .i64 ((i + 1 : Nat) : Int),.int .i64 (zN l g K (i + 1)).1,zP (zN l g K (i + 1)).2],⟨?_,?_,?_,?_⟩,⟨i + 1,by omega,.inr ⟨rfl,rfl,by rw [e2]; exact hn⟩⟩,by simp [lTu_mu,vI]; omega⟩
    ·rw [e102,e2]
     refine (whos_len _).trans ?_
     simp
    ·rw [yZ _ _ _ _ (by rw [hN]; omega)]; exact congrArg (fun n => some (Value.int .i64 n)) e1
    ·exact xH hN rfl (by decide)
    ·rw [e102,e2]
   refine ⟨?_,?_⟩
   all_goals (simp only [lTu1_t,lTu1_F,lTu1_l,gA,gB,zd,gW,zm,zR,zD,zh,zk,yw,yy,zr,zE,dZ,g3,v1,v3,v4,v100,v101,v102,vs,h1,h3,h4,hsy,zi,zG,ze,zl,ym,z6,zZ,yk,hsh,Int.toNat_natCast,hp,Option.bind_some,who0,hid,hil1,hw,hbig,reduceCtorEq,Bool.false_eq_true,false_implies,true_implies,and_true,true_and])
   all_goals (clear v1 v3 v4 v100 v101 v102 vs h1 h3 h4 hsy hF)
   all_goals ((repeat' apply And.intro) <;> intros <;> first
    | trivial
    | contradiction
    | (exact goK (by assumption) _ rfl)
    | (exact goA (by assumption) _ rfl)
    | (exfalso; omega)
    | (simp_all; done))
theorem lTu_step {ρ : Rho} {l : List Rat9} {g : ByteArray} {K : Int} {k4 : IntKind} (h1 : ρ.val 1 = some (ratsR l)) (h3 : ρ.val 3 = some (.string g)) (h4 : ρ.val 4 = some (.int k4 K)) (hsy : ρ.sym = sy) (hsh : okR9 l = true) (j : Nat) (vals : List Value) (hI : lTu_Inv l g K j vals) : yn Zh lTu_run E0 ρ (lTu_Inv l g K) (lTu_mu (zO (zg (zj l)))) j vals:=by
 obtain ⟨i,hi,⟨rfl,rfl,hn⟩ | ⟨rfl,rfl,hn⟩⟩:=hI
 ·exact lTu_step0 h1 h3 h4 hsy hsh hi hn
 ·exact lTu_step1 h1 h3 h4 hsy hsh hi hn
theorem lTu_H {ρ : Rho} {l : List Rat9} {g : ByteArray} {K : Int} {k4 : IntKind} (h1 : ρ.val 1 = some (ratsR l)) (h3 : ρ.val 3 = some (.string g)) (h4 : ρ.val 4 = some (.int k4 K)) (hsy : ρ.sym = sy) (hsh : okR9 l = true) (F : List (X×Bool)) : LoopsOk (E0.with F ρ) (oneH 14 (hooks [(6,Zh.hook (E0.with F ρ).facts tu_vs)])):=by
 refine loops_all (n:=1) (fun f fn h => h) (by kernel_rfl) fun i hi => ?_
 obtain rfl : i = 0:=by omega
 rw [hooks_hit (show keyOf (yA (E0.with F ρ).P 14 0) = 6 by kernel_rfl)]
 refine hook_ok (E₀:=E0) (run:=lTu_run) (ρ:=ρ) (Inv:=lTu_Inv l g K) (μ:=lTu_mu (zO (zg (zj l)))) yQ lTu_ok (fun F r' h => ?_) (fun hp => ⟨lTu_step h1 h3 h4 hsy hsh,[.int .i64 0,.int .i64 0,zP []],?_,0,Nat.zero_le _,.inl ⟨rfl,rfl,rfl⟩⟩)
 ·exact ye yQ (LU_ok F (h.trans hsy)) fun _ _ => yc
 ·simp only [tu_vs,gB,zd,gW,zm]
  rfl
noncomputable def cTuE_con : Con:={ f:=14,args:=[ratsArg 0 0,.one (.str 3),.one (.int .i64 4)],N:=1,M:=1,pre:=[(qRF15,true),(qRF16,false)],out:=.nilslice,news:=[] }
noncomputable def cTuE_call : Env→Za:=fun E => zS E (evH E (LU E) ((fun _ => yX) E) 12)
noncomputable def cTuE_t : GTree:=(.leaf [[]])
noncomputable def cTuE_l : List (List (X×Bool)×Option zp):=[([(qRF5,true),(qRF10,false)],some [])]
theorem cTuE_w (r : Rho) : cTuE_con.fn.ways cTuE_call E0 r cTuE_con.pre cTuE_t = some cTuE_l:=by kernel_rfl
theorem cTuE_cok : cTuE_con.Ok Tryz.prog sy:=by
 intro r σ w us hsy hρ hpre hrel hins
 obtain ⟨l,h1⟩:=yK hrel rfl hρ
 obtain ⟨u0,us,rfl,g0,hi⟩:=zn hins
 obtain ⟨u1,us,rfl,g1,hi1⟩:=zn hi
 obtain ⟨u2,us,rfl,g2,hi2⟩:=zn hi1
 obtain ⟨g,rfl,h3⟩:=one_str g1
 obtain ⟨K,k4,rfl,h4⟩:=yl g2
 rw [hρ] at h3 h4
 have hsh : okR9 l = true:=by
  have:=hpre.1
  simpa only [gB,zd,gW,zm,h1,hsy,ze,Option.some.injEq,Value.bool.injEq] using this
 have hz : l.length = 0→zV l g K = []:=fun h => by
  have h2:=beg_len l
  have h3 : begW l = []:=List.length_eq_zero_iff.1 (show (zO (zg (zj l))).length = 0 by omega)
  unfold zV
  rw [h3]
  rfl
 refine y6 (E:=E0) yQ yC (sy:=sy) (fun F => LU_ok F hsy) (fun F => noH_ok) (cTuE_w r) hρ hpre hrel hins ?_ ?_
 ·simp only [cTuE_con,cTuE_t,gA,gB,zd,gW,zm,h1,h3,h4,hsy,zi,zG,ze,zl,ym,z6,zZ,yk,hsh]
  try simp
 ·simp only [cTuE_l,gE,dZ,gB,zd,g3,gW,zm,h1,h3,h4,hsy,zi,zG,ze,zl,ym,z6,zZ,yk,hsh]
  try simp
  skip
noncomputable def cTuN_con : Con:={ f:=14,args:=[ratsArg 0 0,.one (.str 3),.one (.int .i64 4)],N:=1,M:=1,pre:=[(qRF15,true),(qRF16,true),(qRF17,true)],out:=.nilslice,news:=[] }
noncomputable def cTuN_call : Env→Za:=fun E => zS E (evH E (LU E) ((fun E => oneH 14 (hooks [(6,Zh.hook E.facts tu_vs)])) E) 12)
noncomputable def cTuN_t : GTree:=(.fork qRF6 (.leaf [[]]) (.leaf [[]]))
noncomputable def cTuN_l : List (List (X×Bool)×Option zp):=[([(qRF6,true),(qRF5,true),(qRF10,true),(qRF9,true)],some []),
 ([(qRF6,false),(qRF5,true),(qRF10,true),(qRF9,true)],some [])]
theorem cTuN_w (r : Rho) : cTuN_con.fn.ways cTuN_call E0 r cTuN_con.pre cTuN_t = some cTuN_l:=by kernel_rfl
theorem cTuN_cok : cTuN_con.Ok Tryz.prog sy:=by
 intro r σ w us hsy hρ hpre hrel hins
 obtain ⟨l,h1⟩:=yK hrel rfl hρ
 obtain ⟨u0,us,rfl,g0,hi⟩:=zn hins
 obtain ⟨u1,us,rfl,g1,hi1⟩:=zn hi
 obtain ⟨u2,us,rfl,g2,hi2⟩:=zn hi1
 obtain ⟨g,rfl,h3⟩:=one_str g1
 obtain ⟨K,k4,rfl,h4⟩:=yl g2
 rw [hρ] at h3 h4
 have hsh : okR9 l = true:=by
  have:=hpre.1
  simpa only [gB,zd,gW,zm,h1,hsy,ze,Option.some.injEq,Value.bool.injEq] using this
 have hz : l.length = 0→zV l g K = []:=fun h => by
  have h2:=beg_len l
  have h3 : begW l = []:=List.length_eq_zero_iff.1 (show (zO (zg (zj l))).length = 0 by omega)
  unfold zV
  rw [h3]
  rfl
 refine y6 (E:=E0) yQ yC (sy:=sy) (fun F => LU_ok F hsy) (fun F => lTu_H h1 h3 h4 hsy hsh F) (cTuN_w r) hρ hpre hrel hins ?_ ?_
 ·simp only [cTuN_con,cTuN_t,gA,gB,zd,gW,zm,h1,h3,h4,hsy,zi,zG,ze,zl,ym,z6,zZ,yk,hsh]
  try simp
 ·simp only [cTuN_l,gE,dZ,gB,zd,g3,gW,zm,h1,h3,h4,hsy,zi,zG,ze,zl,ym,z6,zZ,yk,hsh]
  try simp
  skip
noncomputable def cTuY_con : Con:={ f:=14,args:=[ratsArg 0 0,.one (.str 3),.one (.int .i64 4)],N:=1,M:=2,pre:=[(qRF15,true),(qRF16,true),(qRF17,false)],out:=.slo 1 1 (.op1 .len qRF3),news:=[(1,.rows 1 [.int .i64] (.num 0) qRF3 true 3)] }
noncomputable def cTuY_call : Env→Za:=fun E => zS E (evH E (LU E) ((fun E => oneH 14 (hooks [(6,Zh.hook E.facts tu_vs)])) E) 12)
noncomputable def cTuY_t : GTree:=(.fork qRF6 (.leaf [[(1,110)]]) .bad)
noncomputable def cTuY_l : List (List (X×Bool)×Option zp):=[([(qRF6,true),(qRF5,true),(qRF10,true),(qRF9,false)],some [(.op1 .len qRF2,.op1 .len qRF2),(qRF2,qRF2)]),
 ([(qRF6,false),(qRF5,true),(qRF10,true),(qRF9,false)],none)]
theorem cTuY_w (r : Rho) : cTuY_con.fn.ways cTuY_call E0 r cTuY_con.pre cTuY_t = some cTuY_l:=by kernel_rfl
theorem cTuY_cok : cTuY_con.Ok Tryz.prog sy:=by
 intro r σ w us hsy hρ hpre hrel hins
 obtain ⟨l,h1⟩:=yK hrel rfl hρ
 obtain ⟨u0,us,rfl,g0,hi⟩:=zn hins
 obtain ⟨u1,us,rfl,g1,hi1⟩:=zn hi
 obtain ⟨u2,us,rfl,g2,hi2⟩:=zn hi1
 obtain ⟨g,rfl,h3⟩:=one_str g1
 obtain ⟨K,k4,rfl,h4⟩:=yl g2
 rw [hρ] at h3 h4
 have hsh : okR9 l = true:=by
  have:=hpre.1
  simpa only [gB,zd,gW,zm,h1,hsy,ze,Option.some.injEq,Value.bool.injEq] using this
 have hz : l.length = 0→zV l g K = []:=fun h => by
  have h2:=beg_len l
  have h3 : begW l = []:=List.length_eq_zero_iff.1 (show (zO (zg (zj l))).length = 0 by omega)
  unfold zV
  rw [h3]
  rfl
 have hlen : 0 < (l.length : Int):=by
  have q:=hpre.2.2.1
  simp only [gB,zd,gW,zm,h1,h3,h4,hsy,yk,Option.some.injEq,Value.bool.injEq,beq_eq_false_iff_ne,ne_eq] at q
  rcases Nat.eq_zero_or_pos l.length with h0 | h0
  ·rw [hz h0] at q; exact absurd rfl q
  ·omega
 refine y6 (E:=E0) yQ yC (sy:=sy) (fun F => LU_ok F hsy) (fun F => lTu_H h1 h3 h4 hsy hsh F) (cTuY_w r) hρ hpre hrel hins ?_ ?_
 ·simp only [cTuY_con,cTuY_t,gA,gB,zd,gW,zm,h1,h3,h4,hsy,zi,zG,ze,zl,ym,z6,zZ,yk,hsh]
  try simp
 ·simp only [cTuY_l,gE,dZ,gB,zd,g3,gW,zm,h1,h3,h4,hsy,zi,zG,ze,zl,ym,z6,zZ,yk,hsh]
  try simp
  try (intro e; rw [e] at hlen; simp at hlen)
open Go
noncomputable def LAR : Env→yj:=libs [cLib cCkr_con]
theorem LAR_ok (F : List (X×Bool)) {r : Rho} (h : r.sym = sy) : zu (E0.with F r) (LAR (E0.with F r)):=libs_ok fun c hc => by
 simp only [List.mem_cons,List.not_mem_nil,or_false] at hc
 subst hc; exact ya (E:=E0) cCkr_cok F h
abbrev qRG0 : X:=.snoc (.var 1) [.op1 (.kind .i64) (.var 3),.op1 (.kind .i64) (.var 4),.op1 (.kind .i64) (.var 5),.var 6,.op1 (.kind .i64) (.var 7),.op1 (.kind .i64) (.var 8),.op1 (.kind .i64) (.var 9),.op1 (.kind .i64) (.var 10),.op1 (.kind .i64) (.var 11)]
abbrev qRG3 : X:=.op1 .len (.var 1)
abbrev qRG1 : X:=.op1 (.wrap .i64) (.op2 .add qRG3 (.num 1))
abbrev qRG2 : X:=.snoc (.var 1) [.op1 (.kind .i64) (.var 3),.op1 (.kind .i64) (.var 4),.op1 (.kind .i64) (.var 5),.var 6,.op1 (.kind .i64) (.var 7),.op1 (.kind .i64) (.var 8),.op1 (.kind .i64) (.var 9),.op1 (.kind .i64) (.var 10),.op1 (.kind .i64) (.var 11)]
abbrev qRG4 : X:=.op2 .lt (.num 100) (.op1 .slen (.var 6))
abbrev qRG5 : X:=.op2 .lt (.num 1000000000) qRG1
abbrev qRG6 : X:=.op2 .eq (.app 200 [qRG0]) (.num 0)
abbrev qRG7 : X:=.op2 .lt (.num 1000000000) (.op2 .add qRG3 (.num 1))
abbrev qRG8 : X:=.op2 .lt (.num 1000) qRG3
abbrev qRG9 : X:=.op2 .lt (.num 1000000000) qRG3
abbrev qRG10 : X:=.op2 .lt qRG1 (.num 0)
abbrev qRG11 : X:=.app 202 [.var 1]
abbrev qRG12 : X:=.app 202 [qRG0]
abbrev qRGf0 : List (X×Bool):=[(qRG5,false),(qRG11,true),(qRG8,false),(qRG4,false),(qRG6,false)]
abbrev qRGf1 : List (X×Bool):=[(qRG5,false),(qRG11,true),(qRG8,false),(qRG4,false),(qRG6,true)]
noncomputable def cApE_con : Con:={ f:=24,args:=[ratsArg 0 0,.agg [.int .i64 3,.int .i64 4,.int .i64 5,.str 6,.int .i64 7,.int .i64 8,.int .i64 9,.int .i64 10,.int .i64 11]],N:=1,M:=1,pre:=[(.app 202 [.var 1],true),(qRG8,false),(qRG4,false),(.op2 .eq (.app 200 [qRG2]) (.num 0),false)],out:=.tuple [.nilslice,.sint .i64 (.app 200 [qRG2])],news:=[] }
noncomputable def cApE_call : Env→Za:=fun E => zS E (evH E (LAR E) ((fun _ => yX) E) 12)
noncomputable def cApE_t : GTree:=(.fork qRG5 .bad (.fork qRG10 .bad (.fork qRG9 .bad (.fork qRG7 .bad (.fork qRG12 (.leaf [[]]) .bad)))))
noncomputable def cApE_l : List (List (X×Bool)×Option zp):=[([(qRG5,true),(qRG11,true),(qRG8,false),(qRG4,false),(qRG6,false)],none),
 ((qRG10,true) :: qRGf0,none),
 ((qRG9,true) :: (qRG10,false) :: qRGf0,none),
 ((qRG7,true) :: (qRG9,false) :: (qRG10,false) :: qRGf0,none),
 ((qRG12,true) :: (qRG7,false) :: (qRG9,false) :: (qRG10,false) :: qRGf0,some [(.app 200 [qRG0],.app 200 [qRG0])]),
 ((qRG12,false) :: (qRG7,false) :: (qRG9,false) :: (qRG10,false) :: qRGf0,none)]
theorem cApE_w (r : Rho) : cApE_con.fn.ways cApE_call E0 r cApE_con.pre cApE_t = some cApE_l:=by kernel_rfl
theorem ok_snoc {l : List Rat9} {x : Rat9} (h : okR9 l = true) (hx : (x.goods.size : Int)≤100) (hl : (l.length : Int)≤1000) : okR9 (l ++ [x]) = true:=by
 unfold okR9 at h ⊢
 simp only [Bool.and_eq_true,decide_eq_true_eq,List.all_eq_true,List.length_append,List.length_singleton,List.mem_append,List.mem_singleton] at h ⊢
 refine ⟨by omega,fun y hy => ?_⟩
 rcases hy with hy | rfl
 ·exact h.2 y hy
 ·exact hx
theorem cApE_cok : cApE_con.Ok Tryz.prog sy:=by
 intro r σ w us hsy hρ hpre hrel hins
 obtain ⟨l,h1⟩:=yK hrel rfl hρ
 obtain ⟨u0,us,rfl,g0,hi⟩:=zn hins
 obtain ⟨u1,us,rfl,g1,hi1⟩:=zn hi
 obtain ⟨x,kx,rfl,hx⟩:=rat_agg (v:=3) g1
 rw [hρ] at hx
 have a0:=hx.h0
 have a1:=hx.h1
 have a2:=hx.h2
 have a3:=hx.h3
 have a4:=hx.h4
 have a5:=hx.h5
 have a6:=hx.h6
 have a7:=hx.h7
 have a8:=hx.h8
 simp only [Nat.reduceAdd] at a0 a1 a2 a3 a4 a5 a6 a7 a8
 have hsh : okR9 l = true:=by
  have:=hpre.1
  simpa only [gB,zd,gW,zm,h1,hsy,ze,Option.some.injEq,Value.bool.injEq] using this
 have hml : (l.length : Int)≤1000:=by
  have:=hpre.2.1
  simp only [gB,zd,gW,zm,h1,Option.some.injEq,Value.bool.injEq,decide_eq_false_iff_not] at this
  omega
 have hgx : (x.goods.size : Int)≤100:=by
  have:=hpre.2.2.1
  simp only [gB,zd,gW,zm,a3,Option.some.injEq,Value.bool.injEq,decide_eq_false_iff_not] at this
  omega
 have hN1 : IntKind.i64.wrap ((l.length : Int) + 1) = (l.length : Int) + 1:=IntWalk.i64_in _ (by omega)
 have hxx : (⟨x.id,x.known,x.from_,x.goods,x.num,x.den,x.cart,x.store,x.of_⟩ : Rat9) = x:=rfl
 have hok:=ok_snoc hsh hgx hml
 have hll : ((l ++ [x]).length : Int) = (l.length : Int) + 1:=by simp
 refine y6 (E:=E0) yQ yC (sy:=sy) (fun F => LAR_ok F hsy) (fun F => noH_ok) (cApE_w r) hρ hpre hrel hins ?_ ?_
 ·simp only [cApE_con,cApE_t,gA,gB,zd,gW,zm,h1,a0,a1,a2,a3,a4,a5,a6,a7,a8,hsy,zi,zG,ze,hN1,hxx,hok,hll]
  try simp
 ·simp only [cApE_l,gE,dZ,gB,zd,g3,gW,zm,h1,a0,a1,a2,a3,a4,a5,a6,a7,a8,hsy,zi,zG,ze,hN1,hxx,hok,hll]
  try simp
  try omega
noncomputable def cApY_con : Con:={ f:=24,args:=[ratsArg 0 0,.agg [.int .i64 3,.int .i64 4,.int .i64 5,.str 6,.int .i64 7,.int .i64 8,.int .i64 9,.int .i64 10,.int .i64 11]],N:=1,M:=2,pre:=[(.app 202 [.var 1],true),(qRG8,false),(qRG4,false),(.op2 .eq (.app 200 [qRG2]) (.num 0),true)],out:=.tuple [.slo 1 9 (.op2 .add qRG3 (.num 1)),.int .i64 0],news:=[(1,.rows 9 ratSch (.num 0) qRG2 true 26)] }
noncomputable def cApY_call : Env→Za:=fun E => zS E (evH E (LAR E) ((fun _ => yX) E) 12)
noncomputable def cApY_t : GTree:=(.fork qRG5 .bad (.fork qRG10 .bad (.fork qRG9 .bad (.fork qRG7 .bad (.fork qRG12 (.leaf [[(1,6)]]) .bad)))))
noncomputable def cApY_l : List (List (X×Bool)×Option zp):=[([(qRG5,true),(qRG11,true),(qRG8,false),(qRG4,false),(qRG6,true)],none),
 ((qRG10,true) :: qRGf1,none),
 ((qRG9,true) :: (qRG10,false) :: qRGf1,none),
 ((qRG7,true) :: (qRG9,false) :: (qRG10,false) :: qRGf1,none),
 ((qRG12,true) :: (qRG7,false) :: (qRG9,false) :: (qRG10,false) :: qRGf1,some [(.op2 .add qRG3 (.num 1),.op2 .add qRG3 (.num 1)),(qRG0,qRG0)]),
 ((qRG12,false) :: (qRG7,false) :: (qRG9,false) :: (qRG10,false) :: qRGf1,none)]
theorem cApY_w (r : Rho) : cApY_con.fn.ways cApY_call E0 r cApY_con.pre cApY_t = some cApY_l:=by kernel_rfl
theorem cApY_cok : cApY_con.Ok Tryz.prog sy:=by
 intro r σ w us hsy hρ hpre hrel hins
 obtain ⟨l,h1⟩:=yK hrel rfl hρ
 obtain ⟨u0,us,rfl,g0,hi⟩:=zn hins
 obtain ⟨u1,us,rfl,g1,hi1⟩:=zn hi
 obtain ⟨x,kx,rfl,hx⟩:=rat_agg (v:=3) g1
 rw [hρ] at hx
 have a0:=hx.h0
 have a1:=hx.h1
 have a2:=hx.h2
 have a3:=hx.h3
 have a4:=hx.h4
 have a5:=hx.h5
 have a6:=hx.h6
 have a7:=hx.h7
 have a8:=hx.h8
 simp only [Nat.reduceAdd] at a0 a1 a2 a3 a4 a5 a6 a7 a8
 have hsh : okR9 l = true:=by
  have:=hpre.1
  simpa only [gB,zd,gW,zm,h1,hsy,ze,Option.some.injEq,Value.bool.injEq] using this
 have hml : (l.length : Int)≤1000:=by
  have:=hpre.2.1
  simp only [gB,zd,gW,zm,h1,Option.some.injEq,Value.bool.injEq,decide_eq_false_iff_not] at this
  omega
 have hgx : (x.goods.size : Int)≤100:=by
  have:=hpre.2.2.1
  simp only [gB,zd,gW,zm,a3,Option.some.injEq,Value.bool.injEq,decide_eq_false_iff_not] at this
  omega
 have hN1 : IntKind.i64.wrap ((l.length : Int) + 1) = (l.length : Int) + 1:=IntWalk.i64_in _ (by omega)
 have hxx : (⟨x.id,x.known,x.from_,x.goods,x.num,x.den,x.cart,x.store,x.of_⟩ : Rat9) = x:=rfl
 have hok:=ok_snoc hsh hgx hml
 have hll : ((l ++ [x]).length : Int) = (l.length : Int) + 1:=by simp
 refine y6 (E:=E0) yQ yC (sy:=sy) (fun F => LAR_ok F hsy) (fun F => noH_ok) (cApY_w r) hρ hpre hrel hins ?_ ?_
 ·simp only [cApY_con,cApY_t,gA,gB,zd,gW,zm,h1,a0,a1,a2,a3,a4,a5,a6,a7,a8,hsy,zi,zG,ze,hN1,hxx,hok,hll]
  try simp
 ·simp only [cApY_l,gE,dZ,gB,zd,g3,gW,zm,h1,a0,a1,a2,a3,a4,a5,a6,a7,a8,hsy,zi,zG,ze,hN1,hxx,hok,hll]
  try simp
  try omega
end Go.Proofs.YtfddkbbjnghefaaGreatDoor.Zs
