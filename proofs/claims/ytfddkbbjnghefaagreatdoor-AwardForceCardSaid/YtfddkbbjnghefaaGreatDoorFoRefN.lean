/-
  Contracts of the reference: equal lists; Touched where there is no rate.
-/
import Derived.Test.YtfddkbbjnghefaaGreatDoorFoRefS
import Derived.KernelRfl
set_option linter.unusedSimpArgs false
set_option maxHeartbeats 4000000
set_option linter.unusedVariables false
namespace Go.Proofs.YtfddkbbjnghefaaGreatDoor.Zs
open Go
def rsi_vs : List X:=[.num 0]
abbrev qRX0 : X:=.op1 .len (.var 1)
abbrev qRX1 : X:=.app 190 [.var 1,.var 4]
abbrev qRX2 : X:=.op1 .len (.var 4)
abbrev qRX3 : X:=.op2 .eq (.cell 0 (.var 1) (.var 100)) (.cell 0 (.var 4) (.var 100))
abbrev qRX4 : X:=.op2 .lt (.var 100) (.num 0)
abbrev qRX5 : X:=.op2 .lt (.num 2000) qRX0
abbrev qRX6 : X:=.op2 .lt (.var 100) qRX0
abbrev qRX7 : X:=.op2 .lt (.var 100) qRX2
abbrev qRX8 : X:=.op2 .eq qRX0 qRX2
noncomputable def lSi_D : LoopD:={ N:=100,M:=101,size:=Zk 13,reads:=[(0,.rows 1 whoSch (.var 0) (.var 1) false 3),(1,.rows 1 whoSch (.var 3) (.var 4) false 3)],pats:=[{ slots:=[(0,.slx 0 1 (.var 0) (.num 0) qRX0 (.var 2)),(1,.slx 1 1 (.var 3) (.num 0) qRX2 (.var 5)),(5,.sint .i64 (.var 100))],heap:=[] }],exits:=[(.exit 0,{ slots:=[],heap:=[],guard:=.app 190 [.var 1,.var 4] }),(.ret,{ slots:=[(4,.bool false)],heap:=[],guard:=.op1 .not (.app 190 [.var 1,.var 4]) })],own:=[],pre:=[(qRX5,false),(qRX8,true)],dfs:=[] }
noncomputable def lSi_run : Env→AF→ASt→Option (List Out):=Zh noL 6 (fun _ => Zl) (yh Tryz.prog 13 0)
def lSi0_F : List (X×Bool):=[(qRX4,false)]
noncomputable def lSi0_t : FTree:=(.fork qRX6 (.fork qRX7 (.fork qRX3 (.leaf [.again 0 []]) (.leaf [.leave 1 []])) .bad) (.leaf [.leave 0 []]))
noncomputable def lSi0_l : List (List (X×Bool)×Option (List (Tgt×zo))):=[([(qRX3,true),(qRX7,true),(qRX6,true),(qRX4,false)],some [(.again 0 [],[(.var 100,.op1 (.wrap .i64) (.op2 .add (.var 100) (.num 1)))])]),
 ([(qRX3,false),(qRX7,true),(qRX6,true),(qRX4,false)],some [(.leave 1 [],[(.op1 .not qRX1,.boo true)])]),
 ([(qRX7,false),(qRX6,true),(qRX4,false)],none),
 ([(qRX6,false),(qRX4,false)],some [(.leave 0 [],[(qRX1,.boo true)])])]
theorem lSi0_w (r : Rho) : lSi_D.ways lSi_run E0 r 0 lSi0_F lSi0_t = some lSi0_l:=by kernel_rfl
theorem lSi_ok : lSi_D.ok = true:=by kernel_rfl
theorem sameW_is (a b : List Who) : sameW a b = decide (a = b):=by
 unfold sameW
 have : (a.map Who.n = b.map Who.n)↔a = b:=⟨fun h => by
  have:=congrArg (List.map Who.mk) h
  rw [List.map_map,List.map_map] at this
  have e : (Who.mk ∘ Who.n) = id:=funext fun x => rfl
  rwa [e,List.map_id,List.map_id] at this,fun h => by rw [h]⟩
 simp only [this]
theorem sym190D (a b : List Who) : sy 190 [zn a,zn b] = some (.bool (decide (a = b))):=by rw [sym190,sameW_is]
def lSi_Inv (a b : List Who) (j : Nat) (vals : List Value) : Prop:=
 j = 0∧∃ i : Nat,i≤a.length∧vals = [.int .i64 i]∧a.take i = b.take i
def lSi_mu (a : List Who) (_ : Nat) (vals : List Value) : Nat:=a.length - (vI (vals.getD 0 default)).toNat
theorem lSi_step {ρ : Rho} {a b : List Who} (h1 : ρ.val 1 = some (zn a)) (h4 : ρ.val 4 = some (zn b)) (hsy : ρ.sym = sy) (hmax : (a.length : Int)≤2000) (hlen : a.length = b.length) (j : Nat) (vals : List Value) (hI : lSi_Inv a b j vals) :
  yI lSi_D lSi_run E0 ρ (lSi_Inv a b) (lSi_mu a) j vals:=by
 obtain ⟨rfl,i,hi,rfl,hall⟩:=hI
 have hN : lSi_D.N = 100:=rfl
 have xl {jq vq}:=@xL ρ lSi_D.N 100 [.int .i64 i] jq vq hN
 have xh {jq vq}:=@xH ρ lSi_D.N 100 [.int .i64 i] jq vq hN
 have v1:=xl (jq:=1) h1 (by decide)
 have v4:=xl (jq:=4) h4 (by decide)
 have v100:=xh (jq:=100) (vq:=.int .i64 i) rfl (by decide)
 have vs : (ρ.ext lSi_D.N [.int .i64 i]).sym = sy:=hsy
 have hF : zp (ρ.ext lSi_D.N [.int .i64 i]) lSi0_F:=by
  simp only [lSi0_F,zp,gB,za,gHds,v100,Option.some.injEq,Value.bool.injEq,decide_eq_false_iff_not,and_true]
  omega
 suffices both : Zp (ρ.ext lSi_D.N [.int .i64 i]) (lSi0_t.asks lSi0_F)∧zR lSi_D ρ (lSi_Inv a b) (lSi_mu a) 0 [.int .i64 i] lSi0_l from zD (lSi0_w _) hF both.1.ok both.2
 cases hp : a[i]? with
 | none =>
   have hge:=List.getElem?_eq_none_iff.1 hp
   have hge' : ¬ (i : Int) < a.length:=by omega
   have hge2 : ¬ (i : Int) < b.length:=by omega
   have hq : b[i]? = none:=List.getElem?_eq_none_iff.2 (by omega)
   have hab : a = b:=by rw [List.take_of_length_le hge,List.take_of_length_le (by omega)] at hall; exact hall
   refine ⟨?_,?_⟩
   ·simp only [lSi0_t,lSi0_F,gA,gB,za,gHds,v1,v4,v100,vs,sym190D,Int.toNat_natCast,hp,hq,hge',hge2]
    try simp
   ·simp only [lSi0_l,gE,dZ,gB,za,g3,gHds,v1,v4,v100,vs,h1,h4,hsy,sym190D,Int.toNat_natCast,hp,hq,hge',hge2]
    simp [hab]
 | some p =>
   have hlt : i < a.length:=(List.getElem?_eq_some_iff.1 hp).1
   have hlt1 : (i : Int) < a.length:=by omega
   have hlt2 : (i : Int) < b.length:=by omega
   have hw : IntKind.i64.wrap ((i : Int) + 1) = ((i + 1 : Nat) : Int):=by rw [IntWalk.i64_in _ (by omega)]; rfl
   have hq : b[i]? = some b[i]:=List.getElem?_eq_getElem (by omega)
   generalize b[i] = q at hq
   have go : p = q→∃ vals',(ρ.ext lSi_D.N vals').val 100 = some (.int .i64 ((i + 1 : Nat) : Int))∧lSi_Inv a b 0 vals'∧lSi_mu a 0 vals' < lSi_mu a 0 [.int .i64 i]:=by
    intro e
    refine ⟨[.int .i64 ((i + 1 : Nat) : Int)],?_,⟨rfl,i + 1,by omega,rfl,by rw [List.take_add_one,List.take_add_one,hp,hq,hall,e]⟩,?_⟩
    ·exact xH hN rfl (by decide)
    ·simp [lSi_mu,vI]; omega
   have no : p≠q→a≠b:=fun hne e => hne (by rw [e,hq] at hp; exact (Option.some.inj hp).symm)
   refine ⟨?_,?_⟩
   all_goals (simp only [lSi0_t,lSi0_F,lSi0_l,gA,gB,za,gHds,yq,zR,zB,zI,Zn,Zo,zT,zY,dZ,g3,v1,v4,v100,vs,h1,h4,hsy,sym190D,Int.toNat_natCast,hp,hq,Option.bind_some,who0,hlt1,hlt2,hw,reduceCtorEq,false_implies,true_implies])
   all_goals (clear v1 v4 v100 vs h1 h4 hsy hp hq hF)
   all_goals ((repeat' apply And.intro) <;> intros <;> first
    | trivial
    | (exfalso; omega)
    | (exact absurd trivial (by assumption))
    | (exact go (who_eq (by assumption)))
    | (have:=no (fun e => by simp_all); simp_all; done)
    | (simp_all; done))
noncomputable def rSi_con : Con:={ f:=13,args:=[whosArg 0 0,whosArg 1 3],N:=2,M:=2,pre:=[(qRX5,false)],out:=.sbool (.app 190 [.var 1,.var 4]),news:=[] }
noncomputable def rSi_call : Env→yC:=fun E => zw E (evH E (noL E) ((fun E => oneH 13 (yR [(4,lSi_D.hook E.facts rsi_vs)])) E) 6)
noncomputable def rSi_t : GTree:=(.fork qRX8 (.fork qRX1 (.leaf [[]]) (.leaf [[]])) (.leaf [[]]))
noncomputable def rSi_l : List (List (X×Bool)×Option zo):=[([(qRX1,true),(qRX8,true),(qRX5,false)],some [(qRX1,.boo true)]),
 ([(qRX1,false),(qRX8,true),(qRX5,false)],some [(qRX1,.boo false)]),
 ([(qRX8,false),(qRX5,false)],some [(qRX1,.boo false)])]
theorem rSi_w (r : Rho) : rSi_con.fn.ways rSi_call E0 r rSi_con.pre rSi_t = some rSi_l:=by kernel_rfl
theorem lSi_H {r : Rho} {a b : List Who} (h1 : r.val 1 = some (zn a)) (h4 : r.val 4 = some (zn b)) (hsy : r.sym = sy) (hmax : (a.length : Int)≤2000) (F : List (X×Bool)) : yV (E0.with F r) (oneH 13 (yR [(4,lSi_D.hook (E0.with F r).facts rsi_vs)])):=by
 refine yN (n:=1) (fun f fn h => h) (by kernel_rfl) fun i hi => ?_
 obtain rfl : i = 0:=by omega
 rw [yA (show Zr (yh (E0.with F r).P 13 0) = 4 by kernel_rfl)]
 refine hook_ok (E₀:=E0) (run:=lSi_run) (ρ:=r) (Inv:=lSi_Inv a b) (μ:=lSi_mu a) zU lSi_ok (fun F r' h => ?_) (fun hp => ⟨lSi_step h1 h4 hsy hmax ?_,[.int .i64 0],?_,rfl,0,Nat.zero_le _,rfl,rfl⟩)
 ·exact yl zU (noL_ok F (h.trans hsy)) fun _ _ => yj
 ·simp only [lSi_D,zp,gB,za,gHds,h1,h4,hsy,sym190D,Option.some.injEq,Value.bool.injEq,and_true,g3] at hp
  omega
 ·simp only [rsi_vs,gB,za,gHds]
theorem rSi_cok : rSi_con.Ok Tryz.prog sy:=by
 intro r σ w us hsy hρ hpre hrel hins
 obtain ⟨a,h1⟩:=whos_at hrel (i:=0) rfl
 obtain ⟨b,h4⟩:=whos_at hrel (i:=1) rfl
 rw [hρ] at h1 h4
 have h1 : r.val 1 = some (zn a):=h1
 have h4 : r.val 4 = some (zn b):=h4
 have hsh : (a.length : Int)≤2000:=by
  have:=hpre.1
  simp only [gB,za,gHds,h1,Option.some.injEq,Value.bool.injEq,decide_eq_false_iff_not] at this
  omega
 refine zX (E:=E0) zU zG (sy:=sy) (fun F => noL_ok F hsy) (fun F => lSi_H h1 h4 hsy hsh F) (rSi_w r) hρ hpre hrel hins ?_ ?_
 ·simp only [rSi_con,rSi_t,gA,gB,za,gHds,h1,h4,hsy,sym190D]
  try simp
 ·simp only [rSi_l,gE,dZ,gB,za,g3,gHds,h1,h4,hsy,sym190D]
  clear hsy hρ hpre hrel hins h1 h4
  (repeat' apply And.intro) <;> intros <;> first
    | trivial
    | (simp_all; done)
    | (have hne : a≠b:=fun e => by subst e; simp_all
       simp_all; done)
open Go
noncomputable def LNQ : Env→yi:=libs [cLib cCkr_con,cLib cBgN_con,cLib cBgY_con,cLib cId_con]
theorem LNQ_ok (F : List (X×Bool)) {r : Rho} (h : r.sym = sy) : zt (E0.with F r) (LNQ (E0.with F r)):=yU fun c hc => by
 simp only [List.mem_cons,List.not_mem_nil,or_false] at hc
 rcases hc with rfl | rfl | rfl | rfl
 ·exact zH (E:=E0) cCkr_cok F h
 ·exact zH (E:=E0) cBgN_cok F h
 ·exact zH (E:=E0) cBgY_cok F h
 ·exact zH (E:=E0) cId_cok F h
def tn_vs : List X:=[.num 0,.num 0,.num 0]
abbrev qTN0 : X:=.snoc .nil [.op1 (.kind .i64) (.var 3),.op1 (.kind .i64) (.var 4),.op1 (.kind .i64) (.var 5),.var 6,.op1 (.kind .i64) (.var 7),.op1 (.kind .i64) (.var 8),.op1 (.kind .i64) (.var 9),.op1 (.kind .i64) (.var 10),.op1 (.kind .i64) (.var 11)]
abbrev qTN1 : X:=.snoc .nil [.op1 (.kind .i64) (.var 3),.op1 (.kind .i64) (.var 4),.op1 (.kind .i64) (.var 5),.var 6,.op1 (.kind .i64) (.var 7),.op1 (.kind .i64) (.var 8),.op1 (.kind .i64) (.var 9),.op1 (.kind .i64) (.var 10),.op1 (.kind .i64) (.var 11)]
abbrev qTN2 : X:=.app 209 [.app 113 [.app 208 [qTN0]]]
abbrev qTN3 : X:=.snoc qTN2 [.op1 (.kind .i64) (.num 1000001)]
abbrev qTN4 : X:=.op2 .add (.op1 .len qTN2) (.num 1)
abbrev qTN5 : X:=.op2 .add (.num 1) (.var 100)
abbrev qTN6 : X:=.op2 .lt (.var 100) (.op1 .len qTN2)
abbrev qTN24 : X:=.app 209 [.app 113 [.app 208 [qTN1]]]
abbrev qTN7 : X:=.op2 .add (.op1 .len qTN24) (.num 1)
abbrev qTN8 : X:=.op2 .eq (.num 0) (.app 205 [qTN0,.var 12,.cell 0 qTN3 (.var 100),.var 4,.num 0])
abbrev qTN9 : X:=.op2 .lt (.var 100) (.num 0)
abbrev qTN10 : X:=.op2 .lt (.num 100) (.op1 .slen (.var 6))
abbrev qTN11 : X:=.op2 .lt qTN5 (.op1 .len qTN3)
abbrev qTN12 : X:=.app 213 [.nil,qTN0,.var 12,.var 4]
abbrev qTN13 : X:=.app 202 [qTN0]
abbrev qTN14 : X:=.op2 .lt qTN5 (.num 0)
abbrev qTN15 : X:=.op2 .lt (.var 100) (.op1 .len qTN3)
abbrev qTN16 : X:=.op2 .eq (.app 200 [qTN0]) (.num 0)
abbrev qTN17 : X:=.op2 .lt (.num 1000000000) qTN4
abbrev qTN18 : X:=.op2 .lt (.var 100) qTN4
abbrev qTN19 : X:=.op2 .lt (.num 0) (.op1 .len qTN0)
abbrev qTN20 : X:=.op1 (.wrap .i64) (.op2 .add (.var 100) (.num 1))
abbrev qTN21 : X:=.op2 .lt qTN4 (.num 1)
abbrev qTN22 : X:=.app 211 [.nil,qTN0,.var 12,.var 4]
abbrev qTN23 : X:=.app 212 [.nil,qTN0,.var 12,.var 4]
abbrev qTN25 : X:=.app 213 [.nil,qTN1,.var 12,.var 4]
abbrev qTN26 : X:=.op2 .eq (.app 200 [qTN1]) (.num 0)
abbrev qTNf4 : List (X×Bool):=[(qTN13,true),(qTN9,false)]
abbrev qTNf0 : List (X×Bool):=(qTN14,false) :: (qTN6,true) :: qTNf4
abbrev qTNf1 : List (X×Bool):=[(qTN10,false),(qTN16,true),(qTN13,true),(qTN19,true),(qTN12,false)]
abbrev qTNf2 : List (X×Bool):=[(qTN10,false),(qTN16,true),(qTN13,true),(qTN19,true),(qTN12,true)]
abbrev qTNf3 : List (X×Bool):=(qTN18,true) :: (qTN11,true) :: qTNf0
noncomputable def lTn_D : LoopD:={ N:=100,M:=111,size:=Zk 11,reads:=[(6,.rows 9 ratSch (.num 0) qTN1 true 26),(1,.cells [.sint .i64 (.var 3),.sint .i64 (.var 4),.sint .i64 (.var 5),.sstr (.var 6),.sint .i64 (.var 7),.sint .i64 (.var 8),.sint .i64 (.var 9),.sint .i64 (.var 10),.sint .i64 (.var 11)] 26),(9,.rows 1 [.int .i64] (.num 0) (.snoc qTN24 [.op1 (.kind .i64) (.num 1000001)]) true 3)],pats:=[{ slots:=[(0,.nilslice),(2,.sstr (.var 12)),(4,.ptr 1 0),(10,.slo 6 9 (.num 1)),(11,.slo 9 1 qTN7),(19,.slo 6 9 (.num 1)),(24,.slo 6 9 (.num 1)),(27,.slo 9 1 qTN7),(28,.slo 9 1 qTN7),(29,.spt 9 1 (.num 1) qTN7),(30,.sint .i64 (.op1 .len qTN24)),(31,.sint .i64 (.var 100)),(6,.int .i64 0),(7,.int .i64 0),(8,.bool false)],heap:=[] },{ slots:=[(0,.nilslice),(2,.sstr (.var 12)),(4,.ptr 1 0),(10,.slo 6 9 (.num 1)),(11,.slo 9 1 qTN7),(19,.slo 6 9 (.num 1)),(24,.slo 6 9 (.num 1)),(27,.slo 9 1 qTN7),(28,.slo 9 1 qTN7),(29,.spt 9 1 (.num 1) qTN7),(30,.sint .i64 (.op1 .len qTN24)),(31,.sint .i64 (.var 100)),(6,.sint .i64 (.var 101)),(7,.sint .i64 (.var 102)),(8,.bool true)],heap:=[] }],exits:=[(.exit 0,{ slots:=[(6,.int .i64 0),(7,.int .i64 0),(8,.bool false)],heap:=[],guard:=.op1 .not qTN25 }),(.exit 0,{ slots:=[(6,.sint .i64 (.app 211 [.nil,qTN1,.var 12,.var 4])),(7,.sint .i64 (.app 212 [.nil,qTN1,.var 12,.var 4])),(8,.bool true)],heap:=[],guard:=.app 213 [.nil,qTN1,.var 12,.var 4] })],own:=[],pre:=[(.app 202 [qTN1],true)],dfs:=[] }
noncomputable def lTn_run : Env→AF→ASt→Option (List Out):=Zh LNQ 9 (fun _ => Zl) (yh Tryz.prog 11 0)
def lTn0_F : List (X×Bool):=[(.app 202 [qTN1],true),(qTN9,false)]
def lTn1_F : List (X×Bool):=[(.app 202 [qTN1],true),(qTN9,false)]
noncomputable def lTn0_t : FTree:=(.fork qTN6 (.fork qTN14 .bad (.fork qTN11 (.fork qTN18 (.fork qTN15 (.fork qTN8 (.leaf [.again 0 []]) (.leaf [.again 1 []])) .bad) .bad) .bad)) (.leaf [.leave 0 []]))
noncomputable def lTn0_l : List (List (X×Bool)×Option (List (Tgt×zo))):=[((qTN14,true) :: (qTN6,true) :: qTNf4,none),
 ((qTN8,true) :: (qTN15,true) :: qTNf3,some [(.again 0 [],[(.var 100,qTN20)])]),
 ((qTN8,false) :: (qTN15,true) :: qTNf3,some [(.again 1 [],[(.var 100,qTN20),(.var 101,.cell 0 qTN3 (.var 100)),(.var 102,.op1 (.wrap .i64) (.op2 .sub (.cell 0 qTN3 qTN5) (.num 1)))])]),
 ((qTN15,false) :: qTNf3,none),
 ((qTN18,false) :: (qTN11,true) :: qTNf0,none),
 ((qTN11,false) :: qTNf0,none),
 ((qTN6,false) :: qTNf4,some [(.leave 0 [],[(.op1 .not qTN12,.boo true)])])]
theorem lTn0_w (r : Rho) : lTn_D.ways lTn_run E0 r 0 lTn0_F lTn0_t = some lTn0_l:=by kernel_rfl
noncomputable def lTn1_t : FTree:=(.fork qTN6 (.fork qTN14 .bad (.fork qTN11 (.fork qTN18 (.fork qTN15 (.fork qTN8 (.leaf [.again 1 []]) (.leaf [.again 1 []])) .bad) .bad) .bad)) (.leaf [.leave 1 []]))
noncomputable def lTn1_l : List (List (X×Bool)×Option (List (Tgt×zo))):=[((qTN14,true) :: (qTN6,true) :: qTNf4,none),
 ((qTN8,true) :: (qTN15,true) :: qTNf3,some [(.again 1 [],[(.var 100,qTN20),(.var 101,.var 101),(.var 102,.var 102)])]),
 ((qTN8,false) :: (qTN15,true) :: qTNf3,some [(.again 1 [],[(.var 100,qTN20),(.var 101,.var 101),(.var 102,.op1 (.wrap .i64) (.op2 .sub (.cell 0 qTN3 qTN5) (.num 1)))])]),
 ((qTN15,false) :: qTNf3,none),
 ((qTN18,false) :: (qTN11,true) :: qTNf0,none),
 ((qTN11,false) :: qTNf0,none),
 ((qTN6,false) :: qTNf4,some [(.leave 1 [],[(qTN22,.var 101),(qTN23,.var 102),(qTN12,.boo true)])])]
theorem lTn1_w (r : Rho) : lTn_D.ways lTn_run E0 r 1 lTn1_F lTn1_t = some lTn1_l:=by kernel_rfl
theorem lTn_ok : lTn_D.ok = true:=by kernel_rfl
theorem yc : (Value.tuple #[]) = ratsR []:=rfl
def lTn_Inv (x : Rat9) (g : ByteArray) (j : Nat) (vals : List Value) : Prop:=
 ∃ i : Nat,i≤(zQ (zi (zk [x]))).length∧((j = 0∧vals = [.int .i64 (i : Int),.int .i64 0,.int .i64 0]∧(tchI [] [x] g x.known i).is = false)∨(j = 1∧vals = [.int .i64 (i : Int),.int .i64 (tchI [] [x] g x.known i).from_,.int .i64 (tchI [] [x] g x.known i).until_]∧(tchI [] [x] g x.known i).is = true))
def lTn_mu (b : List Who) (_ : Nat) (vals : List Value) : Nat:=b.length - (vI (vals.getD 0 default)).toNat
theorem lTn_step0 {ρ : Rho} {x : Rat9} {kx : Nat→IntKind} {g : ByteArray} (hx : Rat9At ρ 3 kx x) (h12 : ρ.val 12 = some (.string g)) (hsy : ρ.sym = sy) (hok : okR9 [x] = true) {i : Nat} (hi : i≤(zQ (zi (zk [x]))).length) (hn : (tchI [] [x] g x.known i).is = false) : yI lTn_D lTn_run E0 ρ (lTn_Inv x g) (lTn_mu (zQ (zi (zk [x])))) 0 [.int .i64 (i : Int),.int .i64 0,.int .i64 0]:=by
 have hN : lTn_D.N = 100:=rfl
 have hmax:=ok_len hok
 have hbl:=beg_len [x]
 have hxx : (⟨x.id,x.known,x.from_,x.goods,x.num,x.den,x.cart,x.store,x.of_⟩ : Rat9) = x:=rfl
 have hll : (((zQ (zi (zk [x]))) ++ [(⟨1000001⟩ : Who)]).length : Int) = ((zQ (zi (zk [x]))).length : Int) + 1:=by simp
 have xl {jq vq}:=@xL ρ lTn_D.N 100 [.int .i64 (i : Int),.int .i64 0,.int .i64 0] jq vq hN
 have xh {jq vq}:=@xH ρ lTn_D.N 100 [.int .i64 (i : Int),.int .i64 0,.int .i64 0] jq vq hN
 have v3:=xl (jq:=3) hx.h0 (by decide)
 have v4:=xl (jq:=4) hx.h1 (by decide)
 have v5:=xl (jq:=5) hx.h2 (by decide)
 have v6:=xl (jq:=6) hx.h3 (by decide)
 have v7:=xl (jq:=7) hx.h4 (by decide)
 have v8:=xl (jq:=8) hx.h5 (by decide)
 have v9:=xl (jq:=9) hx.h6 (by decide)
 have v10:=xl (jq:=10) hx.h7 (by decide)
 have v11:=xl (jq:=11) hx.h8 (by decide)
 have v12:=xl (jq:=12) h12 (by decide)
 have v100:=xh (jq:=100) (vq:=.int .i64 (i : Int)) rfl (by decide)
 have v101:=xh (jq:=101) (vq:=.int .i64 0) rfl (by decide)
 have v102:=xh (jq:=102) (vq:=.int .i64 0) rfl (by decide)
 have vs : (ρ.ext lTn_D.N [.int .i64 (i : Int),.int .i64 0,.int .i64 0]).sym = sy:=hsy
 have hF : zp (ρ.ext lTn_D.N [.int .i64 (i : Int),.int .i64 0,.int .i64 0]) lTn0_F:=by
  simp only [lTn0_F,zp,gB,za,gW,zh,yc,List.nil_append,v3,v4,v5,v6,v7,v8,v9,v10,v11,v12,v100,v101,v102,vs,hxx,zg,hok,Option.some.injEq,Value.bool.injEq,decide_eq_false_iff_not,and_true,true_and]
  omega
 suffices both : Zp (ρ.ext lTn_D.N [.int .i64 (i : Int),.int .i64 0,.int .i64 0]) (lTn0_t.asks lTn0_F)∧zR lTn_D ρ (lTn_Inv x g) (lTn_mu (zQ (zi (zk [x])))) 0 [.int .i64 (i : Int),.int .i64 0,.int .i64 0] lTn0_l from zD (lTn0_w _) hF both.1.ok both.2
 cases hp : (zQ (zi (zk [x])))[i]? with
 | none =>
   have hge:=List.getElem?_eq_none_iff.1 hp
   have hge' : ¬ (i : Int) < (zQ (zi (zk [x]))).length:=by omega
   have hT : (tchI [] [x] g x.known i) = tch [] [x] g x.known:=by
    have : i = (begW [x]).length:=by unfold begW; omega
    rw [this]; rfl
   refine ⟨?_,?_⟩
   ·simp only [lTn0_t,lTn0_F,gA,gB,za,gW,zh,yc,v3,v4,v5,v6,v7,v8,v9,v10,v11,v12,v100,v101,v102,vs,hxx,zl,zx,zg,zu,yD,z7,z6,yf,ye,yd,hok,Int.toNat_natCast,hp,hge']
    try simp
   ·simp only [lTn0_l,gE,dZ,gB,za,g3,gW,zh,yc,List.nil_append,v3,v4,v5,v6,v7,v8,v9,v10,v11,v12,v100,v101,v102,vs,h12,hx.h0,hx.h1,hx.h2,hx.h3,hx.h4,hx.h5,hx.h6,hx.h7,hx.h8,hsy,hxx,zl,zx,zg,zu,yD,z7,z6,yf,ye,yd,hok,Int.toNat_natCast,hp,hge',reduceCtorEq,gR]
    rw [hT] at hn
    try simp only [hT]
    simp [hn]
 | some w =>
   have hil : i < (zQ (zi (zk [x]))).length:=(List.getElem?_eq_some_iff.1 hp).1
   have hil1 : (i : Int) < (zQ (zi (zk [x]))).length:=by omega
   have hil2 : (i : Int) < ((zQ (zi (zk [x]))).length : Int) + 1:=by omega
   have hil3 : (1 : Int) + (i : Int) < ((zQ (zi (zk [x]))).length : Int) + 1:=by omega
   have hil4 : ¬ (1 : Int) + (i : Int) < 0:=by omega
   have hcast : ((1 : Int) + (i : Int)).toNat = i + 1:=by omega
   have hp1 : ((zQ (zi (zk [x]))) ++ [(⟨1000001⟩ : Who)])[i]? = some w:=by rw [List.getElem?_append_left hil]; exact hp
   obtain ⟨w2,hp2⟩ : ∃ w2,((zQ (zi (zk [x]))) ++ [(⟨1000001⟩ : Who)])[i + 1]? = some w2:=⟨_,List.getElem?_eq_getElem (by simp; omega)⟩
   have hw : IntKind.i64.wrap ((i : Int) + 1) = ((i + 1 : Nat) : Int):=by rw [IntWalk.i64_in _ (by omega)]; rfl
   have hid2 : zb [x] g w.n x.known 0 = some (.int .i64 (idAt [x] g w.n x.known)):=rfl
   have hnext : (tchI [] [x] g x.known (i + 1)) = yb [] [x] g x.known (tchI [] [x] g x.known i) w.n w2.n:=by
    have g1 : (hoursW [x]).getD i ⟨0⟩ = w:=by rw [List.getD_eq_getElem?_getD]; show (((zQ (zi (zk [x]))) ++ [(⟨1000001⟩ : Who)])[i]?).getD _ = w; rw [hp1]; rfl
    have g2 : (hoursW [x]).getD (i + 1) ⟨0⟩ = w2:=by rw [List.getD_eq_getElem?_getD]; show (((zQ (zi (zk [x]))) ++ [(⟨1000001⟩ : Who)])[i + 1]?).getD _ = w2; rw [hp2]; rfl
    show yb [] [x] g x.known (tchI [] [x] g x.known i) ((hoursW [x]).getD i ⟨0⟩).n ((hoursW [x]).getD (i + 1) ⟨0⟩).n = _
    rw [g1,g2]
   have goC : ¬ (0 : Int) = idAt [x] g w.n x.known→∃ vals',((ρ.ext lTn_D.N vals').val 100 = some (.int .i64 ((i + 1 : Nat) : Int))∧(ρ.ext lTn_D.N vals').val 101 = some (.int .i64 (w.n))∧(ρ.ext lTn_D.N vals').val 102 = some (.int .i64 (IntKind.i64.wrap (w2.n - 1))))∧lTn_Inv x g 1 vals'∧lTn_mu (zQ (zi (zk [x]))) 1 vals' < lTn_mu (zQ (zi (zk [x]))) 0 [.int .i64 (i : Int),.int .i64 0,.int .i64 0]:=by
    intro hc
    have e2 : (tchI [] [x] g x.known (i + 1)) = ⟨w.n,IntKind.i64.wrap (w2.n - 1),true⟩:=by rw [hnext]; unfold yb; rw [show idAt [] g w.n x.known = 0 from rfl,if_neg hc,hn]; rfl
    refine ⟨[.int .i64 ((i + 1 : Nat) : Int),.int .i64 (tchI [] [x] g x.known (i + 1)).from_,.int .i64 (tchI [] [x] g x.known (i + 1)).until_],⟨?_,?_,?_⟩,⟨i + 1,by omega,.inr ⟨rfl,rfl,by rw [e2]⟩⟩,by simp [lTn_mu,vI]; omega⟩
    ·exact xH hN rfl (by decide)
    ·rw [yn _ _ _ _ (by rw [hN]; omega)]; exact (congrArg (fun t : Tch => some (Value.int .i64 t.from_)) e2 :)
    ·rw [yn _ _ _ _ (by rw [hN]; omega)]; exact (congrArg (fun t : Tch => some (Value.int .i64 t.until_)) e2 :)
   have goS : (0 : Int) = idAt [x] g w.n x.known→∃ vals',(ρ.ext lTn_D.N vals').val 100 = some (.int .i64 ((i + 1 : Nat) : Int))∧lTn_Inv x g 0 vals'∧lTn_mu (zQ (zi (zk [x]))) 0 vals' < lTn_mu (zQ (zi (zk [x]))) 0 [.int .i64 (i : Int),.int .i64 0,.int .i64 0]:=by
    intro hc
    have e2 : (tchI [] [x] g x.known (i + 1)) = (tchI [] [x] g x.known i):=by rw [hnext]; unfold yb; rw [show idAt [] g w.n x.known = 0 from rfl,if_pos hc]
    refine ⟨[.int .i64 ((i + 1 : Nat) : Int),.int .i64 0,.int .i64 0],?_,⟨i + 1,by omega,.inl ⟨rfl,rfl,by rw [e2]; exact hn⟩⟩,by simp [lTn_mu,vI]; omega⟩
    exact xH hN rfl (by decide)
   refine ⟨?_,?_⟩
   all_goals (simp only [lTn0_t,lTn0_F,lTn0_l,gA,gB,za,gW,zh,yc,yq,zR,zB,zI,Zn,Zo,zT,zY,dZ,g3,v3,v4,v5,v6,v7,v8,v9,v10,v11,v12,v100,v101,v102,vs,h12,hsy,hxx,zl,zx,zg,zu,yD,z7,z6,yf,ye,yd,hok,Int.toNat_natCast,hp,hp1,hp2,hll,hcast,Option.bind_some,who0,hid2,hil1,hil2,hil3,hil4,hw,reduceCtorEq,Bool.false_eq_true,false_implies,true_implies,and_true,true_and])
   all_goals (clear v3 v4 v5 v6 v7 v8 v9 v10 v11 v12 v100 v101 v102 vs h12 hx hsy hF)
   all_goals ((repeat' apply And.intro) <;> intros <;> first
    | trivial
    | contradiction
    | (exact goS (by assumption))
    | (exact goC (by assumption))
    | (exfalso; omega)
    | (simp_all; done))
theorem lTn_step1 {ρ : Rho} {x : Rat9} {kx : Nat→IntKind} {g : ByteArray} (hx : Rat9At ρ 3 kx x) (h12 : ρ.val 12 = some (.string g)) (hsy : ρ.sym = sy) (hok : okR9 [x] = true) {i : Nat} (hi : i≤(zQ (zi (zk [x]))).length) (hn : (tchI [] [x] g x.known i).is = true) : yI lTn_D lTn_run E0 ρ (lTn_Inv x g) (lTn_mu (zQ (zi (zk [x])))) 1 [.int .i64 (i : Int),.int .i64 (tchI [] [x] g x.known i).from_,.int .i64 (tchI [] [x] g x.known i).until_]:=by
 have hN : lTn_D.N = 100:=rfl
 have hmax:=ok_len hok
 have hbl:=beg_len [x]
 have hxx : (⟨x.id,x.known,x.from_,x.goods,x.num,x.den,x.cart,x.store,x.of_⟩ : Rat9) = x:=rfl
 have hll : (((zQ (zi (zk [x]))) ++ [(⟨1000001⟩ : Who)]).length : Int) = ((zQ (zi (zk [x]))).length : Int) + 1:=by simp
 have xl {jq vq}:=@xL ρ lTn_D.N 100 [.int .i64 (i : Int),.int .i64 (tchI [] [x] g x.known i).from_,.int .i64 (tchI [] [x] g x.known i).until_] jq vq hN
 have xh {jq vq}:=@xH ρ lTn_D.N 100 [.int .i64 (i : Int),.int .i64 (tchI [] [x] g x.known i).from_,.int .i64 (tchI [] [x] g x.known i).until_] jq vq hN
 have v3:=xl (jq:=3) hx.h0 (by decide)
 have v4:=xl (jq:=4) hx.h1 (by decide)
 have v5:=xl (jq:=5) hx.h2 (by decide)
 have v6:=xl (jq:=6) hx.h3 (by decide)
 have v7:=xl (jq:=7) hx.h4 (by decide)
 have v8:=xl (jq:=8) hx.h5 (by decide)
 have v9:=xl (jq:=9) hx.h6 (by decide)
 have v10:=xl (jq:=10) hx.h7 (by decide)
 have v11:=xl (jq:=11) hx.h8 (by decide)
 have v12:=xl (jq:=12) h12 (by decide)
 have v100:=xh (jq:=100) (vq:=.int .i64 (i : Int)) rfl (by decide)
 have v101:=xh (jq:=101) (vq:=.int .i64 (tchI [] [x] g x.known i).from_) rfl (by decide)
 have v102:=xh (jq:=102) (vq:=.int .i64 (tchI [] [x] g x.known i).until_) rfl (by decide)
 have vs : (ρ.ext lTn_D.N [.int .i64 (i : Int),.int .i64 (tchI [] [x] g x.known i).from_,.int .i64 (tchI [] [x] g x.known i).until_]).sym = sy:=hsy
 have hF : zp (ρ.ext lTn_D.N [.int .i64 (i : Int),.int .i64 (tchI [] [x] g x.known i).from_,.int .i64 (tchI [] [x] g x.known i).until_]) lTn1_F:=by
  simp only [lTn1_F,zp,gB,za,gW,zh,yc,List.nil_append,v3,v4,v5,v6,v7,v8,v9,v10,v11,v12,v100,v101,v102,vs,hxx,zg,hok,Option.some.injEq,Value.bool.injEq,decide_eq_false_iff_not,and_true,true_and]
  omega
 suffices both : Zp (ρ.ext lTn_D.N [.int .i64 (i : Int),.int .i64 (tchI [] [x] g x.known i).from_,.int .i64 (tchI [] [x] g x.known i).until_]) (lTn1_t.asks lTn1_F)∧zR lTn_D ρ (lTn_Inv x g) (lTn_mu (zQ (zi (zk [x])))) 1 [.int .i64 (i : Int),.int .i64 (tchI [] [x] g x.known i).from_,.int .i64 (tchI [] [x] g x.known i).until_] lTn1_l from zD (lTn1_w _) hF both.1.ok both.2
 cases hp : (zQ (zi (zk [x])))[i]? with
 | none =>
   have hge:=List.getElem?_eq_none_iff.1 hp
   have hge' : ¬ (i : Int) < (zQ (zi (zk [x]))).length:=by omega
   have hT : (tchI [] [x] g x.known i) = tch [] [x] g x.known:=by
    have : i = (begW [x]).length:=by unfold begW; omega
    rw [this]; rfl
   refine ⟨?_,?_⟩
   ·simp only [lTn1_t,lTn1_F,gA,gB,za,gW,zh,yc,v3,v4,v5,v6,v7,v8,v9,v10,v11,v12,v100,v101,v102,vs,hxx,zl,zx,zg,zu,yD,z7,z6,yf,ye,yd,hok,Int.toNat_natCast,hp,hge']
    try simp
   ·simp only [lTn1_l,gE,dZ,gB,za,g3,gW,zh,yc,List.nil_append,v3,v4,v5,v6,v7,v8,v9,v10,v11,v12,v100,v101,v102,vs,h12,hx.h0,hx.h1,hx.h2,hx.h3,hx.h4,hx.h5,hx.h6,hx.h7,hx.h8,hsy,hxx,zl,zx,zg,zu,yD,z7,z6,yf,ye,yd,hok,Int.toNat_natCast,hp,hge',reduceCtorEq,gR]
    rw [hT] at hn
    try simp only [hT]
    simp [hn]
 | some w =>
   have hil : i < (zQ (zi (zk [x]))).length:=(List.getElem?_eq_some_iff.1 hp).1
   have hil1 : (i : Int) < (zQ (zi (zk [x]))).length:=by omega
   have hil2 : (i : Int) < ((zQ (zi (zk [x]))).length : Int) + 1:=by omega
   have hil3 : (1 : Int) + (i : Int) < ((zQ (zi (zk [x]))).length : Int) + 1:=by omega
   have hil4 : ¬ (1 : Int) + (i : Int) < 0:=by omega
   have hcast : ((1 : Int) + (i : Int)).toNat = i + 1:=by omega
   have hp1 : ((zQ (zi (zk [x]))) ++ [(⟨1000001⟩ : Who)])[i]? = some w:=by rw [List.getElem?_append_left hil]; exact hp
   obtain ⟨w2,hp2⟩ : ∃ w2,((zQ (zi (zk [x]))) ++ [(⟨1000001⟩ : Who)])[i + 1]? = some w2:=⟨_,List.getElem?_eq_getElem (by simp; omega)⟩
   have hw : IntKind.i64.wrap ((i : Int) + 1) = ((i + 1 : Nat) : Int):=by rw [IntWalk.i64_in _ (by omega)]; rfl
   have hid2 : zb [x] g w.n x.known 0 = some (.int .i64 (idAt [x] g w.n x.known)):=rfl
   have hnext : (tchI [] [x] g x.known (i + 1)) = yb [] [x] g x.known (tchI [] [x] g x.known i) w.n w2.n:=by
    have g1 : (hoursW [x]).getD i ⟨0⟩ = w:=by rw [List.getD_eq_getElem?_getD]; show (((zQ (zi (zk [x]))) ++ [(⟨1000001⟩ : Who)])[i]?).getD _ = w; rw [hp1]; rfl
    have g2 : (hoursW [x]).getD (i + 1) ⟨0⟩ = w2:=by rw [List.getD_eq_getElem?_getD]; show (((zQ (zi (zk [x]))) ++ [(⟨1000001⟩ : Who)])[i + 1]?).getD _ = w2; rw [hp2]; rfl
    show yb [] [x] g x.known (tchI [] [x] g x.known i) ((hoursW [x]).getD i ⟨0⟩).n ((hoursW [x]).getD (i + 1) ⟨0⟩).n = _
    rw [g1,g2]
   have goC : ¬ (0 : Int) = idAt [x] g w.n x.known→∃ vals',((ρ.ext lTn_D.N vals').val 100 = some (.int .i64 ((i + 1 : Nat) : Int))∧(ρ.ext lTn_D.N vals').val 101 = some (.int .i64 ((tchI [] [x] g x.known i).from_))∧(ρ.ext lTn_D.N vals').val 102 = some (.int .i64 (IntKind.i64.wrap (w2.n - 1))))∧lTn_Inv x g 1 vals'∧lTn_mu (zQ (zi (zk [x]))) 1 vals' < lTn_mu (zQ (zi (zk [x]))) 1 [.int .i64 (i : Int),.int .i64 (tchI [] [x] g x.known i).from_,.int .i64 (tchI [] [x] g x.known i).until_]:=by
    intro hc
    have e2 : (tchI [] [x] g x.known (i + 1)) = ⟨(tchI [] [x] g x.known i).from_,IntKind.i64.wrap (w2.n - 1),true⟩:=by rw [hnext]; unfold yb; rw [show idAt [] g w.n x.known = 0 from rfl,if_neg hc,hn]; rfl
    refine ⟨[.int .i64 ((i + 1 : Nat) : Int),.int .i64 (tchI [] [x] g x.known (i + 1)).from_,.int .i64 (tchI [] [x] g x.known (i + 1)).until_],⟨?_,?_,?_⟩,⟨i + 1,by omega,.inr ⟨rfl,rfl,by rw [e2]⟩⟩,by simp [lTn_mu,vI]; omega⟩
    ·exact xH hN rfl (by decide)
    ·rw [yn _ _ _ _ (by rw [hN]; omega)]; exact (congrArg (fun t : Tch => some (Value.int .i64 t.from_)) e2 :)
    ·rw [yn _ _ _ _ (by rw [hN]; omega)]; exact (congrArg (fun t : Tch => some (Value.int .i64 t.until_)) e2 :)
   have goS : (0 : Int) = idAt [x] g w.n x.known→∃ vals',((ρ.ext lTn_D.N vals').val 100 = some (.int .i64 ((i + 1 : Nat) : Int))∧(ρ.ext lTn_D.N vals').val 101 = some (.int .i64 ((tchI [] [x] g x.known i).from_))∧(ρ.ext lTn_D.N vals').val 102 = some (.int .i64 ((tchI [] [x] g x.known i).until_)))∧lTn_Inv x g 1 vals'∧lTn_mu (zQ (zi (zk [x]))) 1 vals' < lTn_mu (zQ (zi (zk [x]))) 1 [.int .i64 (i : Int),.int .i64 (tchI [] [x] g x.known i).from_,.int .i64 (tchI [] [x] g x.known i).until_]:=by
    intro hc
    have e2 : (tchI [] [x] g x.known (i + 1)) = (tchI [] [x] g x.known i):=by rw [hnext]; unfold yb; rw [show idAt [] g w.n x.known = 0 from rfl,if_pos hc]
    refine ⟨[.int .i64 ((i + 1 : Nat) : Int),.int .i64 (tchI [] [x] g x.known (i + 1)).from_,.int .i64 (tchI [] [x] g x.known (i + 1)).until_],⟨?_,?_,?_⟩,⟨i + 1,by omega,.inr ⟨rfl,rfl,by rw [e2]; exact hn⟩⟩,by simp [lTn_mu,vI]; omega⟩
    ·exact xH hN rfl (by decide)
    ·rw [yn _ _ _ _ (by rw [hN]; omega)]; exact (congrArg (fun t : Tch => some (Value.int .i64 t.from_)) e2 :)
    ·rw [yn _ _ _ _ (by rw [hN]; omega)]; exact (congrArg (fun t : Tch => some (Value.int .i64 t.until_)) e2 :)
   refine ⟨?_,?_⟩
   all_goals (simp only [lTn1_t,lTn1_F,lTn1_l,gA,gB,za,gW,zh,yc,yq,zR,zB,zI,Zn,Zo,zT,zY,dZ,g3,v3,v4,v5,v6,v7,v8,v9,v10,v11,v12,v100,v101,v102,vs,h12,hsy,hxx,zl,zx,zg,zu,yD,z7,z6,yf,ye,yd,hok,Int.toNat_natCast,hp,hp1,hp2,hll,hcast,Option.bind_some,who0,hid2,hil1,hil2,hil3,hil4,hw,reduceCtorEq,Bool.false_eq_true,false_implies,true_implies,and_true,true_and])
   all_goals (clear v3 v4 v5 v6 v7 v8 v9 v10 v11 v12 v100 v101 v102 vs h12 hx hsy hF)
   all_goals ((repeat' apply And.intro) <;> intros <;> first
    | trivial
    | contradiction
    | (exact goS (by assumption))
    | (exact goC (by assumption))
    | (exfalso; omega)
    | (simp_all; done))
theorem lTn_step {ρ : Rho} {x : Rat9} {kx : Nat→IntKind} {g : ByteArray} (hx : Rat9At ρ 3 kx x) (h12 : ρ.val 12 = some (.string g)) (hsy : ρ.sym = sy) (hok : okR9 [x] = true) (j : Nat) (vals : List Value) (hI : lTn_Inv x g j vals) : yI lTn_D lTn_run E0 ρ (lTn_Inv x g) (lTn_mu (zQ (zi (zk [x])))) j vals:=by
 obtain ⟨i,hi,⟨rfl,rfl,hn⟩ | ⟨rfl,rfl,hn⟩⟩:=hI
 ·exact lTn_step0 hx h12 hsy hok hi hn
 ·exact lTn_step1 hx h12 hsy hok hi hn
theorem lTn_H {ρ : Rho} {x : Rat9} {kx : Nat→IntKind} {g : ByteArray} (hx : Rat9At ρ 3 kx x) (h12 : ρ.val 12 = some (.string g)) (hsy : ρ.sym = sy) (hok : okR9 [x] = true) (F : List (X×Bool)) : yV (E0.with F ρ) (oneH 11 (yR [(6,lTn_D.hook (E0.with F ρ).facts tn_vs)])):=by
 refine yN (n:=1) (fun f fn h => h) (by kernel_rfl) fun i hi => ?_
 obtain rfl : i = 0:=by omega
 rw [yA (show Zr (yh (E0.with F ρ).P 11 0) = 6 by kernel_rfl)]
 refine hook_ok (E₀:=E0) (run:=lTn_run) (ρ:=ρ) (Inv:=lTn_Inv x g) (μ:=lTn_mu (zQ (zi (zk [x])))) zU lTn_ok (fun F r' h => ?_) (fun hp => ⟨lTn_step hx h12 hsy hok,[.int .i64 0,.int .i64 0,.int .i64 0],?_,0,Nat.zero_le _,.inl ⟨rfl,rfl,rfl⟩⟩)
 ·exact yl zU (LNQ_ok F (h.trans hsy)) fun _ _ => yj
 ·simp only [tn_vs,gB,za,gW,zh,yc,List.nil_append]
  try rfl
noncomputable def cTnE_con : Con:={ f:=11,args:=[.nils,.agg [.int .i64 3,.int .i64 4,.int .i64 5,.str 6,.int .i64 7,.int .i64 8,.int .i64 9,.int .i64 10,.int .i64 11],.one (.str 12)],N:=1,M:=1,pre:=[(qTN10,false),(qTN26,false)],out:=.tuple [.int .i64 0,.int .i64 0,.bool false,.sint .i64 (.app 200 [qTN1])],news:=[] }
noncomputable def cTnE_call : Env→yC:=fun E => zw E (evH E (LNQ E) ((fun _ => yo) E) 12)
noncomputable def cTnE_t : GTree:=(.fork qTN13 (.leaf [[]]) .bad)
noncomputable def cTnE_l : List (List (X×Bool)×Option zo):=[([(qTN13,true),(qTN10,false),(qTN16,false)],some [(.app 200 [qTN0],.app 200 [qTN0])]),
 ([(qTN13,false),(qTN10,false),(qTN16,false)],none)]
theorem cTnE_w (r : Rho) : cTnE_con.fn.ways cTnE_call E0 r cTnE_con.pre cTnE_t = some cTnE_l:=by kernel_rfl
theorem cTnE_cok : cTnE_con.Ok Tryz.prog sy:=by
 intro r σ w us hsy hρ hpre hrel hins
 obtain ⟨u0,us,rfl,g0,hi⟩:=zf hins
 obtain ⟨u1,us,rfl,g1,hi1⟩:=zf hi
 obtain ⟨x,kx,rfl,hx⟩:=rat_agg (v:=3) g1
 rw [hρ] at hx
 have a0:=hx.h0
 have a1:=hx.h1
 have a2:=hx.h2
 have a3:=hx.h3
 have a4:=hx.h4
 have a5:=hx.h5
 have a6:=hx.h6
 have a7:=hx.h7
 have a8:=hx.h8
 simp only [Nat.reduceAdd] at a0 a1 a2 a3 a4 a5 a6 a7 a8
 have hgx : (x.goods.size : Int)≤100:=by
  have:=hpre.1
  simp only [gB,za,gW,zh,a3,Option.some.injEq,Value.bool.injEq,decide_eq_false_iff_not] at this
  omega
 have hxx : (⟨x.id,x.known,x.from_,x.goods,x.num,x.den,x.cart,x.store,x.of_⟩ : Rat9) = x:=rfl
 have hok : okR9 [x] = true:=ok_snoc (l:=[]) rfl hgx (by simp)
 obtain ⟨u2,us,rfl,g2,hi2⟩:=zf hi1
 obtain ⟨g,rfl,h12⟩:=yz g2
 rw [hρ] at h12
 have hbl : (zQ (zi (zk [x]))).length≤1:=beg_len [x]
 refine zX (E:=E0) zU zG (sy:=sy) (fun F => LNQ_ok F hsy) (fun F => yP) (cTnE_w r) hρ hpre hrel hins ?_ ?_
 ·simp only [cTnE_con,cTnE_t,gA,gB,za,gW,zh,yc,a0,a1,a2,a3,a4,a5,a6,a7,a8,h12,hsy,zl,zx,zg,zu,yD,z7,z6,yf,ye,yd,hxx,hok]
  try simp
 ·simp only [cTnE_l,gE,dZ,gB,za,g3,gW,zh,yc,List.nil_append,a0,a1,a2,a3,a4,a5,a6,a7,a8,h12,hsy,zl,zx,zg,zu,yD,z7,z6,yf,ye,yd,hxx,hok]
  try simp
  try omega
noncomputable def cTnN_con : Con:={ f:=11,args:=[.nils,.agg [.int .i64 3,.int .i64 4,.int .i64 5,.str 6,.int .i64 7,.int .i64 8,.int .i64 9,.int .i64 10,.int .i64 11],.one (.str 12)],N:=1,M:=1,pre:=[(qTN10,false),(qTN26,true),(.app 202 [qTN1],true),(.op2 .lt (.num 0) (.op1 .len qTN1),true),(qTN25,false)],out:=.tuple [.int .i64 0,.int .i64 0,.bool false,.int .i64 0],news:=[] }
noncomputable def cTnN_call : Env→yC:=fun E => zw E (evH E (LNQ E) ((fun E => oneH 11 (yR [(6,lTn_D.hook E.facts tn_vs)])) E) 12)
noncomputable def cTnN_t : GTree:=(.fork qTN17 .bad (.fork qTN21 .bad (.leaf [[]])))
noncomputable def cTnN_l : List (List (X×Bool)×Option zo):=[((qTN17,true) :: qTNf1,none),
 ((qTN21,true) :: (qTN17,false) :: qTNf1,none),
 ((qTN21,false) :: (qTN17,false) :: qTNf1,some [])]
theorem cTnN_w (r : Rho) : cTnN_con.fn.ways cTnN_call E0 r cTnN_con.pre cTnN_t = some cTnN_l:=by kernel_rfl
theorem cTnN_cok : cTnN_con.Ok Tryz.prog sy:=by
 intro r σ w us hsy hρ hpre hrel hins
 obtain ⟨u0,us,rfl,g0,hi⟩:=zf hins
 obtain ⟨u1,us,rfl,g1,hi1⟩:=zf hi
 obtain ⟨x,kx,rfl,hx⟩:=rat_agg (v:=3) g1
 rw [hρ] at hx
 have a0:=hx.h0
 have a1:=hx.h1
 have a2:=hx.h2
 have a3:=hx.h3
 have a4:=hx.h4
 have a5:=hx.h5
 have a6:=hx.h6
 have a7:=hx.h7
 have a8:=hx.h8
 simp only [Nat.reduceAdd] at a0 a1 a2 a3 a4 a5 a6 a7 a8
 have hgx : (x.goods.size : Int)≤100:=by
  have:=hpre.1
  simp only [gB,za,gW,zh,a3,Option.some.injEq,Value.bool.injEq,decide_eq_false_iff_not] at this
  omega
 have hxx : (⟨x.id,x.known,x.from_,x.goods,x.num,x.den,x.cart,x.store,x.of_⟩ : Rat9) = x:=rfl
 have hok : okR9 [x] = true:=ok_snoc (l:=[]) rfl hgx (by simp)
 obtain ⟨u2,us,rfl,g2,hi2⟩:=zf hi1
 obtain ⟨g,rfl,h12⟩:=yz g2
 rw [hρ] at h12
 have hbl : (zQ (zi (zk [x]))).length≤1:=beg_len [x]
 refine zX (E:=E0) zU zG (sy:=sy) (fun F => LNQ_ok F hsy) (fun F => lTn_H hx h12 hsy hok F) (cTnN_w r) hρ hpre hrel hins ?_ ?_
 ·simp only [cTnN_con,cTnN_t,gA,gB,za,gW,zh,yc,a0,a1,a2,a3,a4,a5,a6,a7,a8,h12,hsy,zl,zx,zg,zu,yD,z7,z6,yf,ye,yd,hxx,hok]
  try simp
 ·simp only [cTnN_l,gE,dZ,gB,za,g3,gW,zh,yc,List.nil_append,a0,a1,a2,a3,a4,a5,a6,a7,a8,h12,hsy,zl,zx,zg,zu,yD,z7,z6,yf,ye,yd,hxx,hok]
  try simp
  try omega
noncomputable def cTnY_con : Con:={ f:=11,args:=[.nils,.agg [.int .i64 3,.int .i64 4,.int .i64 5,.str 6,.int .i64 7,.int .i64 8,.int .i64 9,.int .i64 10,.int .i64 11],.one (.str 12)],N:=1,M:=1,pre:=[(qTN10,false),(qTN26,true),(.app 202 [qTN1],true),(.op2 .lt (.num 0) (.op1 .len qTN1),true),(qTN25,true)],out:=.tuple [.sint .i64 (.app 211 [.nil,qTN1,.var 12,.var 4]),.sint .i64 (.app 212 [.nil,qTN1,.var 12,.var 4]),.bool true,.int .i64 0],news:=[] }
noncomputable def cTnY_call : Env→yC:=fun E => zw E (evH E (LNQ E) ((fun E => oneH 11 (yR [(6,lTn_D.hook E.facts tn_vs)])) E) 12)
noncomputable def cTnY_t : GTree:=(.fork qTN17 .bad (.fork qTN21 .bad (.leaf [[]])))
noncomputable def cTnY_l : List (List (X×Bool)×Option zo):=[((qTN17,true) :: qTNf2,none),
 ((qTN21,true) :: (qTN17,false) :: qTNf2,none),
 ((qTN21,false) :: (qTN17,false) :: qTNf2,some [(qTN22,qTN22),(qTN23,qTN23)])]
theorem cTnY_w (r : Rho) : cTnY_con.fn.ways cTnY_call E0 r cTnY_con.pre cTnY_t = some cTnY_l:=by kernel_rfl
theorem cTnY_cok : cTnY_con.Ok Tryz.prog sy:=by
 intro r σ w us hsy hρ hpre hrel hins
 obtain ⟨u0,us,rfl,g0,hi⟩:=zf hins
 obtain ⟨u1,us,rfl,g1,hi1⟩:=zf hi
 obtain ⟨x,kx,rfl,hx⟩:=rat_agg (v:=3) g1
 rw [hρ] at hx
 have a0:=hx.h0
 have a1:=hx.h1
 have a2:=hx.h2
 have a3:=hx.h3
 have a4:=hx.h4
 have a5:=hx.h5
 have a6:=hx.h6
 have a7:=hx.h7
 have a8:=hx.h8
 simp only [Nat.reduceAdd] at a0 a1 a2 a3 a4 a5 a6 a7 a8
 have hgx : (x.goods.size : Int)≤100:=by
  have:=hpre.1
  simp only [gB,za,gW,zh,a3,Option.some.injEq,Value.bool.injEq,decide_eq_false_iff_not] at this
  omega
 have hxx : (⟨x.id,x.known,x.from_,x.goods,x.num,x.den,x.cart,x.store,x.of_⟩ : Rat9) = x:=rfl
 have hok : okR9 [x] = true:=ok_snoc (l:=[]) rfl hgx (by simp)
 obtain ⟨u2,us,rfl,g2,hi2⟩:=zf hi1
 obtain ⟨g,rfl,h12⟩:=yz g2
 rw [hρ] at h12
 have hbl : (zQ (zi (zk [x]))).length≤1:=beg_len [x]
 refine zX (E:=E0) zU zG (sy:=sy) (fun F => LNQ_ok F hsy) (fun F => lTn_H hx h12 hsy hok F) (cTnY_w r) hρ hpre hrel hins ?_ ?_
 ·simp only [cTnY_con,cTnY_t,gA,gB,za,gW,zh,yc,a0,a1,a2,a3,a4,a5,a6,a7,a8,h12,hsy,zl,zx,zg,zu,yD,z7,z6,yf,ye,yd,hxx,hok]
  try simp
 ·simp only [cTnY_l,gE,dZ,gB,za,g3,gW,zh,yc,List.nil_append,a0,a1,a2,a3,a4,a5,a6,a7,a8,h12,hsy,zl,zx,zg,zu,yD,z7,z6,yf,ye,yd,hxx,hok]
  try simp
  try omega
open Go
noncomputable def LNU : Env→yi:=libs [cLib rCks_con,cLib rHrO_con,cLib rHrY_con,cLib rId_con]
theorem LNU_ok (F : List (X×Bool)) {r : Rho} (h : r.sym = sy) : zt (E0.with F r) (LNU (E0.with F r)):=yU fun c hc => by
 simp only [List.mem_cons,List.not_mem_nil,or_false] at hc
 rcases hc with rfl | rfl | rfl | rfl
 ·exact zH (E:=E0) rCks_cok F h
 ·exact zH (E:=E0) rHrO_cok F h
 ·exact zH (E:=E0) rHrY_cok F h
 ·exact zH (E:=E0) rId_cok F h
def un_vs : List X:=[.num 0,.num 0,.num 0]
abbrev qUN0 : X:=.snoc .nil [.op1 (.kind .i64) (.var 3),.op1 (.kind .i64) (.var 4),.op1 (.kind .i64) (.var 5),.var 6,.op1 (.kind .i64) (.var 7),.op1 (.kind .i64) (.var 8),.op1 (.kind .i64) (.var 9),.op1 (.kind .i64) (.var 10),.op1 (.kind .i64) (.var 11)]
abbrev qUN1 : X:=.snoc .nil [.op1 (.kind .i64) (.var 3),.op1 (.kind .i64) (.var 4),.op1 (.kind .i64) (.var 5),.var 6,.op1 (.kind .i64) (.var 7),.op1 (.kind .i64) (.var 8),.op1 (.kind .i64) (.var 9),.op1 (.kind .i64) (.var 10),.op1 (.kind .i64) (.var 11)]
abbrev qUN2 : X:=.snoc (.app 216 [qUN0]) [.op1 (.kind .i64) (.num 1000001)]
abbrev qUN3 : X:=.op1 (.wrap .i64) (.op2 .add (.var 100) (.num 1))
abbrev qUN4 : X:=.op2 .add (.op1 .len (.app 216 [qUN0])) (.num 1)
abbrev qUN5 : X:=.op2 .eq (.num 0) (.app 205 [qUN0,.var 12,.cell 0 qUN2 (.var 100),.var 4,.num 0])
abbrev qUN6 : X:=.op2 .eq (.app 200 [qUN0]) (.num 0)
abbrev qUN7 : X:=.op2 .lt (.num 100) (.op1 .slen (.var 6))
abbrev qUN8 : X:=.op2 .eq (.op1 .len (.app 216 [qUN0])) (.num 1)
abbrev qUN9 : X:=.op2 .lt (.var 100) (.num 0)
abbrev qUN10 : X:=.op2 .eq (.num 0) (.app 205 [qUN0,.var 12,.num 0,.var 4,.num 0])
abbrev qUN11 : X:=.op2 .lt (.var 100) (.op1 .len qUN2)
abbrev qUN12 : X:=.app 213 [.nil,qUN0,.var 12,.var 4]
abbrev qUN13 : X:=.app 202 [qUN0]
abbrev qUN14 : X:=.op2 .lt (.var 100) qUN4
abbrev qUN15 : X:=.app 211 [.nil,qUN0,.var 12,.var 4]
abbrev qUN16 : X:=.app 212 [.nil,qUN0,.var 12,.var 4]
abbrev qUN17 : X:=.op2 .lt qUN3 qUN4
abbrev qUN18 : X:=.op2 .eq (.app 200 [qUN1]) (.num 0)
abbrev qUN19 : X:=.op2 .lt (.num 1000000000) qUN4
abbrev qUN20 : X:=.op2 .lt qUN3 (.op1 .len qUN2)
abbrev qUN21 : X:=.op2 .lt qUN3 (.num 0)
abbrev qUN22 : X:=.app 213 [.nil,qUN1,.var 12,.var 4]
abbrev qUNf3 : List (X×Bool):=[(qUN13,true),(qUN6,true),(qUN9,false)]
abbrev qUNf0 : List (X×Bool):=(qUN14,true) :: (qUN17,true) :: qUNf3
abbrev qUNf1 : List (X×Bool):=[(qUN7,false),(qUN6,true),(qUN13,true),(qUN12,false)]
abbrev qUNf2 : List (X×Bool):=[(qUN7,false),(qUN6,true),(qUN13,true),(qUN12,true)]
abbrev qUNf4 : List (X×Bool):=(qUN5,false) :: (qUN11,true) :: qUNf0
noncomputable def lUn_D : LoopD:={ N:=100,M:=111,size:=Zk 12,reads:=[(5,.rows 9 ratSch (.num 0) qUN1 true 26),(1,.cells [.sint .i64 (.var 3),.sint .i64 (.var 4),.sint .i64 (.var 5),.sstr (.var 6),.sint .i64 (.var 7),.sint .i64 (.var 8),.sint .i64 (.var 9),.sint .i64 (.var 10),.sint .i64 (.var 11)] 26),(8,.rows 1 [.int .i64] (.num 0) (.snoc (.app 216 [qUN1]) [.op1 (.kind .i64) (.num 1000001)]) true 3)],pats:=[{ slots:=[(0,.nilslice),(2,.sstr (.var 12)),(4,.ptr 1 0),(10,.slo 5 9 (.num 1)),(12,.slo 8 1 (.op2 .add (.op1 .len (.app 216 [qUN1])) (.num 1))),(16,.sint .i64 (.var 100)),(13,.int .i64 0),(14,.int .i64 0),(15,.bool false)],heap:=[] },{ slots:=[(0,.nilslice),(2,.sstr (.var 12)),(4,.ptr 1 0),(10,.slo 5 9 (.num 1)),(12,.slo 8 1 (.op2 .add (.op1 .len (.app 216 [qUN1])) (.num 1))),(16,.sint .i64 (.var 100)),(13,.sint .i64 (.var 101)),(14,.sint .i64 (.var 102)),(15,.bool true)],heap:=[] }],exits:=[(.exit 0,{ slots:=[(13,.int .i64 0),(14,.int .i64 0),(15,.bool false)],heap:=[],guard:=.op1 .not qUN22 }),(.exit 0,{ slots:=[(13,.sint .i64 (.app 211 [.nil,qUN1,.var 12,.var 4])),(14,.sint .i64 (.app 212 [.nil,qUN1,.var 12,.var 4])),(15,.bool true)],heap:=[],guard:=.app 213 [.nil,qUN1,.var 12,.var 4] })],own:=[],pre:=[(.app 202 [qUN1],true),(qUN18,true)],dfs:=[] }
noncomputable def lUn_run : Env→AF→ASt→Option (List Out):=Zh LNU 9 (fun _ => Zl) (yh Tryz.prog 12 0)
def lUn0_F : List (X×Bool):=[(.app 202 [qUN1],true),(qUN18,true),(qUN9,false)]
def lUn1_F : List (X×Bool):=[(.app 202 [qUN1],true),(qUN18,true),(qUN9,false)]
noncomputable def lUn0_t : FTree:=(.fork qUN17 (.fork qUN14 (.fork qUN11 (.fork qUN5 (.leaf [.again 0 []]) (.fork qUN21 .bad (.fork qUN20 (.leaf [.again 1 []]) .bad))) .bad) .bad) (.leaf [.leave 0 []]))
noncomputable def lUn0_l : List (List (X×Bool)×Option (List (Tgt×zo))):=[((qUN5,true) :: (qUN11,true) :: qUNf0,some [(.again 0 [],[(.var 100,qUN3)])]),
 ((qUN21,true) :: qUNf4,none),
 ((qUN20,true) :: (qUN21,false) :: qUNf4,some [(.again 1 [],[(.var 100,qUN3),(.var 101,.cell 0 qUN2 (.var 100)),(.var 102,.op1 (.wrap .i64) (.op2 .sub (.cell 0 qUN2 qUN3) (.num 1)))])]),
 ((qUN20,false) :: (qUN21,false) :: qUNf4,none),
 ((qUN11,false) :: qUNf0,none),
 ((qUN14,false) :: (qUN17,true) :: qUNf3,none),
 ((qUN17,false) :: qUNf3,some [(.leave 0 [],[(.op1 .not qUN12,.boo true)])])]
theorem lUn0_w (r : Rho) : lUn_D.ways lUn_run E0 r 0 lUn0_F lUn0_t = some lUn0_l:=by kernel_rfl
noncomputable def lUn1_t : FTree:=(.fork qUN17 (.fork qUN14 (.fork qUN11 (.fork qUN5 (.leaf [.again 1 []]) (.fork qUN21 .bad (.fork qUN20 (.leaf [.again 1 []]) .bad))) .bad) .bad) (.leaf [.leave 1 []]))
noncomputable def lUn1_l : List (List (X×Bool)×Option (List (Tgt×zo))):=[((qUN5,true) :: (qUN11,true) :: qUNf0,some [(.again 1 [],[(.var 100,qUN3),(.var 101,.var 101),(.var 102,.var 102)])]),
 ((qUN21,true) :: qUNf4,none),
 ((qUN20,true) :: (qUN21,false) :: qUNf4,some [(.again 1 [],[(.var 100,qUN3),(.var 101,.var 101),(.var 102,.op1 (.wrap .i64) (.op2 .sub (.cell 0 qUN2 qUN3) (.num 1)))])]),
 ((qUN20,false) :: (qUN21,false) :: qUNf4,none),
 ((qUN11,false) :: qUNf0,none),
 ((qUN14,false) :: (qUN17,true) :: qUNf3,none),
 ((qUN17,false) :: qUNf3,some [(.leave 1 [],[(qUN15,.var 101),(qUN16,.var 102),(qUN12,.boo true)])])]
theorem lUn1_w (r : Rho) : lUn_D.ways lUn_run E0 r 1 lUn1_F lUn1_t = some lUn1_l:=by kernel_rfl
theorem lUn_ok : lUn_D.ok = true:=by kernel_rfl
def lUn_Inv (x : Rat9) (g : ByteArray) (j : Nat) (vals : List Value) : Prop:=
 ∃ i : Nat,i≤(hrsR [x]).length∧((j = 0∧vals = [.int .i64 (i : Int),.int .i64 0,.int .i64 0]∧(tchG (zr [x]) [] [x] g x.known i).is = false)∨(j = 1∧vals = [.int .i64 (i : Int),.int .i64 (tchG (zr [x]) [] [x] g x.known i).from_,.int .i64 (tchG (zr [x]) [] [x] g x.known i).until_]∧(tchG (zr [x]) [] [x] g x.known i).is = true))
def lUn_mu (b : List Who) (_ : Nat) (vals : List Value) : Nat:=b.length - (vI (vals.getD 0 default)).toNat
theorem lUn_step0 {ρ : Rho} {x : Rat9} {kx : Nat→IntKind} {g : ByteArray} (hx : Rat9At ρ 3 kx x) (h12 : ρ.val 12 = some (.string g)) (hsy : ρ.sym = sy) (hok : okR9 [x] = true) (hc2 : yy [x] = 0) {i : Nat} (hi : i≤(hrsR [x]).length) (hn : (tchG (zr [x]) [] [x] g x.known i).is = false) : yI lUn_D lUn_run E0 ρ (lUn_Inv x g) (lUn_mu (hrsR [x])) 0 [.int .i64 (i : Int),.int .i64 0,.int .i64 0]:=by
 have hN : lUn_D.N = 100:=rfl
 have hmax:=ok_len hok
 have hbl:=hrs_len [x]
 have hxx : (⟨x.id,x.known,x.from_,x.goods,x.num,x.den,x.cart,x.store,x.of_⟩ : Rat9) = x:=rfl
 have hll : (((hrsR [x]) ++ [(⟨1000001⟩ : Who)]).length : Int) = ((hrsR [x]).length : Int) + 1:=by simp
 have xl {jq vq}:=@xL ρ lUn_D.N 100 [.int .i64 (i : Int),.int .i64 0,.int .i64 0] jq vq hN
 have xh {jq vq}:=@xH ρ lUn_D.N 100 [.int .i64 (i : Int),.int .i64 0,.int .i64 0] jq vq hN
 have v3:=xl (jq:=3) hx.h0 (by decide)
 have v4:=xl (jq:=4) hx.h1 (by decide)
 have v5:=xl (jq:=5) hx.h2 (by decide)
 have v6:=xl (jq:=6) hx.h3 (by decide)
 have v7:=xl (jq:=7) hx.h4 (by decide)
 have v8:=xl (jq:=8) hx.h5 (by decide)
 have v9:=xl (jq:=9) hx.h6 (by decide)
 have v10:=xl (jq:=10) hx.h7 (by decide)
 have v11:=xl (jq:=11) hx.h8 (by decide)
 have v12:=xl (jq:=12) h12 (by decide)
 have v100:=xh (jq:=100) (vq:=.int .i64 (i : Int)) rfl (by decide)
 have v101:=xh (jq:=101) (vq:=.int .i64 0) rfl (by decide)
 have v102:=xh (jq:=102) (vq:=.int .i64 0) rfl (by decide)
 have vs : (ρ.ext lUn_D.N [.int .i64 (i : Int),.int .i64 0,.int .i64 0]).sym = sy:=hsy
 have hF : zp (ρ.ext lUn_D.N [.int .i64 (i : Int),.int .i64 0,.int .i64 0]) lUn0_F:=by
  simp only [lUn0_F,zp,gB,za,gW,zh,yc,List.nil_append,v3,v4,v5,v6,v7,v8,v9,v10,v11,v12,v100,v101,v102,vs,hxx,zg,zl,hok,hc2,beq_self_eq_true,Option.some.injEq,Value.bool.injEq,decide_eq_false_iff_not,and_true,true_and]
  omega
 suffices both : Zp (ρ.ext lUn_D.N [.int .i64 (i : Int),.int .i64 0,.int .i64 0]) (lUn0_t.asks lUn0_F)∧zR lUn_D ρ (lUn_Inv x g) (lUn_mu (hrsR [x])) 0 [.int .i64 (i : Int),.int .i64 0,.int .i64 0] lUn0_l from zD (lUn0_w _) hF both.1.ok both.2
 cases hp : (hrsR [x])[i]? with
 | none =>
   have hge:=List.getElem?_eq_none_iff.1 hp
   have hge' : ¬ ((i + 1 : Nat) : Int) < ((hrsR [x]).length : Int) + 1:=by omega
   have hw : IntKind.i64.wrap ((i : Int) + 1) = ((i + 1 : Nat) : Int):=by rw [IntWalk.i64_in _ (by omega)]; rfl
   have hT : (tchG (zr [x]) [] [x] g x.known i) = tch [] [x] g x.known:=by
    have : i = (hrsR [x]).length:=by omega
    rw [this]; exact tch_ref (l:=[]) (fun y hy => (ok_froms hc2 y hy).1) g x.known
   refine ⟨?_,?_⟩
   ·simp only [lUn0_t,lUn0_F,gA,gB,za,gW,zh,yc,v3,v4,v5,v6,v7,v8,v9,v10,v11,v12,v100,v101,v102,vs,hxx,zl,zx,zg,zu,yp,yf,ye,yd,hok,hc2,Int.toNat_natCast,hp,hw,hll,hge']
    try simp
   ·simp only [lUn0_l,gE,dZ,gB,za,g3,gW,zh,yc,List.nil_append,v3,v4,v5,v6,v7,v8,v9,v10,v11,v12,v100,v101,v102,vs,h12,hx.h0,hx.h1,hx.h2,hx.h3,hx.h4,hx.h5,hx.h6,hx.h7,hx.h8,hsy,hxx,zl,zx,zg,zu,yp,yf,ye,yd,hok,hc2,Int.toNat_natCast,hp,hw,hll,hge',reduceCtorEq,gR]
    rw [hT] at hn
    try simp only [hT]
    simp [hn]
 | some w =>
   have hil : i < (hrsR [x]).length:=(List.getElem?_eq_some_iff.1 hp).1
   have hil1 : (i : Int) < (hrsR [x]).length:=by omega
   have hil2 : (i : Int) < ((hrsR [x]).length : Int) + 1:=by omega
   have hil3 : ((i + 1 : Nat) : Int) < ((hrsR [x]).length : Int) + 1:=by omega
   have hil4 : ¬ ((i + 1 : Nat) : Int) < 0:=by omega
   have hp1 : ((hrsR [x]) ++ [(⟨1000001⟩ : Who)])[i]? = some w:=by rw [List.getElem?_append_left hil]; exact hp
   obtain ⟨w2,hp2⟩ : ∃ w2,((hrsR [x]) ++ [(⟨1000001⟩ : Who)])[i + 1]? = some w2:=⟨_,List.getElem?_eq_getElem (by simp; omega)⟩
   have hw : IntKind.i64.wrap ((i : Int) + 1) = ((i + 1 : Nat) : Int):=by rw [IntWalk.i64_in _ (by omega)]; rfl
   have hid2 : zb [x] g w.n x.known 0 = some (.int .i64 (idAt [x] g w.n x.known)):=rfl
   have hnext : (tchG (zr [x]) [] [x] g x.known (i + 1)) = yb [] [x] g x.known (tchG (zr [x]) [] [x] g x.known i) w.n w2.n:=by
    have g1 : (zr [x]).getD i ⟨0⟩ = w:=by rw [List.getD_eq_getElem?_getD]; show (((hrsR [x]) ++ [(⟨1000001⟩ : Who)])[i]?).getD _ = w; rw [hp1]; rfl
    have g2 : (zr [x]).getD (i + 1) ⟨0⟩ = w2:=by rw [List.getD_eq_getElem?_getD]; show (((hrsR [x]) ++ [(⟨1000001⟩ : Who)])[i + 1]?).getD _ = w2; rw [hp2]; rfl
    show yb [] [x] g x.known (tchG (zr [x]) [] [x] g x.known i) ((zr [x]).getD i ⟨0⟩).n ((zr [x]).getD (i + 1) ⟨0⟩).n = _
    rw [g1,g2]
   have goC : ¬ (0 : Int) = idAt [x] g w.n x.known→∃ vals',((ρ.ext lUn_D.N vals').val 100 = some (.int .i64 ((i + 1 : Nat) : Int))∧(ρ.ext lUn_D.N vals').val 101 = some (.int .i64 (w.n))∧(ρ.ext lUn_D.N vals').val 102 = some (.int .i64 (IntKind.i64.wrap (w2.n - 1))))∧lUn_Inv x g 1 vals'∧lUn_mu (hrsR [x]) 1 vals' < lUn_mu (hrsR [x]) 0 [.int .i64 (i : Int),.int .i64 0,.int .i64 0]:=by
    intro hc
    have e2 : (tchG (zr [x]) [] [x] g x.known (i + 1)) = ⟨w.n,IntKind.i64.wrap (w2.n - 1),true⟩:=by rw [hnext]; unfold yb; rw [show idAt [] g w.n x.known = 0 from rfl,if_neg hc,hn]; rfl
    refine ⟨[.int .i64 ((i + 1 : Nat) : Int),.int .i64 (tchG (zr [x]) [] [x] g x.known (i + 1)).from_,.int .i64 (tchG (zr [x]) [] [x] g x.known (i + 1)).until_],⟨?_,?_,?_⟩,⟨i + 1,by omega,.inr ⟨rfl,rfl,by rw [e2]⟩⟩,by simp [lUn_mu,vI]; omega⟩
    ·exact xH hN rfl (by decide)
    ·rw [yn _ _ _ _ (by rw [hN]; omega)]; exact (congrArg (fun t : Tch => some (Value.int .i64 t.from_)) e2 :)
    ·rw [yn _ _ _ _ (by rw [hN]; omega)]; exact (congrArg (fun t : Tch => some (Value.int .i64 t.until_)) e2 :)
   have goS : (0 : Int) = idAt [x] g w.n x.known→∃ vals',(ρ.ext lUn_D.N vals').val 100 = some (.int .i64 ((i + 1 : Nat) : Int))∧lUn_Inv x g 0 vals'∧lUn_mu (hrsR [x]) 0 vals' < lUn_mu (hrsR [x]) 0 [.int .i64 (i : Int),.int .i64 0,.int .i64 0]:=by
    intro hc
    have e2 : (tchG (zr [x]) [] [x] g x.known (i + 1)) = (tchG (zr [x]) [] [x] g x.known i):=by rw [hnext]; unfold yb; rw [show idAt [] g w.n x.known = 0 from rfl,if_pos hc]
    refine ⟨[.int .i64 ((i + 1 : Nat) : Int),.int .i64 0,.int .i64 0],?_,⟨i + 1,by omega,.inl ⟨rfl,rfl,by rw [e2]; exact hn⟩⟩,by simp [lUn_mu,vI]; omega⟩
    exact xH hN rfl (by decide)
   refine ⟨?_,?_⟩
   all_goals (simp only [lUn0_t,lUn0_F,lUn0_l,gA,gB,za,gW,zh,yc,yq,zR,zB,zI,Zn,Zo,zT,zY,dZ,g3,v3,v4,v5,v6,v7,v8,v9,v10,v11,v12,v100,v101,v102,vs,h12,hsy,hxx,zl,zx,zg,zu,yp,yf,ye,yd,hok,hc2,Int.toNat_natCast,hp,hp1,hp2,hll,Option.bind_some,who0,hid2,hil1,hil2,hil3,hil4,hw,reduceCtorEq,Bool.false_eq_true,false_implies,true_implies,and_true,true_and])
   all_goals (clear v3 v4 v5 v6 v7 v8 v9 v10 v11 v12 v100 v101 v102 vs h12 hx hsy hF)
   all_goals ((repeat' apply And.intro) <;> intros <;> first
    | trivial
    | contradiction
    | (exact goS (by assumption))
    | (exact goC (by assumption))
    | (exfalso; omega)
    | (simp_all; done))
theorem lUn_step1 {ρ : Rho} {x : Rat9} {kx : Nat→IntKind} {g : ByteArray} (hx : Rat9At ρ 3 kx x) (h12 : ρ.val 12 = some (.string g)) (hsy : ρ.sym = sy) (hok : okR9 [x] = true) (hc2 : yy [x] = 0) {i : Nat} (hi : i≤(hrsR [x]).length) (hn : (tchG (zr [x]) [] [x] g x.known i).is = true) : yI lUn_D lUn_run E0 ρ (lUn_Inv x g) (lUn_mu (hrsR [x])) 1 [.int .i64 (i : Int),.int .i64 (tchG (zr [x]) [] [x] g x.known i).from_,.int .i64 (tchG (zr [x]) [] [x] g x.known i).until_]:=by
 have hN : lUn_D.N = 100:=rfl
 have hmax:=ok_len hok
 have hbl:=hrs_len [x]
 have hxx : (⟨x.id,x.known,x.from_,x.goods,x.num,x.den,x.cart,x.store,x.of_⟩ : Rat9) = x:=rfl
 have hll : (((hrsR [x]) ++ [(⟨1000001⟩ : Who)]).length : Int) = ((hrsR [x]).length : Int) + 1:=by simp
 have xl {jq vq}:=@xL ρ lUn_D.N 100 [.int .i64 (i : Int),.int .i64 (tchG (zr [x]) [] [x] g x.known i).from_,.int .i64 (tchG (zr [x]) [] [x] g x.known i).until_] jq vq hN
 have xh {jq vq}:=@xH ρ lUn_D.N 100 [.int .i64 (i : Int),.int .i64 (tchG (zr [x]) [] [x] g x.known i).from_,.int .i64 (tchG (zr [x]) [] [x] g x.known i).until_] jq vq hN
 have v3:=xl (jq:=3) hx.h0 (by decide)
 have v4:=xl (jq:=4) hx.h1 (by decide)
 have v5:=xl (jq:=5) hx.h2 (by decide)
 have v6:=xl (jq:=6) hx.h3 (by decide)
 have v7:=xl (jq:=7) hx.h4 (by decide)
 have v8:=xl (jq:=8) hx.h5 (by decide)
 have v9:=xl (jq:=9) hx.h6 (by decide)
 have v10:=xl (jq:=10) hx.h7 (by decide)
 have v11:=xl (jq:=11) hx.h8 (by decide)
 have v12:=xl (jq:=12) h12 (by decide)
 have v100:=xh (jq:=100) (vq:=.int .i64 (i : Int)) rfl (by decide)
 have v101:=xh (jq:=101) (vq:=.int .i64 (tchG (zr [x]) [] [x] g x.known i).from_) rfl (by decide)
 have v102:=xh (jq:=102) (vq:=.int .i64 (tchG (zr [x]) [] [x] g x.known i).until_) rfl (by decide)
 have vs : (ρ.ext lUn_D.N [.int .i64 (i : Int),.int .i64 (tchG (zr [x]) [] [x] g x.known i).from_,.int .i64 (tchG (zr [x]) [] [x] g x.known i).until_]).sym = sy:=hsy
 have hF : zp (ρ.ext lUn_D.N [.int .i64 (i : Int),.int .i64 (tchG (zr [x]) [] [x] g x.known i).from_,.int .i64 (tchG (zr [x]) [] [x] g x.known i).until_]) lUn1_F:=by
  simp only [lUn1_F,zp,gB,za,gW,zh,yc,List.nil_append,v3,v4,v5,v6,v7,v8,v9,v10,v11,v12,v100,v101,v102,vs,hxx,zg,zl,hok,hc2,beq_self_eq_true,Option.some.injEq,Value.bool.injEq,decide_eq_false_iff_not,and_true,true_and]
  omega
 suffices both : Zp (ρ.ext lUn_D.N [.int .i64 (i : Int),.int .i64 (tchG (zr [x]) [] [x] g x.known i).from_,.int .i64 (tchG (zr [x]) [] [x] g x.known i).until_]) (lUn1_t.asks lUn1_F)∧zR lUn_D ρ (lUn_Inv x g) (lUn_mu (hrsR [x])) 1 [.int .i64 (i : Int),.int .i64 (tchG (zr [x]) [] [x] g x.known i).from_,.int .i64 (tchG (zr [x]) [] [x] g x.known i).until_] lUn1_l from zD (lUn1_w _) hF both.1.ok both.2
 cases hp : (hrsR [x])[i]? with
 | none =>
   have hge:=List.getElem?_eq_none_iff.1 hp
   have hge' : ¬ ((i + 1 : Nat) : Int) < ((hrsR [x]).length : Int) + 1:=by omega
   have hw : IntKind.i64.wrap ((i : Int) + 1) = ((i + 1 : Nat) : Int):=by rw [IntWalk.i64_in _ (by omega)]; rfl
   have hT : (tchG (zr [x]) [] [x] g x.known i) = tch [] [x] g x.known:=by
    have : i = (hrsR [x]).length:=by omega
    rw [this]; exact tch_ref (l:=[]) (fun y hy => (ok_froms hc2 y hy).1) g x.known
   refine ⟨?_,?_⟩
   ·simp only [lUn1_t,lUn1_F,gA,gB,za,gW,zh,yc,v3,v4,v5,v6,v7,v8,v9,v10,v11,v12,v100,v101,v102,vs,hxx,zl,zx,zg,zu,yp,yf,ye,yd,hok,hc2,Int.toNat_natCast,hp,hw,hll,hge']
    try simp
   ·simp only [lUn1_l,gE,dZ,gB,za,g3,gW,zh,yc,List.nil_append,v3,v4,v5,v6,v7,v8,v9,v10,v11,v12,v100,v101,v102,vs,h12,hx.h0,hx.h1,hx.h2,hx.h3,hx.h4,hx.h5,hx.h6,hx.h7,hx.h8,hsy,hxx,zl,zx,zg,zu,yp,yf,ye,yd,hok,hc2,Int.toNat_natCast,hp,hw,hll,hge',reduceCtorEq,gR]
    rw [hT] at hn
    try simp only [hT]
    simp [hn]
 | some w =>
   have hil : i < (hrsR [x]).length:=(List.getElem?_eq_some_iff.1 hp).1
   have hil1 : (i : Int) < (hrsR [x]).length:=by omega
   have hil2 : (i : Int) < ((hrsR [x]).length : Int) + 1:=by omega
   have hil3 : ((i + 1 : Nat) : Int) < ((hrsR [x]).length : Int) + 1:=by omega
   have hil4 : ¬ ((i + 1 : Nat) : Int) < 0:=by omega
   have hp1 : ((hrsR [x]) ++ [(⟨1000001⟩ : Who)])[i]? = some w:=by rw [List.getElem?_append_left hil]; exact hp
   obtain ⟨w2,hp2⟩ : ∃ w2,((hrsR [x]) ++ [(⟨1000001⟩ : Who)])[i + 1]? = some w2:=⟨_,List.getElem?_eq_getElem (by simp; omega)⟩
   have hw : IntKind.i64.wrap ((i : Int) + 1) = ((i + 1 : Nat) : Int):=by rw [IntWalk.i64_in _ (by omega)]; rfl
   have hid2 : zb [x] g w.n x.known 0 = some (.int .i64 (idAt [x] g w.n x.known)):=rfl
   have hnext : (tchG (zr [x]) [] [x] g x.known (i + 1)) = yb [] [x] g x.known (tchG (zr [x]) [] [x] g x.known i) w.n w2.n:=by
    have g1 : (zr [x]).getD i ⟨0⟩ = w:=by rw [List.getD_eq_getElem?_getD]; show (((hrsR [x]) ++ [(⟨1000001⟩ : Who)])[i]?).getD _ = w; rw [hp1]; rfl
    have g2 : (zr [x]).getD (i + 1) ⟨0⟩ = w2:=by rw [List.getD_eq_getElem?_getD]; show (((hrsR [x]) ++ [(⟨1000001⟩ : Who)])[i + 1]?).getD _ = w2; rw [hp2]; rfl
    show yb [] [x] g x.known (tchG (zr [x]) [] [x] g x.known i) ((zr [x]).getD i ⟨0⟩).n ((zr [x]).getD (i + 1) ⟨0⟩).n = _
    rw [g1,g2]
   have goC : ¬ (0 : Int) = idAt [x] g w.n x.known→∃ vals',((ρ.ext lUn_D.N vals').val 100 = some (.int .i64 ((i + 1 : Nat) : Int))∧(ρ.ext lUn_D.N vals').val 101 = some (.int .i64 ((tchG (zr [x]) [] [x] g x.known i).from_))∧(ρ.ext lUn_D.N vals').val 102 = some (.int .i64 (IntKind.i64.wrap (w2.n - 1))))∧lUn_Inv x g 1 vals'∧lUn_mu (hrsR [x]) 1 vals' < lUn_mu (hrsR [x]) 1 [.int .i64 (i : Int),.int .i64 (tchG (zr [x]) [] [x] g x.known i).from_,.int .i64 (tchG (zr [x]) [] [x] g x.known i).until_]:=by
    intro hc
    have e2 : (tchG (zr [x]) [] [x] g x.known (i + 1)) = ⟨(tchG (zr [x]) [] [x] g x.known i).from_,IntKind.i64.wrap (w2.n - 1),true⟩:=by rw [hnext]; unfold yb; rw [show idAt [] g w.n x.known = 0 from rfl,if_neg hc,hn]; rfl
    refine ⟨[.int .i64 ((i + 1 : Nat) : Int),.int .i64 (tchG (zr [x]) [] [x] g x.known (i + 1)).from_,.int .i64 (tchG (zr [x]) [] [x] g x.known (i + 1)).until_],⟨?_,?_,?_⟩,⟨i + 1,by omega,.inr ⟨rfl,rfl,by rw [e2]⟩⟩,by simp [lUn_mu,vI]; omega⟩
    ·exact xH hN rfl (by decide)
    ·rw [yn _ _ _ _ (by rw [hN]; omega)]; exact (congrArg (fun t : Tch => some (Value.int .i64 t.from_)) e2 :)
    ·rw [yn _ _ _ _ (by rw [hN]; omega)]; exact (congrArg (fun t : Tch => some (Value.int .i64 t.until_)) e2 :)
   have goS : (0 : Int) = idAt [x] g w.n x.known→∃ vals',((ρ.ext lUn_D.N vals').val 100 = some (.int .i64 ((i + 1 : Nat) : Int))∧(ρ.ext lUn_D.N vals').val 101 = some (.int .i64 ((tchG (zr [x]) [] [x] g x.known i).from_))∧(ρ.ext lUn_D.N vals').val 102 = some (.int .i64 ((tchG (zr [x]) [] [x] g x.known i).until_)))∧lUn_Inv x g 1 vals'∧lUn_mu (hrsR [x]) 1 vals' < lUn_mu (hrsR [x]) 1 [.int .i64 (i : Int),.int .i64 (tchG (zr [x]) [] [x] g x.known i).from_,.int .i64 (tchG (zr [x]) [] [x] g x.known i).until_]:=by
    intro hc
    have e2 : (tchG (zr [x]) [] [x] g x.known (i + 1)) = (tchG (zr [x]) [] [x] g x.known i):=by rw [hnext]; unfold yb; rw [show idAt [] g w.n x.known = 0 from rfl,if_pos hc]
    refine ⟨[.int .i64 ((i + 1 : Nat) : Int),.int .i64 (tchG (zr [x]) [] [x] g x.known (i + 1)).from_,.int .i64 (tchG (zr [x]) [] [x] g x.known (i + 1)).until_],⟨?_,?_,?_⟩,⟨i + 1,by omega,.inr ⟨rfl,rfl,by rw [e2]; exact hn⟩⟩,by simp [lUn_mu,vI]; omega⟩
    ·exact xH hN rfl (by decide)
    ·rw [yn _ _ _ _ (by rw [hN]; omega)]; exact (congrArg (fun t : Tch => some (Value.int .i64 t.from_)) e2 :)
    ·rw [yn _ _ _ _ (by rw [hN]; omega)]; exact (congrArg (fun t : Tch => some (Value.int .i64 t.until_)) e2 :)
   refine ⟨?_,?_⟩
   all_goals (simp only [lUn1_t,lUn1_F,lUn1_l,gA,gB,za,gW,zh,yc,yq,zR,zB,zI,Zn,Zo,zT,zY,dZ,g3,v3,v4,v5,v6,v7,v8,v9,v10,v11,v12,v100,v101,v102,vs,h12,hsy,hxx,zl,zx,zg,zu,yp,yf,ye,yd,hok,hc2,Int.toNat_natCast,hp,hp1,hp2,hll,Option.bind_some,who0,hid2,hil1,hil2,hil3,hil4,hw,reduceCtorEq,Bool.false_eq_true,false_implies,true_implies,and_true,true_and])
   all_goals (clear v3 v4 v5 v6 v7 v8 v9 v10 v11 v12 v100 v101 v102 vs h12 hx hsy hF)
   all_goals ((repeat' apply And.intro) <;> intros <;> first
    | trivial
    | contradiction
    | (exact goS (by assumption))
    | (exact goC (by assumption))
    | (exfalso; omega)
    | (simp_all; done))
theorem lUn_step {ρ : Rho} {x : Rat9} {kx : Nat→IntKind} {g : ByteArray} (hx : Rat9At ρ 3 kx x) (h12 : ρ.val 12 = some (.string g)) (hsy : ρ.sym = sy) (hok : okR9 [x] = true) (hc2 : yy [x] = 0) (j : Nat) (vals : List Value) (hI : lUn_Inv x g j vals) : yI lUn_D lUn_run E0 ρ (lUn_Inv x g) (lUn_mu (hrsR [x])) j vals:=by
 obtain ⟨i,hi,⟨rfl,rfl,hn⟩ | ⟨rfl,rfl,hn⟩⟩:=hI
 ·exact lUn_step0 hx h12 hsy hok hc2 hi hn
 ·exact lUn_step1 hx h12 hsy hok hc2 hi hn
theorem lUn_H {ρ : Rho} {x : Rat9} {kx : Nat→IntKind} {g : ByteArray} (hx : Rat9At ρ 3 kx x) (h12 : ρ.val 12 = some (.string g)) (hsy : ρ.sym = sy) (hok : okR9 [x] = true) (hc2 : yy [x] = 0) (F : List (X×Bool)) : yV (E0.with F ρ) (oneH 12 (yR [(9,lUn_D.hook (E0.with F ρ).facts un_vs)])):=by
 refine yN (n:=1) (fun f fn h => h) (by kernel_rfl) fun i hi => ?_
 obtain rfl : i = 0:=by omega
 rw [yA (show Zr (yh (E0.with F ρ).P 12 0) = 9 by kernel_rfl)]
 refine hook_ok (E₀:=E0) (run:=lUn_run) (ρ:=ρ) (Inv:=lUn_Inv x g) (μ:=lUn_mu (hrsR [x])) zU lUn_ok (fun F r' h => ?_) (fun hp => ⟨lUn_step hx h12 hsy hok hc2,[.int .i64 0,.int .i64 0,.int .i64 0],?_,0,Nat.zero_le _,.inl ⟨rfl,rfl,rfl⟩⟩)
 ·exact yl zU (LNU_ok F (h.trans hsy)) fun _ _ => yj
 ·simp only [un_vs,gB,za,gW,zh,yc,List.nil_append]
  try rfl
noncomputable def rTnE_con : Con:={ f:=12,args:=[.nils,.agg [.int .i64 3,.int .i64 4,.int .i64 5,.str 6,.int .i64 7,.int .i64 8,.int .i64 9,.int .i64 10,.int .i64 11],.one (.str 12)],N:=1,M:=1,pre:=[(qUN7,false),(qUN18,false)],out:=.tuple [.int .i64 0,.int .i64 0,.bool false,.sint .i64 (.app 200 [qUN1])],news:=[] }
noncomputable def rTnE_call : Env→yC:=fun E => zw E (evH E (LNU E) ((fun _ => yo) E) 12)
noncomputable def rTnE_t : GTree:=(.fork qUN13 (.leaf [[],[]]) .bad)
noncomputable def rTnE_l : List (List (X×Bool)×Option zo):=[([(qUN13,true),(qUN7,false),(qUN6,false)],some [(.app 200 [qUN0],.app 200 [qUN0]),(.app 200 [qUN0],.app 200 [qUN0])]),
 ([(qUN13,false),(qUN7,false),(qUN6,false)],none)]
theorem rTnE_w (r : Rho) : rTnE_con.fn.ways rTnE_call E0 r rTnE_con.pre rTnE_t = some rTnE_l:=by kernel_rfl
theorem rTnE_cok : rTnE_con.Ok Tryz.prog sy:=by
 intro r σ w us hsy hρ hpre hrel hins
 obtain ⟨u0,us,rfl,g0,hi⟩:=zf hins
 obtain ⟨u1,us,rfl,g1,hi1⟩:=zf hi
 obtain ⟨x,kx,rfl,hx⟩:=rat_agg (v:=3) g1
 rw [hρ] at hx
 have a0:=hx.h0
 have a1:=hx.h1
 have a2:=hx.h2
 have a3:=hx.h3
 have a4:=hx.h4
 have a5:=hx.h5
 have a6:=hx.h6
 have a7:=hx.h7
 have a8:=hx.h8
 simp only [Nat.reduceAdd] at a0 a1 a2 a3 a4 a5 a6 a7 a8
 have hgx : (x.goods.size : Int)≤100:=by
  have:=hpre.1
  simp only [gB,za,gW,zh,a3,Option.some.injEq,Value.bool.injEq,decide_eq_false_iff_not] at this
  omega
 have hxx : (⟨x.id,x.known,x.from_,x.goods,x.num,x.den,x.cart,x.store,x.of_⟩ : Rat9) = x:=rfl
 have hok : okR9 [x] = true:=ok_snoc (l:=[]) rfl hgx (by simp)
 obtain ⟨u2,us,rfl,g2,hi2⟩:=zf hi1
 obtain ⟨g,rfl,h12⟩:=yz g2
 rw [hρ] at h12
 have hbl : (hrsR [x]).length≤2:=hrs_len [x]
 have d1 : zb [x] g 0 x.known 0 = some (.int .i64 (idAt [x] g 0 x.known)):=rfl
 refine zX (E:=E0) zU zG (sy:=sy) (fun F => LNU_ok F hsy) (fun F => yP) (rTnE_w r) hρ hpre hrel hins ?_ ?_
 ·simp only [rTnE_con,rTnE_t,gA,gB,za,gW,zh,yc,g3,a0,a1,a2,a3,a4,a5,a6,a7,a8,h12,hsy,zl,zx,zg,zu,yp,yf,ye,yd,hxx,hok,d1,reduceCtorEq,Bool.false_eq_true,false_implies,true_implies,and_true,true_and]
  try simp
 ·simp only [rTnE_l,gE,dZ,gB,za,g3,gW,zh,yc,List.nil_append,a0,a1,a2,a3,a4,a5,a6,a7,a8,h12,hsy,zl,zx,zg,zu,yp,yf,ye,yd,hxx,hok,d1,reduceCtorEq,gR]
  try simp
  skip
noncomputable def rTnN_con : Con:={ f:=12,args:=[.nils,.agg [.int .i64 3,.int .i64 4,.int .i64 5,.str 6,.int .i64 7,.int .i64 8,.int .i64 9,.int .i64 10,.int .i64 11],.one (.str 12)],N:=1,M:=1,pre:=[(qUN7,false),(qUN18,true),(.app 202 [qUN1],true),(qUN22,false)],out:=.tuple [.int .i64 0,.int .i64 0,.bool false,.int .i64 0],news:=[] }
noncomputable def rTnN_call : Env→yC:=fun E => zw E (evH E (LNU E) ((fun E => oneH 12 (yR [(9,lUn_D.hook E.facts un_vs)])) E) 12)
noncomputable def rTnN_t : GTree:=(.fork qUN8 (.fork qUN10 (.leaf [[],[]]) .bad) (.fork qUN19 .bad (.leaf [[],[]])))
noncomputable def rTnN_l : List (List (X×Bool)×Option zo):=[((qUN10,true) :: (qUN8,true) :: qUNf1,some []),
 ((qUN10,false) :: (qUN8,true) :: qUNf1,none),
 ((qUN19,true) :: (qUN8,false) :: qUNf1,none),
 ((qUN19,false) :: (qUN8,false) :: qUNf1,some [])]
theorem rTnN_w (r : Rho) : rTnN_con.fn.ways rTnN_call E0 r rTnN_con.pre rTnN_t = some rTnN_l:=by kernel_rfl
theorem rTnN_cok : rTnN_con.Ok Tryz.prog sy:=by
 intro r σ w us hsy hρ hpre hrel hins
 obtain ⟨u0,us,rfl,g0,hi⟩:=zf hins
 obtain ⟨u1,us,rfl,g1,hi1⟩:=zf hi
 obtain ⟨x,kx,rfl,hx⟩:=rat_agg (v:=3) g1
 rw [hρ] at hx
 have a0:=hx.h0
 have a1:=hx.h1
 have a2:=hx.h2
 have a3:=hx.h3
 have a4:=hx.h4
 have a5:=hx.h5
 have a6:=hx.h6
 have a7:=hx.h7
 have a8:=hx.h8
 simp only [Nat.reduceAdd] at a0 a1 a2 a3 a4 a5 a6 a7 a8
 have hgx : (x.goods.size : Int)≤100:=by
  have:=hpre.1
  simp only [gB,za,gW,zh,a3,Option.some.injEq,Value.bool.injEq,decide_eq_false_iff_not] at this
  omega
 have hxx : (⟨x.id,x.known,x.from_,x.goods,x.num,x.den,x.cart,x.store,x.of_⟩ : Rat9) = x:=rfl
 have hok : okR9 [x] = true:=ok_snoc (l:=[]) rfl hgx (by simp)
 obtain ⟨u2,us,rfl,g2,hi2⟩:=zf hi1
 obtain ⟨g,rfl,h12⟩:=yz g2
 rw [hρ] at h12
 have hbl : (hrsR [x]).length≤2:=hrs_len [x]
 have d1 : zb [x] g 0 x.known 0 = some (.int .i64 (idAt [x] g 0 x.known)):=rfl
 have hc2 : yy [x] = 0:=by
  have:=hpre.2.1
  simpa only [gB,za,gW,zh,yc,List.nil_append,a0,a1,a2,a3,a4,a5,a6,a7,a8,hsy,zl,hxx,Option.some.injEq,Value.bool.injEq,beq_iff_eq] using this
 have ht : (hrsR [x]).length = 1→tch [] [x] g x.known = if 0 = idAt [x] g 0 x.known then ⟨0,0,false⟩ else ⟨0,1000000,true⟩:=fun h => by
  have q : tchG (zr [x]) [] [x] g x.known (hrsR [x]).length = tch [] [x] g x.known:=tch_ref (l:=[]) (fun y hy => (ok_froms hc2 y hy).1) g x.known
  rw [← q,h]
  unfold zr
  rw [hrs_one h]
  show yb _ _ _ _ _ 0 1000001 = _
  unfold yb
  rw [show idAt [] g 0 x.known = 0 from rfl]
  show (if 0 = idAt [x] g 0 x.known then _ else _) = _
  split
  ·rfl
  ·rfl
 refine zX (E:=E0) zU zG (sy:=sy) (fun F => LNU_ok F hsy) (fun F => lUn_H hx h12 hsy hok hc2 F) (rTnN_w r) hρ hpre hrel hins ?_ ?_
 ·simp only [rTnN_con,rTnN_t,gA,gB,za,gW,zh,yc,g3,a0,a1,a2,a3,a4,a5,a6,a7,a8,h12,hsy,zl,zx,zg,zu,yp,yf,ye,yd,hxx,hok,d1,hc2,reduceCtorEq,Bool.false_eq_true,false_implies,true_implies,and_true,true_and]
  try simp
 ·simp only [rTnN_l,gE,dZ,gB,za,g3,gW,zh,yc,List.nil_append,a0,a1,a2,a3,a4,a5,a6,a7,a8,h12,hsy,zl,zx,zg,zu,yp,yf,ye,yd,hxx,hok,d1,hc2,reduceCtorEq,gR]
  try simp
  exact ⟨fun he hl _ => by rw [ht (by omega),if_neg he],fun hb _ _ => absurd hb (by omega)⟩
noncomputable def rTnY_con : Con:={ f:=12,args:=[.nils,.agg [.int .i64 3,.int .i64 4,.int .i64 5,.str 6,.int .i64 7,.int .i64 8,.int .i64 9,.int .i64 10,.int .i64 11],.one (.str 12)],N:=1,M:=1,pre:=[(qUN7,false),(qUN18,true),(.app 202 [qUN1],true),(qUN22,true)],out:=.tuple [.sint .i64 (.app 211 [.nil,qUN1,.var 12,.var 4]),.sint .i64 (.app 212 [.nil,qUN1,.var 12,.var 4]),.bool true,.int .i64 0],news:=[] }
noncomputable def rTnY_call : Env→yC:=fun E => zw E (evH E (LNU E) ((fun E => oneH 12 (yR [(9,lUn_D.hook E.facts un_vs)])) E) 12)
noncomputable def rTnY_t : GTree:=(.fork qUN8 (.fork qUN10 .bad (.leaf [[],[]])) (.fork qUN19 .bad (.leaf [[],[]])))
noncomputable def rTnY_l : List (List (X×Bool)×Option zo):=[((qUN10,true) :: (qUN8,true) :: qUNf2,none),
 ((qUN10,false) :: (qUN8,true) :: qUNf2,some [(qUN15,.num 0),(qUN16,.num 1000000),(qUN15,.num 0),(qUN16,.num 1000000)]),
 ((qUN19,true) :: (qUN8,false) :: qUNf2,none),
 ((qUN19,false) :: (qUN8,false) :: qUNf2,some [(qUN15,qUN15),(qUN16,qUN16),(qUN15,qUN15),(qUN16,qUN16)])]
theorem rTnY_w (r : Rho) : rTnY_con.fn.ways rTnY_call E0 r rTnY_con.pre rTnY_t = some rTnY_l:=by kernel_rfl
theorem rTnY_cok : rTnY_con.Ok Tryz.prog sy:=by
 intro r σ w us hsy hρ hpre hrel hins
 obtain ⟨u0,us,rfl,g0,hi⟩:=zf hins
 obtain ⟨u1,us,rfl,g1,hi1⟩:=zf hi
 obtain ⟨x,kx,rfl,hx⟩:=rat_agg (v:=3) g1
 rw [hρ] at hx
 have a0:=hx.h0
 have a1:=hx.h1
 have a2:=hx.h2
 have a3:=hx.h3
 have a4:=hx.h4
 have a5:=hx.h5
 have a6:=hx.h6
 have a7:=hx.h7
 have a8:=hx.h8
 simp only [Nat.reduceAdd] at a0 a1 a2 a3 a4 a5 a6 a7 a8
 have hgx : (x.goods.size : Int)≤100:=by
  have:=hpre.1
  simp only [gB,za,gW,zh,a3,Option.some.injEq,Value.bool.injEq,decide_eq_false_iff_not] at this
  omega
 have hxx : (⟨x.id,x.known,x.from_,x.goods,x.num,x.den,x.cart,x.store,x.of_⟩ : Rat9) = x:=rfl
 have hok : okR9 [x] = true:=ok_snoc (l:=[]) rfl hgx (by simp)
 obtain ⟨u2,us,rfl,g2,hi2⟩:=zf hi1
 obtain ⟨g,rfl,h12⟩:=yz g2
 rw [hρ] at h12
 have hbl : (hrsR [x]).length≤2:=hrs_len [x]
 have d1 : zb [x] g 0 x.known 0 = some (.int .i64 (idAt [x] g 0 x.known)):=rfl
 have hc2 : yy [x] = 0:=by
  have:=hpre.2.1
  simpa only [gB,za,gW,zh,yc,List.nil_append,a0,a1,a2,a3,a4,a5,a6,a7,a8,hsy,zl,hxx,Option.some.injEq,Value.bool.injEq,beq_iff_eq] using this
 have ht : (hrsR [x]).length = 1→tch [] [x] g x.known = if 0 = idAt [x] g 0 x.known then ⟨0,0,false⟩ else ⟨0,1000000,true⟩:=fun h => by
  have q : tchG (zr [x]) [] [x] g x.known (hrsR [x]).length = tch [] [x] g x.known:=tch_ref (l:=[]) (fun y hy => (ok_froms hc2 y hy).1) g x.known
  rw [← q,h]
  unfold zr
  rw [hrs_one h]
  show yb _ _ _ _ _ 0 1000001 = _
  unfold yb
  rw [show idAt [] g 0 x.known = 0 from rfl]
  show (if 0 = idAt [x] g 0 x.known then _ else _) = _
  split
  ·rfl
  ·rfl
 refine zX (E:=E0) zU zG (sy:=sy) (fun F => LNU_ok F hsy) (fun F => lUn_H hx h12 hsy hok hc2 F) (rTnY_w r) hρ hpre hrel hins ?_ ?_
 ·simp only [rTnY_con,rTnY_t,gA,gB,za,gW,zh,yc,g3,a0,a1,a2,a3,a4,a5,a6,a7,a8,h12,hsy,zl,zx,zg,zu,yp,yf,ye,yd,hxx,hok,d1,hc2,reduceCtorEq,Bool.false_eq_true,false_implies,true_implies,and_true,true_and]
  try simp
 ·simp only [rTnY_l,gE,dZ,gB,za,g3,gW,zh,yc,List.nil_append,a0,a1,a2,a3,a4,a5,a6,a7,a8,h12,hsy,zl,zx,zg,zu,yp,yf,ye,yd,hxx,hok,d1,hc2,reduceCtorEq,gR]
  try simp
  exact ⟨fun he hl _ => by rw [ht (by omega),if_pos he],fun he hl _ _ => by rw [ht (by omega),if_neg he]; exact ⟨rfl,rfl,rfl,rfl⟩,fun hb _ _ => absurd hb (by omega)⟩
end Go.Proofs.YtfddkbbjnghefaaGreatDoor.Zs
