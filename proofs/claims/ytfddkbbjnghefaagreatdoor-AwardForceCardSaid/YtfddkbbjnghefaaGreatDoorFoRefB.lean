/-
  Contracts of the reference: why a rate is refused behind others, CheckRates.
-/
import Derived.Test.YtfddkbbjnghefaaGreatDoorFoRefA
import Derived.KernelRfl
set_option linter.unusedSimpArgs false
set_option maxHeartbeats 4000000
set_option linter.unusedVariables false
namespace Go.Proofs.YtfddkbbjnghefaaGreatDoor.Zs
open Go
def rhd_vs : List X:=[.num 0,.boo false,.boo false]
def rct_vs : List X:=[.num 0]
abbrev qRK0 : X:=.op1 .len (.var 1)
abbrev qRK1 : X:=.op1 (.wrap .i64) (.op2 .sub qRK0 (.num 1))
abbrev qRK2 : X:=.app 181 [.var 1,.var 3,.var 4,.var 5]
abbrev qRK3 : X:=.op2 .lt (.num 1010) qRK0
abbrev qRK4 : X:=.app 186 [.var 1,.var 3]
abbrev qRK5 : X:=.op2 .lt (.var 100) (.num 0)
abbrev qRK6 : X:=.op1 (.wrap .i64) (.op2 .add (.var 100) (.num 1))
abbrev qRK7 : X:=.op2 .eq (.cell 0 (.var 1) (.var 100)) (.var 3)
abbrev qRK8 : X:=.op2 .eq (.var 5) (.num 0)
abbrev qRK9 : X:=.op2 .lt (.var 100) qRK0
abbrev qRK10 : X:=.cell 2 (.var 1) (.var 100)
abbrev qRK11 : X:=.op2 .lt (.num 0) qRK0
abbrev qRK12 : X:=.app 184 [.var 1,.var 5]
abbrev qRK13 : X:=.op2 .lt (.var 4) (.cell 1 (.var 1) qRK1)
abbrev qRK14 : X:=.app 187 [.var 1,.var 3,.var 6]
abbrev qRK15 : X:=.app 185 [.var 1,.var 5]
abbrev qRK16 : X:=.op2 .lt qRK1 (.num 0)
abbrev qRK17 : X:=.app 182 [.var 1,.var 3,.var 4,.var 5,.var 6]
abbrev qRK18 : X:=.op2 .lt qRK1 qRK0
abbrev qRK19 : X:=.op2 .lt (.var 6) (.cell 1 (.var 1) (.var 100))
abbrev qRK20 : X:=.op2 .eq qRK10 (.num 0)
abbrev qRK21 : X:=.op2 .eq qRK10 (.var 3)
abbrev qRKf2 : List (X×Bool):=[(qRK4,false),(qRK3,false)]
abbrev qRKf0 : List (X×Bool):=(qRK18,true) :: (qRK16,false) :: (qRK11,true) :: qRKf2
abbrev qRKf1 : List (X×Bool):=[(qRK9,true),(qRK5,false)]
abbrev qRKf3 : List (X×Bool):=(.var 101,false) :: (qRK7,false) :: qRKf1
noncomputable def lHd_D : LoopD:={ N:=100,M:=103,size:=Zk 75,reads:=[(0,.rows 3 hdSch (.var 0) (.var 1) false 118),(1,.cells [.sint .i64 (.var 3),.sint .i64 (.var 4),.sint .i64 (.var 5)] 118)],pats:=[{ slots:=[(0,.slx 0 3 (.var 0) (.num 0) qRK0 (.var 2)),(3,.ptr 1 0),(5,.sbool (.var 101)),(6,.sbool (.var 102)),(7,.sint .i64 (.var 100))],heap:=[] }],exits:=[(.exit 0,{ slots:=[(0,.slx 0 3 (.var 0) (.num 0) qRK0 (.var 2)),(3,.ptr 1 0),(5,.sbool (.app 184 [.var 1,.var 5])),(6,.sbool (.app 185 [.var 1,.var 5]))],heap:=[],guard:=.op1 .not (.app 186 [.var 1,.var 3]) }),(.ret,{ slots:=[(4,.int .i64 6)],heap:=[],guard:=.app 186 [.var 1,.var 3] })],own:=[],pre:=[(qRK3,false)],dfs:=[] }
noncomputable def lHd_run : Env→AF→ASt→Option (List Out):=Zh noL 6 (fun _ => Zl) (yh Tryz.prog 75 0)
def lHd0_F : List (X×Bool):=[(qRK5,false)]
noncomputable def lHd0_t : FTree:=(.fork qRK9 (.fork qRK7 (.leaf [.leave 1 []]) (.fork (.var 101) (.fork (.var 102) (.leaf [.again 0 []]) (.leaf [.again 0 []])) (.fork qRK20 (.fork (.var 102) (.leaf [.again 0 []]) (.leaf [.again 0 []])) (.fork (.var 102) (.leaf [.again 0 []]) (.leaf [.again 0 []]))))) (.leaf [.leave 0 []]))
noncomputable def lHd0_l : List (List (X×Bool)×Option (List (Tgt×zo))):=[((qRK7,true) :: qRKf1,some [(.leave 1 [],[(qRK4,.boo true)])]),
 ((.var 102,true) :: (.var 101,true) :: (qRK7,false) :: qRKf1,some [(.again 0 [],[(.var 101,.boo true),(.var 102,.boo true),(.var 100,qRK6)])]),
 ((.var 102,false) :: (.var 101,true) :: (qRK7,false) :: qRKf1,some [(.again 0 [],[(.var 101,.boo true),(.var 102,.op2 .eq qRK10 (.var 5)),(.var 100,qRK6)])]),
 ((.var 102,true) :: (qRK20,true) :: qRKf3,some [(.again 0 [],[(.var 101,.op2 .eq (.cell 0 (.var 1) (.var 100)) (.var 5)),(.var 102,.boo true),(.var 100,qRK6)])]),
 ((.var 102,false) :: (qRK20,true) :: qRKf3,some [(.again 0 [],[(.var 101,.op2 .eq (.cell 0 (.var 1) (.var 100)) (.var 5)),(.var 102,.op2 .eq qRK10 (.var 5)),(.var 100,qRK6)])]),
 ((.var 102,true) :: (qRK20,false) :: qRKf3,some [(.again 0 [],[(.var 101,.boo false),(.var 102,.boo true),(.var 100,qRK6)])]),
 ((.var 102,false) :: (qRK20,false) :: qRKf3,some [(.again 0 [],[(.var 101,.boo false),(.var 102,.op2 .eq qRK10 (.var 5)),(.var 100,qRK6)])]),
 ([(qRK9,false),(qRK5,false)],some [(.leave 0 [],[(qRK12,.var 101),(qRK15,.var 102),(.op1 .not qRK4,.boo true)])])]
theorem lHd0_w (r : Rho) : lHd_D.ways lHd_run E0 r 0 lHd0_F lHd0_t = some lHd0_l:=by kernel_rfl
theorem lHd_ok : lHd_D.ok = true:=by kernel_rfl
theorem nmd_snoc (h : List Hd3) (y : Hd3) (o : Int) : nmdH (h ++ [y]) o = (nmdH h o || (y.of_ == 0 && y.id == o)):=by simp [nmdH]
theorem twc_snoc (h : List Hd3) (y : Hd3) (o : Int) : twcH (h ++ [y]) o = (twcH h o || y.of_ == o):=by simp [twcH]
theorem has_snoc (h : List Hd3) (y : Hd3) (o : Int) : hasH (h ++ [y]) o = (hasH h o || y.id == o):=by simp [hasH]
theorem has_at {h : List Hd3} {i : Nat} {y : Hd3} (hp : h[i]? = some y) : hasH h y.id = true:=List.any_eq_true.2 ⟨y,List.mem_of_getElem? hp,by simp⟩
def lHd_Inv (h : List Hd3) (d o : Int) (j : Nat) (vals : List Value) : Prop:=j = 0∧∃ i : Nat,i≤h.length∧vals = [.int .i64 (i : Int),.bool (nmdH (h.take i) o),.bool (twcH (h.take i) o)]∧hasH (h.take i) d = false
def lHd_mu (h : List Hd3) (_ : Nat) (vals : List Value) : Nat:=h.length - (vI (vals.getD 0 default)).toNat
theorem lHd_step {ρ : Rho} {h : List Hd3} {d kn o : Int} {k3 k4 k5 : IntKind} (h1 : ρ.val 1 = some (hdsR h)) (h3 : ρ.val 3 = some (.int k3 d)) (h4 : ρ.val 4 = some (.int k4 kn)) (h5 : ρ.val 5 = some (.int k5 o)) (hsy : ρ.sym = sy) (hmax : (h.length : Int)≤1010) (j : Nat) (vals : List Value) (hI : lHd_Inv h d o j vals) : yI lHd_D lHd_run E0 ρ (lHd_Inv h d o) (lHd_mu h) j vals:=by
 obtain ⟨rfl,i,hi,rfl,hno⟩:=hI
 have hN : lHd_D.N = 100:=rfl
 have xl {jq vq}:=@xL ρ lHd_D.N 100 [.int .i64 (i : Int),.bool (nmdH (h.take i) o),.bool (twcH (h.take i) o)] jq vq hN
 have xh {jq vq}:=@xH ρ lHd_D.N 100 [.int .i64 (i : Int),.bool (nmdH (h.take i) o),.bool (twcH (h.take i) o)] jq vq hN
 have v1:=xl (jq:=1) h1 (by decide)
 have v3:=xl (jq:=3) h3 (by decide)
 have v4:=xl (jq:=4) h4 (by decide)
 have v5:=xl (jq:=5) h5 (by decide)
 have v100:=xh (jq:=100) (vq:=.int .i64 (i : Int)) rfl (by decide)
 have v101:=xh (jq:=101) (vq:=.bool (nmdH (h.take i) o)) rfl (by decide)
 have v102:=xh (jq:=102) (vq:=.bool (twcH (h.take i) o)) rfl (by decide)
 have vs : (ρ.ext lHd_D.N [.int .i64 (i : Int),.bool (nmdH (h.take i) o),.bool (twcH (h.take i) o)]).sym = sy:=hsy
 have hF : zp (ρ.ext lHd_D.N [.int .i64 (i : Int),.bool (nmdH (h.take i) o),.bool (twcH (h.take i) o)]) lHd0_F:=by
  simp only [lHd0_F,zp,gB,za,gHds,zm,v100,Option.some.injEq,Value.bool.injEq,decide_eq_false_iff_not,and_true]
  omega
 suffices both : Zp (ρ.ext lHd_D.N [.int .i64 (i : Int),.bool (nmdH (h.take i) o),.bool (twcH (h.take i) o)]) (lHd0_t.asks lHd0_F)∧zR lHd_D ρ (lHd_Inv h d o) (lHd_mu h) 0 [.int .i64 (i : Int),.bool (nmdH (h.take i) o),.bool (twcH (h.take i) o)] lHd0_l from zD (lHd0_w _) hF both.1.ok both.2
 cases hp : h[i]? with
 | none =>
   have hge:=List.getElem?_eq_none_iff.1 hp
   have hge' : ¬ (i : Int) < h.length:=by omega
   have hl : h.take i = h:=List.take_of_length_le hge
   rw [hl] at hno
   refine ⟨?_,?_⟩
   ·simp only [lHd0_t,lHd0_F,gA,gB,za,gHds,zm,v1,v3,v4,v5,v100,v101,v102,vs,sym181,sym182,sym184,sym185,sym186,sym187,Int.toNat_natCast,hp,hge']
    try simp
   ·simp only [lHd0_l,gE,dZ,gB,za,g3,gHds,zm,v1,v3,v4,v5,v100,v101,v102,vs,h1,h3,h4,h5,hsy,sym181,sym182,sym184,sym185,sym186,sym187,Int.toNat_natCast,hp,hge',reduceCtorEq,gR]
    try simp [hl,hno]
 | some y =>
   have hil : i < h.length:=(List.getElem?_eq_some_iff.1 hp).1
   have hil1 : (i : Int) < h.length:=by omega
   have hw : IntKind.i64.wrap ((i : Int) + 1) = ((i + 1 : Nat) : Int):=by rw [IntWalk.i64_in _ (by omega)]; rfl
   have ht : h.take (i + 1) = h.take i ++ [y]:=by rw [List.take_add_one,hp]; rfl
   have hit : y.id = d→hasH h d = true:=fun e => by rw [← e]; exact has_at hp
   have go : ∀ a b,y.id≠d→a = nmdH (h.take (i + 1)) o→b = twcH (h.take (i + 1)) o→∃ vals',((ρ.ext lHd_D.N vals').val 101 = some (.bool a)∧(ρ.ext lHd_D.N vals').val 102 = some (.bool b)∧(ρ.ext lHd_D.N vals').val 100 = some (.int .i64 ((i + 1 : Nat) : Int)))∧lHd_Inv h d o 0 vals'∧lHd_mu h 0 vals' < lHd_mu h 0 [.int .i64 (i : Int),.bool (nmdH (h.take i) o),.bool (twcH (h.take i) o)]:=by
    rintro a b hne rfl rfl
    refine ⟨[.int .i64 ((i + 1 : Nat) : Int),.bool (nmdH (h.take (i + 1)) o),.bool (twcH (h.take (i + 1)) o)],⟨?_,?_,?_⟩,⟨rfl,i + 1,by omega,rfl,?_⟩,by simp [lHd_mu,vI]; omega⟩
    ·exact xH hN rfl (by decide)
    ·exact xH hN rfl (by decide)
    ·exact xH hN rfl (by decide)
    ·rw [ht,has_snoc,hno]; simpa using hne
   rw [ht,nmd_snoc,twc_snoc] at go
   generalize nmdH (h.take i) o = na at *
   generalize twcH (h.take i) o = ta at *
   refine ⟨?_,?_⟩
   all_goals (simp only [lHd0_t,lHd0_F,lHd0_l,gA,gB,za,gHds,zm,yq,zR,zB,zI,Zn,Zo,zT,zY,dZ,g3,v1,v3,v4,v5,v100,v101,v102,vs,h1,h3,h4,h5,hsy,sym181,sym182,sym184,sym185,sym186,sym187,Int.toNat_natCast,hp,Option.bind_some,hd0,hd1,hd2,hil1,hw,reduceCtorEq,Bool.false_eq_true,false_implies,true_implies,and_true,true_and])
   all_goals (clear v1 v3 v4 v5 v100 v101 v102 vs h1 h3 h4 h5 hsy hF)
   all_goals ((repeat' apply And.intro) <;> intros <;> first
    | trivial
    | (exact hit (by assumption))
    | (refine go _ _ (by assumption) ?_ ?_ <;> simp_all)
    | (exfalso; omega)
    | (simp_all; done))
noncomputable def rHd_con : Con:={ f:=75,args:=[hdsArg 0 0,.agg (hdLeaves 3)],N:=1,M:=1,pre:=[(qRK3,false)],out:=.sint .i64 (.app 181 [.var 1,.var 3,.var 4,.var 5]),news:=[] }
noncomputable def rHd_call : Env→yC:=fun E => zw E (evH E (noL E) ((fun E => oneH 75 (yR [(4,lHd_D.hook E.facts rhd_vs)])) E) 9)
noncomputable def rHd_t : GTree:=(.fork qRK4 (.leaf [[]]) (.fork qRK11 (.fork qRK16 .bad (.fork qRK18 (.fork qRK13 (.leaf [[]]) (.fork qRK8 (.leaf [[]]) (.fork qRK12 (.fork qRK15 (.leaf [[]]) (.leaf [[]])) (.leaf [[]])))) .bad)) (.fork qRK8 (.leaf [[]]) (.fork qRK12 (.fork qRK15 (.leaf [[]]) (.leaf [[]])) (.leaf [[]])))))
noncomputable def rHd_l : List (List (X×Bool)×Option zo):=[([(qRK4,true),(qRK3,false)],some [(qRK2,.num 6)]),
 ((qRK16,true) :: (qRK11,true) :: qRKf2,none),
 ((qRK13,true) :: qRKf0,some [(qRK2,.num 7)]),
 ((qRK8,true) :: (qRK13,false) :: qRKf0,some [(qRK2,.num 0)]),
 ((qRK15,true) :: (qRK12,true) :: (qRK8,false) :: (qRK13,false) :: qRKf0,some [(qRK2,.num 6)]),
 ((qRK15,false) :: (qRK12,true) :: (qRK8,false) :: (qRK13,false) :: qRKf0,some [(qRK2,.num 0)]),
 ((qRK12,false) :: (qRK8,false) :: (qRK13,false) :: qRKf0,some [(qRK2,.num 5)]),
 ((qRK18,false) :: (qRK16,false) :: (qRK11,true) :: qRKf2,none),
 ((qRK8,true) :: (qRK11,false) :: qRKf2,some [(qRK2,.num 0)]),
 ((qRK15,true) :: (qRK12,true) :: (qRK8,false) :: (qRK11,false) :: qRKf2,some [(qRK2,.num 6)]),
 ((qRK15,false) :: (qRK12,true) :: (qRK8,false) :: (qRK11,false) :: qRKf2,some [(qRK2,.num 0)]),
 ((qRK12,false) :: (qRK8,false) :: (qRK11,false) :: qRKf2,some [(qRK2,.num 5)])]
theorem rHd_w (r : Rho) : rHd_con.fn.ways rHd_call E0 r rHd_con.pre rHd_t = some rHd_l:=by kernel_rfl
theorem lHd_H {ρ : Rho} {h : List Hd3} {d kn o : Int} {k3 k4 k5 : IntKind} (h1 : ρ.val 1 = some (hdsR h)) (h3 : ρ.val 3 = some (.int k3 d)) (h4 : ρ.val 4 = some (.int k4 kn)) (h5 : ρ.val 5 = some (.int k5 o)) (hsy : ρ.sym = sy) (hmax : (h.length : Int)≤1010) (F : List (X×Bool)) : yV (E0.with F ρ) (oneH 75 (yR [(4,lHd_D.hook (E0.with F ρ).facts rhd_vs)])):=by
 refine yN (n:=1) (fun f fn h => h) (by kernel_rfl) fun i hi => ?_
 obtain rfl : i = 0:=by omega
 rw [yA (show Zr (yh (E0.with F ρ).P 75 0) = 4 by kernel_rfl)]
 refine hook_ok (E₀:=E0) (run:=lHd_run) (ρ:=ρ) (Inv:=lHd_Inv h d o) (μ:=lHd_mu h) zU lHd_ok (fun F r' h => ?_) (fun hp => ⟨lHd_step h1 h3 h4 h5 hsy hmax,[.int .i64 0,.bool false,.bool false],?_,rfl,0,Nat.zero_le _,rfl,rfl⟩)
 ·exact yl zU (noL_ok F (h.trans hsy)) fun _ _ => yj
 ·simp only [rhd_vs,gB,za,gHds,zm]
theorem last_at {h : List Hd3} (hl : 0 < (h.length : Int)) (hm : (h.length : Int)≤1010) : IntKind.i64.wrap ((h.length : Int) - 1) = ((h.length - 1 : Nat) : Int)∧∃ y,h[h.length - 1]? = some y∧lastH h = y.known:=by
 refine ⟨?_,h[h.length - 1]'(by omega),List.getElem?_eq_getElem _,?_⟩
 ·rw [IntWalk.i64_in _ (by omega)]; omega
 ·unfold lastH
  rw [List.getElem?_eq_getElem (show h.length - 1 < h.length by omega)]
theorem rHd_cok : rHd_con.Ok Tryz.prog sy:=by
 intro r σ w us hsy hρ hpre hrel hins
 obtain ⟨h,h1⟩:=hds_at hrel (i:=0) rfl
 obtain ⟨u0,us,rfl,g0,hi⟩:=zf hins
 obtain ⟨u1,us,rfl,g1,hi2⟩:=zf hi
 obtain ⟨p,kp,rfl,hq⟩:=hd_agg g1
 rw [hρ] at h1 hq
 have h1 : r.val 1 = some (hdsR h):=h1
 have h3:=hq.h0
 have h4:=hq.h1
 have h5:=hq.h2
 have hmax : (h.length : Int)≤1010:=by
  have:=hpre.1
  simp only [gB,za,gHds,zm,h1,Option.some.injEq,Value.bool.injEq,decide_eq_false_iff_not] at this
  omega
 refine zX (E:=E0) zU zG (sy:=sy) (fun F => noL_ok F hsy) (fun F => lHd_H h1 h3 h4 h5 hsy hmax F) (rHd_w r) hρ hpre hrel hins ?_ ?_
 ·by_cases hl : 0 < (h.length : Int)
  ·obtain ⟨hw,y,hy,hk⟩:=last_at hl hmax
   have hz : ¬ ((h.length - 1 : Nat) : Int) < 0:=by omega
   have hz' : ((h.length - 1 : Nat) : Int) < h.length:=by omega
   simp only [rHd_con,rHd_t,gA,gB,za,gHds,zm,h1,h3,h4,h5,hsy,sym181,sym182,sym184,sym185,sym186,sym187,hl,hw,hz,hz',Int.toNat_natCast,hy,Option.bind_some,hd0,hd1,hd2,reduceCtorEq,Bool.false_eq_true,false_implies,true_implies,and_true,true_and]
   try simp
  ·simp only [rHd_con,rHd_t,gA,gB,za,gHds,zm,h1,h3,h4,h5,hsy,sym181,sym182,sym184,sym185,sym186,sym187,hl,reduceCtorEq,Bool.false_eq_true,false_implies,true_implies,and_true,true_and]
   try simp
 ·by_cases hl : 0 < (h.length : Int)
  ·obtain ⟨hw,y,hy,hk⟩:=last_at hl hmax
   have hz : ¬ ((h.length - 1 : Nat) : Int) < 0:=by omega
   have hz' : ((h.length - 1 : Nat) : Int) < h.length:=by omega
   simp only [rHd_l,gE,dZ,gB,za,g3,gHds,zm,h1,h3,h4,h5,hsy,sym181,sym182,sym184,sym185,sym186,sym187,hl,hw,hz,hz',Int.toNat_natCast,hy,Option.bind_some,hd0,hd1,hd2,reduceCtorEq,gR]
   clear h1 h3 h4 h5 hsy hρ hpre hrel hins g0 g1 hi hi2 hq
   unfold hdE
   have bl : decide (p.known < y.known) = !(decide (y.known≤p.known)):=by rw [Bool.eq_iff_iff]; simp
   have bz : (p.of_ == 0) = decide (p.of_ = 0):=by rw [Bool.eq_iff_iff]; simp
   rw [hk,bz]
   (repeat' apply And.intro) <;> intros <;> first | (simp_all; done) | (rw [bl]; simp_all; done)
  ·simp only [rHd_l,gE,dZ,gB,za,g3,gHds,zm,h1,h3,h4,h5,hsy,sym181,sym182,sym184,sym185,sym186,sym187,hl,reduceCtorEq,gR]
   clear h1 h3 h4 h5 hsy hρ hpre hrel hins g0 g1 hi hi2 hq
   unfold hdE
   have bz : (p.of_ == 0) = decide (p.of_ = 0):=by rw [Bool.eq_iff_iff]; simp
   rw [bz]
   (repeat' apply And.intro) <;> intros <;> simp_all
noncomputable def lCt_D : LoopD:={ N:=100,M:=101,size:=Zk 93,reads:=[(0,.rows 3 hdSch (.var 0) (.var 1) false 118),(1,.cells [.sint .i64 (.var 3),.sint .i64 (.var 4),.sint .i64 (.var 5)] 118)],pats:=[{ slots:=[(0,.slx 0 3 (.var 0) (.num 0) qRK0 (.var 2)),(2,.sint .i64 (.var 6)),(4,.ptr 1 0),(7,.sint .i64 (.var 100))],heap:=[] }],exits:=[(.exit 0,{ slots:=[(2,.sint .i64 (.var 6)),(4,.ptr 1 0)],heap:=[],guard:=.op1 .not (.app 187 [.var 1,.var 3,.var 6]) }),(.ret,{ slots:=[(6,.bool false)],heap:=[],guard:=.app 187 [.var 1,.var 3,.var 6] })],own:=[],pre:=[(qRK3,false)],dfs:=[] }
noncomputable def lCt_run : Env→AF→ASt→Option (List Out):=Zh noL 6 (fun _ => Zl) (yh Tryz.prog 93 0)
def lCt0_F : List (X×Bool):=[(qRK5,false)]
noncomputable def lCt0_t : FTree:=(.fork qRK9 (.fork qRK21 (.fork qRK19 (.leaf [.again 0 []]) (.leaf [.leave 1 []])) (.leaf [.again 0 []])) (.leaf [.leave 0 []]))
noncomputable def lCt0_l : List (List (X×Bool)×Option (List (Tgt×zo))):=[((qRK19,true) :: (qRK21,true) :: qRKf1,some [(.again 0 [],[(.var 100,qRK6)])]),
 ((qRK19,false) :: (qRK21,true) :: qRKf1,some [(.leave 1 [],[(qRK14,.boo true)])]),
 ((qRK21,false) :: qRKf1,some [(.again 0 [],[(.var 100,qRK6)])]),
 ([(qRK9,false),(qRK5,false)],some [(.leave 0 [],[(.op1 .not qRK14,.boo true)])])]
theorem lCt0_w (r : Rho) : lCt_D.ways lCt_run E0 r 0 lCt0_F lCt0_t = some lCt0_l:=by kernel_rfl
theorem lCt_ok : lCt_D.ok = true:=by kernel_rfl
theorem vd_snoc (h : List Hd3) (y : Hd3) (o K : Int) : vdH (h ++ [y]) o K = (vdH h o K || (y.of_ == o && decide (y.known≤K))):=by simp [vdH]
theorem vd_at {h : List Hd3} {i : Nat} {y : Hd3} {K : Int} (hp : h[i]? = some y) (hk : y.known≤K) : vdH h y.of_ K = true:=List.any_eq_true.2 ⟨y,List.mem_of_getElem? hp,by simp [hk]⟩
def lCt_Inv (h : List Hd3) (d K : Int) (j : Nat) (vals : List Value) : Prop:=j = 0∧∃ i : Nat,i≤h.length∧vals = [.int .i64 (i : Int)]∧vdH (h.take i) d K = false
def lCt_mu (h : List Hd3) (_ : Nat) (vals : List Value) : Nat:=h.length - (vI (vals.getD 0 default)).toNat
theorem lCt_step {ρ : Rho} {h : List Hd3} {d kn o K : Int} {k3 k4 k5 k6 : IntKind} (h1 : ρ.val 1 = some (hdsR h)) (h3 : ρ.val 3 = some (.int k3 d)) (h4 : ρ.val 4 = some (.int k4 kn)) (h5 : ρ.val 5 = some (.int k5 o)) (h6 : ρ.val 6 = some (.int k6 K)) (hsy : ρ.sym = sy) (hmax : (h.length : Int)≤1010) (j : Nat) (vals : List Value) (hI : lCt_Inv h d K j vals) : yI lCt_D lCt_run E0 ρ (lCt_Inv h d K) (lCt_mu h) j vals:=by
 obtain ⟨rfl,i,hi,rfl,hno⟩:=hI
 have hN : lCt_D.N = 100:=rfl
 have xl {jq vq}:=@xL ρ lCt_D.N 100 [.int .i64 (i : Int)] jq vq hN
 have xh {jq vq}:=@xH ρ lCt_D.N 100 [.int .i64 (i : Int)] jq vq hN
 have v1:=xl (jq:=1) h1 (by decide)
 have v3:=xl (jq:=3) h3 (by decide)
 have v4:=xl (jq:=4) h4 (by decide)
 have v5:=xl (jq:=5) h5 (by decide)
 have v6:=xl (jq:=6) h6 (by decide)
 have v100:=xh (jq:=100) (vq:=.int .i64 (i : Int)) rfl (by decide)
 have vs : (ρ.ext lCt_D.N [.int .i64 (i : Int)]).sym = sy:=hsy
 have hF : zp (ρ.ext lCt_D.N [.int .i64 (i : Int)]) lCt0_F:=by
  simp only [lCt0_F,zp,gB,za,gHds,zm,v100,Option.some.injEq,Value.bool.injEq,decide_eq_false_iff_not,and_true]
  omega
 suffices both : Zp (ρ.ext lCt_D.N [.int .i64 (i : Int)]) (lCt0_t.asks lCt0_F)∧zR lCt_D ρ (lCt_Inv h d K) (lCt_mu h) 0 [.int .i64 (i : Int)] lCt0_l from zD (lCt0_w _) hF both.1.ok both.2
 cases hp : h[i]? with
 | none =>
   have hge:=List.getElem?_eq_none_iff.1 hp
   have hge' : ¬ (i : Int) < h.length:=by omega
   have hl : h.take i = h:=List.take_of_length_le hge
   rw [hl] at hno
   refine ⟨?_,?_⟩
   ·simp only [lCt0_t,lCt0_F,gA,gB,za,gHds,zm,v1,v3,v4,v5,v6,v100,vs,sym181,sym182,sym184,sym185,sym186,sym187,Int.toNat_natCast,hp,hge']
    try simp
   ·simp only [lCt0_l,gE,dZ,gB,za,g3,gHds,zm,v1,v3,v4,v5,v6,v100,vs,h1,h3,h4,h5,h6,hsy,sym181,sym182,sym184,sym185,sym186,sym187,Int.toNat_natCast,hp,hge',reduceCtorEq,gR]
    try simp [hno]
 | some y =>
   have hil : i < h.length:=(List.getElem?_eq_some_iff.1 hp).1
   have hil1 : (i : Int) < h.length:=by omega
   have hw : IntKind.i64.wrap ((i : Int) + 1) = ((i + 1 : Nat) : Int):=by rw [IntWalk.i64_in _ (by omega)]; rfl
   have ht : h.take (i + 1) = h.take i ++ [y]:=by rw [List.take_add_one,hp]; rfl
   have hit : y.of_ = d→y.known≤K→vdH h d K = true:=fun e hk => by rw [← e]; exact vd_at hp hk
   have go : ¬ (y.of_ = d∧y.known≤K)→∃ vals',(ρ.ext lCt_D.N vals').val 100 = some (.int .i64 ((i + 1 : Nat) : Int))∧lCt_Inv h d K 0 vals'∧lCt_mu h 0 vals' < lCt_mu h 0 [.int .i64 (i : Int)]:=by
    intro hne
    refine ⟨[.int .i64 ((i + 1 : Nat) : Int)],?_,⟨rfl,i + 1,by omega,rfl,?_⟩,by simp [lCt_mu,vI]; omega⟩
    ·exact xH hN rfl (by decide)
    ·rw [ht,vd_snoc,hno]
     simp only [Bool.false_or,Bool.and_eq_false_iff,beq_eq_false_iff_ne,decide_eq_false_iff_not]
     omega
   refine ⟨?_,?_⟩
   all_goals (simp only [lCt0_t,lCt0_F,lCt0_l,gA,gB,za,gHds,zm,yq,zR,zB,zI,Zn,Zo,zT,zY,dZ,g3,v1,v3,v4,v5,v6,v100,vs,h1,h3,h4,h5,h6,hsy,sym181,sym182,sym184,sym185,sym186,sym187,Int.toNat_natCast,hp,Option.bind_some,hd0,hd1,hd2,hil1,hw,reduceCtorEq,Bool.false_eq_true,false_implies,true_implies,and_true,true_and])
   all_goals (clear v1 v3 v4 v5 v6 v100 vs h1 h3 h4 h5 h6 hsy hF)
   all_goals ((repeat' apply And.intro) <;> intros <;> first
    | trivial
    | (exact hit (by assumption) (by omega))
    | (exact go (by omega))
    | (exfalso; omega)
    | (simp_all; done))
noncomputable def rCt_con : Con:={ f:=93,args:=[hdsArg 0 0,.agg (hdLeaves 3),.one (.int .i64 6)],N:=1,M:=1,pre:=[(qRK3,false)],out:=.sbool (.app 182 [.var 1,.var 3,.var 4,.var 5,.var 6]),news:=[] }
noncomputable def rCt_call : Env→yC:=fun E => zw E (evH E (noL E) ((fun E => oneH 93 (yR [(2,lCt_D.hook E.facts rct_vs)])) E) 9)
noncomputable def rCt_t : GTree:=(.fork qRK14 (.leaf [[]]) (.fork qRK8 (.leaf [[]]) (.leaf [[]])))
noncomputable def rCt_l : List (List (X×Bool)×Option zo):=[([(qRK14,true),(qRK3,false)],some [(qRK17,.boo false)]),
 ([(qRK8,true),(qRK14,false),(qRK3,false)],some [(qRK17,.op1 .not (.op2 .lt (.var 6) (.var 4)))]),
 ([(qRK8,false),(qRK14,false),(qRK3,false)],some [(qRK17,.boo false)])]
theorem rCt_w (r : Rho) : rCt_con.fn.ways rCt_call E0 r rCt_con.pre rCt_t = some rCt_l:=by kernel_rfl
theorem lCt_H {ρ : Rho} {h : List Hd3} {d kn o K : Int} {k3 k4 k5 k6 : IntKind} (h1 : ρ.val 1 = some (hdsR h)) (h3 : ρ.val 3 = some (.int k3 d)) (h4 : ρ.val 4 = some (.int k4 kn)) (h5 : ρ.val 5 = some (.int k5 o)) (h6 : ρ.val 6 = some (.int k6 K)) (hsy : ρ.sym = sy) (hmax : (h.length : Int)≤1010) (F : List (X×Bool)) : yV (E0.with F ρ) (oneH 93 (yR [(2,lCt_D.hook (E0.with F ρ).facts rct_vs)])):=by
 refine yN (n:=1) (fun f fn h => h) (by kernel_rfl) fun i hi => ?_
 obtain rfl : i = 0:=by omega
 rw [yA (show Zr (yh (E0.with F ρ).P 93 0) = 2 by kernel_rfl)]
 refine hook_ok (E₀:=E0) (run:=lCt_run) (ρ:=ρ) (Inv:=lCt_Inv h d K) (μ:=lCt_mu h) zU lCt_ok (fun F r' h => ?_) (fun hp => ⟨lCt_step h1 h3 h4 h5 h6 hsy hmax,[.int .i64 0],?_,rfl,0,Nat.zero_le _,rfl,rfl⟩)
 ·exact yl zU (noL_ok F (h.trans hsy)) fun _ _ => yj
 ·simp only [rct_vs,gB,za,gHds,zm]
theorem rCt_cok : rCt_con.Ok Tryz.prog sy:=by
 intro r σ w us hsy hρ hpre hrel hins
 obtain ⟨h,h1⟩:=hds_at hrel (i:=0) rfl
 obtain ⟨u0,us,rfl,g0,hi⟩:=zf hins
 obtain ⟨u1,us,rfl,g1,hi2⟩:=zf hi
 obtain ⟨p,kp,rfl,hq⟩:=hd_agg g1
 rw [hρ] at h1 hq
 have h1 : r.val 1 = some (hdsR h):=h1
 have h3:=hq.h0
 have h4:=hq.h1
 have h5:=hq.h2
 have hmax : (h.length : Int)≤1010:=by
  have:=hpre.1
  simp only [gB,za,gHds,zm,h1,Option.some.injEq,Value.bool.injEq,decide_eq_false_iff_not] at this
  omega
 obtain ⟨u2,us,rfl,g2,hi3⟩:=zf hi2
 obtain ⟨K,k6,rfl,h6⟩:=zK g2
 rw [hρ] at h6
 refine zX (E:=E0) zU zG (sy:=sy) (fun F => noL_ok F hsy) (fun F => lCt_H h1 h3 h4 h5 h6 hsy hmax F) (rCt_w r) hρ hpre hrel hins ?_ ?_
 ·simp only [rCt_con,rCt_t,gA,gB,za,gHds,zm,h1,h3,h4,h5,h6,hsy,sym181,sym182,sym184,sym185,sym186,sym187]
  try simp
 ·simp only [rCt_l,gE,dZ,gB,za,g3,gHds,zm,h1,h3,h4,h5,h6,hsy,sym181,sym182,sym184,sym185,sym186,sym187]
  clear h1 h3 h4 h5 h6 hsy hρ hpre hrel hins g0 g1 g2 hi hi2 hi3 hq
  unfold cntH
  have bz : (p.of_ == 0) = decide (p.of_ = 0):=by rw [Bool.eq_iff_iff]; simp
  have bk : decide (p.known≤K) = !decide (K < p.known):=by rw [Bool.eq_iff_iff]; simp
  rw [bz]
  (repeat' apply And.intro) <;> intros <;> first | trivial | (simp_all; done) | (simp_all; omega) | (rw [bk]; simp_all; done)
open Go
theorem hasR_put (y : Rec5) : ∀ (m : List Rec5) (k : Int),hasR (putR y m) k = (decide (y.k = k) || hasR m k)
 | [],k => by unfold putR hasR; simp [Bool.beq_eq_decide_eq]
 | x :: m,k => by
   have ih:=hasR_put y m k
   unfold hasR at ih ⊢
   unfold putR
   by_cases h : x.k = y.k
   ·rw [if_pos h]
    simp only [List.any_cons,h]
    cases hb : (y.k == k) with
    | true => simp [beq_iff_eq.1 hb]
    | false => simp [beq_eq_false_iff_ne.1 hb]
   ·rw [if_neg h]
    simp only [List.any_cons,ih]
    cases (x.k == k) <;> simp
theorem getR_cons (x : Rec5) (m : List Rec5) (k : Int) : getR (x :: m) k = if x.k = k then x else getR m k:=by
 unfold getR
 by_cases h : x.k = k
 ·simp [h]
 ·have h' : (x.k == k) = false:=beq_eq_false_iff_ne.2 h
  simp only [List.find?_cons,h',h,if_false]
theorem getR_put (y : Rec5) : ∀ (m : List Rec5) (k : Int),getR (putR y m) k = if y.k = k then y else getR m k
 | [],k => by unfold putR; rw [getR_cons]
 | x :: m,k => by
   unfold putR
   by_cases h : x.k = y.k
   ·rw [if_pos h,getR_cons,getR_cons]
    by_cases h2 : y.k = k
    ·simp [h2]
    ·rw [if_neg h2,if_neg h2,if_neg (by rw [h]; exact h2)]
   ·rw [if_neg h,getR_cons,getR_cons,getR_put y m k]
    by_cases h2 : x.k = k
    ·rw [if_pos h2,if_pos h2,if_neg (by intro e; exact h (h2.trans e.symm))]
    ·rw [if_neg h2,if_neg h2]
theorem atF_cons (x : Flg) (m : List Flg) (k : Int) : atF (x :: m) k = if x.k = k then x.b else atF m k:=by
 unfold atF
 by_cases h : x.k = k
 ·simp [h]
 ·have h' : (x.k == k) = false:=beq_eq_false_iff_ne.2 h
  simp only [List.find?_cons,h',h,if_false]
theorem atF_put (k : Int) (b : Bool) : ∀ (m : List Flg) (k' : Int),atF (putF k b m) k' = if k = k' then b else atF m k'
 | [],k' => by unfold putF; rw [atF_cons]
 | x :: m,k' => by
   unfold putF
   by_cases h : x.k = k
   ·rw [if_pos h,atF_cons,atF_cons]
    by_cases h2 : k = k'
    ·simp [h2]
    ·rw [if_neg h2,if_neg h2,if_neg (by rw [h]; exact h2)]
   ·rw [if_neg h,atF_cons,atF_cons,atF_put k b m k']
    by_cases h2 : x.k = k'
    ·rw [if_pos h2,if_pos h2,if_neg (by intro e; exact h (h2.trans e.symm))]
    ·rw [if_neg h2,if_neg h2]
theorem hasRh_any (k : Int) : ∀ (h : List Hd3) (m : List Rec5),hasR (h.foldl (fun m x => putR (recHd x) m) m) k = (hasR m k || h.any fun x => x.id == k)
 | [],m => by simp
 | x :: h,m => by
   rw [List.foldl_cons,hasRh_any k h,hasR_put,List.any_cons,show (recHd x).k = x.id from rfl]
   rw [Bool.beq_eq_decide_eq,Bool.or_comm (decide (x.id = k)),Bool.or_assoc]
theorem hasH_is (h : List Hd3) (k : Int) : hasH h k = hasR (recMh h) k:=((hasRh_any k h []).trans (by simp [hasR,hasH])).symm
theorem voidh_any (k : Int) : ∀ (h : List Hd3) (m : List Flg),atF (h.foldl (fun m x => if x.of_ = 0 then m else putF x.of_ true m) m) k = (atF m k || h.any fun x => !(x.of_ == 0) && x.of_ == k)
 | [],m => by simp
 | x :: h,m => by
   rw [List.foldl_cons,voidh_any k h,List.any_cons]
   by_cases h1 : x.of_ = 0
   ·simp [h1]
   ·rw [if_neg h1,atF_put]
    by_cases h2 : x.of_ = k
    ·simp [h2,show ¬ k = 0 from fun e => h1 (h2.trans e)]
    ·have h2' : (x.of_ == k) = false:=beq_eq_false_iff_ne.2 h2
     simp [h2,h2']
theorem twcH_is (h : List Hd3) {k : Int} (hk : k≠0) : twcH h k = atF (voidMh h) k:=by
 have:=voidh_any k h []
 rw [show atF ([] : List Flg) k = false by simp [atF],Bool.false_or] at this
 refine Eq.trans ?_ this.symm
 unfold twcH
 congr 1
 funext x
 rw [Bool.eq_iff_iff]
 simp only [Bool.and_eq_true,Bool.not_eq_true',g3]
 constructor
 ·intro e; exact ⟨fun e0 => hk (e.symm.trans e0),e⟩
 ·intro e; exact e.2
def GoodH (h : List Hd3) : Prop:=∀ x ∈ h,getR (recMh h) x.id = recHd x
theorem goodH_snoc {h : List Hd3} {x : Hd3} (g : GoodH h) (hn : hasR (recMh h) x.id = false) : GoodH (h ++ [x]):=by
 intro y hy
 rw [recMh_snoc,getR_put]
 rcases List.mem_append.1 hy with hy | hy
 ·by_cases e : (recHd x).k = y.id
  ·have e' : x.id = y.id:=e
   have : hasH h x.id = true:=List.any_eq_true.2 ⟨y,hy,by simp [e']⟩
   rw [hasH_is,hn] at this
   cases this
  ·rw [if_neg e]; exact g y hy
 ·rw [List.mem_singleton.1 hy]
  rw [if_pos (show (recHd x).k = x.id from rfl)]
theorem nmdH_is {h : List Hd3} (g : GoodH h) (k : Int) : nmdH h k = (hasR (recMh h) k && (getR (recMh h) k).of_ == 0):=by
 rw [Bool.eq_iff_iff,← hasH_is]
 unfold nmdH hasH
 simp only [List.any_eq_true,Bool.and_eq_true,beq_iff_eq]
 constructor
 ·rintro ⟨x,hx,h0,rfl⟩
  exact ⟨⟨x,hx,rfl⟩,by rw [g x hx]; exact h0⟩
 ·rintro ⟨⟨x,hx,rfl⟩,b⟩
  rw [g x hx] at b
  exact ⟨x,hx,b,rfl⟩
theorem last_is (h : List Hd3) {k : Int} (hk : 0≤k) : (decide (0 < (h.length : Int)) && decide (k < lastH h)) = decide (k < lastSh h):=by
 rcases List.eq_nil_or_concat h with rfl | ⟨a,y,rfl⟩
 ·have : decide (k < 0) = false:=decide_eq_false (by omega)
  show (_ && _) = decide (k < 0)
  rw [this]
  simp
 ·rw [List.concat_eq_append,lastSh_snoc]
  have e : lastH (a ++ [y]) = y.known:=by simp [lastH]
  rw [e]
  simp
theorem ref_is {h : List Hd3} (g : GoodH h) {x : Hd3} (hk : 0≤x.known) : refH h x = hdE h x.id x.known x.of_:=by
 unfold refH hdE
 rw [hasH_is,last_is h hk,nmdH_is g]
 by_cases h0 : x.of_ = 0
 ·simp [h0]
 ·rw [twcH_is h h0]
theorem ref_new {h : List Hd3} {x : Hd3} (hr : refH h x = 0) : hasR (recMh h) x.id = false:=by
 unfold refH at hr
 cases hb : hasR (recMh h) x.id with
 | false => rfl
 | true => rw [hb] at hr; simp at hr
theorem rate_known {x : Rat9} (h : rateB x = true) : 0≤x.known:=by
 unfold rateB at h
 simp only [Bool.and_eq_true,zE,decide_eq_true_eq] at h
 omega
theorem headsR9_at (l : List Rat9) (i : Nat) : (zj l)[i]? = (l[i]?).map fun x => ⟨x.id,x.known,x.of_⟩:=by simp [zj]
theorem headsR9_take (l : List Rat9) (i : Nat) : (zj l).take i = zj (l.take i):=by simp [zj]
theorem badR_at {l : List Rat9} {i : Nat} {x : Rat9} (hp : l[i]? = some x) : badR l i = if i = 100 then 2 else bif rateB x then refH (zj (l.take i)) ⟨x.id,x.known,x.of_⟩ else 1:=by
 unfold badR
 rw [List.getD_eq_getElem?_getD,hp]
 rfl
theorem goodH_of {l : List Rat9} : ∀ {i : Nat},i≤l.length→(∀ k,k < i→badR l k = 0)→GoodH (zj (l.take i))
 | 0,_,_ => by intro x hx; simp [zj] at hx
 | i + 1,hi,h => by
   have hil : i < l.length:=by omega
   have hp : l[i]? = some l[i]:=List.getElem?_eq_getElem hil
   have ih:=goodH_of (i:=i) (by omega) fun k hk => h k (by omega)
   rw [List.take_add_one,hp]
   show GoodH (zj (l.take i ++ [l[i]]))
   rw [headsR9_snoc]
   refine goodH_snoc ih ?_
   have hb:=h i (by omega)
   rw [badR_at hp] at hb
   split at hb
   ·simp at hb
   ·cases hr : rateB l[i] with
    | false => rw [hr] at hb; simp at hb
    | true =>
      rw [hr] at hb
      exact ref_new hb
theorem bad_is {l : List Rat9} {i : Nat} {x : Rat9} (hp : l[i]? = some x) (h : ∀ k,k < i→badR l k = 0) : badR l i = if i = 100 then 2 else bif rateB x then hdE (zj (l.take i)) x.id x.known x.of_ else 1:=by
 have hil:=(List.getElem?_eq_some_iff.1 hp).1
 rw [badR_at hp]
 split
 ·rfl
 ·cases hr : rateB x with
  | false => rfl
  | true =>
    have:=ref_is (goodH_of (by omega) h) (x:=⟨x.id,x.known,x.of_⟩) (rate_known hr)
    exact this
open Go
noncomputable def RC : Env→yi:=libs [cLib rRt_con,cLib rSsY_con,cLib rHd_con]
theorem RC_ok (F : List (X×Bool)) {r : Rho} (h : r.sym = sy) : zt (E0.with F r) (RC (E0.with F r)):=yU fun c hc => by
 simp only [List.mem_cons,List.not_mem_nil,or_false] at hc
 rcases hc with rfl | rfl | rfl
 ·exact zH (E:=E0) rRt_cok F h
 ·exact zH (E:=E0) rSsY_cok F h
 ·exact zH (E:=E0) rHd_cok F h
def rck_vs : List X:=[.num 0]
abbrev qRL0 : X:=.ite (.app 130 [.cell 0 (.var 1) (.var 100),.cell 1 (.var 1) (.var 100),.cell 2 (.var 1) (.var 100),.cell 3 (.var 1) (.var 100),.cell 4 (.var 1) (.var 100),.cell 5 (.var 1) (.var 100),.cell 6 (.var 1) (.var 100),.cell 7 (.var 1) (.var 100),.cell 8 (.var 1) (.var 100)]) (.num 0) (.num 1)
abbrev qRL1 : X:=.app 181 [.lsub (.app 206 [.var 1]) (.num 0) (.var 100),.cell 0 (.app 206 [.var 1]) (.var 100),.cell 1 (.app 206 [.var 1]) (.var 100),.cell 2 (.app 206 [.var 1]) (.var 100)]
abbrev qRL2 : X:=.op2 .lt (.num 100) (.op1 .slen (.cell 3 (.var 1) (.var 100)))
abbrev qRL3 : X:=.op2 .lt (.var 100) (.op1 .len (.var 1))
abbrev qRL15 : X:=.app 200 [.var 1]
abbrev qRL4 : X:=.op2 .eq qRL15 (.num 0)
abbrev qRL5 : X:=.op1 .len (.app 206 [.var 1])
abbrev qRL6 : X:=.op2 .lt (.var 100) (.num 0)
abbrev qRL7 : X:=.op2 .eq (.var 100) (.num 100)
abbrev qRL8 : X:=.op2 .lt (.num 1010) (.op1 .len (.lsub (.app 206 [.var 1]) (.num 0) (.var 100)))
abbrev qRL9 : X:=.op2 .lt (.num 0) (.op1 .len (.var 1))
abbrev qRL10 : X:=.app 202 [.var 1]
abbrev qRL11 : X:=.op2 .eq qRL0 (.num 0)
abbrev qRL12 : X:=.op2 .lt qRL5 (.var 100)
abbrev qRL13 : X:=.op2 .lt (.var 100) qRL5
abbrev qRL14 : X:=.app 201 [.var 1]
abbrev qRLf1 : List (X×Bool):=[(qRL3,true),(qRL6,false),(qRL10,true)]
abbrev qRLf0 : List (X×Bool):=(qRL11,true) :: (qRL2,false) :: (qRL7,false) :: qRLf1
abbrev qRLf2 : List (X×Bool):=(qRL13,true) :: (qRL12,false) :: (qRL9,true) :: qRLf0
noncomputable def lRk_D : LoopD:={ N:=100,M:=102,size:=Zk 35,reads:=[(0,.rows 9 ratSch (.var 0) (.var 1) false 26)],pats:=[{ slots:=[(0,.slx 0 9 (.var 0) (.num 0) (.op1 .len (.var 1)) (.var 2)),(4,.sint .i64 (.var 100))],heap:=[] }],exits:=[(.exit 0,{ slots:=[],heap:=[],guard:=.op2 .eq (.app 200 [.var 1]) (.num 0) }),(.ret,{ slots:=[(2,.sint .i64 (.app 201 [.var 1])),(3,.sint .i64 (.app 200 [.var 1]))],heap:=[],guard:=.op1 .not (.op2 .eq (.app 200 [.var 1]) (.num 0)) })],own:=[],pre:=[(.app 202 [.var 1],true)],dfs:=[] }
noncomputable def lRk_run : Env→AF→ASt→Option (List Out):=Zh RC 9 (fun _ => Zl) (yh Tryz.prog 35 0)
def lRk0_F : List (X×Bool):=[(qRL6,false),(.app 202 [.var 1],true)]
noncomputable def lRk0_t : FTree:=(.fork qRL3 (.fork qRL7 (.leaf [.leave 1 []]) (.fork qRL2 .bad (.fork qRL11 (.fork qRL9 (.fork qRL12 .bad (.fork qRL13 (.fork qRL8 .bad (.fork (.op2 .eq qRL1 (.num 0)) (.leaf [.again 0 []]) (.leaf [.leave 1 []]))) .bad)) .bad) (.leaf [.leave 1 []])))) (.leaf [.leave 0 []]))
noncomputable def lRk0_l : List (List (X×Bool)×Option (List (Tgt×zo))):=[((qRL7,true) :: qRLf1,some [(.leave 1 [],[(qRL14,.var 100),(qRL15,.num 2),(.op1 .not qRL4,.boo true)])]),
 ((qRL2,true) :: (qRL7,false) :: qRLf1,none),
 ((qRL12,true) :: (qRL9,true) :: qRLf0,none),
 ((qRL8,true) :: qRLf2,none),
 ((.op2 .eq qRL1 (.num 0),true) :: (qRL8,false) :: qRLf2,some [(.again 0 [],[(.var 100,.op1 (.wrap .i64) (.op2 .add (.var 100) (.num 1)))])]),
 ((.op2 .eq qRL1 (.num 0),false) :: (qRL8,false) :: qRLf2,some [(.leave 1 [],[(qRL14,.var 100),(qRL15,qRL1),(.op1 .not qRL4,.boo true)])]),
 ((qRL13,false) :: (qRL12,false) :: (qRL9,true) :: qRLf0,none),
 ((qRL9,false) :: qRLf0,none),
 ((qRL11,false) :: (qRL2,false) :: (qRL7,false) :: qRLf1,some [(.leave 1 [],[(qRL14,.var 100),(qRL15,qRL0),(.op1 .not qRL4,.boo true)])]),
 ([(qRL3,false),(qRL6,false),(qRL10,true)],some [(.leave 0 [],[(qRL4,.boo true)])])]
theorem lRk0_w (r : Rho) : lRk_D.ways lRk_run E0 r 0 lRk0_F lRk0_t = some lRk0_l:=by kernel_rfl
theorem lRk_ok : lRk_D.ok = true:=by kernel_rfl
theorem ok_goodsL {l : List Rat9} (h : okR9 l = true) {i : Nat} {x : Rat9} (hp : l[i]? = some x) : (x.goods.size : Int)≤100:=by
 unfold okR9 at h
 simp only [Bool.and_eq_true,List.all_eq_true,decide_eq_true_eq] at h
 exact h.2 x (List.mem_of_getElem? hp)
def lRk_Inv (l : List Rat9) (j : Nat) (vals : List Value) : Prop:=
 j = 0∧∃ i : Nat,i≤l.length∧vals = [.int .i64 (i : Int)]∧∀ k,k < i→badR l k = 0
def lRk_mu (l : List Rat9) (_ : Nat) (vals : List Value) : Nat:=l.length - (vI (vals.getD 0 default)).toNat
theorem lRk_step {ρ : Rho} {l : List Rat9} (h1 : ρ.val 1 = some (ratsR l)) (hsy : ρ.sym = sy) (hsh : okR9 l = true) (j : Nat) (vals : List Value) (hI : lRk_Inv l j vals) : yI lRk_D lRk_run E0 ρ (lRk_Inv l) (lRk_mu l) j vals:=by
 obtain ⟨rfl,i,hi,rfl,hall⟩:=hI
 have hN : lRk_D.N = 100:=rfl
 have hmax:=ok_len hsh
 have xl {jq vq}:=@xL ρ lRk_D.N 100 [.int .i64 (i : Int)] jq vq hN
 have xh {jq vq}:=@xH ρ lRk_D.N 100 [.int .i64 (i : Int)] jq vq hN
 have v1:=xl (jq:=1) h1 (by decide)
 have v100:=xh (jq:=100) (vq:=.int .i64 (i : Int)) rfl (by decide)
 have vs : (ρ.ext lRk_D.N [.int .i64 (i : Int)]).sym = sy:=hsy
 have hF : zp (ρ.ext lRk_D.N [.int .i64 (i : Int)]) lRk0_F:=by
  simp only [lRk0_F,zp,gB,za,zh,gHds,zm,zd,v1,v100,vs,zg,hsh,Option.some.injEq,Value.bool.injEq,decide_eq_false_iff_not,and_true]
  omega
 suffices both : Zp (ρ.ext lRk_D.N [.int .i64 (i : Int)]) (lRk0_t.asks lRk0_F)∧zR lRk_D ρ (lRk_Inv l) (lRk_mu l) 0 [.int .i64 (i : Int)] lRk0_l from zD (lRk0_w _) hF both.1.ok both.2
 cases hp : l[i]? with
 | none =>
   have hge:=List.getElem?_eq_none_iff.1 hp
   have hge' : ¬ (i : Int) < l.length:=by omega
   have he : yy l = 0:=by unfold yy; rw [stopR_none fun k hk => hall k (by omega)]
   refine ⟨?_,?_⟩
   ·simp only [lRk0_t,lRk0_F,gA,gB,za,zh,gHds,zm,zd,v1,v100,vs,zg,sym130,zl,zx,sym206,sym181,hsh,Int.toNat_natCast,hp,hge']
    try simp
   ·simp only [lRk0_l,gE,dZ,gB,za,g3,zh,gHds,zm,zd,v1,v100,vs,h1,hsy,zg,sym130,zl,zx,sym206,sym181,hsh,Int.toNat_natCast,hp,hge',he,reduceCtorEq,gR]
    try simp
 | some x =>
   have hil : i < l.length:=(List.getElem?_eq_some_iff.1 hp).1
   have hil1 : (i : Int) < l.length:=by omega
   have hbad:=bad_is hp hall
   have hgx:=ok_goodsL hsh hp
   have hwi : IntKind.i64.wrap ((i : Int) + 1) = ((i + 1 : Nat) : Int):=by rw [IntWalk.i64_in _ (by omega)]; rfl
   have h100 : ((i : Int) = 100) = (i = 100):=by rw [eq_iff_iff]; omega
   have hAt : (zj l)[i]? = some ⟨x.id,x.known,x.of_⟩:=by rw [headsR9_at,hp]; rfl
   have hA0 : (zj l).take i = zj (l.take i):=headsR9_take l i
   have hL0 : ((l.take i).length : Int) = i:=by rw [List.length_take]; omega
   have n1 : ¬ (100 : Int) < x.goods.size:=by omega
   have n3 : ¬ (l.length : Int) < i:=by omega
   have n4 : (0 : Int) < l.length:=by omega
   have n7 : ¬ (1010 : Int) < i:=by omega
   have out : ∀ e,badR l i = e→e≠0→chkIR l = i∧yy l = e:=fun e he hne => by
    have:=stopR_some hil hall (by rw [he]; exact hne)
    unfold chkIR yy
    rw [this]
    exact ⟨rfl,he⟩
   have go : badR l i = 0→∃ vals',(ρ.ext lRk_D.N vals').val 100 = some (.int .i64 ((i + 1 : Nat) : Int))∧lRk_Inv l 0 vals'∧lRk_mu l 0 vals' < lRk_mu l 0 [.int .i64 (i : Int)]:=by
    intro hb
    refine ⟨[.int .i64 ((i + 1 : Nat) : Int)],?_,⟨rfl,i + 1,by omega,rfl,fun k hk => ?_⟩,by simp [lRk_mu,vI]; omega⟩
    ·exact xH hN rfl (by decide)
    ·rcases Nat.lt_or_ge k i with h | h
     ·exact hall k h
     ·rw [show k = i by omega]; exact hb
   have hxs : rateB ⟨x.id,x.known,x.from_,x.goods,x.num,x.den,x.cart,x.store,x.of_⟩ = rateB x:=rfl
   generalize hE : hdE (zj (l.take i)) x.id x.known x.of_ = he at hbad
   refine ⟨?_,?_⟩
   all_goals (simp only [lRk0_t,lRk0_F,lRk0_l,gA,gB,za,zh,gHds,zm,zd,yq,zR,zB,zI,Zn,Zo,zT,zY,dZ,g3,v1,v100,vs,h1,hsy,zg,sym130,zl,zx,sym206,sym181,hsh,Int.toNat_natCast,Int.toNat_zero,List.drop_zero,hp,Option.bind_some,gN,hd0,hd1,hd2,hil1,hwi,hAt,hA0,hL0,hxs,hE,h100,n1,n3,n4,n7,reduceCtorEq,Bool.false_eq_true,false_implies,true_implies,and_true,true_and])
   all_goals (clear v1 v100 vs h1 hsy hF hE)
   all_goals (cases eS : rateB x)
   all_goals (rw [eS] at hbad)
   all_goals ((repeat' apply And.intro) <;> intros <;> first
    | trivial
    | contradiction
    | (exact go (by rw [hbad]; simp_all))
    | (obtain ⟨oa,ob⟩:=out 2 (by rw [hbad]; simp_all) (by decide); simp [oa,ob]; done)
    | (obtain ⟨oa,ob⟩:=out 1 (by rw [hbad]; simp_all) (by decide); simp [oa,ob]; done)
    | (obtain ⟨oa,ob⟩:=out he (by rw [hbad]; simp_all) (by assumption); simp_all; done)
    | (exfalso; omega)
    | (simp_all; done))
noncomputable def rCks_con : Con:={ f:=35,args:=[ratsArg 0 0],N:=1,M:=1,pre:=[(.app 202 [.var 1],true)],out:=.tuple [.sint .i64 (.ite (.op2 .eq (.app 200 [.var 1]) (.num 0)) (.num 0) (.app 201 [.var 1])),.sint .i64 (.app 200 [.var 1])],news:=[] }
noncomputable def rCks_call : Env→yC:=fun E => zw E (evH E (RC E) ((fun E => oneH 35 (yR [(2,lRk_D.hook E.facts rck_vs)])) E) 9)
noncomputable def rCks_t : GTree:=(.fork qRL4 (.leaf [[]]) (.leaf [[]]))
noncomputable def rCks_l : List (List (X×Bool)×Option zo):=[([(qRL4,true),(qRL10,true)],some [(.ite qRL4 (.num 0) qRL14,.num 0),(qRL15,.num 0)]),
 ([(qRL4,false),(qRL10,true)],some [(.ite qRL4 (.num 0) qRL14,qRL14),(qRL15,qRL15)])]
theorem rCks_w (r : Rho) : rCks_con.fn.ways rCks_call E0 r rCks_con.pre rCks_t = some rCks_l:=by kernel_rfl
theorem lRk_H {ρ : Rho} {l : List Rat9} (h1 : ρ.val 1 = some (ratsR l)) (hsy : ρ.sym = sy) (hsh : okR9 l = true) (F : List (X×Bool)) : yV (E0.with F ρ) (oneH 35 (yR [(2,lRk_D.hook (E0.with F ρ).facts rck_vs)])):=by
 refine yN (n:=1) (fun f fn h => h) (by kernel_rfl) fun i hi => ?_
 obtain rfl : i = 0:=by omega
 rw [yA (show Zr (yh (E0.with F ρ).P 35 0) = 2 by kernel_rfl)]
 refine hook_ok (E₀:=E0) (run:=lRk_run) (ρ:=ρ) (Inv:=lRk_Inv l) (μ:=lRk_mu l) zU lRk_ok (fun F r' h => ?_) (fun hp => ⟨lRk_step h1 hsy hsh,[.int .i64 0],?_,rfl,0,Nat.zero_le _,rfl,fun k hk => by omega⟩)
 ·exact yl zU (RC_ok F (h.trans hsy)) fun _ _ => yj
 ·simp only [rck_vs,gB,za,zh,gHds,zm,zd]
theorem rCks_cok : rCks_con.Ok Tryz.prog sy:=by
 intro r σ w us hsy hρ hpre hrel hins
 obtain ⟨l,h1⟩:=zS hrel rfl hρ
 have hsh : okR9 l = true:=by
  have:=hpre.1
  simpa only [gB,za,zh,gHds,zm,zd,h1,hsy,zg,Option.some.injEq,Value.bool.injEq] using this
 refine zX (E:=E0) zU zG (sy:=sy) (fun F => RC_ok F hsy) (fun F => lRk_H h1 hsy hsh F) (rCks_w r) hρ hpre hrel hins ?_ ?_
 ·simp only [rCks_con,rCks_t,gA,gB,za,zh,gHds,zm,zd,h1,hsy,zg,sym130,zl,zx,sym206,sym181]
  try simp
 ·by_cases he : yy l = 0
  all_goals (simp only [rCks_l,gE,dZ,gB,za,g3,zh,gHds,zm,zd,h1,hsy,zg,sym130,zl,zx,sym206,sym181])
  ·rw [he]
   simp
  ·have hb : (yy l == 0) = false:=by simpa using he
   rw [hb]
   simp [he]
end Go.Proofs.YtfddkbbjnghefaaGreatDoor.Zs
