/-
  Contracts of the reference: what a rate is; what rates and sales have in common.
-/
import Derived.Test.YtfddkbbjnghefaaGreatDoorFoConH
import Derived.KernelRfl
set_option linter.unusedSimpArgs false
set_option maxHeartbeats 4000000
set_option linter.unusedVariables false
namespace Go.Proofs.YtfddkbbjnghefaaGreatDoor.Zs
open Go
abbrev qRI0 : X:=.ite (.app 130 [.var 0,.var 1,.var 2,.var 3,.var 4,.var 5,.var 6,.var 7,.var 8]) (.num 0) (.num 1)
abbrev qRI1 : X:=.op2 .sat (.var 0) (.var 100)
abbrev qRI2 : X:=.app 10 [.var 0,.num 1,.num 1000000]
abbrev qRI3 : X:=.app 10 [.var 1,.num 0,.num 1000000]
abbrev qRI4 : X:=.op2 .lt (.num 100) (.op1 .slen (.var 3))
abbrev qRI5 : X:=.op1 .slen (.var 0)
abbrev qRI6 : X:=.op2 .eq (.var 8) (.num 0)
abbrev qRI7 : X:=.app 10 [.var 2,.num 0,.num 1000000]
abbrev qRI8 : X:=.op2 .eqs (.var 0) (.str [])
abbrev qRI9 : X:=.op2 .eqs (.var 3) (.str [])
abbrev qRI10 : X:=.app 10 [.var 8,.num 1,.num 1000000]
abbrev qRI11 : X:=.op2 .lt (.var 100) (.num 0)
abbrev qRI12 : X:=.app 10 [.var 6,.num 0,.num 100000]
abbrev qRI13 : X:=.op1 (.wrap .i64) (.op2 .add (.var 100) (.num 1))
abbrev qRI14 : X:=.op2 .eqs (.var 0) (.str [97,108,108])
abbrev qRI15 : X:=.op2 .lt (.var 100) qRI5
abbrev qRI16 : X:=.app 132 [.var 4,.var 5]
abbrev qRI17 : X:=.op2 .lt qRI1 (.num 97)
abbrev qRI18 : X:=.op2 .lt qRI1 (.num 48)
abbrev qRI19 : X:=.op2 .eq qRI1 (.num 45)
abbrev qRI20 : X:=.app 10 [.var 1,.num 1,.num 1000000]
abbrev qRI21 : X:=.app 10 [.var 7,.num 0,.num 100000]
abbrev qRI22 : X:=.op2 .sat (.var 0) (.num 0)
abbrev qRI23 : X:=.op2 .or qRI8 (.app 133 [.var 0])
abbrev qRI24 : X:=.op2 .lt (.num 100) qRI5
abbrev qRI25 : X:=.op2 .eq (.var 2) (.num 0)
abbrev qRI26 : X:=.op2 .lt (.num 57) qRI1
abbrev qRI27 : X:=.app 10 [.var 0,.num 0,.var 1]
abbrev qRI28 : X:=.op2 .lt (.num 122) qRI1
abbrev qRI29 : X:=.op2 .lt (.num 24) qRI5
abbrev qRI30 : X:=.op2 .eq (.var 4) (.num 0)
abbrev qRI31 : X:=.app 24 [.var 0]
abbrev qRI32 : X:=.op2 .lt (.num 0) qRI5
abbrev qRI33 : X:=.op2 .eq (.var 5) (.num 0)
abbrev qRI34 : X:=.op2 .lt qRI22 (.num 97)
abbrev qRI35 : X:=.app 133 [.var 3]
abbrev qRI36 : X:=.app 52 [.var 0,.var 1]
abbrev qRI37 : X:=.op2 .eq (.var 6) (.num 0)
abbrev qRI38 : X:=.op2 .lt (.num 122) qRI22
abbrev qRI39 : X:=.app 55 [.var 0]
abbrev qRIf4 : List (X×Bool):=[(qRI2,true),(qRI4,false)]
abbrev qRIf0 : List (X×Bool):=(qRI7,true) :: (qRI3,true) :: (qRI6,true) :: qRIf4
abbrev qRIf1 : List (X×Bool):=(qRI25,true) :: (qRI10,true) :: (qRI3,true) :: (qRI6,false) :: qRIf4
abbrev qRIf2 : List (X×Bool):=[(qRI15,true),(qRI11,false)]
abbrev qRIf3 : List (X×Bool):=[(qRI29,false),(qRI14,false),(qRI8,false),(qRI24,false)]
abbrev qRIf5 : List (X×Bool):=(qRI28,true) :: (qRI17,false) :: qRIf2
abbrev qRIf6 : List (X×Bool):=(qRI16,true) :: (qRI35,true) :: (qRI9,false) :: qRIf0
abbrev qRIf7 : List (X×Bool):=(qRI33,true) :: (qRI30,true) :: (qRI9,true) :: qRIf1
noncomputable def rwithin_con : Con:={ f:=89,args:=[.one (.int .i64 0),.one (.int .i64 1),.one (.int .i64 2)],N:=0,M:=0,pre:=[],out:=.sbool (.app 10 [.var 0,.var 1,.var 2]),news:=[] }
noncomputable def rwithin_call : Env→yC:=fun E => zw E (evH E (noL E) ((fun _ => yo) E) 4)
noncomputable def rwithin_t : GTree:=(.fork (.op2 .lt (.var 0) (.var 1)) (.leaf [[]]) (.leaf [[]]))
noncomputable def rwithin_l : List (List (X×Bool)×Option zo):=[([(.op2 .lt (.var 0) (.var 1),true)],some [(.app 10 [.var 0,.var 1,.var 2],.boo false)]),
 ([(.op2 .lt (.var 0) (.var 1),false)],some [(.app 10 [.var 0,.var 1,.var 2],.op1 .not (.op2 .lt (.var 2) (.var 0)))])]
theorem rwithin_w (r : Rho) : rwithin_con.fn.ways rwithin_call E0 r rwithin_con.pre rwithin_t = some rwithin_l:=by kernel_rfl
theorem rwithin_cok : rwithin_con.Ok Tryz.prog sy:=by
 intro r σ w us hsy hρ hpre hrel hins
 obtain ⟨u0,us,rfl,g0,hins⟩:=zf hins
 obtain ⟨u1,us,rfl,g1,hins⟩:=zf hins
 obtain ⟨u2,us,rfl,g2,hins⟩:=zf hins
 obtain ⟨a,k0,rfl,h0⟩:=zK g0
 obtain ⟨b,k1,rfl,h1⟩:=zK g1
 obtain ⟨c,k2,rfl,h2⟩:=zK g2
 rw [hρ] at h0 h1 h2
 have hs : r.sym 10 [.int k0 a,.int k1 b,.int k2 c] = some (.bool (zE a b c)):=by rw [hsy]; rfl
 refine zX (E:=E0) zU zG (sy:=sy) (fun F => noL_ok F hsy) (fun F => yP) (rwithin_w r) hρ hpre hrel hins ?_ ?_
 ·simp only [rwithin_con,rwithin_t,gA,gB,za,h0,h1,h2,hs]
 ·simp only [rwithin_l,gE,dZ,gB,za,g3,h0,h1,h2,hs]
  (repeat' apply And.intro) <;> intros <;> first | trivial | (simp [zE]; omega) | (rw [Bool.eq_iff_iff]; simp [zE]; omega)
noncomputable def lGd_D : LoopD:={ N:=100,M:=101,size:=Zk 108,reads:=[],pats:=[{ slots:=[(0,.sstr (.var 0)),(3,.sint .i64 (.var 100))],heap:=[] }],exits:=[(.exit 0,{ slots:=[],heap:=[],guard:=.app 24 [.var 0] }),(.ret,{ slots:=[(2,.sbool (.boo false))],heap:=[],guard:=.op1 .not (.app 24 [.var 0]) })],own:=[],pre:=[],dfs:=[] }
noncomputable def lGd_run : Env→AF→ASt→Option (List Out):=Zh noL 6 (fun _ => Zl) (yh Tryz.prog 108 0)
def lGd0_F : List (X×Bool):=[(qRI11,false)]
noncomputable def lGd0_t : FTree:=(.fork qRI15 (.fork qRI17 (.fork qRI18 (.fork qRI19 (.leaf [.again 0 []]) (.leaf [.leave 1 []])) (.fork qRI26 (.fork qRI19 (.leaf [.again 0 []]) (.leaf [.leave 1 []])) (.leaf [.again 0 []]))) (.fork qRI28 (.fork qRI18 (.fork qRI19 (.leaf [.again 0 []]) (.leaf [.leave 1 []])) (.fork qRI26 (.fork qRI19 (.leaf [.again 0 []]) (.leaf [.leave 1 []])) (.leaf [.again 0 []]))) (.leaf [.again 0 []]))) (.leaf [.leave 0 []]))
noncomputable def lGd0_l : List (List (X×Bool)×Option (List (Tgt×zo))):=[((qRI19,true) :: (qRI18,true) :: (qRI17,true) :: qRIf2,some [(.again 0 [],[(.var 100,qRI13)])]),
 ((qRI19,false) :: (qRI18,true) :: (qRI17,true) :: qRIf2,some [(.leave 1 [],[(.op1 .not qRI31,.boo true)])]),
 ((qRI19,true) :: (qRI26,true) :: (qRI18,false) :: (qRI17,true) :: qRIf2,some [(.again 0 [],[(.var 100,qRI13)])]),
 ((qRI19,false) :: (qRI26,true) :: (qRI18,false) :: (qRI17,true) :: qRIf2,some [(.leave 1 [],[(.op1 .not qRI31,.boo true)])]),
 ((qRI26,false) :: (qRI18,false) :: (qRI17,true) :: qRIf2,some [(.again 0 [],[(.var 100,qRI13)])]),
 ((qRI19,true) :: (qRI18,true) :: qRIf5,some [(.again 0 [],[(.var 100,qRI13)])]),
 ((qRI19,false) :: (qRI18,true) :: qRIf5,some [(.leave 1 [],[(.op1 .not qRI31,.boo true)])]),
 ((qRI19,true) :: (qRI26,true) :: (qRI18,false) :: qRIf5,some [(.again 0 [],[(.var 100,qRI13)])]),
 ((qRI19,false) :: (qRI26,true) :: (qRI18,false) :: qRIf5,some [(.leave 1 [],[(.op1 .not qRI31,.boo true)])]),
 ((qRI26,false) :: (qRI18,false) :: qRIf5,some [(.again 0 [],[(.var 100,qRI13)])]),
 ((qRI28,false) :: (qRI17,false) :: qRIf2,some [(.again 0 [],[(.var 100,qRI13)])]),
 ([(qRI15,false),(qRI11,false)],some [(.leave 0 [],[(qRI31,.boo true)])])]
theorem lGd0_w (r : Rho) : lGd_D.ways lGd_run E0 r 0 lGd0_F lGd0_t = some lGd0_l:=by kernel_rfl
theorem lGd_ok : lGd_D.ok = true:=by kernel_rfl
def lGd_Inv (s : ByteArray) (j : Nat) (vals : List Value) : Prop:=
 j = 0∧∃ i : Nat,i≤s.size∧vals = [.int .i64 i]∧allUpto goodsC s i = true
def lGd_mu (s : ByteArray) (_ : Nat) (vals : List Value) : Nat:=s.size - (vI (vals.getD 0 default)).toNat
theorem lGd_step {ρ : Rho} {s : ByteArray} (h0 : ρ.val 0 = some (.string s)) (hsy : ρ.sym = sy) (hmax : (s.size : Int)≤1000) (j : Nat) (vals : List Value) (hI : lGd_Inv s j vals) :
  yI lGd_D lGd_run E0 ρ (lGd_Inv s) (lGd_mu s) j vals:=by
 obtain ⟨rfl,i,hi,rfl,hall⟩:=hI
 have hN : lGd_D.N = 100:=rfl
 have xl {jq vq}:=@xL ρ lGd_D.N 100 [.int .i64 i] jq vq hN
 have xh {jq vq}:=@xH ρ lGd_D.N 100 [.int .i64 i] jq vq hN
 have v0:=xl (jq:=0) h0 (by decide)
 have v100:=xh (jq:=100) (vq:=.int .i64 i) rfl (by decide)
 have vs : (ρ.ext lGd_D.N [.int .i64 i]).sym = sy:=hsy
 have hs : sy 24 [.string s] = some (.bool (goodsAll s)):=rfl
 have hbyte : ∀ q : Nat,(((s[(q : Int).toNat]?.map UInt8.toNat).getD 0 : Nat) : Int) = byteAt s q:=fun q => by simp [byteAt]
 have bad : i < s.size→goodsC (byteAt s i) = false→goodsAll s = false:=fun hlt hb => by
  cases hf : goodsAll s with
  | false => rfl
  | true =>
    have:=allUpto_at goodsC s hf i hlt
    rw [hb] at this; cases this
 have badN : i < s.size→goodsC (byteAt s i) = false→(!goodsAll s) = true:=fun h1 h2 => by rw [bad h1 h2]; rfl
 refine zD (lGd0_w _) (F:=lGd0_F) ?_ (Zp.ok ?_) ?_
 ·simp only [lGd0_F,zp,gB,za,v100,Option.some.injEq,Value.bool.injEq,decide_eq_false_iff_not,and_true]
  omega
 ·simp only [lGd0_t,lGd0_F,gA,gB,za,v0,v100,vs,hs]
 ·simp only [lGd0_l,gE,dZ,gB,za,g3,v0,v100,vs,h0,hsy,hs,hbyte]
  have go : (i : Int) < s.size→goodsC (byteAt s i) = true→∃ vals',((ρ.ext lGd_D.N vals').val 100 = some (.int .i64 (IntKind.i64.wrap ((i : Int) + 1)))) ∧
    lGd_Inv s 0 vals'∧lGd_mu s 0 vals' < lGd_mu s 0 [.int .i64 i]:=by
   intro hlt hb
   refine ⟨[.int .i64 ((i + 1 : Nat) : Int)],?_,⟨rfl,i + 1,by omega,rfl,?_⟩,?_⟩
   ·rw [yn _ _ _ _ (by rw [hN]; omega),IntWalk.i64_in _ (by omega)]; rfl
   ·simp only [allUpto,hall,hb,Bool.and_self]
   ·simp [lGd_mu,vI]; omega
  clear hsy vs v0 v100 h0 hs hN
  (repeat' apply And.intro) <;> intros <;> first
    | (exfalso; omega)
    | (refine go (by omega) ?_; clear bad badN go; simp only [goodsC,Bool.or_eq_true,Bool.or_eq_false_iff,Bool.and_eq_true,Bool.and_eq_false_iff,decide_eq_true_eq,decide_eq_false_iff_not,g3] at *; omega)
    | (refine bad (by omega) ?_; clear bad badN go; simp only [goodsC,Bool.or_eq_true,Bool.or_eq_false_iff,Bool.and_eq_true,Bool.and_eq_false_iff,decide_eq_true_eq,decide_eq_false_iff_not,g3] at *; omega)
    | (refine badN (by omega) ?_; clear bad badN go; simp only [goodsC,Bool.or_eq_true,Bool.or_eq_false_iff,Bool.and_eq_true,Bool.and_eq_false_iff,decide_eq_true_eq,decide_eq_false_iff_not,g3] at *; omega)
    | (have : i = s.size:=by omega
       subst this
       exact hall)
    | (exfalso; omega)
noncomputable def rGd_con : Con:={ f:=108,args:=[.one (.str 0)],N:=0,M:=0,pre:=[(qRI24,false)],out:=.sbool (.op2 .or qRI8 (.app 133 [.var 0])),news:=[] }
noncomputable def rGd_call : Env→yC:=fun E => zw E (evH E (noL E) ((fun E => oneH 108 (yR [(6,lGd_D.hook E.facts nm_vs)])) E) 6)
noncomputable def rGd_t : GTree:=(.fork qRI8 (.leaf [[]]) (.fork qRI14 (.leaf [[]]) (.fork qRI29 (.leaf [[]]) (.fork qRI32 (.fork qRI34 (.leaf [[]]) (.fork qRI38 (.leaf [[]]) (.fork qRI31 (.leaf [[]]) (.leaf [[]])))) .bad))))
noncomputable def rGd_l : List (List (X×Bool)×Option zo):=[([(qRI8,true),(qRI24,false)],some [(qRI23,.boo true)]),
 ([(qRI14,true),(qRI8,false),(qRI24,false)],some [(qRI23,.boo false)]),
 ([(qRI29,true),(qRI14,false),(qRI8,false),(qRI24,false)],some [(qRI23,.boo false)]),
 ((qRI34,true) :: (qRI32,true) :: qRIf3,some [(qRI23,.boo false)]),
 ((qRI38,true) :: (qRI34,false) :: (qRI32,true) :: qRIf3,some [(qRI23,.boo false)]),
 ((qRI31,true) :: (qRI38,false) :: (qRI34,false) :: (qRI32,true) :: qRIf3,some [(qRI23,.boo true)]),
 ((qRI31,false) :: (qRI38,false) :: (qRI34,false) :: (qRI32,true) :: qRIf3,some [(qRI23,.boo false)]),
 ((qRI32,false) :: qRIf3,none)]
theorem rGd_w (r : Rho) : rGd_con.fn.ways rGd_call E0 r rGd_con.pre rGd_t = some rGd_l:=by kernel_rfl
theorem lGd_H {r : Rho} {s : ByteArray} (h0 : r.val 0 = some (.string s)) (hmax : (s.size : Int)≤1000) (hsy : r.sym = sy) (F : List (X×Bool)) :
  yV (E0.with F r) (oneH 108 (yR [(6,lGd_D.hook (E0.with F r).facts nm_vs)])):=by
 refine yN (n:=1) (fun f fn h => h) (by kernel_rfl) fun i hi => ?_
 obtain rfl : i = 0:=by omega
 rw [yA (show Zr (yh (E0.with F r).P 108 0) = 6 by kernel_rfl)]
 refine hook_ok (E₀:=E0) (run:=lGd_run) (ρ:=r) (Inv:=lGd_Inv s) (μ:=lGd_mu s) zU lGd_ok (fun F r' h => ?_) (fun _ => ⟨lGd_step h0 hsy hmax,[.int .i64 0],?_,rfl,0,Nat.zero_le _,rfl,rfl⟩)
 ·exact yl zU (noL_ok F (h.trans hsy)) fun _ _ => yj
 ·simp only [nm_vs,gB,za]
theorem rGd_cok : rGd_con.Ok Tryz.prog sy:=by
 intro r σ w us hsy hρ hpre hrel hins
 obtain ⟨u0,us,rfl,g0,hins⟩:=zf hins
 obtain ⟨s,rfl,h0⟩:=yz g0
 rw [hρ] at h0
 have hmax : (s.size : Int)≤100:=by
  have:=hpre.1
  simp only [gB,za,h0,Option.some.injEq,Value.bool.injEq,decide_eq_false_iff_not] at this
  omega
 have hbyte : (((s[(0 : Int).toNat]?.map UInt8.toNat).getD 0 : Nat) : Int) = byteAt s 0:=rfl
 have hz : (s.size : Int)≤0→s = z8 []:=fun h => by
  have h1 : s.size = 0:=by omega
  obtain ⟨⟨l⟩⟩:=s
  cases l with
  | nil => rfl
  | cons a l => simp [ByteArray.size] at h1
 refine zX (E:=E0) zU zG (sy:=sy) (fun F => noL_ok F hsy) (fun F => lGd_H h0 (by omega) hsy F) (rGd_w r) hρ hpre hrel hins ?_ ?_
 ·simp only [rGd_con,rGd_t,gA,gB,za,h0,hsy,sym10,sym24,sym133]
 ·simp only [rGd_l,gE,dZ,gB,za,g3,h0,hsy,sym10,sym24,sym133,hbyte]
  clear hsy hρ hpre hrel hins g0 h0
  simp only [nameB]
  (repeat' apply And.intro) <;> intros <;> first
    | trivial
    | (exfalso; have h1:=hz (by omega); have h2 : (s == z8 []) = true:=(by rw [h1]; first | rfl | decide | simp); simp only [‹(s == z8 []) = false›,Bool.false_eq_true] at h2; done)
    | (exfalso; have h1:=hz (by omega); have h2 : ¬ (s == z8 []) = false:=(by rw [h1]; first | decide | simp); exact h2 (by assumption))
    | (clear hz hbyte hmax; simp_all [zE]; done)
    | (clear hz hbyte hmax; simp_all [zE]; omega)
    | (clear hz hbyte; exfalso; simp_all [zE]; omega)
noncomputable def lCm_D : LoopD:={ N:=100,M:=102,size:=Zk 127,reads:=[],pats:=[{ slots:=[(0,.sint .i64 (.var 100)),(1,.sint .i64 (.var 101))],heap:=[] }],exits:=[(.exit 0,{ slots:=[(0,.sint .i64 (.app 52 [.var 0,.var 1]))],heap:=[] })],own:=[],pre:=[(.app 55 [.var 0],true),(.app 55 [.var 1],true)],dfs:=[] }
noncomputable def lCm_run : Env→AF→ASt→Option (List Out):=Zh noL 4 (fun _ => Zl) (yh Tryz.prog 127 0)
def lCm0_F : List (X×Bool):=[]
noncomputable def lCm0_t : FTree:=(.fork (.op2 .eq (.var 101) (.num 0)) (.leaf [.leave 0 []]) (.leaf [.again 0 []]))
noncomputable def lCm0_l : List (List (X×Bool)×Option (List (Tgt×zo))):=[([(.op2 .eq (.var 101) (.num 0),true)],some [(.leave 0 [],[(qRI36,.var 100)])]),
 ([(.op2 .eq (.var 101) (.num 0),false)],some [(.again 0 [],[(.var 100,.var 101),(.var 101,.op1 (.kind .i64) (.op2 .mod (.var 100) (.var 101)))])])]
theorem lCm0_w (r : Rho) : lCm_D.ways lCm_run E0 r 0 lCm0_F lCm0_t = some lCm0_l:=by kernel_rfl
theorem lCm_ok : lCm_D.ok = true:=by kernel_rfl
def lCm_Inv (k0 k1 : IntKind) (a b : Int) (j : Nat) (vals : List Value) : Prop:=
 j = 0∧∃ (x y : Int) (j0 j1 : IntKind),vals = [.int j0 x,.int j1 y]∧wideB x = true∧wideB y = true∧lastI x y = lastI a b∧lastK j0 j1 x y = lastK k0 k1 a b
def lCm_mu (_ : Nat) (vals : List Value) : Nat:=(vI (vals.getD 1 default)).natAbs
theorem lCm_step {ρ : Rho} {a b : Int} {k0 k1 : IntKind} (h0 : ρ.val 0 = some (.int k0 a)) (h1 : ρ.val 1 = some (.int k1 b)) (hsy : ρ.sym = sy) (j : Nat) (vals : List Value) (hI : lCm_Inv k0 k1 a b j vals) :
  yI lCm_D lCm_run E0 ρ (lCm_Inv k0 k1 a b) lCm_mu j vals:=by
 obtain ⟨rfl,x,y,j0,j1,rfl,hx,hy,hl,hk⟩:=hI
 have hN : lCm_D.N = 100:=rfl
 have xl {jq vq}:=@xL ρ lCm_D.N 100 [.int j0 x,.int j1 y] jq vq hN
 have xh {jq vq}:=@xH ρ lCm_D.N 100 [.int j0 x,.int j1 y] jq vq hN
 have v0:=xl (jq:=0) h0 (by decide)
 have v1:=xl (jq:=1) h1 (by decide)
 have v100:=xh (jq:=100) (vq:=.int j0 x) rfl (by decide)
 have v101:=xh (jq:=101) (vq:=.int j1 y) rfl (by decide)
 have vs : (ρ.ext lCm_D.N [.int j0 x,.int j1 y]).sym = sy:=hsy
 refine zD (lCm0_w _) (F:=lCm0_F) ?_ (Zp.ok ?_) ?_
 ·simp only [lCm0_F,zp]
 ·simp only [lCm0_t,lCm0_F,gA,gB,za,v0,v1,v100,v101,vs,sym50,sym52,sym55]
 ·simp only [lCm0_l,gE,dZ,gB,za,v0,v1,v100,v101,vs,h0,h1,hsy,sym50,sym52,sym55,g3]
  refine ⟨fun e => ?_,fun e => ⟨[.int j1 y,.int .i64 (x.tmod y)],⟨?_,?_⟩,⟨rfl,y,x.tmod y,j1,.i64,rfl,hy,wide_tmod hy e,by rw [← lastI_step _ _ e]; exact hl,by rw [lastK_step j0 j1 x y e]; exact hk⟩,?_⟩⟩
  ·subst e
   rw [lastI_zero] at hl
   simp only [lastK,if_true] at hk
   exact ⟨hk.symm,hl.symm⟩
  ·exact xH hN rfl (by decide)
  ·exact xH hN rfl (by decide)
  ·exact tmod_lt x y e
noncomputable def rCm_con : Con:={ f:=127,args:=[.one (.int .i64 0),.one (.int .i64 1)],N:=0,M:=0,pre:=[(.app 55 [.var 0],true),(.app 55 [.var 1],true)],out:=.sint .i64 (.app 52 [.var 0,.var 1]),news:=[] }
noncomputable def rCm_call : Env→yC:=fun E => zw E (evH E (noL E) ((fun E => oneH 127 (yR [(1,lCm_D.hook E.facts div_vs)])) E) 4)
noncomputable def rCm_t : GTree:=(.leaf [[]])
noncomputable def rCm_l : List (List (X×Bool)×Option zo):=[([(qRI39,true),(.app 55 [.var 1],true)],some [(qRI36,qRI36)])]
theorem rCm_w (r : Rho) : rCm_con.fn.ways rCm_call E0 r rCm_con.pre rCm_t = some rCm_l:=by kernel_rfl
theorem lCm_H {r : Rho} {a b : Int} {k0 k1 : IntKind} (h0 : r.val 0 = some (.int k0 a)) (h1 : r.val 1 = some (.int k1 b)) (ha : wideB a = true) (hb : wideB b = true) (hsy : r.sym = sy) (F : List (X×Bool)) :
  yV (E0.with F r) (oneH 127 (yR [(1,lCm_D.hook (E0.with F r).facts div_vs)])):=by
 refine yN (n:=1) (fun f fn h => h) (by kernel_rfl) fun i hi => ?_
 obtain rfl : i = 0:=by omega
 rw [yA (show Zr (yh (E0.with F r).P 127 0) = 1 by kernel_rfl)]
 refine hook_ok (E₀:=E0) (run:=lCm_run) (ρ:=r) (Inv:=lCm_Inv k0 k1 a b) (μ:=lCm_mu) zU lCm_ok (fun F r' h => ?_) (fun _ => ⟨lCm_step h0 h1 hsy,[.int k0 a,.int k1 b],?_,rfl,a,b,k0,k1,rfl,ha,hb,rfl,rfl⟩)
 ·exact yl zU (noL_ok F (h.trans hsy)) fun _ _ => yj
 ·simp only [div_vs,gB,za,h0,h1]
theorem rCm_cok : rCm_con.Ok Tryz.prog sy:=by
 intro r σ w us hsy hρ hpre hrel hins
 obtain ⟨u0,us,rfl,g0,hins⟩:=zf hins
 obtain ⟨u1,us,rfl,g1,hins⟩:=zf hins
 obtain ⟨a,k0,rfl,h0⟩:=zK g0
 obtain ⟨b,k1,rfl,h1⟩:=zK g1
 rw [hρ] at h0 h1
 have hw:=hpre
 simp only [rCm_con,zp,gB,za,h0,h1,hsy,sym55,Option.some.injEq,Value.bool.injEq,and_true] at hw
 obtain ⟨ha,hb⟩:=hw
 refine zX (E:=E0) zU zG (sy:=sy) (fun F => noL_ok F hsy) (fun F => lCm_H h0 h1 ha hb hsy F) (rCm_w r) hρ hpre hrel hins ?_ ?_
 ·simp only [rCm_con,rCm_t,gA,gB,za,h0,h1,hsy,sym50,sym52,sym55]
 ·try simp only [rCm_l,gE,dZ,gB,za,h0,h1,hsy,sym50,sym52,sym55]
  try simp
noncomputable def RP : Env→yi:=libs [cLib rwithin_con,cLib rCm_con]
theorem RP_ok (F : List (X×Bool)) {r : Rho} (h : r.sym = sy) : zt (E0.with F r) (RP (E0.with F r)):=yU fun c hc => by
 simp only [List.mem_cons,List.not_mem_nil,or_false] at hc
 rcases hc with rfl | rfl
 ·exact zH (E:=E0) rwithin_cok F h
 ·exact zH (E:=E0) rCm_cok F h
noncomputable def rPt_con : Con:={ f:=109,args:=[.agg [.int .i64 0,.int .i64 1]],N:=0,M:=0,pre:=[],out:=.sbool (.app 132 [.var 0,.var 1]),news:=[] }
noncomputable def rPt_call : Env→yC:=fun E => zw E (evH E (RP E) ((fun _ => yo) E) 6)
noncomputable def rPt_t : GTree:=(.fork qRI20 (.fork qRI27 (.fork qRI39 (.fork (.app 55 [.var 1]) (.leaf [[]]) .bad) .bad) (.leaf [[]])) (.leaf [[]]))
noncomputable def rPt_l : List (List (X×Bool)×Option zo):=[([(.app 55 [.var 1],true),(qRI39,true),(qRI27,true),(qRI20,true)],some [(.app 132 [.var 0,.var 1],.op2 .eq qRI36 (.num 1))]),
 ([(.app 55 [.var 1],false),(qRI39,true),(qRI27,true),(qRI20,true)],none),
 ([(qRI39,false),(qRI27,true),(qRI20,true)],none),
 ([(qRI27,false),(qRI20,true)],some [(.app 132 [.var 0,.var 1],.boo false)]),
 ([(qRI20,false)],some [(.app 132 [.var 0,.var 1],.boo false)])]
theorem rPt_w (r : Rho) : rPt_con.fn.ways rPt_call E0 r rPt_con.pre rPt_t = some rPt_l:=by kernel_rfl
theorem last_nonneg : ∀ (k : Nat) (a b : Int),0≤a→0≤b→0≤lastE k a b
 | 0,a,b,ha,hb => ha
 | k + 1,a,b,ha,hb => by
   simp only [lastE]
   split
   ·exact ha
   ·exact last_nonneg k b (a.tmod b) hb (Int.tmod_nonneg b ha)
theorem lowR_valid {a b p q : Int} (h : lowR a b = (p,q,0)) : validB p q = true:=by
 unfold lowR at h
 split at h
 ·rename_i hv
  simp only [Prod.mk.injEq] at h
  obtain ⟨rfl,rfl,_⟩:=h
  exact hv
 ·simp at h
theorem normR_valid {n d : Int} (h : normR n d = (n,d,0)) : validB n d = true:=by
 unfold normR at h
 split at h
 ·split at h
  ·exact lowR_valid h
  ·exact lowR_valid h
 ·simp at h
theorem part_iff (n d : Int) : partB n d = (zE d 1 1000000 && (zE n 0 d && decide (lastI n d = 1))):=by
 rw [Bool.eq_iff_iff]
 simp only [partB,Bool.and_eq_true,decide_eq_true_eq]
 constructor
 ·rintro ⟨h1,h2⟩
  obtain ⟨v1,v2,v3,v4,v5⟩:=valid_spec (normR_valid h1)
  have h3:=h2
  simp only [zE,Bool.and_eq_true,decide_eq_true_eq] at h3
  have hg:=last_gcd n d
  have hn : 0≤lastI n d:=last_nonneg (d.natAbs + 1) n d h3.1 (by omega)
  refine ⟨?_,h2,by omega⟩
  simp only [zE,Bool.and_eq_true,decide_eq_true_eq]
  omega
 ·rintro ⟨h1,h2,h3⟩
  have h4:=h2
  simp only [zE,Bool.and_eq_true,decide_eq_true_eq] at h1 h4
  have g : gcdI n d = 1:=by
   have:=last_gcd n d
   rw [h3] at this
   exact this.symm
  have hval : validB n d = true:=by
   simp only [validB,zE,Bool.and_eq_true,decide_eq_true_eq,beq_iff_eq]
   exact ⟨⟨by omega,by omega⟩,⟨by omega,by omega⟩,g⟩
  obtain ⟨e1,e2⟩:=low_self g
  refine ⟨?_,h2⟩
  have hnum : numB n d = true:=by
   simp only [numB,zE,Bool.and_eq_true,decide_eq_true_eq,Bool.not_eq_true',beq_eq_false_iff_ne,ne_eq]
   exact ⟨by omega,⟨by omega,by omega⟩,by omega,by omega⟩
  unfold normR
  rw [if_pos hnum,if_neg (by omega)]
  unfold lowR lowB
  rw [e1,e2,if_pos hval]
theorem rPt_cok : rPt_con.Ok Tryz.prog sy:=by
 intro r σ w us hsy hρ hpre hrel hins
 obtain ⟨u0,us,rfl,g0,hins⟩:=zf hins
 obtain ⟨p,kp,rfl,hpp⟩:=fra_agg g0
 rw [hρ] at hpp
 have a0:=hpp.h0
 have a1:=hpp.h1
 simp only [Nat.zero_add,Nat.reduceAdd] at a0 a1
 refine zX (E:=E0) zU zG (sy:=sy) (fun F => RP_ok F hsy) (fun F => yP) (rPt_w r) hρ hpre hrel hins ?_ ?_
 ·simp only [rPt_con,rPt_t,gA,gB,za,a0,a1,hsy,sym10,sym52,sym55,sym132]
 ·simp only [rPt_l,gE,dZ,gB,za,g3,a0,a1,hsy,sym10,sym52,sym55,sym132]
  clear hsy hρ hpre hrel hins g0 hpp a0 a1
  obtain ⟨a,b⟩:=p
  simp only [part_iff]
  have be : (lastI a b == 1) = decide (lastI a b = 1):=by rw [Bool.eq_iff_iff]; simp
  rw [be]
  clear be
  have hw : zE b 1 1000000 = true→zE a 0 b = true→wideB a = true∧wideB b = true:=fun h1 h2 => by
   simp only [zE,Bool.and_eq_true,decide_eq_true_eq] at h1 h2
   rw [wide_iff,wide_iff]
   omega
  (repeat' apply And.intro) <;> intros <;> first
    | trivial
    | (simp_all; done)
    | (exfalso; simp_all; done)
    | (symm; simp_all; done)
    | (simp_all; omega)
noncomputable def RN : Env→yi:=libs [cLib rwithin_con,cLib rPt_con,cLib rGd_con]
theorem RN_ok (F : List (X×Bool)) {r : Rho} (h : r.sym = sy) : zt (E0.with F r) (RN (E0.with F r)):=yU fun c hc => by
 simp only [List.mem_cons,List.not_mem_nil,or_false] at hc
 rcases hc with rfl | rfl | rfl
 ·exact zH (E:=E0) rwithin_cok F h
 ·exact zH (E:=E0) rPt_cok F h
 ·exact zH (E:=E0) rGd_cok F h
noncomputable def rRt_con : Con:={ f:=73,args:=[.agg [.int .i64 0,.int .i64 1,.int .i64 2,.str 3,.int .i64 4,.int .i64 5,.int .i64 6,.int .i64 7,.int .i64 8]],N:=0,M:=0,pre:=[(qRI4,false)],out:=.sint .i64 (.ite (.app 130 [.var 0,.var 1,.var 2,.var 3,.var 4,.var 5,.var 6,.var 7,.var 8]) (.num 0) (.num 1)),news:=[] }
noncomputable def rRt_call : Env→yC:=fun E => zw E (evH E (RN E) ((fun _ => yo) E) 6)
noncomputable def rRt_t : GTree:=(.fork qRI2 (.fork qRI6 (.fork qRI3 (.fork qRI7 (.fork qRI9 (.fork qRI16 (.fork qRI12 (.fork qRI21 (.leaf [[]]) (.leaf [[]])) (.leaf [[]])) (.leaf [[]])) (.fork qRI35 (.fork qRI16 (.fork qRI12 (.fork qRI21 (.leaf [[]]) (.leaf [[]])) (.leaf [[]])) (.leaf [[]])) (.leaf [[]]))) (.leaf [[]])) (.leaf [[]])) (.fork qRI3 (.fork qRI10 (.fork qRI25 (.fork qRI9 (.fork qRI30 (.fork qRI33 (.fork qRI37 (.fork (.op2 .eq (.var 7) (.num 0)) (.leaf [[]]) (.leaf [[]])) (.leaf [[]])) (.leaf [[]])) (.leaf [[]])) (.leaf [[]])) (.leaf [[]])) (.leaf [[]])) (.leaf [[]]))) (.fork qRI6 (.leaf [[]]) (.leaf [[]])))
noncomputable def rRt_l : List (List (X×Bool)×Option zo):=[((qRI21,true) :: (qRI12,true) :: (qRI16,true) :: (qRI9,true) :: qRIf0,some [(qRI0,.num 0)]),
 ((qRI21,false) :: (qRI12,true) :: (qRI16,true) :: (qRI9,true) :: qRIf0,some [(qRI0,.num 1)]),
 ((qRI12,false) :: (qRI16,true) :: (qRI9,true) :: qRIf0,some [(qRI0,.num 1)]),
 ((qRI16,false) :: (qRI9,true) :: qRIf0,some [(qRI0,.num 1)]),
 ((qRI21,true) :: (qRI12,true) :: qRIf6,some [(qRI0,.num 0)]),
 ((qRI21,false) :: (qRI12,true) :: qRIf6,some [(qRI0,.num 1)]),
 ((qRI12,false) :: qRIf6,some [(qRI0,.num 1)]),
 ((qRI16,false) :: (qRI35,true) :: (qRI9,false) :: qRIf0,some [(qRI0,.num 1)]),
 ((qRI35,false) :: (qRI9,false) :: qRIf0,some [(qRI0,.num 1)]),
 ((qRI7,false) :: (qRI3,true) :: (qRI6,true) :: qRIf4,some [(qRI0,.num 1)]),
 ((qRI3,false) :: (qRI6,true) :: qRIf4,some [(qRI0,.num 1)]),
 ((.op2 .eq (.var 7) (.num 0),true) :: (qRI37,true) :: qRIf7,some [(qRI0,.num 0)]),
 ((.op2 .eq (.var 7) (.num 0),false) :: (qRI37,true) :: qRIf7,some [(qRI0,.num 1)]),
 ((qRI37,false) :: qRIf7,some [(qRI0,.num 1)]),
 ((qRI33,false) :: (qRI30,true) :: (qRI9,true) :: qRIf1,some [(qRI0,.num 1)]),
 ((qRI30,false) :: (qRI9,true) :: qRIf1,some [(qRI0,.num 1)]),
 ((qRI9,false) :: qRIf1,some [(qRI0,.num 1)]),
 ((qRI25,false) :: (qRI10,true) :: (qRI3,true) :: (qRI6,false) :: qRIf4,some [(qRI0,.num 1)]),
 ((qRI10,false) :: (qRI3,true) :: (qRI6,false) :: qRIf4,some [(qRI0,.num 1)]),
 ((qRI3,false) :: (qRI6,false) :: qRIf4,some [(qRI0,.num 1)]),
 ([(qRI6,true),(qRI2,false),(qRI4,false)],some [(qRI0,.num 1)]),
 ([(qRI6,false),(qRI2,false),(qRI4,false)],some [(qRI0,.num 1)])]
theorem rRt_w (r : Rho) : rRt_con.fn.ways rRt_call E0 r rRt_con.pre rRt_t = some rRt_l:=by kernel_rfl
theorem rRt_cok : rRt_con.Ok Tryz.prog sy:=by
 intro r σ w us hsy hρ hpre hrel hins
 obtain ⟨u0,us,rfl,g0,hins⟩:=zf hins
 obtain ⟨p,kp,rfl,hp⟩:=rat_agg g0
 rw [hρ] at hp
 have a0:=hp.h0
 have a1:=hp.h1
 have a2:=hp.h2
 have a3:=hp.h3
 have a4:=hp.h4
 have a5:=hp.h5
 have a6:=hp.h6
 have a7:=hp.h7
 have a8:=hp.h8
 simp only [Nat.zero_add,Nat.reduceAdd] at a0 a1 a2 a3 a4 a5 a6 a7 a8
 refine zX (E:=E0) zU zG (sy:=sy) (fun F => RN_ok F hsy) (fun F => yP) (rRt_w r) hρ hpre hrel hins ?_ ?_
 ·simp only [rRt_con,rRt_t,gA,gB,za,a0,a1,a2,a3,a4,a5,a6,a7,a8,hsy,sym10,sym130,sym132,sym133]
 ·simp only [rRt_l,gE,dZ,gB,za,g3,a0,a1,a2,a3,a4,a5,a6,a7,a8,hsy,sym10,sym130,sym132,sym133]
  have bz : ∀ a : Int,(a == 0) = decide (a = 0):=fun a => by rw [Bool.eq_iff_iff]; simp
  simp only [rateB,bz]
  clear bz
  have wz : zE p.of_ 1 1000000 = true→zE p.of_ 0 1000000 = true∧¬ p.of_ = 0:=fun h => by simp only [zE,Bool.and_eq_true,decide_eq_true_eq] at h ⊢; omega
  have wy : zE p.of_ 1 1000000 = false→p.of_≠0→zE p.of_ 0 1000000 = false:=fun h h2 => by simp only [zE,Bool.and_eq_false_iff,decide_eq_false_iff_not] at h ⊢; omega
  have w0 : p.of_ = 0→zE p.of_ 0 1000000 = true:=fun h => by rw [h]; rfl
  clear hsy hρ hpre hrel hins g0 hp a0 a1 a2 a3 a4 a5 a6 a7 a8
  (repeat' apply And.intro) <;> intros <;> first
    | trivial
    | (exfalso; simp_all; done)
    | (simp_all; done)
    | (symm; simp_all; done)
    | (simp_all; omega)
open Go
def rss_vs : List X:=[.num 0]
abbrev qRJ0 : X:=.op1 .len (.var 1)
abbrev qRJ1 : X:=.op2 .lt (.var 100) (.num 0)
abbrev qRJ6 : X:=.op1 .len (.var 101)
abbrev qRJ2 : X:=.op2 .lt (.num 1000000000) (.op2 .add qRJ6 (.num 1))
abbrev qRJ3 : X:=.op2 .lt (.var 100) qRJ0
abbrev qRJ4 : X:=.op2 .lt (.num 0) qRJ0
abbrev qRJ5 : X:=.app 206 [.var 1]
abbrev qRJf0 : List (X×Bool):=[(qRJ1,false)]
noncomputable def lSs_D : LoopD:={ N:=100,M:=111,size:=Zk 74,reads:=[(0,.rows 9 ratSch (.var 0) (.var 1) false 26)],pats:=[{ slots:=[(0,.slx 0 9 (.var 0) (.num 0) qRJ0 (.var 2)),(3,.nilslice),(4,.sint .i64 (.var 100))],heap:=[] },{ slots:=[(0,.slx 0 9 (.var 0) (.num 0) qRJ0 (.var 2)),(3,.slo 110 3 qRJ6),(4,.sint .i64 (.var 100))],heap:=[(110,.rows 3 hdSch (.num 0) (.var 101) true 118)] }],exits:=[(.exit 0,{ slots:=[(3,.nilslice)],heap:=[],guard:=.op1 .not qRJ4 }),(.exit 0,{ slots:=[(3,.slo 110 3 (.op1 .len (.app 206 [.var 1])))],heap:=[(110,.rows 3 hdSch (.num 0) (.app 206 [.var 1]) true 118)],guard:=.op2 .lt (.num 0) qRJ0 })],own:=[],pre:=[(.app 202 [.var 1],true)],dfs:=[] }
noncomputable def lSs_run : Env→AF→ASt→Option (List Out):=Zh noL 6 (fun _ => Zl) (yh Tryz.prog 74 0)
def lSs0_F : List (X×Bool):=qRJf0
def lSs1_F : List (X×Bool):=qRJf0
noncomputable def lSs0_t : FTree:=(.fork qRJ3 (.leaf [.again 1 [(110,112)]]) (.leaf [.leave 0 []]))
noncomputable def lSs0_l : List (List (X×Bool)×Option (List (Tgt×zo))):=[((qRJ3,true) :: qRJf0,some [(.again 1 [(110,112)],[(qRJ6,.num 1),(.var 100,.op1 (.wrap .i64) (.op2 .add (.var 100) (.num 1))),(.var 101,.snoc .nil [.op1 (.kind .i64) (.cell 0 (.var 1) (.var 100)),.op1 (.kind .i64) (.cell 1 (.var 1) (.var 100)),.op1 (.kind .i64) (.cell 8 (.var 1) (.var 100))])])]),
 ((qRJ3,false) :: qRJf0,some [(.leave 0 [],[(.op1 .not qRJ4,.boo true)])])]
theorem lSs0_w (r : Rho) : lSs_D.ways lSs_run E0 r 0 lSs0_F lSs0_t = some lSs0_l:=by kernel_rfl
noncomputable def lSs1_t : FTree:=(.fork qRJ3 (.fork qRJ2 .bad (.leaf [.again 1 [(110,112)]])) (.leaf [.leave 1 [(110,110)]]))
noncomputable def lSs1_l : List (List (X×Bool)×Option (List (Tgt×zo))):=[((qRJ2,true) :: (qRJ3,true) :: qRJf0,none),
 ((qRJ2,false) :: (qRJ3,true) :: qRJf0,some [(.again 1 [(110,112)],[(qRJ6,.op2 .add qRJ6 (.num 1)),(.var 100,.op1 (.wrap .i64) (.op2 .add (.var 100) (.num 1))),(.var 101,.snoc (.var 101) [.op1 (.kind .i64) (.cell 0 (.var 1) (.var 100)),.op1 (.kind .i64) (.cell 1 (.var 1) (.var 100)),.op1 (.kind .i64) (.cell 8 (.var 1) (.var 100))])])]),
 ((qRJ3,false) :: qRJf0,some [(.leave 1 [(110,110)],[(.op1 .len qRJ5,qRJ6),(qRJ5,.var 101),(qRJ4,.boo true)])])]
theorem lSs1_w (r : Rho) : lSs_D.ways lSs_run E0 r 1 lSs1_F lSs1_t = some lSs1_l:=by kernel_rfl
theorem lSs_ok : lSs_D.ok = true:=by kernel_rfl
theorem zd (l : List Rat9) : (zj l).length = l.length:=List.length_map ..
def lSs_Inv (l : List Rat9) (j : Nat) (vals : List Value) : Prop:=
 ∃ i : Nat,i≤l.length∧((j = 0∧i = 0∧vals = [.int .i64 0])∨(j = 1∧1≤i∧vals = [.int .i64 (i : Int),hdsR (zj (l.take i))]))
def lSs_mu (l : List Rat9) (_ : Nat) (vals : List Value) : Nat:=l.length - (vI (vals.getD 0 default)).toNat
theorem lSs_step0 {ρ : Rho} {l : List Rat9} (h1 : ρ.val 1 = some (ratsR l)) (hsy : ρ.sym = sy) (hsh : okR9 l = true) : yI lSs_D lSs_run E0 ρ (lSs_Inv l) (lSs_mu l) 0 [.int .i64 0]:=by
 have hN : lSs_D.N = 100:=rfl
 have hmax:=ok_len hsh
 have xl {jq vq}:=@xL ρ lSs_D.N 100 [.int .i64 0] jq vq hN
 have xh {jq vq}:=@xH ρ lSs_D.N 100 [.int .i64 0] jq vq hN
 have v1:=xl (jq:=1) h1 (by decide)
 have v100:=xh (jq:=100) (vq:=.int .i64 0) rfl (by decide)
 have vs : (ρ.ext lSs_D.N [.int .i64 0]).sym = sy:=hsy
 have hF : zp (ρ.ext lSs_D.N [.int .i64 0]) lSs0_F:=by
  simp only [lSs0_F,zp,gB,za,zh,gHds,zm,zd,v100,Option.some.injEq,Value.bool.injEq,decide_eq_false_iff_not,and_true]
  omega
 suffices both : Zp (ρ.ext lSs_D.N [.int .i64 0]) (lSs0_t.asks lSs0_F)∧zR lSs_D ρ (lSs_Inv l) (lSs_mu l) 0 [.int .i64 0] lSs0_l from zD (lSs0_w _) hF both.1.ok both.2
 cases hp : l[0]? with
 | none =>
   have hge:=List.getElem?_eq_none_iff.1 hp
   have hge' : ¬ ((0 : Int) < l.length):=by omega
   refine ⟨?_,?_⟩
   ·simp only [lSs0_t,lSs0_F,gA,gB,za,zh,gHds,zm,zd,v1,v100,vs,zg,sym206,Int.toNat_natCast,hp,hge']
    try simp
   ·simp only [lSs0_l,gE,dZ,gB,za,g3,zh,gHds,zm,zd,v1,v100,vs,h1,hsy,zg,sym206,Int.toNat_natCast,hp,hge',reduceCtorEq,gR]
    skip
    skip
    try simp
 | some x =>
   have hil : 0 < l.length:=(List.getElem?_eq_some_iff.1 hp).1
   have hil1 : (0 : Int) < l.length:=by omega
   have hw : IntKind.i64.wrap ((0 : Int) + 1) = 1:=by rw [IntWalk.i64_in _ (by omega)]; rfl
   have hnext : zj (l.take (0 + 1)) = zj (l.take 0) ++ [⟨x.id,x.known,x.of_⟩]:=by rw [List.take_add_one,hp]; exact headsR9_snoc _ x
   have htl : (l.take 0).length = 0:=by rw [List.length_take]; omega
   have go : ∃ vals',((match (ρ.ext lSs_D.N vals').val 101 with | some v => den1 .len v | none => none) = some (.int .i64 (1))∧(ρ.ext lSs_D.N vals').val 100 = some (.int .i64 (1))∧(ρ.ext lSs_D.N vals').val 101 = some (hdsR [⟨x.id,x.known,x.of_⟩]))∧lSs_Inv l 1 vals'∧lSs_mu l 1 vals' < lSs_mu l 0 [.int .i64 0]:=by
    have e101 : (ρ.ext lSs_D.N [.int .i64 ((0 + 1 : Nat) : Int),hdsR (zj (l.take (0 + 1)))]).val 101 = some (hdsR (zj (l.take (0 + 1)))):=by exact xH hN rfl (by decide)
    refine ⟨[.int .i64 ((0 + 1 : Nat) : Int),hdsR (zj (l.take (0 + 1)))],⟨?_,?_,?_⟩,⟨0 + 1,by omega,.inr ⟨rfl,by omega,rfl⟩⟩,by simp [lSs_mu,vI]; omega⟩
    ·rw [e101,hnext]
     refine (hds_len _).trans ?_
     simp [zj]
    ·exact xH hN rfl (by decide)
    ·rw [e101,hnext]; rfl
   refine ⟨?_,?_⟩
   all_goals (simp only [lSs0_t,lSs0_F,lSs0_l,gA,gB,za,zh,gHds,zm,zd,yq,zR,zB,zI,Zn,Zo,zT,zY,dZ,g3,v1,v100,vs,h1,hsy,zg,sym206,Int.toNat_natCast,Int.toNat_zero,hp,Option.bind_some,gN,hil1,hw,reduceCtorEq,Bool.false_eq_true,false_implies,true_implies,and_true,true_and])
   all_goals (clear v1 v100 vs h1 hsy hF)
   all_goals ((repeat' apply And.intro) <;> intros <;> first
    | trivial
    | exact go
    | (exfalso; omega)
    | (simp_all; done)
    | (simp; omega))
theorem lSs_step1 {ρ : Rho} {l : List Rat9} (h1 : ρ.val 1 = some (ratsR l)) (hsy : ρ.sym = sy) (hsh : okR9 l = true) {i : Nat} (hi : i≤l.length) (hi1 : 1≤i) : yI lSs_D lSs_run E0 ρ (lSs_Inv l) (lSs_mu l) 1 [.int .i64 (i : Int),hdsR (zj (l.take i))]:=by
 have hN : lSs_D.N = 100:=rfl
 have hmax:=ok_len hsh
 have xl {jq vq}:=@xL ρ lSs_D.N 100 [.int .i64 (i : Int),hdsR (zj (l.take i))] jq vq hN
 have xh {jq vq}:=@xH ρ lSs_D.N 100 [.int .i64 (i : Int),hdsR (zj (l.take i))] jq vq hN
 have v1:=xl (jq:=1) h1 (by decide)
 have v100:=xh (jq:=100) (vq:=.int .i64 (i : Int)) rfl (by decide)
 have v101:=xh (jq:=101) (vq:=hdsR (zj (l.take i))) rfl (by decide)
 have vs : (ρ.ext lSs_D.N [.int .i64 (i : Int),hdsR (zj (l.take i))]).sym = sy:=hsy
 have hF : zp (ρ.ext lSs_D.N [.int .i64 (i : Int),hdsR (zj (l.take i))]) lSs1_F:=by
  simp only [lSs1_F,zp,gB,za,zh,gHds,zm,zd,v100,Option.some.injEq,Value.bool.injEq,decide_eq_false_iff_not,and_true]
  omega
 suffices both : Zp (ρ.ext lSs_D.N [.int .i64 (i : Int),hdsR (zj (l.take i))]) (lSs1_t.asks lSs1_F)∧zR lSs_D ρ (lSs_Inv l) (lSs_mu l) 1 [.int .i64 (i : Int),hdsR (zj (l.take i))] lSs1_l from zD (lSs1_w _) hF both.1.ok both.2
 cases hp : l[i]? with
 | none =>
   have hge:=List.getElem?_eq_none_iff.1 hp
   have hge' : ¬ ((i : Int) < l.length):=by omega
   refine ⟨?_,?_⟩
   ·simp only [lSs1_t,lSs1_F,gA,gB,za,zh,gHds,zm,zd,v1,v100,v101,vs,zg,sym206,Int.toNat_natCast,hp,hge']
    try simp
   ·simp only [lSs1_l,gE,dZ,gB,za,g3,zh,gHds,zm,zd,v1,v100,v101,vs,h1,hsy,zg,sym206,Int.toNat_natCast,hp,hge',reduceCtorEq,gR]
    have hl : l.take i = l:=List.take_of_length_le hge
    have hlen : 0 < (l.length : Int):=by omega
    simp [hl]; omega
 | some x =>
   have hil : i < l.length:=(List.getElem?_eq_some_iff.1 hp).1
   have hil1 : (i : Int) < l.length:=by omega
   have hw : IntKind.i64.wrap ((i : Int) + 1) = ((i + 1 : Nat) : Int):=by rw [IntWalk.i64_in _ (by omega)]; rfl
   have hnext : zj (l.take (i + 1)) = zj (l.take i) ++ [⟨x.id,x.known,x.of_⟩]:=by rw [List.take_add_one,hp]; exact headsR9_snoc _ x
   have htl : (l.take i).length = i:=by rw [List.length_take]; omega
   have go : ∃ vals',((match (ρ.ext lSs_D.N vals').val 101 with | some v => den1 .len v | none => none) = some (.int .i64 (((l.take i).length : Int) + 1))∧(ρ.ext lSs_D.N vals').val 100 = some (.int .i64 (((i + 1 : Nat) : Int)))∧(ρ.ext lSs_D.N vals').val 101 = some (hdsR (zj (l.take i) ++ [⟨x.id,x.known,x.of_⟩])))∧lSs_Inv l 1 vals'∧lSs_mu l 1 vals' < lSs_mu l 1 [.int .i64 (i : Int),hdsR (zj (l.take i))]:=by
    have e101 : (ρ.ext lSs_D.N [.int .i64 ((i + 1 : Nat) : Int),hdsR (zj (l.take (i + 1)))]).val 101 = some (hdsR (zj (l.take (i + 1)))):=by exact xH hN rfl (by decide)
    refine ⟨[.int .i64 ((i + 1 : Nat) : Int),hdsR (zj (l.take (i + 1)))],⟨?_,?_,?_⟩,⟨i + 1,by omega,.inr ⟨rfl,by omega,rfl⟩⟩,by simp [lSs_mu,vI]; omega⟩
    ·rw [e101,hnext]
     refine (hds_len _).trans ?_
     simp [zj]
    ·exact xH hN rfl (by decide)
    ·rw [e101,hnext]
   refine ⟨?_,?_⟩
   all_goals (simp only [lSs1_t,lSs1_F,lSs1_l,gA,gB,za,zh,gHds,zm,zd,yq,zR,zB,zI,Zn,Zo,zT,zY,dZ,g3,v1,v100,v101,vs,h1,hsy,zg,sym206,Int.toNat_natCast,Int.toNat_zero,hp,Option.bind_some,gN,hil1,hw,reduceCtorEq,Bool.false_eq_true,false_implies,true_implies,and_true,true_and])
   all_goals (clear v1 v100 v101 vs h1 hsy hF)
   all_goals ((repeat' apply And.intro) <;> intros <;> first
    | trivial
    | exact go
    | (exfalso; omega)
    | (simp_all; done)
    | (simp; omega))
theorem lSs_step {ρ : Rho} {l : List Rat9} (h1 : ρ.val 1 = some (ratsR l)) (hsy : ρ.sym = sy) (hsh : okR9 l = true) (j : Nat) (vals : List Value) (hI : lSs_Inv l j vals) : yI lSs_D lSs_run E0 ρ (lSs_Inv l) (lSs_mu l) j vals:=by
 obtain ⟨i,hi,⟨rfl,rfl,rfl⟩ | ⟨rfl,hi1,rfl⟩⟩:=hI
 ·exact lSs_step0 h1 hsy hsh
 ·exact lSs_step1 h1 hsy hsh hi hi1
noncomputable def rSsN_con : Con:={ f:=74,args:=[ratsArg 0 0],N:=1,M:=1,pre:=[(qRJ4,false)],out:=.nilslice,news:=[] }
noncomputable def rSsN_call : Env→yC:=fun E => zw E (evH E (noL E) ((fun _ => yo) E) 6)
noncomputable def rSsN_t : GTree:=(.leaf [[]])
noncomputable def rSsN_l : List (List (X×Bool)×Option zo):=[([(qRJ4,false)],some [])]
theorem rSsN_w (r : Rho) : rSsN_con.fn.ways rSsN_call E0 r rSsN_con.pre rSsN_t = some rSsN_l:=by kernel_rfl
theorem rSsN_cok : rSsN_con.Ok Tryz.prog sy:=by
 intro r σ w us hsy hρ hpre hrel hins
 obtain ⟨l,h1⟩:=zS hrel rfl hρ
 refine zX (E:=E0) zU zG (sy:=sy) (fun F => noL_ok F hsy) (fun F => yP) (rSsN_w r) hρ hpre hrel hins ?_ ?_
 ·simp only [rSsN_con,rSsN_t,gA,gB,za,zh,gHds,zm,zd,h1,hsy,zg,sym206]
  try simp
 ·simp only [rSsN_l,gE,dZ,gB,za,g3,zh,gHds,zm,zd,h1,hsy,zg,sym206]
  try simp
noncomputable def rSsY_con : Con:={ f:=74,args:=[ratsArg 0 0],N:=1,M:=2,pre:=[(.app 202 [.var 1],true),(qRJ4,true)],out:=.slo 1 3 (.op1 .len (.app 206 [.var 1])),news:=[(1,.rows 3 hdSch (.num 0) (.app 206 [.var 1]) true 118)] }
noncomputable def rSsY_call : Env→yC:=fun E => zw E (evH E (noL E) ((fun E => oneH 74 (yR [(3,lSs_D.hook E.facts rss_vs)])) E) 9)
noncomputable def rSsY_t : GTree:=(.leaf [[(1,110)]])
noncomputable def rSsY_l : List (List (X×Bool)×Option zo):=[([(.app 202 [.var 1],true),(qRJ4,true)],some [(.op1 .len qRJ5,.op1 .len qRJ5),(qRJ5,qRJ5)])]
theorem rSsY_w (r : Rho) : rSsY_con.fn.ways rSsY_call E0 r rSsY_con.pre rSsY_t = some rSsY_l:=by kernel_rfl
theorem lSs_H {ρ : Rho} {l : List Rat9} (h1 : ρ.val 1 = some (ratsR l)) (hsy : ρ.sym = sy) (hsh : okR9 l = true) (F : List (X×Bool)) : yV (E0.with F ρ) (oneH 74 (yR [(3,lSs_D.hook (E0.with F ρ).facts rss_vs)])):=by
 refine yN (n:=1) (fun f fn h => h) (by kernel_rfl) fun i hi => ?_
 obtain rfl : i = 0:=by omega
 rw [yA (show Zr (yh (E0.with F ρ).P 74 0) = 3 by kernel_rfl)]
 refine hook_ok (E₀:=E0) (run:=lSs_run) (ρ:=ρ) (Inv:=lSs_Inv l) (μ:=lSs_mu l) zU lSs_ok (fun F r' h => ?_) (fun hp => ⟨lSs_step h1 hsy hsh,[.int .i64 0],?_,0,Nat.zero_le _,.inl ⟨rfl,rfl,rfl⟩⟩)
 ·exact yl zU (noL_ok F (h.trans hsy)) fun _ _ => yj
 ·simp only [rss_vs,gB,za,zh,gHds,zm,zd]
theorem rSsY_cok : rSsY_con.Ok Tryz.prog sy:=by
 intro r σ w us hsy hρ hpre hrel hins
 obtain ⟨l,h1⟩:=zS hrel rfl hρ
 have hsh : okR9 l = true:=by
  have:=hpre.1
  simpa only [gB,za,zh,gHds,zm,zd,h1,hsy,zg,Option.some.injEq,Value.bool.injEq] using this
 have hne : 0 < (l.length : Int):=by
  have:=hpre.2.1
  simpa only [gB,za,zh,gHds,zm,zd,h1,Option.some.injEq,Value.bool.injEq,decide_eq_true_eq] using this
 refine zX (E:=E0) zU zG (sy:=sy) (fun F => noL_ok F hsy) (fun F => lSs_H h1 hsy hsh F) (rSsY_w r) hρ hpre hrel hins ?_ ?_
 ·simp only [rSsY_con,rSsY_t,gA,gB,za,zh,gHds,zm,zd,h1,hsy,zg,sym206]
  try simp
 ·simp only [rSsY_l,gE,dZ,gB,za,g3,zh,gHds,zm,zd,h1,hsy,zg,sym206]
  try simp [hne]
  try omega
end Go.Proofs.YtfddkbbjnghefaaGreatDoor.Zs
