/-
  Contracts: CheckRate, CheckSale.
-/
import Derived.Test.YtfddkbbjnghefaaGreatDoorToConA
import Derived.KernelRfl
set_option linter.unusedSimpArgs false
set_option linter.unusedVariables false
namespace Go.Proofs.YtfddkbbjnghefaaGreatDoor.Zs
open Go
theorem allUpto_at (p : Int→Bool) (s : ByteArray) : ∀ {n : Nat},allUpto p s n = true→∀ i,i < n→p (byteAt s i) = true
 | 0,_,i,hi => by omega
 | n + 1,h,i,hi => by
   simp only [allUpto,Bool.and_eq_true] at h
   rcases Nat.lt_or_ge i n with hlt | hge
   ·exact allUpto_at p s h.1 i hlt
   ·rw [show i = n by omega]; exact h.2
def nm_vs : List X:=[.num 0]
abbrev qEG1 : X:=.ite (.app 130 [.var 0,.var 1,.var 2,.var 3,.var 4,.var 5,.var 6,.var 7,.var 8]) (.num 0) (.num 1)
abbrev qEG2 : X:=.op2 .eq (.var 8) (.num 0)
abbrev qEG6 : X:=.op2 .eq (.var 2) (.num 0)
abbrev qEG7 : X:=.app 10 [.var 0,.num 1,.num 1000000]
abbrev qEG8 : X:=.op2 .eq (.var 5) (.num 0)
abbrev qEG9 : X:=.op2 .eq (.var 6) (.num 0)
abbrev qEG10 : X:=.app 10 [.var 1,.num 0,.num 1000000]
abbrev qEG11 : X:=.app 10 [.var 2,.num 0,.num 1000000]
abbrev qEG12 : X:=.op2 .lt (.num 100) (.op1 .slen (.var 3))
abbrev qEG13 : X:=.op2 .eq (.var 4) (.num 0)
abbrev qEG15 : X:=.op2 .eq (.var 7) (.num 0)
abbrev qEG16 : X:=.app 10 [.var 8,.num 0,.num 1000000]
abbrev qEG18 : X:=.op2 .eqs (.var 3) (.str [])
abbrev qEG20 : X:=.app 10 [.var 6,.num 0,.num 100000]
abbrev qEG21 : X:=.op2 .sat (.var 0) (.var 100)
abbrev qEG22 : X:=.app 132 [.var 4,.var 5]
abbrev qEG24 : X:=.op1 .slen (.var 0)
abbrev qEG25 : X:=.app 10 [.var 7,.num 0,.num 100000]
abbrev qEG26 : X:=.op2 .lt (.var 100) (.num 0)
abbrev qEG27 : X:=.op1 (.wrap .i64) (.op2 .add (.var 100) (.num 1))
abbrev qEG28 : X:=.op2 .lt (.var 100) qEG24
abbrev qEG29 : X:=.app 133 [.var 3]
abbrev qEG30 : X:=.op2 .sat (.var 0) (.num 0)
abbrev qEG31 : X:=.op2 .lt qEG21 (.num 97)
abbrev qEG32 : X:=.op2 .lt qEG21 (.num 48)
abbrev qEG33 : X:=.op2 .eq qEG21 (.num 45)
abbrev qEG34 : X:=.app 10 [qEG24,.num 1,.num 24]
abbrev qEG35 : X:=.op2 .lt (.num 100) qEG24
abbrev qEG36 : X:=.op2 .lt (.num 57) qEG21
abbrev qEG37 : X:=.op2 .lt (.num 122) qEG21
abbrev qEG38 : X:=.op2 .lt (.num 0) qEG24
abbrev qEG39 : X:=.op2 .eqs (.var 0) (.str [97,108,108])
abbrev qEG40 : X:=.app 24 [.var 0]
abbrev qEG41 : X:=.op2 .lt qEG30 (.num 97)
abbrev qEG42 : X:=.op2 .lt (.num 122) qEG30
abbrev qEG43 : X:=.app 133 [.var 0]
abbrev qEGf1 : List (X×Bool):=[(qEG18,true),(qEG11,true),(qEG12,false)]
abbrev qEGf24 : List (X×Bool):=[(qEG18,false),(qEG11,true),(qEG12,false)]
abbrev qEGf3 : List (X×Bool):=(qEG29,true) :: qEGf24
abbrev qEGf25 : List (X×Bool):=[(qEG2,false),(qEG11,false),(qEG12,false)]
abbrev qEGf6 : List (X×Bool):=(qEG13,true) :: (qEG18,true) :: (qEG6,true) :: qEGf25
abbrev qEGf27 : List (X×Bool):=(qEG2,false) :: (qEG20,false) :: (qEG22,true) :: qEGf1
abbrev qEGf8 : List (X×Bool):=(qEG8,true) :: (qEG13,true) :: (qEG6,true) :: qEGf27
abbrev qEGf17 : List (X×Bool):=(qEG20,true) :: (qEG22,true) :: qEGf1
abbrev qEGf9 : List (X×Bool):=(qEG8,true) :: (qEG13,true) :: (qEG6,true) :: (qEG2,false) :: qEGf17
abbrev qEGf37 : List (X×Bool):=(qEG6,true) :: (qEG2,false) :: (qEG22,false) :: qEGf1
abbrev qEGf11 : List (X×Bool):=(qEG8,true) :: (qEG13,true) :: qEGf37
abbrev qEGf14 : List (X×Bool):=[(qEG28,true),(qEG26,false)]
abbrev qEGf19 : List (X×Bool):=[(qEG41,false),(qEG38,true),(qEG34,true),(qEG35,false)]
abbrev qEGf49 : List (X×Bool):=(qEG20,true) :: (qEG22,true) :: qEGf3
abbrev qEGf22 : List (X×Bool):=(qEG25,true) :: (qEG2,true) :: qEGf49
abbrev qEGf33 : List (X×Bool):=(qEG15,true) :: (qEG9,true) :: (qEG8,true) :: qEGf6
abbrev qEGf36 : List (X×Bool):=(qEG37,true) :: (qEG31,false) :: qEGf14
abbrev qEGf40 : List (X×Bool):=(qEG7,true) :: (qEG25,true) :: (qEG2,true) :: qEGf17
abbrev qEGf41 : List (X×Bool):=(qEG7,true) :: (qEG15,true) :: (qEG9,true) :: qEGf9
abbrev qEGf42 : List (X×Bool):=(qEG7,true) :: (qEG15,true) :: (qEG9,true) :: qEGf8
abbrev qEGf43 : List (X×Bool):=(qEG7,true) :: (qEG15,true) :: (qEG9,true) :: qEGf11
noncomputable def lNm_D : LoopD:={ N:=100,M:=101,size:=sizeOfF 118,reads:=[],pats:=[{ slots:=[(0,.sstr (.var 0)),(19,.sint .i64 qEG24),(20,.sint .i64 (.var 100))],heap:=[] }],exits:=[(.exit 0,{ slots:=[],heap:=[],guard:=.app 24 [.var 0] }),(.ret,{ slots:=[(2,.sbool (.boo false))],heap:=[],guard:=.op1 .not (.app 24 [.var 0]) })],own:=[],pre:=[],dfs:=[] }
noncomputable def lNm_run : Env→AF→ASt→Option (List Out):=bodyRun noL 6 (fun _ => noLoop) (yA Tryz.prog 118 0)
def lNm0_F : List (X×Bool):=[(qEG26,false)]
noncomputable def lNm0_t : FTree:=(.fork qEG28 (.fork qEG31 (.fork qEG32 (.fork qEG33 (.leaf [.again 0 []]) (.leaf [.leave 1 []])) (.fork qEG36 (.fork qEG33 (.leaf [.again 0 []]) (.leaf [.leave 1 []])) (.leaf [.again 0 []]))) (.fork qEG37 (.fork qEG32 (.fork qEG33 (.leaf [.again 0 []]) (.leaf [.leave 1 []])) (.fork qEG36 (.fork qEG33 (.leaf [.again 0 []]) (.leaf [.leave 1 []])) (.leaf [.again 0 []]))) (.leaf [.again 0 []]))) (.leaf [.leave 0 []]))
noncomputable def lNm0_l : List (List (X×Bool)×Option (List (Tgt×zp))):=[((qEG33,true) :: (qEG32,true) :: (qEG31,true) :: qEGf14,some [(.again 0 [],[(.var 100,qEG27)])]),
 ((qEG33,false) :: (qEG32,true) :: (qEG31,true) :: qEGf14,some [(.leave 1 [],[(.op1 .not qEG40,.boo true)])]),
 ((qEG33,true) :: (qEG36,true) :: (qEG32,false) :: (qEG31,true) :: qEGf14,some [(.again 0 [],[(.var 100,qEG27)])]),
 ((qEG33,false) :: (qEG36,true) :: (qEG32,false) :: (qEG31,true) :: qEGf14,some [(.leave 1 [],[(.op1 .not qEG40,.boo true)])]),
 ((qEG36,false) :: (qEG32,false) :: (qEG31,true) :: qEGf14,some [(.again 0 [],[(.var 100,qEG27)])]),
 ((qEG33,true) :: (qEG32,true) :: qEGf36,some [(.again 0 [],[(.var 100,qEG27)])]),
 ((qEG33,false) :: (qEG32,true) :: qEGf36,some [(.leave 1 [],[(.op1 .not qEG40,.boo true)])]),
 ((qEG33,true) :: (qEG36,true) :: (qEG32,false) :: qEGf36,some [(.again 0 [],[(.var 100,qEG27)])]),
 ((qEG33,false) :: (qEG36,true) :: (qEG32,false) :: qEGf36,some [(.leave 1 [],[(.op1 .not qEG40,.boo true)])]),
 ((qEG36,false) :: (qEG32,false) :: qEGf36,some [(.again 0 [],[(.var 100,qEG27)])]),
 ((qEG37,false) :: (qEG31,false) :: qEGf14,some [(.again 0 [],[(.var 100,qEG27)])]),
 ([(qEG28,false),(qEG26,false)],some [(.leave 0 [],[(qEG40,.boo true)])])]
theorem lNm0_w (r : Rho) : lNm_D.ways lNm_run E0 r 0 lNm0_F lNm0_t = some lNm0_l:=by kernel_rfl
theorem lNm_ok : lNm_D.ok = true:=by kernel_rfl
def lNm_Inv (s : ByteArray) (j : Nat) (vals : List Value) : Prop:=
 j = 0∧∃ i : Nat,i≤s.size∧vals = [.int .i64 i]∧allUpto goodsC s i = true
def lNm_mu (s : ByteArray) (_ : Nat) (vals : List Value) : Nat:=s.size - (vI (vals.getD 0 default)).toNat
theorem lNm_step {ρ : Rho} {s : ByteArray} (h0 : ρ.val 0 = some (.string s)) (hsy : ρ.sym = sy) (hmax : (s.size : Int)≤1000) (j : Nat) (vals : List Value) (hI : lNm_Inv s j vals) :
  yn lNm_D lNm_run E0 ρ (lNm_Inv s) (lNm_mu s) j vals:=by
 obtain ⟨rfl,i,hi,rfl,hall⟩:=hI
 have hN : lNm_D.N = 100:=rfl
 have xl {jq vq}:=@xL ρ lNm_D.N 100 [.int .i64 i] jq vq hN
 have xh {jq vq}:=@xH ρ lNm_D.N 100 [.int .i64 i] jq vq hN
 have v0:=xl (jq:=0) h0 (by decide)
 have v100:=xh (jq:=100) (vq:=.int .i64 i) rfl (by decide)
 have vs : (ρ.ext lNm_D.N [.int .i64 i]).sym = sy:=hsy
 have hs : sy 24 [.string s] = some (.bool (goodsAll s)):=rfl
 have hbyte : ∀ q : Nat,(((s[(q : Int).toNat]?.map UInt8.toNat).getD 0 : Nat) : Int) = byteAt s q:=fun q => by simp [byteAt]
 have bad : i < s.size→goodsC (byteAt s i) = false→goodsAll s = false:=fun hlt hb => by
  cases hf : goodsAll s with
  | false => rfl
  | true =>
    have:=allUpto_at goodsC s hf i hlt
    rw [hb] at this; cases this
 have badN : i < s.size→goodsC (byteAt s i) = false→(!goodsAll s) = true:=fun h1 h2 => by rw [bad h1 h2]; rfl
 refine zC (lNm0_w _) (F:=lNm0_F) ?_ (y9.ok ?_) ?_
 ·simp only [lNm0_F,zf,gB,zd,v100,Option.some.injEq,Value.bool.injEq,decide_eq_false_iff_not,and_true]
  omega
 ·simp only [lNm0_t,lNm0_F,gA,gB,zd,v0,v100,vs,hs]
 ·simp only [lNm0_l,gE,dZ,gB,zd,g3,v0,v100,vs,h0,hsy,hs,hbyte]
  have go : (i : Int) < s.size→goodsC (byteAt s i) = true→∃ vals',((ρ.ext lNm_D.N vals').val 100 = some (.int .i64 (IntKind.i64.wrap ((i : Int) + 1)))) ∧
    lNm_Inv s 0 vals'∧lNm_mu s 0 vals' < lNm_mu s 0 [.int .i64 i]:=by
   intro hlt hb
   refine ⟨[.int .i64 ((i + 1 : Nat) : Int)],?_,⟨rfl,i + 1,by omega,rfl,?_⟩,?_⟩
   ·rw [yZ _ _ _ _ (by rw [hN]; omega),IntWalk.i64_in _ (by omega)]; rfl
   ·simp only [allUpto,hall,hb,Bool.and_self]
   ·simp [lNm_mu,vI]; omega
  clear hsy vs v0 v100 h0 hs hN
  (repeat' apply And.intro) <;> intros <;> first
    | (exfalso; omega)
    | (refine go (by omega) ?_; clear bad badN go; simp only [goodsC,Bool.or_eq_true,Bool.or_eq_false_iff,Bool.and_eq_true,Bool.and_eq_false_iff,decide_eq_true_eq,decide_eq_false_iff_not,g3] at *; omega)
    | (refine bad (by omega) ?_; clear bad badN go; simp only [goodsC,Bool.or_eq_true,Bool.or_eq_false_iff,Bool.and_eq_true,Bool.and_eq_false_iff,decide_eq_true_eq,decide_eq_false_iff_not,g3] at *; omega)
    | (refine badN (by omega) ?_; clear bad badN go; simp only [goodsC,Bool.or_eq_true,Bool.or_eq_false_iff,Bool.and_eq_true,Bool.and_eq_false_iff,decide_eq_true_eq,decide_eq_false_iff_not,g3] at *; omega)
    | (have : i = s.size:=by omega
       subst this
       exact hall)
    | (exfalso; omega)
noncomputable def cNm_con : Con:={ f:=118,args:=[.one (.str 0)],N:=0,M:=0,pre:=[(qEG35,false)],out:=.sbool (.app 133 [.var 0]),news:=[] }
noncomputable def cNm_call : Env→Za:=fun E => zS E (evH E (LW E) ((fun E => oneH 118 (hooks [(4,lNm_D.hook E.facts nm_vs)])) E) 6)
noncomputable def cNm_t : GTree:=(.fork qEG34 (.fork qEG38 (.fork qEG41 (.leaf [[]]) (.fork qEG42 (.leaf [[]]) (.fork qEG39 (.leaf [[]]) (.fork qEG40 (.leaf [[]]) (.leaf [[]]))))) .bad) (.leaf [[]]))
noncomputable def cNm_l : List (List (X×Bool)×Option zp):=[([(qEG41,true),(qEG38,true),(qEG34,true),(qEG35,false)],some [(qEG43,.boo false)]),
 ((qEG42,true) :: qEGf19,some [(qEG43,.boo false)]),
 ((qEG39,true) :: (qEG42,false) :: qEGf19,some [(qEG43,.boo false)]),
 ((qEG40,true) :: (qEG39,false) :: (qEG42,false) :: qEGf19,some [(qEG43,.boo true)]),
 ((qEG40,false) :: (qEG39,false) :: (qEG42,false) :: qEGf19,some [(qEG43,.boo false)]),
 ([(qEG38,false),(qEG34,true),(qEG35,false)],none),
 ([(qEG34,false),(qEG35,false)],some [(qEG43,.boo false)])]
theorem cNm_w (r : Rho) : cNm_con.fn.ways cNm_call E0 r cNm_con.pre cNm_t = some cNm_l:=by kernel_rfl
theorem lNm_H {r : Rho} {s : ByteArray} (h0 : r.val 0 = some (.string s)) (hmax : (s.size : Int)≤1000) (hsy : r.sym = sy) (F : List (X×Bool)) :
  LoopsOk (E0.with F r) (oneH 118 (hooks [(4,lNm_D.hook (E0.with F r).facts nm_vs)])):=by
 refine loops_all (n:=1) (fun f fn h => h) (by kernel_rfl) fun i hi => ?_
 obtain rfl : i = 0:=by omega
 rw [hooks_hit (show keyOf (yA (E0.with F r).P 118 0) = 4 by kernel_rfl)]
 refine hook_ok (E₀:=E0) (run:=lNm_run) (ρ:=r) (Inv:=lNm_Inv s) (μ:=lNm_mu s) yQ lNm_ok (fun F r' h => ?_) (fun _ => ⟨lNm_step h0 hsy hmax,[.int .i64 0],?_,rfl,0,Nat.zero_le _,rfl,rfl⟩)
 ·exact ye yQ (noL_ok F (h.trans hsy)) fun _ _ => yc
 ·simp only [nm_vs,gB,zd]
theorem cNm_cok : cNm_con.Ok Tryz.prog sy:=by
 intro r σ w us hsy hρ hpre hrel hins
 obtain ⟨u0,us,rfl,g0,hins⟩:=zn hins
 obtain ⟨s,rfl,h0⟩:=one_str g0
 rw [hρ] at h0
 have hmax : (s.size : Int)≤100:=by
  have:=hpre.1
  simp only [gB,zd,h0,Option.some.injEq,Value.bool.injEq,decide_eq_false_iff_not] at this
  omega
 have hbyte : (((s[(0 : Int).toNat]?.map UInt8.toNat).getD 0 : Nat) : Int) = byteAt s 0:=rfl
 refine y6 (E:=E0) yQ yC (sy:=sy) (fun F => LW_ok F hsy) (fun F => lNm_H h0 (by omega) hsy F) (cNm_w r) hρ hpre hrel hins ?_ ?_
 ·simp only [cNm_con,cNm_t,gA,gB,zd,h0,hsy,sym10,sym24,sym133]
 ·simp only [cNm_l,gE,dZ,gB,zd,g3,h0,hsy,sym10,sym24,sym133,hbyte]
  clear hsy hρ hpre hrel hins g0 h0
  have e : z7 [97,108,108] = z7 [97,108,108]:=rfl
  simp only [nameB]
  (repeat' apply And.intro) <;> intros <;> first
    | trivial
    | (exfalso; simp_all [zY]; done)
    | (simp_all [zY]; done)
    | (symm; simp_all [zY]; done)
    | (simp_all [zY]; omega)
noncomputable def LN : Env→yj:=libs [cLib cwithin_con,cLib pPart_con,cLib cNm_con]
theorem LN_ok (F : List (X×Bool)) {r : Rho} (h : r.sym = sy) : zu (E0.with F r) (LN (E0.with F r)):=libs_ok fun c hc => by
 simp only [List.mem_cons,List.not_mem_nil,or_false] at hc
 rcases hc with rfl | rfl | rfl
 ·exact ya (E:=E0) cwithin_cok F h
 ·exact ya (E:=E0) pPart_cok F h
 ·exact ya (E:=E0) cNm_cok F h
noncomputable def cRt_con : Con:={ f:=59,args:=[.agg [.int .i64 0,.int .i64 1,.int .i64 2,.str 3,.int .i64 4,.int .i64 5,.int .i64 6,.int .i64 7,.int .i64 8]],N:=0,M:=0,pre:=[(qEG12,false)],out:=.sint .i64 (.ite (.app 130 [.var 0,.var 1,.var 2,.var 3,.var 4,.var 5,.var 6,.var 7,.var 8]) (.num 0) (.num 1)),news:=[] }
noncomputable def cRt_call : Env→Za:=fun E => zS E (evH E (LN E) ((fun _ => yX) E) 6)
noncomputable def cRt_t : GTree:=(.fork qEG11 (.fork qEG18 (.fork qEG22 (.fork qEG20 (.fork qEG2 (.fork qEG25 (.fork qEG7 (.fork qEG10 (.fork qEG16 (.leaf [[]]) (.leaf [[]])) (.leaf [[]])) (.leaf [[]])) (.leaf [[]])) (.fork qEG6 (.fork qEG13 (.fork qEG8 (.fork qEG9 (.fork qEG15 (.fork qEG7 (.fork qEG10 (.fork qEG16 (.leaf [[]]) (.leaf [[]])) (.leaf [[]])) (.leaf [[]])) (.leaf [[]])) (.leaf [[]])) (.leaf [[]])) (.leaf [[]])) (.leaf [[]]))) (.fork qEG2 (.leaf [[]]) (.fork qEG6 (.fork qEG13 (.fork qEG8 (.fork qEG9 (.fork qEG15 (.fork qEG7 (.fork qEG10 (.fork qEG16 (.leaf [[]]) (.leaf [[]])) (.leaf [[]])) (.leaf [[]])) (.leaf [[]])) (.leaf [[]])) (.leaf [[]])) (.leaf [[]])) (.leaf [[]])))) (.fork qEG2 (.leaf [[]]) (.fork qEG6 (.fork qEG13 (.fork qEG8 (.fork qEG9 (.fork qEG15 (.fork qEG7 (.fork qEG10 (.fork qEG16 (.leaf [[]]) (.leaf [[]])) (.leaf [[]])) (.leaf [[]])) (.leaf [[]])) (.leaf [[]])) (.leaf [[]])) (.leaf [[]])) (.leaf [[]])))) (.fork qEG29 (.fork qEG22 (.fork qEG20 (.fork qEG2 (.fork qEG25 (.fork qEG7 (.fork qEG10 (.fork qEG16 (.leaf [[]]) (.leaf [[]])) (.leaf [[]])) (.leaf [[]])) (.leaf [[]])) (.fork qEG6 (.leaf [[]]) (.leaf [[]]))) (.fork qEG2 (.leaf [[]]) (.fork qEG6 (.leaf [[]]) (.leaf [[]])))) (.fork qEG2 (.leaf [[]]) (.fork qEG6 (.leaf [[]]) (.leaf [[]])))) (.fork qEG2 (.leaf [[]]) (.fork qEG6 (.leaf [[]]) (.leaf [[]]))))) (.fork qEG2 (.leaf [[]]) (.fork qEG6 (.fork qEG18 (.fork qEG13 (.fork qEG8 (.fork qEG9 (.fork qEG15 (.fork qEG7 (.fork qEG10 (.fork qEG16 (.leaf [[]]) (.leaf [[]])) (.leaf [[]])) (.leaf [[]])) (.leaf [[]])) (.leaf [[]])) (.leaf [[]])) (.leaf [[]])) (.leaf [[]])) (.leaf [[]]))))
noncomputable def cRt_l : List (List (X×Bool)×Option zp):=[((qEG16,true) :: (qEG10,true) :: qEGf40,some [(qEG1,.num 0)]),
 ((qEG16,false) :: (qEG10,true) :: qEGf40,some [(qEG1,.num 1)]),
 ((qEG10,false) :: qEGf40,some [(qEG1,.num 1)]),
 ((qEG7,false) :: (qEG25,true) :: (qEG2,true) :: qEGf17,some [(qEG1,.num 1)]),
 ((qEG25,false) :: (qEG2,true) :: qEGf17,some [(qEG1,.num 1)]),
 ((qEG16,true) :: (qEG10,true) :: qEGf41,some [(qEG1,.num 0)]),
 ((qEG16,false) :: (qEG10,true) :: qEGf41,some [(qEG1,.num 1)]),
 ((qEG10,false) :: qEGf41,some [(qEG1,.num 1)]),
 ((qEG7,false) :: (qEG15,true) :: (qEG9,true) :: qEGf9,some [(qEG1,.num 1)]),
 ((qEG15,false) :: (qEG9,true) :: qEGf9,some [(qEG1,.num 1)]),
 ((qEG9,false) :: qEGf9,some [(qEG1,.num 1)]),
 ((qEG8,false) :: (qEG13,true) :: (qEG6,true) :: (qEG2,false) :: qEGf17,some [(qEG1,.num 1)]),
 ((qEG13,false) :: (qEG6,true) :: (qEG2,false) :: qEGf17,some [(qEG1,.num 1)]),
 ((qEG6,false) :: (qEG2,false) :: qEGf17,some [(qEG1,.num 1)]),
 ((qEG2,true) :: (qEG20,false) :: (qEG22,true) :: qEGf1,some [(qEG1,.num 1)]),
 ((qEG16,true) :: (qEG10,true) :: qEGf42,some [(qEG1,.num 0)]),
 ((qEG16,false) :: (qEG10,true) :: qEGf42,some [(qEG1,.num 1)]),
 ((qEG10,false) :: qEGf42,some [(qEG1,.num 1)]),
 ((qEG7,false) :: (qEG15,true) :: (qEG9,true) :: qEGf8,some [(qEG1,.num 1)]),
 ((qEG15,false) :: (qEG9,true) :: qEGf8,some [(qEG1,.num 1)]),
 ((qEG9,false) :: qEGf8,some [(qEG1,.num 1)]),
 ((qEG8,false) :: (qEG13,true) :: (qEG6,true) :: qEGf27,some [(qEG1,.num 1)]),
 ((qEG13,false) :: (qEG6,true) :: qEGf27,some [(qEG1,.num 1)]),
 ((qEG6,false) :: qEGf27,some [(qEG1,.num 1)]),
 ((qEG2,true) :: (qEG22,false) :: qEGf1,some [(qEG1,.num 1)]),
 ((qEG16,true) :: (qEG10,true) :: qEGf43,some [(qEG1,.num 0)]),
 ((qEG16,false) :: (qEG10,true) :: qEGf43,some [(qEG1,.num 1)]),
 ((qEG10,false) :: qEGf43,some [(qEG1,.num 1)]),
 ((qEG7,false) :: (qEG15,true) :: (qEG9,true) :: qEGf11,some [(qEG1,.num 1)]),
 ((qEG15,false) :: (qEG9,true) :: qEGf11,some [(qEG1,.num 1)]),
 ((qEG9,false) :: qEGf11,some [(qEG1,.num 1)]),
 ((qEG8,false) :: (qEG13,true) :: qEGf37,some [(qEG1,.num 1)]),
 ((qEG13,false) :: qEGf37,some [(qEG1,.num 1)]),
 ((qEG6,false) :: (qEG2,false) :: (qEG22,false) :: qEGf1,some [(qEG1,.num 1)]),
 ((qEG16,true) :: (qEG10,true) :: (qEG7,true) :: qEGf22,some [(qEG1,.num 0)]),
 ((qEG16,false) :: (qEG10,true) :: (qEG7,true) :: qEGf22,some [(qEG1,.num 1)]),
 ((qEG10,false) :: (qEG7,true) :: qEGf22,some [(qEG1,.num 1)]),
 ((qEG7,false) :: qEGf22,some [(qEG1,.num 1)]),
 ((qEG25,false) :: (qEG2,true) :: qEGf49,some [(qEG1,.num 1)]),
 ((qEG6,true) :: (qEG2,false) :: qEGf49,some [(qEG1,.num 1)]),
 ((qEG6,false) :: (qEG2,false) :: qEGf49,some [(qEG1,.num 1)]),
 ((qEG2,true) :: (qEG20,false) :: (qEG22,true) :: qEGf3,some [(qEG1,.num 1)]),
 ((qEG6,true) :: (qEG2,false) :: (qEG20,false) :: (qEG22,true) :: qEGf3,some [(qEG1,.num 1)]),
 ((qEG6,false) :: (qEG2,false) :: (qEG20,false) :: (qEG22,true) :: qEGf3,some [(qEG1,.num 1)]),
 ((qEG2,true) :: (qEG22,false) :: qEGf3,some [(qEG1,.num 1)]),
 ((qEG6,true) :: (qEG2,false) :: (qEG22,false) :: qEGf3,some [(qEG1,.num 1)]),
 ((qEG6,false) :: (qEG2,false) :: (qEG22,false) :: qEGf3,some [(qEG1,.num 1)]),
 ((qEG2,true) :: (qEG29,false) :: qEGf24,some [(qEG1,.num 1)]),
 ((qEG6,true) :: (qEG2,false) :: (qEG29,false) :: qEGf24,some [(qEG1,.num 1)]),
 ((qEG6,false) :: (qEG2,false) :: (qEG29,false) :: qEGf24,some [(qEG1,.num 1)]),
 ([(qEG2,true),(qEG11,false),(qEG12,false)],some [(qEG1,.num 1)]),
 ((qEG16,true) :: (qEG10,true) :: (qEG7,true) :: qEGf33,some [(qEG1,.num 0)]),
 ((qEG16,false) :: (qEG10,true) :: (qEG7,true) :: qEGf33,some [(qEG1,.num 1)]),
 ((qEG10,false) :: (qEG7,true) :: qEGf33,some [(qEG1,.num 1)]),
 ((qEG7,false) :: qEGf33,some [(qEG1,.num 1)]),
 ((qEG15,false) :: (qEG9,true) :: (qEG8,true) :: qEGf6,some [(qEG1,.num 1)]),
 ((qEG9,false) :: (qEG8,true) :: qEGf6,some [(qEG1,.num 1)]),
 ((qEG8,false) :: qEGf6,some [(qEG1,.num 1)]),
 ((qEG13,false) :: (qEG18,true) :: (qEG6,true) :: qEGf25,some [(qEG1,.num 1)]),
 ((qEG18,false) :: (qEG6,true) :: qEGf25,some [(qEG1,.num 1)]),
 ((qEG6,false) :: qEGf25,some [(qEG1,.num 1)])]
theorem cRt_w (r : Rho) : cRt_con.fn.ways cRt_call E0 r cRt_con.pre cRt_t = some cRt_l:=by kernel_rfl
set_option maxHeartbeats 4000000 in
theorem cRt_cok : cRt_con.Ok Tryz.prog sy:=by
 intro r σ w us hsy hρ hpre hrel hins
 obtain ⟨u0,us,rfl,g0,hins⟩:=zn hins
 obtain ⟨p,kp,rfl,hp⟩:=rat_agg g0
 rw [hρ] at hp
 have a0:=hp.h0
 have a1:=hp.h1
 have a2:=hp.h2
 have a3:=hp.h3
 have a4:=hp.h4
 have a5:=hp.h5
 have a6:=hp.h6
 have a7:=hp.h7
 have a8:=hp.h8
 simp only [Nat.zero_add,Nat.reduceAdd] at a0 a1 a2 a3 a4 a5 a6 a7 a8
 refine y6 (E:=E0) yQ yC (sy:=sy) (fun F => LN_ok F hsy) (fun F => noH_ok) (cRt_w r) hρ hpre hrel hins ?_ ?_
 ·simp only [cRt_con,cRt_t,gA,gB,zd,a0,a1,a2,a3,a4,a5,a6,a7,a8,hsy,sym10,sym130,sym132,sym133]
 ·simp only [cRt_l,gE,dZ,gB,zd,g3,a0,a1,a2,a3,a4,a5,a6,a7,a8,hsy,sym10,sym130,sym132,sym133]
  have bz : ∀ a : Int,(a == 0) = decide (a = 0):=fun a => by rw [Bool.eq_iff_iff]; simp
  simp only [rateB,bz]
  clear bz
  clear hsy hρ hpre hrel hins g0 hp a0 a1 a2 a3 a4 a5 a6 a7 a8
  (repeat' apply And.intro) <;> intros <;> first
    | trivial
    | (exfalso; simp_all; done)
    | (simp_all; done)
    | (symm; simp_all; done)
    | (simp_all; omega)
end Go.Proofs.YtfddkbbjnghefaaGreatDoor.Zs
