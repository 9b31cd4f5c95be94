/-
  Contracts: Touched where there is no rate.
-/
import Derived.Test.YtfddkbbjnghefaaGreatDoorToConH
import Derived.KernelRfl
set_option linter.unusedSimpArgs false
set_option maxHeartbeats 4000000
set_option linter.unusedVariables false
namespace Go.Proofs.YtfddkbbjnghefaaGreatDoor.Zs
open Go
noncomputable def LNQ : Env→yj:=libs [cLib cCkr_con,cLib cBgN_con,cLib cBgY_con,cLib cId_con]
theorem LNQ_ok (F : List (X×Bool)) {r : Rho} (h : r.sym = sy) : zu (E0.with F r) (LNQ (E0.with F r)):=libs_ok fun c hc => by
 simp only [List.mem_cons,List.not_mem_nil,or_false] at hc
 rcases hc with rfl | rfl | rfl | rfl
 ·exact ya (E:=E0) cCkr_cok F h
 ·exact ya (E:=E0) cBgN_cok F h
 ·exact ya (E:=E0) cBgY_cok F h
 ·exact ya (E:=E0) cId_cok F h
def tn_vs : List X:=[.num 0,.num 0,.num 0]
abbrev qTN0 : X:=.snoc .nil [.op1 (.kind .i64) (.var 3),.op1 (.kind .i64) (.var 4),.op1 (.kind .i64) (.var 5),.var 6,.op1 (.kind .i64) (.var 7),.op1 (.kind .i64) (.var 8),.op1 (.kind .i64) (.var 9),.op1 (.kind .i64) (.var 10),.op1 (.kind .i64) (.var 11)]
abbrev qTN1 : X:=.snoc .nil [.op1 (.kind .i64) (.var 3),.op1 (.kind .i64) (.var 4),.op1 (.kind .i64) (.var 5),.var 6,.op1 (.kind .i64) (.var 7),.op1 (.kind .i64) (.var 8),.op1 (.kind .i64) (.var 9),.op1 (.kind .i64) (.var 10),.op1 (.kind .i64) (.var 11)]
abbrev qTN2 : X:=.app 209 [.app 113 [.app 208 [qTN0]]]
abbrev qTN3 : X:=.snoc qTN2 [.op1 (.kind .i64) (.num 1000001)]
abbrev qTN4 : X:=.op2 .add (.op1 .len qTN2) (.num 1)
abbrev qTN5 : X:=.op2 .add (.num 1) (.var 100)
abbrev qTN6 : X:=.op2 .lt (.var 100) (.op1 .len qTN2)
abbrev qTN24 : X:=.app 209 [.app 113 [.app 208 [qTN1]]]
abbrev qTN7 : X:=.op2 .add (.op1 .len qTN24) (.num 1)
abbrev qTN8 : X:=.op2 .eq (.num 0) (.app 205 [qTN0,.var 12,.cell 0 qTN3 (.var 100),.var 4,.num 0])
abbrev qTN9 : X:=.op2 .lt (.var 100) (.num 0)
abbrev qTN10 : X:=.op2 .lt (.num 100) (.op1 .slen (.var 6))
abbrev qTN11 : X:=.op2 .lt qTN5 (.op1 .len qTN3)
abbrev qTN12 : X:=.app 213 [.nil,qTN0,.var 12,.var 4]
abbrev qTN13 : X:=.app 202 [qTN0]
abbrev qTN14 : X:=.op2 .lt qTN5 (.num 0)
abbrev qTN15 : X:=.op2 .lt (.var 100) (.op1 .len qTN3)
abbrev qTN16 : X:=.op2 .eq (.app 200 [qTN0]) (.num 0)
abbrev qTN17 : X:=.op2 .lt (.num 1000000000) qTN4
abbrev qTN18 : X:=.op2 .lt (.var 100) qTN4
abbrev qTN19 : X:=.op2 .lt (.num 0) (.op1 .len qTN0)
abbrev qTN20 : X:=.op1 (.wrap .i64) (.op2 .add (.var 100) (.num 1))
abbrev qTN21 : X:=.op2 .lt qTN4 (.num 1)
abbrev qTN22 : X:=.app 211 [.nil,qTN0,.var 12,.var 4]
abbrev qTN23 : X:=.app 212 [.nil,qTN0,.var 12,.var 4]
abbrev qTN25 : X:=.app 213 [.nil,qTN1,.var 12,.var 4]
abbrev qTN26 : X:=.op2 .eq (.app 200 [qTN1]) (.num 0)
abbrev qTNf4 : List (X×Bool):=[(qTN13,true),(qTN9,false)]
abbrev qTNf0 : List (X×Bool):=(qTN14,false) :: (qTN6,true) :: qTNf4
abbrev qTNf1 : List (X×Bool):=[(qTN10,false),(qTN16,true),(qTN13,true),(qTN19,true),(qTN12,false)]
abbrev qTNf2 : List (X×Bool):=[(qTN10,false),(qTN16,true),(qTN13,true),(qTN19,true),(qTN12,true)]
abbrev qTNf3 : List (X×Bool):=(qTN18,true) :: (qTN11,true) :: qTNf0
noncomputable def lTn_D : LoopD:={ N:=100,M:=111,size:=sizeOfF 11,reads:=[(6,.rows 9 ratSch (.num 0) qTN1 true 26),(1,.cells [.sint .i64 (.var 3),.sint .i64 (.var 4),.sint .i64 (.var 5),.sstr (.var 6),.sint .i64 (.var 7),.sint .i64 (.var 8),.sint .i64 (.var 9),.sint .i64 (.var 10),.sint .i64 (.var 11)] 26),(9,.rows 1 [.int .i64] (.num 0) (.snoc qTN24 [.op1 (.kind .i64) (.num 1000001)]) true 3)],pats:=[{ slots:=[(0,.nilslice),(2,.sstr (.var 12)),(4,.ptr 1 0),(10,.slo 6 9 (.num 1)),(11,.slo 9 1 qTN7),(19,.slo 6 9 (.num 1)),(24,.slo 6 9 (.num 1)),(27,.slo 9 1 qTN7),(28,.slo 9 1 qTN7),(29,.spt 9 1 (.num 1) qTN7),(30,.sint .i64 (.op1 .len qTN24)),(31,.sint .i64 (.var 100)),(6,.int .i64 0),(7,.int .i64 0),(8,.bool false)],heap:=[] },{ slots:=[(0,.nilslice),(2,.sstr (.var 12)),(4,.ptr 1 0),(10,.slo 6 9 (.num 1)),(11,.slo 9 1 qTN7),(19,.slo 6 9 (.num 1)),(24,.slo 6 9 (.num 1)),(27,.slo 9 1 qTN7),(28,.slo 9 1 qTN7),(29,.spt 9 1 (.num 1) qTN7),(30,.sint .i64 (.op1 .len qTN24)),(31,.sint .i64 (.var 100)),(6,.sint .i64 (.var 101)),(7,.sint .i64 (.var 102)),(8,.bool true)],heap:=[] }],exits:=[(.exit 0,{ slots:=[(6,.int .i64 0),(7,.int .i64 0),(8,.bool false)],heap:=[],guard:=.op1 .not qTN25 }),(.exit 0,{ slots:=[(6,.sint .i64 (.app 211 [.nil,qTN1,.var 12,.var 4])),(7,.sint .i64 (.app 212 [.nil,qTN1,.var 12,.var 4])),(8,.bool true)],heap:=[],guard:=.app 213 [.nil,qTN1,.var 12,.var 4] })],own:=[],pre:=[(.app 202 [qTN1],true)],dfs:=[] }
noncomputable def lTn_run : Env→AF→ASt→Option (List Out):=bodyRun LNQ 9 (fun _ => noLoop) (yA Tryz.prog 11 0)
def lTn0_F : List (X×Bool):=[(.app 202 [qTN1],true),(qTN9,false)]
def lTn1_F : List (X×Bool):=[(.app 202 [qTN1],true),(qTN9,false)]
noncomputable def lTn0_t : FTree:=(.fork qTN6 (.fork qTN14 .bad (.fork qTN11 (.fork qTN18 (.fork qTN15 (.fork qTN8 (.leaf [.again 0 []]) (.leaf [.again 1 []])) .bad) .bad) .bad)) (.leaf [.leave 0 []]))
noncomputable def lTn0_l : List (List (X×Bool)×Option (List (Tgt×zp))):=[((qTN14,true) :: (qTN6,true) :: qTNf4,none),
 ((qTN8,true) :: (qTN15,true) :: qTNf3,some [(.again 0 [],[(.var 100,qTN20)])]),
 ((qTN8,false) :: (qTN15,true) :: qTNf3,some [(.again 1 [],[(.var 100,qTN20),(.var 101,.cell 0 qTN3 (.var 100)),(.var 102,.op1 (.wrap .i64) (.op2 .sub (.cell 0 qTN3 qTN5) (.num 1)))])]),
 ((qTN15,false) :: qTNf3,none),
 ((qTN18,false) :: (qTN11,true) :: qTNf0,none),
 ((qTN11,false) :: qTNf0,none),
 ((qTN6,false) :: qTNf4,some [(.leave 0 [],[(.op1 .not qTN12,.boo true)])])]
theorem lTn0_w (r : Rho) : lTn_D.ways lTn_run E0 r 0 lTn0_F lTn0_t = some lTn0_l:=by kernel_rfl
noncomputable def lTn1_t : FTree:=(.fork qTN6 (.fork qTN14 .bad (.fork qTN11 (.fork qTN18 (.fork qTN15 (.fork qTN8 (.leaf [.again 1 []]) (.leaf [.again 1 []])) .bad) .bad) .bad)) (.leaf [.leave 1 []]))
noncomputable def lTn1_l : List (List (X×Bool)×Option (List (Tgt×zp))):=[((qTN14,true) :: (qTN6,true) :: qTNf4,none),
 ((qTN8,true) :: (qTN15,true) :: qTNf3,some [(.again 1 [],[(.var 100,qTN20),(.var 101,.var 101),(.var 102,.var 102)])]),
 ((qTN8,false) :: (qTN15,true) :: qTNf3,some [(.again 1 [],[(.var 100,qTN20),(.var 101,.var 101),(.var 102,.op1 (.wrap .i64) (.op2 .sub (.cell 0 qTN3 qTN5) (.num 1)))])]),
 ((qTN15,false) :: qTNf3,none),
 ((qTN18,false) :: (qTN11,true) :: qTNf0,none),
 ((qTN11,false) :: qTNf0,none),
 ((qTN6,false) :: qTNf4,some [(.leave 1 [],[(qTN22,.var 101),(qTN23,.var 102),(qTN12,.boo true)])])]
theorem lTn1_w (r : Rho) : lTn_D.ways lTn_run E0 r 1 lTn1_F lTn1_t = some lTn1_l:=by kernel_rfl
theorem lTn_ok : lTn_D.ok = true:=by kernel_rfl
theorem zK : (Value.tuple #[]) = ratsR []:=rfl
def lTn_Inv (x : Rat9) (g : ByteArray) (j : Nat) (vals : List Value) : Prop:=
 ∃ i : Nat,i≤(zO (zg (zj [x]))).length∧((j = 0∧vals = [.int .i64 (i : Int),.int .i64 0,.int .i64 0]∧(tchI [] [x] g x.known i).is = false)∨(j = 1∧vals = [.int .i64 (i : Int),.int .i64 (tchI [] [x] g x.known i).from_,.int .i64 (tchI [] [x] g x.known i).until_]∧(tchI [] [x] g x.known i).is = true))
def lTn_mu (b : List Who) (_ : Nat) (vals : List Value) : Nat:=b.length - (vI (vals.getD 0 default)).toNat
theorem lTn_step0 {ρ : Rho} {x : Rat9} {kx : Nat→IntKind} {g : ByteArray} (hx : Rat9At ρ 3 kx x) (h12 : ρ.val 12 = some (.string g)) (hsy : ρ.sym = sy) (hok : okR9 [x] = true) {i : Nat} (hi : i≤(zO (zg (zj [x]))).length) (hn : (tchI [] [x] g x.known i).is = false) : yn lTn_D lTn_run E0 ρ (lTn_Inv x g) (lTn_mu (zO (zg (zj [x])))) 0 [.int .i64 (i : Int),.int .i64 0,.int .i64 0]:=by
 have hN : lTn_D.N = 100:=rfl
 have hmax:=ok_len hok
 have hbl:=beg_len [x]
 have hxx : (⟨x.id,x.known,x.from_,x.goods,x.num,x.den,x.cart,x.store,x.of_⟩ : Rat9) = x:=rfl
 have hll : (((zO (zg (zj [x]))) ++ [(⟨1000001⟩ : Who)]).length : Int) = ((zO (zg (zj [x]))).length : Int) + 1:=by simp
 have xl {jq vq}:=@xL ρ lTn_D.N 100 [.int .i64 (i : Int),.int .i64 0,.int .i64 0] jq vq hN
 have xh {jq vq}:=@xH ρ lTn_D.N 100 [.int .i64 (i : Int),.int .i64 0,.int .i64 0] jq vq hN
 have v3:=xl (jq:=3) hx.h0 (by decide)
 have v4:=xl (jq:=4) hx.h1 (by decide)
 have v5:=xl (jq:=5) hx.h2 (by decide)
 have v6:=xl (jq:=6) hx.h3 (by decide)
 have v7:=xl (jq:=7) hx.h4 (by decide)
 have v8:=xl (jq:=8) hx.h5 (by decide)
 have v9:=xl (jq:=9) hx.h6 (by decide)
 have v10:=xl (jq:=10) hx.h7 (by decide)
 have v11:=xl (jq:=11) hx.h8 (by decide)
 have v12:=xl (jq:=12) h12 (by decide)
 have v100:=xh (jq:=100) (vq:=.int .i64 (i : Int)) rfl (by decide)
 have v101:=xh (jq:=101) (vq:=.int .i64 0) rfl (by decide)
 have v102:=xh (jq:=102) (vq:=.int .i64 0) rfl (by decide)
 have vs : (ρ.ext lTn_D.N [.int .i64 (i : Int),.int .i64 0,.int .i64 0]).sym = sy:=hsy
 have hF : zf (ρ.ext lTn_D.N [.int .i64 (i : Int),.int .i64 0,.int .i64 0]) lTn0_F:=by
  simp only [lTn0_F,zf,gB,zd,gW,zm,zK,List.nil_append,v3,v4,v5,v6,v7,v8,v9,v10,v11,v12,v100,v101,v102,vs,hxx,ze,hok,Option.some.injEq,Value.bool.injEq,decide_eq_false_iff_not,and_true,true_and]
  omega
 suffices both : y9 (ρ.ext lTn_D.N [.int .i64 (i : Int),.int .i64 0,.int .i64 0]) (lTn0_t.asks lTn0_F)∧zD lTn_D ρ (lTn_Inv x g) (lTn_mu (zO (zg (zj [x])))) 0 [.int .i64 (i : Int),.int .i64 0,.int .i64 0] lTn0_l from zC (lTn0_w _) hF both.1.ok both.2
 cases hp : (zO (zg (zj [x])))[i]? with
 | none =>
   have hge:=List.getElem?_eq_none_iff.1 hp
   have hge' : ¬ (i : Int) < (zO (zg (zj [x]))).length:=by omega
   have hT : (tchI [] [x] g x.known i) = tch [] [x] g x.known:=by
    have : i = (begW [x]).length:=by unfold begW; omega
    rw [this]; rfl
   refine ⟨?_,?_⟩
   ·simp only [lTn0_t,lTn0_F,gA,gB,zd,gW,zm,zK,v3,v4,v5,v6,v7,v8,v9,v10,v11,v12,v100,v101,v102,vs,hxx,zi,zG,ze,zl,ym,z6,zZ,zx,zw,zq,hok,Int.toNat_natCast,hp,hge']
    try simp
   ·simp only [lTn0_l,gE,dZ,gB,zd,g3,gW,zm,zK,List.nil_append,v3,v4,v5,v6,v7,v8,v9,v10,v11,v12,v100,v101,v102,vs,h12,hx.h0,hx.h1,hx.h2,hx.h3,hx.h4,hx.h5,hx.h6,hx.h7,hx.h8,hsy,hxx,zi,zG,ze,zl,ym,z6,zZ,zx,zw,zq,hok,Int.toNat_natCast,hp,hge',reduceCtorEq,gR]
    rw [hT] at hn
    try simp only [hT]
    simp [hn]
 | some w =>
   have hil : i < (zO (zg (zj [x]))).length:=(List.getElem?_eq_some_iff.1 hp).1
   have hil1 : (i : Int) < (zO (zg (zj [x]))).length:=by omega
   have hil2 : (i : Int) < ((zO (zg (zj [x]))).length : Int) + 1:=by omega
   have hil3 : (1 : Int) + (i : Int) < ((zO (zg (zj [x]))).length : Int) + 1:=by omega
   have hil4 : ¬ (1 : Int) + (i : Int) < 0:=by omega
   have hcast : ((1 : Int) + (i : Int)).toNat = i + 1:=by omega
   have hp1 : ((zO (zg (zj [x]))) ++ [(⟨1000001⟩ : Who)])[i]? = some w:=by rw [List.getElem?_append_left hil]; exact hp
   obtain ⟨w2,hp2⟩ : ∃ w2,((zO (zg (zj [x]))) ++ [(⟨1000001⟩ : Who)])[i + 1]? = some w2:=⟨_,List.getElem?_eq_getElem (by simp; omega)⟩
   have hw : IntKind.i64.wrap ((i : Int) + 1) = ((i + 1 : Nat) : Int):=by rw [IntWalk.i64_in _ (by omega)]; rfl
   have hid2 : za [x] g w.n x.known 0 = some (.int .i64 (idAt [x] g w.n x.known)):=rfl
   have hnext : (tchI [] [x] g x.known (i + 1)) = tchStep [] [x] g x.known (tchI [] [x] g x.known i) w.n w2.n:=by
    have g1 : (yM [x]).getD i ⟨0⟩ = w:=by rw [List.getD_eq_getElem?_getD]; show (((zO (zg (zj [x]))) ++ [(⟨1000001⟩ : Who)])[i]?).getD _ = w; rw [hp1]; rfl
    have g2 : (yM [x]).getD (i + 1) ⟨0⟩ = w2:=by rw [List.getD_eq_getElem?_getD]; show (((zO (zg (zj [x]))) ++ [(⟨1000001⟩ : Who)])[i + 1]?).getD _ = w2; rw [hp2]; rfl
    show tchStep [] [x] g x.known (tchI [] [x] g x.known i) ((yM [x]).getD i ⟨0⟩).n ((yM [x]).getD (i + 1) ⟨0⟩).n = _
    rw [g1,g2]
   have goC : ¬ (0 : Int) = idAt [x] g w.n x.known→∃ vals',((ρ.ext lTn_D.N vals').val 100 = some (.int .i64 ((i + 1 : Nat) : Int))∧(ρ.ext lTn_D.N vals').val 101 = some (.int .i64 (w.n))∧(ρ.ext lTn_D.N vals').val 102 = some (.int .i64 (IntKind.i64.wrap (w2.n - 1))))∧lTn_Inv x g 1 vals'∧lTn_mu (zO (zg (zj [x]))) 1 vals' < lTn_mu (zO (zg (zj [x]))) 0 [.int .i64 (i : Int),.int .i64 0,.int .i64 0]:=by
    intro hc
    have e2 : (tchI [] [x] g x.known (i + 1)) = ⟨w.n,IntKind.i64.wrap (w2.n - 1),true⟩:=by rw [hnext]; unfold tchStep; rw [show idAt [] g w.n x.known = 0 from rfl,if_neg hc,hn]; rfl
    refine ⟨[.int .i64 ((i + 1 : Nat) : Int),.int .i64 (tchI [] [x] g x.known (i + 1)).from_,.int .i64 (tchI [] [x] g x.known (i + 1)).until_],⟨?_,?_,?_⟩,⟨i + 1,by omega,.inr ⟨rfl,rfl,by rw [e2]⟩⟩,by simp [lTn_mu,vI]; omega⟩
    ·exact xH hN rfl (by decide)
    ·rw [yZ _ _ _ _ (by rw [hN]; omega)]; exact (congrArg (fun t : Tch => some (Value.int .i64 t.from_)) e2 :)
    ·rw [yZ _ _ _ _ (by rw [hN]; omega)]; exact (congrArg (fun t : Tch => some (Value.int .i64 t.until_)) e2 :)
   have goS : (0 : Int) = idAt [x] g w.n x.known→∃ vals',(ρ.ext lTn_D.N vals').val 100 = some (.int .i64 ((i + 1 : Nat) : Int))∧lTn_Inv x g 0 vals'∧lTn_mu (zO (zg (zj [x]))) 0 vals' < lTn_mu (zO (zg (zj [x]))) 0 [.int .i64 (i : Int),.int .i64 0,.int .i64 0]:=by
    intro hc
    have e2 : (tchI [] [x] g x.known (i + 1)) = (tchI [] [x] g x.known i):=by rw [hnext]; unfold tchStep; rw [show idAt [] g w.n x.known = 0 from rfl,if_pos hc]
    refine ⟨[.int .i64 ((i + 1 : Nat) : Int),.int .i64 0,.int .i64 0],?_,⟨i + 1,by omega,.inl ⟨rfl,rfl,by rw [e2]; exact hn⟩⟩,by simp [lTn_mu,vI]; omega⟩
    exact xH hN rfl (by decide)
   refine ⟨?_,?_⟩
   all_goals (simp only [lTn0_t,lTn0_F,lTn0_l,gA,gB,zd,gW,zm,zK,zR,zD,zh,zk,yw,yy,zr,zE,dZ,g3,v3,v4,v5,v6,v7,v8,v9,v10,v11,v12,v100,v101,v102,vs,h12,hsy,hxx,zi,zG,ze,zl,ym,z6,zZ,zx,zw,zq,hok,Int.toNat_natCast,hp,hp1,hp2,hll,hcast,Option.bind_some,who0,hid2,hil1,hil2,hil3,hil4,hw,reduceCtorEq,Bool.false_eq_true,false_implies,true_implies,and_true,true_and])
   all_goals (clear v3 v4 v5 v6 v7 v8 v9 v10 v11 v12 v100 v101 v102 vs h12 hx hsy hF)
   all_goals ((repeat' apply And.intro) <;> intros <;> first
    | trivial
    | contradiction
    | (exact goS (by assumption))
    | (exact goC (by assumption))
    | (exfalso; omega)
    | (simp_all; done))
theorem lTn_step1 {ρ : Rho} {x : Rat9} {kx : Nat→IntKind} {g : ByteArray} (hx : Rat9At ρ 3 kx x) (h12 : ρ.val 12 = some (.string g)) (hsy : ρ.sym = sy) (hok : okR9 [x] = true) {i : Nat} (hi : i≤(zO (zg (zj [x]))).length) (hn : (tchI [] [x] g x.known i).is = true) : yn lTn_D lTn_run E0 ρ (lTn_Inv x g) (lTn_mu (zO (zg (zj [x])))) 1 [.int .i64 (i : Int),.int .i64 (tchI [] [x] g x.known i).from_,.int .i64 (tchI [] [x] g x.known i).until_]:=by
 have hN : lTn_D.N = 100:=rfl
 have hmax:=ok_len hok
 have hbl:=beg_len [x]
 have hxx : (⟨x.id,x.known,x.from_,x.goods,x.num,x.den,x.cart,x.store,x.of_⟩ : Rat9) = x:=rfl
 have hll : (((zO (zg (zj [x]))) ++ [(⟨1000001⟩ : Who)]).length : Int) = ((zO (zg (zj [x]))).length : Int) + 1:=by simp
 have xl {jq vq}:=@xL ρ lTn_D.N 100 [.int .i64 (i : Int),.int .i64 (tchI [] [x] g x.known i).from_,.int .i64 (tchI [] [x] g x.known i).until_] jq vq hN
 have xh {jq vq}:=@xH ρ lTn_D.N 100 [.int .i64 (i : Int),.int .i64 (tchI [] [x] g x.known i).from_,.int .i64 (tchI [] [x] g x.known i).until_] jq vq hN
 have v3:=xl (jq:=3) hx.h0 (by decide)
 have v4:=xl (jq:=4) hx.h1 (by decide)
 have v5:=xl (jq:=5) hx.h2 (by decide)
 have v6:=xl (jq:=6) hx.h3 (by decide)
 have v7:=xl (jq:=7) hx.h4 (by decide)
 have v8:=xl (jq:=8) hx.h5 (by decide)
 have v9:=xl (jq:=9) hx.h6 (by decide)
 have v10:=xl (jq:=10) hx.h7 (by decide)
 have v11:=xl (jq:=11) hx.h8 (by decide)
 have v12:=xl (jq:=12) h12 (by decide)
 have v100:=xh (jq:=100) (vq:=.int .i64 (i : Int)) rfl (by decide)
 have v101:=xh (jq:=101) (vq:=.int .i64 (tchI [] [x] g x.known i).from_) rfl (by decide)
 have v102:=xh (jq:=102) (vq:=.int .i64 (tchI [] [x] g x.known i).until_) rfl (by decide)
 have vs : (ρ.ext lTn_D.N [.int .i64 (i : Int),.int .i64 (tchI [] [x] g x.known i).from_,.int .i64 (tchI [] [x] g x.known i).until_]).sym = sy:=hsy
 have hF : zf (ρ.ext lTn_D.N [.int .i64 (i : Int),.int .i64 (tchI [] [x] g x.known i).from_,.int .i64 (tchI [] [x] g x.known i).until_]) lTn1_F:=by
  simp only [lTn1_F,zf,gB,zd,gW,zm,zK,List.nil_append,v3,v4,v5,v6,v7,v8,v9,v10,v11,v12,v100,v101,v102,vs,hxx,ze,hok,Option.some.injEq,Value.bool.injEq,decide_eq_false_iff_not,and_true,true_and]
  omega
 suffices both : y9 (ρ.ext lTn_D.N [.int .i64 (i : Int),.int .i64 (tchI [] [x] g x.known i).from_,.int .i64 (tchI [] [x] g x.known i).until_]) (lTn1_t.asks lTn1_F)∧zD lTn_D ρ (lTn_Inv x g) (lTn_mu (zO (zg (zj [x])))) 1 [.int .i64 (i : Int),.int .i64 (tchI [] [x] g x.known i).from_,.int .i64 (tchI [] [x] g x.known i).until_] lTn1_l from zC (lTn1_w _) hF both.1.ok both.2
 cases hp : (zO (zg (zj [x])))[i]? with
 | none =>
   have hge:=List.getElem?_eq_none_iff.1 hp
   have hge' : ¬ (i : Int) < (zO (zg (zj [x]))).length:=by omega
   have hT : (tchI [] [x] g x.known i) = tch [] [x] g x.known:=by
    have : i = (begW [x]).length:=by unfold begW; omega
    rw [this]; rfl
   refine ⟨?_,?_⟩
   ·simp only [lTn1_t,lTn1_F,gA,gB,zd,gW,zm,zK,v3,v4,v5,v6,v7,v8,v9,v10,v11,v12,v100,v101,v102,vs,hxx,zi,zG,ze,zl,ym,z6,zZ,zx,zw,zq,hok,Int.toNat_natCast,hp,hge']
    try simp
   ·simp only [lTn1_l,gE,dZ,gB,zd,g3,gW,zm,zK,List.nil_append,v3,v4,v5,v6,v7,v8,v9,v10,v11,v12,v100,v101,v102,vs,h12,hx.h0,hx.h1,hx.h2,hx.h3,hx.h4,hx.h5,hx.h6,hx.h7,hx.h8,hsy,hxx,zi,zG,ze,zl,ym,z6,zZ,zx,zw,zq,hok,Int.toNat_natCast,hp,hge',reduceCtorEq,gR]
    rw [hT] at hn
    try simp only [hT]
    simp [hn]
 | some w =>
   have hil : i < (zO (zg (zj [x]))).length:=(List.getElem?_eq_some_iff.1 hp).1
   have hil1 : (i : Int) < (zO (zg (zj [x]))).length:=by omega
   have hil2 : (i : Int) < ((zO (zg (zj [x]))).length : Int) + 1:=by omega
   have hil3 : (1 : Int) + (i : Int) < ((zO (zg (zj [x]))).length : Int) + 1:=by omega
   have hil4 : ¬ (1 : Int) + (i : Int) < 0:=by omega
   have hcast : ((1 : Int) + (i : Int)).toNat = i + 1:=by omega
   have hp1 : ((zO (zg (zj [x]))) ++ [(⟨1000001⟩ : Who)])[i]? = some w:=by rw [List.getElem?_append_left hil]; exact hp
   obtain ⟨w2,hp2⟩ : ∃ w2,((zO (zg (zj [x]))) ++ [(⟨1000001⟩ : Who)])[i + 1]? = some w2:=⟨_,List.getElem?_eq_getElem (by simp; omega)⟩
   have hw : IntKind.i64.wrap ((i : Int) + 1) = ((i + 1 : Nat) : Int):=by rw [IntWalk.i64_in _ (by omega)]; rfl
   have hid2 : za [x] g w.n x.known 0 = some (.int .i64 (idAt [x] g w.n x.known)):=rfl
   have hnext : (tchI [] [x] g x.known (i + 1)) = tchStep [] [x] g x.known (tchI [] [x] g x.known i) w.n w2.n:=by
    have g1 : (yM [x]).getD i ⟨0⟩ = w:=by rw [List.getD_eq_getElem?_getD]; show (((zO (zg (zj [x]))) ++ [(⟨1000001⟩ : Who)])[i]?).getD _ = w; rw [hp1]; rfl
    have g2 : (yM [x]).getD (i + 1) ⟨0⟩ = w2:=by rw [List.getD_eq_getElem?_getD]; show (((zO (zg (zj [x]))) ++ [(⟨1000001⟩ : Who)])[i + 1]?).getD _ = w2; rw [hp2]; rfl
    show tchStep [] [x] g x.known (tchI [] [x] g x.known i) ((yM [x]).getD i ⟨0⟩).n ((yM [x]).getD (i + 1) ⟨0⟩).n = _
    rw [g1,g2]
   have goC : ¬ (0 : Int) = idAt [x] g w.n x.known→∃ vals',((ρ.ext lTn_D.N vals').val 100 = some (.int .i64 ((i + 1 : Nat) : Int))∧(ρ.ext lTn_D.N vals').val 101 = some (.int .i64 ((tchI [] [x] g x.known i).from_))∧(ρ.ext lTn_D.N vals').val 102 = some (.int .i64 (IntKind.i64.wrap (w2.n - 1))))∧lTn_Inv x g 1 vals'∧lTn_mu (zO (zg (zj [x]))) 1 vals' < lTn_mu (zO (zg (zj [x]))) 1 [.int .i64 (i : Int),.int .i64 (tchI [] [x] g x.known i).from_,.int .i64 (tchI [] [x] g x.known i).until_]:=by
    intro hc
    have e2 : (tchI [] [x] g x.known (i + 1)) = ⟨(tchI [] [x] g x.known i).from_,IntKind.i64.wrap (w2.n - 1),true⟩:=by rw [hnext]; unfold tchStep; rw [show idAt [] g w.n x.known = 0 from rfl,if_neg hc,hn]; rfl
    refine ⟨[.int .i64 ((i + 1 : Nat) : Int),.int .i64 (tchI [] [x] g x.known (i + 1)).from_,.int .i64 (tchI [] [x] g x.known (i + 1)).until_],⟨?_,?_,?_⟩,⟨i + 1,by omega,.inr ⟨rfl,rfl,by rw [e2]⟩⟩,by simp [lTn_mu,vI]; omega⟩
    ·exact xH hN rfl (by decide)
    ·rw [yZ _ _ _ _ (by rw [hN]; omega)]; exact (congrArg (fun t : Tch => some (Value.int .i64 t.from_)) e2 :)
    ·rw [yZ _ _ _ _ (by rw [hN]; omega)]; exact (congrArg (fun t : Tch => some (Value.int .i64 t.until_)) e2 :)
   have goS : (0 : Int) = idAt [x] g w.n x.known→∃ vals',((ρ.ext lTn_D.N vals').val 100 = some (.int .i64 ((i + 1 : Nat) : Int))∧(ρ.ext lTn_D.N vals').val 101 = some (.int .i64 ((tchI [] [x] g x.known i).from_))∧(ρ.ext lTn_D.N vals').val 102 = some (.int .i64 ((tchI [] [x] g x.known i).until_)))∧lTn_Inv x g 1 vals'∧lTn_mu (zO (zg (zj [x]))) 1 vals' < lTn_mu (zO (zg (zj [x]))) 1 [.int .i64 (i : Int),.int .i64 (tchI [] [x] g x.known i).from_,.int .i64 (tchI [] [x] g x.known i).until_]:=by
    intro hc
    have e2 : (tchI [] [x] g x.known (i + 1)) = (tchI [] [x] g x.known i):=by rw [hnext]; unfold tchStep; rw [show idAt [] g w.n x.known = 0 from rfl,if_pos hc]
    refine ⟨[.int .i64 ((i + 1 : Nat) : Int),.int .i64 (tchI [] [x] g x.known (i + 1)).from_,.int .i64 (tchI [] [x] g x.known (i + 1)).until_],⟨?_,?_,?_⟩,⟨i + 1,by omega,.inr ⟨rfl,rfl,by rw [e2]; exact hn⟩⟩,by simp [lTn_mu,vI]; omega⟩
    ·exact xH hN rfl (by decide)
    ·rw [yZ _ _ _ _ (by rw [hN]; omega)]; exact (congrArg (fun t : Tch => some (Value.int .i64 t.from_)) e2 :)
    ·rw [yZ _ _ _ _ (by rw [hN]; omega)]; exact (congrArg (fun t : Tch => some (Value.int .i64 t.until_)) e2 :)
   refine ⟨?_,?_⟩
   all_goals (simp only [lTn1_t,lTn1_F,lTn1_l,gA,gB,zd,gW,zm,zK,zR,zD,zh,zk,yw,yy,zr,zE,dZ,g3,v3,v4,v5,v6,v7,v8,v9,v10,v11,v12,v100,v101,v102,vs,h12,hsy,hxx,zi,zG,ze,zl,ym,z6,zZ,zx,zw,zq,hok,Int.toNat_natCast,hp,hp1,hp2,hll,hcast,Option.bind_some,who0,hid2,hil1,hil2,hil3,hil4,hw,reduceCtorEq,Bool.false_eq_true,false_implies,true_implies,and_true,true_and])
   all_goals (clear v3 v4 v5 v6 v7 v8 v9 v10 v11 v12 v100 v101 v102 vs h12 hx hsy hF)
   all_goals ((repeat' apply And.intro) <;> intros <;> first
    | trivial
    | contradiction
    | (exact goS (by assumption))
    | (exact goC (by assumption))
    | (exfalso; omega)
    | (simp_all; done))
theorem lTn_step {ρ : Rho} {x : Rat9} {kx : Nat→IntKind} {g : ByteArray} (hx : Rat9At ρ 3 kx x) (h12 : ρ.val 12 = some (.string g)) (hsy : ρ.sym = sy) (hok : okR9 [x] = true) (j : Nat) (vals : List Value) (hI : lTn_Inv x g j vals) : yn lTn_D lTn_run E0 ρ (lTn_Inv x g) (lTn_mu (zO (zg (zj [x])))) j vals:=by
 obtain ⟨i,hi,⟨rfl,rfl,hn⟩ | ⟨rfl,rfl,hn⟩⟩:=hI
 ·exact lTn_step0 hx h12 hsy hok hi hn
 ·exact lTn_step1 hx h12 hsy hok hi hn
theorem lTn_H {ρ : Rho} {x : Rat9} {kx : Nat→IntKind} {g : ByteArray} (hx : Rat9At ρ 3 kx x) (h12 : ρ.val 12 = some (.string g)) (hsy : ρ.sym = sy) (hok : okR9 [x] = true) (F : List (X×Bool)) : LoopsOk (E0.with F ρ) (oneH 11 (hooks [(6,lTn_D.hook (E0.with F ρ).facts tn_vs)])):=by
 refine loops_all (n:=1) (fun f fn h => h) (by kernel_rfl) fun i hi => ?_
 obtain rfl : i = 0:=by omega
 rw [hooks_hit (show keyOf (yA (E0.with F ρ).P 11 0) = 6 by kernel_rfl)]
 refine hook_ok (E₀:=E0) (run:=lTn_run) (ρ:=ρ) (Inv:=lTn_Inv x g) (μ:=lTn_mu (zO (zg (zj [x])))) yQ lTn_ok (fun F r' h => ?_) (fun hp => ⟨lTn_step hx h12 hsy hok,[.int .i64 0,.int .i64 0,.int .i64 0],?_,0,Nat.zero_le _,.inl ⟨rfl,rfl,rfl⟩⟩)
 ·exact ye yQ (LNQ_ok F (h.trans hsy)) fun _ _ => yc
 ·simp only [tn_vs,gB,zd,gW,zm,zK,List.nil_append]
  try rfl
noncomputable def cTnE_con : Con:={ f:=11,args:=[.nils,.agg [.int .i64 3,.int .i64 4,.int .i64 5,.str 6,.int .i64 7,.int .i64 8,.int .i64 9,.int .i64 10,.int .i64 11],.one (.str 12)],N:=1,M:=1,pre:=[(qTN10,false),(qTN26,false)],out:=.tuple [.int .i64 0,.int .i64 0,.bool false,.sint .i64 (.app 200 [qTN1])],news:=[] }
noncomputable def cTnE_call : Env→Za:=fun E => zS E (evH E (LNQ E) ((fun _ => yX) E) 12)
noncomputable def cTnE_t : GTree:=(.fork qTN13 (.leaf [[]]) .bad)
noncomputable def cTnE_l : List (List (X×Bool)×Option zp):=[([(qTN13,true),(qTN10,false),(qTN16,false)],some [(.app 200 [qTN0],.app 200 [qTN0])]),
 ([(qTN13,false),(qTN10,false),(qTN16,false)],none)]
theorem cTnE_w (r : Rho) : cTnE_con.fn.ways cTnE_call E0 r cTnE_con.pre cTnE_t = some cTnE_l:=by kernel_rfl
theorem cTnE_cok : cTnE_con.Ok Tryz.prog sy:=by
 intro r σ w us hsy hρ hpre hrel hins
 obtain ⟨u0,us,rfl,g0,hi⟩:=zn hins
 obtain ⟨u1,us,rfl,g1,hi1⟩:=zn hi
 obtain ⟨x,kx,rfl,hx⟩:=rat_agg (v:=3) g1
 rw [hρ] at hx
 have a0:=hx.h0
 have a1:=hx.h1
 have a2:=hx.h2
 have a3:=hx.h3
 have a4:=hx.h4
 have a5:=hx.h5
 have a6:=hx.h6
 have a7:=hx.h7
 have a8:=hx.h8
 simp only [Nat.reduceAdd] at a0 a1 a2 a3 a4 a5 a6 a7 a8
 have hgx : (x.goods.size : Int)≤100:=by
  have:=hpre.1
  simp only [gB,zd,gW,zm,a3,Option.some.injEq,Value.bool.injEq,decide_eq_false_iff_not] at this
  omega
 have hxx : (⟨x.id,x.known,x.from_,x.goods,x.num,x.den,x.cart,x.store,x.of_⟩ : Rat9) = x:=rfl
 have hok : okR9 [x] = true:=ok_snoc (l:=[]) rfl hgx (by simp)
 obtain ⟨u2,us,rfl,g2,hi2⟩:=zn hi1
 obtain ⟨g,rfl,h12⟩:=one_str g2
 rw [hρ] at h12
 have hbl : (zO (zg (zj [x]))).length≤1:=beg_len [x]
 refine y6 (E:=E0) yQ yC (sy:=sy) (fun F => LNQ_ok F hsy) (fun F => noH_ok) (cTnE_w r) hρ hpre hrel hins ?_ ?_
 ·simp only [cTnE_con,cTnE_t,gA,gB,zd,gW,zm,zK,a0,a1,a2,a3,a4,a5,a6,a7,a8,h12,hsy,zi,zG,ze,zl,ym,z6,zZ,zx,zw,zq,hxx,hok]
  try simp
 ·simp only [cTnE_l,gE,dZ,gB,zd,g3,gW,zm,zK,List.nil_append,a0,a1,a2,a3,a4,a5,a6,a7,a8,h12,hsy,zi,zG,ze,zl,ym,z6,zZ,zx,zw,zq,hxx,hok]
  try simp
  try omega
noncomputable def cTnN_con : Con:={ f:=11,args:=[.nils,.agg [.int .i64 3,.int .i64 4,.int .i64 5,.str 6,.int .i64 7,.int .i64 8,.int .i64 9,.int .i64 10,.int .i64 11],.one (.str 12)],N:=1,M:=1,pre:=[(qTN10,false),(qTN26,true),(.app 202 [qTN1],true),(.op2 .lt (.num 0) (.op1 .len qTN1),true),(qTN25,false)],out:=.tuple [.int .i64 0,.int .i64 0,.bool false,.int .i64 0],news:=[] }
noncomputable def cTnN_call : Env→Za:=fun E => zS E (evH E (LNQ E) ((fun E => oneH 11 (hooks [(6,lTn_D.hook E.facts tn_vs)])) E) 12)
noncomputable def cTnN_t : GTree:=(.fork qTN17 .bad (.fork qTN21 .bad (.leaf [[]])))
noncomputable def cTnN_l : List (List (X×Bool)×Option zp):=[((qTN17,true) :: qTNf1,none),
 ((qTN21,true) :: (qTN17,false) :: qTNf1,none),
 ((qTN21,false) :: (qTN17,false) :: qTNf1,some [])]
theorem cTnN_w (r : Rho) : cTnN_con.fn.ways cTnN_call E0 r cTnN_con.pre cTnN_t = some cTnN_l:=by kernel_rfl
theorem cTnN_cok : cTnN_con.Ok Tryz.prog sy:=by
 intro r σ w us hsy hρ hpre hrel hins
 obtain ⟨u0,us,rfl,g0,hi⟩:=zn hins
 obtain ⟨u1,us,rfl,g1,hi1⟩:=zn hi
 obtain ⟨x,kx,rfl,hx⟩:=rat_agg (v:=3) g1
 rw [hρ] at hx
 have a0:=hx.h0
 have a1:=hx.h1
 have a2:=hx.h2
 have a3:=hx.h3
 have a4:=hx.h4
 have a5:=hx.h5
 have a6:=hx.h6
 have a7:=hx.h7
 have a8:=hx.h8
 simp only [Nat.reduceAdd] at a0 a1 a2 a3 a4 a5 a6 a7 a8
 have hgx : (x.goods.size : Int)≤100:=by
  have:=hpre.1
  simp only [gB,zd,gW,zm,a3,Option.some.injEq,Value.bool.injEq,decide_eq_false_iff_not] at this
  omega
 have hxx : (⟨x.id,x.known,x.from_,x.goods,x.num,x.den,x.cart,x.store,x.of_⟩ : Rat9) = x:=rfl
 have hok : okR9 [x] = true:=ok_snoc (l:=[]) rfl hgx (by simp)
 obtain ⟨u2,us,rfl,g2,hi2⟩:=zn hi1
 obtain ⟨g,rfl,h12⟩:=one_str g2
 rw [hρ] at h12
 have hbl : (zO (zg (zj [x]))).length≤1:=beg_len [x]
 refine y6 (E:=E0) yQ yC (sy:=sy) (fun F => LNQ_ok F hsy) (fun F => lTn_H hx h12 hsy hok F) (cTnN_w r) hρ hpre hrel hins ?_ ?_
 ·simp only [cTnN_con,cTnN_t,gA,gB,zd,gW,zm,zK,a0,a1,a2,a3,a4,a5,a6,a7,a8,h12,hsy,zi,zG,ze,zl,ym,z6,zZ,zx,zw,zq,hxx,hok]
  try simp
 ·simp only [cTnN_l,gE,dZ,gB,zd,g3,gW,zm,zK,List.nil_append,a0,a1,a2,a3,a4,a5,a6,a7,a8,h12,hsy,zi,zG,ze,zl,ym,z6,zZ,zx,zw,zq,hxx,hok]
  try simp
  try omega
noncomputable def cTnY_con : Con:={ f:=11,args:=[.nils,.agg [.int .i64 3,.int .i64 4,.int .i64 5,.str 6,.int .i64 7,.int .i64 8,.int .i64 9,.int .i64 10,.int .i64 11],.one (.str 12)],N:=1,M:=1,pre:=[(qTN10,false),(qTN26,true),(.app 202 [qTN1],true),(.op2 .lt (.num 0) (.op1 .len qTN1),true),(qTN25,true)],out:=.tuple [.sint .i64 (.app 211 [.nil,qTN1,.var 12,.var 4]),.sint .i64 (.app 212 [.nil,qTN1,.var 12,.var 4]),.bool true,.int .i64 0],news:=[] }
noncomputable def cTnY_call : Env→Za:=fun E => zS E (evH E (LNQ E) ((fun E => oneH 11 (hooks [(6,lTn_D.hook E.facts tn_vs)])) E) 12)
noncomputable def cTnY_t : GTree:=(.fork qTN17 .bad (.fork qTN21 .bad (.leaf [[]])))
noncomputable def cTnY_l : List (List (X×Bool)×Option zp):=[((qTN17,true) :: qTNf2,none),
 ((qTN21,true) :: (qTN17,false) :: qTNf2,none),
 ((qTN21,false) :: (qTN17,false) :: qTNf2,some [(qTN22,qTN22),(qTN23,qTN23)])]
theorem cTnY_w (r : Rho) : cTnY_con.fn.ways cTnY_call E0 r cTnY_con.pre cTnY_t = some cTnY_l:=by kernel_rfl
theorem cTnY_cok : cTnY_con.Ok Tryz.prog sy:=by
 intro r σ w us hsy hρ hpre hrel hins
 obtain ⟨u0,us,rfl,g0,hi⟩:=zn hins
 obtain ⟨u1,us,rfl,g1,hi1⟩:=zn hi
 obtain ⟨x,kx,rfl,hx⟩:=rat_agg (v:=3) g1
 rw [hρ] at hx
 have a0:=hx.h0
 have a1:=hx.h1
 have a2:=hx.h2
 have a3:=hx.h3
 have a4:=hx.h4
 have a5:=hx.h5
 have a6:=hx.h6
 have a7:=hx.h7
 have a8:=hx.h8
 simp only [Nat.reduceAdd] at a0 a1 a2 a3 a4 a5 a6 a7 a8
 have hgx : (x.goods.size : Int)≤100:=by
  have:=hpre.1
  simp only [gB,zd,gW,zm,a3,Option.some.injEq,Value.bool.injEq,decide_eq_false_iff_not] at this
  omega
 have hxx : (⟨x.id,x.known,x.from_,x.goods,x.num,x.den,x.cart,x.store,x.of_⟩ : Rat9) = x:=rfl
 have hok : okR9 [x] = true:=ok_snoc (l:=[]) rfl hgx (by simp)
 obtain ⟨u2,us,rfl,g2,hi2⟩:=zn hi1
 obtain ⟨g,rfl,h12⟩:=one_str g2
 rw [hρ] at h12
 have hbl : (zO (zg (zj [x]))).length≤1:=beg_len [x]
 refine y6 (E:=E0) yQ yC (sy:=sy) (fun F => LNQ_ok F hsy) (fun F => lTn_H hx h12 hsy hok F) (cTnY_w r) hρ hpre hrel hins ?_ ?_
 ·simp only [cTnY_con,cTnY_t,gA,gB,zd,gW,zm,zK,a0,a1,a2,a3,a4,a5,a6,a7,a8,h12,hsy,zi,zG,ze,zl,ym,z6,zZ,zx,zw,zq,hxx,hok]
  try simp
 ·simp only [cTnY_l,gE,dZ,gB,zd,g3,gW,zm,zK,List.nil_append,a0,a1,a2,a3,a4,a5,a6,a7,a8,h12,hsy,zi,zG,ze,zl,ym,z6,zZ,zx,zw,zq,hxx,hok]
  try simp
  try omega
end Go.Proofs.YtfddkbbjnghefaaGreatDoor.Zs
