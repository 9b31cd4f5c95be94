/-
  Contracts: Touched; few.
-/
import Derived.Test.YtfddkbbjnghefaaGreatDoorToConE
import Derived.KernelRfl
set_option linter.unusedSimpArgs false
set_option maxHeartbeats 4000000
set_option linter.unusedVariables false
namespace Go.Proofs.YtfddkbbjnghefaaGreatDoor.Zs
open Go
noncomputable def LH : Env→yj:=libs [cLib cApE_con,cLib cApY_con,cLib cBgN_con,cLib cBgY_con,cLib cId_con]
theorem LH_ok (F : List (X×Bool)) {r : Rho} (h : r.sym = sy) : zu (E0.with F r) (LH (E0.with F r)):=libs_ok fun c hc => by
 simp only [List.mem_cons,List.not_mem_nil,or_false] at hc
 rcases hc with rfl | rfl | rfl | rfl | rfl
 ·exact ya (E:=E0) cApE_cok F h
 ·exact ya (E:=E0) cApY_cok F h
 ·exact ya (E:=E0) cBgN_cok F h
 ·exact ya (E:=E0) cBgY_cok F h
 ·exact ya (E:=E0) cId_cok F h
def tc_vs : List X:=[.num 0,.num 0,.num 0]
abbrev qRH0 : X:=.snoc (.var 1) [.op1 (.kind .i64) (.var 3),.op1 (.kind .i64) (.var 4),.op1 (.kind .i64) (.var 5),.var 6,.op1 (.kind .i64) (.var 7),.op1 (.kind .i64) (.var 8),.op1 (.kind .i64) (.var 9),.op1 (.kind .i64) (.var 10),.op1 (.kind .i64) (.var 11)]
abbrev qRH1 : X:=.snoc (.var 1) [.op1 (.kind .i64) (.var 3),.op1 (.kind .i64) (.var 4),.op1 (.kind .i64) (.var 5),.var 6,.op1 (.kind .i64) (.var 7),.op1 (.kind .i64) (.var 8),.op1 (.kind .i64) (.var 9),.op1 (.kind .i64) (.var 10),.op1 (.kind .i64) (.var 11)]
abbrev qRH2 : X:=.app 209 [.app 113 [.app 208 [qRH0]]]
abbrev qRH3 : X:=.snoc qRH2 [.op1 (.kind .i64) (.num 1000001)]
abbrev qRH4 : X:=.op2 .eq (.app 205 [.var 1,.var 12,.cell 0 qRH3 (.var 100),.var 4,.num 0]) (.app 205 [qRH0,.var 12,.cell 0 qRH3 (.var 100),.var 4,.num 0])
abbrev qRH5 : X:=.op2 .add (.op1 .len qRH2) (.num 1)
abbrev qRH6 : X:=.op2 .add (.num 1) (.var 100)
abbrev qRH7 : X:=.op2 .lt (.var 100) (.op1 .len qRH2)
abbrev qRH27 : X:=.app 209 [.app 113 [.app 208 [qRH1]]]
abbrev qRH8 : X:=.op2 .add (.op1 .len qRH27) (.num 1)
abbrev qRH9 : X:=.op2 .lt (.var 100) (.num 0)
abbrev qRH10 : X:=.op2 .lt (.num 1000) (.op1 .len (.var 1))
abbrev qRH11 : X:=.op2 .lt (.num 100) (.op1 .slen (.var 6))
abbrev qRH12 : X:=.app 202 [.var 1]
abbrev qRH13 : X:=.app 213 [.var 1,qRH0,.var 12,.var 4]
abbrev qRH14 : X:=.op2 .lt qRH6 (.op1 .len qRH3)
abbrev qRH15 : X:=.op2 .lt qRH6 (.num 0)
abbrev qRH16 : X:=.op2 .lt (.var 100) (.op1 .len qRH3)
abbrev qRH17 : X:=.app 202 [qRH0]
abbrev qRH18 : X:=.op2 .lt (.num 1000000000) qRH5
abbrev qRH19 : X:=.op2 .eq (.app 200 [qRH0]) (.num 0)
abbrev qRH20 : X:=.op2 .lt (.var 100) qRH5
abbrev qRH21 : X:=.op2 .add (.op1 .len (.var 1)) (.num 1)
abbrev qRH22 : X:=.op2 .lt (.num 0) (.op1 .len qRH0)
abbrev qRH23 : X:=.op1 (.wrap .i64) (.op2 .add (.var 100) (.num 1))
abbrev qRH24 : X:=.op2 .lt qRH5 (.num 1)
abbrev qRH25 : X:=.app 211 [.var 1,qRH0,.var 12,.var 4]
abbrev qRH26 : X:=.app 212 [.var 1,qRH0,.var 12,.var 4]
abbrev qRH28 : X:=.app 213 [.var 1,qRH1,.var 12,.var 4]
abbrev qRH29 : X:=.app 202 [.var 1]
abbrev qRH30 : X:=.op2 .eq (.app 200 [qRH1]) (.num 0)
abbrev qRHf3 : List (X×Bool):=[(qRH12,true),(qRH17,true),(qRH9,false)]
abbrev qRHf0 : List (X×Bool):=(qRH15,false) :: (qRH7,true) :: qRHf3
abbrev qRHf1 : List (X×Bool):=[(qRH12,true),(qRH10,false),(qRH11,false),(qRH19,true),(qRH17,true),(qRH22,true),(qRH13,false)]
abbrev qRHf2 : List (X×Bool):=[(qRH12,true),(qRH10,false),(qRH11,false),(qRH19,true),(qRH17,true),(qRH22,true),(qRH13,true)]
abbrev qRHf4 : List (X×Bool):=(qRH20,true) :: (qRH14,true) :: qRHf0
noncomputable def lTc_D : LoopD:={ N:=100,M:=111,size:=sizeOfF 11,reads:=[(0,.rows 9 ratSch (.var 0) (.var 1) false 26),(2,.rows 9 ratSch (.num 0) qRH1 true 26),(1,.cells [.sint .i64 (.var 3),.sint .i64 (.var 4),.sint .i64 (.var 5),.sstr (.var 6),.sint .i64 (.var 7),.sint .i64 (.var 8),.sint .i64 (.var 9),.sint .i64 (.var 10),.sint .i64 (.var 11)] 26),(5,.rows 1 [.int .i64] (.num 0) (.snoc qRH27 [.op1 (.kind .i64) (.num 1000001)]) true 3)],pats:=[{ slots:=[(0,.slx 0 9 (.var 0) (.num 0) (.op1 .len (.var 1)) (.var 2)),(2,.sstr (.var 12)),(4,.ptr 1 0),(10,.slo 2 9 qRH21),(11,.slo 5 1 qRH8),(19,.slo 2 9 qRH21),(24,.slo 2 9 qRH21),(27,.slo 5 1 qRH8),(28,.slo 5 1 qRH8),(29,.spt 5 1 (.num 1) qRH8),(30,.sint .i64 (.op1 .len qRH27)),(31,.sint .i64 (.var 100)),(6,.int .i64 0),(7,.int .i64 0),(8,.bool false)],heap:=[] },{ slots:=[(0,.slx 0 9 (.var 0) (.num 0) (.op1 .len (.var 1)) (.var 2)),(2,.sstr (.var 12)),(4,.ptr 1 0),(10,.slo 2 9 qRH21),(11,.slo 5 1 qRH8),(19,.slo 2 9 qRH21),(24,.slo 2 9 qRH21),(27,.slo 5 1 qRH8),(28,.slo 5 1 qRH8),(29,.spt 5 1 (.num 1) qRH8),(30,.sint .i64 (.op1 .len qRH27)),(31,.sint .i64 (.var 100)),(6,.sint .i64 (.var 101)),(7,.sint .i64 (.var 102)),(8,.bool true)],heap:=[] }],exits:=[(.exit 0,{ slots:=[(6,.int .i64 0),(7,.int .i64 0),(8,.bool false)],heap:=[],guard:=.op1 .not qRH28 }),(.exit 0,{ slots:=[(6,.sint .i64 (.app 211 [.var 1,qRH1,.var 12,.var 4])),(7,.sint .i64 (.app 212 [.var 1,qRH1,.var 12,.var 4])),(8,.bool true)],heap:=[],guard:=.app 213 [.var 1,qRH1,.var 12,.var 4] })],own:=[],pre:=[(qRH29,true),(.app 202 [qRH1],true)],dfs:=[] }
noncomputable def lTc_run : Env→AF→ASt→Option (List Out):=bodyRun LH 9 (fun _ => noLoop) (yA Tryz.prog 11 0)
def lTc0_F : List (X×Bool):=[(qRH29,true),(.app 202 [qRH1],true),(qRH9,false)]
def lTc1_F : List (X×Bool):=[(qRH29,true),(.app 202 [qRH1],true),(qRH9,false)]
noncomputable def lTc0_t : FTree:=(.fork qRH7 (.fork qRH15 .bad (.fork qRH14 (.fork qRH20 (.fork qRH16 (.fork qRH4 (.leaf [.again 0 []]) (.leaf [.again 1 []])) .bad) .bad) .bad)) (.leaf [.leave 0 []]))
noncomputable def lTc0_l : List (List (X×Bool)×Option (List (Tgt×zp))):=[((qRH15,true) :: (qRH7,true) :: qRHf3,none),
 ((qRH4,true) :: (qRH16,true) :: qRHf4,some [(.again 0 [],[(.var 100,qRH23)])]),
 ((qRH4,false) :: (qRH16,true) :: qRHf4,some [(.again 1 [],[(.var 100,qRH23),(.var 101,.cell 0 qRH3 (.var 100)),(.var 102,.op1 (.wrap .i64) (.op2 .sub (.cell 0 qRH3 qRH6) (.num 1)))])]),
 ((qRH16,false) :: qRHf4,none),
 ((qRH20,false) :: (qRH14,true) :: qRHf0,none),
 ((qRH14,false) :: qRHf0,none),
 ((qRH7,false) :: qRHf3,some [(.leave 0 [],[(.op1 .not qRH13,.boo true)])])]
theorem lTc0_w (r : Rho) : lTc_D.ways lTc_run E0 r 0 lTc0_F lTc0_t = some lTc0_l:=by kernel_rfl
noncomputable def lTc1_t : FTree:=(.fork qRH7 (.fork qRH15 .bad (.fork qRH14 (.fork qRH20 (.fork qRH16 (.fork qRH4 (.leaf [.again 1 []]) (.leaf [.again 1 []])) .bad) .bad) .bad)) (.leaf [.leave 1 []]))
noncomputable def lTc1_l : List (List (X×Bool)×Option (List (Tgt×zp))):=[((qRH15,true) :: (qRH7,true) :: qRHf3,none),
 ((qRH4,true) :: (qRH16,true) :: qRHf4,some [(.again 1 [],[(.var 100,qRH23),(.var 101,.var 101),(.var 102,.var 102)])]),
 ((qRH4,false) :: (qRH16,true) :: qRHf4,some [(.again 1 [],[(.var 100,qRH23),(.var 101,.var 101),(.var 102,.op1 (.wrap .i64) (.op2 .sub (.cell 0 qRH3 qRH6) (.num 1)))])]),
 ((qRH16,false) :: qRHf4,none),
 ((qRH20,false) :: (qRH14,true) :: qRHf0,none),
 ((qRH14,false) :: qRHf0,none),
 ((qRH7,false) :: qRHf3,some [(.leave 1 [],[(qRH25,.var 101),(qRH26,.var 102),(qRH13,.boo true)])])]
theorem lTc1_w (r : Rho) : lTc_D.ways lTc_run E0 r 1 lTc1_F lTc1_t = some lTc1_l:=by kernel_rfl
theorem lTc_ok : lTc_D.ok = true:=by kernel_rfl
def lTc_Inv (l : List Rat9) (x : Rat9) (g : ByteArray) (j : Nat) (vals : List Value) : Prop:=
 ∃ i : Nat,i≤(zO (zg (zj (l ++ [x])))).length∧((j = 0∧vals = [.int .i64 (i : Int),.int .i64 0,.int .i64 0]∧(tchI l (l ++ [x]) g x.known i).is = false)∨(j = 1∧vals = [.int .i64 (i : Int),.int .i64 (tchI l (l ++ [x]) g x.known i).from_,.int .i64 (tchI l (l ++ [x]) g x.known i).until_]∧(tchI l (l ++ [x]) g x.known i).is = true))
def lTc_mu (b : List Who) (_ : Nat) (vals : List Value) : Nat:=b.length - (vI (vals.getD 0 default)).toNat
theorem lTc_step0 {ρ : Rho} {l : List Rat9} {x : Rat9} {kx : Nat→IntKind} {g : ByteArray} (h1 : ρ.val 1 = some (ratsR l)) (hx : Rat9At ρ 3 kx x) (h12 : ρ.val 12 = some (.string g)) (hsy : ρ.sym = sy) (hsh : okR9 l = true) (hok : okR9 (l ++ [x]) = true) {i : Nat} (hi : i≤(zO (zg (zj (l ++ [x])))).length) (hn : (tchI l (l ++ [x]) g x.known i).is = false) : yn lTc_D lTc_run E0 ρ (lTc_Inv l x g) (lTc_mu (zO (zg (zj (l ++ [x]))))) 0 [.int .i64 (i : Int),.int .i64 0,.int .i64 0]:=by
 have hN : lTc_D.N = 100:=rfl
 have hmax:=ok_len hok
 have hbl:=beg_len (l ++ [x])
 have hxx : (⟨x.id,x.known,x.from_,x.goods,x.num,x.den,x.cart,x.store,x.of_⟩ : Rat9) = x:=rfl
 have hll : (((zO (zg (zj (l ++ [x])))) ++ [(⟨1000001⟩ : Who)]).length : Int) = ((zO (zg (zj (l ++ [x])))).length : Int) + 1:=by simp
 have xl {jq vq}:=@xL ρ lTc_D.N 100 [.int .i64 (i : Int),.int .i64 0,.int .i64 0] jq vq hN
 have xh {jq vq}:=@xH ρ lTc_D.N 100 [.int .i64 (i : Int),.int .i64 0,.int .i64 0] jq vq hN
 have v1:=xl (jq:=1) h1 (by decide)
 have v3:=xl (jq:=3) hx.h0 (by decide)
 have v4:=xl (jq:=4) hx.h1 (by decide)
 have v5:=xl (jq:=5) hx.h2 (by decide)
 have v6:=xl (jq:=6) hx.h3 (by decide)
 have v7:=xl (jq:=7) hx.h4 (by decide)
 have v8:=xl (jq:=8) hx.h5 (by decide)
 have v9:=xl (jq:=9) hx.h6 (by decide)
 have v10:=xl (jq:=10) hx.h7 (by decide)
 have v11:=xl (jq:=11) hx.h8 (by decide)
 have v12:=xl (jq:=12) h12 (by decide)
 have v100:=xh (jq:=100) (vq:=.int .i64 (i : Int)) rfl (by decide)
 have v101:=xh (jq:=101) (vq:=.int .i64 0) rfl (by decide)
 have v102:=xh (jq:=102) (vq:=.int .i64 0) rfl (by decide)
 have vs : (ρ.ext lTc_D.N [.int .i64 (i : Int),.int .i64 0,.int .i64 0]).sym = sy:=hsy
 have hF : zf (ρ.ext lTc_D.N [.int .i64 (i : Int),.int .i64 0,.int .i64 0]) lTc0_F:=by
  simp only [lTc0_F,zf,gB,zd,gW,zm,v1,v3,v4,v5,v6,v7,v8,v9,v10,v11,v12,v100,v101,v102,vs,hxx,ze,hsh,hok,Option.some.injEq,Value.bool.injEq,decide_eq_false_iff_not,and_true,true_and]
  omega
 suffices both : y9 (ρ.ext lTc_D.N [.int .i64 (i : Int),.int .i64 0,.int .i64 0]) (lTc0_t.asks lTc0_F)∧zD lTc_D ρ (lTc_Inv l x g) (lTc_mu (zO (zg (zj (l ++ [x]))))) 0 [.int .i64 (i : Int),.int .i64 0,.int .i64 0] lTc0_l from zC (lTc0_w _) hF both.1.ok both.2
 cases hp : (zO (zg (zj (l ++ [x]))))[i]? with
 | none =>
   have hge:=List.getElem?_eq_none_iff.1 hp
   have hge' : ¬ (i : Int) < (zO (zg (zj (l ++ [x])))).length:=by omega
   have hT : (tchI l (l ++ [x]) g x.known i) = tch l (l ++ [x]) g x.known:=by
    have : i = (begW (l ++ [x])).length:=by unfold begW; omega
    rw [this]; rfl
   refine ⟨?_,?_⟩
   ·simp only [lTc0_t,lTc0_F,gA,gB,zd,gW,zm,v1,v3,v4,v5,v6,v7,v8,v9,v10,v11,v12,v100,v101,v102,vs,hxx,zi,zG,ze,zl,ym,z6,zZ,zx,zw,zq,hsh,hok,Int.toNat_natCast,hp,hge']
    try simp
   ·simp only [lTc0_l,gE,dZ,gB,zd,g3,gW,zm,v1,v3,v4,v5,v6,v7,v8,v9,v10,v11,v12,v100,v101,v102,vs,h1,h12,hx.h0,hx.h1,hx.h2,hx.h3,hx.h4,hx.h5,hx.h6,hx.h7,hx.h8,hsy,hxx,zi,zG,ze,zl,ym,z6,zZ,zx,zw,zq,hsh,hok,Int.toNat_natCast,hp,hge',reduceCtorEq,gR]
    rw [hT] at hn
    try simp only [hT]
    simp [hn]
 | some w =>
   have hil : i < (zO (zg (zj (l ++ [x])))).length:=(List.getElem?_eq_some_iff.1 hp).1
   have hil1 : (i : Int) < (zO (zg (zj (l ++ [x])))).length:=by omega
   have hil2 : (i : Int) < ((zO (zg (zj (l ++ [x])))).length : Int) + 1:=by omega
   have hil3 : (1 : Int) + (i : Int) < ((zO (zg (zj (l ++ [x])))).length : Int) + 1:=by omega
   have hil4 : ¬ (1 : Int) + (i : Int) < 0:=by omega
   have hcast : ((1 : Int) + (i : Int)).toNat = i + 1:=by omega
   have hp1 : ((zO (zg (zj (l ++ [x])))) ++ [(⟨1000001⟩ : Who)])[i]? = some w:=by rw [List.getElem?_append_left hil]; exact hp
   obtain ⟨w2,hp2⟩ : ∃ w2,((zO (zg (zj (l ++ [x])))) ++ [(⟨1000001⟩ : Who)])[i + 1]? = some w2:=⟨_,List.getElem?_eq_getElem (by simp; omega)⟩
   have hw : IntKind.i64.wrap ((i : Int) + 1) = ((i + 1 : Nat) : Int):=by rw [IntWalk.i64_in _ (by omega)]; rfl
   have hid : za l g w.n x.known 0 = some (.int .i64 (idAt l g w.n x.known)):=rfl
   have hid2 : za (l ++ [x]) g w.n x.known 0 = some (.int .i64 (idAt (l ++ [x]) g w.n x.known)):=rfl
   have hnext : (tchI l (l ++ [x]) g x.known (i + 1)) = tchStep l (l ++ [x]) g x.known (tchI l (l ++ [x]) g x.known i) w.n w2.n:=by
    have g1 : (yM (l ++ [x])).getD i ⟨0⟩ = w:=by rw [List.getD_eq_getElem?_getD]; show (((zO (zg (zj (l ++ [x])))) ++ [(⟨1000001⟩ : Who)])[i]?).getD _ = w; rw [hp1]; rfl
    have g2 : (yM (l ++ [x])).getD (i + 1) ⟨0⟩ = w2:=by rw [List.getD_eq_getElem?_getD]; show (((zO (zg (zj (l ++ [x])))) ++ [(⟨1000001⟩ : Who)])[i + 1]?).getD _ = w2; rw [hp2]; rfl
    show tchStep l (l ++ [x]) g x.known (tchI l (l ++ [x]) g x.known i) ((yM (l ++ [x])).getD i ⟨0⟩).n ((yM (l ++ [x])).getD (i + 1) ⟨0⟩).n = _
    rw [g1,g2]
   have goC : ¬ idAt l g w.n x.known = idAt (l ++ [x]) g w.n x.known→∃ vals',((ρ.ext lTc_D.N vals').val 100 = some (.int .i64 ((i + 1 : Nat) : Int))∧(ρ.ext lTc_D.N vals').val 101 = some (.int .i64 (w.n))∧(ρ.ext lTc_D.N vals').val 102 = some (.int .i64 (IntKind.i64.wrap (w2.n - 1))))∧lTc_Inv l x g 1 vals'∧lTc_mu (zO (zg (zj (l ++ [x])))) 1 vals' < lTc_mu (zO (zg (zj (l ++ [x])))) 0 [.int .i64 (i : Int),.int .i64 0,.int .i64 0]:=by
    intro hc
    have e2 : (tchI l (l ++ [x]) g x.known (i + 1)) = ⟨w.n,IntKind.i64.wrap (w2.n - 1),true⟩:=by rw [hnext]; unfold tchStep; rw [if_neg hc,hn]; rfl
    refine ⟨[.int .i64 ((i + 1 : Nat) : Int),.int .i64 (tchI l (l ++ [x]) g x.known (i + 1)).from_,.int .i64 (tchI l (l ++ [x]) g x.known (i + 1)).until_],⟨?_,?_,?_⟩,⟨i + 1,by omega,.inr ⟨rfl,rfl,by rw [e2]⟩⟩,by simp [lTc_mu,vI]; omega⟩
    ·exact xH hN rfl (by decide)
    ·rw [yZ _ _ _ _ (by rw [hN]; omega)]; exact (congrArg (fun t : Tch => some (Value.int .i64 t.from_)) e2 :)
    ·rw [yZ _ _ _ _ (by rw [hN]; omega)]; exact (congrArg (fun t : Tch => some (Value.int .i64 t.until_)) e2 :)
   have goS : idAt l g w.n x.known = idAt (l ++ [x]) g w.n x.known→∃ vals',(ρ.ext lTc_D.N vals').val 100 = some (.int .i64 ((i + 1 : Nat) : Int))∧lTc_Inv l x g 0 vals'∧lTc_mu (zO (zg (zj (l ++ [x])))) 0 vals' < lTc_mu (zO (zg (zj (l ++ [x])))) 0 [.int .i64 (i : Int),.int .i64 0,.int .i64 0]:=by
    intro hc
    have e2 : (tchI l (l ++ [x]) g x.known (i + 1)) = (tchI l (l ++ [x]) g x.known i):=by rw [hnext]; unfold tchStep; rw [if_pos hc]
    refine ⟨[.int .i64 ((i + 1 : Nat) : Int),.int .i64 0,.int .i64 0],?_,⟨i + 1,by omega,.inl ⟨rfl,rfl,by rw [e2]; exact hn⟩⟩,by simp [lTc_mu,vI]; omega⟩
    exact xH hN rfl (by decide)
   refine ⟨?_,?_⟩
   all_goals (simp only [lTc0_t,lTc0_F,lTc0_l,gA,gB,zd,gW,zm,zR,zD,zh,zk,yw,yy,zr,zE,dZ,g3,v1,v3,v4,v5,v6,v7,v8,v9,v10,v11,v12,v100,v101,v102,vs,h1,h12,hsy,hxx,zi,zG,ze,zl,ym,z6,zZ,zx,zw,zq,hsh,hok,Int.toNat_natCast,hp,hp1,hp2,hll,hcast,Option.bind_some,who0,hid,hid2,hil1,hil2,hil3,hil4,hw,reduceCtorEq,Bool.false_eq_true,false_implies,true_implies,and_true,true_and])
   all_goals (clear v1 v3 v4 v5 v6 v7 v8 v9 v10 v11 v12 v100 v101 v102 vs h1 h12 hx hsy hF)
   all_goals ((repeat' apply And.intro) <;> intros <;> first
    | trivial
    | contradiction
    | (exact goS (by assumption))
    | (exact goC (by assumption))
    | (exfalso; omega)
    | (simp_all; done))
theorem lTc_step1 {ρ : Rho} {l : List Rat9} {x : Rat9} {kx : Nat→IntKind} {g : ByteArray} (h1 : ρ.val 1 = some (ratsR l)) (hx : Rat9At ρ 3 kx x) (h12 : ρ.val 12 = some (.string g)) (hsy : ρ.sym = sy) (hsh : okR9 l = true) (hok : okR9 (l ++ [x]) = true) {i : Nat} (hi : i≤(zO (zg (zj (l ++ [x])))).length) (hn : (tchI l (l ++ [x]) g x.known i).is = true) : yn lTc_D lTc_run E0 ρ (lTc_Inv l x g) (lTc_mu (zO (zg (zj (l ++ [x]))))) 1 [.int .i64 (i : Int),.int .i64 (tchI l (l ++ [x]) g x.known i).from_,.int .i64 (tchI l (l ++ [x]) g x.known i).until_]:=by
 have hN : lTc_D.N = 100:=rfl
 have hmax:=ok_len hok
 have hbl:=beg_len (l ++ [x])
 have hxx : (⟨x.id,x.known,x.from_,x.goods,x.num,x.den,x.cart,x.store,x.of_⟩ : Rat9) = x:=rfl
 have hll : (((zO (zg (zj (l ++ [x])))) ++ [(⟨1000001⟩ : Who)]).length : Int) = ((zO (zg (zj (l ++ [x])))).length : Int) + 1:=by simp
 have xl {jq vq}:=@xL ρ lTc_D.N 100 [.int .i64 (i : Int),.int .i64 (tchI l (l ++ [x]) g x.known i).from_,.int .i64 (tchI l (l ++ [x]) g x.known i).until_] jq vq hN
 have xh {jq vq}:=@xH ρ lTc_D.N 100 [.int .i64 (i : Int),.int .i64 (tchI l (l ++ [x]) g x.known i).from_,.int .i64 (tchI l (l ++ [x]) g x.known i).until_] jq vq hN
 have v1:=xl (jq:=1) h1 (by decide)
 have v3:=xl (jq:=3) hx.h0 (by decide)
 have v4:=xl (jq:=4) hx.h1 (by decide)
 have v5:=xl (jq:=5) hx.h2 (by decide)
 have v6:=xl (jq:=6) hx.h3 (by decide)
 have v7:=xl (jq:=7) hx.h4 (by decide)
 have v8:=xl (jq:=8) hx.h5 (by decide)
 have v9:=xl (jq:=9) hx.h6 (by decide)
 have v10:=xl (jq:=10) hx.h7 (by decide)
 have v11:=xl (jq:=11) hx.h8 (by decide)
 have v12:=xl (jq:=12) h12 (by decide)
 have v100:=xh (jq:=100) (vq:=.int .i64 (i : Int)) rfl (by decide)
 have v101:=xh (jq:=101) (vq:=.int .i64 (tchI l (l ++ [x]) g x.known i).from_) rfl (by decide)
 have v102:=xh (jq:=102) (vq:=.int .i64 (tchI l (l ++ [x]) g x.known i).until_) rfl (by decide)
 have vs : (ρ.ext lTc_D.N [.int .i64 (i : Int),.int .i64 (tchI l (l ++ [x]) g x.known i).from_,.int .i64 (tchI l (l ++ [x]) g x.known i).until_]).sym = sy:=hsy
 have hF : zf (ρ.ext lTc_D.N [.int .i64 (i : Int),.int .i64 (tchI l (l ++ [x]) g x.known i).from_,.int .i64 (tchI l (l ++ [x]) g x.known i).until_]) lTc1_F:=by
  simp only [lTc1_F,zf,gB,zd,gW,zm,v1,v3,v4,v5,v6,v7,v8,v9,v10,v11,v12,v100,v101,v102,vs,hxx,ze,hsh,hok,Option.some.injEq,Value.bool.injEq,decide_eq_false_iff_not,and_true,true_and]
  omega
 suffices both : y9 (ρ.ext lTc_D.N [.int .i64 (i : Int),.int .i64 (tchI l (l ++ [x]) g x.known i).from_,.int .i64 (tchI l (l ++ [x]) g x.known i).until_]) (lTc1_t.asks lTc1_F)∧zD lTc_D ρ (lTc_Inv l x g) (lTc_mu (zO (zg (zj (l ++ [x]))))) 1 [.int .i64 (i : Int),.int .i64 (tchI l (l ++ [x]) g x.known i).from_,.int .i64 (tchI l (l ++ [x]) g x.known i).until_] lTc1_l from zC (lTc1_w _) hF both.1.ok both.2
 cases hp : (zO (zg (zj (l ++ [x]))))[i]? with
 | none =>
   have hge:=List.getElem?_eq_none_iff.1 hp
   have hge' : ¬ (i : Int) < (zO (zg (zj (l ++ [x])))).length:=by omega
   have hT : (tchI l (l ++ [x]) g x.known i) = tch l (l ++ [x]) g x.known:=by
    have : i = (begW (l ++ [x])).length:=by unfold begW; omega
    rw [this]; rfl
   refine ⟨?_,?_⟩
   ·simp only [lTc1_t,lTc1_F,gA,gB,zd,gW,zm,v1,v3,v4,v5,v6,v7,v8,v9,v10,v11,v12,v100,v101,v102,vs,hxx,zi,zG,ze,zl,ym,z6,zZ,zx,zw,zq,hsh,hok,Int.toNat_natCast,hp,hge']
    try simp
   ·simp only [lTc1_l,gE,dZ,gB,zd,g3,gW,zm,v1,v3,v4,v5,v6,v7,v8,v9,v10,v11,v12,v100,v101,v102,vs,h1,h12,hx.h0,hx.h1,hx.h2,hx.h3,hx.h4,hx.h5,hx.h6,hx.h7,hx.h8,hsy,hxx,zi,zG,ze,zl,ym,z6,zZ,zx,zw,zq,hsh,hok,Int.toNat_natCast,hp,hge',reduceCtorEq,gR]
    rw [hT] at hn
    try simp only [hT]
    simp [hn]
 | some w =>
   have hil : i < (zO (zg (zj (l ++ [x])))).length:=(List.getElem?_eq_some_iff.1 hp).1
   have hil1 : (i : Int) < (zO (zg (zj (l ++ [x])))).length:=by omega
   have hil2 : (i : Int) < ((zO (zg (zj (l ++ [x])))).length : Int) + 1:=by omega
   have hil3 : (1 : Int) + (i : Int) < ((zO (zg (zj (l ++ [x])))).length : Int) + 1:=by omega
   have hil4 : ¬ (1 : Int) + (i : Int) < 0:=by omega
   have hcast : ((1 : Int) + (i : Int)).toNat = i + 1:=by omega
   have hp1 : ((zO (zg (zj (l ++ [x])))) ++ [(⟨1000001⟩ : Who)])[i]? = some w:=by rw [List.getElem?_append_left hil]; exact hp
   obtain ⟨w2,hp2⟩ : ∃ w2,((zO (zg (zj (l ++ [x])))) ++ [(⟨1000001⟩ : Who)])[i + 1]? = some w2:=⟨_,List.getElem?_eq_getElem (by simp; omega)⟩
   have hw : IntKind.i64.wrap ((i : Int) + 1) = ((i + 1 : Nat) : Int):=by rw [IntWalk.i64_in _ (by omega)]; rfl
   have hid : za l g w.n x.known 0 = some (.int .i64 (idAt l g w.n x.known)):=rfl
   have hid2 : za (l ++ [x]) g w.n x.known 0 = some (.int .i64 (idAt (l ++ [x]) g w.n x.known)):=rfl
   have hnext : (tchI l (l ++ [x]) g x.known (i + 1)) = tchStep l (l ++ [x]) g x.known (tchI l (l ++ [x]) g x.known i) w.n w2.n:=by
    have g1 : (yM (l ++ [x])).getD i ⟨0⟩ = w:=by rw [List.getD_eq_getElem?_getD]; show (((zO (zg (zj (l ++ [x])))) ++ [(⟨1000001⟩ : Who)])[i]?).getD _ = w; rw [hp1]; rfl
    have g2 : (yM (l ++ [x])).getD (i + 1) ⟨0⟩ = w2:=by rw [List.getD_eq_getElem?_getD]; show (((zO (zg (zj (l ++ [x])))) ++ [(⟨1000001⟩ : Who)])[i + 1]?).getD _ = w2; rw [hp2]; rfl
    show tchStep l (l ++ [x]) g x.known (tchI l (l ++ [x]) g x.known i) ((yM (l ++ [x])).getD i ⟨0⟩).n ((yM (l ++ [x])).getD (i + 1) ⟨0⟩).n = _
    rw [g1,g2]
   have goC : ¬ idAt l g w.n x.known = idAt (l ++ [x]) g w.n x.known→∃ vals',((ρ.ext lTc_D.N vals').val 100 = some (.int .i64 ((i + 1 : Nat) : Int))∧(ρ.ext lTc_D.N vals').val 101 = some (.int .i64 ((tchI l (l ++ [x]) g x.known i).from_))∧(ρ.ext lTc_D.N vals').val 102 = some (.int .i64 (IntKind.i64.wrap (w2.n - 1))))∧lTc_Inv l x g 1 vals'∧lTc_mu (zO (zg (zj (l ++ [x])))) 1 vals' < lTc_mu (zO (zg (zj (l ++ [x])))) 1 [.int .i64 (i : Int),.int .i64 (tchI l (l ++ [x]) g x.known i).from_,.int .i64 (tchI l (l ++ [x]) g x.known i).until_]:=by
    intro hc
    have e2 : (tchI l (l ++ [x]) g x.known (i + 1)) = ⟨(tchI l (l ++ [x]) g x.known i).from_,IntKind.i64.wrap (w2.n - 1),true⟩:=by rw [hnext]; unfold tchStep; rw [if_neg hc,hn]; rfl
    refine ⟨[.int .i64 ((i + 1 : Nat) : Int),.int .i64 (tchI l (l ++ [x]) g x.known (i + 1)).from_,.int .i64 (tchI l (l ++ [x]) g x.known (i + 1)).until_],⟨?_,?_,?_⟩,⟨i + 1,by omega,.inr ⟨rfl,rfl,by rw [e2]⟩⟩,by simp [lTc_mu,vI]; omega⟩
    ·exact xH hN rfl (by decide)
    ·rw [yZ _ _ _ _ (by rw [hN]; omega)]; exact (congrArg (fun t : Tch => some (Value.int .i64 t.from_)) e2 :)
    ·rw [yZ _ _ _ _ (by rw [hN]; omega)]; exact (congrArg (fun t : Tch => some (Value.int .i64 t.until_)) e2 :)
   have goS : idAt l g w.n x.known = idAt (l ++ [x]) g w.n x.known→∃ vals',((ρ.ext lTc_D.N vals').val 100 = some (.int .i64 ((i + 1 : Nat) : Int))∧(ρ.ext lTc_D.N vals').val 101 = some (.int .i64 ((tchI l (l ++ [x]) g x.known i).from_))∧(ρ.ext lTc_D.N vals').val 102 = some (.int .i64 ((tchI l (l ++ [x]) g x.known i).until_)))∧lTc_Inv l x g 1 vals'∧lTc_mu (zO (zg (zj (l ++ [x])))) 1 vals' < lTc_mu (zO (zg (zj (l ++ [x])))) 1 [.int .i64 (i : Int),.int .i64 (tchI l (l ++ [x]) g x.known i).from_,.int .i64 (tchI l (l ++ [x]) g x.known i).until_]:=by
    intro hc
    have e2 : (tchI l (l ++ [x]) g x.known (i + 1)) = (tchI l (l ++ [x]) g x.known i):=by rw [hnext]; unfold tchStep; rw [if_pos hc]
    refine ⟨[.int .i64 ((i + 1 : Nat) : Int),.int .i64 (tchI l (l ++ [x]) g x.known (i + 1)).from_,.int .i64 (tchI l (l ++ [x]) g x.known (i + 1)).until_],⟨?_,?_,?_⟩,⟨i + 1,by omega,.inr ⟨rfl,rfl,by rw [e2]; exact hn⟩⟩,by simp [lTc_mu,vI]; omega⟩
    ·exact xH hN rfl (by decide)
    ·rw [yZ _ _ _ _ (by rw [hN]; omega)]; exact (congrArg (fun t : Tch => some (Value.int .i64 t.from_)) e2 :)
    ·rw [yZ _ _ _ _ (by rw [hN]; omega)]; exact (congrArg (fun t : Tch => some (Value.int .i64 t.until_)) e2 :)
   refine ⟨?_,?_⟩
   all_goals (simp only [lTc1_t,lTc1_F,lTc1_l,gA,gB,zd,gW,zm,zR,zD,zh,zk,yw,yy,zr,zE,dZ,g3,v1,v3,v4,v5,v6,v7,v8,v9,v10,v11,v12,v100,v101,v102,vs,h1,h12,hsy,hxx,zi,zG,ze,zl,ym,z6,zZ,zx,zw,zq,hsh,hok,Int.toNat_natCast,hp,hp1,hp2,hll,hcast,Option.bind_some,who0,hid,hid2,hil1,hil2,hil3,hil4,hw,reduceCtorEq,Bool.false_eq_true,false_implies,true_implies,and_true,true_and])
   all_goals (clear v1 v3 v4 v5 v6 v7 v8 v9 v10 v11 v12 v100 v101 v102 vs h1 h12 hx hsy hF)
   all_goals ((repeat' apply And.intro) <;> intros <;> first
    | trivial
    | contradiction
    | (exact goS (by assumption))
    | (exact goC (by assumption))
    | (exfalso; omega)
    | (simp_all; done))
theorem lTc_step {ρ : Rho} {l : List Rat9} {x : Rat9} {kx : Nat→IntKind} {g : ByteArray} (h1 : ρ.val 1 = some (ratsR l)) (hx : Rat9At ρ 3 kx x) (h12 : ρ.val 12 = some (.string g)) (hsy : ρ.sym = sy) (hsh : okR9 l = true) (hok : okR9 (l ++ [x]) = true) (j : Nat) (vals : List Value) (hI : lTc_Inv l x g j vals) : yn lTc_D lTc_run E0 ρ (lTc_Inv l x g) (lTc_mu (zO (zg (zj (l ++ [x]))))) j vals:=by
 obtain ⟨i,hi,⟨rfl,rfl,hn⟩ | ⟨rfl,rfl,hn⟩⟩:=hI
 ·exact lTc_step0 h1 hx h12 hsy hsh hok hi hn
 ·exact lTc_step1 h1 hx h12 hsy hsh hok hi hn
theorem lTc_H {ρ : Rho} {l : List Rat9} {x : Rat9} {kx : Nat→IntKind} {g : ByteArray} (h1 : ρ.val 1 = some (ratsR l)) (hx : Rat9At ρ 3 kx x) (h12 : ρ.val 12 = some (.string g)) (hsy : ρ.sym = sy) (hsh : okR9 l = true) (hok : okR9 (l ++ [x]) = true) (F : List (X×Bool)) : LoopsOk (E0.with F ρ) (oneH 11 (hooks [(6,lTc_D.hook (E0.with F ρ).facts tc_vs)])):=by
 refine loops_all (n:=1) (fun f fn h => h) (by kernel_rfl) fun i hi => ?_
 obtain rfl : i = 0:=by omega
 rw [hooks_hit (show keyOf (yA (E0.with F ρ).P 11 0) = 6 by kernel_rfl)]
 refine hook_ok (E₀:=E0) (run:=lTc_run) (ρ:=ρ) (Inv:=lTc_Inv l x g) (μ:=lTc_mu (zO (zg (zj (l ++ [x]))))) yQ lTc_ok (fun F r' h => ?_) (fun hp => ⟨lTc_step h1 hx h12 hsy hsh hok,[.int .i64 0,.int .i64 0,.int .i64 0],?_,0,Nat.zero_le _,.inl ⟨rfl,rfl,rfl⟩⟩)
 ·exact ye yQ (LH_ok F (h.trans hsy)) fun _ _ => yc
 ·simp only [tc_vs,gB,zd,gW,zm]
  try rfl
noncomputable def cTcE_con : Con:={ f:=11,args:=[ratsArg 0 0,.agg [.int .i64 3,.int .i64 4,.int .i64 5,.str 6,.int .i64 7,.int .i64 8,.int .i64 9,.int .i64 10,.int .i64 11],.one (.str 12)],N:=1,M:=1,pre:=[(qRH29,true),(qRH10,false),(qRH11,false),(qRH30,false)],out:=.tuple [.int .i64 0,.int .i64 0,.bool false,.sint .i64 (.app 200 [qRH1])],news:=[] }
noncomputable def cTcE_call : Env→Za:=fun E => zS E (evH E (LH E) ((fun _ => yX) E) 12)
noncomputable def cTcE_t : GTree:=(.leaf [[]])
noncomputable def cTcE_l : List (List (X×Bool)×Option zp):=[([(qRH12,true),(qRH10,false),(qRH11,false),(qRH19,false)],some [(.app 200 [qRH0],.app 200 [qRH0])])]
theorem cTcE_w (r : Rho) : cTcE_con.fn.ways cTcE_call E0 r cTcE_con.pre cTcE_t = some cTcE_l:=by kernel_rfl
theorem cTcE_cok : cTcE_con.Ok Tryz.prog sy:=by
 intro r σ w us hsy hρ hpre hrel hins
 obtain ⟨l,h1⟩:=yK hrel rfl hρ
 obtain ⟨u0,us,rfl,g0,hi⟩:=zn hins
 obtain ⟨u1,us,rfl,g1,hi1⟩:=zn hi
 obtain ⟨x,kx,rfl,hx⟩:=rat_agg (v:=3) g1
 rw [hρ] at hx
 have a0:=hx.h0
 have a1:=hx.h1
 have a2:=hx.h2
 have a3:=hx.h3
 have a4:=hx.h4
 have a5:=hx.h5
 have a6:=hx.h6
 have a7:=hx.h7
 have a8:=hx.h8
 simp only [Nat.reduceAdd] at a0 a1 a2 a3 a4 a5 a6 a7 a8
 have hsh : okR9 l = true:=by
  have:=hpre.1
  simpa only [gB,zd,gW,zm,h1,hsy,ze,Option.some.injEq,Value.bool.injEq] using this
 have hml : (l.length : Int)≤1000:=by
  have:=hpre.2.1
  simp only [gB,zd,gW,zm,h1,Option.some.injEq,Value.bool.injEq,decide_eq_false_iff_not] at this
  omega
 have hgx : (x.goods.size : Int)≤100:=by
  have:=hpre.2.2.1
  simp only [gB,zd,gW,zm,a3,Option.some.injEq,Value.bool.injEq,decide_eq_false_iff_not] at this
  omega
 have hN1 : IntKind.i64.wrap ((l.length : Int) + 1) = (l.length : Int) + 1:=IntWalk.i64_in _ (by omega)
 have hxx : (⟨x.id,x.known,x.from_,x.goods,x.num,x.den,x.cart,x.store,x.of_⟩ : Rat9) = x:=rfl
 have hok:=ok_snoc hsh hgx hml
 have hll : ((l ++ [x]).length : Int) = (l.length : Int) + 1:=by simp
 obtain ⟨u2,us,rfl,g2,hi2⟩:=zn hi1
 obtain ⟨g,rfl,h12⟩:=one_str g2
 rw [hρ] at h12
 have hbl:=beg_len (l ++ [x])
 refine y6 (E:=E0) yQ yC (sy:=sy) (fun F => LH_ok F hsy) (fun F => noH_ok) (cTcE_w r) hρ hpre hrel hins ?_ ?_
 ·simp only [cTcE_con,cTcE_t,gA,gB,zd,gW,zm,h1,a0,a1,a2,a3,a4,a5,a6,a7,a8,h12,hsy,zi,zG,ze,zl,ym,z6,zZ,zx,zw,zq,hN1,hxx,hok,hll]
  try simp
 ·simp only [cTcE_l,gE,dZ,gB,zd,g3,gW,zm,h1,a0,a1,a2,a3,a4,a5,a6,a7,a8,h12,hsy,zi,zG,ze,zl,ym,z6,zZ,zx,zw,zq,hN1,hxx,hok,hll]
  try simp
  try omega
noncomputable def cTcN_con : Con:={ f:=11,args:=[ratsArg 0 0,.agg [.int .i64 3,.int .i64 4,.int .i64 5,.str 6,.int .i64 7,.int .i64 8,.int .i64 9,.int .i64 10,.int .i64 11],.one (.str 12)],N:=1,M:=1,pre:=[(qRH29,true),(qRH10,false),(qRH11,false),(qRH30,true),(.app 202 [qRH1],true),(.op2 .lt (.num 0) (.op1 .len qRH1),true),(qRH28,false)],out:=.tuple [.int .i64 0,.int .i64 0,.bool false,.int .i64 0],news:=[] }
noncomputable def cTcN_call : Env→Za:=fun E => zS E (evH E (LH E) ((fun E => oneH 11 (hooks [(6,lTc_D.hook E.facts tc_vs)])) E) 12)
noncomputable def cTcN_t : GTree:=(.fork qRH18 .bad (.fork qRH24 .bad (.leaf [[]])))
noncomputable def cTcN_l : List (List (X×Bool)×Option zp):=[((qRH18,true) :: qRHf1,none),
 ((qRH24,true) :: (qRH18,false) :: qRHf1,none),
 ((qRH24,false) :: (qRH18,false) :: qRHf1,some [])]
theorem cTcN_w (r : Rho) : cTcN_con.fn.ways cTcN_call E0 r cTcN_con.pre cTcN_t = some cTcN_l:=by kernel_rfl
theorem cTcN_cok : cTcN_con.Ok Tryz.prog sy:=by
 intro r σ w us hsy hρ hpre hrel hins
 obtain ⟨l,h1⟩:=yK hrel rfl hρ
 obtain ⟨u0,us,rfl,g0,hi⟩:=zn hins
 obtain ⟨u1,us,rfl,g1,hi1⟩:=zn hi
 obtain ⟨x,kx,rfl,hx⟩:=rat_agg (v:=3) g1
 rw [hρ] at hx
 have a0:=hx.h0
 have a1:=hx.h1
 have a2:=hx.h2
 have a3:=hx.h3
 have a4:=hx.h4
 have a5:=hx.h5
 have a6:=hx.h6
 have a7:=hx.h7
 have a8:=hx.h8
 simp only [Nat.reduceAdd] at a0 a1 a2 a3 a4 a5 a6 a7 a8
 have hsh : okR9 l = true:=by
  have:=hpre.1
  simpa only [gB,zd,gW,zm,h1,hsy,ze,Option.some.injEq,Value.bool.injEq] using this
 have hml : (l.length : Int)≤1000:=by
  have:=hpre.2.1
  simp only [gB,zd,gW,zm,h1,Option.some.injEq,Value.bool.injEq,decide_eq_false_iff_not] at this
  omega
 have hgx : (x.goods.size : Int)≤100:=by
  have:=hpre.2.2.1
  simp only [gB,zd,gW,zm,a3,Option.some.injEq,Value.bool.injEq,decide_eq_false_iff_not] at this
  omega
 have hN1 : IntKind.i64.wrap ((l.length : Int) + 1) = (l.length : Int) + 1:=IntWalk.i64_in _ (by omega)
 have hxx : (⟨x.id,x.known,x.from_,x.goods,x.num,x.den,x.cart,x.store,x.of_⟩ : Rat9) = x:=rfl
 have hok:=ok_snoc hsh hgx hml
 have hll : ((l ++ [x]).length : Int) = (l.length : Int) + 1:=by simp
 obtain ⟨u2,us,rfl,g2,hi2⟩:=zn hi1
 obtain ⟨g,rfl,h12⟩:=one_str g2
 rw [hρ] at h12
 have hbl:=beg_len (l ++ [x])
 refine y6 (E:=E0) yQ yC (sy:=sy) (fun F => LH_ok F hsy) (fun F => lTc_H h1 hx h12 hsy hsh hok F) (cTcN_w r) hρ hpre hrel hins ?_ ?_
 ·simp only [cTcN_con,cTcN_t,gA,gB,zd,gW,zm,h1,a0,a1,a2,a3,a4,a5,a6,a7,a8,h12,hsy,zi,zG,ze,zl,ym,z6,zZ,zx,zw,zq,hN1,hxx,hok,hll]
  try simp
 ·simp only [cTcN_l,gE,dZ,gB,zd,g3,gW,zm,h1,a0,a1,a2,a3,a4,a5,a6,a7,a8,h12,hsy,zi,zG,ze,zl,ym,z6,zZ,zx,zw,zq,hN1,hxx,hok,hll]
  try simp
  try omega
noncomputable def cTcY_con : Con:={ f:=11,args:=[ratsArg 0 0,.agg [.int .i64 3,.int .i64 4,.int .i64 5,.str 6,.int .i64 7,.int .i64 8,.int .i64 9,.int .i64 10,.int .i64 11],.one (.str 12)],N:=1,M:=1,pre:=[(qRH29,true),(qRH10,false),(qRH11,false),(qRH30,true),(.app 202 [qRH1],true),(.op2 .lt (.num 0) (.op1 .len qRH1),true),(qRH28,true)],out:=.tuple [.sint .i64 (.app 211 [.var 1,qRH1,.var 12,.var 4]),.sint .i64 (.app 212 [.var 1,qRH1,.var 12,.var 4]),.bool true,.int .i64 0],news:=[] }
noncomputable def cTcY_call : Env→Za:=fun E => zS E (evH E (LH E) ((fun E => oneH 11 (hooks [(6,lTc_D.hook E.facts tc_vs)])) E) 12)
noncomputable def cTcY_t : GTree:=(.fork qRH18 .bad (.fork qRH24 .bad (.leaf [[]])))
noncomputable def cTcY_l : List (List (X×Bool)×Option zp):=[((qRH18,true) :: qRHf2,none),
 ((qRH24,true) :: (qRH18,false) :: qRHf2,none),
 ((qRH24,false) :: (qRH18,false) :: qRHf2,some [(qRH25,qRH25),(qRH26,qRH26)])]
theorem cTcY_w (r : Rho) : cTcY_con.fn.ways cTcY_call E0 r cTcY_con.pre cTcY_t = some cTcY_l:=by kernel_rfl
theorem cTcY_cok : cTcY_con.Ok Tryz.prog sy:=by
 intro r σ w us hsy hρ hpre hrel hins
 obtain ⟨l,h1⟩:=yK hrel rfl hρ
 obtain ⟨u0,us,rfl,g0,hi⟩:=zn hins
 obtain ⟨u1,us,rfl,g1,hi1⟩:=zn hi
 obtain ⟨x,kx,rfl,hx⟩:=rat_agg (v:=3) g1
 rw [hρ] at hx
 have a0:=hx.h0
 have a1:=hx.h1
 have a2:=hx.h2
 have a3:=hx.h3
 have a4:=hx.h4
 have a5:=hx.h5
 have a6:=hx.h6
 have a7:=hx.h7
 have a8:=hx.h8
 simp only [Nat.reduceAdd] at a0 a1 a2 a3 a4 a5 a6 a7 a8
 have hsh : okR9 l = true:=by
  have:=hpre.1
  simpa only [gB,zd,gW,zm,h1,hsy,ze,Option.some.injEq,Value.bool.injEq] using this
 have hml : (l.length : Int)≤1000:=by
  have:=hpre.2.1
  simp only [gB,zd,gW,zm,h1,Option.some.injEq,Value.bool.injEq,decide_eq_false_iff_not] at this
  omega
 have hgx : (x.goods.size : Int)≤100:=by
  have:=hpre.2.2.1
  simp only [gB,zd,gW,zm,a3,Option.some.injEq,Value.bool.injEq,decide_eq_false_iff_not] at this
  omega
 have hN1 : IntKind.i64.wrap ((l.length : Int) + 1) = (l.length : Int) + 1:=IntWalk.i64_in _ (by omega)
 have hxx : (⟨x.id,x.known,x.from_,x.goods,x.num,x.den,x.cart,x.store,x.of_⟩ : Rat9) = x:=rfl
 have hok:=ok_snoc hsh hgx hml
 have hll : ((l ++ [x]).length : Int) = (l.length : Int) + 1:=by simp
 obtain ⟨u2,us,rfl,g2,hi2⟩:=zn hi1
 obtain ⟨g,rfl,h12⟩:=one_str g2
 rw [hρ] at h12
 have hbl:=beg_len (l ++ [x])
 refine y6 (E:=E0) yQ yC (sy:=sy) (fun F => LH_ok F hsy) (fun F => lTc_H h1 hx h12 hsy hsh hok F) (cTcY_w r) hρ hpre hrel hins ?_ ?_
 ·simp only [cTcY_con,cTcY_t,gA,gB,zd,gW,zm,h1,a0,a1,a2,a3,a4,a5,a6,a7,a8,h12,hsy,zi,zG,ze,zl,ym,z6,zZ,zx,zw,zq,hN1,hxx,hok,hll]
  try simp
 ·simp only [cTcY_l,gE,dZ,gB,zd,g3,gW,zm,h1,a0,a1,a2,a3,a4,a5,a6,a7,a8,h12,hsy,zi,zG,ze,zl,ym,z6,zZ,zx,zw,zq,hN1,hxx,hok,hll]
  try simp
  try omega
open Go
def fw_vs : List X:=[.num 0]
abbrev qTY2 : X:=.op1 .len (.var 1)
abbrev qTY0 : X:=.ite (.op2 .lt (.num 103) qTY2) (.boo false) (.op2 .and (.app 202 [.var 1]) (.op2 .or (.op1 .not (.op2 .lt (.num 30) qTY2)) (.op2 .lt (.num 100) qTY2)))
abbrev qTY1 : X:=.ite (.op2 .lt (.num 103) qTY2) (.boo true) (.app 202 [.var 1])
abbrev qTY3 : X:=.op2 .lt (.num 30) qTY2
abbrev qTY4 : X:=.op2 .lt (.num 100) qTY2
abbrev qTY5 : X:=.op2 .lt (.num 100) (.op1 .slen (.cell 3 (.var 1) (.var 100)))
abbrev qTY6 : X:=.ite (.op2 .lt (.num 103) qTY2) (.boo false) (.op2 .and (.app 202 [.var 1]) (.op2 .or (.op1 .not qTY3) qTY4))
abbrev qTY7 : X:=.op2 .lt (.var 100) (.num 0)
abbrev qTY8 : X:=.op2 .lt (.var 100) qTY2
abbrev qTY9 : X:=.op2 .lt (.var 100) (.num 110)
noncomputable def lFw_D : LoopD:={ N:=100,M:=111,size:=sizeOfF 7,reads:=[(0,.rows 9 ratSch (.var 0) (.var 1) false 26)],pats:=[{ slots:=[(0,.slx 0 9 (.var 0) (.num 0) qTY2 (.var 2)),(3,.sint .i64 (.var 100))],heap:=[] }],exits:=[(.exit 0,{ slots:=[(0,.slx 0 9 (.var 0) (.num 0) qTY2 (.var 2))],heap:=[],guard:=.ite (.op2 .lt (.num 103) qTY2) (.boo true) (.app 202 [.var 1]) }),(.ret,{ slots:=[(2,.bool false)],heap:=[],guard:=.op1 .not qTY6 })],own:=[],pre:=[],dfs:=[] }
noncomputable def lFw_run : Env→AF→ASt→Option (List Out):=bodyRun noL 9 (fun _ => noLoop) (yA Tryz.prog 7 0)
def lFw0_F : List (X×Bool):=[(qTY7,false)]
noncomputable def lFw0_t : FTree:=(.fork qTY8 (.fork qTY9 (.fork qTY5 (.leaf [.leave 1 []]) (.leaf [.again 0 []])) (.leaf [.leave 0 []])) (.leaf [.leave 0 []]))
noncomputable def lFw0_l : List (List (X×Bool)×Option (List (Tgt×zp))):=[([(qTY5,true),(qTY9,true),(qTY8,true),(qTY7,false)],some [(.leave 1 [],[(.op1 .not qTY0,.boo true)])]),
 ([(qTY5,false),(qTY9,true),(qTY8,true),(qTY7,false)],some [(.again 0 [],[(.var 100,.op1 (.wrap .i64) (.op2 .add (.var 100) (.num 1)))])]),
 ([(qTY9,false),(qTY8,true),(qTY7,false)],some [(.leave 0 [],[(qTY1,.boo true)])]),
 ([(qTY8,false),(qTY7,false)],some [(.leave 0 [],[(qTY1,.boo true)])])]
theorem lFw0_w (r : Rho) : lFw_D.ways lFw_run E0 r 0 lFw0_F lFw0_t = some lFw0_l:=by kernel_rfl
theorem lFw_ok : lFw_D.ok = true:=by kernel_rfl
theorem ok_goodsL {l : List Rat9} (h : okR9 l = true) {i : Nat} {x : Rat9} (hp : l[i]? = some x) : (x.goods.size : Int)≤100:=by
 unfold okR9 at h
 simp only [Bool.and_eq_true,List.all_eq_true,decide_eq_true_eq] at h
 exact h.2 x (List.mem_of_getElem? hp)
theorem d_iteB (b x y : Bool) : zd (some (.bool b)) (some (.bool x)) (some (.bool y)) = some (.bool (bif b then x else y)):=by cases b <;> rfl
theorem ok_all {l : List Rat9} (hl : (l.length : Int)≤1010) (h : ∀ (k : Nat) (x : Rat9),l[k]? = some x→(x.goods.size : Int)≤100) : okR9 l = true:=by
 unfold okR9
 simp only [Bool.and_eq_true,decide_eq_true_eq,List.all_eq_true]
 refine ⟨hl,fun y hy => ?_⟩
 obtain ⟨k,hk⟩:=List.getElem?_of_mem hy
 exact h k y hk
theorem ok_not {l : List Rat9} {k : Nat} {x : Rat9} (hp : l[k]? = some x) (hx : (100 : Int) < x.goods.size) : okR9 l = false:=by
 cases h : okR9 l with
 | false => rfl
 | true => have:=ok_goodsL h hp; omega
def lFw_Inv (l : List Rat9) (j : Nat) (vals : List Value) : Prop:=
 j = 0∧∃ i : Nat,i≤110∧i≤l.length∧vals = [.int .i64 (i : Int)]∧∀ (k : Nat) (x : Rat9),k < i→l[k]? = some x→(x.goods.size : Int)≤100
def lFw_mu (_ : List Rat9) (_ : Nat) (vals : List Value) : Nat:=111 - (vI (vals.getD 0 default)).toNat
theorem lFw_step {ρ : Rho} {l : List Rat9} (h1 : ρ.val 1 = some (ratsR l)) (hsy : ρ.sym = sy) (j : Nat) (vals : List Value) (hI : lFw_Inv l j vals) : yn lFw_D lFw_run E0 ρ (lFw_Inv l) (lFw_mu l) j vals:=by
 obtain ⟨rfl,i,hi0,hi,rfl,hall⟩:=hI
 have hN : lFw_D.N = 100:=rfl
 have xl {jq vq}:=@xL ρ lFw_D.N 100 [.int .i64 (i : Int)] jq vq hN
 have xh {jq vq}:=@xH ρ lFw_D.N 100 [.int .i64 (i : Int)] jq vq hN
 have v1:=xl (jq:=1) h1 (by decide)
 have v100:=xh (jq:=100) (vq:=.int .i64 (i : Int)) rfl (by decide)
 have vs : (ρ.ext lFw_D.N [.int .i64 (i : Int)]).sym = sy:=hsy
 have hF : zf (ρ.ext lFw_D.N [.int .i64 (i : Int)]) lFw0_F:=by
  simp only [lFw0_F,zf,gB,d_iteB,gW,zm,rats_snoc0N,v1,v100,vs,Option.some.injEq,Value.bool.injEq,decide_eq_false_iff_not,and_true]
  omega
 suffices both : y9 (ρ.ext lFw_D.N [.int .i64 (i : Int)]) (lFw0_t.asks lFw0_F)∧zD lFw_D ρ (lFw_Inv l) (lFw_mu l) 0 [.int .i64 (i : Int)] lFw0_l from zC (lFw0_w _) hF both.1.ok both.2
 have hfull : ¬ (103 : Int) < l.length→l.length≤i→okR9 l = true:=fun h h2 => ok_all (by omega) fun k x hk => hall k x (by have:=(List.getElem?_eq_some_iff.1 hk).1; omega) hk
 have h110 : ((i : Int) < 110)∨¬ (i : Int) < 110:=by omega
 cases hp : l[i]? with
 | none =>
   have hge:=List.getElem?_eq_none_iff.1 hp
   have hge' : ¬ (i : Int) < l.length:=by omega
   refine ⟨?_,?_⟩
   ·simp only [lFw0_t,lFw0_F,gA,gB,d_iteB,gW,zm,rats_snoc0N,v1,v100,vs,zi,zG,ze,zF,zl,yk,zx,zw,zq,Int.toNat_natCast,hp,hge']
    try simp
   ·simp only [lFw0_l,gE,dZ,gB,d_iteB,g3,gW,zm,rats_snoc0N,v1,v100,vs,h1,hsy,zi,zG,ze,zF,zl,yk,zx,zw,zq,Int.toNat_natCast,hp,hge',reduceCtorEq,gR]
    rcases Int.lt_or_le 103 l.length with h | h
    ·simp [h]
    ·simp [hfull (by omega) hge,Int.not_lt.2 h]
 | some x =>
   have hil : i < l.length:=(List.getElem?_eq_some_iff.1 hp).1
   have hil1 : (i : Int) < l.length:=by omega
   have hw : IntKind.i64.wrap ((i : Int) + 1) = ((i + 1 : Nat) : Int):=by rw [IntWalk.i64_in _ (by omega)]; rfl
   have hx : l.getD i zy = x:=by rw [List.getD_eq_getElem?_getD,hp]; rfl
   have go : ¬ (100 : Int) < x.goods.size→(i : Int) < 110→∃ vals',(ρ.ext lFw_D.N vals').val 100 = some (.int .i64 ((i + 1 : Nat) : Int))∧lFw_Inv l 0 vals'∧lFw_mu l 0 vals' < lFw_mu l 0 [.int .i64 (i : Int)]:=by
    intro hg h
    refine ⟨[.int .i64 ((i + 1 : Nat) : Int)],?_,⟨rfl,i + 1,by omega,by omega,rfl,fun k y hk hy => ?_⟩,by simp [lFw_mu,vI]; omega⟩
    ·exact xH hN rfl (by decide)
    ·rcases Nat.lt_succ_iff_lt_or_eq.1 hk with h2 | rfl
     ·exact hall k y h2 hy
     ·rw [hp] at hy; cases hy; omega
   have hno : (100 : Int) < x.goods.size→okR9 l = false:=ok_not hp
   refine ⟨?_,?_⟩
   all_goals (simp only [lFw0_t,lFw0_F,lFw0_l,gA,gB,d_iteB,gW,zm,rats_snoc0N,zR,zD,zh,zk,yw,yy,zr,zE,dZ,g3,v1,v100,vs,h1,hsy,zi,zG,ze,zF,zl,yk,zx,zw,zq,Int.toNat_natCast,hp,Option.bind_some,gN,hil1,hw,reduceCtorEq,Bool.false_eq_true,false_implies,true_implies,and_true,true_and])
   all_goals (clear v1 v100 vs h1 hsy hF)
   all_goals ((repeat' apply And.intro) <;> intros <;> first
    | trivial
    | contradiction
    | (exact go (by assumption) (by assumption))
    | (have q:=hno (by assumption); rw [q]; cases decide ((103 : Int) < l.length) <;> rfl)
    | (rw [decide_eq_true (show (103 : Int) < l.length by omega)]; rfl)
    | (exfalso; omega)
    | (simp_all; done))
noncomputable def cFw_con : Con:={ f:=7,args:=[ratsArg 0 0],N:=1,M:=1,pre:=[],out:=.sbool qTY6,news:=[] }
noncomputable def cFw_call : Env→Za:=fun E => zS E (evH E (noL E) ((fun E => oneH 7 (hooks [(2,lFw_D.hook E.facts fw_vs)])) E) 9)
noncomputable def cFw_t : GTree:=(.fork qTY1 (.fork qTY0 (.fork qTY3 (.fork qTY4 (.leaf [[]]) (.leaf [[]])) (.leaf [[]])) (.fork qTY3 (.fork qTY4 (.leaf [[],[]]) (.leaf [[],[]])) (.leaf [[],[]]))) (.fork qTY0 (.leaf []) (.leaf [[]])))
noncomputable def cFw_l : List (List (X×Bool)×Option zp):=[([(qTY4,true),(qTY3,true),(qTY0,true),(qTY1,true)],some [(qTY0,.op1 .not (.op2 .lt (.num 103) qTY2))]),
 ([(qTY4,false),(qTY3,true),(qTY0,true),(qTY1,true)],some [(qTY0,.boo false)]),
 ([(qTY3,false),(qTY0,true),(qTY1,true)],some [(qTY0,.boo true)]),
 ([(qTY4,true),(qTY3,true),(qTY0,false),(qTY1,true)],some [(qTY0,.op1 .not (.op2 .lt (.num 103) qTY2)),(qTY0,.boo false)]),
 ([(qTY4,false),(qTY3,true),(qTY0,false),(qTY1,true)],some [(qTY0,.boo false),(qTY0,.boo false)]),
 ([(qTY3,false),(qTY0,false),(qTY1,true)],some [(qTY0,.boo true),(qTY0,.boo false)]),
 ([(qTY0,true),(qTY1,false)],some []),
 ([(qTY0,false),(qTY1,false)],some [(qTY0,.boo false)])]
theorem cFw_w (r : Rho) : cFw_con.fn.ways cFw_call E0 r cFw_con.pre cFw_t = some cFw_l:=by kernel_rfl
theorem lFw_H {ρ : Rho} {l : List Rat9} (h1 : ρ.val 1 = some (ratsR l)) (hsy : ρ.sym = sy) (F : List (X×Bool)) : LoopsOk (E0.with F ρ) (oneH 7 (hooks [(2,lFw_D.hook (E0.with F ρ).facts fw_vs)])):=by
 refine loops_all (n:=1) (fun f fn h => h) (by kernel_rfl) fun i hi => ?_
 obtain rfl : i = 0:=by omega
 rw [hooks_hit (show keyOf (yA (E0.with F ρ).P 7 0) = 2 by kernel_rfl)]
 refine hook_ok (E₀:=E0) (run:=lFw_run) (ρ:=ρ) (Inv:=lFw_Inv l) (μ:=lFw_mu l) yQ lFw_ok (fun F r' h => ?_) (fun hp => ⟨lFw_step h1 hsy,[.int .i64 0],?_,rfl,0,Nat.zero_le _,Nat.zero_le _,rfl,fun k x hk => absurd hk (Nat.not_lt_zero _)⟩)
 ·exact ye yQ (noL_ok F (h.trans hsy)) fun _ _ => yc
 ·simp only [fw_vs,gB,d_iteB,gW,zm,rats_snoc0N]
  try rfl
theorem cFw_cok : cFw_con.Ok Tryz.prog sy:=by
 intro r σ w us hsy hρ hpre hrel hins
 obtain ⟨l,h1⟩:=yK hrel rfl hρ
 refine y6 (E:=E0) yQ yC (sy:=sy) (fun F => noL_ok F hsy) (fun F => lFw_H h1 hsy F) (cFw_w r) hρ hpre hrel hins ?_ ?_
 ·simp only [cFw_con,cFw_t,gA,gB,d_iteB,gW,zm,rats_snoc0N,h1,hsy,zi,zG,ze,zF,zl,yk,zx,zw,zq]
  try simp
 ·simp only [cFw_l,gE,dZ,gB,d_iteB,g3,gW,zm,rats_snoc0N,h1,hsy,zi,zG,ze,zF,zl,yk,zx,zw,zq]
  rcases Int.lt_or_le 103 l.length with h | h
  ·have h30 : (30 : Int) < l.length:=by omega
   have h100 : (100 : Int) < l.length:=by omega
   simp [h,h30,h100]
  ·have h':=Int.not_lt.2 h
   cases okR9 l <;> cases Decidable.em ((30 : Int) < l.length) <;> cases Decidable.em ((100 : Int) < l.length) <;> first | (simp_all; done) | (simp_all; (repeat' apply And.intro) <;> intros <;> omega)
end Go.Proofs.YtfddkbbjnghefaaGreatDoor.Zs
