/-
  Contracts of the reference: Turns, Touched.
-/
import Derived.Test.YtfddkbbjnghefaaGreatDoorFoRefP
import Derived.KernelRfl
set_option linter.unusedSimpArgs false
set_option maxHeartbeats 4000000
set_option linter.unusedVariables false
namespace Go.Proofs.YtfddkbbjnghefaaGreatDoor.Zs
open Go
noncomputable def LTL : Env→yi:=libs [cLib rCks_con,cLib rHrO_con,cLib rHrY_con,cLib rId_con]
theorem LTL_ok (F : List (X×Bool)) {r : Rho} (h : r.sym = sy) : zt (E0.with F r) (LTL (E0.with F r)):=yU fun c hc => by
 simp only [List.mem_cons,List.not_mem_nil,or_false] at hc
 rcases hc with rfl | rfl | rfl | rfl
 ·exact zH (E:=E0) rCks_cok F h
 ·exact zH (E:=E0) rHrO_cok F h
 ·exact zH (E:=E0) rHrY_cok F h
 ·exact zH (E:=E0) rId_cok F h
def tr_vs : List X:=[.num 0,.nil]
abbrev qRS0 : X:=.op2 .eq (.app 205 [.var 1,.var 3,.cell 0 (.app 216 [.var 1]) (.var 100),.var 4,.num 0]) (.app 205 [.var 1,.var 3,.op1 (.wrap .i64) (.op2 .sub (.cell 0 (.app 216 [.var 1]) (.var 100)) (.num 1)),.var 4,.num 0])
abbrev qRS1 : X:=.op2 .eq (.app 205 [.var 1,.var 3,.num 0,.var 4,.num 0]) (.app 205 [.var 1,.var 3,.num (-1),.var 4,.num 0])
abbrev qRS2 : X:=.app 210 [.var 1,.var 3,.var 4]
abbrev qRS3 : X:=.op2 .eq (.app 200 [.var 1]) (.num 0)
abbrev qRS4 : X:=.op1 .len (.app 216 [.var 1])
abbrev qRS5 : X:=.op2 .eq (.op1 .len qRS2) (.num 0)
abbrev qRS6 : X:=.app 202 [.var 1]
abbrev qRS7 : X:=.app 210 [.var 1,.var 3,.var 4]
abbrev qRS8 : X:=.op2 .lt (.var 100) (.num 0)
abbrev qRS9 : X:=.op2 .lt (.var 100) qRS4
abbrev qRS10 : X:=.op2 .eq (.app 200 [.var 1]) (.num 0)
abbrev qRS11 : X:=.op1 .len (.var 101)
abbrev qRS12 : X:=.op1 (.wrap .i64) (.op2 .add (.var 100) (.num 1))
abbrev qRS13 : X:=.op2 .eq qRS4 (.num 1)
abbrev qRS14 : X:=.op2 .lt (.num 1000000000) (.op2 .add qRS11 (.num 1))
abbrev qRS15 : X:=.app 202 [.var 1]
abbrev qRS16 : X:=.op2 .eq (.op1 .len qRS7) (.num 0)
abbrev qRS17 : X:=.op1 (.kind .i64) (.cell 0 (.app 216 [.var 1]) (.var 100))
abbrev qRSf0 : List (X×Bool):=[(qRS8,false),(qRS6,true),(qRS3,true)]
abbrev qRSf1 : List (X×Bool):=[(qRS6,true),(qRS3,true),(qRS5,false)]
abbrev qRSf2 : List (X×Bool):=[(qRS6,true),(qRS3,true),(qRS5,true)]
noncomputable def lTr_D : LoopD:={ N:=100,M:=111,size:=Zk 15,reads:=[(0,.rows 9 ratSch (.var 0) (.var 1) false 26),(1,.rows 1 [.int .i64] (.num 0) (.app 216 [.var 1]) true 3)],pats:=[{ slots:=[(0,.slx 0 9 (.var 0) (.num 0) (.op1 .len (.var 1)) (.var 2)),(1,.sstr (.var 3)),(2,.sint .i64 (.var 4)),(9,.nilslice),(10,.slo 1 1 (.op1 .len (.app 216 [.var 1]))),(11,.sint .i64 (.var 100))],heap:=[] },{ slots:=[(0,.slx 0 9 (.var 0) (.num 0) (.op1 .len (.var 1)) (.var 2)),(1,.sstr (.var 3)),(2,.sint .i64 (.var 4)),(9,.slo 110 1 qRS11),(10,.slo 1 1 (.op1 .len (.app 216 [.var 1]))),(11,.sint .i64 (.var 100))],heap:=[(110,.rows 1 [.int .i64] (.num 0) (.var 101) true 3)] }],exits:=[(.exit 0,{ slots:=[(9,.nilslice)],heap:=[],guard:=.op2 .eq (.op1 .len qRS7) (.num 0) }),(.exit 0,{ slots:=[(9,.slo 110 1 (.op1 .len qRS7))],heap:=[(110,.rows 1 [.int .i64] (.num 0) qRS7 true 3)],guard:=.op1 .not qRS16 })],own:=[],pre:=[(qRS15,true),(qRS10,true)],dfs:=[] }
noncomputable def lTr_run : Env→AF→ASt→Option (List Out):=Zh LTL 9 (fun _ => Zl) (yh Tryz.prog 15 0)
def lTr0_F : List (X×Bool):=[(qRS8,false),(qRS15,true),(qRS10,true)]
def lTr1_F : List (X×Bool):=[(qRS8,false),(qRS15,true),(qRS10,true)]
noncomputable def lTr0_t : FTree:=(.fork qRS9 (.fork qRS0 (.leaf [.again 0 []]) (.leaf [.again 1 [(110,112)]])) (.leaf [.leave 0 []]))
noncomputable def lTr0_l : List (List (X×Bool)×Option (List (Tgt×zo))):=[((qRS0,true) :: (qRS9,true) :: qRSf0,some [(.again 0 [],[(.var 100,qRS12)])]),
 ((qRS0,false) :: (qRS9,true) :: qRSf0,some [(.again 1 [(110,112)],[(qRS11,.num 1),(.var 100,qRS12),(.var 101,.snoc .nil [qRS17])])]),
 ((qRS9,false) :: qRSf0,some [(.leave 0 [],[(qRS5,.boo true)])])]
theorem lTr0_w (r : Rho) : lTr_D.ways lTr_run E0 r 0 lTr0_F lTr0_t = some lTr0_l:=by kernel_rfl
noncomputable def lTr1_t : FTree:=(.fork qRS9 (.fork qRS0 (.leaf [.again 1 [(110,110)]]) (.fork qRS14 .bad (.leaf [.again 1 [(110,112)]]))) (.leaf [.leave 1 [(110,110)]]))
noncomputable def lTr1_l : List (List (X×Bool)×Option (List (Tgt×zo))):=[((qRS0,true) :: (qRS9,true) :: qRSf0,some [(.again 1 [(110,110)],[(qRS11,qRS11),(.var 100,qRS12),(.var 101,.var 101)])]),
 ((qRS14,true) :: (qRS0,false) :: (qRS9,true) :: qRSf0,none),
 ((qRS14,false) :: (qRS0,false) :: (qRS9,true) :: qRSf0,some [(.again 1 [(110,112)],[(qRS11,.op2 .add qRS11 (.num 1)),(.var 100,qRS12),(.var 101,.snoc (.var 101) [qRS17])])]),
 ((qRS9,false) :: qRSf0,some [(.leave 1 [(110,110)],[(.op1 .len qRS2,qRS11),(qRS2,.var 101),(.op1 .not qRS5,.boo true)])])]
theorem lTr1_w (r : Rho) : lTr_D.ways lTr_run E0 r 1 lTr1_F lTr1_t = some lTr1_l:=by kernel_rfl
theorem lTr_ok : lTr_D.ok = true:=by kernel_rfl
def trnI (l : List Rat9) (g : ByteArray) (K : Int) (i : Nat) : List Who:=((hrsR l).take i).filter (chgW l g K)
theorem trnI_next {l : List Rat9} {g : ByteArray} {K : Int} {i : Nat} {w : Who} (hp : (hrsR l)[i]? = some w) : trnI l g K (i + 1) = if idAt l g w.n K = idAt l g (w.n - 1) K then trnI l g K i else trnI l g K i ++ [w]:=by
 unfold trnI
 rw [List.take_add_one,hp,List.filter_append]
 by_cases hc : idAt l g w.n K = idAt l g (w.n - 1) K
 ·simp [hc,chgW]
 ·simp [hc,chgW]
theorem ok_froms {l : List Rat9} (hok : yy l = 0) : ∀ x ∈ l,0≤x.from_∧x.from_≤1000000:=fun x hx => by
 obtain ⟨i,hi⟩:=List.getElem?_of_mem hx
 exact rate_from (ok_rate hok hi)
theorem hrs_range {l : List Rat9} (hok : yy l = 0) {w : Who} (hw : w ∈ hrsR l) : 0≤w.n∧w.n≤1000000:=by
 rcases (hrs_mem l w).1 hw with rfl | ⟨x,hx,rfl⟩
 ·exact ⟨Int.le_refl _,by decide⟩
 ·exact ok_froms hok x hx
theorem trnI_all {l : List Rat9} {g : ByteArray} {K : Int} {i : Nat} (hok : yy l = 0) (hi : (hrsR l).length≤i) : trnI l g K i = turnsW l g K:=by
 unfold trnI
 rw [List.take_of_length_le hi]
 exact turns_ref (fun x hx => (ok_froms hok x hx).1) g K
theorem trn_len (l : List Rat9) (g : ByteArray) (K : Int) (i : Nat) : (trnI l g K i).length≤l.length + 1:=by
 have h1:=List.length_filter_le (chgW l g K) ((hrsR l).take i)
 have h2:=hrs_len l
 have h3 : ((hrsR l).take i).length≤(hrsR l).length:=by rw [List.length_take]; omega
 unfold trnI
 omega
def lTr_Inv (l : List Rat9) (g : ByteArray) (K : Int) (j : Nat) (vals : List Value) : Prop:=
 ∃ i : Nat,i≤(hrsR l).length∧((j = 0∧vals = [.int .i64 (i : Int),zn []]∧(trnI l g K i) = [])∨(j = 1∧vals = [.int .i64 (i : Int),zn (trnI l g K i)]∧(trnI l g K i)≠[]))
def lTr_mu (b : List Who) (_ : Nat) (vals : List Value) : Nat:=b.length - (vI (vals.getD 0 default)).toNat
theorem lTr_step0 {ρ : Rho} {l : List Rat9} {g : ByteArray} {K : Int} {k4 : IntKind} (h1 : ρ.val 1 = some (ratsR l)) (h3 : ρ.val 3 = some (.string g)) (h4 : ρ.val 4 = some (.int k4 K)) (hsy : ρ.sym = sy) (hsh : okR9 l = true) (hok : yy l = 0) {i : Nat} (hi : i≤(hrsR l).length) (hn : (trnI l g K i) = []) : yI lTr_D lTr_run E0 ρ (lTr_Inv l g K) (lTr_mu (hrsR l)) 0 [.int .i64 (i : Int),zn []]:=by
 have hN : lTr_D.N = 100:=rfl
 have hmax:=ok_len hsh
 have hbl:=hrs_len l
 have htl:=trn_len l g K i
 have xl {jq vq}:=@xL ρ lTr_D.N 100 [.int .i64 (i : Int),zn []] jq vq hN
 have xh {jq vq}:=@xH ρ lTr_D.N 100 [.int .i64 (i : Int),zn []] jq vq hN
 have v1:=xl (jq:=1) h1 (by decide)
 have v3:=xl (jq:=3) h3 (by decide)
 have v4:=xl (jq:=4) h4 (by decide)
 have v100:=xh (jq:=100) (vq:=.int .i64 (i : Int)) rfl (by decide)
 have v101:=xh (jq:=101) (vq:=zn []) rfl (by decide)
 have vs : (ρ.ext lTr_D.N [.int .i64 (i : Int),zn []]).sym = sy:=hsy
 have hF : zp (ρ.ext lTr_D.N [.int .i64 (i : Int),zn []]) lTr0_F:=by
  simp only [lTr0_F,zp,gB,za,zh,gHds,zd,gW,v1,v100,vs,zg,zl,hsh,hok,Option.some.injEq,Value.bool.injEq,decide_eq_false_iff_not,beq_self_eq_true,and_true,true_and]
  omega
 suffices both : Zp (ρ.ext lTr_D.N [.int .i64 (i : Int),zn []]) (lTr0_t.asks lTr0_F)∧zR lTr_D ρ (lTr_Inv l g K) (lTr_mu (hrsR l)) 0 [.int .i64 (i : Int),zn []] lTr0_l from zD (lTr0_w _) hF both.1.ok both.2
 cases hp : (hrsR l)[i]? with
 | none =>
   have hge:=List.getElem?_eq_none_iff.1 hp
   have hge' : ¬ (i : Int) < (hrsR l).length:=by omega
   have hl : (trnI l g K i) = turnsW l g K:=trnI_all hok hge
   have hle:=congrArg List.length hl
   refine ⟨?_,?_⟩
   ·simp only [lTr0_t,lTr0_F,gA,gB,za,zh,gHds,zd,gW,v1,v3,v4,v100,v101,vs,zl,zx,zg,zu,y9,yp,hsh,hok,Int.toNat_natCast,hp,hge']
    try simp
   ·simp only [lTr0_l,gE,dZ,gB,za,g3,zh,gHds,zd,gW,v1,v3,v4,v100,v101,vs,h1,h3,h4,hsy,zl,zx,zg,zu,y9,yp,hsh,hok,Int.toNat_natCast,hp,hge',reduceCtorEq,gR]
    rw [hl] at hn
    simp [hl,hn]
 | some w =>
   have hil : i < (hrsR l).length:=(List.getElem?_eq_some_iff.1 hp).1
   have hil1 : (i : Int) < (hrsR l).length:=by omega
   have hw : IntKind.i64.wrap ((i : Int) + 1) = ((i + 1 : Nat) : Int):=by rw [IntWalk.i64_in _ (by omega)]; rfl
   have hwr:=hrs_range hok (List.mem_of_getElem? hp)
   have hw1 : IntKind.i64.wrap (w.n - 1) = w.n - 1:=IntWalk.i64_in _ (by omega)
   have hid : zb l g w.n K 0 = some (.int .i64 (idAt l g w.n K)):=rfl
   have hid1 : zb l g (w.n - 1) K 0 = some (.int .i64 (idAt l g (w.n - 1) K)):=rfl
   have hnext:=trnI_next (g:=g) (K:=K) (l:=l) (i:=i) (w:=w) hp
   have hbig : ¬ (1000000000 : Int) < ((trnI l g K i).length : Int) + 1:=by omega
   have goA : ¬ idAt l g w.n K = idAt l g (w.n - 1) K→∀ n,n = 1→∃ vals',((match (ρ.ext lTr_D.N vals').val 101 with | some v => den1 .len v | none => none) = some (.int .i64 n)∧(ρ.ext lTr_D.N vals').val 100 = some (.int .i64 ((i + 1 : Nat) : Int))∧(ρ.ext lTr_D.N vals').val 101 = some (zn ([w])))∧lTr_Inv l g K 1 vals'∧lTr_mu (hrsR l) 1 vals' < lTr_mu (hrsR l) 0 [.int .i64 (i : Int),zn []]:=by
    rintro hc n rfl
    have e2 : (trnI l g K (i + 1)) = [w]:=by rw [hnext,if_neg hc]; rw [hn]; rfl
    have e101 : (ρ.ext lTr_D.N [.int .i64 ((i + 1 : Nat) : Int),zn (trnI l g K (i + 1))]).val 101 = some (zn (trnI l g K (i + 1))):=by exact xH hN rfl (by decide)
    refine ⟨[.int .i64 ((i + 1 : Nat) : Int),zn (trnI l g K (i + 1))],⟨?_,?_,?_⟩,⟨i + 1,by omega,.inr ⟨rfl,rfl,by rw [e2]; simp⟩⟩,by simp [lTr_mu,vI]; omega⟩
    ·rw [e101,e2]
     refine (whos_len _).trans ?_
     simp
    ·exact xH hN rfl (by decide)
    ·rw [e101,e2]
   have goK : idAt l g w.n K = idAt l g (w.n - 1) K→∃ vals',(ρ.ext lTr_D.N vals').val 100 = some (.int .i64 ((i + 1 : Nat) : Int))∧lTr_Inv l g K 0 vals'∧lTr_mu (hrsR l) 0 vals' < lTr_mu (hrsR l) 0 [.int .i64 (i : Int),zn []]:=by
    intro hc
    have e2 : (trnI l g K (i + 1)) = (trnI l g K i):=by rw [hnext,if_pos hc]
    refine ⟨[.int .i64 ((i + 1 : Nat) : Int),zn []],?_,⟨i + 1,by omega,.inl ⟨rfl,rfl,by rw [e2]; exact hn⟩⟩,by simp [lTr_mu,vI]; omega⟩
    exact xH hN rfl (by decide)
   refine ⟨?_,?_⟩
   all_goals (simp only [lTr0_t,lTr0_F,lTr0_l,gA,gB,za,zh,gHds,zd,gW,yq,zR,zB,zI,Zn,Zo,zT,zY,dZ,g3,v1,v3,v4,v100,v101,vs,h1,h3,h4,hsy,zl,zx,zg,zu,y9,yp,hsh,hok,Int.toNat_natCast,hp,Option.bind_some,who0,hid,hid1,hil1,hw,hw1,hbig,reduceCtorEq,Bool.false_eq_true,false_implies,true_implies,and_true,true_and])
   all_goals (clear v1 v3 v4 v100 v101 vs h1 h3 h4 hsy hF)
   all_goals ((repeat' apply And.intro) <;> intros <;> first
    | trivial
    | contradiction
    | (exact goK (by assumption))
    | (exact goA (by assumption) _ rfl)
    | (exfalso; omega)
    | (simp_all; done))
theorem lTr_step1 {ρ : Rho} {l : List Rat9} {g : ByteArray} {K : Int} {k4 : IntKind} (h1 : ρ.val 1 = some (ratsR l)) (h3 : ρ.val 3 = some (.string g)) (h4 : ρ.val 4 = some (.int k4 K)) (hsy : ρ.sym = sy) (hsh : okR9 l = true) (hok : yy l = 0) {i : Nat} (hi : i≤(hrsR l).length) (hn : (trnI l g K i)≠[]) : yI lTr_D lTr_run E0 ρ (lTr_Inv l g K) (lTr_mu (hrsR l)) 1 [.int .i64 (i : Int),zn (trnI l g K i)]:=by
 have hN : lTr_D.N = 100:=rfl
 have hmax:=ok_len hsh
 have hbl:=hrs_len l
 have htl:=trn_len l g K i
 have xl {jq vq}:=@xL ρ lTr_D.N 100 [.int .i64 (i : Int),zn (trnI l g K i)] jq vq hN
 have xh {jq vq}:=@xH ρ lTr_D.N 100 [.int .i64 (i : Int),zn (trnI l g K i)] jq vq hN
 have v1:=xl (jq:=1) h1 (by decide)
 have v3:=xl (jq:=3) h3 (by decide)
 have v4:=xl (jq:=4) h4 (by decide)
 have v100:=xh (jq:=100) (vq:=.int .i64 (i : Int)) rfl (by decide)
 have v101:=xh (jq:=101) (vq:=zn (trnI l g K i)) rfl (by decide)
 have vs : (ρ.ext lTr_D.N [.int .i64 (i : Int),zn (trnI l g K i)]).sym = sy:=hsy
 have hF : zp (ρ.ext lTr_D.N [.int .i64 (i : Int),zn (trnI l g K i)]) lTr1_F:=by
  simp only [lTr1_F,zp,gB,za,zh,gHds,zd,gW,v1,v100,vs,zg,zl,hsh,hok,Option.some.injEq,Value.bool.injEq,decide_eq_false_iff_not,beq_self_eq_true,and_true,true_and]
  omega
 suffices both : Zp (ρ.ext lTr_D.N [.int .i64 (i : Int),zn (trnI l g K i)]) (lTr1_t.asks lTr1_F)∧zR lTr_D ρ (lTr_Inv l g K) (lTr_mu (hrsR l)) 1 [.int .i64 (i : Int),zn (trnI l g K i)] lTr1_l from zD (lTr1_w _) hF both.1.ok both.2
 cases hp : (hrsR l)[i]? with
 | none =>
   have hge:=List.getElem?_eq_none_iff.1 hp
   have hge' : ¬ (i : Int) < (hrsR l).length:=by omega
   have hl : (trnI l g K i) = turnsW l g K:=trnI_all hok hge
   have hle:=congrArg List.length hl
   refine ⟨?_,?_⟩
   ·simp only [lTr1_t,lTr1_F,gA,gB,za,zh,gHds,zd,gW,v1,v3,v4,v100,v101,vs,zl,zx,zg,zu,y9,yp,hsh,hok,Int.toNat_natCast,hp,hge']
    try simp
   ·simp only [lTr1_l,gE,dZ,gB,za,g3,zh,gHds,zd,gW,v1,v3,v4,v100,v101,vs,h1,h3,h4,hsy,zl,zx,zg,zu,y9,yp,hsh,hok,Int.toNat_natCast,hp,hge',reduceCtorEq,gR]
    rw [hl] at hn
    simp [hl,hn]
 | some w =>
   have hil : i < (hrsR l).length:=(List.getElem?_eq_some_iff.1 hp).1
   have hil1 : (i : Int) < (hrsR l).length:=by omega
   have hw : IntKind.i64.wrap ((i : Int) + 1) = ((i + 1 : Nat) : Int):=by rw [IntWalk.i64_in _ (by omega)]; rfl
   have hwr:=hrs_range hok (List.mem_of_getElem? hp)
   have hw1 : IntKind.i64.wrap (w.n - 1) = w.n - 1:=IntWalk.i64_in _ (by omega)
   have hid : zb l g w.n K 0 = some (.int .i64 (idAt l g w.n K)):=rfl
   have hid1 : zb l g (w.n - 1) K 0 = some (.int .i64 (idAt l g (w.n - 1) K)):=rfl
   have hnext:=trnI_next (g:=g) (K:=K) (l:=l) (i:=i) (w:=w) hp
   have hbig : ¬ (1000000000 : Int) < ((trnI l g K i).length : Int) + 1:=by omega
   have goA : ¬ idAt l g w.n K = idAt l g (w.n - 1) K→∀ n,n = ((trnI l g K i).length : Int) + 1→∃ vals',((match (ρ.ext lTr_D.N vals').val 101 with | some v => den1 .len v | none => none) = some (.int .i64 n)∧(ρ.ext lTr_D.N vals').val 100 = some (.int .i64 ((i + 1 : Nat) : Int))∧(ρ.ext lTr_D.N vals').val 101 = some (zn ((trnI l g K i) ++ [w])))∧lTr_Inv l g K 1 vals'∧lTr_mu (hrsR l) 1 vals' < lTr_mu (hrsR l) 1 [.int .i64 (i : Int),zn (trnI l g K i)]:=by
    rintro hc n rfl
    have e2 : (trnI l g K (i + 1)) = (trnI l g K i) ++ [w]:=by rw [hnext,if_neg hc]
    have e101 : (ρ.ext lTr_D.N [.int .i64 ((i + 1 : Nat) : Int),zn (trnI l g K (i + 1))]).val 101 = some (zn (trnI l g K (i + 1))):=by exact xH hN rfl (by decide)
    refine ⟨[.int .i64 ((i + 1 : Nat) : Int),zn (trnI l g K (i + 1))],⟨?_,?_,?_⟩,⟨i + 1,by omega,.inr ⟨rfl,rfl,by rw [e2]; simp⟩⟩,by simp [lTr_mu,vI]; omega⟩
    ·rw [e101,e2]
     refine (whos_len _).trans ?_
     simp
    ·exact xH hN rfl (by decide)
    ·rw [e101,e2]
   have goK : idAt l g w.n K = idAt l g (w.n - 1) K→∀ n,n = ((trnI l g K i).length : Int)→∃ vals',((match (ρ.ext lTr_D.N vals').val 101 with | some v => den1 .len v | none => none) = some (.int .i64 n)∧(ρ.ext lTr_D.N vals').val 100 = some (.int .i64 ((i + 1 : Nat) : Int))∧(ρ.ext lTr_D.N vals').val 101 = some (zn ((trnI l g K i))))∧lTr_Inv l g K 1 vals'∧lTr_mu (hrsR l) 1 vals' < lTr_mu (hrsR l) 1 [.int .i64 (i : Int),zn (trnI l g K i)]:=by
    rintro hc n rfl
    have e2 : (trnI l g K (i + 1)) = (trnI l g K i):=by rw [hnext,if_pos hc]
    have e101 : (ρ.ext lTr_D.N [.int .i64 ((i + 1 : Nat) : Int),zn (trnI l g K (i + 1))]).val 101 = some (zn (trnI l g K (i + 1))):=by exact xH hN rfl (by decide)
    refine ⟨[.int .i64 ((i + 1 : Nat) : Int),zn (trnI l g K (i + 1))],⟨?_,?_,?_⟩,⟨i + 1,by omega,.inr ⟨rfl,rfl,by rw [e2]; exact hn⟩⟩,by simp [lTr_mu,vI]; omega⟩
    ·rw [e101,e2]
     refine (whos_len _).trans ?_
     simp
    ·exact xH hN rfl (by decide)
    ·rw [e101,e2]
   refine ⟨?_,?_⟩
   all_goals (simp only [lTr1_t,lTr1_F,lTr1_l,gA,gB,za,zh,gHds,zd,gW,yq,zR,zB,zI,Zn,Zo,zT,zY,dZ,g3,v1,v3,v4,v100,v101,vs,h1,h3,h4,hsy,zl,zx,zg,zu,y9,yp,hsh,hok,Int.toNat_natCast,hp,Option.bind_some,who0,hid,hid1,hil1,hw,hw1,hbig,reduceCtorEq,Bool.false_eq_true,false_implies,true_implies,and_true,true_and])
   all_goals (clear v1 v3 v4 v100 v101 vs h1 h3 h4 hsy hF)
   all_goals ((repeat' apply And.intro) <;> intros <;> first
    | trivial
    | contradiction
    | (exact goK (by assumption) _ rfl)
    | (exact goA (by assumption) _ rfl)
    | (exfalso; omega)
    | (simp_all; done))
theorem lTr_step {ρ : Rho} {l : List Rat9} {g : ByteArray} {K : Int} {k4 : IntKind} (h1 : ρ.val 1 = some (ratsR l)) (h3 : ρ.val 3 = some (.string g)) (h4 : ρ.val 4 = some (.int k4 K)) (hsy : ρ.sym = sy) (hsh : okR9 l = true) (hok : yy l = 0) (j : Nat) (vals : List Value) (hI : lTr_Inv l g K j vals) : yI lTr_D lTr_run E0 ρ (lTr_Inv l g K) (lTr_mu (hrsR l)) j vals:=by
 obtain ⟨i,hi,⟨rfl,rfl,hn⟩ | ⟨rfl,rfl,hn⟩⟩:=hI
 ·exact lTr_step0 h1 h3 h4 hsy hsh hok hi hn
 ·exact lTr_step1 h1 h3 h4 hsy hsh hok hi hn
theorem lTr_H {ρ : Rho} {l : List Rat9} {g : ByteArray} {K : Int} {k4 : IntKind} (h1 : ρ.val 1 = some (ratsR l)) (h3 : ρ.val 3 = some (.string g)) (h4 : ρ.val 4 = some (.int k4 K)) (hsy : ρ.sym = sy) (hsh : okR9 l = true) (hok : yy l = 0) (F : List (X×Bool)) : yV (E0.with F ρ) (oneH 15 (yR [(7,lTr_D.hook (E0.with F ρ).facts tr_vs)])):=by
 refine yN (n:=1) (fun f fn h => h) (by kernel_rfl) fun i hi => ?_
 obtain rfl : i = 0:=by omega
 rw [yA (show Zr (yh (E0.with F ρ).P 15 0) = 7 by kernel_rfl)]
 refine hook_ok (E₀:=E0) (run:=lTr_run) (ρ:=ρ) (Inv:=lTr_Inv l g K) (μ:=lTr_mu (hrsR l)) zU lTr_ok (fun F r' h => ?_) (fun hp => ⟨lTr_step h1 h3 h4 hsy hsh hok,[.int .i64 0,zn []],?_,0,Nat.zero_le _,.inl ⟨rfl,rfl,rfl⟩⟩)
 ·exact yl zU (LTL_ok F (h.trans hsy)) fun _ _ => yj
 ·simp only [tr_vs,gB,za,zh,gHds,zd,gW]
  rfl
noncomputable def rTuE_con : Con:={ f:=15,args:=[ratsArg 0 0,.one (.str 3),.one (.int .i64 4)],N:=1,M:=1,pre:=[(qRS15,true),(qRS10,false)],out:=.nilslice,news:=[] }
noncomputable def rTuE_call : Env→yC:=fun E => zw E (evH E (LTL E) ((fun _ => yo) E) 12)
noncomputable def rTuE_t : GTree:=(.leaf [[]])
noncomputable def rTuE_l : List (List (X×Bool)×Option zo):=[([(qRS6,true),(qRS3,false)],some [])]
theorem rTuE_w (r : Rho) : rTuE_con.fn.ways rTuE_call E0 r rTuE_con.pre rTuE_t = some rTuE_l:=by kernel_rfl
theorem rTuE_cok : rTuE_con.Ok Tryz.prog sy:=by
 intro r σ w us hsy hρ hpre hrel hins
 obtain ⟨l,h1⟩:=zS hrel rfl hρ
 obtain ⟨u0,us,rfl,g0,hi⟩:=zf hins
 obtain ⟨u1,us,rfl,g1,hi1⟩:=zf hi
 obtain ⟨u2,us,rfl,g2,hi2⟩:=zf hi1
 obtain ⟨g,rfl,h3⟩:=yz g1
 obtain ⟨K,k4,rfl,h4⟩:=zK g2
 rw [hρ] at h3 h4
 have hsh : okR9 l = true:=by
  have:=hpre.1
  simpa only [gB,za,zh,gHds,zd,gW,h1,hsy,zg,Option.some.injEq,Value.bool.injEq] using this
 have c0 : zb l g 0 K 0 = some (.int .i64 (idAt l g 0 K)):=rfl
 have c1 : zb l g (-1) K 0 = some (.int .i64 (idAt l g (-1) K)):=rfl
 refine zX (E:=E0) zU zG (sy:=sy) (fun F => LTL_ok F hsy) (fun F => yP) (rTuE_w r) hρ hpre hrel hins ?_ ?_
 ·simp only [rTuE_con,rTuE_t,gA,gB,za,zh,gHds,zd,gW,g3,h1,h3,h4,hsy,zl,zx,zg,zu,y9,yp,hsh,c0,c1,reduceCtorEq,Bool.false_eq_true,false_implies,true_implies,and_true,true_and]
  try simp
 ·simp only [rTuE_l,gE,dZ,gB,za,g3,zh,gHds,zd,gW,h1,h3,h4,hsy,zl,zx,zg,zu,y9,yp,hsh,c0,c1,reduceCtorEq,gR]
  try simp
  skip
noncomputable def rTuN_con : Con:={ f:=15,args:=[ratsArg 0 0,.one (.str 3),.one (.int .i64 4)],N:=1,M:=1,pre:=[(qRS15,true),(qRS10,true),(qRS16,true)],out:=.nilslice,news:=[] }
noncomputable def rTuN_call : Env→yC:=fun E => zw E (evH E (LTL E) ((fun E => oneH 15 (yR [(7,lTr_D.hook E.facts tr_vs)])) E) 12)
noncomputable def rTuN_t : GTree:=(.fork qRS13 (.fork qRS1 (.leaf [[]]) .bad) (.leaf [[]]))
noncomputable def rTuN_l : List (List (X×Bool)×Option zo):=[((qRS1,true) :: (qRS13,true) :: qRSf2,some []),
 ((qRS1,false) :: (qRS13,true) :: qRSf2,none),
 ((qRS13,false) :: qRSf2,some [])]
theorem rTuN_w (r : Rho) : rTuN_con.fn.ways rTuN_call E0 r rTuN_con.pre rTuN_t = some rTuN_l:=by kernel_rfl
theorem rTuN_cok : rTuN_con.Ok Tryz.prog sy:=by
 intro r σ w us hsy hρ hpre hrel hins
 obtain ⟨l,h1⟩:=zS hrel rfl hρ
 obtain ⟨u0,us,rfl,g0,hi⟩:=zf hins
 obtain ⟨u1,us,rfl,g1,hi1⟩:=zf hi
 obtain ⟨u2,us,rfl,g2,hi2⟩:=zf hi1
 obtain ⟨g,rfl,h3⟩:=yz g1
 obtain ⟨K,k4,rfl,h4⟩:=zK g2
 rw [hρ] at h3 h4
 have hsh : okR9 l = true:=by
  have:=hpre.1
  simpa only [gB,za,zh,gHds,zd,gW,h1,hsy,zg,Option.some.injEq,Value.bool.injEq] using this
 have c0 : zb l g 0 K 0 = some (.int .i64 (idAt l g 0 K)):=rfl
 have c1 : zb l g (-1) K 0 = some (.int .i64 (idAt l g (-1) K)):=rfl
 have hok : yy l = 0:=by
  have:=hpre.2.1
  simpa only [gB,za,zh,gHds,zd,gW,h1,hsy,zl,Option.some.injEq,Value.bool.injEq,beq_iff_eq] using this
 have h01 : (hrsR l).length = 1→turnsW l g K = if idAt l g 0 K = idAt l g (-1) K then [] else [⟨0⟩]:=fun h => by
  rw [← trnI_all hok (Nat.le_refl _)]
  unfold trnI
  rw [List.take_length,hrs_one h]
  by_cases hc : idAt l g 0 K = idAt l g (-1) K
  ·simp [chgW,hc]
  ·simp [chgW,hc]
 refine zX (E:=E0) zU zG (sy:=sy) (fun F => LTL_ok F hsy) (fun F => lTr_H h1 h3 h4 hsy hsh hok F) (rTuN_w r) hρ hpre hrel hins ?_ ?_
 ·simp only [rTuN_con,rTuN_t,gA,gB,za,zh,gHds,zd,gW,g3,h1,h3,h4,hsy,zl,zx,zg,zu,y9,yp,hsh,c0,c1,reduceCtorEq,Bool.false_eq_true,false_implies,true_implies,and_true,true_and]
  try simp
 ·simp only [rTuN_l,gE,dZ,gB,za,g3,zh,gHds,zd,gW,h1,h3,h4,hsy,zl,zx,zg,zu,y9,yp,hsh,c0,c1,reduceCtorEq,gR]
  try simp
  intro hne hl _; rw [h01 (by omega),if_neg hne]; simp
noncomputable def rTuY_con : Con:={ f:=15,args:=[ratsArg 0 0,.one (.str 3),.one (.int .i64 4)],N:=1,M:=2,pre:=[(qRS15,true),(qRS10,true),(qRS16,false)],out:=.slo 1 1 (.op1 .len qRS7),news:=[(1,.rows 1 [.int .i64] (.num 0) qRS7 true 3)] }
noncomputable def rTuY_call : Env→yC:=fun E => zw E (evH E (LTL E) ((fun E => oneH 15 (yR [(7,lTr_D.hook E.facts tr_vs)])) E) 12)
noncomputable def rTuY_t : GTree:=(.fork qRS13 (.fork qRS1 .bad (.leaf [[(1,3)]])) (.leaf [[(1,110)]]))
noncomputable def rTuY_l : List (List (X×Bool)×Option zo):=[((qRS1,true) :: (qRS13,true) :: qRSf1,none),
 ((qRS1,false) :: (qRS13,true) :: qRSf1,some [(.op1 .len qRS2,.num 1),(qRS2,.snoc .nil [.op1 (.kind .i64) (.num 0)])]),
 ((qRS13,false) :: qRSf1,some [(.op1 .len qRS2,.op1 .len qRS2),(qRS2,qRS2)])]
theorem rTuY_w (r : Rho) : rTuY_con.fn.ways rTuY_call E0 r rTuY_con.pre rTuY_t = some rTuY_l:=by kernel_rfl
theorem rTuY_cok : rTuY_con.Ok Tryz.prog sy:=by
 intro r σ w us hsy hρ hpre hrel hins
 obtain ⟨l,h1⟩:=zS hrel rfl hρ
 obtain ⟨u0,us,rfl,g0,hi⟩:=zf hins
 obtain ⟨u1,us,rfl,g1,hi1⟩:=zf hi
 obtain ⟨u2,us,rfl,g2,hi2⟩:=zf hi1
 obtain ⟨g,rfl,h3⟩:=yz g1
 obtain ⟨K,k4,rfl,h4⟩:=zK g2
 rw [hρ] at h3 h4
 have hsh : okR9 l = true:=by
  have:=hpre.1
  simpa only [gB,za,zh,gHds,zd,gW,h1,hsy,zg,Option.some.injEq,Value.bool.injEq] using this
 have c0 : zb l g 0 K 0 = some (.int .i64 (idAt l g 0 K)):=rfl
 have c1 : zb l g (-1) K 0 = some (.int .i64 (idAt l g (-1) K)):=rfl
 have hok : yy l = 0:=by
  have:=hpre.2.1
  simpa only [gB,za,zh,gHds,zd,gW,h1,hsy,zl,Option.some.injEq,Value.bool.injEq,beq_iff_eq] using this
 have h01 : (hrsR l).length = 1→turnsW l g K = if idAt l g 0 K = idAt l g (-1) K then [] else [⟨0⟩]:=fun h => by
  rw [← trnI_all hok (Nat.le_refl _)]
  unfold trnI
  rw [List.take_length,hrs_one h]
  by_cases hc : idAt l g 0 K = idAt l g (-1) K
  ·simp [chgW,hc]
  ·simp [chgW,hc]
 refine zX (E:=E0) zU zG (sy:=sy) (fun F => LTL_ok F hsy) (fun F => lTr_H h1 h3 h4 hsy hsh hok F) (rTuY_w r) hρ hpre hrel hins ?_ ?_
 ·simp only [rTuY_con,rTuY_t,gA,gB,za,zh,gHds,zd,gW,g3,h1,h3,h4,hsy,zl,zx,zg,zu,y9,yp,hsh,c0,c1,reduceCtorEq,Bool.false_eq_true,false_implies,true_implies,and_true,true_and]
  try simp
 ·simp only [rTuY_l,gE,dZ,gB,za,g3,zh,gHds,zd,gW,h1,h3,h4,hsy,zl,zx,zg,zu,y9,yp,hsh,c0,c1,reduceCtorEq,gR]
  try simp
  refine ⟨fun he hl _ => by rw [h01 (by omega),if_pos he],fun he hl _ _ => by rw [h01 (by omega),if_neg he]; exact ⟨rfl,rfl⟩⟩
open Go
noncomputable def LTQ : Env→yi:=libs [cLib rApE_con,cLib rApY_con,cLib rHrO_con,cLib rHrY_con,cLib rId_con]
theorem LTQ_ok (F : List (X×Bool)) {r : Rho} (h : r.sym = sy) : zt (E0.with F r) (LTQ (E0.with F r)):=yU fun c hc => by
 simp only [List.mem_cons,List.not_mem_nil,or_false] at hc
 rcases hc with rfl | rfl | rfl | rfl | rfl
 ·exact zH (E:=E0) rApE_cok F h
 ·exact zH (E:=E0) rApY_cok F h
 ·exact zH (E:=E0) rHrO_cok F h
 ·exact zH (E:=E0) rHrY_cok F h
 ·exact zH (E:=E0) rId_cok F h
def tq_vs : List X:=[.num 0,.num 0,.num 0]
abbrev qRU0 : X:=.snoc (.var 1) [.op1 (.kind .i64) (.var 3),.op1 (.kind .i64) (.var 4),.op1 (.kind .i64) (.var 5),.var 6,.op1 (.kind .i64) (.var 7),.op1 (.kind .i64) (.var 8),.op1 (.kind .i64) (.var 9),.op1 (.kind .i64) (.var 10),.op1 (.kind .i64) (.var 11)]
abbrev qRU1 : X:=.snoc (.var 1) [.op1 (.kind .i64) (.var 3),.op1 (.kind .i64) (.var 4),.op1 (.kind .i64) (.var 5),.var 6,.op1 (.kind .i64) (.var 7),.op1 (.kind .i64) (.var 8),.op1 (.kind .i64) (.var 9),.op1 (.kind .i64) (.var 10),.op1 (.kind .i64) (.var 11)]
abbrev qRU24 : X:=.snoc (.app 216 [qRU0]) [.op1 (.kind .i64) (.num 1000001)]
abbrev qRU2 : X:=.op2 .eq (.app 205 [.var 1,.var 12,.cell 0 qRU24 (.var 100),.var 4,.num 0]) (.app 205 [qRU0,.var 12,.cell 0 qRU24 (.var 100),.var 4,.num 0])
abbrev qRU3 : X:=.op2 .add (.op1 .len (.app 216 [qRU0])) (.num 1)
abbrev qRU4 : X:=.op1 (.wrap .i64) (.op2 .add (.var 100) (.num 1))
abbrev qRU5 : X:=.op1 .len qRU24
abbrev qRU6 : X:=.op2 .eq (.app 200 [.var 1]) (.num 0)
abbrev qRU7 : X:=.op2 .eq (.app 200 [qRU0]) (.num 0)
abbrev qRU8 : X:=.op2 .eq (.app 205 [.var 1,.var 12,.num 0,.var 4,.num 0]) (.app 205 [qRU0,.var 12,.num 0,.var 4,.num 0])
abbrev qRU9 : X:=.op2 .lt (.num 1000) (.op1 .len (.var 1))
abbrev qRU10 : X:=.op2 .eq (.op1 .len (.app 216 [qRU0])) (.num 1)
abbrev qRU11 : X:=.op2 .lt (.num 100) (.op1 .slen (.var 6))
abbrev qRU12 : X:=.app 213 [.var 1,qRU0,.var 12,.var 4]
abbrev qRU13 : X:=.app 202 [.var 1]
abbrev qRU14 : X:=.op2 .lt (.var 100) (.num 0)
abbrev qRU15 : X:=.app 202 [qRU0]
abbrev qRU16 : X:=.op2 .lt (.var 100) qRU3
abbrev qRU17 : X:=.op2 .lt (.var 100) qRU5
abbrev qRU18 : X:=.op2 .lt qRU4 qRU3
abbrev qRU19 : X:=.op2 .lt (.num 1000000000) qRU3
abbrev qRU20 : X:=.op2 .eq (.app 200 [qRU1]) (.num 0)
abbrev qRU21 : X:=.op2 .lt qRU4 (.num 0)
abbrev qRU22 : X:=.app 211 [.var 1,qRU0,.var 12,.var 4]
abbrev qRU23 : X:=.app 212 [.var 1,qRU0,.var 12,.var 4]
abbrev qRU25 : X:=.op2 .lt qRU4 qRU5
abbrev qRU26 : X:=.app 213 [.var 1,qRU1,.var 12,.var 4]
abbrev qRU27 : X:=.app 202 [.var 1]
abbrev qRU28 : X:=.op2 .eq (.app 200 [.var 1]) (.num 0)
abbrev qRUf4 : List (X×Bool):=[(qRU13,true),(qRU15,true),(qRU6,true),(qRU7,true),(qRU14,false)]
abbrev qRUf0 : List (X×Bool):=(qRU18,true) :: qRUf4
abbrev qRUf1 : List (X×Bool):=[(qRU13,true),(qRU9,false),(qRU11,false),(qRU7,true),(qRU15,true),(qRU12,false)]
abbrev qRUf2 : List (X×Bool):=[(qRU13,true),(qRU9,false),(qRU11,false),(qRU7,true),(qRU15,true),(qRU12,true)]
abbrev qRUf3 : List (X×Bool):=(qRU2,false) :: (qRU17,true) :: (qRU16,true) :: qRUf0
abbrev qRUf5 : List (X×Bool):=[(qRU27,true),(.app 202 [qRU1],true),(qRU28,true),(qRU20,true),(qRU14,false)]
noncomputable def lTq_D : LoopD:={ N:=100,M:=111,size:=Zk 12,reads:=[(0,.rows 9 ratSch (.var 0) (.var 1) false 26),(2,.rows 9 ratSch (.num 0) qRU1 true 26),(1,.cells [.sint .i64 (.var 3),.sint .i64 (.var 4),.sint .i64 (.var 5),.sstr (.var 6),.sint .i64 (.var 7),.sint .i64 (.var 8),.sint .i64 (.var 9),.sint .i64 (.var 10),.sint .i64 (.var 11)] 26),(5,.rows 1 [.int .i64] (.num 0) (.snoc (.app 216 [qRU1]) [.op1 (.kind .i64) (.num 1000001)]) true 3)],pats:=[{ slots:=[(0,.slx 0 9 (.var 0) (.num 0) (.op1 .len (.var 1)) (.var 2)),(2,.sstr (.var 12)),(4,.ptr 1 0),(10,.slo 2 9 (.op2 .add (.op1 .len (.var 1)) (.num 1))),(12,.slo 5 1 (.op2 .add (.op1 .len (.app 216 [qRU1])) (.num 1))),(16,.sint .i64 (.var 100)),(13,.int .i64 0),(14,.int .i64 0),(15,.bool false)],heap:=[] },{ slots:=[(0,.slx 0 9 (.var 0) (.num 0) (.op1 .len (.var 1)) (.var 2)),(2,.sstr (.var 12)),(4,.ptr 1 0),(10,.slo 2 9 (.op2 .add (.op1 .len (.var 1)) (.num 1))),(12,.slo 5 1 (.op2 .add (.op1 .len (.app 216 [qRU1])) (.num 1))),(16,.sint .i64 (.var 100)),(13,.sint .i64 (.var 101)),(14,.sint .i64 (.var 102)),(15,.bool true)],heap:=[] }],exits:=[(.exit 0,{ slots:=[(13,.int .i64 0),(14,.int .i64 0),(15,.bool false)],heap:=[],guard:=.op1 .not qRU26 }),(.exit 0,{ slots:=[(13,.sint .i64 (.app 211 [.var 1,qRU1,.var 12,.var 4])),(14,.sint .i64 (.app 212 [.var 1,qRU1,.var 12,.var 4])),(15,.bool true)],heap:=[],guard:=.app 213 [.var 1,qRU1,.var 12,.var 4] })],own:=[],pre:=[(qRU27,true),(.app 202 [qRU1],true),(qRU28,true),(qRU20,true)],dfs:=[] }
noncomputable def lTq_run : Env→AF→ASt→Option (List Out):=Zh LTQ 9 (fun _ => Zl) (yh Tryz.prog 12 0)
def lTq0_F : List (X×Bool):=qRUf5
def lTq1_F : List (X×Bool):=qRUf5
noncomputable def lTq0_t : FTree:=(.fork qRU18 (.fork qRU16 (.fork qRU17 (.fork qRU2 (.leaf [.again 0 []]) (.fork qRU21 .bad (.fork qRU25 (.leaf [.again 1 []]) .bad))) .bad) .bad) (.leaf [.leave 0 []]))
noncomputable def lTq0_l : List (List (X×Bool)×Option (List (Tgt×zo))):=[((qRU2,true) :: (qRU17,true) :: (qRU16,true) :: qRUf0,some [(.again 0 [],[(.var 100,qRU4)])]),
 ((qRU21,true) :: qRUf3,none),
 ((qRU25,true) :: (qRU21,false) :: qRUf3,some [(.again 1 [],[(.var 100,qRU4),(.var 101,.cell 0 qRU24 (.var 100)),(.var 102,.op1 (.wrap .i64) (.op2 .sub (.cell 0 qRU24 qRU4) (.num 1)))])]),
 ((qRU25,false) :: (qRU21,false) :: qRUf3,none),
 ((qRU17,false) :: (qRU16,true) :: qRUf0,none),
 ((qRU16,false) :: qRUf0,none),
 ((qRU18,false) :: qRUf4,some [(.leave 0 [],[(.op1 .not qRU12,.boo true)])])]
theorem lTq0_w (r : Rho) : lTq_D.ways lTq_run E0 r 0 lTq0_F lTq0_t = some lTq0_l:=by kernel_rfl
noncomputable def lTq1_t : FTree:=(.fork qRU18 (.fork qRU16 (.fork qRU17 (.fork qRU2 (.leaf [.again 1 []]) (.fork qRU21 .bad (.fork qRU25 (.leaf [.again 1 []]) .bad))) .bad) .bad) (.leaf [.leave 1 []]))
noncomputable def lTq1_l : List (List (X×Bool)×Option (List (Tgt×zo))):=[((qRU2,true) :: (qRU17,true) :: (qRU16,true) :: qRUf0,some [(.again 1 [],[(.var 100,qRU4),(.var 101,.var 101),(.var 102,.var 102)])]),
 ((qRU21,true) :: qRUf3,none),
 ((qRU25,true) :: (qRU21,false) :: qRUf3,some [(.again 1 [],[(.var 100,qRU4),(.var 101,.var 101),(.var 102,.op1 (.wrap .i64) (.op2 .sub (.cell 0 qRU24 qRU4) (.num 1)))])]),
 ((qRU25,false) :: (qRU21,false) :: qRUf3,none),
 ((qRU17,false) :: (qRU16,true) :: qRUf0,none),
 ((qRU16,false) :: qRUf0,none),
 ((qRU18,false) :: qRUf4,some [(.leave 1 [],[(qRU22,.var 101),(qRU23,.var 102),(qRU12,.boo true)])])]
theorem lTq1_w (r : Rho) : lTq_D.ways lTq_run E0 r 1 lTq1_F lTq1_t = some lTq1_l:=by kernel_rfl
theorem lTq_ok : lTq_D.ok = true:=by kernel_rfl
def lTq_Inv (l : List Rat9) (x : Rat9) (g : ByteArray) (j : Nat) (vals : List Value) : Prop:=
 ∃ i : Nat,i≤(hrsR (l ++ [x])).length∧((j = 0∧vals = [.int .i64 (i : Int),.int .i64 0,.int .i64 0]∧(tchG (zr (l ++ [x])) l (l ++ [x]) g x.known i).is = false)∨(j = 1∧vals = [.int .i64 (i : Int),.int .i64 (tchG (zr (l ++ [x])) l (l ++ [x]) g x.known i).from_,.int .i64 (tchG (zr (l ++ [x])) l (l ++ [x]) g x.known i).until_]∧(tchG (zr (l ++ [x])) l (l ++ [x]) g x.known i).is = true))
def lTq_mu (b : List Who) (_ : Nat) (vals : List Value) : Nat:=b.length - (vI (vals.getD 0 default)).toNat
theorem lTq_step0 {ρ : Rho} {l : List Rat9} {x : Rat9} {kx : Nat→IntKind} {g : ByteArray} (h1 : ρ.val 1 = some (ratsR l)) (hx : Rat9At ρ 3 kx x) (h12 : ρ.val 12 = some (.string g)) (hsy : ρ.sym = sy) (hsh : okR9 l = true) (hok : okR9 (l ++ [x]) = true) (hc1 : yy l = 0) (hc2 : yy (l ++ [x]) = 0) {i : Nat} (hi : i≤(hrsR (l ++ [x])).length) (hn : (tchG (zr (l ++ [x])) l (l ++ [x]) g x.known i).is = false) : yI lTq_D lTq_run E0 ρ (lTq_Inv l x g) (lTq_mu (hrsR (l ++ [x]))) 0 [.int .i64 (i : Int),.int .i64 0,.int .i64 0]:=by
 have hN : lTq_D.N = 100:=rfl
 have hmax:=ok_len hok
 have hbl:=hrs_len (l ++ [x])
 have hxx : (⟨x.id,x.known,x.from_,x.goods,x.num,x.den,x.cart,x.store,x.of_⟩ : Rat9) = x:=rfl
 have hll : (((hrsR (l ++ [x])) ++ [(⟨1000001⟩ : Who)]).length : Int) = ((hrsR (l ++ [x])).length : Int) + 1:=by simp
 have xl {jq vq}:=@xL ρ lTq_D.N 100 [.int .i64 (i : Int),.int .i64 0,.int .i64 0] jq vq hN
 have xh {jq vq}:=@xH ρ lTq_D.N 100 [.int .i64 (i : Int),.int .i64 0,.int .i64 0] jq vq hN
 have v1:=xl (jq:=1) h1 (by decide)
 have v3:=xl (jq:=3) hx.h0 (by decide)
 have v4:=xl (jq:=4) hx.h1 (by decide)
 have v5:=xl (jq:=5) hx.h2 (by decide)
 have v6:=xl (jq:=6) hx.h3 (by decide)
 have v7:=xl (jq:=7) hx.h4 (by decide)
 have v8:=xl (jq:=8) hx.h5 (by decide)
 have v9:=xl (jq:=9) hx.h6 (by decide)
 have v10:=xl (jq:=10) hx.h7 (by decide)
 have v11:=xl (jq:=11) hx.h8 (by decide)
 have v12:=xl (jq:=12) h12 (by decide)
 have v100:=xh (jq:=100) (vq:=.int .i64 (i : Int)) rfl (by decide)
 have v101:=xh (jq:=101) (vq:=.int .i64 0) rfl (by decide)
 have v102:=xh (jq:=102) (vq:=.int .i64 0) rfl (by decide)
 have vs : (ρ.ext lTq_D.N [.int .i64 (i : Int),.int .i64 0,.int .i64 0]).sym = sy:=hsy
 have hF : zp (ρ.ext lTq_D.N [.int .i64 (i : Int),.int .i64 0,.int .i64 0]) lTq0_F:=by
  simp only [lTq0_F,zp,gB,za,gW,zh,v1,v3,v4,v5,v6,v7,v8,v9,v10,v11,v12,v100,v101,v102,vs,hxx,zg,zl,hsh,hok,hc1,hc2,beq_self_eq_true,Option.some.injEq,Value.bool.injEq,decide_eq_false_iff_not,and_true,true_and]
  omega
 suffices both : Zp (ρ.ext lTq_D.N [.int .i64 (i : Int),.int .i64 0,.int .i64 0]) (lTq0_t.asks lTq0_F)∧zR lTq_D ρ (lTq_Inv l x g) (lTq_mu (hrsR (l ++ [x]))) 0 [.int .i64 (i : Int),.int .i64 0,.int .i64 0] lTq0_l from zD (lTq0_w _) hF both.1.ok both.2
 cases hp : (hrsR (l ++ [x]))[i]? with
 | none =>
   have hge:=List.getElem?_eq_none_iff.1 hp
   have hge' : ¬ ((i + 1 : Nat) : Int) < ((hrsR (l ++ [x])).length : Int) + 1:=by omega
   have hw : IntKind.i64.wrap ((i : Int) + 1) = ((i + 1 : Nat) : Int):=by rw [IntWalk.i64_in _ (by omega)]; rfl
   have hT : (tchG (zr (l ++ [x])) l (l ++ [x]) g x.known i) = tch l (l ++ [x]) g x.known:=by
    have : i = (hrsR (l ++ [x])).length:=by omega
    rw [this]; exact tch_ref (fun y hy => (ok_froms hc2 y hy).1) g x.known
   refine ⟨?_,?_⟩
   ·simp only [lTq0_t,lTq0_F,gA,gB,za,gW,zh,v1,v3,v4,v5,v6,v7,v8,v9,v10,v11,v12,v100,v101,v102,vs,hxx,zl,zx,zg,zu,yp,yf,ye,yd,hsh,hok,hc1,hc2,Int.toNat_natCast,hp,hw,hll,hge']
    try simp
   ·simp only [lTq0_l,gE,dZ,gB,za,g3,gW,zh,v1,v3,v4,v5,v6,v7,v8,v9,v10,v11,v12,v100,v101,v102,vs,h1,h12,hx.h0,hx.h1,hx.h2,hx.h3,hx.h4,hx.h5,hx.h6,hx.h7,hx.h8,hsy,hxx,zl,zx,zg,zu,yp,yf,ye,yd,hsh,hok,hc1,hc2,Int.toNat_natCast,hp,hw,hll,hge',reduceCtorEq,gR]
    rw [hT] at hn
    try simp only [hT]
    simp [hn]
 | some w =>
   have hil : i < (hrsR (l ++ [x])).length:=(List.getElem?_eq_some_iff.1 hp).1
   have hil1 : (i : Int) < (hrsR (l ++ [x])).length:=by omega
   have hil2 : (i : Int) < ((hrsR (l ++ [x])).length : Int) + 1:=by omega
   have hil3 : ((i + 1 : Nat) : Int) < ((hrsR (l ++ [x])).length : Int) + 1:=by omega
   have hil4 : ¬ ((i + 1 : Nat) : Int) < 0:=by omega
   have hp1 : ((hrsR (l ++ [x])) ++ [(⟨1000001⟩ : Who)])[i]? = some w:=by rw [List.getElem?_append_left hil]; exact hp
   obtain ⟨w2,hp2⟩ : ∃ w2,((hrsR (l ++ [x])) ++ [(⟨1000001⟩ : Who)])[i + 1]? = some w2:=⟨_,List.getElem?_eq_getElem (by simp; omega)⟩
   have hw : IntKind.i64.wrap ((i : Int) + 1) = ((i + 1 : Nat) : Int):=by rw [IntWalk.i64_in _ (by omega)]; rfl
   have hid : zb l g w.n x.known 0 = some (.int .i64 (idAt l g w.n x.known)):=rfl
   have hid2 : zb (l ++ [x]) g w.n x.known 0 = some (.int .i64 (idAt (l ++ [x]) g w.n x.known)):=rfl
   have hnext : (tchG (zr (l ++ [x])) l (l ++ [x]) g x.known (i + 1)) = yb l (l ++ [x]) g x.known (tchG (zr (l ++ [x])) l (l ++ [x]) g x.known i) w.n w2.n:=by
    have g1 : (zr (l ++ [x])).getD i ⟨0⟩ = w:=by rw [List.getD_eq_getElem?_getD]; show (((hrsR (l ++ [x])) ++ [(⟨1000001⟩ : Who)])[i]?).getD _ = w; rw [hp1]; rfl
    have g2 : (zr (l ++ [x])).getD (i + 1) ⟨0⟩ = w2:=by rw [List.getD_eq_getElem?_getD]; show (((hrsR (l ++ [x])) ++ [(⟨1000001⟩ : Who)])[i + 1]?).getD _ = w2; rw [hp2]; rfl
    show yb l (l ++ [x]) g x.known (tchG (zr (l ++ [x])) l (l ++ [x]) g x.known i) ((zr (l ++ [x])).getD i ⟨0⟩).n ((zr (l ++ [x])).getD (i + 1) ⟨0⟩).n = _
    rw [g1,g2]
   have goC : ¬ idAt l g w.n x.known = idAt (l ++ [x]) g w.n x.known→∃ vals',((ρ.ext lTq_D.N vals').val 100 = some (.int .i64 ((i + 1 : Nat) : Int))∧(ρ.ext lTq_D.N vals').val 101 = some (.int .i64 (w.n))∧(ρ.ext lTq_D.N vals').val 102 = some (.int .i64 (IntKind.i64.wrap (w2.n - 1))))∧lTq_Inv l x g 1 vals'∧lTq_mu (hrsR (l ++ [x])) 1 vals' < lTq_mu (hrsR (l ++ [x])) 0 [.int .i64 (i : Int),.int .i64 0,.int .i64 0]:=by
    intro hc
    have e2 : (tchG (zr (l ++ [x])) l (l ++ [x]) g x.known (i + 1)) = ⟨w.n,IntKind.i64.wrap (w2.n - 1),true⟩:=by rw [hnext]; unfold yb; rw [if_neg hc,hn]; rfl
    refine ⟨[.int .i64 ((i + 1 : Nat) : Int),.int .i64 (tchG (zr (l ++ [x])) l (l ++ [x]) g x.known (i + 1)).from_,.int .i64 (tchG (zr (l ++ [x])) l (l ++ [x]) g x.known (i + 1)).until_],⟨?_,?_,?_⟩,⟨i + 1,by omega,.inr ⟨rfl,rfl,by rw [e2]⟩⟩,by simp [lTq_mu,vI]; omega⟩
    ·exact xH hN rfl (by decide)
    ·rw [yn _ _ _ _ (by rw [hN]; omega)]; exact (congrArg (fun t : Tch => some (Value.int .i64 t.from_)) e2 :)
    ·rw [yn _ _ _ _ (by rw [hN]; omega)]; exact (congrArg (fun t : Tch => some (Value.int .i64 t.until_)) e2 :)
   have goS : idAt l g w.n x.known = idAt (l ++ [x]) g w.n x.known→∃ vals',(ρ.ext lTq_D.N vals').val 100 = some (.int .i64 ((i + 1 : Nat) : Int))∧lTq_Inv l x g 0 vals'∧lTq_mu (hrsR (l ++ [x])) 0 vals' < lTq_mu (hrsR (l ++ [x])) 0 [.int .i64 (i : Int),.int .i64 0,.int .i64 0]:=by
    intro hc
    have e2 : (tchG (zr (l ++ [x])) l (l ++ [x]) g x.known (i + 1)) = (tchG (zr (l ++ [x])) l (l ++ [x]) g x.known i):=by rw [hnext]; unfold yb; rw [if_pos hc]
    refine ⟨[.int .i64 ((i + 1 : Nat) : Int),.int .i64 0,.int .i64 0],?_,⟨i + 1,by omega,.inl ⟨rfl,rfl,by rw [e2]; exact hn⟩⟩,by simp [lTq_mu,vI]; omega⟩
    exact xH hN rfl (by decide)
   refine ⟨?_,?_⟩
   all_goals (simp only [lTq0_t,lTq0_F,lTq0_l,gA,gB,za,gW,zh,yq,zR,zB,zI,Zn,Zo,zT,zY,dZ,g3,v1,v3,v4,v5,v6,v7,v8,v9,v10,v11,v12,v100,v101,v102,vs,h1,h12,hsy,hxx,zl,zx,zg,zu,yp,yf,ye,yd,hsh,hok,hc1,hc2,Int.toNat_natCast,hp,hp1,hp2,hll,Option.bind_some,who0,hid,hid2,hil1,hil2,hil3,hil4,hw,reduceCtorEq,Bool.false_eq_true,false_implies,true_implies,and_true,true_and])
   all_goals (clear v1 v3 v4 v5 v6 v7 v8 v9 v10 v11 v12 v100 v101 v102 vs h1 h12 hx hsy hF)
   all_goals ((repeat' apply And.intro) <;> intros <;> first
    | trivial
    | contradiction
    | (exact goS (by assumption))
    | (exact goC (by assumption))
    | (exfalso; omega)
    | (simp_all; done))
theorem lTq_step1 {ρ : Rho} {l : List Rat9} {x : Rat9} {kx : Nat→IntKind} {g : ByteArray} (h1 : ρ.val 1 = some (ratsR l)) (hx : Rat9At ρ 3 kx x) (h12 : ρ.val 12 = some (.string g)) (hsy : ρ.sym = sy) (hsh : okR9 l = true) (hok : okR9 (l ++ [x]) = true) (hc1 : yy l = 0) (hc2 : yy (l ++ [x]) = 0) {i : Nat} (hi : i≤(hrsR (l ++ [x])).length) (hn : (tchG (zr (l ++ [x])) l (l ++ [x]) g x.known i).is = true) : yI lTq_D lTq_run E0 ρ (lTq_Inv l x g) (lTq_mu (hrsR (l ++ [x]))) 1 [.int .i64 (i : Int),.int .i64 (tchG (zr (l ++ [x])) l (l ++ [x]) g x.known i).from_,.int .i64 (tchG (zr (l ++ [x])) l (l ++ [x]) g x.known i).until_]:=by
 have hN : lTq_D.N = 100:=rfl
 have hmax:=ok_len hok
 have hbl:=hrs_len (l ++ [x])
 have hxx : (⟨x.id,x.known,x.from_,x.goods,x.num,x.den,x.cart,x.store,x.of_⟩ : Rat9) = x:=rfl
 have hll : (((hrsR (l ++ [x])) ++ [(⟨1000001⟩ : Who)]).length : Int) = ((hrsR (l ++ [x])).length : Int) + 1:=by simp
 have xl {jq vq}:=@xL ρ lTq_D.N 100 [.int .i64 (i : Int),.int .i64 (tchG (zr (l ++ [x])) l (l ++ [x]) g x.known i).from_,.int .i64 (tchG (zr (l ++ [x])) l (l ++ [x]) g x.known i).until_] jq vq hN
 have xh {jq vq}:=@xH ρ lTq_D.N 100 [.int .i64 (i : Int),.int .i64 (tchG (zr (l ++ [x])) l (l ++ [x]) g x.known i).from_,.int .i64 (tchG (zr (l ++ [x])) l (l ++ [x]) g x.known i).until_] jq vq hN
 have v1:=xl (jq:=1) h1 (by decide)
 have v3:=xl (jq:=3) hx.h0 (by decide)
 have v4:=xl (jq:=4) hx.h1 (by decide)
 have v5:=xl (jq:=5) hx.h2 (by decide)
 have v6:=xl (jq:=6) hx.h3 (by decide)
 have v7:=xl (jq:=7) hx.h4 (by decide)
 have v8:=xl (jq:=8) hx.h5 (by decide)
 have v9:=xl (jq:=9) hx.h6 (by decide)
 have v10:=xl (jq:=10) hx.h7 (by decide)
 have v11:=xl (jq:=11) hx.h8 (by decide)
 have v12:=xl (jq:=12) h12 (by decide)
 have v100:=xh (jq:=100) (vq:=.int .i64 (i : Int)) rfl (by decide)
 have v101:=xh (jq:=101) (vq:=.int .i64 (tchG (zr (l ++ [x])) l (l ++ [x]) g x.known i).from_) rfl (by decide)
 have v102:=xh (jq:=102) (vq:=.int .i64 (tchG (zr (l ++ [x])) l (l ++ [x]) g x.known i).until_) rfl (by decide)
 have vs : (ρ.ext lTq_D.N [.int .i64 (i : Int),.int .i64 (tchG (zr (l ++ [x])) l (l ++ [x]) g x.known i).from_,.int .i64 (tchG (zr (l ++ [x])) l (l ++ [x]) g x.known i).until_]).sym = sy:=hsy
 have hF : zp (ρ.ext lTq_D.N [.int .i64 (i : Int),.int .i64 (tchG (zr (l ++ [x])) l (l ++ [x]) g x.known i).from_,.int .i64 (tchG (zr (l ++ [x])) l (l ++ [x]) g x.known i).until_]) lTq1_F:=by
  simp only [lTq1_F,zp,gB,za,gW,zh,v1,v3,v4,v5,v6,v7,v8,v9,v10,v11,v12,v100,v101,v102,vs,hxx,zg,zl,hsh,hok,hc1,hc2,beq_self_eq_true,Option.some.injEq,Value.bool.injEq,decide_eq_false_iff_not,and_true,true_and]
  omega
 suffices both : Zp (ρ.ext lTq_D.N [.int .i64 (i : Int),.int .i64 (tchG (zr (l ++ [x])) l (l ++ [x]) g x.known i).from_,.int .i64 (tchG (zr (l ++ [x])) l (l ++ [x]) g x.known i).until_]) (lTq1_t.asks lTq1_F)∧zR lTq_D ρ (lTq_Inv l x g) (lTq_mu (hrsR (l ++ [x]))) 1 [.int .i64 (i : Int),.int .i64 (tchG (zr (l ++ [x])) l (l ++ [x]) g x.known i).from_,.int .i64 (tchG (zr (l ++ [x])) l (l ++ [x]) g x.known i).until_] lTq1_l from zD (lTq1_w _) hF both.1.ok both.2
 cases hp : (hrsR (l ++ [x]))[i]? with
 | none =>
   have hge:=List.getElem?_eq_none_iff.1 hp
   have hge' : ¬ ((i + 1 : Nat) : Int) < ((hrsR (l ++ [x])).length : Int) + 1:=by omega
   have hw : IntKind.i64.wrap ((i : Int) + 1) = ((i + 1 : Nat) : Int):=by rw [IntWalk.i64_in _ (by omega)]; rfl
   have hT : (tchG (zr (l ++ [x])) l (l ++ [x]) g x.known i) = tch l (l ++ [x]) g x.known:=by
    have : i = (hrsR (l ++ [x])).length:=by omega
    rw [this]; exact tch_ref (fun y hy => (ok_froms hc2 y hy).1) g x.known
   refine ⟨?_,?_⟩
   ·simp only [lTq1_t,lTq1_F,gA,gB,za,gW,zh,v1,v3,v4,v5,v6,v7,v8,v9,v10,v11,v12,v100,v101,v102,vs,hxx,zl,zx,zg,zu,yp,yf,ye,yd,hsh,hok,hc1,hc2,Int.toNat_natCast,hp,hw,hll,hge']
    try simp
   ·simp only [lTq1_l,gE,dZ,gB,za,g3,gW,zh,v1,v3,v4,v5,v6,v7,v8,v9,v10,v11,v12,v100,v101,v102,vs,h1,h12,hx.h0,hx.h1,hx.h2,hx.h3,hx.h4,hx.h5,hx.h6,hx.h7,hx.h8,hsy,hxx,zl,zx,zg,zu,yp,yf,ye,yd,hsh,hok,hc1,hc2,Int.toNat_natCast,hp,hw,hll,hge',reduceCtorEq,gR]
    rw [hT] at hn
    try simp only [hT]
    simp [hn]
 | some w =>
   have hil : i < (hrsR (l ++ [x])).length:=(List.getElem?_eq_some_iff.1 hp).1
   have hil1 : (i : Int) < (hrsR (l ++ [x])).length:=by omega
   have hil2 : (i : Int) < ((hrsR (l ++ [x])).length : Int) + 1:=by omega
   have hil3 : ((i + 1 : Nat) : Int) < ((hrsR (l ++ [x])).length : Int) + 1:=by omega
   have hil4 : ¬ ((i + 1 : Nat) : Int) < 0:=by omega
   have hp1 : ((hrsR (l ++ [x])) ++ [(⟨1000001⟩ : Who)])[i]? = some w:=by rw [List.getElem?_append_left hil]; exact hp
   obtain ⟨w2,hp2⟩ : ∃ w2,((hrsR (l ++ [x])) ++ [(⟨1000001⟩ : Who)])[i + 1]? = some w2:=⟨_,List.getElem?_eq_getElem (by simp; omega)⟩
   have hw : IntKind.i64.wrap ((i : Int) + 1) = ((i + 1 : Nat) : Int):=by rw [IntWalk.i64_in _ (by omega)]; rfl
   have hid : zb l g w.n x.known 0 = some (.int .i64 (idAt l g w.n x.known)):=rfl
   have hid2 : zb (l ++ [x]) g w.n x.known 0 = some (.int .i64 (idAt (l ++ [x]) g w.n x.known)):=rfl
   have hnext : (tchG (zr (l ++ [x])) l (l ++ [x]) g x.known (i + 1)) = yb l (l ++ [x]) g x.known (tchG (zr (l ++ [x])) l (l ++ [x]) g x.known i) w.n w2.n:=by
    have g1 : (zr (l ++ [x])).getD i ⟨0⟩ = w:=by rw [List.getD_eq_getElem?_getD]; show (((hrsR (l ++ [x])) ++ [(⟨1000001⟩ : Who)])[i]?).getD _ = w; rw [hp1]; rfl
    have g2 : (zr (l ++ [x])).getD (i + 1) ⟨0⟩ = w2:=by rw [List.getD_eq_getElem?_getD]; show (((hrsR (l ++ [x])) ++ [(⟨1000001⟩ : Who)])[i + 1]?).getD _ = w2; rw [hp2]; rfl
    show yb l (l ++ [x]) g x.known (tchG (zr (l ++ [x])) l (l ++ [x]) g x.known i) ((zr (l ++ [x])).getD i ⟨0⟩).n ((zr (l ++ [x])).getD (i + 1) ⟨0⟩).n = _
    rw [g1,g2]
   have goC : ¬ idAt l g w.n x.known = idAt (l ++ [x]) g w.n x.known→∃ vals',((ρ.ext lTq_D.N vals').val 100 = some (.int .i64 ((i + 1 : Nat) : Int))∧(ρ.ext lTq_D.N vals').val 101 = some (.int .i64 ((tchG (zr (l ++ [x])) l (l ++ [x]) g x.known i).from_))∧(ρ.ext lTq_D.N vals').val 102 = some (.int .i64 (IntKind.i64.wrap (w2.n - 1))))∧lTq_Inv l x g 1 vals'∧lTq_mu (hrsR (l ++ [x])) 1 vals' < lTq_mu (hrsR (l ++ [x])) 1 [.int .i64 (i : Int),.int .i64 (tchG (zr (l ++ [x])) l (l ++ [x]) g x.known i).from_,.int .i64 (tchG (zr (l ++ [x])) l (l ++ [x]) g x.known i).until_]:=by
    intro hc
    have e2 : (tchG (zr (l ++ [x])) l (l ++ [x]) g x.known (i + 1)) = ⟨(tchG (zr (l ++ [x])) l (l ++ [x]) g x.known i).from_,IntKind.i64.wrap (w2.n - 1),true⟩:=by rw [hnext]; unfold yb; rw [if_neg hc,hn]; rfl
    refine ⟨[.int .i64 ((i + 1 : Nat) : Int),.int .i64 (tchG (zr (l ++ [x])) l (l ++ [x]) g x.known (i + 1)).from_,.int .i64 (tchG (zr (l ++ [x])) l (l ++ [x]) g x.known (i + 1)).until_],⟨?_,?_,?_⟩,⟨i + 1,by omega,.inr ⟨rfl,rfl,by rw [e2]⟩⟩,by simp [lTq_mu,vI]; omega⟩
    ·exact xH hN rfl (by decide)
    ·rw [yn _ _ _ _ (by rw [hN]; omega)]; exact (congrArg (fun t : Tch => some (Value.int .i64 t.from_)) e2 :)
    ·rw [yn _ _ _ _ (by rw [hN]; omega)]; exact (congrArg (fun t : Tch => some (Value.int .i64 t.until_)) e2 :)
   have goS : idAt l g w.n x.known = idAt (l ++ [x]) g w.n x.known→∃ vals',((ρ.ext lTq_D.N vals').val 100 = some (.int .i64 ((i + 1 : Nat) : Int))∧(ρ.ext lTq_D.N vals').val 101 = some (.int .i64 ((tchG (zr (l ++ [x])) l (l ++ [x]) g x.known i).from_))∧(ρ.ext lTq_D.N vals').val 102 = some (.int .i64 ((tchG (zr (l ++ [x])) l (l ++ [x]) g x.known i).until_)))∧lTq_Inv l x g 1 vals'∧lTq_mu (hrsR (l ++ [x])) 1 vals' < lTq_mu (hrsR (l ++ [x])) 1 [.int .i64 (i : Int),.int .i64 (tchG (zr (l ++ [x])) l (l ++ [x]) g x.known i).from_,.int .i64 (tchG (zr (l ++ [x])) l (l ++ [x]) g x.known i).until_]:=by
    intro hc
    have e2 : (tchG (zr (l ++ [x])) l (l ++ [x]) g x.known (i + 1)) = (tchG (zr (l ++ [x])) l (l ++ [x]) g x.known i):=by rw [hnext]; unfold yb; rw [if_pos hc]
    refine ⟨[.int .i64 ((i + 1 : Nat) : Int),.int .i64 (tchG (zr (l ++ [x])) l (l ++ [x]) g x.known (i + 1)).from_,.int .i64 (tchG (zr (l ++ [x])) l (l ++ [x]) g x.known (i + 1)).until_],⟨?_,?_,?_⟩,⟨i + 1,by omega,.inr ⟨rfl,rfl,by rw [e2]; exact hn⟩⟩,by simp [lTq_mu,vI]; omega⟩
    ·exact xH hN rfl (by decide)
    ·rw [yn _ _ _ _ (by rw [hN]; omega)]; exact (congrArg (fun t : Tch => some (Value.int .i64 t.from_)) e2 :)
    ·rw [yn _ _ _ _ (by rw [hN]; omega)]; exact (congrArg (fun t : Tch => some (Value.int .i64 t.until_)) e2 :)
   refine ⟨?_,?_⟩
   all_goals (simp only [lTq1_t,lTq1_F,lTq1_l,gA,gB,za,gW,zh,yq,zR,zB,zI,Zn,Zo,zT,zY,dZ,g3,v1,v3,v4,v5,v6,v7,v8,v9,v10,v11,v12,v100,v101,v102,vs,h1,h12,hsy,hxx,zl,zx,zg,zu,yp,yf,ye,yd,hsh,hok,hc1,hc2,Int.toNat_natCast,hp,hp1,hp2,hll,Option.bind_some,who0,hid,hid2,hil1,hil2,hil3,hil4,hw,reduceCtorEq,Bool.false_eq_true,false_implies,true_implies,and_true,true_and])
   all_goals (clear v1 v3 v4 v5 v6 v7 v8 v9 v10 v11 v12 v100 v101 v102 vs h1 h12 hx hsy hF)
   all_goals ((repeat' apply And.intro) <;> intros <;> first
    | trivial
    | contradiction
    | (exact goS (by assumption))
    | (exact goC (by assumption))
    | (exfalso; omega)
    | (simp_all; done))
theorem lTq_step {ρ : Rho} {l : List Rat9} {x : Rat9} {kx : Nat→IntKind} {g : ByteArray} (h1 : ρ.val 1 = some (ratsR l)) (hx : Rat9At ρ 3 kx x) (h12 : ρ.val 12 = some (.string g)) (hsy : ρ.sym = sy) (hsh : okR9 l = true) (hok : okR9 (l ++ [x]) = true) (hc1 : yy l = 0) (hc2 : yy (l ++ [x]) = 0) (j : Nat) (vals : List Value) (hI : lTq_Inv l x g j vals) : yI lTq_D lTq_run E0 ρ (lTq_Inv l x g) (lTq_mu (hrsR (l ++ [x]))) j vals:=by
 obtain ⟨i,hi,⟨rfl,rfl,hn⟩ | ⟨rfl,rfl,hn⟩⟩:=hI
 ·exact lTq_step0 h1 hx h12 hsy hsh hok hc1 hc2 hi hn
 ·exact lTq_step1 h1 hx h12 hsy hsh hok hc1 hc2 hi hn
theorem lTq_H {ρ : Rho} {l : List Rat9} {x : Rat9} {kx : Nat→IntKind} {g : ByteArray} (h1 : ρ.val 1 = some (ratsR l)) (hx : Rat9At ρ 3 kx x) (h12 : ρ.val 12 = some (.string g)) (hsy : ρ.sym = sy) (hsh : okR9 l = true) (hok : okR9 (l ++ [x]) = true) (hc1 : yy l = 0) (hc2 : yy (l ++ [x]) = 0) (F : List (X×Bool)) : yV (E0.with F ρ) (oneH 12 (yR [(9,lTq_D.hook (E0.with F ρ).facts tq_vs)])):=by
 refine yN (n:=1) (fun f fn h => h) (by kernel_rfl) fun i hi => ?_
 obtain rfl : i = 0:=by omega
 rw [yA (show Zr (yh (E0.with F ρ).P 12 0) = 9 by kernel_rfl)]
 refine hook_ok (E₀:=E0) (run:=lTq_run) (ρ:=ρ) (Inv:=lTq_Inv l x g) (μ:=lTq_mu (hrsR (l ++ [x]))) zU lTq_ok (fun F r' h => ?_) (fun hp => ⟨lTq_step h1 hx h12 hsy hsh hok hc1 hc2,[.int .i64 0,.int .i64 0,.int .i64 0],?_,0,Nat.zero_le _,.inl ⟨rfl,rfl,rfl⟩⟩)
 ·exact yl zU (LTQ_ok F (h.trans hsy)) fun _ _ => yj
 ·simp only [tq_vs,gB,za,gW,zh]
  try rfl
noncomputable def rTcE_con : Con:={ f:=12,args:=[ratsArg 0 0,.agg [.int .i64 3,.int .i64 4,.int .i64 5,.str 6,.int .i64 7,.int .i64 8,.int .i64 9,.int .i64 10,.int .i64 11],.one (.str 12)],N:=1,M:=1,pre:=[(qRU27,true),(qRU9,false),(qRU11,false),(qRU20,false)],out:=.tuple [.int .i64 0,.int .i64 0,.bool false,.sint .i64 (.app 200 [qRU1])],news:=[] }
noncomputable def rTcE_call : Env→yC:=fun E => zw E (evH E (LTQ E) ((fun _ => yo) E) 12)
noncomputable def rTcE_t : GTree:=(.leaf [[]])
noncomputable def rTcE_l : List (List (X×Bool)×Option zo):=[([(qRU13,true),(qRU9,false),(qRU11,false),(qRU7,false)],some [(.app 200 [qRU0],.app 200 [qRU0])])]
theorem rTcE_w (r : Rho) : rTcE_con.fn.ways rTcE_call E0 r rTcE_con.pre rTcE_t = some rTcE_l:=by kernel_rfl
theorem rTcE_cok : rTcE_con.Ok Tryz.prog sy:=by
 intro r σ w us hsy hρ hpre hrel hins
 obtain ⟨l,h1⟩:=zS hrel rfl hρ
 obtain ⟨u0,us,rfl,g0,hi⟩:=zf hins
 obtain ⟨u1,us,rfl,g1,hi1⟩:=zf hi
 obtain ⟨x,kx,rfl,hx⟩:=rat_agg (v:=3) g1
 rw [hρ] at hx
 have a0:=hx.h0
 have a1:=hx.h1
 have a2:=hx.h2
 have a3:=hx.h3
 have a4:=hx.h4
 have a5:=hx.h5
 have a6:=hx.h6
 have a7:=hx.h7
 have a8:=hx.h8
 simp only [Nat.reduceAdd] at a0 a1 a2 a3 a4 a5 a6 a7 a8
 have hsh : okR9 l = true:=by
  have:=hpre.1
  simpa only [gB,za,gW,zh,h1,hsy,zg,Option.some.injEq,Value.bool.injEq] using this
 have hml : (l.length : Int)≤1000:=by
  have:=hpre.2.1
  simp only [gB,za,gW,zh,h1,Option.some.injEq,Value.bool.injEq,decide_eq_false_iff_not] at this
  omega
 have hgx : (x.goods.size : Int)≤100:=by
  have:=hpre.2.2.1
  simp only [gB,za,gW,zh,a3,Option.some.injEq,Value.bool.injEq,decide_eq_false_iff_not] at this
  omega
 have hN1 : IntKind.i64.wrap ((l.length : Int) + 1) = (l.length : Int) + 1:=IntWalk.i64_in _ (by omega)
 have hxx : (⟨x.id,x.known,x.from_,x.goods,x.num,x.den,x.cart,x.store,x.of_⟩ : Rat9) = x:=rfl
 have hok:=ok_snoc hsh hgx hml
 have hll : ((l ++ [x]).length : Int) = (l.length : Int) + 1:=by simp
 obtain ⟨u2,us,rfl,g2,hi2⟩:=zf hi1
 obtain ⟨g,rfl,h12⟩:=yz g2
 rw [hρ] at h12
 have hbl:=hrs_len (l ++ [x])
 have hch : yy l≠0→yy (l ++ [x]) = yy l:=chk_app
 have d0 : zb l g 0 x.known 0 = some (.int .i64 (idAt l g 0 x.known)):=rfl
 have d1 : zb (l ++ [x]) g 0 x.known 0 = some (.int .i64 (idAt (l ++ [x]) g 0 x.known)):=rfl
 refine zX (E:=E0) zU zG (sy:=sy) (fun F => LTQ_ok F hsy) (fun F => yP) (rTcE_w r) hρ hpre hrel hins ?_ ?_
 ·simp only [rTcE_con,rTcE_t,gA,gB,za,gW,zh,g3,h1,a0,a1,a2,a3,a4,a5,a6,a7,a8,h12,hsy,zl,zx,zg,zu,yp,yf,ye,yd,hN1,hxx,hok,hll,d0,d1,reduceCtorEq,Bool.false_eq_true,false_implies,true_implies,and_true,true_and]
  try simp
 ·simp only [rTcE_l,gE,dZ,gB,za,g3,gW,zh,h1,a0,a1,a2,a3,a4,a5,a6,a7,a8,h12,hsy,zl,zx,zg,zu,yp,yf,ye,yd,hN1,hxx,hok,hll,d0,d1,reduceCtorEq,gR]
  try simp
  skip
noncomputable def rTcN_con : Con:={ f:=12,args:=[ratsArg 0 0,.agg [.int .i64 3,.int .i64 4,.int .i64 5,.str 6,.int .i64 7,.int .i64 8,.int .i64 9,.int .i64 10,.int .i64 11],.one (.str 12)],N:=1,M:=1,pre:=[(qRU27,true),(qRU9,false),(qRU11,false),(qRU20,true),(.app 202 [qRU1],true),(qRU26,false)],out:=.tuple [.int .i64 0,.int .i64 0,.bool false,.int .i64 0],news:=[] }
noncomputable def rTcN_call : Env→yC:=fun E => zw E (evH E (LTQ E) ((fun E => oneH 12 (yR [(9,lTq_D.hook E.facts tq_vs)])) E) 12)
noncomputable def rTcN_t : GTree:=(.fork qRU10 (.fork qRU6 (.fork qRU8 (.leaf [[]]) .bad) .bad) (.fork qRU19 .bad (.fork qRU6 (.leaf [[]]) .bad)))
noncomputable def rTcN_l : List (List (X×Bool)×Option zo):=[((qRU8,true) :: (qRU6,true) :: (qRU10,true) :: qRUf1,some []),
 ((qRU8,false) :: (qRU6,true) :: (qRU10,true) :: qRUf1,none),
 ((qRU6,false) :: (qRU10,true) :: qRUf1,none),
 ((qRU19,true) :: (qRU10,false) :: qRUf1,none),
 ((qRU6,true) :: (qRU19,false) :: (qRU10,false) :: qRUf1,some []),
 ((qRU6,false) :: (qRU19,false) :: (qRU10,false) :: qRUf1,none)]
theorem rTcN_w (r : Rho) : rTcN_con.fn.ways rTcN_call E0 r rTcN_con.pre rTcN_t = some rTcN_l:=by kernel_rfl
theorem rTcN_cok : rTcN_con.Ok Tryz.prog sy:=by
 intro r σ w us hsy hρ hpre hrel hins
 obtain ⟨l,h1⟩:=zS hrel rfl hρ
 obtain ⟨u0,us,rfl,g0,hi⟩:=zf hins
 obtain ⟨u1,us,rfl,g1,hi1⟩:=zf hi
 obtain ⟨x,kx,rfl,hx⟩:=rat_agg (v:=3) g1
 rw [hρ] at hx
 have a0:=hx.h0
 have a1:=hx.h1
 have a2:=hx.h2
 have a3:=hx.h3
 have a4:=hx.h4
 have a5:=hx.h5
 have a6:=hx.h6
 have a7:=hx.h7
 have a8:=hx.h8
 simp only [Nat.reduceAdd] at a0 a1 a2 a3 a4 a5 a6 a7 a8
 have hsh : okR9 l = true:=by
  have:=hpre.1
  simpa only [gB,za,gW,zh,h1,hsy,zg,Option.some.injEq,Value.bool.injEq] using this
 have hml : (l.length : Int)≤1000:=by
  have:=hpre.2.1
  simp only [gB,za,gW,zh,h1,Option.some.injEq,Value.bool.injEq,decide_eq_false_iff_not] at this
  omega
 have hgx : (x.goods.size : Int)≤100:=by
  have:=hpre.2.2.1
  simp only [gB,za,gW,zh,a3,Option.some.injEq,Value.bool.injEq,decide_eq_false_iff_not] at this
  omega
 have hN1 : IntKind.i64.wrap ((l.length : Int) + 1) = (l.length : Int) + 1:=IntWalk.i64_in _ (by omega)
 have hxx : (⟨x.id,x.known,x.from_,x.goods,x.num,x.den,x.cart,x.store,x.of_⟩ : Rat9) = x:=rfl
 have hok:=ok_snoc hsh hgx hml
 have hll : ((l ++ [x]).length : Int) = (l.length : Int) + 1:=by simp
 obtain ⟨u2,us,rfl,g2,hi2⟩:=zf hi1
 obtain ⟨g,rfl,h12⟩:=yz g2
 rw [hρ] at h12
 have hbl:=hrs_len (l ++ [x])
 have hch : yy l≠0→yy (l ++ [x]) = yy l:=chk_app
 have d0 : zb l g 0 x.known 0 = some (.int .i64 (idAt l g 0 x.known)):=rfl
 have d1 : zb (l ++ [x]) g 0 x.known 0 = some (.int .i64 (idAt (l ++ [x]) g 0 x.known)):=rfl
 have hc2 : yy (l ++ [x]) = 0:=by
  have:=hpre.2.2.2.1
  simpa only [gB,za,gW,zh,h1,a0,a1,a2,a3,a4,a5,a6,a7,a8,hsy,zl,hxx,Option.some.injEq,Value.bool.injEq,beq_iff_eq] using this
 have hc1 : yy l = 0:=by
  by_cases h : yy l = 0
  ·exact h
  ·rw [hch h] at hc2; exact hc2
 have ht : (hrsR (l ++ [x])).length = 1→tch l (l ++ [x]) g x.known = if idAt l g 0 x.known = idAt (l ++ [x]) g 0 x.known then ⟨0,0,false⟩ else ⟨0,1000000,true⟩:=fun h => by
  rw [← tch_ref (fun y hy => (ok_froms hc2 y hy).1) g x.known,h]
  unfold zr
  rw [hrs_one h]
  show yb _ _ _ _ _ 0 1000001 = _
  unfold yb
  split
  ·rfl
  ·rfl
 refine zX (E:=E0) zU zG (sy:=sy) (fun F => LTQ_ok F hsy) (fun F => lTq_H h1 hx h12 hsy hsh hok hc1 hc2 F) (rTcN_w r) hρ hpre hrel hins ?_ ?_
 ·simp only [rTcN_con,rTcN_t,gA,gB,za,gW,zh,g3,h1,a0,a1,a2,a3,a4,a5,a6,a7,a8,h12,hsy,zl,zx,zg,zu,yp,yf,ye,yd,hN1,hxx,hok,hll,d0,d1,hc1,hc2,reduceCtorEq,Bool.false_eq_true,false_implies,true_implies,and_true,true_and]
  try simp
 ·simp only [rTcN_l,gE,dZ,gB,za,g3,gW,zh,h1,a0,a1,a2,a3,a4,a5,a6,a7,a8,h12,hsy,zl,zx,zg,zu,yp,yf,ye,yd,hN1,hxx,hok,hll,d0,d1,hc1,hc2,reduceCtorEq,gR]
  try simp
  exact ⟨fun he hl _ _ _ => by rw [ht (by omega),if_neg he],fun hb _ _ _ _ => absurd hb (by rw [List.length_append] at hbl; simp only [List.length_singleton] at hbl; omega)⟩
noncomputable def rTcY_con : Con:={ f:=12,args:=[ratsArg 0 0,.agg [.int .i64 3,.int .i64 4,.int .i64 5,.str 6,.int .i64 7,.int .i64 8,.int .i64 9,.int .i64 10,.int .i64 11],.one (.str 12)],N:=1,M:=1,pre:=[(qRU27,true),(qRU9,false),(qRU11,false),(qRU20,true),(.app 202 [qRU1],true),(qRU26,true)],out:=.tuple [.sint .i64 (.app 211 [.var 1,qRU1,.var 12,.var 4]),.sint .i64 (.app 212 [.var 1,qRU1,.var 12,.var 4]),.bool true,.int .i64 0],news:=[] }
noncomputable def rTcY_call : Env→yC:=fun E => zw E (evH E (LTQ E) ((fun E => oneH 12 (yR [(9,lTq_D.hook E.facts tq_vs)])) E) 12)
noncomputable def rTcY_t : GTree:=(.fork qRU10 (.fork qRU6 (.fork qRU8 .bad (.leaf [[]])) .bad) (.fork qRU19 .bad (.fork qRU6 (.leaf [[]]) .bad)))
noncomputable def rTcY_l : List (List (X×Bool)×Option zo):=[((qRU8,true) :: (qRU6,true) :: (qRU10,true) :: qRUf2,none),
 ((qRU8,false) :: (qRU6,true) :: (qRU10,true) :: qRUf2,some [(qRU22,.num 0),(qRU23,.num 1000000)]),
 ((qRU6,false) :: (qRU10,true) :: qRUf2,none),
 ((qRU19,true) :: (qRU10,false) :: qRUf2,none),
 ((qRU6,true) :: (qRU19,false) :: (qRU10,false) :: qRUf2,some [(qRU22,qRU22),(qRU23,qRU23)]),
 ((qRU6,false) :: (qRU19,false) :: (qRU10,false) :: qRUf2,none)]
theorem rTcY_w (r : Rho) : rTcY_con.fn.ways rTcY_call E0 r rTcY_con.pre rTcY_t = some rTcY_l:=by kernel_rfl
theorem rTcY_cok : rTcY_con.Ok Tryz.prog sy:=by
 intro r σ w us hsy hρ hpre hrel hins
 obtain ⟨l,h1⟩:=zS hrel rfl hρ
 obtain ⟨u0,us,rfl,g0,hi⟩:=zf hins
 obtain ⟨u1,us,rfl,g1,hi1⟩:=zf hi
 obtain ⟨x,kx,rfl,hx⟩:=rat_agg (v:=3) g1
 rw [hρ] at hx
 have a0:=hx.h0
 have a1:=hx.h1
 have a2:=hx.h2
 have a3:=hx.h3
 have a4:=hx.h4
 have a5:=hx.h5
 have a6:=hx.h6
 have a7:=hx.h7
 have a8:=hx.h8
 simp only [Nat.reduceAdd] at a0 a1 a2 a3 a4 a5 a6 a7 a8
 have hsh : okR9 l = true:=by
  have:=hpre.1
  simpa only [gB,za,gW,zh,h1,hsy,zg,Option.some.injEq,Value.bool.injEq] using this
 have hml : (l.length : Int)≤1000:=by
  have:=hpre.2.1
  simp only [gB,za,gW,zh,h1,Option.some.injEq,Value.bool.injEq,decide_eq_false_iff_not] at this
  omega
 have hgx : (x.goods.size : Int)≤100:=by
  have:=hpre.2.2.1
  simp only [gB,za,gW,zh,a3,Option.some.injEq,Value.bool.injEq,decide_eq_false_iff_not] at this
  omega
 have hN1 : IntKind.i64.wrap ((l.length : Int) + 1) = (l.length : Int) + 1:=IntWalk.i64_in _ (by omega)
 have hxx : (⟨x.id,x.known,x.from_,x.goods,x.num,x.den,x.cart,x.store,x.of_⟩ : Rat9) = x:=rfl
 have hok:=ok_snoc hsh hgx hml
 have hll : ((l ++ [x]).length : Int) = (l.length : Int) + 1:=by simp
 obtain ⟨u2,us,rfl,g2,hi2⟩:=zf hi1
 obtain ⟨g,rfl,h12⟩:=yz g2
 rw [hρ] at h12
 have hbl:=hrs_len (l ++ [x])
 have hch : yy l≠0→yy (l ++ [x]) = yy l:=chk_app
 have d0 : zb l g 0 x.known 0 = some (.int .i64 (idAt l g 0 x.known)):=rfl
 have d1 : zb (l ++ [x]) g 0 x.known 0 = some (.int .i64 (idAt (l ++ [x]) g 0 x.known)):=rfl
 have hc2 : yy (l ++ [x]) = 0:=by
  have:=hpre.2.2.2.1
  simpa only [gB,za,gW,zh,h1,a0,a1,a2,a3,a4,a5,a6,a7,a8,hsy,zl,hxx,Option.some.injEq,Value.bool.injEq,beq_iff_eq] using this
 have hc1 : yy l = 0:=by
  by_cases h : yy l = 0
  ·exact h
  ·rw [hch h] at hc2; exact hc2
 have ht : (hrsR (l ++ [x])).length = 1→tch l (l ++ [x]) g x.known = if idAt l g 0 x.known = idAt (l ++ [x]) g 0 x.known then ⟨0,0,false⟩ else ⟨0,1000000,true⟩:=fun h => by
  rw [← tch_ref (fun y hy => (ok_froms hc2 y hy).1) g x.known,h]
  unfold zr
  rw [hrs_one h]
  show yb _ _ _ _ _ 0 1000001 = _
  unfold yb
  split
  ·rfl
  ·rfl
 refine zX (E:=E0) zU zG (sy:=sy) (fun F => LTQ_ok F hsy) (fun F => lTq_H h1 hx h12 hsy hsh hok hc1 hc2 F) (rTcY_w r) hρ hpre hrel hins ?_ ?_
 ·simp only [rTcY_con,rTcY_t,gA,gB,za,gW,zh,g3,h1,a0,a1,a2,a3,a4,a5,a6,a7,a8,h12,hsy,zl,zx,zg,zu,yp,yf,ye,yd,hN1,hxx,hok,hll,d0,d1,hc1,hc2,reduceCtorEq,Bool.false_eq_true,false_implies,true_implies,and_true,true_and]
  try simp
 ·simp only [rTcY_l,gE,dZ,gB,za,g3,gW,zh,h1,a0,a1,a2,a3,a4,a5,a6,a7,a8,h12,hsy,zl,zx,zg,zu,yp,yf,ye,yd,hN1,hxx,hok,hll,d0,d1,hc1,hc2,reduceCtorEq,gR]
  try simp
  exact ⟨fun he hl _ _ _ => by rw [ht (by omega),if_pos he],fun he hl _ _ _ _ => by rw [ht (by omega),if_neg he]; exact ⟨rfl,rfl⟩,fun hb _ _ _ _ => absurd hb (by rw [List.length_append] at hbl; simp only [List.length_singleton] at hbl; omega)⟩
end Go.Proofs.YtfddkbbjnghefaaGreatDoor.Zs
