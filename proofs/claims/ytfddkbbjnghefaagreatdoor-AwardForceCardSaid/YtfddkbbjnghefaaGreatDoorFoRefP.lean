/-
  Contracts of the reference: the hours of a list.
-/
import Derived.Test.YtfddkbbjnghefaaGreatDoorFoRefC
import Derived.Test.YtfddkbbjnghefaaGreatDoorFoAcc
import Derived.KernelRfl
set_option linter.unusedSimpArgs false
set_option maxHeartbeats 4000000
set_option linter.unusedVariables false
namespace Go.Proofs.YtfddkbbjnghefaaGreatDoor.Zs
open Go
noncomputable def RHL : Env→yi:=libs []
theorem RHL_ok (F : List (X×Bool)) {r : Rho} (h : r.sym = sy) : zt (E0.with F r) (RHL (E0.with F r)):=yU fun c hc => by
 cases hc
def rhi_vs : List X:=[.num 0]
def rhr_vs : List X:=[.num 0,.nil]
abbrev qRP16 : X:=.cell 2 (.var 1) (.var 100)
abbrev qRP0 : X:=.app 188 [.var 101,qRP16]
abbrev qRP1 : X:=.op1 .len (.var 101)
abbrev qRP2 : X:=.op2 .lt (.var 100) (.op1 .len (.var 1))
abbrev qRP3 : X:=.op2 .lcat (.snoc (.lsub (.var 101) (.num 0) qRP0) [.op1 (.kind .i64) qRP16]) (.lsub (.var 101) qRP0 qRP1)
abbrev qRP4 : X:=.op2 .lcat (.snoc .nil [.op1 (.kind .i64) qRP16]) (.lsub (.var 101) qRP0 qRP1)
abbrev qRP5 : X:=.op2 .lt (.var 100) (.num 0)
abbrev qRP6 : X:=.op2 .lt (.num 1000000000) (.op2 .add (.op1 .len (.lsub (.var 101) (.num 0) qRP0)) (.num 1))
abbrev qRP7 : X:=.op2 .lt (.num 2000) qRP1
abbrev qRP8 : X:=.op2 .eq (.cell 0 (.var 101) qRP0) qRP16
abbrev qRP9 : X:=.app 191 [.var 101]
abbrev qRP10 : X:=.app 202 [.var 1]
abbrev qRP11 : X:=.op2 .lt qRP0 (.num 0)
abbrev qRP12 : X:=.op2 .lt (.num 0) qRP0
abbrev qRP13 : X:=.op1 (.wrap .i64) (.op2 .add (.var 100) (.num 1))
abbrev qRP14 : X:=.op2 .lt qRP0 qRP1
abbrev qRP15 : X:=.op2 .lt (.num 1000000000) qRP0
abbrev qRP17 : X:=.op2 .lt qRP1 qRP0
abbrev qRP18 : X:=.op2 .lt qRP1 qRP1
abbrev qRP19 : X:=.op2 .lt (.num 1000000000) (.op1 .len qRP3)
abbrev qRP20 : X:=.op2 .lt (.num 1000000000) (.op1 .len qRP4)
abbrev qRP21 : X:=.op1 .len (.app 216 [.var 1])
abbrev qRP22 : X:=.op1 .len (.app 216 [.var 1])
abbrev qRP23 : X:=.op2 .lt (.cell 0 (.var 101) (.var 200)) qRP16
abbrev qRP24 : X:=.op2 .lt (.var 200) (.num 0)
abbrev qRP25 : X:=.op2 .lt (.var 200) qRP1
abbrev qRP26 : X:=.op2 .lt (.num 0) qRP16
abbrev qRP27 : X:=.op2 .eq qRP21 (.num 1)
abbrev qRPf4 : List (X×Bool):=[(qRP5,false),(qRP10,true),(qRP9,true),(qRP7,false)]
abbrev qRPf0 : List (X×Bool):=(qRP2,true) :: qRPf4
abbrev qRPf1 : List (X×Bool):=(qRP17,false) :: (qRP8,false) :: (qRP11,false) :: (qRP14,true) :: qRPf0
abbrev qRPf2 : List (X×Bool):=(qRP17,false) :: (qRP11,false) :: (qRP14,false) :: qRPf0
abbrev qRPf3 : List (X×Bool):=[(qRP24,false),(qRP9,true),(qRP7,false),(qRP2,true),(qRP5,false)]
abbrev qRPf5 : List (X×Bool):=(qRP6,false) :: (qRP15,false) :: (qRP12,true) :: qRPf1
abbrev qRPf6 : List (X×Bool):=(qRP6,false) :: (qRP15,false) :: (qRP12,true) :: qRPf2
abbrev qRPf7 : List (X×Bool):=[(qRP5,false),(.app 202 [.var 1],true),(.app 191 [.var 101],true),(qRP7,false)]
noncomputable def lHi_D : LoopD:={ N:=200,M:=201,size:=Zk 40,reads:=[(0,.rows 9 ratSch (.var 0) (.var 1) false 26),(110,.rows 1 [.int .i64] (.num 0) (.var 101) true 3)],pats:=[{ slots:=[(0,.slx 0 9 (.var 0) (.num 0) (.op1 .len (.var 1)) (.var 2)),(3,.slo 110 1 qRP1),(4,.sint .i64 (.var 100)),(5,.sint .i64 (.var 200))],heap:=[] }],exits:=[(.exit 2,{ slots:=[(0,.slx 0 9 (.var 0) (.num 0) (.op1 .len (.var 1)) (.var 2)),(3,.slo 110 1 qRP1),(4,.sint .i64 (.var 100)),(5,.sint .i64 (.app 188 [.var 101,qRP16]))],heap:=[] })],own:=[],pre:=[(.app 191 [.var 101],true),(qRP7,false),(qRP2,true),(qRP5,false)],dfs:=[] }
noncomputable def lHi_run : Env→AF→ASt→Option (List Out):=Zh RHL 6 (fun _ => Zl) (yh Tryz.prog 40 1)
def lHi0_F : List (X×Bool):=[(qRP24,false),(.app 191 [.var 101],true),(qRP7,false),(qRP2,true),(qRP5,false)]
noncomputable def lHi0_t : FTree:=(.fork qRP25 (.fork qRP23 (.leaf [.again 0 []]) (.leaf [.leave 0 []])) (.leaf [.leave 0 []]))
noncomputable def lHi0_l : List (List (X×Bool)×Option (List (Tgt×zo))):=[((qRP23,true) :: (qRP25,true) :: qRPf3,some [(.again 0 [],[(.var 200,.op1 (.wrap .i64) (.op2 .add (.var 200) (.num 1)))])]),
 ((qRP23,false) :: (qRP25,true) :: qRPf3,some [(.leave 0 [],[(qRP0,.var 200)])]),
 ((qRP25,false) :: qRPf3,some [(.leave 0 [],[(qRP0,.var 200)])])]
theorem lHi0_w (r : Rho) : lHi_D.ways lHi_run E0 r 0 lHi0_F lHi0_t = some lHi0_l:=by kernel_rfl
theorem lHi_ok : lHi_D.ok = true:=by kernel_rfl
def lHi_Inv (s : List Who) (p : Int) (j : Nat) (vals : List Value) : Prop:=j = 0∧∃ k : Nat,k≤insP s p∧vals = [.int .i64 (k : Int)]
def lHi_mu (s : List Who) (_ : Nat) (vals : List Value) : Nat:=s.length - (vI (vals.getD 0 default)).toNat
theorem lHi_step {ρ : Rho} {l : List Rat9} {s : List Who} {i : Nat} {ki : IntKind} {x : Rat9} (h1 : ρ.val 1 = some (ratsR l)) (h100 : ρ.val 100 = some (.int ki (i : Int))) (h101 : ρ.val 101 = some (zn s)) (hsy : ρ.sym = sy) (hp : l[i]? = some x) (hsm : (s.length : Int)≤2000) (j : Nat) (vals : List Value) (hI : lHi_Inv s x.from_ j vals) : yI lHi_D lHi_run E0 ρ (lHi_Inv s x.from_) (lHi_mu s) j vals:=by
 obtain ⟨rfl,k,hk,rfl⟩:=hI
 have hN : lHi_D.N = 200:=rfl
 have hle:=insP_le x.from_ s
 have hil : i < l.length:=(List.getElem?_eq_some_iff.1 hp).1
 have hil1 : (i : Int) < l.length:=by omega
 have xl {jq vq}:=@xL ρ lHi_D.N 200 [.int .i64 (k : Int)] jq vq hN
 have xh {jq vq}:=@xH ρ lHi_D.N 200 [.int .i64 (k : Int)] jq vq hN
 have v1:=xl (jq:=1) h1 (by decide)
 have v100:=xl (jq:=100) h100 (by decide)
 have v101:=xl (jq:=101) h101 (by decide)
 have v200:=xh (jq:=200) (vq:=.int .i64 (k : Int)) rfl (by decide)
 have vs : (ρ.ext lHi_D.N [.int .i64 (k : Int)]).sym = sy:=hsy
 have hF : zp (ρ.ext lHi_D.N [.int .i64 (k : Int)]) lHi0_F:=by
  simp only [lHi0_F,zp,gB,za,zh,gHds,zd,gW,v1,v100,v101,v200,vs,sym191,Option.some.injEq,Value.bool.injEq,decide_eq_true_eq,decide_eq_false_iff_not,and_true,true_and]
  omega
 suffices both : Zp (ρ.ext lHi_D.N [.int .i64 (k : Int)]) (lHi0_t.asks lHi0_F)∧zR lHi_D ρ (lHi_Inv s x.from_) (lHi_mu s) 0 [.int .i64 (k : Int)] lHi0_l from zD (lHi0_w _) hF both.1.ok both.2
 cases hw : s[k]? with
 | none =>
   have hge:=List.getElem?_eq_none_iff.1 hw
   have hge' : ¬ (k : Int) < s.length:=by omega
   have hat : insP s x.from_ = k:=by omega
   refine ⟨?_,?_⟩
   ·simp only [lHi0_t,lHi0_F,gA,gB,za,zh,gHds,zd,gW,v1,v100,v101,v200,vs,zg,sym188,sym191,yp,Int.toNat_natCast,hp,hw,hge',Option.bind_some,gN]
    try simp
   ·simp only [lHi0_l,gE,dZ,gB,za,g3,zh,gHds,zd,gW,v1,v100,v101,v200,vs,h1,h100,h101,hsy,zg,sym188,sym191,yp,Int.toNat_natCast,hp,hw,hge',Option.bind_some,gN,reduceCtorEq,gR]
    try simp [hat]
 | some w =>
   have hkl : k < s.length:=(List.getElem?_eq_some_iff.1 hw).1
   have hkl1 : (k : Int) < s.length:=by omega
   have hwk : IntKind.i64.wrap ((k : Int) + 1) = ((k + 1 : Nat) : Int):=by rw [IntWalk.i64_in _ (by omega)]; rfl
   have go : w.n < x.from_→∃ vals',(ρ.ext lHi_D.N vals').val 200 = some (.int .i64 ((k + 1 : Nat) : Int))∧lHi_Inv s x.from_ 0 vals'∧lHi_mu s 0 vals' < lHi_mu s 0 [.int .i64 (k : Int)]:=by
    intro hl
    refine ⟨[.int .i64 ((k + 1 : Nat) : Int)],?_,⟨rfl,k + 1,insP_next _ s k w hk hw hl,rfl⟩,by simp [lHi_mu,vI]; omega⟩
    exact xH hN rfl (by decide)
   have stop : ¬ w.n < x.from_→(insP s x.from_ : Int) = (k : Int):=fun h => by rw [insP_stop hk fun v hv => by rw [hw] at hv; cases hv; exact h]
   refine ⟨?_,?_⟩
   all_goals (simp only [lHi0_t,lHi0_F,lHi0_l,gA,gB,za,zh,gHds,zd,gW,yq,zR,zB,zI,Zn,Zo,zT,zY,dZ,g3,v1,v100,v101,v200,vs,h1,h100,h101,hsy,zg,sym188,sym191,yp,Int.toNat_natCast,hp,hw,Option.bind_some,gN,who0,hkl1,hil1,hwk,reduceCtorEq,Bool.false_eq_true,false_implies,true_implies,and_true,true_and])
   all_goals (clear v1 v100 v101 v200 vs h1 h100 h101 hsy hF)
   all_goals ((repeat' apply And.intro) <;> intros <;> first
    | trivial
    | contradiction
    | (exact go (by assumption))
    | (exact stop (by assumption))
    | (exfalso; omega)
    | (simp_all; done))
theorem mem_onlyV {α : Type} {P : α→Prop} {a : α} (h : P a) : ∀ c ∈ [a],P c:=by
 intro c hc
 rw [List.mem_singleton] at hc
 subst hc
 exact h
theorem idx_ratsH {r : Rho} {l : List Rat9} (h1 : r.val 1 = some (ratsR l)) (hF : X.bool r (.op2 .lt (.var 100) (.op1 .len (.var 1))) = some true) (h0 : X.bool r (.op2 .lt (.var 100) (.num 0)) = some false) :
  ∃ (ki : IntKind) (n : Nat),r.val 100 = some (.int ki (n : Int))∧n < l.length:=by
 simp only [X.bool,X.den,h1,rats_len] at hF h0
 cases hv : r.val 100 with
 | none => rw [hv] at hF; cases hF
 | some v =>
   rw [hv] at hF h0
   cases v <;> simp only [den2,asB,Option.some.injEq,Bool.decide_eq_true,decide_eq_true_eq,decide_eq_false_iff_not,reduceCtorEq] at hF h0
   rename_i k n
   exact ⟨k,n.toNat,by rw [show ((n.toNat : Nat) : Int) = n by omega],by omega⟩
def iOfH (r : Rho) : Nat:=match r.val 100 with
 | some (.int _ n) => n.toNat
 | _ => 0
theorem ihr_body : loopsOf (yh Tryz.prog 40 0) = [yh Tryz.prog 40 1]:=by kernel_rfl
theorem ihr_key : Zr (yh Tryz.prog 40 1) = 6:=by kernel_rfl
def sOfH (r : Rho) : List Who:=match r.val 101 with
 | some v => whosV v
 | none => []
def pOfH (r : Rho) (l : List Rat9) : Int:=((l[iOfH r]?).map Rat9.from_).getD 0
theorem app_trueH {v : Value} {k : Nat} (h : (match sy k [v] with | some (.bool b) => some b | _ => none) = some true) : sy k [v] = some (.bool true):=by
 split at h
 ·rename_i b e
  rw [e]; rw [Option.some.inj h]
 ·cases h
theorem ihr_H {r : Rho} {l : List Rat9} (h1 : r.val 1 = some (ratsR l)) (hsy : r.sym = sy) (F : List (X×Bool)) :
  ∀ c' ∈ loopsOf (yh Tryz.prog 40 0),CodeOk (E0.with F r) none (.loop c') (yR [(6,lHi_D.hook (E0.with F r).facts rhi_vs)] c'):=by
 rw [ihr_body]
 refine mem_onlyV (P:=fun c' => CodeOk (E0.with F r) none (.loop c') (yR [(6,lHi_D.hook (E0.with F r).facts rhi_vs)] c')) ?_
 show CodeOk (E0.with F r) none (.loop (yh Tryz.prog 40 1)) (yR [(6,lHi_D.hook (E0.with F r).facts rhi_vs)] (yh Tryz.prog 40 1))
 rw [yA ihr_key]
 refine hook_ok (E₀:=E0) (run:=lHi_run) (ρ:=r) (Inv:=lHi_Inv (sOfH r) (pOfH r l)) (μ:=lHi_mu (sOfH r)) zU lHi_ok (fun F r' h => ?_) (fun hq => ?_)
 ·exact yl zU (RHL_ok F (h.trans hsy)) fun _ _ => yj
 ·have q1:=hq.1
  have q2:=hq.2.1
  obtain ⟨ki,i,h100,hlt⟩:=idx_ratsH h1 hq.2.2.1 hq.2.2.2.1
  obtain ⟨s,h101⟩ : ∃ s : List Who,r.val 101 = some (zn s):=by
   simp only [X.bool,X.den,denL,hsy] at q1
   cases hv : r.val 101 with
   | none => rw [hv] at q1; cases q1
   | some v =>
     rw [hv] at q1
     obtain ⟨m,rfl⟩:=ints_at (app_trueH (k:=191) q1)
     exact ⟨m,rfl⟩
  have hsm : (s.length : Int)≤2000:=by
   simp only [gB,za,zh,gHds,zd,gW,h101,Option.some.injEq,Value.bool.injEq,decide_eq_false_iff_not] at q2
   omega
  have hi : iOfH r = i:=by simp [iOfH,h100]
  have hp : l[i]? = some l[i]:=List.getElem?_eq_getElem hlt
  have e1 : sOfH r = s:=by unfold sOfH; rw [h101]; exact whosV_R s
  have e2 : pOfH r l = (l[i]).from_:=by unfold pOfH; rw [hi,hp]; rfl
  rw [e1,e2]
  refine ⟨lHi_step h1 h100 h101 hsy hp hsm,[.int .i64 0],?_,rfl,0,Nat.zero_le _,rfl⟩
  simp only [rhi_vs,gB,za,zh,gHds,zd,gW]
noncomputable def Zu : LoopD:={ N:=100,M:=111,size:=Zk 40,reads:=[(0,.rows 9 ratSch (.var 0) (.var 1) false 26)],pats:=[{ slots:=[(0,.slx 0 9 (.var 0) (.num 0) (.op1 .len (.var 1)) (.var 2)),(3,.slice 1 0 1 1 true),(4,.sint .i64 (.var 100))],heap:=[(1,.cells [.int .i64 0] 3)] },{ slots:=[(0,.slx 0 9 (.var 0) (.num 0) (.op1 .len (.var 1)) (.var 2)),(3,.slo 110 1 qRP1),(4,.sint .i64 (.var 100))],heap:=[(110,.rows 1 [.int .i64] (.num 0) (.var 101) true 3)] }],exits:=[(.exit 0,{ slots:=[(3,.slice 1 0 1 1 true)],heap:=[(1,.cells [.int .i64 0] 3)],guard:=.op2 .eq qRP22 (.num 1) }),(.exit 0,{ slots:=[(3,.slo 110 1 qRP22)],heap:=[(110,.rows 1 [.int .i64] (.num 0) (.app 216 [.var 1]) true 3)],guard:=.op1 .not (.op2 .eq qRP22 (.num 1)) })],own:=[1],pre:=[(.app 202 [.var 1],true)],dfs:=[] }
noncomputable def lHr_run : Env→AF→ASt→Option (List Out):=Zh RHL 9 (fun E => yR [(6,lHi_D.hook E.facts rhi_vs)]) (yh Tryz.prog 40 0)
def lHr0_F : List (X×Bool):=qRPf7
def lHr1_F : List (X×Bool):=qRPf7
noncomputable def lHr0_t : FTree:=(.fork qRP2 (.fork qRP26 (.leaf [.again 1 [(110,113)]]) (.fork (.op2 .eq (.num 0) qRP16) (.leaf [.again 0 [(1,1)]]) (.leaf [.again 1 [(110,113)]]))) (.leaf [.leave 0 [(1,1)]]))
noncomputable def lHr0_l : List (List (X×Bool)×Option (List (Tgt×zo))):=[((qRP26,true) :: qRPf0,some [(.again 1 [(110,113)],[(qRP1,.num 2),(.var 100,qRP13),(.var 101,.snoc (.snoc .nil [.op1 (.kind .i64) (.num 0)]) [.op1 (.kind .i64) qRP16])])]),
 ((.op2 .eq (.num 0) qRP16,true) :: (qRP26,false) :: qRPf0,some [(.again 0 [(1,1)],[(.var 100,qRP13)])]),
 ((.op2 .eq (.num 0) qRP16,false) :: (qRP26,false) :: qRPf0,some [(.again 1 [(110,113)],[(qRP1,.num 2),(.var 100,qRP13),(.var 101,.snoc (.snoc .nil [.op1 (.kind .i64) qRP16]) [.op1 (.kind .i64) (.num 0)])])]),
 ((qRP2,false) :: qRPf4,some [(.leave 0 [(1,1)],[(qRP27,.boo true)])])]
theorem lHr0_w (r : Rho) : Zu.ways lHr_run E0 r 0 lHr0_F lHr0_t = some lHr0_l:=by kernel_rfl
noncomputable def lHr1_t : FTree:=(.fork qRP2 (.fork qRP14 (.fork qRP11 .bad (.fork qRP8 (.leaf [.again 1 [(110,110)]]) (.fork qRP17 .bad (.fork qRP12 (.fork qRP15 .bad (.fork qRP6 .bad (.fork qRP18 .bad (.fork qRP19 .bad (.leaf [.again 1 [(110,204)]]))))) (.fork qRP18 .bad (.fork qRP20 .bad (.leaf [.again 1 [(110,203)]]))))))) (.fork qRP11 .bad (.fork qRP17 .bad (.fork qRP12 (.fork qRP15 .bad (.fork qRP6 .bad (.fork qRP18 .bad (.fork qRP19 .bad (.leaf [.again 1 [(110,204)]]))))) (.fork qRP18 .bad (.fork qRP20 .bad (.leaf [.again 1 [(110,203)]]))))))) (.leaf [.leave 1 [(110,110)]]))
noncomputable def lHr1_l : List (List (X×Bool)×Option (List (Tgt×zo))):=[((qRP11,true) :: (qRP14,true) :: qRPf0,none),
 ((qRP8,true) :: (qRP11,false) :: (qRP14,true) :: qRPf0,some [(.again 1 [(110,110)],[(qRP1,qRP1),(.var 100,qRP13),(.var 101,.var 101)])]),
 ((qRP17,true) :: (qRP8,false) :: (qRP11,false) :: (qRP14,true) :: qRPf0,none),
 ((qRP15,true) :: (qRP12,true) :: qRPf1,none),
 ((qRP6,true) :: (qRP15,false) :: (qRP12,true) :: qRPf1,none),
 ((qRP18,true) :: qRPf5,none),
 ((qRP19,true) :: (qRP18,false) :: qRPf5,none),
 ((qRP19,false) :: (qRP18,false) :: qRPf5,some [(.again 1 [(110,204)],[(qRP1,.op1 .len qRP3),(.var 100,qRP13),(.var 101,qRP3)])]),
 ((qRP18,true) :: (qRP12,false) :: qRPf1,none),
 ((qRP20,true) :: (qRP18,false) :: (qRP12,false) :: qRPf1,none),
 ((qRP20,false) :: (qRP18,false) :: (qRP12,false) :: qRPf1,some [(.again 1 [(110,203)],[(qRP1,.op1 .len qRP4),(.var 100,qRP13),(.var 101,qRP4)])]),
 ((qRP11,true) :: (qRP14,false) :: qRPf0,none),
 ((qRP17,true) :: (qRP11,false) :: (qRP14,false) :: qRPf0,none),
 ((qRP15,true) :: (qRP12,true) :: qRPf2,none),
 ((qRP6,true) :: (qRP15,false) :: (qRP12,true) :: qRPf2,none),
 ((qRP18,true) :: qRPf6,none),
 ((qRP19,true) :: (qRP18,false) :: qRPf6,none),
 ((qRP19,false) :: (qRP18,false) :: qRPf6,some [(.again 1 [(110,204)],[(qRP1,.op1 .len qRP3),(.var 100,qRP13),(.var 101,qRP3)])]),
 ((qRP18,true) :: (qRP12,false) :: qRPf2,none),
 ((qRP20,true) :: (qRP18,false) :: (qRP12,false) :: qRPf2,none),
 ((qRP20,false) :: (qRP18,false) :: (qRP12,false) :: qRPf2,some [(.again 1 [(110,203)],[(qRP1,.op1 .len qRP4),(.var 100,qRP13),(.var 101,qRP4)])]),
 ((qRP2,false) :: qRPf4,some [(.leave 1 [(110,110)],[(qRP21,qRP1),(.app 216 [.var 1],.var 101),(.op1 .not qRP27,.boo true)])])]
theorem lHr1_w (r : Rho) : Zu.ways lHr_run E0 r 1 lHr1_F lHr1_t = some lHr1_l:=by kernel_rfl
theorem lHr_ok : Zu.ok = true:=by kernel_rfl
theorem ins0_up {p : Int} (h : 0 < p) : insP [⟨0⟩] p = 1∧insW [⟨0⟩] p = [⟨0⟩,⟨p⟩]:=by
 have e : insP [⟨0⟩] p = 1:=by rw [insP_cons,if_pos h]; rfl
 exact ⟨e,by unfold insW; rw [e]; rfl⟩
theorem ins0_dn {p : Int} (h : p < 0) : insP [⟨0⟩] p = 0∧insW [⟨0⟩] p = [⟨p⟩,⟨0⟩]:=by
 have e : insP [⟨0⟩] p = 0:=by rw [insP_cons,if_neg (show ¬ (0 : Int) < p by omega)]
 exact ⟨e,by unfold insW; rw [e]; rfl⟩
def lHr_Inv (l : List Rat9) (j : Nat) (vals : List Value) : Prop:=
 ∃ i : Nat,i≤l.length∧((j = 0∧vals = [.int .i64 (i : Int),zn []]∧hrsI l i = [⟨0⟩])∨(j = 1∧vals = [.int .i64 (i : Int),zn (hrsI l i)]∧2≤(hrsI l i).length))
def lHr_mu (l : List Rat9) (_ : Nat) (vals : List Value) : Nat:=l.length - (vI (vals.getD 0 default)).toNat
theorem lHr_step0 {ρ : Rho} {l : List Rat9} (h1 : ρ.val 1 = some (ratsR l)) (hsy : ρ.sym = sy) (hsh : okR9 l = true) {i : Nat} (hi : i≤l.length) (hn : hrsI l i = [⟨0⟩]) : yI Zu lHr_run E0 ρ (lHr_Inv l) (lHr_mu l) 0 [.int .i64 (i : Int),zn []]:=by
 have hN : Zu.N = 100:=rfl
 have hmax:=ok_len hsh
 have xl {jq vq}:=@xL ρ Zu.N 100 [.int .i64 (i : Int),zn []] jq vq hN
 have xh {jq vq}:=@xH ρ Zu.N 100 [.int .i64 (i : Int),zn []] jq vq hN
 have v1:=xl (jq:=1) h1 (by decide)
 have v100:=xh (jq:=100) (vq:=.int .i64 (i : Int)) rfl (by decide)
 have v101:=xh (jq:=101) (vq:=zn []) rfl (by decide)
 have vs : (ρ.ext Zu.N [.int .i64 (i : Int),zn []]).sym = sy:=hsy
 have hlen:=hrsI_len l i
 have hF : zp (ρ.ext Zu.N [.int .i64 (i : Int),zn []]) lHr0_F:=by
  simp only [lHr0_F,zp,gB,za,zh,gHds,zd,gW,v1,v100,v101,vs,zg,sym188,sym191,yp,hsh,Option.some.injEq,Value.bool.injEq,decide_eq_false_iff_not,and_true,beq_self_eq_true,true_and,List.length_nil]
  omega
 suffices both : Zp (ρ.ext Zu.N [.int .i64 (i : Int),zn []]) (lHr0_t.asks lHr0_F)∧zR Zu ρ (lHr_Inv l) (lHr_mu l) 0 [.int .i64 (i : Int),zn []] lHr0_l from zD (lHr0_w _) hF both.1.ok both.2
 cases hp : l[i]? with
 | none =>
   have hge:=List.getElem?_eq_none_iff.1 hp
   have hge' : ¬ (i : Int) < l.length:=by omega
   have hl : hrsI l i = hrsR l:=hrsI_all hge
   refine ⟨?_,?_⟩
   ·simp only [lHr0_t,lHr0_F,gA,gB,za,zh,gHds,zd,gW,v1,v100,v101,vs,zg,sym188,sym191,yp,hsh,Int.toNat_natCast,hp,hge']
    try simp
   ·simp only [lHr0_l,gE,dZ,gB,za,g3,zh,gHds,zd,gW,v1,v100,v101,vs,h1,hsy,zg,sym188,sym191,yp,hsh,Int.toNat_natCast,hp,hge',reduceCtorEq,gR]
    rw [hl] at hn
    have hcn : ((hrsR l).length : Int) = 1:=by rw [hn]; rfl
    simp [hl,hcn]
    try omega
 | some x =>
   have hil : i < l.length:=(List.getElem?_eq_some_iff.1 hp).1
   have hil1 : (i : Int) < l.length:=by omega
   have hw : IntKind.i64.wrap ((i : Int) + 1) = ((i + 1 : Nat) : Int):=by rw [IntWalk.i64_in _ (by omega)]; rfl
   have h10 : ¬ (1010 : Int) < l.length:=by omega
   have hnext : hrsI l (i + 1) = hrsStep (hrsI l i) x:=hrsI_next hp
   have goA : ¬ ([⟨0⟩] : List Who)[insP [⟨0⟩] x.from_]? = some ⟨x.from_⟩→∀ n rw,n = (2)→rw = (insW [⟨0⟩] x.from_)→∃ vals',((match (ρ.ext Zu.N vals').val 101 with | some v => den1 .len v | none => none) = some (.int .i64 n)∧(ρ.ext Zu.N vals').val 100 = some (.int .i64 ((i + 1 : Nat) : Int))∧(ρ.ext Zu.N vals').val 101 = some (zn rw))∧lHr_Inv l 1 vals'∧lHr_mu l 1 vals' < lHr_mu l 0 [.int .i64 (i : Int),zn []]:=by
    rintro hc n rw rfl rfl
    have hr : hrsI l (i + 1) = (insW [⟨0⟩] x.from_):=by rw [hnext,hrsStep_is,hn,if_neg hc]
    have e101 : (ρ.ext Zu.N [.int .i64 ((i + 1 : Nat) : Int),zn (hrsI l (i + 1))]).val 101 = some (zn (hrsI l (i + 1))):=by exact xH hN rfl (by decide)
    refine ⟨[.int .i64 ((i + 1 : Nat) : Int),zn (hrsI l (i + 1))],⟨?_,?_,?_⟩,⟨i + 1,by omega,.inr ⟨rfl,rfl,by rw [hr]; first | omega | (rw [insW_len]; omega) | (rw [insW_len]; simp)⟩⟩,by simp [lHr_mu,vI]; omega⟩
    ·rw [e101,hr]
     refine (whos_len _).trans ?_
     simp [insW_len]
    ·exact xH hN rfl (by decide)
    ·rw [e101,hr]
   have goK : x.from_ = 0→∃ vals',(ρ.ext Zu.N vals').val 100 = some (.int .i64 ((i + 1 : Nat) : Int))∧lHr_Inv l 0 vals'∧lHr_mu l 0 vals' < lHr_mu l 0 [.int .i64 (i : Int),zn []]:=by
    intro hc
    refine ⟨[.int .i64 ((i + 1 : Nat) : Int),zn []],?_,⟨i + 1,by omega,.inl ⟨rfl,rfl,by rw [hnext,hrsStep_is,hn,hc]; rfl⟩⟩,by simp [lHr_mu,vI]; omega⟩
    exact xH hN rfl (by decide)
   refine ⟨?_,?_⟩
   all_goals (simp only [lHr0_t,lHr0_F,lHr0_l,gA,gB,za,zh,gHds,zd,gW,yq,zR,zB,zI,Zn,Zo,zT,zY,dZ,g3,v1,v100,v101,vs,h1,hsy,zg,sym188,sym191,yp,hsh,Int.toNat_natCast,Int.toNat_zero,List.drop_zero,hp,h10,Option.bind_some,gN,who0,hil1,hw,reduceCtorEq,Bool.false_eq_true,false_implies,true_implies,and_true,true_and])
   all_goals (clear v1 v100 v101 vs h1 hsy hF)
   all_goals ((repeat' apply And.intro) <;> intros <;> first
    | trivial
    | contradiction
    | (exact goK (by omega))
    | (refine goA ?_ _ _ rfl ?_ <;> (rename_i q; first | (rw [(ins0_up (by assumption)).1]; simp; done) | (rw [(ins0_up (by assumption)).2]; done) | (rw [(ins0_dn (by omega)).1]; simp; omega) | (rw [(ins0_dn (by omega)).2]; done)); done)
    | (exfalso; omega)
    | (simp_all; done))
theorem lHr_step1 {ρ : Rho} {l : List Rat9} (h1 : ρ.val 1 = some (ratsR l)) (hsy : ρ.sym = sy) (hsh : okR9 l = true) {i : Nat} (hi : i≤l.length) (hn : 2≤(hrsI l i).length) : yI Zu lHr_run E0 ρ (lHr_Inv l) (lHr_mu l) 1 [.int .i64 (i : Int),zn (hrsI l i)]:=by
 have hN : Zu.N = 100:=rfl
 have hmax:=ok_len hsh
 have xl {jq vq}:=@xL ρ Zu.N 100 [.int .i64 (i : Int),zn (hrsI l i)] jq vq hN
 have xh {jq vq}:=@xH ρ Zu.N 100 [.int .i64 (i : Int),zn (hrsI l i)] jq vq hN
 have v1:=xl (jq:=1) h1 (by decide)
 have v100:=xh (jq:=100) (vq:=.int .i64 (i : Int)) rfl (by decide)
 have v101:=xh (jq:=101) (vq:=zn (hrsI l i)) rfl (by decide)
 have vs : (ρ.ext Zu.N [.int .i64 (i : Int),zn (hrsI l i)]).sym = sy:=hsy
 have hlen:=hrsI_len l i
 have hF : zp (ρ.ext Zu.N [.int .i64 (i : Int),zn (hrsI l i)]) lHr1_F:=by
  simp only [lHr1_F,zp,gB,za,zh,gHds,zd,gW,v1,v100,v101,vs,zg,sym188,sym191,yp,hsh,Option.some.injEq,Value.bool.injEq,decide_eq_false_iff_not,and_true,beq_self_eq_true,true_and,List.length_nil]
  omega
 suffices both : Zp (ρ.ext Zu.N [.int .i64 (i : Int),zn (hrsI l i)]) (lHr1_t.asks lHr1_F)∧zR Zu ρ (lHr_Inv l) (lHr_mu l) 1 [.int .i64 (i : Int),zn (hrsI l i)] lHr1_l from zD (lHr1_w _) hF both.1.ok both.2
 cases hp : l[i]? with
 | none =>
   have hge:=List.getElem?_eq_none_iff.1 hp
   have hge' : ¬ (i : Int) < l.length:=by omega
   have hl : hrsI l i = hrsR l:=hrsI_all hge
   refine ⟨?_,?_⟩
   ·simp only [lHr1_t,lHr1_F,gA,gB,za,zh,gHds,zd,gW,v1,v100,v101,vs,zg,sym188,sym191,yp,hsh,Int.toNat_natCast,hp,hge']
    try simp
   ·simp only [lHr1_l,gE,dZ,gB,za,g3,zh,gHds,zd,gW,v1,v100,v101,vs,h1,hsy,zg,sym188,sym191,yp,hsh,Int.toNat_natCast,hp,hge',reduceCtorEq,gR]
    rw [hl] at hn
    have hcn : ¬ ((hrsR l).length : Int) = 1:=by omega
    simp [hl,hcn]
    try omega
 | some x =>
   have hil : i < l.length:=(List.getElem?_eq_some_iff.1 hp).1
   have hil1 : (i : Int) < l.length:=by omega
   have hw : IntKind.i64.wrap ((i : Int) + 1) = ((i + 1 : Nat) : Int):=by rw [IntWalk.i64_in _ (by omega)]; rfl
   have h10 : ¬ (1010 : Int) < l.length:=by omega
   have hnext : hrsI l (i + 1) = hrsStep (hrsI l i) x:=hrsI_next hp
   have goA : ¬ (hrsI l i)[insP (hrsI l i) x.from_]? = some ⟨x.from_⟩→∀ n rw,n = (((hrsI l i).length : Int) + 1)→rw = (insW (hrsI l i) x.from_)→∃ vals',((match (ρ.ext Zu.N vals').val 101 with | some v => den1 .len v | none => none) = some (.int .i64 n)∧(ρ.ext Zu.N vals').val 100 = some (.int .i64 ((i + 1 : Nat) : Int))∧(ρ.ext Zu.N vals').val 101 = some (zn rw))∧lHr_Inv l 1 vals'∧lHr_mu l 1 vals' < lHr_mu l 1 [.int .i64 (i : Int),zn (hrsI l i)]:=by
    rintro hc n rw rfl rfl
    have hr : hrsI l (i + 1) = (insW (hrsI l i) x.from_):=by rw [hnext,hrsStep_is,if_neg hc]
    have e101 : (ρ.ext Zu.N [.int .i64 ((i + 1 : Nat) : Int),zn (hrsI l (i + 1))]).val 101 = some (zn (hrsI l (i + 1))):=by exact xH hN rfl (by decide)
    refine ⟨[.int .i64 ((i + 1 : Nat) : Int),zn (hrsI l (i + 1))],⟨?_,?_,?_⟩,⟨i + 1,by omega,.inr ⟨rfl,rfl,by rw [hr]; first | omega | (rw [insW_len]; omega) | (rw [insW_len]; simp)⟩⟩,by simp [lHr_mu,vI]; omega⟩
    ·rw [e101,hr]
     refine (whos_len _).trans ?_
     simp [insW_len]
    ·exact xH hN rfl (by decide)
    ·rw [e101,hr]
   have goK : (hrsI l i)[insP (hrsI l i) x.from_]? = some ⟨x.from_⟩→∀ n rw,n = (((hrsI l i).length : Int))→rw = (hrsI l i)→∃ vals',((match (ρ.ext Zu.N vals').val 101 with | some v => den1 .len v | none => none) = some (.int .i64 n)∧(ρ.ext Zu.N vals').val 100 = some (.int .i64 ((i + 1 : Nat) : Int))∧(ρ.ext Zu.N vals').val 101 = some (zn rw))∧lHr_Inv l 1 vals'∧lHr_mu l 1 vals' < lHr_mu l 1 [.int .i64 (i : Int),zn (hrsI l i)]:=by
    rintro hc n rw rfl rfl
    have hr : hrsI l (i + 1) = (hrsI l i):=by rw [hnext,hrsStep_is,if_pos hc]
    have e101 : (ρ.ext Zu.N [.int .i64 ((i + 1 : Nat) : Int),zn (hrsI l (i + 1))]).val 101 = some (zn (hrsI l (i + 1))):=by exact xH hN rfl (by decide)
    refine ⟨[.int .i64 ((i + 1 : Nat) : Int),zn (hrsI l (i + 1))],⟨?_,?_,?_⟩,⟨i + 1,by omega,.inr ⟨rfl,rfl,by rw [hr]; first | omega | (rw [insW_len]; omega) | (rw [insW_len]; simp)⟩⟩,by simp [lHr_mu,vI]; omega⟩
    ·rw [e101,hr]
     refine (whos_len _).trans ?_
     simp [insW_len]
    ·exact xH hN rfl (by decide)
    ·rw [e101,hr]
   generalize hS : hrsI l i = s at *
   have hPl:=insP_le x.from_ s
   have p1 : ¬ ((insP s x.from_ : Nat) : Int) < 0:=by omega
   have p2 : ¬ (s.length : Int) < ((insP s x.from_ : Nat) : Int):=by omega
   have p3 : ¬ (1000000000 : Int) < ((insP s x.from_ : Nat) : Int):=by omega
   have p5 : ((s.take (insP s x.from_)).length : Int) = ((insP s x.from_ : Nat) : Int):=by rw [List.length_take]; omega
   have p6 : s.take s.length = s:=List.take_length
   have hwl:=insW_len s x.from_
   have hr1:=insW_rows s x.from_
   have p7 : ¬ (1000000000 : Int) < (insW s x.from_).length:=by omega
   have p8 : ¬ (1000000000 : Int) < ((insP s x.from_ : Nat) : Int) + 1:=by omega
   have hr0 : ¬ (0 : Int) < ((insP s x.from_ : Nat) : Int)→(⟨x.from_⟩ : Who) :: s.drop (insP s x.from_) = insW s x.from_:=fun h => by
    have h0 : insP s x.from_ = 0:=by omega
    have:=insW_rows0 h0
    rw [h0]; exact this
   have hl0 : ¬ (0 : Int) < ((insP s x.from_ : Nat) : Int)→¬ (1000000000 : Int) < ((⟨x.from_⟩ : Who) :: s.drop (insP s x.from_)).length:=fun h => by rw [hr0 h]; exact p7
   cases hat : s[insP s x.from_]? with
   | none =>
     have hal : ¬ ((insP s x.from_ : Nat) : Int) < s.length:=by have:=List.getElem?_eq_none_iff.1 hat; omega
     skip
     have goA:=goA (by rw [hat]; simp)
     refine ⟨?_,?_⟩
     all_goals (simp only [lHr1_t,lHr1_F,lHr1_l,gA,gB,za,zh,gHds,zd,gW,yq,zR,zB,zI,Zn,Zo,zT,zY,dZ,g3,v1,v100,v101,vs,h1,hsy,zg,sym188,sym191,yp,hsh,Int.toNat_natCast,Int.toNat_zero,List.drop_zero,hp,hat,hal,h10,Option.bind_some,gN,who0,hil1,hw,p1,p2,p3,p5,p6,p7,p8,hr1,reduceCtorEq,Bool.false_eq_true,false_implies,true_implies,and_true,true_and])
     all_goals (clear v1 v100 v101 vs h1 hsy hF)
     all_goals ((repeat' apply And.intro) <;> intros <;> first
      | trivial
      | contradiction
      | (exact goK (by assumption) _ _ rfl rfl)
      | (exact goA _ _ (by omega) rfl)
      | (exact hl0 (by assumption) (by assumption))
      | (rw [hr0 (by assumption)]; exact goA _ _ (by omega) rfl)
      | (exfalso; omega)
      | (simp_all; done))
   | some w =>
     have hal : ((insP s x.from_ : Nat) : Int) < s.length:=by have:=(List.getElem?_eq_some_iff.1 hat).1; omega
     have hwn : some w = some (⟨x.from_⟩ : Who)↔w.n = x.from_:=by cases w; simp
     rw [hat,hwn] at goA goK
     refine ⟨?_,?_⟩
     all_goals (simp only [lHr1_t,lHr1_F,lHr1_l,gA,gB,za,zh,gHds,zd,gW,yq,zR,zB,zI,Zn,Zo,zT,zY,dZ,g3,v1,v100,v101,vs,h1,hsy,zg,sym188,sym191,yp,hsh,Int.toNat_natCast,Int.toNat_zero,List.drop_zero,hp,hat,hal,h10,Option.bind_some,gN,who0,hil1,hw,p1,p2,p3,p5,p6,p7,p8,hr1,reduceCtorEq,Bool.false_eq_true,false_implies,true_implies,and_true,true_and])
     all_goals (clear v1 v100 v101 vs h1 hsy hF)
     all_goals ((repeat' apply And.intro) <;> intros <;> first
      | trivial
      | contradiction
      | (exact goK (by assumption) _ _ rfl rfl)
      | (exact goA (by assumption) _ _ (by omega) rfl)
      | (exact hl0 (by assumption) (by assumption))
      | (rw [hr0 (by assumption)]; exact goA (by assumption) _ _ (by omega) rfl)
      | (exfalso; omega)
      | (simp_all; done))
theorem lHr_step {ρ : Rho} {l : List Rat9} (h1 : ρ.val 1 = some (ratsR l)) (hsy : ρ.sym = sy) (hsh : okR9 l = true) (j : Nat) (vals : List Value) (hI : lHr_Inv l j vals) : yI Zu lHr_run E0 ρ (lHr_Inv l) (lHr_mu l) j vals:=by
 obtain ⟨i,hi,⟨rfl,rfl,hn⟩ | ⟨rfl,rfl,hn⟩⟩:=hI
 ·exact lHr_step0 h1 hsy hsh hi hn
 ·exact lHr_step1 h1 hsy hsh hi hn
theorem lHr_H {ρ : Rho} {l : List Rat9} (h1 : ρ.val 1 = some (ratsR l)) (hsy : ρ.sym = sy) (hsh : okR9 l = true) (F : List (X×Bool)) : yV (E0.with F ρ) (oneH 40 (yR [(3,Zu.hook (E0.with F ρ).facts rhr_vs)])):=by
 refine yN (n:=2) (fun f fn h => h) (by kernel_rfl) fun i hi => ?_
 have h01 : i = 0∨i = 1:=by omega
 rcases h01 with rfl | rfl
 ·rw [yA (show Zr (yh (E0.with F ρ).P 40 0) = 3 by kernel_rfl)]
  refine hook_in (E₀:=E0) (run:=lHr_run) (ρ:=ρ) (Inv:=lHr_Inv l) (μ:=lHr_mu l) zU lHr_ok (fun F vals => ?_) (fun hp => ⟨lHr_step h1 hsy hsh,[.int .i64 0,zn []],?_,0,Nat.zero_le _,.inl ⟨rfl,rfl,rfl⟩⟩)
  ·have hN : Zu.N = 100:=rfl
   exact yl zU (RHL_ok F (r:=ρ.ext Zu.N vals) hsy) (ihr_H (r:=ρ.ext Zu.N vals) (by rw [ext_low _ _ _ _ (by rw [hN]; omega)]; exact h1) hsy F)
  ·simp only [rhr_vs,gB,za,zh,gHds,zm,zd]
   rfl
 ·rw [hooks_miss (show Nat.beq (Zr (yh (E0.with F ρ).P 40 1)) 3 = false by kernel_rfl)]
  exact fun f S outs h => by cases h
noncomputable def rHrO_con : Con:={ f:=40,args:=[ratsArg 0 0],N:=1,M:=2,pre:=[(.app 202 [.var 1],true),(.op2 .eq qRP22 (.num 1),true)],out:=.slice 1 0 1 1 true,news:=[(1,.cells [.int .i64 0] 3)] }
noncomputable def rHrO_call : Env→yC:=fun E => zw E (evH E (RHL E) ((fun E => oneH 40 (yR [(3,Zu.hook E.facts rhr_vs)])) E) 12)
noncomputable def rHrO_t : GTree:=(.leaf [[(1,1)]])
noncomputable def rHrO_l : List (List (X×Bool)×Option zo):=[([(qRP10,true),(qRP27,true)],some [])]
theorem rHrO_w (r : Rho) : rHrO_con.fn.ways rHrO_call E0 r rHrO_con.pre rHrO_t = some rHrO_l:=by kernel_rfl
theorem rHrO_cok : rHrO_con.Ok Tryz.prog sy:=by
 intro r σ w us hsy hρ hpre hrel hins
 obtain ⟨l,h1⟩:=zS hrel rfl hρ
 have hsh : okR9 l = true:=by
  have:=hpre.1
  simpa only [gB,za,zh,gHds,zm,zd,h1,hsy,zg,Option.some.injEq,Value.bool.injEq] using this
 have hmax:=ok_len hsh
 have hln:=hrs_len l
 have hps:=hrs_pos l
 refine zX (E:=E0) zU zG (sy:=sy) (fun F => RHL_ok F hsy) (fun F => lHr_H h1 hsy hsh F) (rHrO_w r) hρ hpre hrel hins ?_ ?_
 ·simp only [rHrO_con,rHrO_t,gA,gB,za,zh,gHds,zd,gW,h1,hsy,zg,sym188,sym191,yp]
  try simp
  try omega
 ·simp only [rHrO_l,gE,dZ,gB,za,g3,zh,gHds,zd,gW,h1,hsy,zg,sym188,sym191,yp]
  try simp
  try omega
noncomputable def rHrY_con : Con:={ f:=40,args:=[ratsArg 0 0],N:=1,M:=2,pre:=[(.app 202 [.var 1],true),(.op2 .eq qRP22 (.num 1),false)],out:=.slo 1 1 qRP22,news:=[(1,.rows 1 [.int .i64] (.num 0) (.app 216 [.var 1]) true 3)] }
noncomputable def rHrY_call : Env→yC:=fun E => zw E (evH E (RHL E) ((fun E => oneH 40 (yR [(3,Zu.hook E.facts rhr_vs)])) E) 12)
noncomputable def rHrY_t : GTree:=(.leaf [[(1,110)]])
noncomputable def rHrY_l : List (List (X×Bool)×Option zo):=[([(qRP10,true),(qRP27,false)],some [(qRP21,qRP21),(.app 216 [.var 1],.app 216 [.var 1])])]
theorem rHrY_w (r : Rho) : rHrY_con.fn.ways rHrY_call E0 r rHrY_con.pre rHrY_t = some rHrY_l:=by kernel_rfl
theorem rHrY_cok : rHrY_con.Ok Tryz.prog sy:=by
 intro r σ w us hsy hρ hpre hrel hins
 obtain ⟨l,h1⟩:=zS hrel rfl hρ
 have hsh : okR9 l = true:=by
  have:=hpre.1
  simpa only [gB,za,zh,gHds,zm,zd,h1,hsy,zg,Option.some.injEq,Value.bool.injEq] using this
 have hmax:=ok_len hsh
 have hln:=hrs_len l
 have hps:=hrs_pos l
 refine zX (E:=E0) zU zG (sy:=sy) (fun F => RHL_ok F hsy) (fun F => lHr_H h1 hsy hsh F) (rHrY_w r) hρ hpre hrel hins ?_ ?_
 ·simp only [rHrY_con,rHrY_t,gA,gB,za,zh,gHds,zd,gW,h1,hsy,zg,sym188,sym191,yp]
  try simp
  try omega
 ·simp only [rHrY_l,gE,dZ,gB,za,g3,zh,gHds,zd,gW,h1,hsy,zg,sym188,sym191,yp]
  try simp
  try omega
end Go.Proofs.YtfddkbbjnghefaaGreatDoor.Zs
