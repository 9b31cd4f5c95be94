/-
  The law AwardTouched for a list.
-/
import Derived.Test.YtfddkbbjnghefaaGreatDoorToLawQ
import Derived.KernelRfl
set_option linter.unusedSimpArgs false
set_option maxHeartbeats 16000000
set_option linter.unusedVariables false
namespace Go.Proofs.YtfddkbbjnghefaaGreatDoor.Zs
open Go
noncomputable def WTL : Env→yj:=libs [cLib cFw_con,cLib cApE_con,cLib cApY_con,cLib cTcE_con,cLib cTcN_con,cLib cTcY_con,cLib cRoE_con,cLib cRoN_con,cLib cRoY_con,cLib cTuE_con,cLib cTuN_con,cLib cTuY_con,fun _ => aliveL]
theorem WTL_ok (F : List (X×Bool)) {r : Rho} (h : r.sym = sy) : zu (E1.with F r) (WTL (E1.with F r)):=libs_ok fun c hc => by
 simp only [List.mem_cons,List.not_mem_nil,or_false] at hc
 rcases hc with rfl | rfl | rfl | rfl | rfl | rfl | rfl | rfl | rfl | rfl | rfl | rfl | rfl
 ·exact ya (E:=E1) cFw_cok F h
 ·exact ya (E:=E1) cApE_cok F h
 ·exact ya (E:=E1) cApY_cok F h
 ·exact ya (E:=E1) cTcE_cok F h
 ·exact ya (E:=E1) cTcN_cok F h
 ·exact ya (E:=E1) cTcY_cok F h
 ·exact ya (E:=E1) cRoE_cok F h
 ·exact ya (E:=E1) cRoN_cok F h
 ·exact ya (E:=E1) cRoY_cok F h
 ·exact ya (E:=E1) cTuE_cok F h
 ·exact ya (E:=E1) cTuN_cok F h
 ·exact ya (E:=E1) cTuY_cok F h
 ·exact alive_ok F r
def orH (h g : AF→ASt→Option (List Out)) (f : AF) (S : ASt) : Option (List Out):=match h f S with
 | some r => some r
 | none => g f S
theorem orH_ok {E : Env} {ro : Option Nat} {c : Code} {h g : AF→ASt→Option (List Out)} (h1 : CodeOk E ro c h) (h2 : CodeOk E ro c g) : CodeOk E ro c (orH h g):=fun f S outs e => by
 unfold orH at e
 split at e
 ·rename_i r hr
  cases e
  exact h1 f S _ hr
 ·exact h2 f S outs e
def tt_vs : List X:=[.num 0,.boo false]
abbrev qTW0 : X:=.snoc (.var 1) [.op1 (.kind .i64) (.var 3),.op1 (.kind .i64) (.var 4),.op1 (.kind .i64) (.var 5),.var 6,.op1 (.kind .i64) (.var 7),.op1 (.kind .i64) (.var 8),.op1 (.kind .i64) (.var 9),.op1 (.kind .i64) (.var 10),.op1 (.kind .i64) (.var 11)]
abbrev qTW19 : X:=.app 202 [.var 1]
abbrev qTW5 : X:=.op2 .lt (.num 30) (.op1 .len (.var 1))
abbrev qTW1 : X:=.ite (.op2 .lt (.num 103) (.op1 .len (.var 1))) (.boo false) (.op2 .and qTW19 (.op2 .or (.op1 .not qTW5) (.op2 .lt (.num 100) (.op1 .len (.var 1)))))
abbrev qTW2 : X:=.op2 .eq (.app 205 [.var 1,.var 12,.var 13,.var 4,.num 0]) (.app 205 [.var 1,.var 12,.op1 (.wrap .i64) (.op2 .sub (.var 13) (.num 1)),.var 4,.num 0])
abbrev qTW3 : X:=.app 204 [.var 1,.var 12,.op1 (.wrap .i64) (.op2 .sub (.var 13) (.num 1)),.var 4]
abbrev qTW4 : X:=.op1 .len (.app 210 [.var 1,.var 12,.var 4])
abbrev qTW6 : X:=.op2 .lt (.num 100) (.op1 .slen (.var 12))
abbrev qTW7 : X:=.app 213 [.var 1,qTW0,.var 12,.var 4]
abbrev qTW8 : X:=.op2 .lt (.num 100) (.op1 .slen (.var 6))
abbrev qTW9 : X:=.op2 .eq (.app 200 [qTW0]) (.num 0)
abbrev qTW10 : X:=.op2 .lt (.num 1000) (.op1 .len (.var 1))
abbrev qTW11 : X:=.app 204 [.var 1,.var 12,.var 13,.var 4]
abbrev qTW12 : X:=.op2 .eq (.num 0) (.app 205 [.var 1,.var 12,.op1 (.wrap .i64) (.op2 .sub (.var 13) (.num 1)),.var 4,.num 0])
abbrev qTW13 : X:=.op2 .eq (.app 200 [.var 1]) (.num 0)
abbrev qTW14 : X:=.op2 .lt (.num 0) (.op1 .len qTW0)
abbrev qTW15 : X:=.op2 .lt (.num 1000000) (.var 13)
abbrev qTW16 : X:=.snoc (.var 1) [.op1 (.kind .i64) (.var 3),.op1 (.kind .i64) (.var 4),.op1 (.kind .i64) (.var 5),.var 6,.op1 (.kind .i64) (.var 7),.op1 (.kind .i64) (.var 8),.op1 (.kind .i64) (.var 9),.op1 (.kind .i64) (.var 10),.op1 (.kind .i64) (.var 11)]
abbrev qTW17 : X:=.op2 .lt (.var 13) (.num 1)
abbrev qTW18 : X:=.op2 .eq (.app 205 [.var 1,.var 12,.var 13,.var 4,.num 0]) (.num 0)
abbrev qTW20 : X:=.op2 .eq qTW4 (.num 0)
abbrev qTW21 : X:=.op1 .not (.op2 .eq (.app 205 [.var 1,.var 12,.var 13,.var 4,.num 0]) (.app 205 [.var 1,.var 12,.op1 (.wrap .i64) (.op2 .sub (.var 13) (.num 1)),.var 4,.num 0]))
abbrev qTW22 : X:=.app 202 [qTW0]
abbrev qTW23 : X:=.op2 .lt (.var 150) (.num 0)
abbrev qTW24 : X:=.app 210 [.var 1,.var 12,.var 4]
abbrev qTW25 : X:=.op1 (.wrap .i64) (.op2 .add (.var 150) (.num 1))
abbrev qTW26 : X:=.op2 .lt (.var 150) qTW4
abbrev qTW27 : X:=.op2 .eq (.cell 0 (.app 210 [.var 1,.var 12,.var 4]) (.var 150)) (.var 13)
abbrev qTW28 : X:=.op1 .not qTW2
abbrev qTW29 : X:=.op2 .eq (.app 200 [.var 1]) (.num 0)
abbrev qTW30 : X:=.op1 .len qTW24
abbrev qTW31 : X:=.op2 .eq (.app 200 [qTW0]) (.app 200 [qTW0])
abbrev qTW32 : X:=.op2 .eq (.app 200 [qTW16]) (.num 0)
abbrev qTWf6 : List (X×Bool):=[(qTW1,true),(qTW5,false),(qTW9,true),(qTW7,false)]
abbrev qTWf2 : List (X×Bool):=(qTW19,true) :: (qTW8,false) :: (qTW6,false) :: qTWf6
abbrev qTWf8 : List (X×Bool):=(qTW14,true) :: (qTW22,true) :: (qTW10,false) :: qTWf2
abbrev qTWf0 : List (X×Bool):=(qTW15,false) :: (qTW17,false) :: (qTW13,true) :: qTWf8
abbrev qTWf7 : List (X×Bool):=[(qTW1,true),(qTW5,false),(qTW9,true),(qTW7,true)]
abbrev qTWf3 : List (X×Bool):=(qTW19,true) :: (qTW8,false) :: (qTW6,false) :: qTWf7
abbrev qTWf9 : List (X×Bool):=(qTW14,true) :: (qTW22,true) :: (qTW10,false) :: qTWf3
abbrev qTWf1 : List (X×Bool):=(qTW15,false) :: (qTW17,false) :: (qTW13,true) :: qTWf9
abbrev qTWf4 : List (X×Bool):=[(qTW6,false),(qTW1,true),(qTW5,false),(qTW9,false)]
abbrev qTWf10 : List (X×Bool):=[(qTW23,false)]
abbrev qTWf5 : List (X×Bool):=(qTW26,true) :: qTWf10
abbrev qTWf11 : List (X×Bool):=(qTW3,false) :: (qTW11,true) :: qTWf0
abbrev qTWf12 : List (X×Bool):=(qTW3,true) :: (qTW11,false) :: qTWf0
abbrev qTWf13 : List (X×Bool):=(qTW3,false) :: (qTW11,true) :: qTWf1
abbrev qTWf14 : List (X×Bool):=(qTW3,true) :: (qTW11,false) :: qTWf1
abbrev qTWf15 : List (X×Bool):=(qTW3,true) :: (qTW11,true) :: qTWf0
abbrev qTWf16 : List (X×Bool):=(qTW3,true) :: (qTW11,true) :: qTWf1
noncomputable def lUa_D : LoopD:={ N:=150,M:=161,size:=sizeOfF 5,reads:=[(123,.rows 1 [.int .i64] (.num 0) qTW24 true 3)],pats:=[{ slots:=[(3,.sint .i64 (.var 13)),(22,.ptr 121 0),(23,.int .i64 0),(24,.ptr 122 0),(25,.int .i64 0),(26,.slo 123 1 qTW30),(27,.sbool (.var 151)),(28,.sint .i64 (.var 150))],heap:=[] }],exits:=[(.exit 2,{ slots:=[(3,.sint .i64 (.var 13)),(22,.ptr 121 0),(23,.int .i64 0),(24,.ptr 122 0),(25,.int .i64 0),(26,.slo 123 1 qTW30),(27,.sbool qTW21)],heap:=[] })],own:=[],pre:=[(.app 202 [.var 1],true),(qTW29,true),(qTW17,false),(qTW15,false)],dfs:=[] }
noncomputable def lUa_run : Env→AF→ASt→Option (List Out):=bodyRun noL 9 (fun _ => noLoop) (yA Tryz.prog 5 1)
def lUa0_F : List (X×Bool):=qTWf10
noncomputable def lUa0_t : FTree:=(.fork qTW26 (.fork (.var 151) (.leaf [.again 0 []]) (.leaf [.again 0 []])) (.leaf [.leave 0 []]))
noncomputable def lUa0_l : List (List (X×Bool)×Option (List (Tgt×zp))):=[((.var 151,true) :: qTWf5,some [(.again 0 [],[(.var 151,.boo true),(.var 150,qTW25)])]),
 ((.var 151,false) :: qTWf5,some [(.again 0 [],[(.var 151,qTW27),(.var 150,qTW25)])]),
 ((qTW26,false) :: qTWf10,some [(.leave 0 [],[(qTW28,.var 151)])])]
theorem lUa0_w (r : Rho) : lUa_D.ways lUa_run E1 r 0 lUa0_F lUa0_t = some lUa0_l:=by kernel_rfl
theorem lUa_ok : lUa_D.ok = true:=by kernel_rfl
theorem noL1_ok (F : List (X×Bool)) {r : Rho} (h : r.sym = sy) : zu (E1.with F r) (noL (E1.with F r)):=libs_ok fun c hc => by
 cases hc
def anyT (l : List Rat9) (g : ByteArray) (K h : Int) (i : Nat) : Bool:=((zV l g K).take i).any fun w => w.n == h
theorem anyT_next {l : List Rat9} {g : ByteArray} {K h : Int} {i : Nat} {w : Who} (hp : (zV l g K)[i]? = some w) : anyT l g K h (i + 1) = (anyT l g K h i || w.n == h):=by
 unfold anyT
 rw [List.take_add_one,hp]
 simp
theorem anyT_all {l : List Rat9} {g : ByteArray} {K h : Int} {i : Nat} (hi : (zV l g K).length≤i) : anyT l g K h i = !(idAt l g h K == idAt l g (h - 1) K):=by
 have e:=turn_says l g K h
 unfold anyT
 rw [List.take_of_length_le hi]
 cases hb : (idAt l g h K == idAt l g (h - 1) K) with
 | true =>
   rw [beq_iff_eq] at hb
   cases ha : (zV l g K).any (fun w => w.n == h) with
   | false => rfl
   | true =>
     obtain ⟨w,hw,hq⟩:=List.any_eq_true.1 ha
     rw [beq_iff_eq] at hq
     obtain ⟨i,hi⟩:=List.getElem?_of_mem hw
     exact absurd hb (e.1 ⟨i,by rw [hi,← hq]⟩)
 | false =>
   rw [beq_eq_false_iff_ne] at hb
   obtain ⟨i,hi⟩:=e.2 hb
   show _ = true
   rw [List.any_eq_true]
   exact ⟨⟨h⟩,List.mem_of_getElem? hi,by simp⟩
theorem turns_lenT (l : List Rat9) (g : ByteArray) (K : Int) : (zV l g K).length≤l.length:=by
 rw [← turnsI_all (Nat.le_refl _)]
 exact turns_len l g K _
def lUa_Inv (l : List Rat9) (g : ByteArray) (K hr : Int) (j : Nat) (vals : List Value) : Prop:=j = 0∧∃ i : Nat,i≤(zV l g K).length∧vals = [.int .i64 (i : Int),.bool (anyT l g K hr i)]
def lUa_mu (b : List Who) (_ : Nat) (vals : List Value) : Nat:=b.length - (vI (vals.getD 0 default)).toNat
theorem lUa_step {ρ : Rho} {l : List Rat9} {x : Rat9} {kx : Nat→IntKind} {g : ByteArray} {hr : Int} {k13 : IntKind} (h1 : ρ.val 1 = some (ratsR l)) (hx : Rat9At ρ 3 kx x) (h12 : ρ.val 12 = some (.string g)) (h13 : ρ.val 13 = some (.int k13 hr)) (hsy : ρ.sym = sy) (hsh : okR9 l = true) (hr1 : 1≤hr) (hr2 : hr≤1000000) (j : Nat) (vals : List Value) (hI : lUa_Inv l g x.known hr j vals) : yn lUa_D lUa_run E1 ρ (lUa_Inv l g x.known hr) (lUa_mu (zV l g x.known)) j vals:=by
 obtain ⟨rfl,i,hi,rfl⟩:=hI
 have hN : lUa_D.N = 150:=rfl
 have hmax:=ok_len hsh
 have htl:=turns_lenT l g x.known
 have hw1 : (IntKind.i64.wrap (hr - 1)) = hr - 1:=IntWalk.i64_in _ (by omega)
 have xl {jq vq}:=@xL ρ lUa_D.N 150 [.int .i64 (i : Int),.bool (anyT l g x.known hr i)] jq vq hN
 have xh {jq vq}:=@xH ρ lUa_D.N 150 [.int .i64 (i : Int),.bool (anyT l g x.known hr i)] jq vq hN
 have v1:=xl (jq:=1) h1 (by decide)
 have v3:=xl (jq:=3) hx.h0 (by decide)
 have v4:=xl (jq:=4) hx.h1 (by decide)
 have v5:=xl (jq:=5) hx.h2 (by decide)
 have v6:=xl (jq:=6) hx.h3 (by decide)
 have v7:=xl (jq:=7) hx.h4 (by decide)
 have v8:=xl (jq:=8) hx.h5 (by decide)
 have v9:=xl (jq:=9) hx.h6 (by decide)
 have v10:=xl (jq:=10) hx.h7 (by decide)
 have v11:=xl (jq:=11) hx.h8 (by decide)
 have v12:=xl (jq:=12) h12 (by decide)
 have v13:=xl (jq:=13) h13 (by decide)
 have v150:=xh (jq:=150) (vq:=.int .i64 (i : Int)) rfl (by decide)
 have v151:=xh (jq:=151) (vq:=.bool (anyT l g x.known hr i)) rfl (by decide)
 have vs : (ρ.ext lUa_D.N [.int .i64 (i : Int),.bool (anyT l g x.known hr i)]).sym = sy:=hsy
 have hF : zf (ρ.ext lUa_D.N [.int .i64 (i : Int),.bool (anyT l g x.known hr i)]) lUa0_F:=by
  simp only [lUa0_F,zf,gB,zd,gW,zm,v150,vs,Option.some.injEq,Value.bool.injEq,decide_eq_false_iff_not,and_true]
  omega
 suffices both : y9 (ρ.ext lUa_D.N [.int .i64 (i : Int),.bool (anyT l g x.known hr i)]) (lUa0_t.asks lUa0_F)∧zD lUa_D ρ (lUa_Inv l g x.known hr) (lUa_mu (zV l g x.known)) 0 [.int .i64 (i : Int),.bool (anyT l g x.known hr i)] lUa0_l from zC (lUa0_w _) hF both.1.ok both.2
 have p0 : za l g hr x.known 0 = some (.int .i64 (idAt l g hr x.known)):=rfl
 have q0 : za l g (hr - 1) x.known 0 = some (.int .i64 (idAt l g (hr - 1) x.known)):=rfl
 cases hp : (zV l g x.known)[i]? with
 | none =>
   have hge:=List.getElem?_eq_none_iff.1 hp
   have hge' : ¬ (i : Int) < (zV l g x.known).length:=by omega
   have hl:=anyT_all (h:=hr) hge
   refine ⟨?_,?_⟩
   ·simp only [lUa0_t,lUa0_F,gA,gB,zd,gW,zm,v1,v3,v4,v5,v6,v7,v8,v9,v10,v11,v12,v13,v150,v151,vs,zi,zG,ze,zF,zl,yk,zx,zw,zq,hsh,Int.toNat_natCast,hp,hge']
    try simp
   ·simp only [lUa0_l,gE,dZ,gB,zd,g3,gW,zm,v1,v3,v4,v5,v6,v7,v8,v9,v10,v11,v12,v13,v150,v151,vs,h1,hx.h1,h12,h13,hsy,zi,zG,ze,zF,zl,yk,zx,zw,zq,hsh,Int.toNat_natCast,hp,hge',hw1,p0,q0,reduceCtorEq,gR]
    try simp [hl]
 | some w =>
   have hil : i < (zV l g x.known).length:=(List.getElem?_eq_some_iff.1 hp).1
   have hil1 : (i : Int) < (zV l g x.known).length:=by omega
   have hw : IntKind.i64.wrap ((i : Int) + 1) = ((i + 1 : Nat) : Int):=by rw [IntWalk.i64_in _ (by omega)]; rfl
   have hnext:=anyT_next (h:=hr) hp
   have go : ∀ b,b = (anyT l g x.known hr (i + 1))→∃ vals',((ρ.ext lUa_D.N vals').val 151 = some (.bool b)∧(ρ.ext lUa_D.N vals').val 150 = some (.int .i64 ((i + 1 : Nat) : Int)))∧lUa_Inv l g x.known hr 0 vals'∧lUa_mu (zV l g x.known) 0 vals' < lUa_mu (zV l g x.known) 0 [.int .i64 (i : Int),.bool (anyT l g x.known hr i)]:=by
    rintro b rfl
    refine ⟨[.int .i64 ((i + 1 : Nat) : Int),.bool (anyT l g x.known hr (i + 1))],⟨?_,?_⟩,⟨rfl,i + 1,by omega,rfl⟩,by simp [lUa_mu,vI]; omega⟩
    ·exact xH hN rfl (by decide)
    ·exact xH hN rfl (by decide)
   refine ⟨?_,?_⟩
   all_goals (simp only [lUa0_t,lUa0_F,lUa0_l,gA,gB,zd,gW,zm,zR,zD,zh,zk,yw,yy,zr,zE,dZ,g3,v1,v3,v4,v5,v6,v7,v8,v9,v10,v11,v12,v13,v150,v151,vs,h1,h12,h13,hsy,zi,zG,ze,zF,zl,yk,zx,zw,zq,hsh,Int.toNat_natCast,hp,Option.bind_some,who0,hil1,hw,reduceCtorEq,Bool.false_eq_true,false_implies,true_implies,and_true,true_and])
   all_goals (clear v1 v3 v4 v5 v6 v7 v8 v9 v10 v11 v12 v13 v150 v151 vs h1 hx h12 h13 hsy hF)
   all_goals ((repeat' apply And.intro) <;> intros <;> first
    | trivial
    | contradiction
    | (refine go _ ?_; rw [hnext]; simp_all; done)
    | (exfalso; omega)
    | (simp_all; done))
noncomputable def lUb_D : LoopD:={ N:=150,M:=161,size:=sizeOfF 5,reads:=[(123,.rows 1 [.int .i64] (.num 0) qTW24 true 3)],pats:=[{ slots:=[(3,.sint .i64 (.var 13)),(22,.ptr 121 0),(23,.int .i64 0),(24,.ptr 122 0),(25,.int .i64 60),(26,.slo 123 1 qTW30),(27,.sbool (.var 151)),(28,.sint .i64 (.var 150))],heap:=[] }],exits:=[(.exit 2,{ slots:=[(3,.sint .i64 (.var 13)),(22,.ptr 121 0),(23,.int .i64 0),(24,.ptr 122 0),(25,.int .i64 60),(26,.slo 123 1 qTW30),(27,.sbool qTW21)],heap:=[] })],own:=[],pre:=[(.app 202 [.var 1],true),(qTW29,true),(qTW17,false),(qTW15,false)],dfs:=[] }
noncomputable def lUb_run : Env→AF→ASt→Option (List Out):=bodyRun noL 9 (fun _ => noLoop) (yA Tryz.prog 5 1)
def lUb0_F : List (X×Bool):=qTWf10
noncomputable def lUb0_t : FTree:=(.fork qTW26 (.fork (.var 151) (.leaf [.again 0 []]) (.leaf [.again 0 []])) (.leaf [.leave 0 []]))
noncomputable def lUb0_l : List (List (X×Bool)×Option (List (Tgt×zp))):=[((.var 151,true) :: qTWf5,some [(.again 0 [],[(.var 151,.boo true),(.var 150,qTW25)])]),
 ((.var 151,false) :: qTWf5,some [(.again 0 [],[(.var 151,qTW27),(.var 150,qTW25)])]),
 ((qTW26,false) :: qTWf10,some [(.leave 0 [],[(qTW28,.var 151)])])]
theorem lUb0_w (r : Rho) : lUb_D.ways lUb_run E1 r 0 lUb0_F lUb0_t = some lUb0_l:=by kernel_rfl
theorem lUb_ok : lUb_D.ok = true:=by kernel_rfl
def lUb_Inv (l : List Rat9) (g : ByteArray) (K hr : Int) (j : Nat) (vals : List Value) : Prop:=j = 0∧∃ i : Nat,i≤(zV l g K).length∧vals = [.int .i64 (i : Int),.bool (anyT l g K hr i)]
def lUb_mu (b : List Who) (_ : Nat) (vals : List Value) : Nat:=b.length - (vI (vals.getD 0 default)).toNat
theorem lUb_step {ρ : Rho} {l : List Rat9} {x : Rat9} {kx : Nat→IntKind} {g : ByteArray} {hr : Int} {k13 : IntKind} (h1 : ρ.val 1 = some (ratsR l)) (hx : Rat9At ρ 3 kx x) (h12 : ρ.val 12 = some (.string g)) (h13 : ρ.val 13 = some (.int k13 hr)) (hsy : ρ.sym = sy) (hsh : okR9 l = true) (hr1 : 1≤hr) (hr2 : hr≤1000000) (j : Nat) (vals : List Value) (hI : lUb_Inv l g x.known hr j vals) : yn lUb_D lUb_run E1 ρ (lUb_Inv l g x.known hr) (lUb_mu (zV l g x.known)) j vals:=by
 obtain ⟨rfl,i,hi,rfl⟩:=hI
 have hN : lUb_D.N = 150:=rfl
 have hmax:=ok_len hsh
 have htl:=turns_lenT l g x.known
 have hw1 : (IntKind.i64.wrap (hr - 1)) = hr - 1:=IntWalk.i64_in _ (by omega)
 have xl {jq vq}:=@xL ρ lUb_D.N 150 [.int .i64 (i : Int),.bool (anyT l g x.known hr i)] jq vq hN
 have xh {jq vq}:=@xH ρ lUb_D.N 150 [.int .i64 (i : Int),.bool (anyT l g x.known hr i)] jq vq hN
 have v1:=xl (jq:=1) h1 (by decide)
 have v3:=xl (jq:=3) hx.h0 (by decide)
 have v4:=xl (jq:=4) hx.h1 (by decide)
 have v5:=xl (jq:=5) hx.h2 (by decide)
 have v6:=xl (jq:=6) hx.h3 (by decide)
 have v7:=xl (jq:=7) hx.h4 (by decide)
 have v8:=xl (jq:=8) hx.h5 (by decide)
 have v9:=xl (jq:=9) hx.h6 (by decide)
 have v10:=xl (jq:=10) hx.h7 (by decide)
 have v11:=xl (jq:=11) hx.h8 (by decide)
 have v12:=xl (jq:=12) h12 (by decide)
 have v13:=xl (jq:=13) h13 (by decide)
 have v150:=xh (jq:=150) (vq:=.int .i64 (i : Int)) rfl (by decide)
 have v151:=xh (jq:=151) (vq:=.bool (anyT l g x.known hr i)) rfl (by decide)
 have vs : (ρ.ext lUb_D.N [.int .i64 (i : Int),.bool (anyT l g x.known hr i)]).sym = sy:=hsy
 have hF : zf (ρ.ext lUb_D.N [.int .i64 (i : Int),.bool (anyT l g x.known hr i)]) lUb0_F:=by
  simp only [lUb0_F,zf,gB,zd,gW,zm,v150,vs,Option.some.injEq,Value.bool.injEq,decide_eq_false_iff_not,and_true]
  omega
 suffices both : y9 (ρ.ext lUb_D.N [.int .i64 (i : Int),.bool (anyT l g x.known hr i)]) (lUb0_t.asks lUb0_F)∧zD lUb_D ρ (lUb_Inv l g x.known hr) (lUb_mu (zV l g x.known)) 0 [.int .i64 (i : Int),.bool (anyT l g x.known hr i)] lUb0_l from zC (lUb0_w _) hF both.1.ok both.2
 have p0 : za l g hr x.known 0 = some (.int .i64 (idAt l g hr x.known)):=rfl
 have q0 : za l g (hr - 1) x.known 0 = some (.int .i64 (idAt l g (hr - 1) x.known)):=rfl
 cases hp : (zV l g x.known)[i]? with
 | none =>
   have hge:=List.getElem?_eq_none_iff.1 hp
   have hge' : ¬ (i : Int) < (zV l g x.known).length:=by omega
   have hl:=anyT_all (h:=hr) hge
   refine ⟨?_,?_⟩
   ·simp only [lUb0_t,lUb0_F,gA,gB,zd,gW,zm,v1,v3,v4,v5,v6,v7,v8,v9,v10,v11,v12,v13,v150,v151,vs,zi,zG,ze,zF,zl,yk,zx,zw,zq,hsh,Int.toNat_natCast,hp,hge']
    try simp
   ·simp only [lUb0_l,gE,dZ,gB,zd,g3,gW,zm,v1,v3,v4,v5,v6,v7,v8,v9,v10,v11,v12,v13,v150,v151,vs,h1,hx.h1,h12,h13,hsy,zi,zG,ze,zF,zl,yk,zx,zw,zq,hsh,Int.toNat_natCast,hp,hge',hw1,p0,q0,reduceCtorEq,gR]
    try simp [hl]
 | some w =>
   have hil : i < (zV l g x.known).length:=(List.getElem?_eq_some_iff.1 hp).1
   have hil1 : (i : Int) < (zV l g x.known).length:=by omega
   have hw : IntKind.i64.wrap ((i : Int) + 1) = ((i + 1 : Nat) : Int):=by rw [IntWalk.i64_in _ (by omega)]; rfl
   have hnext:=anyT_next (h:=hr) hp
   have go : ∀ b,b = (anyT l g x.known hr (i + 1))→∃ vals',((ρ.ext lUb_D.N vals').val 151 = some (.bool b)∧(ρ.ext lUb_D.N vals').val 150 = some (.int .i64 ((i + 1 : Nat) : Int)))∧lUb_Inv l g x.known hr 0 vals'∧lUb_mu (zV l g x.known) 0 vals' < lUb_mu (zV l g x.known) 0 [.int .i64 (i : Int),.bool (anyT l g x.known hr i)]:=by
    rintro b rfl
    refine ⟨[.int .i64 ((i + 1 : Nat) : Int),.bool (anyT l g x.known hr (i + 1))],⟨?_,?_⟩,⟨rfl,i + 1,by omega,rfl⟩,by simp [lUb_mu,vI]; omega⟩
    ·exact xH hN rfl (by decide)
    ·exact xH hN rfl (by decide)
   refine ⟨?_,?_⟩
   all_goals (simp only [lUb0_t,lUb0_F,lUb0_l,gA,gB,zd,gW,zm,zR,zD,zh,zk,yw,yy,zr,zE,dZ,g3,v1,v3,v4,v5,v6,v7,v8,v9,v10,v11,v12,v13,v150,v151,vs,h1,h12,h13,hsy,zi,zG,ze,zF,zl,yk,zx,zw,zq,hsh,Int.toNat_natCast,hp,Option.bind_some,who0,hil1,hw,reduceCtorEq,Bool.false_eq_true,false_implies,true_implies,and_true,true_and])
   all_goals (clear v1 v3 v4 v5 v6 v7 v8 v9 v10 v11 v12 v13 v150 v151 vs h1 hx h12 h13 hsy hF)
   all_goals ((repeat' apply And.intro) <;> intros <;> first
    | trivial
    | contradiction
    | (refine go _ ?_; rw [hnext]; simp_all; done)
    | (exfalso; omega)
    | (simp_all; done))
noncomputable def lUc_D : LoopD:={ N:=150,M:=161,size:=sizeOfF 5,reads:=[(123,.rows 1 [.int .i64] (.num 0) qTW24 true 3)],pats:=[{ slots:=[(3,.sint .i64 (.var 13)),(22,.ptr 121 0),(23,.int .i64 60),(24,.ptr 122 0),(25,.int .i64 0),(26,.slo 123 1 qTW30),(27,.sbool (.var 151)),(28,.sint .i64 (.var 150))],heap:=[] }],exits:=[(.exit 2,{ slots:=[(3,.sint .i64 (.var 13)),(22,.ptr 121 0),(23,.int .i64 60),(24,.ptr 122 0),(25,.int .i64 0),(26,.slo 123 1 qTW30),(27,.sbool qTW21)],heap:=[] })],own:=[],pre:=[(.app 202 [.var 1],true),(qTW29,true),(qTW17,false),(qTW15,false)],dfs:=[] }
noncomputable def lUc_run : Env→AF→ASt→Option (List Out):=bodyRun noL 9 (fun _ => noLoop) (yA Tryz.prog 5 1)
def lUc0_F : List (X×Bool):=qTWf10
noncomputable def lUc0_t : FTree:=(.fork qTW26 (.fork (.var 151) (.leaf [.again 0 []]) (.leaf [.again 0 []])) (.leaf [.leave 0 []]))
noncomputable def lUc0_l : List (List (X×Bool)×Option (List (Tgt×zp))):=[((.var 151,true) :: qTWf5,some [(.again 0 [],[(.var 151,.boo true),(.var 150,qTW25)])]),
 ((.var 151,false) :: qTWf5,some [(.again 0 [],[(.var 151,qTW27),(.var 150,qTW25)])]),
 ((qTW26,false) :: qTWf10,some [(.leave 0 [],[(qTW28,.var 151)])])]
theorem lUc0_w (r : Rho) : lUc_D.ways lUc_run E1 r 0 lUc0_F lUc0_t = some lUc0_l:=by kernel_rfl
theorem lUc_ok : lUc_D.ok = true:=by kernel_rfl
def lUc_Inv (l : List Rat9) (g : ByteArray) (K hr : Int) (j : Nat) (vals : List Value) : Prop:=j = 0∧∃ i : Nat,i≤(zV l g K).length∧vals = [.int .i64 (i : Int),.bool (anyT l g K hr i)]
def lUc_mu (b : List Who) (_ : Nat) (vals : List Value) : Nat:=b.length - (vI (vals.getD 0 default)).toNat
theorem lUc_step {ρ : Rho} {l : List Rat9} {x : Rat9} {kx : Nat→IntKind} {g : ByteArray} {hr : Int} {k13 : IntKind} (h1 : ρ.val 1 = some (ratsR l)) (hx : Rat9At ρ 3 kx x) (h12 : ρ.val 12 = some (.string g)) (h13 : ρ.val 13 = some (.int k13 hr)) (hsy : ρ.sym = sy) (hsh : okR9 l = true) (hr1 : 1≤hr) (hr2 : hr≤1000000) (j : Nat) (vals : List Value) (hI : lUc_Inv l g x.known hr j vals) : yn lUc_D lUc_run E1 ρ (lUc_Inv l g x.known hr) (lUc_mu (zV l g x.known)) j vals:=by
 obtain ⟨rfl,i,hi,rfl⟩:=hI
 have hN : lUc_D.N = 150:=rfl
 have hmax:=ok_len hsh
 have htl:=turns_lenT l g x.known
 have hw1 : (IntKind.i64.wrap (hr - 1)) = hr - 1:=IntWalk.i64_in _ (by omega)
 have xl {jq vq}:=@xL ρ lUc_D.N 150 [.int .i64 (i : Int),.bool (anyT l g x.known hr i)] jq vq hN
 have xh {jq vq}:=@xH ρ lUc_D.N 150 [.int .i64 (i : Int),.bool (anyT l g x.known hr i)] jq vq hN
 have v1:=xl (jq:=1) h1 (by decide)
 have v3:=xl (jq:=3) hx.h0 (by decide)
 have v4:=xl (jq:=4) hx.h1 (by decide)
 have v5:=xl (jq:=5) hx.h2 (by decide)
 have v6:=xl (jq:=6) hx.h3 (by decide)
 have v7:=xl (jq:=7) hx.h4 (by decide)
 have v8:=xl (jq:=8) hx.h5 (by decide)
 have v9:=xl (jq:=9) hx.h6 (by decide)
 have v10:=xl (jq:=10) hx.h7 (by decide)
 have v11:=xl (jq:=11) hx.h8 (by decide)
 have v12:=xl (jq:=12) h12 (by decide)
 have v13:=xl (jq:=13) h13 (by decide)
 have v150:=xh (jq:=150) (vq:=.int .i64 (i : Int)) rfl (by decide)
 have v151:=xh (jq:=151) (vq:=.bool (anyT l g x.known hr i)) rfl (by decide)
 have vs : (ρ.ext lUc_D.N [.int .i64 (i : Int),.bool (anyT l g x.known hr i)]).sym = sy:=hsy
 have hF : zf (ρ.ext lUc_D.N [.int .i64 (i : Int),.bool (anyT l g x.known hr i)]) lUc0_F:=by
  simp only [lUc0_F,zf,gB,zd,gW,zm,v150,vs,Option.some.injEq,Value.bool.injEq,decide_eq_false_iff_not,and_true]
  omega
 suffices both : y9 (ρ.ext lUc_D.N [.int .i64 (i : Int),.bool (anyT l g x.known hr i)]) (lUc0_t.asks lUc0_F)∧zD lUc_D ρ (lUc_Inv l g x.known hr) (lUc_mu (zV l g x.known)) 0 [.int .i64 (i : Int),.bool (anyT l g x.known hr i)] lUc0_l from zC (lUc0_w _) hF both.1.ok both.2
 have p0 : za l g hr x.known 0 = some (.int .i64 (idAt l g hr x.known)):=rfl
 have q0 : za l g (hr - 1) x.known 0 = some (.int .i64 (idAt l g (hr - 1) x.known)):=rfl
 cases hp : (zV l g x.known)[i]? with
 | none =>
   have hge:=List.getElem?_eq_none_iff.1 hp
   have hge' : ¬ (i : Int) < (zV l g x.known).length:=by omega
   have hl:=anyT_all (h:=hr) hge
   refine ⟨?_,?_⟩
   ·simp only [lUc0_t,lUc0_F,gA,gB,zd,gW,zm,v1,v3,v4,v5,v6,v7,v8,v9,v10,v11,v12,v13,v150,v151,vs,zi,zG,ze,zF,zl,yk,zx,zw,zq,hsh,Int.toNat_natCast,hp,hge']
    try simp
   ·simp only [lUc0_l,gE,dZ,gB,zd,g3,gW,zm,v1,v3,v4,v5,v6,v7,v8,v9,v10,v11,v12,v13,v150,v151,vs,h1,hx.h1,h12,h13,hsy,zi,zG,ze,zF,zl,yk,zx,zw,zq,hsh,Int.toNat_natCast,hp,hge',hw1,p0,q0,reduceCtorEq,gR]
    try simp [hl]
 | some w =>
   have hil : i < (zV l g x.known).length:=(List.getElem?_eq_some_iff.1 hp).1
   have hil1 : (i : Int) < (zV l g x.known).length:=by omega
   have hw : IntKind.i64.wrap ((i : Int) + 1) = ((i + 1 : Nat) : Int):=by rw [IntWalk.i64_in _ (by omega)]; rfl
   have hnext:=anyT_next (h:=hr) hp
   have go : ∀ b,b = (anyT l g x.known hr (i + 1))→∃ vals',((ρ.ext lUc_D.N vals').val 151 = some (.bool b)∧(ρ.ext lUc_D.N vals').val 150 = some (.int .i64 ((i + 1 : Nat) : Int)))∧lUc_Inv l g x.known hr 0 vals'∧lUc_mu (zV l g x.known) 0 vals' < lUc_mu (zV l g x.known) 0 [.int .i64 (i : Int),.bool (anyT l g x.known hr i)]:=by
    rintro b rfl
    refine ⟨[.int .i64 ((i + 1 : Nat) : Int),.bool (anyT l g x.known hr (i + 1))],⟨?_,?_⟩,⟨rfl,i + 1,by omega,rfl⟩,by simp [lUc_mu,vI]; omega⟩
    ·exact xH hN rfl (by decide)
    ·exact xH hN rfl (by decide)
   refine ⟨?_,?_⟩
   all_goals (simp only [lUc0_t,lUc0_F,lUc0_l,gA,gB,zd,gW,zm,zR,zD,zh,zk,yw,yy,zr,zE,dZ,g3,v1,v3,v4,v5,v6,v7,v8,v9,v10,v11,v12,v13,v150,v151,vs,h1,h12,h13,hsy,zi,zG,ze,zF,zl,yk,zx,zw,zq,hsh,Int.toNat_natCast,hp,Option.bind_some,who0,hil1,hw,reduceCtorEq,Bool.false_eq_true,false_implies,true_implies,and_true,true_and])
   all_goals (clear v1 v3 v4 v5 v6 v7 v8 v9 v10 v11 v12 v13 v150 v151 vs h1 hx h12 h13 hsy hF)
   all_goals ((repeat' apply And.intro) <;> intros <;> first
    | trivial
    | contradiction
    | (refine go _ ?_; rw [hnext]; simp_all; done)
    | (exfalso; omega)
    | (simp_all; done))
noncomputable def lUd_D : LoopD:={ N:=150,M:=161,size:=sizeOfF 5,reads:=[(123,.rows 1 [.int .i64] (.num 0) qTW24 true 3)],pats:=[{ slots:=[(3,.sint .i64 (.var 13)),(22,.ptr 121 0),(23,.int .i64 60),(24,.ptr 122 0),(25,.int .i64 60),(26,.slo 123 1 qTW30),(27,.sbool (.var 151)),(28,.sint .i64 (.var 150))],heap:=[] }],exits:=[(.exit 2,{ slots:=[(3,.sint .i64 (.var 13)),(22,.ptr 121 0),(23,.int .i64 60),(24,.ptr 122 0),(25,.int .i64 60),(26,.slo 123 1 qTW30),(27,.sbool qTW21)],heap:=[] })],own:=[],pre:=[(.app 202 [.var 1],true),(qTW29,true),(qTW17,false),(qTW15,false)],dfs:=[] }
noncomputable def lUd_run : Env→AF→ASt→Option (List Out):=bodyRun noL 9 (fun _ => noLoop) (yA Tryz.prog 5 1)
def lUd0_F : List (X×Bool):=qTWf10
noncomputable def lUd0_t : FTree:=(.fork qTW26 (.fork (.var 151) (.leaf [.again 0 []]) (.leaf [.again 0 []])) (.leaf [.leave 0 []]))
noncomputable def lUd0_l : List (List (X×Bool)×Option (List (Tgt×zp))):=[((.var 151,true) :: qTWf5,some [(.again 0 [],[(.var 151,.boo true),(.var 150,qTW25)])]),
 ((.var 151,false) :: qTWf5,some [(.again 0 [],[(.var 151,qTW27),(.var 150,qTW25)])]),
 ((qTW26,false) :: qTWf10,some [(.leave 0 [],[(qTW28,.var 151)])])]
theorem lUd0_w (r : Rho) : lUd_D.ways lUd_run E1 r 0 lUd0_F lUd0_t = some lUd0_l:=by kernel_rfl
theorem lUd_ok : lUd_D.ok = true:=by kernel_rfl
def lUd_Inv (l : List Rat9) (g : ByteArray) (K hr : Int) (j : Nat) (vals : List Value) : Prop:=j = 0∧∃ i : Nat,i≤(zV l g K).length∧vals = [.int .i64 (i : Int),.bool (anyT l g K hr i)]
def lUd_mu (b : List Who) (_ : Nat) (vals : List Value) : Nat:=b.length - (vI (vals.getD 0 default)).toNat
theorem lUd_step {ρ : Rho} {l : List Rat9} {x : Rat9} {kx : Nat→IntKind} {g : ByteArray} {hr : Int} {k13 : IntKind} (h1 : ρ.val 1 = some (ratsR l)) (hx : Rat9At ρ 3 kx x) (h12 : ρ.val 12 = some (.string g)) (h13 : ρ.val 13 = some (.int k13 hr)) (hsy : ρ.sym = sy) (hsh : okR9 l = true) (hr1 : 1≤hr) (hr2 : hr≤1000000) (j : Nat) (vals : List Value) (hI : lUd_Inv l g x.known hr j vals) : yn lUd_D lUd_run E1 ρ (lUd_Inv l g x.known hr) (lUd_mu (zV l g x.known)) j vals:=by
 obtain ⟨rfl,i,hi,rfl⟩:=hI
 have hN : lUd_D.N = 150:=rfl
 have hmax:=ok_len hsh
 have htl:=turns_lenT l g x.known
 have hw1 : (IntKind.i64.wrap (hr - 1)) = hr - 1:=IntWalk.i64_in _ (by omega)
 have xl {jq vq}:=@xL ρ lUd_D.N 150 [.int .i64 (i : Int),.bool (anyT l g x.known hr i)] jq vq hN
 have xh {jq vq}:=@xH ρ lUd_D.N 150 [.int .i64 (i : Int),.bool (anyT l g x.known hr i)] jq vq hN
 have v1:=xl (jq:=1) h1 (by decide)
 have v3:=xl (jq:=3) hx.h0 (by decide)
 have v4:=xl (jq:=4) hx.h1 (by decide)
 have v5:=xl (jq:=5) hx.h2 (by decide)
 have v6:=xl (jq:=6) hx.h3 (by decide)
 have v7:=xl (jq:=7) hx.h4 (by decide)
 have v8:=xl (jq:=8) hx.h5 (by decide)
 have v9:=xl (jq:=9) hx.h6 (by decide)
 have v10:=xl (jq:=10) hx.h7 (by decide)
 have v11:=xl (jq:=11) hx.h8 (by decide)
 have v12:=xl (jq:=12) h12 (by decide)
 have v13:=xl (jq:=13) h13 (by decide)
 have v150:=xh (jq:=150) (vq:=.int .i64 (i : Int)) rfl (by decide)
 have v151:=xh (jq:=151) (vq:=.bool (anyT l g x.known hr i)) rfl (by decide)
 have vs : (ρ.ext lUd_D.N [.int .i64 (i : Int),.bool (anyT l g x.known hr i)]).sym = sy:=hsy
 have hF : zf (ρ.ext lUd_D.N [.int .i64 (i : Int),.bool (anyT l g x.known hr i)]) lUd0_F:=by
  simp only [lUd0_F,zf,gB,zd,gW,zm,v150,vs,Option.some.injEq,Value.bool.injEq,decide_eq_false_iff_not,and_true]
  omega
 suffices both : y9 (ρ.ext lUd_D.N [.int .i64 (i : Int),.bool (anyT l g x.known hr i)]) (lUd0_t.asks lUd0_F)∧zD lUd_D ρ (lUd_Inv l g x.known hr) (lUd_mu (zV l g x.known)) 0 [.int .i64 (i : Int),.bool (anyT l g x.known hr i)] lUd0_l from zC (lUd0_w _) hF both.1.ok both.2
 have p0 : za l g hr x.known 0 = some (.int .i64 (idAt l g hr x.known)):=rfl
 have q0 : za l g (hr - 1) x.known 0 = some (.int .i64 (idAt l g (hr - 1) x.known)):=rfl
 cases hp : (zV l g x.known)[i]? with
 | none =>
   have hge:=List.getElem?_eq_none_iff.1 hp
   have hge' : ¬ (i : Int) < (zV l g x.known).length:=by omega
   have hl:=anyT_all (h:=hr) hge
   refine ⟨?_,?_⟩
   ·simp only [lUd0_t,lUd0_F,gA,gB,zd,gW,zm,v1,v3,v4,v5,v6,v7,v8,v9,v10,v11,v12,v13,v150,v151,vs,zi,zG,ze,zF,zl,yk,zx,zw,zq,hsh,Int.toNat_natCast,hp,hge']
    try simp
   ·simp only [lUd0_l,gE,dZ,gB,zd,g3,gW,zm,v1,v3,v4,v5,v6,v7,v8,v9,v10,v11,v12,v13,v150,v151,vs,h1,hx.h1,h12,h13,hsy,zi,zG,ze,zF,zl,yk,zx,zw,zq,hsh,Int.toNat_natCast,hp,hge',hw1,p0,q0,reduceCtorEq,gR]
    try simp [hl]
 | some w =>
   have hil : i < (zV l g x.known).length:=(List.getElem?_eq_some_iff.1 hp).1
   have hil1 : (i : Int) < (zV l g x.known).length:=by omega
   have hw : IntKind.i64.wrap ((i : Int) + 1) = ((i + 1 : Nat) : Int):=by rw [IntWalk.i64_in _ (by omega)]; rfl
   have hnext:=anyT_next (h:=hr) hp
   have go : ∀ b,b = (anyT l g x.known hr (i + 1))→∃ vals',((ρ.ext lUd_D.N vals').val 151 = some (.bool b)∧(ρ.ext lUd_D.N vals').val 150 = some (.int .i64 ((i + 1 : Nat) : Int)))∧lUd_Inv l g x.known hr 0 vals'∧lUd_mu (zV l g x.known) 0 vals' < lUd_mu (zV l g x.known) 0 [.int .i64 (i : Int),.bool (anyT l g x.known hr i)]:=by
    rintro b rfl
    refine ⟨[.int .i64 ((i + 1 : Nat) : Int),.bool (anyT l g x.known hr (i + 1))],⟨?_,?_⟩,⟨rfl,i + 1,by omega,rfl⟩,by simp [lUd_mu,vI]; omega⟩
    ·exact xH hN rfl (by decide)
    ·exact xH hN rfl (by decide)
   refine ⟨?_,?_⟩
   all_goals (simp only [lUd0_t,lUd0_F,lUd0_l,gA,gB,zd,gW,zm,zR,zD,zh,zk,yw,yy,zr,zE,dZ,g3,v1,v3,v4,v5,v6,v7,v8,v9,v10,v11,v12,v13,v150,v151,vs,h1,h12,h13,hsy,zi,zG,ze,zF,zl,yk,zx,zw,zq,hsh,Int.toNat_natCast,hp,Option.bind_some,who0,hil1,hw,reduceCtorEq,Bool.false_eq_true,false_implies,true_implies,and_true,true_and])
   all_goals (clear v1 v3 v4 v5 v6 v7 v8 v9 v10 v11 v12 v13 v150 v151 vs h1 hx h12 h13 hsy hF)
   all_goals ((repeat' apply And.intro) <;> intros <;> first
    | trivial
    | contradiction
    | (refine go _ ?_; rw [hnext]; simp_all; done)
    | (exfalso; omega)
    | (simp_all; done))
noncomputable def toE_fn : FnD:={ f:=5,args:=argsAV [ratsArg 60 0,.agg [.int .i64 3,.int .i64 4,.int .i64 5,.str 6,.int .i64 7,.int .i64 8,.int .i64 9,.int .i64 10,.int .i64 11],.one (.str 12),.one (.int .i64 13)],heap:=hRoot ++ argsBlk [ratsArg 60 0,.agg [.int .i64 3,.int .i64 4,.int .i64 5,.str 6,.int .i64 7,.int .i64 8,.int .i64 9,.int .i64 10,.int .i64 11],.one (.str 12),.one (.int .i64 13)],N:=100,M:=100,out:=.sbool (.boo true),news:=[] }
noncomputable def toE_call : Env→Za:=fun E => zS E (evH E (WTL E) ((fun _ => yX) E) 9)
noncomputable def toE_pre : List (X×Bool):=[(qTW32,false)]
noncomputable def toE_t : GTree:=(.fork qTW5 (.leaf [[]]) (.fork qTW1 (.fork qTW6 (.leaf [[]]) (.fork qTW8 (.leaf [[]]) (.fork qTW19 (.fork qTW10 .bad (.fork qTW31 (.leaf [[]]) (.leaf [[]]))) .bad))) (.leaf [[]])))
noncomputable def toE_l : List (List (X×Bool)×Option zp):=[([(qTW5,true),(qTW9,false)],some []),
 ([(qTW6,true),(qTW1,true),(qTW5,false),(qTW9,false)],some []),
 ((qTW8,true) :: qTWf4,some []),
 ((qTW10,true) :: (qTW19,true) :: (qTW8,false) :: qTWf4,none),
 ((qTW31,true) :: (qTW10,false) :: (qTW19,true) :: (qTW8,false) :: qTWf4,some []),
 ((qTW31,false) :: (qTW10,false) :: (qTW19,true) :: (qTW8,false) :: qTWf4,some [(.boo true,.boo false)]),
 ((qTW19,false) :: (qTW8,false) :: qTWf4,none),
 ([(qTW1,false),(qTW5,false),(qTW9,false)],some [])]
theorem toE_w (r : Rho) : toE_fn.ways toE_call E1 r toE_pre toE_t = some toE_l:=by kernel_rfl
theorem badR_appT {l : List Rat9} {x : Rat9} {i : Nat} (hi : i < l.length) : badR (l ++ [x]) i = badR l i:=by
 unfold badR
 rw [List.getD_eq_getElem?_getD,List.getD_eq_getElem?_getD,List.getElem?_append_left hi,List.take_append_of_le_length (by omega)]
theorem chk_appT {l : List Rat9} {x : Rat9} (h : chkER l≠0) : chkER (l ++ [x]) = chkER l:=by
 unfold chkER at h ⊢
 cases hs : stopR l with
 | none => rw [hs] at h; exact absurd rfl h
 | some i =>
   have hs2:=hs
   unfold stopR at hs2
   rw [List.find?_range_eq_some] at hs2
   obtain ⟨h1,h2,h3⟩:=hs2
   have hil : i < l.length:=List.mem_range.1 h2
   have : stopR (l ++ [x]) = some i:=by
    refine stopR_some (by rw [List.length_append]; omega) (fun j hj => ?_) ?_
    ·rw [badR_appT (by omega)]
     have:=h3 j hj
     simpa using this
    ·rw [badR_appT hil]
     simpa using h1
   rw [this]
   exact badR_appT hil
theorem toE_out (σ : Sig) : toE_fn.out.inst σ = some (.bool true):=rfl
set_option maxRecDepth 100000 in
theorem toE_true {r : Rho} {σ : Sig} {w : World} {us : List Value} {l : List Rat9} {x : Rat9} {kx : Nat→IntKind} {g : ByteArray} {hr : Int} {k13 : IntKind} (h1 : r.val 1 = some (ratsR l)) (hx : Rat9At r 3 kx x) (h12 : r.val 12 = some (.string g)) (h13 : r.val 13 = some (.int k13 hr)) (hc2 : chkER (l ++ [x])≠0) (hsy : r.sym = sy) (hρ : σ.rho = r) (hA : ∀ g id,E1.glob g = some id→∃ κ,σ id = some (g,κ)) (hrel : (memOf toE_fn.heap 100).rel Tryz.prog σ w (fun b => w.heap.size≤b)) (hins : Ins σ toE_fn.args us) :
  Calls Tryz.prog 5 us.toArray w fun e w' => e = .returned (.bool true)∧Kept (fun b => w.heap.size≤b) w w':=by
 have a0:=hx.h0
 have a1:=hx.h1
 have a2:=hx.h2
 have a3:=hx.h3
 have a4:=hx.h4
 have a5:=hx.h5
 have a6:=hx.h6
 have a7:=hx.h7
 have a8:=hx.h8
 simp only [Nat.reduceAdd] at a0 a1 a2 a3 a4 a5 a6 a7 a8
 have hxx : (⟨x.id,x.known,x.from_,x.goods,x.num,x.den,x.cart,x.store,x.of_⟩ : Rat9) = x:=rfl
 have hfew : okR9 l = true→(x.goods.size : Int)≤100→(l.length : Int)≤103→okR9 (l ++ [x]) = true:=fun a b c => ok_snoc a b (by omega)
 have hll : ((l ++ [x]).length : Int) = (l.length : Int) + 1:=by simp
 have hch : chkER l≠0→chkER (l ++ [x]) = chkER l:=chk_appT
 refine law_of (E:=E1) (D:=toE_fn) E1_ok (fun F => WTL_ok F hsy) (fun F => noH_ok) (toE_w r) hρ hA ?_ hrel hins ?_ ?_ toE_out
 ·have : (chkER (l ++ [x]) == 0) = false:=by simpa using hc2
  simp only [toE_pre,zf,gB,zd,gW,zm,h1,h12,h13,a0,a1,a2,a3,a4,a5,a6,a7,a8,hxx,hsy,zi,zG,ze,zF,zl,yk,zx,zw,zq,this,and_true]
 ·simp only [toE_pre,toE_t,gA,gB,d_iteB,gW,zm,h1,h12,h13,a0,a1,a2,a3,a4,a5,a6,a7,a8,hxx,hsy,zi,zG,ze,zF,zl,yk,zx,zw,zq]
  try simp
 ·simp only [toE_l,gE,dZ,gB,d_iteB,g3,gW,zm,h1,h12,h13,a0,a1,a2,a3,a4,a5,a6,a7,a8,hxx,hsy,zi,zG,ze,zF,zl,yk,zx,zw,zq]
  clear hρ hrel hins h1 h12 h13 a0 a1 a2 a3 a4 a5 a6 a7 a8 hx hsy hA
  (repeat' apply And.intro) <;> intros <;> first
    | (exact True.intro)
    | rfl
    | contradiction
    | (exfalso; omega)
    | (simp_all; done)
    | (exfalso; simp_all; done)
    | (exfalso; simp_all; omega)
    | (exfalso; exact z2 (by assumption) (Eq.symm (by assumption)))
    | (exfalso; exact z1 (by assumption) (by assumption))
noncomputable def toN_fn : FnD:={ f:=5,args:=argsAV [ratsArg 60 0,.agg [.int .i64 3,.int .i64 4,.int .i64 5,.str 6,.int .i64 7,.int .i64 8,.int .i64 9,.int .i64 10,.int .i64 11],.one (.str 12),.one (.int .i64 13)],heap:=hRoot ++ argsBlk [ratsArg 60 0,.agg [.int .i64 3,.int .i64 4,.int .i64 5,.str 6,.int .i64 7,.int .i64 8,.int .i64 9,.int .i64 10,.int .i64 11],.one (.str 12),.one (.int .i64 13)],N:=100,M:=100,out:=.sbool (.boo true),news:=[] }
noncomputable def toN_call : Env→Za:=fun E => zS E (evH E (WTL E) ((fun E => oneH 5 (hooks [(11,Zg.hook E.facts nw_vs),(26,orH (lUa_D.hook E.facts tt_vs) (orH (lUb_D.hook E.facts tt_vs) (orH (lUc_D.hook E.facts tt_vs) (lUd_D.hook E.facts tt_vs))))])) E) 9)
noncomputable def toN_pre : List (X×Bool):=[(qTW32,true),(.app 213 [.var 1,qTW16,.var 12,.var 4],false)]
noncomputable def toN_t : GTree:=(.fork qTW5 (.leaf [[]]) (.fork qTW1 (.fork qTW6 (.leaf [[]]) (.fork qTW8 (.leaf [[]]) (.fork qTW19 (.fork qTW10 .bad (.fork qTW22 (.fork qTW14 (.fork qTW13 (.fork qTW17 (.leaf [[]]) (.fork qTW15 (.leaf [[]]) (.fork qTW11 (.fork qTW3 (.fork qTW20 (.fork qTW2 (.leaf [[]]) (.leaf [[]])) (.fork qTW2 (.leaf [[]]) (.leaf [[]]))) (.fork qTW20 (.fork qTW18 (.leaf [[]]) (.leaf [[]])) (.fork qTW18 (.leaf [[]]) (.leaf [[]])))) (.fork qTW3 (.fork qTW20 (.fork qTW12 (.leaf [[]]) (.leaf [[]])) (.fork qTW12 (.leaf [[]]) (.leaf [[]]))) (.fork qTW20 (.leaf [[]]) (.leaf [[]])))))) .bad) .bad) .bad)) .bad))) (.leaf [[]])))
noncomputable def toN_l : List (List (X×Bool)×Option zp):=[([(qTW5,true),(qTW9,true),(qTW7,false)],some []),
 ((qTW6,true) :: qTWf6,some []),
 ((qTW8,true) :: (qTW6,false) :: qTWf6,some []),
 ((qTW10,true) :: qTWf2,none),
 ((qTW17,true) :: (qTW13,true) :: qTWf8,some []),
 ((qTW15,true) :: (qTW17,false) :: (qTW13,true) :: qTWf8,some []),
 ((qTW2,true) :: (qTW20,true) :: qTWf15,some []),
 ((qTW2,false) :: (qTW20,true) :: qTWf15,some [(.boo true,.boo false)]),
 ((qTW2,true) :: (qTW20,false) :: qTWf15,some []),
 ((qTW2,false) :: (qTW20,false) :: qTWf15,some []),
 ((qTW18,true) :: (qTW20,true) :: qTWf11,some [(.boo true,.boo false)]),
 ((qTW18,false) :: (qTW20,true) :: qTWf11,some [(.boo true,.boo false)]),
 ((qTW18,true) :: (qTW20,false) :: qTWf11,some [(.boo true,qTW28)]),
 ((qTW18,false) :: (qTW20,false) :: qTWf11,some [(.boo true,qTW28)]),
 ((qTW12,true) :: (qTW20,true) :: qTWf12,some [(.boo true,.boo false)]),
 ((qTW12,false) :: (qTW20,true) :: qTWf12,some [(.boo true,.boo false)]),
 ((qTW12,true) :: (qTW20,false) :: qTWf12,some [(.boo true,qTW28)]),
 ((qTW12,false) :: (qTW20,false) :: qTWf12,some [(.boo true,qTW28)]),
 ((qTW20,true) :: (qTW3,false) :: (qTW11,false) :: qTWf0,some []),
 ((qTW20,false) :: (qTW3,false) :: (qTW11,false) :: qTWf0,some [(.boo true,.op1 .not qTW28)]),
 ((qTW13,false) :: qTWf8,none),
 ((qTW14,false) :: (qTW22,true) :: (qTW10,false) :: qTWf2,none),
 ((qTW22,false) :: (qTW10,false) :: qTWf2,none),
 ((qTW19,false) :: (qTW8,false) :: (qTW6,false) :: qTWf6,none),
 ([(qTW1,false),(qTW5,false),(qTW9,true),(qTW7,false)],some [])]
theorem toN_w (r : Rho) : toN_fn.ways toN_call E1 r toN_pre toN_t = some toN_l:=by kernel_rfl
set_option maxRecDepth 100000 in
theorem toH_toN {ρ : Rho} {l : List Rat9} {x : Rat9} {kx : Nat→IntKind} {g : ByteArray} {hr : Int} {k13 : IntKind} (h1 : ρ.val 1 = some (ratsR l)) (hx : Rat9At ρ 3 kx x) (h12 : ρ.val 12 = some (.string g)) (h13 : ρ.val 13 = some (.int k13 hr)) (hsy : ρ.sym = sy) (F : List (X×Bool)) : LoopsOk (E1.with F ρ) (oneH 5 (hooks [(11,Zg.hook (E1.with F ρ).facts nw_vs),(26,orH (lUa_D.hook (E1.with F ρ).facts tt_vs) (orH (lUb_D.hook (E1.with F ρ).facts tt_vs) (orH (lUc_D.hook (E1.with F ρ).facts tt_vs) (lUd_D.hook (E1.with F ρ).facts tt_vs))))])):=by
 have a0:=hx.h0
 have a1:=hx.h1
 have a2:=hx.h2
 have a3:=hx.h3
 have a4:=hx.h4
 have a5:=hx.h5
 have a6:=hx.h6
 have a7:=hx.h7
 have a8:=hx.h8
 simp only [Nat.reduceAdd] at a0 a1 a2 a3 a4 a5 a6 a7 a8
 have hxx : (⟨x.id,x.known,x.from_,x.goods,x.num,x.den,x.cart,x.store,x.of_⟩ : Rat9) = x:=rfl
 refine loops_all (n:=2) (fun f fn h => h) (by kernel_rfl) fun i hi => ?_
 have h01 : i = 0∨i = 1:=by omega
 rcases h01 with rfl | rfl
 ·rw [hooks_hit (show keyOf (yA (E1.with F ρ).P 5 0) = 11 by kernel_rfl)]
  refine hook_ok (E₀:=E1) (run:=lNw_run) (ρ:=ρ) (Inv:=lNw_Inv) (μ:=lNw_mu) E1_ok lNw_ok (fun F r' h => ?_) (fun hp => ?_)
  ·exact ye E1_ok (WTR_ok F (h.trans hsy)) fun _ _ => yc
  ·simp only [Zg,zf,gB,zd,gW,zm,h1,h12,h13,a0,a1,a2,a3,a4,a5,a6,a7,a8,hsy,hxx,zi,zG,ze,zF,zl,yk,zx,zw,zq,Option.some.injEq,Value.bool.injEq,and_true,beq_iff_eq] at hp
   exact ⟨lNw_step h1 hx h12 h13 hsy hp.1 hp.2.1 hp.2.2.1 hp.2.2.2.1 hp.2.2.2.2,[],rfl,by omega,rfl⟩
 ·rw [hooks_miss (show Nat.beq (keyOf (yA (E1.with F ρ).P 5 1)) 11 = false by kernel_rfl),hooks_hit (show keyOf (yA (E1.with F ρ).P 5 1) = 26 by kernel_rfl)]
  refine orH_ok ?_ ?_
  ·refine hook_ok (E₀:=E1) (run:=lUa_run) (ρ:=ρ) (Inv:=lUa_Inv l g x.known hr) (μ:=lUa_mu (zV l g x.known)) E1_ok lUa_ok (fun F r' h => ?_) (fun hp => ?_)
   ·exact ye E1_ok (noL1_ok F (h.trans hsy)) fun _ _ => yc
   ·simp only [lUa_D,zf,gB,zd,gW,zm,h1,h12,h13,hsy,zi,zG,ze,zF,zl,yk,zx,zw,zq,Option.some.injEq,Value.bool.injEq,and_true,beq_iff_eq,decide_eq_false_iff_not] at hp
    exact ⟨lUa_step h1 hx h12 h13 hsy hp.1 (by omega) (by omega),[.int .i64 0,.bool false],rfl,rfl,0,Nat.zero_le _,rfl⟩
  refine orH_ok ?_ ?_
  ·refine hook_ok (E₀:=E1) (run:=lUb_run) (ρ:=ρ) (Inv:=lUb_Inv l g x.known hr) (μ:=lUb_mu (zV l g x.known)) E1_ok lUb_ok (fun F r' h => ?_) (fun hp => ?_)
   ·exact ye E1_ok (noL1_ok F (h.trans hsy)) fun _ _ => yc
   ·simp only [lUb_D,zf,gB,zd,gW,zm,h1,h12,h13,hsy,zi,zG,ze,zF,zl,yk,zx,zw,zq,Option.some.injEq,Value.bool.injEq,and_true,beq_iff_eq,decide_eq_false_iff_not] at hp
    exact ⟨lUb_step h1 hx h12 h13 hsy hp.1 (by omega) (by omega),[.int .i64 0,.bool false],rfl,rfl,0,Nat.zero_le _,rfl⟩
  refine orH_ok ?_ ?_
  ·refine hook_ok (E₀:=E1) (run:=lUc_run) (ρ:=ρ) (Inv:=lUc_Inv l g x.known hr) (μ:=lUc_mu (zV l g x.known)) E1_ok lUc_ok (fun F r' h => ?_) (fun hp => ?_)
   ·exact ye E1_ok (noL1_ok F (h.trans hsy)) fun _ _ => yc
   ·simp only [lUc_D,zf,gB,zd,gW,zm,h1,h12,h13,hsy,zi,zG,ze,zF,zl,yk,zx,zw,zq,Option.some.injEq,Value.bool.injEq,and_true,beq_iff_eq,decide_eq_false_iff_not] at hp
    exact ⟨lUc_step h1 hx h12 h13 hsy hp.1 (by omega) (by omega),[.int .i64 0,.bool false],rfl,rfl,0,Nat.zero_le _,rfl⟩
  ·refine hook_ok (E₀:=E1) (run:=lUd_run) (ρ:=ρ) (Inv:=lUd_Inv l g x.known hr) (μ:=lUd_mu (zV l g x.known)) E1_ok lUd_ok (fun F r' h => ?_) (fun hp => ?_)
   ·exact ye E1_ok (noL1_ok F (h.trans hsy)) fun _ _ => yc
   ·simp only [lUd_D,zf,gB,zd,gW,zm,h1,h12,h13,hsy,zi,zG,ze,zF,zl,yk,zx,zw,zq,Option.some.injEq,Value.bool.injEq,and_true,beq_iff_eq,decide_eq_false_iff_not] at hp
    exact ⟨lUd_step h1 hx h12 h13 hsy hp.1 (by omega) (by omega),[.int .i64 0,.bool false],rfl,rfl,0,Nat.zero_le _,rfl⟩
theorem toN_out (σ : Sig) : toN_fn.out.inst σ = some (.bool true):=rfl
set_option maxRecDepth 100000 in
theorem toN_true {r : Rho} {σ : Sig} {w : World} {us : List Value} {l : List Rat9} {x : Rat9} {kx : Nat→IntKind} {g : ByteArray} {hr : Int} {k13 : IntKind} (h1 : r.val 1 = some (ratsR l)) (hx : Rat9At r 3 kx x) (h12 : r.val 12 = some (.string g)) (h13 : r.val 13 = some (.int k13 hr)) (hc2 : chkER (l ++ [x]) = 0) (ht : (tch l (l ++ [x]) g x.known).is = false) (hsy : r.sym = sy) (hρ : σ.rho = r) (hA : ∀ g id,E1.glob g = some id→∃ κ,σ id = some (g,κ)) (hrel : (memOf toN_fn.heap 100).rel Tryz.prog σ w (fun b => w.heap.size≤b)) (hins : Ins σ toN_fn.args us) :
  Calls Tryz.prog 5 us.toArray w fun e w' => e = .returned (.bool true)∧Kept (fun b => w.heap.size≤b) w w':=by
 have a0:=hx.h0
 have a1:=hx.h1
 have a2:=hx.h2
 have a3:=hx.h3
 have a4:=hx.h4
 have a5:=hx.h5
 have a6:=hx.h6
 have a7:=hx.h7
 have a8:=hx.h8
 simp only [Nat.reduceAdd] at a0 a1 a2 a3 a4 a5 a6 a7 a8
 have hxx : (⟨x.id,x.known,x.from_,x.goods,x.num,x.den,x.cart,x.store,x.of_⟩ : Rat9) = x:=rfl
 have hfew : okR9 l = true→(x.goods.size : Int)≤100→(l.length : Int)≤103→okR9 (l ++ [x]) = true:=fun a b c => ok_snoc a b (by omega)
 have hll : ((l ++ [x]).length : Int) = (l.length : Int) + 1:=by simp
 have hch : chkER l≠0→chkER (l ++ [x]) = chkER l:=chk_appT
 have p0 : za l g hr x.known 0 = some (.int .i64 (idAt l g hr x.known)):=rfl
 have p1 : za l g hr x.known 1 = some (.int .i64 ((inF l g hr x.known).getD zy).known):=rfl
 have p2 : za l g hr x.known 2 = some (.int .i64 ((inF l g hr x.known).getD zy).from_):=rfl
 have p3 : za l g hr x.known 3 = some (.string ((inF l g hr x.known).getD zy).goods):=rfl
 have p4 : za l g hr x.known 4 = some (.int .i64 ((inF l g hr x.known).getD zy).num):=rfl
 have p5 : za l g hr x.known 5 = some (.int .i64 ((inF l g hr x.known).getD zy).den):=rfl
 have p6 : za l g hr x.known 6 = some (.int .i64 ((inF l g hr x.known).getD zy).cart):=rfl
 have p7 : za l g hr x.known 7 = some (.int .i64 ((inF l g hr x.known).getD zy).store):=rfl
 have p8 : za l g hr x.known 8 = some (.int .i64 ((inF l g hr x.known).getD zy).of_):=rfl
 have q0 : za l g (IntKind.i64.wrap (hr - 1)) x.known 0 = some (.int .i64 (idAt l g (IntKind.i64.wrap (hr - 1)) x.known)):=rfl
 have q1 : za l g (IntKind.i64.wrap (hr - 1)) x.known 1 = some (.int .i64 ((inF l g (IntKind.i64.wrap (hr - 1)) x.known).getD zy).known):=rfl
 have q2 : za l g (IntKind.i64.wrap (hr - 1)) x.known 2 = some (.int .i64 ((inF l g (IntKind.i64.wrap (hr - 1)) x.known).getD zy).from_):=rfl
 have q3 : za l g (IntKind.i64.wrap (hr - 1)) x.known 3 = some (.string ((inF l g (IntKind.i64.wrap (hr - 1)) x.known).getD zy).goods):=rfl
 have q4 : za l g (IntKind.i64.wrap (hr - 1)) x.known 4 = some (.int .i64 ((inF l g (IntKind.i64.wrap (hr - 1)) x.known).getD zy).num):=rfl
 have q5 : za l g (IntKind.i64.wrap (hr - 1)) x.known 5 = some (.int .i64 ((inF l g (IntKind.i64.wrap (hr - 1)) x.known).getD zy).den):=rfl
 have q6 : za l g (IntKind.i64.wrap (hr - 1)) x.known 6 = some (.int .i64 ((inF l g (IntKind.i64.wrap (hr - 1)) x.known).getD zy).cart):=rfl
 have q7 : za l g (IntKind.i64.wrap (hr - 1)) x.known 7 = some (.int .i64 ((inF l g (IntKind.i64.wrap (hr - 1)) x.known).getD zy).store):=rfl
 have q8 : za l g (IntKind.i64.wrap (hr - 1)) x.known 8 = some (.int .i64 ((inF l g (IntKind.i64.wrap (hr - 1)) x.known).getD zy).of_):=rfl
 have hc1 : chkER l = 0:=by
  by_cases h : chkER l = 0
  ·exact h
  ·rw [hch h] at hc2; exact hc2
 have hwr : 1≤hr→hr≤1000000→(IntKind.i64.wrap (hr - 1)) = hr - 1:=fun a b => IntWalk.i64_in _ (by omega)
 have hno : 1≤hr→hr≤1000000→(zV l g x.known).length = 0→idAt l g hr x.known = idAt l g (IntKind.i64.wrap (hr - 1)) x.known:=fun a b c => by
  rw [hwr a b]
  refine Classical.byContradiction fun q => ?_
  obtain ⟨i,hi⟩:=(turn_says l g x.known hr).2 q
  have:=(List.getElem?_eq_some_iff.1 hi).1
  omega
 have z1 : (inF l g hr x.known).isSome = true→idAt l g hr x.known≠0:=fun e => by
  obtain ⟨y,hy⟩:=Option.isSome_iff_exists.1 e
  have:=y7 hc1 hy
  unfold idAt; rw [hy]; exact this
 have z2 : (inF l g (IntKind.i64.wrap (hr - 1)) x.known).isSome = true→idAt l g (IntKind.i64.wrap (hr - 1)) x.known≠0:=fun e => by
  obtain ⟨y,hy⟩:=Option.isSome_iff_exists.1 e
  have:=y7 hc1 hy
  unfold idAt; rw [hy]; exact this
 have z3 : (inF l g hr x.known).isSome = false→idAt l g hr x.known = 0:=fun e => by
  have:=Option.not_isSome_iff_eq_none.1 (by rw [e]; exact Bool.false_ne_true)
  unfold idAt; rw [this]; rfl
 have z4 : (inF l g (IntKind.i64.wrap (hr - 1)) x.known).isSome = false→idAt l g (IntKind.i64.wrap (hr - 1)) x.known = 0:=fun e => by
  have:=Option.not_isSome_iff_eq_none.1 (by rw [e]; exact Bool.false_ne_true)
  unfold idAt; rw [this]; rfl
 refine law_of (E:=E1) (D:=toN_fn) E1_ok (fun F => WTL_ok F hsy) (fun F => toH_toN h1 hx h12 h13 hsy F) (toN_w r) hρ hA ?_ hrel hins ?_ ?_ toN_out
 ·have : (chkER (l ++ [x]) == 0) = true:=by simpa using hc2
  simp only [toN_pre,zf,gB,zd,gW,zm,h1,h12,h13,a0,a1,a2,a3,a4,a5,a6,a7,a8,hxx,hsy,zi,zG,ze,zF,zl,yk,zx,zw,zq,this,ht,and_true]
 ·simp only [toN_pre,toN_t,gA,gB,d_iteB,gW,zm,h1,h12,h13,a0,a1,a2,a3,a4,a5,a6,a7,a8,hxx,hsy,zi,zG,ze,zF,zl,yk,zx,zw,zq,p0,p1,p2,p3,p4,p5,p6,p7,p8,q0,q1,q2,q3,q4,q5,q6,q7,q8]
  try simp
 ·simp only [toN_l,gE,dZ,gB,d_iteB,g3,gW,zm,h1,h12,h13,a0,a1,a2,a3,a4,a5,a6,a7,a8,hxx,hsy,zi,zG,ze,zF,zl,yk,zx,zw,zq,p0,p1,p2,p3,p4,p5,p6,p7,p8,q0,q1,q2,q3,q4,q5,q6,q7,q8]
  clear hρ hrel hins h1 h12 h13 a0 a1 a2 a3 a4 a5 a6 a7 a8 hx hsy hA
  (repeat' apply And.intro) <;> intros <;> first
    | (exact True.intro)
    | rfl
    | contradiction
    | (exfalso; omega)
    | (simp_all; done)
    | (exfalso; simp_all; done)
    | (exfalso; simp_all; omega)
    | (exfalso; exact z2 (by assumption) (Eq.symm (by assumption)))
    | (exfalso; exact z1 (by assumption) (by assumption))
noncomputable def toY_fn : FnD:={ f:=5,args:=argsAV [ratsArg 60 0,.agg [.int .i64 3,.int .i64 4,.int .i64 5,.str 6,.int .i64 7,.int .i64 8,.int .i64 9,.int .i64 10,.int .i64 11],.one (.str 12),.one (.int .i64 13)],heap:=hRoot ++ argsBlk [ratsArg 60 0,.agg [.int .i64 3,.int .i64 4,.int .i64 5,.str 6,.int .i64 7,.int .i64 8,.int .i64 9,.int .i64 10,.int .i64 11],.one (.str 12),.one (.int .i64 13)],N:=100,M:=100,out:=.sbool (.boo true),news:=[] }
noncomputable def toY_call : Env→Za:=fun E => zS E (evH E (WTL E) ((fun E => oneH 5 (hooks [(11,Zf.hook E.facts nw_vs),(26,orH (lUa_D.hook E.facts tt_vs) (orH (lUb_D.hook E.facts tt_vs) (orH (lUc_D.hook E.facts tt_vs) (lUd_D.hook E.facts tt_vs))))])) E) 9)
noncomputable def toY_pre : List (X×Bool):=[(qTW32,true),(.app 213 [.var 1,qTW16,.var 12,.var 4],true)]
noncomputable def toY_t : GTree:=(.fork qTW5 (.leaf [[]]) (.fork qTW1 (.fork qTW6 (.leaf [[]]) (.fork qTW8 (.leaf [[]]) (.fork qTW19 (.fork qTW10 .bad (.fork qTW22 (.fork qTW14 (.fork qTW13 (.fork qTW17 (.leaf [[]]) (.fork qTW15 (.leaf [[]]) (.fork qTW11 (.fork qTW3 (.fork qTW20 (.fork qTW2 (.leaf [[]]) (.leaf [[]])) (.fork qTW2 (.leaf [[]]) (.leaf [[]]))) (.fork qTW20 (.fork qTW18 (.leaf [[]]) (.leaf [[]])) (.fork qTW18 (.leaf [[]]) (.leaf [[]])))) (.fork qTW3 (.fork qTW20 (.fork qTW12 (.leaf [[]]) (.leaf [[]])) (.fork qTW12 (.leaf [[]]) (.leaf [[]]))) (.fork qTW20 (.leaf [[]]) (.leaf [[]])))))) .bad) .bad) .bad)) .bad))) (.leaf [[]])))
noncomputable def toY_l : List (List (X×Bool)×Option zp):=[([(qTW5,true),(qTW9,true),(qTW7,true)],some []),
 ((qTW6,true) :: qTWf7,some []),
 ((qTW8,true) :: (qTW6,false) :: qTWf7,some []),
 ((qTW10,true) :: qTWf3,none),
 ((qTW17,true) :: (qTW13,true) :: qTWf9,some []),
 ((qTW15,true) :: (qTW17,false) :: (qTW13,true) :: qTWf9,some []),
 ((qTW2,true) :: (qTW20,true) :: qTWf16,some []),
 ((qTW2,false) :: (qTW20,true) :: qTWf16,some [(.boo true,.boo false)]),
 ((qTW2,true) :: (qTW20,false) :: qTWf16,some []),
 ((qTW2,false) :: (qTW20,false) :: qTWf16,some []),
 ((qTW18,true) :: (qTW20,true) :: qTWf13,some [(.boo true,.boo false)]),
 ((qTW18,false) :: (qTW20,true) :: qTWf13,some [(.boo true,.boo false)]),
 ((qTW18,true) :: (qTW20,false) :: qTWf13,some [(.boo true,qTW28)]),
 ((qTW18,false) :: (qTW20,false) :: qTWf13,some [(.boo true,qTW28)]),
 ((qTW12,true) :: (qTW20,true) :: qTWf14,some [(.boo true,.boo false)]),
 ((qTW12,false) :: (qTW20,true) :: qTWf14,some [(.boo true,.boo false)]),
 ((qTW12,true) :: (qTW20,false) :: qTWf14,some [(.boo true,qTW28)]),
 ((qTW12,false) :: (qTW20,false) :: qTWf14,some [(.boo true,qTW28)]),
 ((qTW20,true) :: (qTW3,false) :: (qTW11,false) :: qTWf1,some []),
 ((qTW20,false) :: (qTW3,false) :: (qTW11,false) :: qTWf1,some [(.boo true,.op1 .not qTW28)]),
 ((qTW13,false) :: qTWf9,none),
 ((qTW14,false) :: (qTW22,true) :: (qTW10,false) :: qTWf3,none),
 ((qTW22,false) :: (qTW10,false) :: qTWf3,none),
 ((qTW19,false) :: (qTW8,false) :: (qTW6,false) :: qTWf7,none),
 ([(qTW1,false),(qTW5,false),(qTW9,true),(qTW7,true)],some [])]
theorem toY_w (r : Rho) : toY_fn.ways toY_call E1 r toY_pre toY_t = some toY_l:=by kernel_rfl
set_option maxRecDepth 100000 in
theorem toH_toY {ρ : Rho} {l : List Rat9} {x : Rat9} {kx : Nat→IntKind} {g : ByteArray} {hr : Int} {k13 : IntKind} (h1 : ρ.val 1 = some (ratsR l)) (hx : Rat9At ρ 3 kx x) (h12 : ρ.val 12 = some (.string g)) (h13 : ρ.val 13 = some (.int k13 hr)) (hsy : ρ.sym = sy) (F : List (X×Bool)) : LoopsOk (E1.with F ρ) (oneH 5 (hooks [(11,Zf.hook (E1.with F ρ).facts nw_vs),(26,orH (lUa_D.hook (E1.with F ρ).facts tt_vs) (orH (lUb_D.hook (E1.with F ρ).facts tt_vs) (orH (lUc_D.hook (E1.with F ρ).facts tt_vs) (lUd_D.hook (E1.with F ρ).facts tt_vs))))])):=by
 have a0:=hx.h0
 have a1:=hx.h1
 have a2:=hx.h2
 have a3:=hx.h3
 have a4:=hx.h4
 have a5:=hx.h5
 have a6:=hx.h6
 have a7:=hx.h7
 have a8:=hx.h8
 simp only [Nat.reduceAdd] at a0 a1 a2 a3 a4 a5 a6 a7 a8
 have hxx : (⟨x.id,x.known,x.from_,x.goods,x.num,x.den,x.cart,x.store,x.of_⟩ : Rat9) = x:=rfl
 refine loops_all (n:=2) (fun f fn h => h) (by kernel_rfl) fun i hi => ?_
 have h01 : i = 0∨i = 1:=by omega
 rcases h01 with rfl | rfl
 ·rw [hooks_hit (show keyOf (yA (E1.with F ρ).P 5 0) = 11 by kernel_rfl)]
  refine hook_ok (E₀:=E1) (run:=lNy_run) (ρ:=ρ) (Inv:=lNy_Inv) (μ:=lNy_mu) E1_ok lNy_ok (fun F r' h => ?_) (fun hp => ?_)
  ·exact ye E1_ok (WTR_ok F (h.trans hsy)) fun _ _ => yc
  ·simp only [Zf,zf,gB,zd,gW,zm,h1,h12,h13,a0,a1,a2,a3,a4,a5,a6,a7,a8,hsy,hxx,zi,zG,ze,zF,zl,yk,zx,zw,zq,Option.some.injEq,Value.bool.injEq,and_true,beq_iff_eq] at hp
   exact ⟨lNy_step h1 hx h12 h13 hsy hp.1 hp.2.1 hp.2.2.1 hp.2.2.2.1 hp.2.2.2.2,[],rfl,by omega,rfl⟩
 ·rw [hooks_miss (show Nat.beq (keyOf (yA (E1.with F ρ).P 5 1)) 11 = false by kernel_rfl),hooks_hit (show keyOf (yA (E1.with F ρ).P 5 1) = 26 by kernel_rfl)]
  refine orH_ok ?_ ?_
  ·refine hook_ok (E₀:=E1) (run:=lUa_run) (ρ:=ρ) (Inv:=lUa_Inv l g x.known hr) (μ:=lUa_mu (zV l g x.known)) E1_ok lUa_ok (fun F r' h => ?_) (fun hp => ?_)
   ·exact ye E1_ok (noL1_ok F (h.trans hsy)) fun _ _ => yc
   ·simp only [lUa_D,zf,gB,zd,gW,zm,h1,h12,h13,hsy,zi,zG,ze,zF,zl,yk,zx,zw,zq,Option.some.injEq,Value.bool.injEq,and_true,beq_iff_eq,decide_eq_false_iff_not] at hp
    exact ⟨lUa_step h1 hx h12 h13 hsy hp.1 (by omega) (by omega),[.int .i64 0,.bool false],rfl,rfl,0,Nat.zero_le _,rfl⟩
  refine orH_ok ?_ ?_
  ·refine hook_ok (E₀:=E1) (run:=lUb_run) (ρ:=ρ) (Inv:=lUb_Inv l g x.known hr) (μ:=lUb_mu (zV l g x.known)) E1_ok lUb_ok (fun F r' h => ?_) (fun hp => ?_)
   ·exact ye E1_ok (noL1_ok F (h.trans hsy)) fun _ _ => yc
   ·simp only [lUb_D,zf,gB,zd,gW,zm,h1,h12,h13,hsy,zi,zG,ze,zF,zl,yk,zx,zw,zq,Option.some.injEq,Value.bool.injEq,and_true,beq_iff_eq,decide_eq_false_iff_not] at hp
    exact ⟨lUb_step h1 hx h12 h13 hsy hp.1 (by omega) (by omega),[.int .i64 0,.bool false],rfl,rfl,0,Nat.zero_le _,rfl⟩
  refine orH_ok ?_ ?_
  ·refine hook_ok (E₀:=E1) (run:=lUc_run) (ρ:=ρ) (Inv:=lUc_Inv l g x.known hr) (μ:=lUc_mu (zV l g x.known)) E1_ok lUc_ok (fun F r' h => ?_) (fun hp => ?_)
   ·exact ye E1_ok (noL1_ok F (h.trans hsy)) fun _ _ => yc
   ·simp only [lUc_D,zf,gB,zd,gW,zm,h1,h12,h13,hsy,zi,zG,ze,zF,zl,yk,zx,zw,zq,Option.some.injEq,Value.bool.injEq,and_true,beq_iff_eq,decide_eq_false_iff_not] at hp
    exact ⟨lUc_step h1 hx h12 h13 hsy hp.1 (by omega) (by omega),[.int .i64 0,.bool false],rfl,rfl,0,Nat.zero_le _,rfl⟩
  ·refine hook_ok (E₀:=E1) (run:=lUd_run) (ρ:=ρ) (Inv:=lUd_Inv l g x.known hr) (μ:=lUd_mu (zV l g x.known)) E1_ok lUd_ok (fun F r' h => ?_) (fun hp => ?_)
   ·exact ye E1_ok (noL1_ok F (h.trans hsy)) fun _ _ => yc
   ·simp only [lUd_D,zf,gB,zd,gW,zm,h1,h12,h13,hsy,zi,zG,ze,zF,zl,yk,zx,zw,zq,Option.some.injEq,Value.bool.injEq,and_true,beq_iff_eq,decide_eq_false_iff_not] at hp
    exact ⟨lUd_step h1 hx h12 h13 hsy hp.1 (by omega) (by omega),[.int .i64 0,.bool false],rfl,rfl,0,Nat.zero_le _,rfl⟩
theorem toY_out (σ : Sig) : toY_fn.out.inst σ = some (.bool true):=rfl
set_option maxRecDepth 100000 in
theorem toY_true {r : Rho} {σ : Sig} {w : World} {us : List Value} {l : List Rat9} {x : Rat9} {kx : Nat→IntKind} {g : ByteArray} {hr : Int} {k13 : IntKind} (h1 : r.val 1 = some (ratsR l)) (hx : Rat9At r 3 kx x) (h12 : r.val 12 = some (.string g)) (h13 : r.val 13 = some (.int k13 hr)) (hc2 : chkER (l ++ [x]) = 0) (ht : (tch l (l ++ [x]) g x.known).is = true) (hsy : r.sym = sy) (hρ : σ.rho = r) (hA : ∀ g id,E1.glob g = some id→∃ κ,σ id = some (g,κ)) (hrel : (memOf toY_fn.heap 100).rel Tryz.prog σ w (fun b => w.heap.size≤b)) (hins : Ins σ toY_fn.args us) :
  Calls Tryz.prog 5 us.toArray w fun e w' => e = .returned (.bool true)∧Kept (fun b => w.heap.size≤b) w w':=by
 have a0:=hx.h0
 have a1:=hx.h1
 have a2:=hx.h2
 have a3:=hx.h3
 have a4:=hx.h4
 have a5:=hx.h5
 have a6:=hx.h6
 have a7:=hx.h7
 have a8:=hx.h8
 simp only [Nat.reduceAdd] at a0 a1 a2 a3 a4 a5 a6 a7 a8
 have hxx : (⟨x.id,x.known,x.from_,x.goods,x.num,x.den,x.cart,x.store,x.of_⟩ : Rat9) = x:=rfl
 have hfew : okR9 l = true→(x.goods.size : Int)≤100→(l.length : Int)≤103→okR9 (l ++ [x]) = true:=fun a b c => ok_snoc a b (by omega)
 have hll : ((l ++ [x]).length : Int) = (l.length : Int) + 1:=by simp
 have hch : chkER l≠0→chkER (l ++ [x]) = chkER l:=chk_appT
 have p0 : za l g hr x.known 0 = some (.int .i64 (idAt l g hr x.known)):=rfl
 have p1 : za l g hr x.known 1 = some (.int .i64 ((inF l g hr x.known).getD zy).known):=rfl
 have p2 : za l g hr x.known 2 = some (.int .i64 ((inF l g hr x.known).getD zy).from_):=rfl
 have p3 : za l g hr x.known 3 = some (.string ((inF l g hr x.known).getD zy).goods):=rfl
 have p4 : za l g hr x.known 4 = some (.int .i64 ((inF l g hr x.known).getD zy).num):=rfl
 have p5 : za l g hr x.known 5 = some (.int .i64 ((inF l g hr x.known).getD zy).den):=rfl
 have p6 : za l g hr x.known 6 = some (.int .i64 ((inF l g hr x.known).getD zy).cart):=rfl
 have p7 : za l g hr x.known 7 = some (.int .i64 ((inF l g hr x.known).getD zy).store):=rfl
 have p8 : za l g hr x.known 8 = some (.int .i64 ((inF l g hr x.known).getD zy).of_):=rfl
 have q0 : za l g (IntKind.i64.wrap (hr - 1)) x.known 0 = some (.int .i64 (idAt l g (IntKind.i64.wrap (hr - 1)) x.known)):=rfl
 have q1 : za l g (IntKind.i64.wrap (hr - 1)) x.known 1 = some (.int .i64 ((inF l g (IntKind.i64.wrap (hr - 1)) x.known).getD zy).known):=rfl
 have q2 : za l g (IntKind.i64.wrap (hr - 1)) x.known 2 = some (.int .i64 ((inF l g (IntKind.i64.wrap (hr - 1)) x.known).getD zy).from_):=rfl
 have q3 : za l g (IntKind.i64.wrap (hr - 1)) x.known 3 = some (.string ((inF l g (IntKind.i64.wrap (hr - 1)) x.known).getD zy).goods):=rfl
 have q4 : za l g (IntKind.i64.wrap (hr - 1)) x.known 4 = some (.int .i64 ((inF l g (IntKind.i64.wrap (hr - 1)) x.known).getD zy).num):=rfl
 have q5 : za l g (IntKind.i64.wrap (hr - 1)) x.known 5 = some (.int .i64 ((inF l g (IntKind.i64.wrap (hr - 1)) x.known).getD zy).den):=rfl
 have q6 : za l g (IntKind.i64.wrap (hr - 1)) x.known 6 = some (.int .i64 ((inF l g (IntKind.i64.wrap (hr - 1)) x.known).getD zy).cart):=rfl
 have q7 : za l g (IntKind.i64.wrap (hr - 1)) x.known 7 = some (.int .i64 ((inF l g (IntKind.i64.wrap (hr - 1)) x.known).getD zy).store):=rfl
 have q8 : za l g (IntKind.i64.wrap (hr - 1)) x.known 8 = some (.int .i64 ((inF l g (IntKind.i64.wrap (hr - 1)) x.known).getD zy).of_):=rfl
 have hc1 : chkER l = 0:=by
  by_cases h : chkER l = 0
  ·exact h
  ·rw [hch h] at hc2; exact hc2
 have hwr : 1≤hr→hr≤1000000→(IntKind.i64.wrap (hr - 1)) = hr - 1:=fun a b => IntWalk.i64_in _ (by omega)
 have hno : 1≤hr→hr≤1000000→(zV l g x.known).length = 0→idAt l g hr x.known = idAt l g (IntKind.i64.wrap (hr - 1)) x.known:=fun a b c => by
  rw [hwr a b]
  refine Classical.byContradiction fun q => ?_
  obtain ⟨i,hi⟩:=(turn_says l g x.known hr).2 q
  have:=(List.getElem?_eq_some_iff.1 hi).1
  omega
 have z1 : (inF l g hr x.known).isSome = true→idAt l g hr x.known≠0:=fun e => by
  obtain ⟨y,hy⟩:=Option.isSome_iff_exists.1 e
  have:=y7 hc1 hy
  unfold idAt; rw [hy]; exact this
 have z2 : (inF l g (IntKind.i64.wrap (hr - 1)) x.known).isSome = true→idAt l g (IntKind.i64.wrap (hr - 1)) x.known≠0:=fun e => by
  obtain ⟨y,hy⟩:=Option.isSome_iff_exists.1 e
  have:=y7 hc1 hy
  unfold idAt; rw [hy]; exact this
 have z3 : (inF l g hr x.known).isSome = false→idAt l g hr x.known = 0:=fun e => by
  have:=Option.not_isSome_iff_eq_none.1 (by rw [e]; exact Bool.false_ne_true)
  unfold idAt; rw [this]; rfl
 have z4 : (inF l g (IntKind.i64.wrap (hr - 1)) x.known).isSome = false→idAt l g (IntKind.i64.wrap (hr - 1)) x.known = 0:=fun e => by
  have:=Option.not_isSome_iff_eq_none.1 (by rw [e]; exact Bool.false_ne_true)
  unfold idAt; rw [this]; rfl
 refine law_of (E:=E1) (D:=toY_fn) E1_ok (fun F => WTL_ok F hsy) (fun F => toH_toY h1 hx h12 h13 hsy F) (toY_w r) hρ hA ?_ hrel hins ?_ ?_ toY_out
 ·have : (chkER (l ++ [x]) == 0) = true:=by simpa using hc2
  simp only [toY_pre,zf,gB,zd,gW,zm,h1,h12,h13,a0,a1,a2,a3,a4,a5,a6,a7,a8,hxx,hsy,zi,zG,ze,zF,zl,yk,zx,zw,zq,this,ht,and_true]
 ·simp only [toY_pre,toY_t,gA,gB,d_iteB,gW,zm,h1,h12,h13,a0,a1,a2,a3,a4,a5,a6,a7,a8,hxx,hsy,zi,zG,ze,zF,zl,yk,zx,zw,zq,p0,p1,p2,p3,p4,p5,p6,p7,p8,q0,q1,q2,q3,q4,q5,q6,q7,q8]
  try simp
 ·simp only [toY_l,gE,dZ,gB,d_iteB,g3,gW,zm,h1,h12,h13,a0,a1,a2,a3,a4,a5,a6,a7,a8,hxx,hsy,zi,zG,ze,zF,zl,yk,zx,zw,zq,p0,p1,p2,p3,p4,p5,p6,p7,p8,q0,q1,q2,q3,q4,q5,q6,q7,q8]
  clear hρ hrel hins h1 h12 h13 a0 a1 a2 a3 a4 a5 a6 a7 a8 hx hsy hA
  (repeat' apply And.intro) <;> intros <;> first
    | (exact True.intro)
    | rfl
    | contradiction
    | (exfalso; omega)
    | (simp_all; done)
    | (exfalso; simp_all; done)
    | (exfalso; simp_all; omega)
    | (exfalso; exact z2 (by assumption) (Eq.symm (by assumption)))
    | (exfalso; exact z1 (by assumption) (by assumption))
end Go.Proofs.YtfddkbbjnghefaaGreatDoor.Zs
