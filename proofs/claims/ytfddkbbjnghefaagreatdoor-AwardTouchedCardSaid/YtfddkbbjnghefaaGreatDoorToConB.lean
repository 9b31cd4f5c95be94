/-
  Contracts: CheckRates.
-/
import Derived.Test.YtfddkbbjnghefaaGreatDoorToConG
import Derived.KernelRfl
set_option linter.unusedSimpArgs false
set_option linter.unusedVariables false
namespace Go.Proofs.YtfddkbbjnghefaaGreatDoor.Zs
open Go
noncomputable def LS : Env→yj:=libs [cLib cRt_con]
theorem LS_ok (F : List (X×Bool)) {r : Rho} (h : r.sym = sy) : zu (E0.with F r) (LS (E0.with F r)):=libs_ok fun c hc => by
 simp only [List.mem_cons,List.not_mem_nil,or_false] at hc
 subst hc; exact ya (E:=E0) cRt_cok F h
def ck_vs : List X:=[.num 0,.nil,.nil,.nil,.num 0]
abbrev qRB19 : X:=.cell 1 (.var 1) (.var 100)
abbrev qRB0 : X:=.ite (.app 130 [.cell 0 (.var 1) (.var 100),qRB19,.cell 2 (.var 1) (.var 100),.cell 3 (.var 1) (.var 100),.cell 4 (.var 1) (.var 100),.cell 5 (.var 1) (.var 100),.cell 6 (.var 1) (.var 100),.cell 7 (.var 1) (.var 100),.cell 8 (.var 1) (.var 100)]) (.num 0) (.num 1)
abbrev qRB1 : X:=.op2 (.mput 1) (.var 101) (.snoc .nil [.op1 (.kind .i64) (.cell 0 (.var 1) (.var 100)),.op1 (.kind .i64) (.cell 0 (.var 1) (.var 100)),.op1 (.kind .i64) qRB19,.op1 (.kind .i64) (.cell 8 (.var 1) (.var 100)),.op1 (.kind .i64) (.num 0)])
abbrev qRB2 : X:=.snoc .nil [.op1 (.kind .i64) (.cell 8 (.var 1) (.var 100))]
abbrev qRB3 : X:=.op2 .mhas (.var 101) (.snoc .nil [.op1 (.kind .i64) (.cell 0 (.var 1) (.var 100))])
abbrev qRB4 : X:=.op2 .lt (.num 100) (.op1 .slen (.cell 3 (.var 1) (.var 100)))
abbrev qRB5 : X:=.op2 .lt (.var 100) (.op1 .len (.var 1))
abbrev qRB6 : X:=.op2 .lt qRB19 (.var 104)
abbrev qRB18 : X:=.app 200 [.var 1]
abbrev qRB7 : X:=.op2 .eq qRB18 (.num 0)
abbrev qRB8 : X:=.op2 .eq (.cell 8 (.var 1) (.var 100)) (.num 0)
abbrev qRB9 : X:=.op2 .eq (.var 100) (.num 100)
abbrev qRB10 : X:=.op2 .lt (.var 100) (.num 0)
abbrev qRB11 : X:=.snoc .nil [.op1 (.kind .i64) (.num 0)]
abbrev qRB12 : X:=.op2 (.mput 1) (.var 102) (.snoc .nil [.op1 (.kind .i64) (.cell 8 (.var 1) (.var 100)),.boo true])
abbrev qRB13 : X:=.op2 .eq (.op2 (.mat 3) (.var 101) qRB2) (.num 0)
abbrev qRB14 : X:=.op2 .eq qRB0 (.num 0)
abbrev qRB15 : X:=.op1 (.wrap .i64) (.op2 .add (.var 100) (.num 1))
abbrev qRB16 : X:=.op2 .mhas (.var 101) qRB2
abbrev qRB17 : X:=.app 201 [.var 1]
abbrev qRB20 : X:=.op2 .mhas (.var 102) qRB2
abbrev qRB21 : X:=.op2 .mhas qRB1 qRB2
abbrev qRB22 : X:=.op2 .mdel (.var 103) (.snoc .nil [.op1 (.kind .i64) (.op2 (.mat 4) qRB1 qRB2)])
abbrev qRB23 : X:=.op2 (.mat 1) (.var 102) qRB2
abbrev qRB24 : X:=.op1 .not qRB7
abbrev qRB25 : X:=.op2 .mhas (.var 103) qRB11
abbrev qRBf1 : List (X×Bool):=[(qRB4,false),(qRB9,false),(qRB5,true),(qRB10,false)]
abbrev qRBf0 : List (X×Bool):=(qRB6,false) :: (qRB3,false) :: (qRB14,true) :: qRBf1
abbrev qRBf2 : List (X×Bool):=(qRB13,true) :: (qRB16,true) :: (qRB8,false) :: qRBf0
noncomputable def lCk_D : LoopD:={ N:=100,M:=105,size:=sizeOfF 58,reads:=[(0,.rows 9 ratSch (.var 0) (.var 1) false 26)],pats:=[{ slots:=[(0,.slx 0 9 (.var 0) (.num 0) (.op1 .len (.var 1)) (.var 2)),(1,.int .i64 100),(2,.func (.func 59) [] []),(3,.func (.func 60) [] []),(10,.ptr 4 0),(18,.slx 0 9 (.var 0) (.num 0) (.op1 .len (.var 1)) (.var 2)),(19,.sint .i64 (.op1 .len (.var 1))),(20,.sint .i64 (.var 100))],heap:=[(1,.smap false [.int .i64] true [.int .i64,.int .i64,.int .i64,.int .i64] (.var 101)),(2,.smap false [.int .i64] false [.bool] (.var 102)),(3,.smap false [.int .i64] false [.bool] (.var 103)),(4,.cells [.map 1,.map 2,.map 3,.sint .i64 (.var 104)] 140)] }],exits:=[(.exit 0,{ slots:=[],heap:=[],guard:=.op2 .eq (.app 200 [.var 1]) (.num 0) }),(.ret,{ slots:=[(8,.sint .i64 (.app 201 [.var 1])),(9,.sint .i64 (.app 200 [.var 1]))],heap:=[],guard:=.op1 .not (.op2 .eq (.app 200 [.var 1]) (.num 0)) })],own:=[1,2,3,4],pre:=[(.app 202 [.var 1],true)],dfs:=[] }
noncomputable def lCk_run : Env→AF→ASt→Option (List Out):=bodyRun LS 9 (fun _ => noLoop) (yA Tryz.prog 58 0)
def lCk0_F : List (X×Bool):=[(qRB10,false)]
noncomputable def lCk0_t : FTree:=(.fork qRB5 (.fork qRB9 (.leaf [.leave 1 []]) (.fork qRB4 .bad (.fork qRB14 (.fork qRB3 (.leaf [.leave 1 []]) (.fork qRB6 (.leaf [.leave 1 []]) (.fork qRB8 (.fork qRB25 (.fork (.op2 (.mat 1) (.var 103) qRB11) (.leaf [.leave 1 []]) (.leaf [.again 0 []])) (.leaf [.again 0 []])) (.fork qRB16 (.fork qRB13 (.fork qRB20 (.fork qRB23 (.leaf [.leave 1 []]) (.fork qRB21 (.leaf [.again 0 []]) (.leaf [.again 0 []]))) (.fork qRB21 (.leaf [.again 0 []]) (.leaf [.again 0 []]))) (.leaf [.leave 1 []])) (.leaf [.leave 1 []]))))) (.leaf [.leave 1 []])))) (.leaf [.leave 0 []]))
noncomputable def lCk0_l : List (List (X×Bool)×Option (List (Tgt×zp))):=[([(qRB9,true),(qRB5,true),(qRB10,false)],some [(.leave 1 [],[(qRB17,.var 100),(qRB18,.num 2),(qRB24,.boo true)])]),
 ([(qRB4,true),(qRB9,false),(qRB5,true),(qRB10,false)],none),
 ((qRB3,true) :: (qRB14,true) :: qRBf1,some [(.leave 1 [],[(qRB17,.var 100),(qRB18,.num 6),(qRB24,.boo true)])]),
 ((qRB6,true) :: (qRB3,false) :: (qRB14,true) :: qRBf1,some [(.leave 1 [],[(qRB17,.var 100),(qRB18,.num 7),(qRB24,.boo true)])]),
 ((.op2 (.mat 1) (.var 103) qRB11,true) :: (qRB25,true) :: (qRB8,true) :: qRBf0,some [(.leave 1 [],[(qRB17,.var 100),(qRB18,.num 61),(qRB24,.boo true)])]),
 ((.op2 (.mat 1) (.var 103) qRB11,false) :: (qRB25,true) :: (qRB8,true) :: qRBf0,some [(.again 0 [],[(.var 100,qRB15),(.var 101,qRB1),(.var 102,.var 102),(.var 103,.var 103),(.var 104,qRB19)])]),
 ((qRB25,false) :: (qRB8,true) :: qRBf0,some [(.again 0 [],[(.var 100,qRB15),(.var 101,qRB1),(.var 102,.var 102),(.var 103,.var 103),(.var 104,qRB19)])]),
 ((qRB23,true) :: (qRB20,true) :: qRBf2,some [(.leave 1 [],[(qRB17,.var 100),(qRB18,.num 6),(qRB24,.boo true)])]),
 ((qRB21,true) :: (qRB23,false) :: (qRB20,true) :: qRBf2,some [(.again 0 [],[(.var 100,qRB15),(.var 101,qRB1),(.var 102,qRB12),(.var 103,qRB22),(.var 104,qRB19)])]),
 ((qRB21,false) :: (qRB23,false) :: (qRB20,true) :: qRBf2,some [(.again 0 [],[(.var 100,qRB15),(.var 101,qRB1),(.var 102,qRB12),(.var 103,.op2 .mdel (.var 103) qRB11),(.var 104,qRB19)])]),
 ((qRB21,true) :: (qRB20,false) :: qRBf2,some [(.again 0 [],[(.var 100,qRB15),(.var 101,qRB1),(.var 102,qRB12),(.var 103,qRB22),(.var 104,qRB19)])]),
 ((qRB21,false) :: (qRB20,false) :: qRBf2,some [(.again 0 [],[(.var 100,qRB15),(.var 101,qRB1),(.var 102,qRB12),(.var 103,.op2 .mdel (.var 103) qRB11),(.var 104,qRB19)])]),
 ((qRB13,false) :: (qRB16,true) :: (qRB8,false) :: qRBf0,some [(.leave 1 [],[(qRB17,.var 100),(qRB18,.num 5),(qRB24,.boo true)])]),
 ((qRB16,false) :: (qRB8,false) :: qRBf0,some [(.leave 1 [],[(qRB17,.var 100),(qRB18,.num 5),(qRB24,.boo true)])]),
 ((qRB14,false) :: qRBf1,some [(.leave 1 [],[(qRB17,.var 100),(qRB18,qRB0),(qRB24,.boo true)])]),
 ([(qRB5,false),(qRB10,false)],some [(.leave 0 [],[(qRB7,.boo true)])])]
theorem lCk0_w (r : Rho) : lCk_D.ways lCk_run E0 r 0 lCk0_F lCk0_t = some lCk0_l:=by kernel_rfl
theorem lCk_ok : lCk_D.ok = true:=by kernel_rfl
def lCk_Inv (l : List Rat9) (j : Nat) (vals : List Value) : Prop:=
 j = 0∧∃ i : Nat,i≤l.length∧vals = [.int .i64 (i : Int),recsR (recMh (zt (l.take i))),yH (voidMh (zt (l.take i))),yH [],.int .i64 (lastSh (zt (l.take i)))]∧∀ k,k < i→badR l k = 0
def lCk_mu (l : List Rat9) (_ : Nat) (vals : List Value) : Nat:=l.length - (vI (vals.getD 0 default)).toNat
theorem d_atF1 (m : List Flg) (k : Int) (h : hasF m k = true) : den2 (.mat 1) (yH m) (zP [⟨k⟩]) = some (.bool (atF m k)):=by rw [d_atF,h]; rfl
theorem at_noF {m : List Flg} {k : Int} (h : hasF m k = false) : atF m k = false:=by
 have : m.find? (fun x => x.k == k) = none:=List.find?_eq_none.2 fun x hx => by
  have:=List.any_eq_false.1 h x hx
  simpa using this
 simp [atF,this]
theorem get_noR {m : List Rec5} {k : Int} (h : hasR m k = false) : getR m k = ⟨0,0,0,0,0⟩:=by
 have : m.find? (fun x => x.k == k) = none:=List.find?_eq_none.2 fun x hx => by
  have:=List.any_eq_false.1 h x hx
  simpa using this
 simp [getR,this]
theorem ok_len {l : List Rat9} (h : okR9 l = true) : (l.length : Int)≤1010:=by
 unfold okR9 at h
 simp only [Bool.and_eq_true,decide_eq_true_eq] at h
 exact h.1
theorem ok_goods {l : List Rat9} (h : okR9 l = true) {i : Nat} {x : Rat9} (hp : l[i]? = some x) : (x.goods.size : Int)≤100:=by
 unfold okR9 at h
 simp only [Bool.and_eq_true,List.all_eq_true,decide_eq_true_eq] at h
 exact h.2 x (List.mem_of_getElem? hp)
theorem headsR9_snoc (l : List Rat9) (x : Rat9) : zt (l ++ [x]) = zt l ++ [⟨x.id,x.known,x.of_⟩]:=by simp [zt]
theorem hasF_nil (k : Int) : hasF [] k = false:=rfl
set_option maxHeartbeats 4000000 in
theorem lCk_step {ρ : Rho} {l : List Rat9} (h1 : ρ.val 1 = some (ratsR l)) (hsy : ρ.sym = sy) (hsh : okR9 l = true) (j : Nat) (vals : List Value) (hI : lCk_Inv l j vals) :
  yn lCk_D lCk_run E0 ρ (lCk_Inv l) (lCk_mu l) j vals:=by
 obtain ⟨rfl,i,hi,rfl,hall⟩:=hI
 have hN : lCk_D.N = 100:=rfl
 have hmax:=ok_len hsh
 have xl {jq vq}:=@xL ρ lCk_D.N 100 [.int .i64 (i : Int),recsR (recMh (zt (l.take i))),yH (voidMh (zt (l.take i))),yH [],.int .i64 (lastSh (zt (l.take i)))] jq vq hN
 have xh {jq vq}:=@xH ρ lCk_D.N 100 [.int .i64 (i : Int),recsR (recMh (zt (l.take i))),yH (voidMh (zt (l.take i))),yH [],.int .i64 (lastSh (zt (l.take i)))] jq vq hN
 have v1:=xl (jq:=1) h1 (by decide)
 have v100:=xh (jq:=100) (vq:=.int .i64 (i : Int)) rfl (by decide)
 have v101:=xh (jq:=101) (vq:=recsR (recMh (zt (l.take i)))) rfl (by decide)
 have v102:=xh (jq:=102) (vq:=yH (voidMh (zt (l.take i)))) rfl (by decide)
 have v103:=xh (jq:=103) (vq:=yH []) rfl (by decide)
 have v104:=xh (jq:=104) (vq:=.int .i64 (lastSh (zt (l.take i)))) rfl (by decide)
 have vs : (ρ.ext lCk_D.N [.int .i64 (i : Int),recsR (recMh (zt (l.take i))),yH (voidMh (zt (l.take i))),yH [],.int .i64 (lastSh (zt (l.take i)))]).sym = sy:=hsy
 have hF : zf (ρ.ext lCk_D.N [.int .i64 (i : Int),recsR (recMh (zt (l.take i))),yH (voidMh (zt (l.take i))),yH [],.int .i64 (lastSh (zt (l.take i)))]) lCk0_F:=by
  simp only [lCk0_F,zf,gB,zd,v100,Option.some.injEq,Value.bool.injEq,decide_eq_false_iff_not,and_true]
  omega
 suffices both : y9 (ρ.ext lCk_D.N [.int .i64 (i : Int),recsR (recMh (zt (l.take i))),yH (voidMh (zt (l.take i))),yH [],.int .i64 (lastSh (zt (l.take i)))]) (lCk0_t.asks lCk0_F)∧zD lCk_D ρ (lCk_Inv l) (lCk_mu l) 0 [.int .i64 (i : Int),recsR (recMh (zt (l.take i))),yH (voidMh (zt (l.take i))),yH [],.int .i64 (lastSh (zt (l.take i)))] lCk0_l from zC (lCk0_w _) hF both.1.ok both.2
 cases hp : l[i]? with
 | none =>
   have hge:=List.getElem?_eq_none_iff.1 hp
   have hge' : ¬ (i : Int) < l.length:=by omega
   have he : chkER l = 0:=by unfold chkER; rw [stopR_none fun k hk => hall k (by omega)]
   refine ⟨?_,?_⟩
   ·simp only [lCk0_t,lCk0_F,gA,gB,zd,yV,yU,yW,yr,yq,zI,zJ,rats_len,zU,zH,v1,v100,v101,v102,v103,v104,vs,ze,sym130,zi,zG,Int.toNat_natCast,hp,hge']
    try simp
   ·simp only [lCk0_l,gE,dZ,gB,zd,g3,yV,yU,yW,yr,yq,zI,zJ,rats_len,zU,zH,v1,v100,v101,v102,v103,v104,vs,h1,hsy,ze,sym130,zi,zG,Int.toNat_natCast,hp,hge',he,reduceCtorEq,gR]
    try simp
 | some x =>
   have hil : i < l.length:=(List.getElem?_eq_some_iff.1 hp).1
   have hil1 : (i : Int) < l.length:=by omega
   have hgx : l.getD i zy = x:=by rw [List.getD_eq_getElem?_getD,hp]; rfl
   have hbad : badR l i = if i = 100 then 2 else bif rateB x then refH (zt (l.take i)) ⟨x.id,x.known,x.of_⟩ else 1:=by unfold badR; rw [hgx]
   have hw : IntKind.i64.wrap ((i : Int) + 1) = ((i + 1 : Nat) : Int):=by rw [IntWalk.i64_in _ (by omega)]; rfl
   have h200 : ((i : Int) = 100) = (i = 100):=by rw [eq_iff_iff]; omega
   have hgd:=ok_goods hsh hp
   have hgs : ((100 : Int) < x.goods.size) = False:=eq_false (by omega)
   have out : ∀ e,badR l i = e→e≠0→chkIR l = i∧chkER l = e:=fun e he hne => by
    have:=stopR_some hil hall (by rw [he]; exact hne)
    unfold chkIR chkER
    rw [this]
    exact ⟨rfl,he⟩
   have ht : zt (l.take (i + 1)) = zt (l.take i) ++ [⟨x.id,x.known,x.of_⟩]:=by rw [List.take_add_one,hp]; exact headsR9_snoc _ x
   have t1 : recMh (zt (l.take (i + 1))) = putR (recHd ⟨x.id,x.known,x.of_⟩) (recMh (zt (l.take i))):=by rw [ht]; exact recMh_snoc _ _
   have t2 : voidMh (zt (l.take (i + 1))) = if x.of_ = 0 then voidMh (zt (l.take i)) else putF x.of_ true (voidMh (zt (l.take i))):=by rw [ht]; exact voidMh_snoc _ _
   have t4 : lastSh (zt (l.take (i + 1))) = x.known:=by rw [ht]; exact lastSh_snoc _ _
   have go : badR l i = 0→∀ a b,a = recMh (zt (l.take (i + 1)))→b = voidMh (zt (l.take (i + 1)))→∃ vals',((ρ.ext lCk_D.N vals').val 100 = some (.int .i64 ((i + 1 : Nat) : Int))∧(ρ.ext lCk_D.N vals').val 101 = some (recsR a)∧(ρ.ext lCk_D.N vals').val 102 = some (yH b)∧(ρ.ext lCk_D.N vals').val 103 = some (yH [])∧(ρ.ext lCk_D.N vals').val 104 = some (.int .i64 x.known))∧lCk_Inv l 0 vals'∧lCk_mu l 0 vals' < lCk_mu l 0 [.int .i64 (i : Int),recsR (recMh (zt (l.take i))),yH (voidMh (zt (l.take i))),yH [],.int .i64 (lastSh (zt (l.take i)))]:=by
    rintro hb _ _ rfl rfl
    refine ⟨[.int .i64 ((i + 1 : Nat) : Int),recsR (recMh (zt (l.take (i + 1)))),yH (voidMh (zt (l.take (i + 1)))),yH [],.int .i64 (lastSh (zt (l.take (i + 1))))],⟨?_,?_,?_,?_,?_⟩,⟨rfl,i + 1,by omega,rfl,fun k hk => ?_⟩,?_⟩
    ·exact xH hN rfl (by decide)
    ·exact xH hN rfl (by decide)
    ·exact xH hN rfl (by decide)
    ·exact xH hN rfl (by decide)
    ·rw [yZ _ _ _ _ (by rw [hN]; omega),← t4]; rfl
    ·rcases Nat.lt_or_ge k i with h | h
     ·exact hall k h
     ·rw [show k = i by omega]; exact hb
    ·simp [lCk_mu,vI]; omega
   have hmu : lCk_mu l 0 [.int .i64 (i : Int),recsR (recMh (zt (l.take i))),yH (voidMh (zt (l.take i))),yH [],.int .i64 (lastSh (zt (l.take i)))] = l.length - i:=by simp [lCk_mu,vI]
   rw [hmu] at go
   have hxs : rateB ⟨x.id,x.known,x.from_,x.goods,x.num,x.den,x.cart,x.store,x.of_⟩ = rateB x:=rfl
   have hro : (⟨x.id,x.id,x.known,x.of_,0⟩ : Rec5) = recHd ⟨x.id,x.known,x.of_⟩:=rfl
   have hnil : ∀ k,hasF [] k = false:=hasF_nil
   unfold refH at hbad
   have bz : ∀ a : Int,(a == 0) = decide (a = 0):=fun a => by rw [Bool.eq_iff_iff]; simp
   have bl : ∀ a b : Int,decide (a < b) = !(decide (b≤a)):=fun a b => by rw [Bool.eq_iff_iff]; simp
   simp only [bz,bl] at hbad
   clear bz bl
   rw [t1,t2] at go
   clear t1 t2 t4 ht
   generalize recMh (zt (l.take i)) = rm at hbad go v101 v1 v100 v102 v103 v104 vs hF ⊢
   generalize voidMh (zt (l.take i)) = vm at hbad go v101 v1 v100 v102 v103 v104 vs hF ⊢
   generalize lastSh (zt (l.take i)) = lk at hbad go v101 v1 v100 v102 v103 v104 vs hF ⊢
   cases eS : rateB x with
   | false =>
     refine ⟨?_,?_⟩
     all_goals (simp only [lCk0_t,lCk0_F,lCk0_l,gA,gB,zd,yV,yU,yW,yr,yq,zI,zJ,rats_len,zU,zH,zR,zD,zh,zk,yw,yy,zr,zE,dZ,g3,v1,v100,v101,v102,v103,v104,vs,h1,hsy,ze,sym130,zi,zG,Int.toNat_natCast,hp,Option.bind_some,gN,hil1,hw,hxs,hro,h200,hgs,hnil,eS,reduceCtorEq,Bool.false_eq_true,false_implies,true_implies,and_true,true_and])
     all_goals (clear v1 v100 v101 v102 v103 v104 vs h1 hsy hp hF)
     all_goals ((repeat' apply And.intro) <;> intros <;> first
      | trivial
      | contradiction
      | (exact go (by rw [hbad]; simp_all) _ _ rfl (by simp_all))
      | (obtain ⟨oa,ob⟩:=out 7 (by rw [hbad,show decide (lk≤x.known) = false from decide_eq_false (by omega)]; simp_all) (by decide); simp [oa,ob]; done)
      | (obtain ⟨oa,ob⟩:=out 2 (by rw [hbad]; simp_all) (by decide); simp [oa,ob]; done) | (obtain ⟨oa,ob⟩:=out 6 (by rw [hbad]; simp_all) (by decide); simp [oa,ob]; done) | (obtain ⟨oa,ob⟩:=out 7 (by rw [hbad]; simp_all) (by decide); simp [oa,ob]; done) | (obtain ⟨oa,ob⟩:=out 5 (by rw [hbad]; simp_all) (by decide); simp [oa,ob]; done) | (obtain ⟨oa,ob⟩:=out 1 (by rw [hbad]; simp_all) (by decide); simp [oa,ob]; done)
      | (exfalso; omega)
      | (exfalso; simp_all; done)
      | (simp_all; done))
   | true =>
     by_cases hof : x.of_ = 0
     ·have hofe : (x.of_ = 0) = True:=eq_true hof
      refine ⟨?_,?_⟩
      all_goals (simp only [lCk0_t,lCk0_F,lCk0_l,gA,gB,zd,yV,yU,yW,yr,yq,zI,zJ,rats_len,zU,zH,zR,zD,zh,zk,yw,yy,zr,zE,dZ,g3,v1,v100,v101,v102,v103,v104,vs,h1,hsy,ze,sym130,zi,zG,Int.toNat_natCast,hp,Option.bind_some,gN,hil1,hw,hxs,hro,h200,hgs,hnil,eS,hofe,reduceCtorEq,Bool.false_eq_true,false_implies,true_implies,and_true,true_and])
      all_goals (clear v1 v100 v101 v102 v103 v104 vs h1 hsy hp hF)
      all_goals ((repeat' apply And.intro) <;> intros <;> first
       | trivial
       | contradiction
       | (exact go (by rw [hbad]; simp_all) _ _ rfl (by simp_all))
       | (obtain ⟨oa,ob⟩:=out 7 (by rw [hbad,show decide (lk≤x.known) = false from decide_eq_false (by omega)]; simp_all) (by decide); simp [oa,ob]; done)
       | (obtain ⟨oa,ob⟩:=out 2 (by rw [hbad]; simp_all) (by decide); simp [oa,ob]; done) | (obtain ⟨oa,ob⟩:=out 6 (by rw [hbad]; simp_all) (by decide); simp [oa,ob]; done) | (obtain ⟨oa,ob⟩:=out 7 (by rw [hbad]; simp_all) (by decide); simp [oa,ob]; done) | (obtain ⟨oa,ob⟩:=out 5 (by rw [hbad]; simp_all) (by decide); simp [oa,ob]; done) | (obtain ⟨oa,ob⟩:=out 1 (by rw [hbad]; simp_all) (by decide); simp [oa,ob]; done)
       | (exfalso; omega)
       | (exfalso; simp_all; done)
       | (simp_all; done))
     ·have hofe : (x.of_ = 0) = False:=eq_false hof
      cases eR : hasR rm x.of_ with
      | false =>
        refine ⟨?_,?_⟩
        all_goals (simp only [lCk0_t,lCk0_F,lCk0_l,gA,gB,zd,yV,yU,yW,yr,yq,zI,zJ,rats_len,zU,zH,zR,zD,zh,zk,yw,yy,zr,zE,dZ,g3,v1,v100,v101,v102,v103,v104,vs,h1,hsy,ze,sym130,zi,zG,Int.toNat_natCast,hp,Option.bind_some,gN,hil1,hw,hxs,hro,h200,hgs,hnil,eS,eR,hofe,reduceCtorEq,Bool.false_eq_true,false_implies,true_implies,and_true,true_and])
        all_goals (clear v1 v100 v101 v102 v103 v104 vs h1 hsy hp hF)
        all_goals ((repeat' apply And.intro) <;> intros <;> first
         | trivial
         | contradiction
         | (exact go (by rw [hbad]; simp_all) _ _ rfl (by simp_all))
         | (obtain ⟨oa,ob⟩:=out 7 (by rw [hbad,show decide (lk≤x.known) = false from decide_eq_false (by omega)]; simp_all) (by decide); simp [oa,ob]; done)
         | (obtain ⟨oa,ob⟩:=out 2 (by rw [hbad]; simp_all) (by decide); simp [oa,ob]; done) | (obtain ⟨oa,ob⟩:=out 6 (by rw [hbad]; simp_all) (by decide); simp [oa,ob]; done) | (obtain ⟨oa,ob⟩:=out 7 (by rw [hbad]; simp_all) (by decide); simp [oa,ob]; done) | (obtain ⟨oa,ob⟩:=out 5 (by rw [hbad]; simp_all) (by decide); simp [oa,ob]; done) | (obtain ⟨oa,ob⟩:=out 1 (by rw [hbad]; simp_all) (by decide); simp [oa,ob]; done)
         | (exfalso; omega)
         | (exfalso; simp_all; done)
         | (simp_all; done))
      | true =>
        have r3 : den2 (.mat 3) (recsR rm) (zP [⟨x.of_⟩]) = some (.int .i64 (getR rm x.of_).of_):=by rw [d_atR5,eR]; rfl
        cases eQ : hasR (putR (recHd ⟨x.id,x.known,x.of_⟩) rm) x.of_ with
        | false =>
          have r5 : (getR (putR (recHd ⟨x.id,x.known,x.of_⟩) rm) x.of_).parcel = 0:=by rw [get_noR eQ]
          cases eV : hasF vm x.of_ with
          | false =>
            have f3:=at_noF eV
            refine ⟨?_,?_⟩
            all_goals (simp only [lCk0_t,lCk0_F,lCk0_l,gA,gB,zd,yV,yU,yW,yr,yq,zI,zJ,rats_len,zU,zH,zR,zD,zh,zk,yw,yy,zr,zE,dZ,g3,v1,v100,v101,v102,v103,v104,vs,h1,hsy,ze,sym130,zi,zG,Int.toNat_natCast,hp,Option.bind_some,gN,hil1,hw,hxs,hro,h200,hgs,hnil,eS,eR,eQ,eV,r3,hofe,reduceCtorEq,Bool.false_eq_true,false_implies,true_implies,and_true,true_and])
            all_goals (clear v1 v100 v101 v102 v103 v104 vs h1 hsy hp hF)
            all_goals ((repeat' apply And.intro) <;> intros <;> first
             | trivial
             | contradiction
             | (exact go (by rw [hbad]; simp_all) _ _ rfl (by simp_all))
             | (obtain ⟨oa,ob⟩:=out 7 (by rw [hbad,show decide (lk≤x.known) = false from decide_eq_false (by omega)]; simp_all) (by decide); simp [oa,ob]; done)
             | (obtain ⟨oa,ob⟩:=out 2 (by rw [hbad]; simp_all) (by decide); simp [oa,ob]; done) | (obtain ⟨oa,ob⟩:=out 6 (by rw [hbad]; simp_all) (by decide); simp [oa,ob]; done) | (obtain ⟨oa,ob⟩:=out 7 (by rw [hbad]; simp_all) (by decide); simp [oa,ob]; done) | (obtain ⟨oa,ob⟩:=out 5 (by rw [hbad]; simp_all) (by decide); simp [oa,ob]; done) | (obtain ⟨oa,ob⟩:=out 1 (by rw [hbad]; simp_all) (by decide); simp [oa,ob]; done)
             | (exfalso; omega)
             | (exfalso; simp_all; done)
             | (simp_all; done))
          | true =>
            have f1:=d_atF1 vm x.of_ eV
            refine ⟨?_,?_⟩
            all_goals (simp only [lCk0_t,lCk0_F,lCk0_l,gA,gB,zd,yV,yU,yW,yr,yq,zI,zJ,rats_len,zU,zH,zR,zD,zh,zk,yw,yy,zr,zE,dZ,g3,v1,v100,v101,v102,v103,v104,vs,h1,hsy,ze,sym130,zi,zG,Int.toNat_natCast,hp,Option.bind_some,gN,hil1,hw,hxs,hro,h200,hgs,hnil,eS,eR,eQ,eV,r3,f1,hofe,reduceCtorEq,Bool.false_eq_true,false_implies,true_implies,and_true,true_and])
            all_goals (clear v1 v100 v101 v102 v103 v104 vs h1 hsy hp hF)
            all_goals ((repeat' apply And.intro) <;> intros <;> first
             | trivial
             | contradiction
             | (exact go (by rw [hbad]; simp_all) _ _ rfl (by simp_all))
             | (obtain ⟨oa,ob⟩:=out 7 (by rw [hbad,show decide (lk≤x.known) = false from decide_eq_false (by omega)]; simp_all) (by decide); simp [oa,ob]; done)
             | (obtain ⟨oa,ob⟩:=out 2 (by rw [hbad]; simp_all) (by decide); simp [oa,ob]; done) | (obtain ⟨oa,ob⟩:=out 6 (by rw [hbad]; simp_all) (by decide); simp [oa,ob]; done) | (obtain ⟨oa,ob⟩:=out 7 (by rw [hbad]; simp_all) (by decide); simp [oa,ob]; done) | (obtain ⟨oa,ob⟩:=out 5 (by rw [hbad]; simp_all) (by decide); simp [oa,ob]; done) | (obtain ⟨oa,ob⟩:=out 1 (by rw [hbad]; simp_all) (by decide); simp [oa,ob]; done)
             | (exfalso; omega)
             | (exfalso; simp_all; done)
             | (simp_all; done))
        | true =>
          have r4 : den2 (.mat 4) (recsR (putR (recHd ⟨x.id,x.known,x.of_⟩) rm)) (zP [⟨x.of_⟩]) = some (.int .i64 (getR (putR (recHd ⟨x.id,x.known,x.of_⟩) rm) x.of_).parcel):=by rw [d_atR5,eQ]; rfl
          cases eV : hasF vm x.of_ with
          | false =>
            have f3:=at_noF eV
            refine ⟨?_,?_⟩
            all_goals (simp only [lCk0_t,lCk0_F,lCk0_l,gA,gB,zd,yV,yU,yW,yr,yq,zI,zJ,rats_len,zU,zH,zR,zD,zh,zk,yw,yy,zr,zE,dZ,g3,v1,v100,v101,v102,v103,v104,vs,h1,hsy,ze,sym130,zi,zG,Int.toNat_natCast,hp,Option.bind_some,gN,hil1,hw,hxs,hro,h200,hgs,hnil,eS,eR,eQ,eV,r3,hofe,r4,reduceCtorEq,Bool.false_eq_true,false_implies,true_implies,and_true,true_and])
            all_goals (clear v1 v100 v101 v102 v103 v104 vs h1 hsy hp hF)
            all_goals ((repeat' apply And.intro) <;> intros <;> first
             | trivial
             | contradiction
             | (exact go (by rw [hbad]; simp_all) _ _ rfl (by simp_all))
             | (obtain ⟨oa,ob⟩:=out 7 (by rw [hbad,show decide (lk≤x.known) = false from decide_eq_false (by omega)]; simp_all) (by decide); simp [oa,ob]; done)
             | (obtain ⟨oa,ob⟩:=out 2 (by rw [hbad]; simp_all) (by decide); simp [oa,ob]; done) | (obtain ⟨oa,ob⟩:=out 6 (by rw [hbad]; simp_all) (by decide); simp [oa,ob]; done) | (obtain ⟨oa,ob⟩:=out 7 (by rw [hbad]; simp_all) (by decide); simp [oa,ob]; done) | (obtain ⟨oa,ob⟩:=out 5 (by rw [hbad]; simp_all) (by decide); simp [oa,ob]; done) | (obtain ⟨oa,ob⟩:=out 1 (by rw [hbad]; simp_all) (by decide); simp [oa,ob]; done)
             | (exfalso; omega)
             | (exfalso; simp_all; done)
             | (simp_all; done))
          | true =>
            have f1:=d_atF1 vm x.of_ eV
            refine ⟨?_,?_⟩
            all_goals (simp only [lCk0_t,lCk0_F,lCk0_l,gA,gB,zd,yV,yU,yW,yr,yq,zI,zJ,rats_len,zU,zH,zR,zD,zh,zk,yw,yy,zr,zE,dZ,g3,v1,v100,v101,v102,v103,v104,vs,h1,hsy,ze,sym130,zi,zG,Int.toNat_natCast,hp,Option.bind_some,gN,hil1,hw,hxs,hro,h200,hgs,hnil,eS,eR,eQ,eV,r3,f1,hofe,r4,reduceCtorEq,Bool.false_eq_true,false_implies,true_implies,and_true,true_and])
            all_goals (clear v1 v100 v101 v102 v103 v104 vs h1 hsy hp hF)
            all_goals ((repeat' apply And.intro) <;> intros <;> first
             | trivial
             | contradiction
             | (exact go (by rw [hbad]; simp_all) _ _ rfl (by simp_all))
             | (obtain ⟨oa,ob⟩:=out 7 (by rw [hbad,show decide (lk≤x.known) = false from decide_eq_false (by omega)]; simp_all) (by decide); simp [oa,ob]; done)
             | (obtain ⟨oa,ob⟩:=out 2 (by rw [hbad]; simp_all) (by decide); simp [oa,ob]; done) | (obtain ⟨oa,ob⟩:=out 6 (by rw [hbad]; simp_all) (by decide); simp [oa,ob]; done) | (obtain ⟨oa,ob⟩:=out 7 (by rw [hbad]; simp_all) (by decide); simp [oa,ob]; done) | (obtain ⟨oa,ob⟩:=out 5 (by rw [hbad]; simp_all) (by decide); simp [oa,ob]; done) | (obtain ⟨oa,ob⟩:=out 1 (by rw [hbad]; simp_all) (by decide); simp [oa,ob]; done)
             | (exfalso; omega)
             | (exfalso; simp_all; done)
             | (simp_all; done))
noncomputable def cCkr_con : Con:={ f:=25,args:=[ratsArg 0 0],N:=1,M:=1,pre:=[(.app 202 [.var 1],true)],out:=.tuple [.sint .i64 (.ite (.op2 .eq (.app 200 [.var 1]) (.num 0)) (.num 0) (.app 201 [.var 1])),.sint .i64 (.app 200 [.var 1])],news:=[] }
noncomputable def cCkr_call : Env→Za:=fun E => zS E (evH E (LS E) ((fun E => oneH 58 (hooks [(3,lCk_D.hook E.facts ck_vs)])) E) 9)
noncomputable def cCkr_t : GTree:=(.fork qRB7 (.leaf [[]]) (.leaf [[]]))
noncomputable def cCkr_l : List (List (X×Bool)×Option zp):=[([(qRB7,true),(.app 202 [.var 1],true)],some [(.ite qRB7 (.num 0) qRB17,.num 0),(qRB18,.num 0)]),
 ([(qRB7,false),(.app 202 [.var 1],true)],some [(.ite qRB7 (.num 0) qRB17,qRB17),(qRB18,qRB18)])]
theorem cCkr_w (r : Rho) : cCkr_con.fn.ways cCkr_call E0 r cCkr_con.pre cCkr_t = some cCkr_l:=by kernel_rfl
theorem ck_H {r : Rho} {l : List Rat9} (h1 : r.val 1 = some (ratsR l)) (hsy : r.sym = sy) (hsh : okR9 l = true) (F : List (X×Bool)) : LoopsOk (E0.with F r) (oneH 58 (hooks [(3,lCk_D.hook (E0.with F r).facts ck_vs)])):=by
 refine loops_all (n:=1) (fun f fn h => h) (by kernel_rfl) fun i hi => ?_
 obtain rfl : i = 0:=by omega
 rw [hooks_hit (show keyOf (yA (E0.with F r).P 58 0) = 3 by kernel_rfl)]
 refine hook_ok (E₀:=E0) (run:=lCk_run) (ρ:=r) (Inv:=lCk_Inv l) (μ:=lCk_mu l) yQ lCk_ok (fun F r' h => ?_) (fun hp => ⟨lCk_step h1 hsy hsh,[.int .i64 0,recsR [],yH [],yH [],.int .i64 0],?_,rfl,0,Nat.zero_le _,rfl,fun k hk => by omega⟩)
 ·exact ye yQ (LS_ok F (h.trans hsy)) fun _ _ => yc
 ·simp only [ck_vs,gB,zd]
  rfl
theorem yK {r : Rho} {σ : Sig} {w : World} {l : List (Nat×ABlock)} {N : Nat} {b : X} {own : Bool} {t : TypeId} {Wr : Nat→Prop} (hrel : (memOf l N).rel Tryz.prog σ w Wr) (hg : (yf l).get 0 = some (.rows 9 ratSch b (.var 1) own t)) (hρ : σ.rho = r) : ∃ ps : List Rat9,r.val 1 = some (ratsR ps):=by
 obtain ⟨ps,h⟩:=rats_at hrel hg
 rw [hρ] at h
 exact ⟨ps,h⟩
theorem cCkr_cok : cCkr_con.Ok Tryz.prog sy:=by
 intro r σ w us hsy hρ hpre hrel hins
 obtain ⟨l,h1⟩:=yK hrel rfl hρ
 have hsh : okR9 l = true:=by
  have:=hpre.1
  simpa only [gB,zd,h1,hsy,ze,Option.some.injEq,Value.bool.injEq] using this
 refine y6 (E:=E0) yQ yC (sy:=sy) (fun F => LS_ok F hsy) (fun F => ck_H h1 hsy hsh F) (cCkr_w r) hρ hpre hrel hins ?_ ?_
 ·simp only [cCkr_con,cCkr_t,gA,gB,zd,yV,yU,yW,yr,yq,zI,zJ,rats_len,zU,zH,h1,hsy,ze,sym130,zi,zG]
  try simp
 ·by_cases he : chkER l = 0
  all_goals (simp only [cCkr_l,gE,dZ,gB,zd,g3,yV,yU,yW,yr,yq,zI,zJ,rats_len,zU,zH,h1,hsy,ze,sym130,zi,zG])
  ·rw [he]
   simp
  ·have hb : (chkER l == 0) = false:=by simpa using he
   rw [hb]
   simp [he]
end Go.Proofs.YtfddkbbjnghefaaGreatDoor.Zs
