/-
  Readings over names: numbers, truths, strings, rows.
-/
import Derived.Test.YtfddkbbjnghefaaGreatDoorToEvD
import Derived.Laws.StructEq
set_option linter.unusedSimpArgs false
set_option linter.unusedVariables false
namespace Go.Proofs.YtfddkbbjnghefaaGreatDoor.Zs
open Go
section
variable {E : Env} {σ : Sig} {S S' : ASt} {w : World} {Wr : Nat→Prop}
def addX : X→X→X
 | .num 0,b => b
 | a,.num 0 => a
 | .num a,.num b => .num (a + b)
 | a,b => .op2 .add a b
def subX : X→X→X
 | a,.num 0 => a
 | .num a,.num b => .num (a - b)
 | a,b => .op2 .sub a b
theorem addX_ok {ρ : Rho} {a b : X} {m n : Int} {k k' : IntKind} (ha : a.den ρ = some (.int k m)) (hb : b.den ρ = some (.int k' n)) : ∃ k'',(addX a b).den ρ = some (.int k'' (m + n)):=by
 unfold addX
 split
 ·simp only [X.den,Option.some.injEq,Value.int.injEq] at ha
  obtain ⟨_,rfl⟩:=ha
  exact ⟨k',by rw [hb]; simp⟩
 ·simp only [X.den,Option.some.injEq,Value.int.injEq] at hb
  obtain ⟨_,rfl⟩:=hb
  exact ⟨k,by rw [ha]; simp⟩
 ·simp only [X.den,Option.some.injEq,Value.int.injEq] at ha hb
  obtain ⟨_,rfl⟩:=ha
  obtain ⟨_,rfl⟩:=hb
  exact ⟨.i64,rfl⟩
 ·exact ⟨.i64,by simp only [X.den,ha,hb,den2]⟩
theorem subX_ok {ρ : Rho} {a b : X} {m n : Int} {k k' : IntKind} (ha : a.den ρ = some (.int k m)) (hb : b.den ρ = some (.int k' n)) : ∃ k'',(subX a b).den ρ = some (.int k'' (m - n)):=by
 unfold subX
 split
 ·simp only [X.den,Option.some.injEq,Value.int.injEq] at hb
  obtain ⟨_,rfl⟩:=hb
  exact ⟨k,by rw [ha]; simp⟩
 ·simp only [X.den,Option.some.injEq,Value.int.injEq] at ha hb
  obtain ⟨_,rfl⟩:=ha
  obtain ⟨_,rfl⟩:=hb
  exact ⟨.i64,rfl⟩
 ·exact ⟨.i64,by simp only [X.den,ha,hb,den2]⟩
def notX (x : X) : X:=.op1 .not x
def ltX (a b : X) : X:=.op2 .lt a b
def eqX (a b : X) : X:=.op2 .eq a b
theorem not_den {ρ : Rho} {x : X} {b : Bool} (h : x.den ρ = some (.bool b)) : (notX x).den ρ = some (.bool (!b)):=by simp only [notX,X.den,h,den1]
theorem lt_den {ρ : Rho} {a b : X} {m n : Int} {k k' : IntKind} (ha : a.den ρ = some (.int k m)) (hb : b.den ρ = some (.int k' n)) : (ltX a b).den ρ = some (.bool (decide (m < n))):=by
 simp only [ltX,X.den,ha,hb,den2]
theorem eq_den {ρ : Rho} {a b : X} {m n : Int} {k k' : IntKind} (ha : a.den ρ = some (.int k m)) (hb : b.den ρ = some (.int k' n)) : (eqX a b).den ρ = some (.bool (m == n)):=by
 simp only [eqX,X.den,ha,hb,den2]
def Env.ltT (E : Env) (a b : X) : Bool:=match E.dec (ltX a b) with | some true => true | _ => false
def Env.ltF (E : Env) (a b : X) : Bool:=match E.dec (ltX a b) with | some false => true | _ => false
theorem Env.ltT_ok (hA : E.At σ) {a b : X} (h : E.ltT a b = true) {m n : Int} {k k' : IntKind} (ha : a.den σ.rho = some (.int k m)) (hb : b.den σ.rho = some (.int k' n)) : m < n:=by
 unfold Env.ltT at h
 split at h
 ·rename_i hd
  simpa using Env.dec_ok hA hd (lt_den ha hb)
 ·cases h
theorem Env.ltF_ok (hA : E.At σ) {a b : X} (h : E.ltF a b = true) {m n : Int} {k k' : IntKind} (ha : a.den σ.rho = some (.int k m)) (hb : b.den σ.rho = some (.int k' n)) : n≤m:=by
 unfold Env.ltF at h
 split at h
 ·rename_i hd
  simpa using Env.dec_ok hA hd (lt_den ha hb)
 ·cases h
noncomputable def sArith (E : Env) (op : BinOp) (k : IntKind) (a b : X) : Option AV:=
 match op with
 | .add => some (mkI k (.op1 (.wrap k) (.op2 .add a b)))
 | .sub => some (mkI k (.op1 (.wrap k) (.op2 .sub a b)))
 | .mul => some (mkI k (.op1 (.wrap k) (.op2 .mul a b)))
 | .quo => match E.dec (eqX b (.num 0)) with
   | some false => some (mkI k (.op1 (.wrap k) (.op2 .div a b)))
   | _ => none
 | .rem => match E.dec (eqX b (.num 0)) with
   | some false => some (mkI k (.op1 (.kind k) (.op2 .mod a b)))
   | _ => none
 | .eql => some (mkB E (eqX a b))
 | .neq => some (mkB E (notX (eqX a b)))
 | .lss => some (mkB E (ltX a b))
 | .leq => some (mkB E (notX (ltX b a)))
 | .gtr => some (mkB E (ltX b a))
 | .geq => some (mkB E (notX (ltX a b)))
 | _ => none
theorem wrap_den {ρ : Rho} {k k' : IntKind} {x : X} {n : Int} (h : x.den ρ = some (.int k' n)) : (X.op1 (.wrap k) x).den ρ = some (.int k (k.wrap n)):=by simp only [X.den,h,den1]
theorem kind_den {ρ : Rho} {k k' : IntKind} {x : X} {n : Int} (h : x.den ρ = some (.int k' n)) : (X.op1 (.kind k) x).den ρ = some (.int k n):=by simp only [X.den,h,den1]
theorem add_den {ρ : Rho} {a b : X} {m n : Int} {k k' : IntKind} (ha : a.den ρ = some (.int k m)) (hb : b.den ρ = some (.int k' n)) : (X.op2 .add a b).den ρ = some (.int .i64 (m + n)):=by simp only [X.den,ha,hb,den2]
theorem sub_den {ρ : Rho} {a b : X} {m n : Int} {k k' : IntKind} (ha : a.den ρ = some (.int k m)) (hb : b.den ρ = some (.int k' n)) : (X.op2 .sub a b).den ρ = some (.int .i64 (m - n)):=by simp only [X.den,ha,hb,den2]
theorem mul_den {ρ : Rho} {a b : X} {m n : Int} {k k' : IntKind} (ha : a.den ρ = some (.int k m)) (hb : b.den ρ = some (.int k' n)) : (X.op2 .mul a b).den ρ = some (.int .i64 (m * n)):=by simp only [X.den,ha,hb,den2]
theorem div_den {ρ : Rho} {a b : X} {m n : Int} {k k' : IntKind} (ha : a.den ρ = some (.int k m)) (hb : b.den ρ = some (.int k' n)) : (X.op2 .div a b).den ρ = some (.int .i64 (m.tdiv n)):=by simp only [X.den,ha,hb,den2]
theorem mod_den {ρ : Rho} {a b : X} {m n : Int} {k k' : IntKind} (ha : a.den ρ = some (.int k m)) (hb : b.den ρ = some (.int k' n)) : (X.op2 .mod a b).den ρ = some (.int .i64 (m.tmod n)):=by simp only [X.den,ha,hb,den2]
theorem sArith_ok (hA : E.At σ) {op : BinOp} {k k1 k2 : IntKind} {a b : X} {m n : Int} {t : TypeId} {x y : Operand} {v : AV} (ha : a.den σ.rho = some (.int k1 m)) (hb : b.den σ.rho = some (.int k2 n)) (h : sArith E op k a b = some v) :
  RPost σ w ((do eqGuard op t x y (.int k m) (.int k n); binOp op t (.int k m) (.int k n) : Sem Value).run E.P w) v:=by
 have hz : ∀ (hd : E.dec (eqX b (.num 0)) = some false),n≠0:=fun hd => by
  have:=Env.dec_ok hA hd (eq_den hb (b:=.num 0) (k':=.i64) rfl)
  simpa using this
 unfold sArith at h
 split at h
 ·cases h; exact ⟨_,by simp [eqGuard,binOp,Op.intArith],mkI_ok (wrap_den (add_den ha hb))⟩
 ·cases h; exact ⟨_,by simp [eqGuard,binOp,Op.intArith],mkI_ok (wrap_den (sub_den ha hb))⟩
 ·cases h; exact ⟨_,by simp [eqGuard,binOp,Op.intArith],mkI_ok (wrap_den (mul_den ha hb))⟩
 ·split at h
  ·rename_i hd
   cases h; exact ⟨_,by simp [eqGuard,binOp,Op.intDiv,hz hd],mkI_ok (wrap_den (div_den ha hb))⟩
  ·cases h
 ·split at h
  ·rename_i hd
   cases h; exact ⟨_,by simp [eqGuard,binOp,Op.intDiv,hz hd],mkI_ok (kind_den (mod_den ha hb))⟩
  ·cases h
 ·cases h; exact ⟨_,by simp [eqGuard,binOp,Op.intCmp],mkB_ok hA (eq_den ha hb)⟩
 ·cases h; exact ⟨.bool (m != n),by simp [eqGuard,binOp,Op.intCmp],mkB_ok hA (by rw [not_den (eq_den ha hb)]; rfl)⟩
 ·cases h; exact ⟨.bool (decide (m < n)),by simp [eqGuard,binOp,Op.intCmp],mkB_ok hA (lt_den ha hb)⟩
 ·cases h; exact ⟨.bool (decide (m≤n)),by simp [eqGuard,binOp,Op.intCmp],mkB_ok hA (by rw [not_den (lt_den hb ha)]; congr 2; rw [Bool.eq_iff_iff]; simp)⟩
 ·cases h; exact ⟨.bool (decide (m > n)),by simp [eqGuard,binOp,Op.intCmp],mkB_ok hA (lt_den hb ha)⟩
 ·cases h; exact ⟨.bool (decide (m ≥ n)),by simp [eqGuard,binOp,Op.intCmp],mkB_ok hA (by rw [not_den (lt_den ha hb)]; congr 2; rw [Bool.eq_iff_iff]; simp)⟩
 ·cases h
theorem eqs_den {ρ : Rho} {a b : X} {s u : ByteArray} (ha : a.den ρ = some (.string s)) (hb : b.den ρ = some (.string u)) : (X.op2 .eqs a b).den ρ = some (.bool (s == u)):=by simp only [X.den,ha,hb,den2]
theorem lts_den {ρ : Rho} {a b : X} {s u : ByteArray} (ha : a.den ρ = some (.string s)) (hb : b.den ρ = some (.string u)) : (X.op2 .lts a b).den ρ = some (.bool (Op.bytesLess s.toList u.toList)):=by simp only [X.den,ha,hb,den2]
theorem or_denS {ρ : Rho} {a b : X} {p q : Bool} (ha : a.den ρ = some (.bool p)) (hb : b.den ρ = some (.bool q)) : (X.op2 .or a b).den ρ = some (.bool (p || q)):=by simp only [X.den,ha,hb,den2]
theorem slen_den {ρ : Rho} {a : X} {s : ByteArray} (ha : a.den ρ = some (.string s)) : (X.op1 .slen a).den ρ = some (.int .i64 s.size):=by simp only [X.den,ha,den1]
theorem cat_den {ρ : Rho} {a b : X} {s u : ByteArray} (ha : a.den ρ = some (.string s)) (hb : b.den ρ = some (.string u)) : (X.op2 .cat a b).den ρ = some (.string (s ++ u)):=by simp only [X.den,ha,hb,den2]
def mkS : X→AV
 | x => .sstr x
theorem mkS_ok {x : X} {s : ByteArray} (h : x.den σ.rho = some (.string s)) : (mkS x).inst σ = some (.string s):=by simp only [mkS,AV.inst,X.bytes_iff.2 h]
noncomputable def sStr (E : Env) (op : BinOp) (a b : X) : Option AV:=
 match op with
 | .eql => some (mkB E (.op2 .eqs a b))
 | .neq => some (mkB E (notX (.op2 .eqs a b)))
 | .lss => some (mkB E (.op2 .lts a b))
 | .geq => some (mkB E (notX (.op2 .lts a b)))
 | .gtr => some (mkB E (notX (.op2 .or (.op2 .lts a b) (.op2 .eqs a b))))
 | .leq => some (mkB E (.op2 .or (.op2 .lts a b) (.op2 .eqs a b)))
 | .add => match E.ltF (.num 9223372036854775807) (.op2 .add (.op1 .slen a) (.op1 .slen b)) with
   | true => some (mkS (.op2 .cat a b))
   | false => none
 | _ => none
theorem sStr_ok (hA : E.At σ) {op : BinOp} {a b : X} {s u : ByteArray} {t : TypeId} {x y : Operand} {v : AV} (ha : a.den σ.rho = some (.string s)) (hb : b.den σ.rho = some (.string u)) (h : sStr E op a b = some v) :
  RPost σ w ((do eqGuard op t x y (.string s) (.string u); binOp op t (.string s) (.string u) : Sem Value).run E.P w) v:=by
 unfold sStr at h
 split at h
 ·cases h; exact ⟨.bool (s == u),by simp [eqGuard,binOp,Op.stringOp,beq_toListBytes],mkB_ok hA (eqs_den ha hb)⟩
 ·cases h; exact ⟨.bool (!(s == u)),by simp [eqGuard,binOp,Op.stringOp,beq_toListBytes],mkB_ok hA (not_den (eqs_den ha hb))⟩
 ·cases h; exact ⟨_,by simp [eqGuard,binOp,Op.stringOp],mkB_ok hA (lts_den ha hb)⟩
 ·cases h; exact ⟨_,by simp [eqGuard,binOp,Op.stringOp],mkB_ok hA (not_den (lts_den ha hb))⟩
 ·cases h; exact ⟨.bool (!(Op.bytesLess s.toList u.toList || s == u)),by simp [eqGuard,binOp,Op.stringOp,beq_toListBytes],mkB_ok hA (not_den (or_denS (lts_den ha hb) (eqs_den ha hb)))⟩
 ·cases h; exact ⟨.bool (Op.bytesLess s.toList u.toList || s == u),by simp [eqGuard,binOp,Op.stringOp,beq_toListBytes],mkB_ok hA (or_denS (lts_den ha hb) (eqs_den ha hb))⟩
 ·split at h
  ·rename_i hl
   cases h
   have hl':=Env.ltF_ok hA hl (k:=.i64) rfl (add_den (slen_den ha) (slen_den hb))
   have hn : ¬ (IntKind.i64.max < ((s.size + u.size : Nat) : Int)):=by
    have : IntKind.i64.max = 9223372036854775807:=rfl
    rw [this]; push_cast; omega
   refine ⟨.string (s ++ u),?_,mkS_ok (cat_den ha hb)⟩
   simp only [Int.natCast_add] at hn
   simp [eqGuard,binOp,Op.stringOp,hn]
   exact hl'
  ·cases h
 ·cases h
theorem eqb_den {ρ : Rho} {a b : X} {p q : Bool} (ha : a.den ρ = some (.bool p)) (hb : b.den ρ = some (.bool q)) : (X.op2 .eqb a b).den ρ = some (.bool (p == q)):=by simp only [X.den,ha,hb,den2]
theorem and_den {ρ : Rho} {a b : X} {p q : Bool} (ha : a.den ρ = some (.bool p)) (hb : b.den ρ = some (.bool q)) : (X.op2 .and a b).den ρ = some (.bool (p && q)):=by simp only [X.den,ha,hb,den2]
def eqB : X→X→X
 | .boo true,x => x
 | x,.boo true => x
 | .boo false,x => .op1 .not x
 | x,.boo false => .op1 .not x
 | a,b => .op2 .eqb a b
theorem eqB_den {ρ : Rho} {a b : X} {p q : Bool} (ha : a.den ρ = some (.bool p)) (hb : b.den ρ = some (.bool q)) : (eqB a b).den ρ = some (.bool (p == q)):=by
 unfold eqB
 split
 ·simp only [X.den,Option.some.injEq,Value.bool.injEq] at ha; subst ha; rw [hb]; simp
 ·simp only [X.den,Option.some.injEq,Value.bool.injEq] at hb; subst hb; rw [ha]; simp
 ·simp only [X.den,Option.some.injEq,Value.bool.injEq] at ha; subst ha; rw [show (X.op1 .not _) = notX _ from rfl,not_den hb]; simp
 ·simp only [X.den,Option.some.injEq,Value.bool.injEq] at hb; subst hb; rw [show (X.op1 .not _) = notX _ from rfl,not_den ha]; simp
 ·exact eqb_den ha hb
def andX : X→X→X
 | .boo true,x => x
 | x,.boo true => x
 | a,b => .op2 .and a b
theorem andX_den {ρ : Rho} {a b : X} {p q : Bool} (ha : a.den ρ = some (.bool p)) (hb : b.den ρ = some (.bool q)) : (andX a b).den ρ = some (.bool (p && q)):=by
 unfold andX
 split
 ·simp only [X.den,Option.some.injEq,Value.bool.injEq] at ha; subst ha; rw [hb]; simp
 ·simp only [X.den,Option.some.injEq,Value.bool.injEq] at hb; subst hb; rw [ha]; simp
 ·exact and_den ha hb
def eqI (a b : X) : X:=match yB a b with | true => .boo true | false => eqX a b
theorem eqI_den {ρ : Rho} {a b : X} {m n : Int} {k k' : IntKind} (ha : a.den ρ = some (.int k m)) (hb : b.den ρ = some (.int k' n)) : (eqI a b).den ρ = some (.bool (m == n)):=by
 unfold eqI
 split
 ·rename_i h
  rw [zL h,hb] at ha
  cases ha
  simp [X.den]
 ·exact eq_den ha hb
def eqS (a b : X) : X:=match yB a b with | true => .boo true | false => .op2 .eqs a b
theorem eqS_den {ρ : Rho} {a b : X} {s u : ByteArray} (ha : a.den ρ = some (.string s)) (hb : b.den ρ = some (.string u)) : (eqS a b).den ρ = some (.bool (s == u)):=by
 unfold eqS
 split
 ·rename_i h
  rw [zL h,hb] at ha
  cases ha
  simp [X.den,beq_toListBytes]
 ·exact eqs_den ha hb
theorem kind_same {k k' : IntKind} (h : Nat.beq (o1No (.kind k)) (o1No (.kind k')) = true) : k = k':=by
 have:=o1No_inj h
 cases this; rfl
mutual
noncomputable def sEq (E : Env) (d : Nat) (t : TypeId) (a b : AV) : Option X:=
 match d with
 | 0 => none
 | d + 1 => match E.und t with
   | some .bool => match toB a,toB b with
     | some x,some y => some (eqB x y)
     | _,_ => none
   | some (.int _) => match toI a,toI b with
     | some (k,x),some (k',y) => match Nat.beq (o1No (.kind k)) (o1No (.kind k')) with
       | true => some (eqI x y)
       | false => none
     | _,_ => none
   | some .string => match toS a,toS b with
     | some x,some y => some (eqS x y)
     | _,_ => none
   | some (.struct fs) => match E.P.stoodInHeld t with
     | true => none
     | false => match a,b with
       | .agg xs,.agg ys => sEqL E d xs ys fs.toList
       | _,_ => none
   | _ => none
termination_by structural d
noncomputable def sEqL (E : Env) (d : Nat) (xs ys : List AV) (l : List Field) : Option X:=
 match d with
 | 0 => match l with
   | [] => some (.boo true)
   | _ :: _ => none
 | d + 1 => match l with
   | [] => some (.boo true)
   | f :: fs => match decide (f.name≠"_") with
     | true => match apart E f.type xs f.offset,apart E f.type ys f.offset with
       | some a,some b => match sEq E d f.type a b with
         | some r => match sEqL E d xs ys fs with
           | some rs => some (andX r rs)
           | none => none
         | none => none
       | _,_ => none
     | false => sEqL E d xs ys fs
termination_by structural d
end
theorem sEq_both (hE : E.Ok) : ∀ d,(∀ t a b x u v,sEq E d t a b = some x→a.inst σ = some u→b.inst σ = some v→∃ r,x.den σ.rho = some (.bool r)∧∀ D,d≤D→∀ w,(Op.equalIn D t u v).run E.P w = .ok r w) ∧
  (∀ xs ys l x us vs,sEqL E d xs ys l = some x→Ins σ xs us→Ins σ ys vs→∃ r,x.den σ.rho = some (.bool r)∧∀ D,d≤D→∀ w,(Op.eqFields D us.toArray vs.toArray l).run E.P w = .ok r w)
 | 0 => by
   refine ⟨fun t a b x u v h => by simp [sEq] at h,fun xs ys l x us vs h hx hy => ?_⟩
   cases l with
   | nil =>
     simp only [sEqL,Option.some.injEq] at h
     subst h
     exact ⟨true,rfl,fun D _ w => by simp [Op.eqFields]⟩
   | cons f l => simp [sEqL] at h
 | d + 1 => by
   obtain ⟨ih1,ih2⟩:=sEq_both hE d
   constructor
   ·intro t a b x u v h hu hv
    simp only [sEq] at h
    split at h
    ·rename_i ht
     split at h
     ·rename_i p q hp hq
      cases h
      obtain ⟨m,rfl,hm⟩:=toB_ok hp hu
      obtain ⟨n,rfl,hn⟩:=toB_ok hq hv
      refine ⟨m == n,eqB_den hm hn,fun D hD w => ?_⟩
      obtain ⟨D,rfl⟩ : ∃ D',D = D' + 1:=⟨D - 1,by omega⟩
      exact run_equalIn_bool' w D t m n (hE.und t _ ht)
     ·cases h
    ·rename_i ik ht
     split at h
     ·rename_i k p k' q hp hq
      split at h
      ·rename_i hk
       cases h
       obtain rfl:=kind_same hk
       obtain ⟨m,k1,rfl,hm⟩:=toI_ok hp hu
       obtain ⟨n,k2,rfl,hn⟩:=toI_ok hq hv
       refine ⟨m == n,eqI_den hm hn,fun D hD w => ?_⟩
       obtain ⟨D,rfl⟩ : ∃ D',D = D' + 1:=⟨D - 1,by omega⟩
       exact run_equalIn_int w D t k ik m n (hE.und t _ ht)
      ·cases h
     ·cases h
    ·rename_i ht
     split at h
     ·rename_i p q hp hq
      cases h
      obtain ⟨m,rfl,hm⟩:=toS_ok hp hu
      obtain ⟨n,rfl,hn⟩:=toS_ok hq hv
      refine ⟨m == n,eqS_den hm hn,fun D hD w => ?_⟩
      obtain ⟨D,rfl⟩ : ∃ D',D = D' + 1:=⟨D - 1,by omega⟩
      rw [run_equalIn_string w D t m n (hE.und t _ ht),beq_toListBytes]
     ·cases h
    ·rename_i fs ht
     split at h
     ·cases h
     ·rename_i hst
      split at h
      ·rename_i xs ys
       obtain ⟨us,rfl,hus⟩:=AV.inst_agg hu
       obtain ⟨vs,rfl,hvs⟩:=AV.inst_agg hv
       obtain ⟨r,hr,hrun⟩:=ih2 xs ys fs.toList x us vs h hus hvs
       refine ⟨r,hr,fun D hD w => ?_⟩
       obtain ⟨D,rfl⟩ : ∃ D',D = D' + 1:=⟨D - 1,by omega⟩
       have hf : E.P.fieldsOf t = fs:=by simp [Program.fieldsOf,hE.und t _ ht]
       rw [run_equalIn_struct w D t us.toArray vs.toArray (by rw [hf]; exact hE.und t _ ht) hst,hf]
       exact hrun D (by omega) w
      ·cases h
    ·cases h
   ·intro xs ys l x us vs h hx hy
    cases l with
    | nil =>
      simp only [sEqL,Option.some.injEq] at h
      subst h
      exact ⟨true,rfl,fun D _ w => by simp [Op.eqFields]⟩
    | cons f fs =>
      simp only [sEqL] at h
      split at h
      ·rename_i hname
       have hname' : f.name≠"_":=by simpa using hname
       split at h
       ·rename_i a b ha hb
        split at h
        ·rename_i r hr
         split at h
         ·rename_i rs hrs
          cases h
          obtain ⟨au,hau,hra⟩:=apart_ok hE hx ha
          obtain ⟨bu,hbu,hrb⟩:=apart_ok hE hy hb
          obtain ⟨r1,h1,h2⟩:=ih1 f.type a b r au bu hr hau hbu
          obtain ⟨r2,h3,h4⟩:=ih2 xs ys fs rs us vs hrs hx hy
          refine ⟨r1 && r2,andX_den h1 h3,fun D hD w => ?_⟩
          simp only [Op.eqFields,if_pos hname',Sem.run_bind,hra,hrb,Result.andThen_ok,h2 D (by omega)]
          cases r1
          ·simp
          ·simpa using h4 D (by omega) w
         ·cases h
        ·cases h
       ·cases h
      ·rename_i hname
       have hname' : ¬ (f.name≠"_"):=by simpa using hname
       obtain ⟨r2,h3,h4⟩:=ih2 xs ys fs x us vs h hx hy
       refine ⟨r2,h3,fun D hD w => ?_⟩
       simp only [Op.eqFields,if_neg hname']
       exact h4 D (by omega) w
noncomputable def sSame (E : Env) (t : TypeId) (a b : AV) : Option X:=
 match a,b with
 | .agg _,.agg _ => match E.P.eqGuardType E.P.depth t with
   | true => none
   | false => sEq E 60 t a b
 | .slx ..,.nilslice => match E.und t with
   | some (.slice _) => some (.boo false)
   | _ => none
 | .slo ..,.nilslice => match E.und t with
   | some (.slice _) => some (.boo false)
   | _ => none
 | a,b => match toB a,toB b with
   | some x,some y => match E.und t with
     | some .bool => some (eqB x y)
     | _ => none
   | _,_ => none
theorem inst_slx {id w : Nat} {base lo len cap : X} {u : Value} (h : (AV.slx id w base lo len cap).inst σ = some u) :
  ∃ b κ kb kl kn kc,σ id = some (b,κ)∧base.nat σ.rho = some kb∧lo.nat σ.rho = some kl∧len.nat σ.rho = some kn∧cap.nat σ.rho = some kc∧kn≤kc∧u = .slice (some ⟨b,kb + kl * w,none⟩) kn kc:=by
 simp only [AV.inst] at h
 split at h
 ·rename_i x hx
  split at h
  ·rename_i b hb
   split at h
   ·rename_i l hl
    split at h
    ·rename_i n hn
     split at h
     ·rename_i c hc
      split at h
      ·rename_i hle
       cases h
       exact ⟨x.1,x.2,b,l,n,c,hx,hb,hl,hn,hc,hle,rfl⟩
      ·cases h
     ·cases h
    ·cases h
   ·cases h
  ·cases h
 ·cases h
theorem inst_slo {id w : Nat} {len : X} {u : Value} (h : (AV.slo id w len).inst σ = some u) :
  ∃ b κ n,σ id = some (b,κ)∧len.nat σ.rho = some n∧n≤κ∧u = .slice (some ⟨b,0,none⟩) n κ:=by
 simp only [AV.inst] at h
 split at h
 ·rename_i x hx
  split at h
  ·rename_i n hn
   split at h
   ·rename_i hle
    cases h
    exact ⟨x.1,x.2,n,hx,hn,hle,rfl⟩
   ·cases h
  ·cases h
 ·cases h
theorem inst_spt {id w : Nat} {lo hi : X} {u : Value} (h : (AV.spt id w lo hi).inst σ = some u) :
  ∃ b κ l n,σ id = some (b,κ)∧lo.nat σ.rho = some l∧hi.nat σ.rho = some n∧l≤n∧n≤κ∧u = .slice (some ⟨b,if κ = l then 0 else l * w,none⟩) (n - l) (κ - l):=by
 simp only [AV.inst] at h
 split at h
 ·rename_i x hx
  split at h
  ·rename_i l hl
   split at h
   ·rename_i n hn
    split at h
    ·rename_i hle
     cases h
     exact ⟨x.1,x.2,l,n,hx,hl,hn,hle.1,hle.2,rfl⟩
    ·cases h
   ·cases h
  ·cases h
 ·cases h
theorem spt_inst {id w b κ l n : Nat} {lo hi : X} (hs : σ id = some (b,κ)) (h1 : lo.nat σ.rho = some l) (h2 : hi.nat σ.rho = some n) (h3 : l≤n) (h4 : n≤κ) :
  (AV.spt id w lo hi).inst σ = some (.slice (some ⟨b,if κ = l then 0 else l * w,none⟩) (n - l) (κ - l)):=by
 simp only [AV.inst,hs,h1,h2]; rw [if_pos ⟨h3,h4⟩]
theorem inst_ptx {id w j : Nat} {base i : X} {u : Value} (h : (AV.ptx id w base i j).inst σ = some u) :
  ∃ b κ kb n,σ id = some (b,κ)∧base.nat σ.rho = some kb∧i.nat σ.rho = some n∧u = .pointer (some ⟨b,kb + n * w + j,none⟩):=by
 simp only [AV.inst] at h
 split at h
 ·rename_i x hx
  split at h
  ·rename_i b hb
   split at h
   ·rename_i n hn
    cases h
    exact ⟨x.1,x.2,b,n,hx,hb,hn,rfl⟩
   ·cases h
  ·cases h
 ·cases h
theorem sSame_ok (hE : E.Ok) {t : TypeId} {a b : AV} {x : X} {u v : Value} (h : sSame E t a b = some x) (hu : a.inst σ = some u) (hv : b.inst σ = some v) :
  ∃ r,x.den σ.rho = some (.bool r)∧(∀ (o1 o2 : Operand) (w : World),((do eqGuard .eql t o1 o2 u v; binOp .eql t u v : Sem Value).run E.P w) = .ok (.bool r) w) ∧
    (∀ (o1 o2 : Operand) (w : World),((do eqGuard .neq t o1 o2 u v; binOp .neq t u v : Sem Value).run E.P w) = .ok (.bool (!r)) w):=by
 unfold sSame at h
 split at h
 ·rename_i xs ys
  split at h
  ·cases h
  ·rename_i hg
   obtain ⟨us,rfl,hus⟩:=AV.inst_agg hu
   obtain ⟨vs,rfl,hvs⟩:=AV.inst_agg hv
   obtain ⟨r,h1,h2⟩:=(sEq_both hE 60).1 t _ _ x _ _ h hu hv
   have h3:=h2 10000 (by omega)
   refine ⟨r,h1,fun o1 o2 w => ?_,fun o1 o2 w => ?_⟩
   ·simp only [Sem.run_bind,run_eqGuard_agg w _ t o1 o2 _ _ hg,Result.andThen_ok,run_eql_struct,h3]
   ·simp only [Sem.run_bind,run_eqGuard_agg w _ t o1 o2 _ _ hg,Result.andThen_ok,run_neq_struct,h3]
 ·split at h
  ·rename_i e ht
   cases h
   obtain ⟨_,_,_,_,_,_,_,_,_,_,_,_,rfl⟩:=inst_slx hu
   simp only [AV.inst,Option.some.injEq] at hv
   subst hv
   refine ⟨false,rfl,fun o1 o2 w => ?_,fun o1 o2 w => ?_⟩ <;>
    (simp only [binOp,eqGuard,equal_def]; generalize 9999 = d; simp [Op.equalIn,zA hE ht])
  ·cases h
 ·split at h
  ·rename_i e ht
   cases h
   obtain ⟨_,_,_,_,_,_,rfl⟩:=inst_slo hu
   simp only [AV.inst,Option.some.injEq] at hv
   subst hv
   refine ⟨false,rfl,fun o1 o2 w => ?_,fun o1 o2 w => ?_⟩ <;>
    (simp only [binOp,eqGuard,equal_def]; generalize 9999 = d; simp [Op.equalIn,zA hE ht])
  ·cases h
 ·split at h
  ·rename_i p q hp hq
   split at h
   ·rename_i ht
    cases h
    obtain ⟨m,rfl,hm⟩:=toB_ok hp hu
    obtain ⟨n,rfl,hn⟩:=toB_ok hq hv
    refine ⟨m == n,eqB_den hm hn,fun o1 o2 w => ?_,fun o1 o2 w => ?_⟩ <;>
     (simp only [binOp,eqGuard,equal_def]; generalize 9999 = d; simp [run_equalIn_bool' w d t m n (hE.und t _ ht)])
   ·cases h
  ·cases h
noncomputable def sBin (E : Env) (op : BinOp) (t : TypeId) (a b : AV) : Option AV:=
 match toI a,toI b with
 | some (k,x),some (k',y) => match Nat.beq (o1No (.kind k)) (o1No (.kind k')) with
   | true => sArith E op k x y
   | false => none
 | _,_ => match toS a,toS b with
   | some x,some y => sStr E op x y
   | _,_ => match op with
     | .eql => match sSame E t a b with
       | some x => some (mkB E x)
       | none => none
     | .neq => match sSame E t a b with
       | some x => some (mkB E (notX x))
       | none => none
     | _ => none
theorem sBin_ok (hE : E.Ok) (hA : E.At σ) {op : BinOp} {t : TypeId} {a b v : AV} {xu yu : Value} (hx : a.inst σ = some xu) (hy : b.inst σ = some yu) (h : sBin E op t a b = some v) (x y : Operand) :
  RPost σ w ((do eqGuard op t x y xu yu; binOp op t xu yu : Sem Value).run E.P w) v:=by
 unfold sBin at h
 split at h
 ·rename_i k p k' q hp hq
  split at h
  ·rename_i hk
   obtain rfl:=kind_same hk
   obtain ⟨m,k1,rfl,hm⟩:=toI_ok hp hx
   obtain ⟨n,k2,rfl,hn⟩:=toI_ok hq hy
   exact sArith_ok hA hm hn h
  ·cases h
 ·split at h
  ·rename_i p q hp hq
   obtain ⟨m,rfl,hm⟩:=toS_ok hp hx
   obtain ⟨n,rfl,hn⟩:=toS_ok hq hy
   exact sStr_ok hA hm hn h
  ·split at h
   ·split at h
    ·rename_i r hr
     cases h
     obtain ⟨c,h1,h2,h3⟩:=sSame_ok hE hr hx hy
     exact ⟨_,h2 x y w,mkB_ok hA h1⟩
    ·cases h
   ·split at h
    ·rename_i r hr
     cases h
     obtain ⟨c,h1,h2,h3⟩:=sSame_ok hE hr hx hy
     exact ⟨_,h3 x y w,mkB_ok hA (not_den h1)⟩
    ·cases h
   ·cases h
noncomputable def sUn (E : Env) (op : UnOp) (a : AV) : Option AV:=
 match op with
 | .not => match a with
   | .sbool x => some (mkB E (notX x))
   | .bool b => some (.bool (!b))
   | _ => none
 | .neg => match a with
   | .sint k x => some (mkI k (.op1 (.wrap k) (.op2 .sub (.num 0) x)))
   | _ => none
 | _ => none
theorem sUn_ok (hA : E.At σ) {op : UnOp} {a v : AV} {u : Value} (hx : a.inst σ = some u) (h : sUn E op a = some v) : RPost σ w ((Op.unary op u).run E.P w) v:=by
 unfold sUn at h
 split at h
 ·split at h
  ·rename_i x
   cases h
   obtain ⟨b,rfl,hb⟩:=toB_ok (a:=.sbool x) rfl hx
   exact ⟨_,by simp [Op.unary],mkB_ok hA (not_den hb)⟩
  ·rename_i b
   cases h
   simp only [AV.inst,Option.some.injEq] at hx
   subst hx
   exact ⟨.bool (!b),by simp [Op.unary],rfl⟩
  ·cases h
 ·split at h
  ·rename_i k x
   cases h
   obtain ⟨n,k',rfl,hn⟩:=toI_ok (a:=.sint k x) rfl hx
   exact ⟨_,by simp [Op.unary,Op.intArith],mkI_ok (wrap_den (sub_den (a:=.num 0) (k:=.i64) rfl hn))⟩
  ·cases h
 ·cases h
noncomputable def sConv (E : Env) (s d : TypeId) (a : AV) : Option AV:=none
theorem sConv_ok (hE : E.Ok) {s d : TypeId} {a v : AV} {u : Value} (hx : a.inst σ = some u) (h : sConv E s d a = some v) : RPost σ w ((convert s d u).run E.P w) v:=by
 unfold sConv at h
 cases h
def partX : X→X→X
 | .op2 .add a (.num n),.num m => match decide (n = m) with
   | true => a
   | false => subX (.op2 .add a (.num n)) (.num m)
 | h,l => subX h l
theorem partX_ok {ρ : Rho} {h l : X} {m n : Int} {k k' : IntKind} (hh : h.den ρ = some (.int k m)) (hl : l.den ρ = some (.int k' n)) : ∃ k'',(partX h l).den ρ = some (.int k'' (m - n)):=by
 unfold partX
 split
 ·rename_i a p q
  split
  ·rename_i hd
   have hd:=of_decide_eq_true hd
   subst hd
   simp only [X.den,Option.some.injEq,Value.int.injEq] at hl
   obtain ⟨_,rfl⟩:=hl
   simp only [X.den] at hh
   cases ha : a.den ρ with
   | none => rw [ha] at hh; cases hh
   | some v =>
     rw [ha] at hh
     cases v <;> simp only [den2,Option.some.injEq,Value.int.injEq,reduceCtorEq] at hh
     obtain ⟨_,rfl⟩:=hh
     rename_i kk nn _
     exact ⟨kk,by congr 2; omega⟩
  ·exact subX_ok hh hl
 ·exact subX_ok hh hl
noncomputable def sLen (E : Env) (argTypes : Array TypeId) (a : AV) : Option AV:=
 match argTypes[0]? with
 | some t => match a with
   | .sstr x => match E.und t with
     | some .string => some (mkI .i64 (.op1 .slen x))
     | _ => none
   | .slx _ _ _ _ len _ => match E.und t with
     | some (.slice _) => some (mkI .i64 len)
     | _ => none
   | .slo _ _ len => match E.und t with
     | some (.slice _) => some (mkI .i64 len)
     | _ => none
   | .spt _ _ lo hi => match E.und t with
     | some (.slice _) => some (mkI .i64 (partX hi lo))
     | _ => none
   | _ => none
 | none => none
theorem sLen_ok (hE : E.Ok) {argTypes : Array TypeId} {a v : AV} {u : Value} {ty : TypeId} (hx : a.inst σ = some u) (h : sLen E argTypes a = some v) : RPost σ w ((Builtin.len_ argTypes ty #[u]).run E.P w) v:=by
 unfold sLen at h
 split at h
 ·rename_i t ht
  split at h
  ·rename_i x
   split at h
   ·rename_i hd
    cases h
    obtain ⟨b,rfl,hb⟩:=toS_ok (a:=.sstr x) rfl hx
    exact ⟨_,by simp [Builtin.len_,ht,zA hE hd,goInt],mkI_ok (slen_den hb)⟩
   ·cases h
  ·split at h
   ·rename_i e hd
    cases h
    obtain ⟨b,κ,kb,kl,kn,kc,h1,h2,h3,h4,h5,h6,rfl⟩:=inst_slx hx
    obtain ⟨k',hk⟩:=X.nat_iff.1 h4
    exact ⟨_,by simp [Builtin.len_,ht,zA hE hd,goInt],mkI_ok hk⟩
   ·cases h
  ·split at h
   ·rename_i e hd
    cases h
    obtain ⟨b,κ,kn,h1,h4,h5,rfl⟩:=inst_slo hx
    obtain ⟨k',hk⟩:=X.nat_iff.1 h4
    exact ⟨_,by simp [Builtin.len_,ht,zA hE hd,goInt],mkI_ok hk⟩
   ·cases h
  ·split at h
   ·rename_i e hd
    cases h
    obtain ⟨b,κ,l,n,h1,h2,h3,h4,h5,rfl⟩:=inst_spt hx
    obtain ⟨k1,hk1⟩:=X.nat_iff.1 h2
    obtain ⟨k2,hk2⟩:=X.nat_iff.1 h3
    obtain ⟨k3,hk3⟩:=partX_ok hk2 hk1
    exact ⟨_,by simp [Builtin.len_,ht,zA hE hd,goInt],mkI_ok (k':=k3) (n:=((n - l : Nat) : Int)) (by rw [hk3,Int.ofNat_sub h4])⟩
   ·cases h
  ·cases h
 ·cases h
noncomputable def sIndex (E : Env) (t : TypeId) (a ix : AV) : Option AV:=
 match toS a,toI ix with
 | some x,some (_,i) => match E.und t with
   | some .string => match andB (E.ltF i (.num 0)) (E.ltT i (.op1 .slen x)) with
     | true => some (mkI .u8 (.op2 .sat x i))
     | false => none
   | _ => none
 | _,_ => none
theorem sIndex_ok (hE : E.Ok) (hA : E.At σ) {t : TypeId} {a ix v : AV} {u y : Value} (hx : a.inst σ = some u) (hi : ix.inst σ = some y) (h : sIndex E t a ix = some v) : RPost σ w ((Instr.index t u y).run E.P w) v:=by
 unfold sIndex at h
 split at h
 ·rename_i x k i hp hq
  split at h
  ·rename_i ht
   split at h
   ·rename_i hb
    cases h
    obtain ⟨h1,h2⟩:=zb hb
    obtain ⟨s,rfl,hs⟩:=toS_ok hp hx
    obtain ⟨n,k',rfl,hn⟩:=toI_ok hq hi
    have g1:=Env.ltF_ok hA h1 hn (b:=.num 0) (k':=.i64) rfl
    have g2:=Env.ltT_ok hA h2 hn (slen_den hs)
    obtain ⟨m,rfl⟩:=Int.eq_ofNat_of_zero_le g1
    have hm : m < s.size:=by omega
    have hg : s[m]? = some s[m]:=getElem?_pos s m hm
    refine ⟨.int .u8 s[m].toNat,?_,mkI_ok (k':=.u8) ?_⟩
    ·simp [Instr.index,asIntOf,zA hE ht,hm]
    ·simp only [X.den,hs,hn,den2]
     simp [hm]
   ·cases h
  ·cases h
 ·cases h
theorem slx_inst {id w b κ kb kl kn kc : Nat} {base lo len cap : X} (hs : σ id = some (b,κ)) (h1 : base.nat σ.rho = some kb) (h2 : lo.nat σ.rho = some kl) (h3 : len.nat σ.rho = some kn) (h4 : cap.nat σ.rho = some kc) (hle : kn≤kc) :
  (AV.slx id w base lo len cap).inst σ = some (.slice (some ⟨b,kb + kl * w,none⟩) kn kc):=by
 simp only [AV.inst,hs,h1,h2,h3,h4]; rw [if_pos hle]
theorem ptx_inst {id w b κ kb n j : Nat} {base i : X} (hs : σ id = some (b,κ)) (h1 : base.nat σ.rho = some kb) (h2 : i.nat σ.rho = some n) :
 (AV.ptx id w base i j).inst σ = some (.pointer (some ⟨b,kb + n * w + j,none⟩)):=by simp only [AV.inst,hs,h1,h2]
noncomputable def sBounds (E : Env) (len cap : X) (lo hi : Option AV) : Option (X×X):=
 match lo,hi with
 | none,none => some (.num 0,len)
 | none,some b => match toI b with
   | some (_,h) => match andB (E.ltF h (.num 0)) (E.ltF cap h) with
     | true => some (.num 0,h)
     | false => none
   | none => none
 | some a,none => match toI a with
   | some (_,l) => match andB (E.ltF l (.num 0)) (E.ltF len l) with
     | true => some (l,len)
     | false => none
   | none => none
 | some a,some b => match toI a,toI b with
   | some (_,l),some (_,h) => match andB (E.ltF l (.num 0)) (andB (E.ltF h l) (E.ltF cap h)) with
     | true => some (l,h)
     | false => none
   | _,_ => none
theorem sBounds_okC (hA : E.At σ) {len cap : X} {lo hi : Option AV} {lo' hi' : Option Value} {l h : X} {n c₀ c : Nat} {k1 k2 : IntKind} (e : sBounds E len cap lo hi = some (l,h)) (h1 : instO σ lo lo') (h2 : instO σ hi hi')
  (hn : len.den σ.rho = some (.int k1 (n : Int))) (hc : cap.den σ.rho = some (.int k2 (c₀ : Int))) (hcc : c₀≤c) (hnc : n≤c) (isSlice : Bool) :
  ∃ (i j : Nat),(∃ k,l.den σ.rho = some (.int k (i : Int)))∧(∃ k,h.den σ.rho = some (.int k (j : Int)))∧i≤j∧j≤c∧∀ w,(Instr.sliceBounds isSlice n c lo' hi' none).run E.P w = .ok (i,j,c) w:=by
 unfold sBounds at e
 split at e
 ·cases e
  cases lo' with
  | some v => exact h1.elim
  | none =>
    cases hi' with
    | some v => exact h2.elim
    | none => exact ⟨0,n,⟨.i64,rfl⟩,⟨_,hn⟩,Nat.zero_le _,hnc,fun w => by simp [Instr.sliceBounds]⟩
 ·rename_i b
  cases lo' with
  | some v => exact h1.elim
  | none =>
    cases hi' with
    | none => exact h2.elim
    | some v =>
      split at e
      ·rename_i k x hx
       split at e
       ·rename_i hb
        cases e
        obtain ⟨b1,b2⟩:=zb hb
        obtain ⟨m,k',rfl,hm⟩:=toI_ok hx h2
        have g1:=Env.ltF_ok hA b1 hm (b:=.num 0) (k':=.i64) rfl
        have g2:=Env.ltF_ok hA b2 hc hm
        obtain ⟨m,rfl⟩:=Int.eq_ofNat_of_zero_le g1
        refine ⟨0,m,⟨.i64,rfl⟩,⟨_,hm⟩,Nat.zero_le _,by omega,fun w => ?_⟩
        have g3 : m≤c:=by omega
        simp [Instr.sliceBounds,Instr.sliceBound,asIntOf,g3]
       ·cases e
      ·cases e
 ·rename_i b
  cases hi' with
  | some v => exact h2.elim
  | none =>
    cases lo' with
    | none => exact h1.elim
    | some v =>
      split at e
      ·rename_i k x hx
       split at e
       ·rename_i hb
        cases e
        obtain ⟨b1,b2⟩:=zb hb
        obtain ⟨m,k',rfl,hm⟩:=toI_ok hx h1
        have g1:=Env.ltF_ok hA b1 hm (b:=.num 0) (k':=.i64) rfl
        have g2:=Env.ltF_ok hA b2 hn hm
        obtain ⟨m,rfl⟩:=Int.eq_ofNat_of_zero_le g1
        refine ⟨m,n,⟨_,hm⟩,⟨_,hn⟩,by omega,hnc,fun w => ?_⟩
        have g3 : m≤n:=by omega
        simp [Instr.sliceBounds,Instr.sliceBound,asIntOf,g3]
       ·cases e
      ·cases e
 ·rename_i b b'
  cases lo' with
  | none => exact h1.elim
  | some v =>
    cases hi' with
    | none => exact h2.elim
    | some v' =>
      split at e
      ·rename_i k x k₂ y hx hy
       split at e
       ·rename_i hb
        cases e
        obtain ⟨b1,b2⟩:=zb hb
        obtain ⟨b2,b3⟩:=zb b2
        obtain ⟨m,k',rfl,hm⟩:=toI_ok hx h1
        obtain ⟨p,k'',rfl,hp⟩:=toI_ok hy h2
        have g1:=Env.ltF_ok hA b1 hm (b:=.num 0) (k':=.i64) rfl
        have g2:=Env.ltF_ok hA b2 hp hm
        have g3:=Env.ltF_ok hA b3 hc hp
        obtain ⟨m,rfl⟩:=Int.eq_ofNat_of_zero_le g1
        obtain ⟨p,rfl⟩:=Int.eq_ofNat_of_zero_le (show (0 : Int)≤p by omega)
        refine ⟨m,p,⟨_,hm⟩,⟨_,hp⟩,by omega,by omega,fun w => ?_⟩
        have g4 : m≤p:=by omega
        have g5 : p≤c:=by omega
        simp [Instr.sliceBounds,Instr.sliceBound,asIntOf,g4,g5]
       ·cases e
      ·cases e
theorem sBounds_ok (hA : E.At σ) {len cap : X} {lo hi : Option AV} {lo' hi' : Option Value} {l h : X} {n c : Nat} {k1 k2 : IntKind} (e : sBounds E len cap lo hi = some (l,h)) (h1 : instO σ lo lo') (h2 : instO σ hi hi')
 (hn : len.den σ.rho = some (.int k1 (n : Int))) (hc : cap.den σ.rho = some (.int k2 (c : Int))) (hnc : n≤c) (isSlice : Bool) :
 ∃ (i j : Nat),(∃ k,l.den σ.rho = some (.int k (i : Int)))∧(∃ k,h.den σ.rho = some (.int k (j : Int)))∧i≤j∧j≤c∧∀ w,(Instr.sliceBounds isSlice n c lo' hi' none).run E.P w = .ok (i,j,c) w:=sBounds_okC hA e h1 h2 hn hc (Nat.le_refl _) hnc isSlice
noncomputable def isNum0 : X→Bool
 | .num 0 => true
 | _ => false
theorem isNum0_ok {x : X} (h : isNum0 x = true) : x = .num 0:=by
 unfold isNum0 at h
 split at h
 ·rfl
 ·cases h
def orB (a b : Bool) : Bool:=match a with | true => true | false => b
theorem orB_ok {a b : Bool} (h : orB a b = true) : a = true∨b = true:=by cases a <;> simp_all [orB]
noncomputable def sSlice (E : Env) (t : TypeId) (a : AV) (lo hi : Option AV) : Option AV:=
 match E.und t with
 | some .string => match toS a with
   | some x => match sBounds E (.op1 .slen x) (.op1 .slen x) lo hi with
     | some (l,h) => some (mkS (.ssub x l h))
     | none => none
   | none => none
 | some (.slice elem) => match a with
   | .slx id w base lo₀ len cap => match E.size elem with
     | some n => match Nat.beq n w with
       | true => match sBounds E len cap lo hi with
         | some (l,h) => match orB (isNum0 l) (E.ltT l cap) with
           | true => some (.slx id w base (addX lo₀ l) (subX h l) (subX cap l))
           | false => none
         | none => none
       | false => none
     | none => none
   | .slo id w len => match E.size elem with
     | some n => match Nat.beq n w with
       | true => match sBounds E len len lo hi with
         | some (l,h) => some (.spt id w l h)
         | none => none
       | false => none
     | none => none
   | _ => none
 | _ => none
theorem sSlice_ok (hE : E.Ok) (hA : E.At σ) {t : TypeId} {a v : AV} {lo hi : Option AV} {u : Value} {lo' hi' : Option Value} (hx : a.inst σ = some u) (h1 : instO σ lo lo') (h2 : instO σ hi hi')
  (h : sSlice E t a lo hi = some v) : RPost σ w ((Instr.sliceAt t u lo' hi' none).run E.P w) v:=by
 unfold sSlice at h
 split at h
 ·rename_i ht
  split at h
  ·rename_i x hs
   split at h
   ·rename_i l hh hb
    cases h
    obtain ⟨s,rfl,hd⟩:=toS_ok hs hx
    obtain ⟨i,j,⟨k1,e1⟩,⟨k2,e2⟩,h3,h4,h5⟩:=sBounds_ok hA hb h1 h2 (slen_den hd) (slen_den hd) (Nat.le_refl _) false
    refine ⟨.string (s.extract i j),?_,mkS_ok ?_⟩
    ·simp [Instr.sliceAt,Instr.slice,zA hE ht,h5]
    ·simp only [X.den,hd,e1,e2,denSub,Int.toNat_natCast]
   ·cases h
  ·cases h
 ·rename_i elem ht
  split at h
  ·rename_i id wd base lo₀ len cap
   split at h
   ·rename_i n hn
    split at h
    ·rename_i hw
     split at h
     ·rename_i l hh hb
      split at h
      ·rename_i hz
       cases h
       obtain rfl:=Nat.eq_of_beq_eq_true hw
       obtain ⟨b,κ,kb,kl,kn,kc,g1,g2,g3,g4,g5,g6,rfl⟩:=inst_slx hx
       obtain ⟨q1,g3'⟩:=X.nat_iff.1 g3
       obtain ⟨q2,g4'⟩:=X.nat_iff.1 g4
       obtain ⟨q3,g5'⟩:=X.nat_iff.1 g5
       obtain ⟨i,j,⟨k1,e1⟩,⟨k2,e2⟩,h3,h4,h5⟩:=sBounds_ok hA hb h1 h2 g4' g5' g6 true
       obtain ⟨p1,d1⟩:=addX_ok g3' e1
       obtain ⟨p2,d2⟩:=subX_ok e2 e1
       obtain ⟨p3,d3⟩:=subX_ok g5' e1
       refine ⟨.slice (some ⟨b,kb + (kl + i) * n,none⟩) (j - i) (kc - i),?_,slx_inst g1 g2 (X.nat_iff.2 ⟨p1,by rw [d1]; norm_cast⟩) (X.nat_iff.2 ⟨p2,by rw [d2]; congr 2; omega⟩) (X.nat_iff.2 ⟨p3,by rw [d3]; congr 2; omega⟩) (by omega)⟩
       simp only [Instr.sliceAt,Instr.slice,Sem.run_bind,zA hE ht,Result.andThen_ok,h5,z8 hE hn,Sem.run_pure]
       congr 3
       rcases orB_ok hz with hz | hz
       ·rw [isNum0_ok hz] at e1
        simp only [X.den,Option.some.injEq,Value.int.injEq] at e1
        have hi0 : i = 0:=by omega
        subst hi0
        split <;> simp [yF]
       ·have:=Env.ltT_ok hA hz e1 g5'
        have hne : ¬ kc = i:=by omega
        simp [hne,yF,Nat.add_mul,Nat.add_assoc]
      ·cases h
     ·cases h
    ·cases h
   ·cases h
  ·rename_i id wd len
   split at h
   ·rename_i n hn
    split at h
    ·rename_i hw
     split at h
     ·rename_i l hh hb
      cases h
      obtain rfl:=Nat.eq_of_beq_eq_true hw
      obtain ⟨b,κ,kn,g1,g4,g6,rfl⟩:=inst_slo hx
      obtain ⟨q2,g4'⟩:=X.nat_iff.1 g4
      obtain ⟨i,j,⟨k1,e1⟩,⟨k2,e2⟩,h3,h4,h5⟩:=sBounds_okC hA hb h1 h2 g4' g4' g6 g6 true
      refine ⟨.slice (some ⟨b,if κ = i then 0 else i * n,none⟩) (j - i) (κ - i),?_,spt_inst g1 (X.nat_iff.2 ⟨k1,e1⟩) (X.nat_iff.2 ⟨k2,e2⟩) h3 h4⟩
      simp only [Instr.sliceAt,Instr.slice,Sem.run_bind,zA hE ht,Result.andThen_ok,h5,z8 hE hn,Sem.run_pure]
      congr 3
      by_cases hz : κ = i
      ·simp [hz]
      ·simp [hz,yF]
     ·cases h
    ·cases h
   ·cases h
  ·cases h
 ·cases h
noncomputable def sSlice3 (E : Env) (t : TypeId) (a hi mx : AV) : Option AV:=none
theorem sSlice3_ok (hE : E.Ok) (hA : E.At σ) {t : TypeId} {a hi mx v : AV} {u hi' mx' : Value} (hx : a.inst σ = some u) (h1 : hi.inst σ = some hi') (h2 : mx.inst σ = some mx')
  (h : sSlice3 E t a hi mx = some v) : RPost σ w ((Instr.sliceAt t u none (some hi') (some mx')).run E.P w) v:=by
 unfold sSlice3 at h
 cases h
noncomputable def knownC (E : Env) (x : X) : Nat→Nat→Option Nat
 | 0,_ => none
 | n + 1,c => match E.dec (eqX x (.num (.ofNat c))) with
   | some true => some c
   | some false => knownC E x n (c + 1)
   | none => none
theorem knownC_ok {E : Env} {x : X} : ∀ {n c m : Nat},knownC E x n c = some m→m < c + n∧E.dec (eqX x (.num (.ofNat m))) = some true
 | 0,c,m,h => by cases h
 | n + 1,c,m,h => by
   simp only [knownC] at h
   split at h
   ·rename_i hd; cases h; exact ⟨by omega,hd⟩
   ·obtain ⟨h1,h2⟩:=knownC_ok h; exact ⟨by omega,h2⟩
   ·cases h
noncomputable def sIndexAddr (E : Env) (t : TypeId) (a ix : AV) : Option AV:=
 match toI ix with
 | some (_,i) => match E.und t with
   | some (.slice elem) => match E.size elem with
     | some n => match a with
       | .slx id w base lo len _ => match andB (Nat.beq n w) (andB (E.ltF i (.num 0)) (E.ltT i len)) with
         | true => some (.ptx id w base (addX lo i) 0)
         | false => none
       | .slo id w len => match andB (Nat.beq n w) (andB (E.ltF i (.num 0)) (E.ltT i len)) with
         | true => some (.ptx id w (.num 0) i 0)
         | false => none
       | .spt id w lo hi => match andB (Nat.beq n w) (andB (E.ltF i (.num 0)) (E.ltT i (partX hi lo))) with
         | true => some (.ptx id w (.num 0) (addX lo i) 0)
         | false => none
       | _ => none
     | none => none
   | some (.array len elem) => match E.size elem with
     | some n => match a with
       | .ptr id off => match knownC E i len 0 with
         | some c => some (.ptr id (off + c * n))
         | none => none
       | _ => none
     | none => none
   | _ => none
 | none => none
theorem sIndexAddr_ok (hE : E.Ok) (hA : E.At σ) {t : TypeId} {a ix v : AV} {u y : Value} (hx : a.inst σ = some u) (hi : ix.inst σ = some y) (h : sIndexAddr E t a ix = some v) :
  RPost σ w ((Instr.indexAt t u y).run E.P w) v:=by
 unfold sIndexAddr at h
 split at h
 ·rename_i k i hq
  obtain ⟨m,k',rfl,hm⟩:=toI_ok hq hi
  split at h
  ·rename_i elem ht
   split at h
   ·rename_i n hn
    split at h
    ·rename_i id wd base lo len cap
     split at h
     ·rename_i hb
      cases h
      obtain ⟨b0,b1⟩:=zb hb
      obtain ⟨b1,b2⟩:=zb b1
      obtain rfl:=Nat.eq_of_beq_eq_true b0
      obtain ⟨b,κ,kb,kl,kn,kc,g1,g2,g3,g4,g5,g6,rfl⟩:=inst_slx hx
      obtain ⟨q1,g3'⟩:=X.nat_iff.1 g3
      obtain ⟨q2,g4'⟩:=X.nat_iff.1 g4
      have f1:=Env.ltF_ok hA b1 hm (b:=.num 0) (k':=.i64) rfl
      have f2:=Env.ltT_ok hA b2 hm g4'
      obtain ⟨m,rfl⟩:=Int.eq_ofNat_of_zero_le f1
      have f3 : m < kn:=by omega
      obtain ⟨p1,d1⟩:=addX_ok g3' hm
      refine ⟨.pointer (some ⟨b,kb + (kl + m) * n + 0,none⟩),?_,ptx_inst g1 g2 (X.nat_iff.2 ⟨p1,by rw [d1]; norm_cast⟩)⟩
      simp [Instr.indexAt,asIntOf,zA hE ht,f3,z8 hE hn,yF,Nat.add_mul,Nat.add_assoc]
     ·cases h
    ·rename_i id wd len
     split at h
     ·rename_i hb
      cases h
      obtain ⟨b0,b1⟩:=zb hb
      obtain ⟨b1,b2⟩:=zb b1
      obtain rfl:=Nat.eq_of_beq_eq_true b0
      obtain ⟨b,κ,kn,g1,g4,g6,rfl⟩:=inst_slo hx
      obtain ⟨q2,g4'⟩:=X.nat_iff.1 g4
      have f1:=Env.ltF_ok hA b1 hm (b:=.num 0) (k':=.i64) rfl
      have f2:=Env.ltT_ok hA b2 hm g4'
      obtain ⟨m,rfl⟩:=Int.eq_ofNat_of_zero_le f1
      have f3 : m < kn:=by omega
      refine ⟨.pointer (some ⟨b,0 + m * n + 0,none⟩),?_,ptx_inst g1 (base:=.num 0) (X.nat_iff.2 ⟨.i64,rfl⟩) (X.nat_iff.2 ⟨_,hm⟩)⟩
      simp [Instr.indexAt,asIntOf,zA hE ht,f3,z8 hE hn,yF]
     ·cases h
    ·rename_i id wd lo hi'
     split at h
     ·rename_i hb
      cases h
      obtain ⟨b0,b1⟩:=zb hb
      obtain ⟨b1,b2⟩:=zb b1
      obtain rfl:=Nat.eq_of_beq_eq_true b0
      obtain ⟨b,κ,l,kn,g1,g2,g3,g4,g5,rfl⟩:=inst_spt hx
      obtain ⟨q1,g2'⟩:=X.nat_iff.1 g2
      obtain ⟨q2,g3'⟩:=X.nat_iff.1 g3
      obtain ⟨q3,g4'⟩:=partX_ok g3' g2'
      have f1:=Env.ltF_ok hA b1 hm (b:=.num 0) (k':=.i64) rfl
      have f2:=Env.ltT_ok hA b2 hm g4'
      obtain ⟨m,rfl⟩:=Int.eq_ofNat_of_zero_le f1
      have f3 : m < kn - l:=by omega
      have f4 : ¬ κ = l:=by omega
      obtain ⟨p1,d1⟩:=addX_ok g2' hm
      refine ⟨.pointer (some ⟨b,0 + (l + m) * n + 0,none⟩),?_,ptx_inst g1 (base:=.num 0) (X.nat_iff.2 ⟨.i64,rfl⟩) (X.nat_iff.2 ⟨p1,by rw [d1]; norm_cast⟩)⟩
      simp [Instr.indexAt,asIntOf,zA hE ht,f3,f4,z8 hE hn,yF,Nat.add_mul,Nat.add_assoc]
     ·cases h
    ·cases h
   ·cases h
  ·rename_i len elem ht
   split at h
   ·rename_i n hn
    split at h
    ·rename_i id off
     split at h
     ·rename_i c hc
      cases h
      obtain ⟨c1,c2⟩:=knownC_ok hc
      have c3:=Env.dec_ok hA c2 (eq_den hm (b:=.num (.ofNat c)) (k':=.i64) rfl)
      obtain rfl : m = (c : Int):=by simpa using c3
      have c4 : c < len:=by omega
      obtain ⟨b,κ,h1,rfl⟩:=inst_ptr hx
      refine ⟨.pointer (some ⟨b,off + c * n,none⟩),?_,ptr_inst h1⟩
      simp [Instr.indexAt,asIntOf,zA hE ht,Instr.sureAddr,c4,z8 hE hn,yF]
     ·cases h
    ·cases h
   ·cases h
  ·cases h
 ·cases h
noncomputable def sFieldAddr (E : Env) (s : TypeId) (x : AV) (i : Nat) : Option AV:=
 match E.und s with
 | some (.struct fs) => match fs[i]? with
   | some f => match E.size f.type with
     | some n => match Nat.beq n 0 with
       | false => match x with
         | .ptx id w base r j => some (.ptx id w base r (j + f.offset))
         | _ => none
       | true => none
     | none => none
   | none => none
 | _ => none
theorem sFieldAddr_ok (hE : E.Ok) {s : TypeId} {x v : AV} {i : Nat} {u : Value} (hx : x.inst σ = some u) (h : sFieldAddr E s x i = some v) :
  RPost σ w ((Instr.fieldAt s u i).run E.P w) v:=by
 unfold sFieldAddr at h
 split at h
 ·rename_i fs hfs
  split at h
  ·rename_i f hf
   split at h
   ·rename_i n hn
    split at h
    ·rename_i hz
     split at h
     ·rename_i id wd base r j
      cases h
      obtain ⟨b,κ,kb,m,h1,h2,h3,rfl⟩:=inst_ptx hx
      have hz' : ¬ n = 0:=Nat.ne_of_beq_eq_false hz
      refine ⟨.pointer (some ⟨b,kb + m * wd + (j + f.offset),none⟩),?_,ptx_inst h1 h2 h3⟩
      simp [Instr.fieldAt,zA hE hfs,hf,Instr.sureAddr,fieldPlace,z8 hE hn,hz',yF,Nat.add_assoc]
     ·cases h
    ·cases h
   ·cases h
  ·cases h
 ·cases h
noncomputable def ckAV (E : Env) : CK→X→AV
 | .int k,x => mkI k x
 | .bool,x => mkB E x
 | .str,x => mkS x
theorem ckAV_ok (hA : E.At σ) {c : CK} {x : X} {v : Value} (hv : c.fits v) (hx : x.den σ.rho = some v) : (ckAV E c x).inst σ = some v:=by
 cases c with
 | int k => obtain ⟨n,rfl⟩:=hv; exact mkI_ok hx
 | bool => obtain ⟨b,rfl⟩:=hv; exact mkB_ok hA hx
 | str => obtain ⟨s,rfl⟩:=hv; exact mkS_ok hx
noncomputable def ckAVs (E : Env) (l i : X) : Nat→List CK→List AV
 | _,[] => []
 | j,c :: cs => ckAV E c (.cell j l i) :: ckAVs E l i (j + 1) cs
theorem RowFits.length {s : List CK} {r : List Value} (h : RowFits s r) : r.length = s.length:=by
 induction h with
 | nil => rfl
 | cons _ _ ih => simp [ih]
theorem RowFits.get {s : List CK} {r : List Value} (h : RowFits s r) : ∀ {j : Nat} {c : CK},s[j]? = some c→∃ v,r[j]? = some v∧c.fits v:=by
 induction h with
 | nil => intro j c hj; simp at hj
 | cons hc _ ih =>
   intro j c hj
   cases j with
   | zero => simp only [List.getElem?_cons_zero,Option.some.injEq] at hj; subst hj; exact ⟨_,rfl,hc⟩
   | succ j => simp only [List.getElem?_cons_succ] at hj ⊢; exact ih hj
theorem flatten_get {w : Nat} : ∀ {rows : List (List Value)},(∀ r ∈ rows,r.length = w)→∀ {i j : Nat} {r : List Value},rows[i]? = some r→j < w→rows.flatten[i * w + j]? = r[j]?
 | [],_,i,j,r,h,_ => by simp at h
 | q :: rows,hw,i,j,r,h,hj => by
   have hq:=hw q (by simp)
   cases i with
   | zero =>
     simp only [List.getElem?_cons_zero,Option.some.injEq] at h
     subst h
     simp only [List.flatten_cons,Nat.zero_mul,Nat.zero_add]
     rw [List.getElem?_append_left (by omega)]
   | succ i =>
     simp only [List.getElem?_cons_succ] at h
     have ih:=flatten_get (fun r hr => hw r (by simp [hr])) h hj
     simp only [List.flatten_cons]
     rw [List.getElem?_append_right (by rw [hq,Nat.add_mul]; omega),hq]
     rw [← ih]
     congr 1
     rw [Nat.add_mul]; omega
theorem get_rows (hS : S.rel E.P σ w Wr) {id wd : Nat} {sch : List CK} {base x : X} {own : Bool} {t : TypeId} (h : S.heap.get id = some (.rows wd sch base x own t)) :
  ∃ b κ rows pre rest fr t₀,σ id = some (b,κ)∧w.heap[b]? = some (.cells (pre ++ (rows.flatten ++ rest)).toArray t₀ fr)∧x.den σ.rho = some (zQ rows)∧base.nat σ.rho = some (pre.length)∧sch.length = wd∧0 < wd ∧
    (∀ r ∈ rows,RowFits sch r)∧(own = true→t₀ = t∧pre = []∧κ * yo E.P t≤(pre ++ (rows.flatten ++ rest)).length∧yo E.P t = wd∧(fr.2≤fr.1∨(pre ++ (rows.flatten ++ rest)).length≤fr.1)):=by
 obtain ⟨b,κ,o,h1,h2,h3⟩:=hS.at_ id _ h
 obtain ⟨rows,pre,rest,fr,t₀,e1,e2,e3,e4,e5,e6,e7⟩:=h3
 subst e6
 exact ⟨b,κ,rows,pre,rest,fr,t₀,h1,h2,e1,e2,e3,e4,e5,e7⟩
theorem rows_cell {b wd : Nat} {rows : List (List Value)} {pre rest : List Value} {t : TypeId} {fr : Nat×Nat} (hb : w.heap[b]? = some (.cells (pre ++ (rows.flatten ++ rest)).toArray t fr)) (hw : ∀ r ∈ rows,r.length = wd)
  {i j : Nat} {r : List Value} (hr : rows[i]? = some r) (hj : j < wd) : w.cell? ⟨b,pre.length + i * wd + j,none⟩ = r[j]?:=by
 have hf:=flatten_get hw hr hj
 have hlt : i * wd + j < rows.flatten.length:=by
  have : j < r.length:=by rw [hw r (List.mem_of_getElem? hr)]; exact hj
  rw [List.getElem?_eq_getElem this] at hf
  exact (List.getElem?_eq_some_iff.1 hf).1
 simp only [World.cell?,hb]
 simp only [List.getElem?_toArray]
 rw [List.getElem?_append_right (by omega),show pre.length + i * wd + j - pre.length = i * wd + j by omega,List.getElem?_append_left hlt,hf]
 simp
theorem len_den {ρ : Rho} {x : X} {rows : List (List Value)} (h : x.den ρ = some (zQ rows)) : (X.op1 .len x).den ρ = some (.int .i64 rows.length):=by simp only [X.den,h,zQ,den1]; simp
theorem cell_den {ρ : Rho} {x i : X} {rows : List (List Value)} {n j : Nat} {k : IntKind} {r : List Value} {v : Value} (h : x.den ρ = some (zQ rows)) (hi : i.den ρ = some (.int k (n : Int))) (hr : rows[n]? = some r) (hv : r[j]? = some v) :
 (X.cell j x i).den ρ = some v:=by simp only [X.den,h,hi,zQ,denCell]; simp [hr,hv]
noncomputable def sLoad (E : Env) (S : ASt) (t : TypeId) (a : AV) : Option AV:=
 match a with
 | .ptx id w base i j => match S.heap.get id with
   | some (.rows w' sch base' x _ _) => match andB (Nat.beq w w') (andB (yB base base') (andB (E.ltF i (.num 0)) (E.ltT i (.op1 .len x)))) with
     | true => match E.agg t with
       | some true => match E.size t with
         | some n => match Nat.ble (j + n) w with
           | true => some (.agg (ckAVs E x i j ((sch.drop j).take n)))
           | false => none
         | none => none
       | some false => match sch[j]? with
         | some c => some (ckAV E c (.cell j x i))
         | none => none
       | none => none
     | false => none
   | _ => none
 | _ => none
theorem ckAVs_ok (hA : E.At σ) {x i : X} {rows : List (List Value)} {n : Nat} {k : IntKind} {r : List Value} (hx : x.den σ.rho = some (zQ rows)) (hi : i.den σ.rho = some (.int k (n : Int))) (hr : rows[n]? = some r) :
  ∀ (sch : List CK) (j : Nat) (vs : List Value),RowFits sch vs→(∀ m v,vs[m]? = some v→r[j + m]? = some v)→Ins σ (ckAVs E x i j sch) vs
 | [],j,vs,hf,_ => by cases hf; exact .nil
 | c :: sch,j,vs,hf,hv => by
   cases hf with
   | cons hc hf =>
     rename_i v vs
     refine .cons (ckAV_ok hA hc (cell_den hx hi hr (hv 0 v rfl))) ?_
     exact ckAVs_ok hA hx hi hr sch (j + 1) vs hf fun m u hm => by
      have:=hv (m + 1) u (by simpa using hm)
      rw [show j + 1 + m = j + (m + 1) by omega]
      exact this
theorem RowFits.drop {s : List CK} {r : List Value} (h : RowFits s r) : ∀ n,RowFits (s.drop n) (r.drop n):=by
 induction h with
 | nil => intro n; simp; exact .nil
 | cons hc hl ih => intro n; cases n with
   | zero => exact .cons hc hl
   | succ n => exact ih n
theorem RowFits.take {s : List CK} {r : List Value} (h : RowFits s r) : ∀ n,RowFits (s.take n) (r.take n):=by
 induction h with
 | nil => intro n; simp; exact .nil
 | cons hc hl ih => intro n; cases n with
   | zero => exact .nil
   | succ n => exact .cons hc (ih n)
theorem sLoad_ok (hE : E.Ok) (hA : E.At σ) (hS : S.rel E.P σ w Wr) {t : TypeId} {a v : AV} {u : Value} (hx : a.inst σ = some u) (h : sLoad E S t a = some v) : RPost σ w ((Instr.loadAt t u).run E.P w) v:=by
 unfold sLoad at h
 split at h
 ·rename_i id wd base i j
  split at h
  ·rename_i wd' sch base' x own tb hb
   split at h
   ·rename_i hc
    obtain ⟨c1,c2⟩:=zb hc
    obtain ⟨c2,c3⟩:=zb c2
    obtain ⟨c3,c4⟩:=zb c3
    obtain rfl:=Nat.eq_of_beq_eq_true c1
    obtain rfl:=zL c2
    obtain ⟨b,κ,rows,pre,rest,fr,t₀,e1,e2,e3,e4,e5,e6,e7,_⟩:=get_rows hS hb
    obtain ⟨b',κ',kb,n,f1,f2,f3,rfl⟩:=inst_ptx hx
    rw [e1] at f1; cases f1
    rw [e4] at f2; cases f2
    obtain ⟨k,hi⟩:=X.nat_iff.1 f3
    have hn : n < rows.length:=by
     have:=Env.ltT_ok hA c4 hi (len_den e3)
     omega
    obtain ⟨r,hr⟩ : ∃ r,rows[n]? = some r:=⟨_,List.getElem?_eq_getElem hn⟩
    have hrf:=e7 r (List.mem_of_getElem? hr)
    have hw : ∀ q ∈ rows,q.length = wd:=fun q hq => by rw [(e7 q hq).length,e5]
    have hrl : r.length = wd:=hw r (List.mem_of_getElem? hr)
    split at h
    ·rename_i ha
     split at h
     ·rename_i m hm
      split at h
      ·rename_i hle
       cases h
       have hle:=Nat.le_of_ble_eq_true hle
       refine ⟨.agg ((r.drop j).take m).toArray,?_,?_⟩
       ·have hl : ((r.drop j).take m).length = m:=by simp; omega
        have hrun:=run_loadCells_list (P:=E.P) w ⟨b,pre.length + n * wd + j,none⟩ ((r.drop j).take m) (fun p v hp => by
         have hpm : p < m:=by
          have:=(List.getElem?_eq_some_iff.1 hp).1
          omega
         rw [List.getElem?_take_of_lt hpm,List.getElem?_drop] at hp
         rw [yF,Nat.add_assoc,rows_cell e2 hw hr (by omega),hp])
        rw [hl] at hrun
        simp [Instr.loadAt,Instr.sureAddr,loadVar,run_agg hE ha,z8 hE hm,hrun]
       ·have hins:=ckAVs_ok hA e3 hi hr ((sch.drop j).take m) j ((r.drop j).take m) ((hrf.drop j).take m) (fun p v hp => by
         have hpm : p < m:=by
          have h1:=(List.getElem?_eq_some_iff.1 hp).1
          have : ((r.drop j).take m).length≤m:=List.length_take_le _ _
          omega
         rw [List.getElem?_take_of_lt hpm,List.getElem?_drop] at hp
         exact hp)
        simp only [AV.inst,instL_iff.2 hins]
      ·cases h
     ·cases h
    ·rename_i ha
     split at h
     ·rename_i c hcj
      cases h
      obtain ⟨v,hv,hf⟩:=hrf.get hcj
      have hj : j < wd:=by
       have:=(List.getElem?_eq_some_iff.1 hcj).1
       omega
      refine ⟨v,?_,ckAV_ok hA hf (cell_den e3 hi hr hv)⟩
      have hcell : w.cell? ⟨b,pre.length + n * wd + j,none⟩ = some v:=by rw [rows_cell e2 hw hr hj,hv]
      simp [Instr.loadAt,Instr.sureAddr,loadVar,run_agg hE ha,hcell]
     ·cases h
    ·cases h
   ·cases h
  ·cases h
 ·cases h
end
open Go
section
variable {E : Env} {σ : Sig} {S S' : ASt} {w : World} {Wr : Nat→Prop} {T : Trie AV} {a : Act} {o : Oper}
theorem ite_den {ρ : Rho} {c p q : X} {b : Bool} {v u : Value} (hc : c.den ρ = some (.bool b)) (hp : p.den ρ = some v) (hq : q.den ρ = some u) : (X.ite c p q).den ρ = some (if b then v else u):=by
 simp only [X.den,hc,zd]
 cases b <;> simp [hp,hq]
noncomputable def sPick (E : Env) (c : X) (p q : AV) : Option AV:=none
theorem sPick_ok (hA : E.At σ) {c : X} {p q v : AV} {b : Bool} {pu qu : Value} (hc : c.den σ.rho = some (.bool b)) (hp : p.inst σ = some pu) (hq : q.inst σ = some qu) (h : sPick E c p q = some v) :
  v.inst σ = some (if b then pu else qu):=by
 unfold sPick at h
 cases h
noncomputable def sMax (E : Env) (mx : Bool) (p q : AV) : Option AV:=
 match toI p,toI q with
 | some (k,x),some (k',y) => match Nat.beq (o1No (.kind k)) (o1No (.kind k')) with
   | true =>
     let c:=match mx with | true => ltX x y | false => ltX y x
     match E.dec c with
     | some true => some (mkI k y)
     | some false => some (mkI k x)
     | none => some (mkI k (.ite c (.op1 (.kind k) y) (.op1 (.kind k) x)))
   | false => none
 | _,_ => none
theorem sMax_ok (hA : E.At σ) {mx : Bool} {p q v : AV} {pu qu : Value} (hp : p.inst σ = some pu) (hq : q.inst σ = some qu) (h : sMax E mx p q = some v) :
  ∃ k m n,pu = .int k m∧qu = .int k n∧v.inst σ = some (.int k (if mx then (if n > m then n else m) else (if n < m then n else m))):=by
 unfold sMax at h
 split at h
 ·rename_i k x k' y e1 e2
  split at h
  ·rename_i hk
   obtain rfl:=kind_same hk
   obtain ⟨m,k1,rfl,hm⟩:=toI_ok e1 hp
   obtain ⟨n,k2,rfl,hn⟩:=toI_ok e2 hq
   refine ⟨k,m,n,rfl,rfl,?_⟩
   cases mx with
   | true =>
     have hc:=lt_den hm hn
     simp only at h
     split at h
     ·rename_i hd
      cases h
      have:=Env.dec_ok hA hd hc
      simp only [decide_eq_true_eq] at this
      simp only [if_true,gt_iff_lt,if_pos this]
      exact mkI_ok hn
     ·rename_i hd
      cases h
      have:=Env.dec_ok hA hd hc
      simp only [decide_eq_false_iff_not] at this
      simp only [if_true,gt_iff_lt,if_neg this]
      exact mkI_ok hm
     ·cases h
      have:=ite_den hc (kind_den (k:=k) hn) (kind_den (k:=k) hm)
      refine mkI_ok (k':=k) ?_
      rw [this]
      by_cases hmn : m < n <;> simp [hmn]
   | false =>
     have hc:=lt_den hn hm
     simp only at h
     split at h
     ·rename_i hd
      cases h
      have:=Env.dec_ok hA hd hc
      simp only [decide_eq_true_eq] at this
      simp only [Bool.false_eq_true,if_false,if_pos this]
      exact mkI_ok hn
     ·rename_i hd
      cases h
      have:=Env.dec_ok hA hd hc
      simp only [decide_eq_false_iff_not] at this
      simp only [Bool.false_eq_true,if_false,if_neg this]
      exact mkI_ok hm
     ·cases h
      have:=ite_den hc (kind_den (k:=k) hn) (kind_den (k:=k) hm)
      refine mkI_ok (k':=k) ?_
      rw [this]
      by_cases hmn : n < m <;> simp [hmn]
  ·cases h
 ·cases h
noncomputable def sBuiltin (E : Env) (b : Builtin) (argTypes : Array TypeId) (args : List AV) : Option AV:=
 match b with
 | .len => match args with
   | [x] => sLen E argTypes x
   | _ => none
 | .max => match args with
   | [x,y] => sMax E true x y
   | _ => none
 | .min => match args with
   | [x,y] => sMax E false x y
   | _ => none
 | _ => none
noncomputable def sreadOp (E : Env) (T : Trie AV) (S : ASt) (o : Oper) : Option AV:=
 match o.op with
 | .binOp op t x y _ => match zB E T x,zB E T y with
   | some a,some b => sBin E op t a b
   | _,_ => none
 | .unOp op _ x => match zB E T x with
   | some a => sUn E op a
   | none => none
 | .convert s d x => match zB E T x with
   | some a => sConv E s d a
   | none => none
 | .index t x i => match zB E T x,zB E T i with
   | some a,some b => sIndex E t a b
   | _,_ => none
 | .slice t x lo hi mx => match mx with
   | some m => match lo,hi with
     | none,some h => match zB E T x,zB E T h,zB E T m with
       | some xv,some hv,some mv => sSlice3 E t xv hv mv
       | _,_,_ => none
     | _,_ => none
   | none => match zB E T x with
     | some xv => match aevalO E T lo with
       | some lv => match aevalO E T hi with
         | some hv => sSlice E t xv lv hv
         | none => none
       | none => none
     | none => none
 | .indexAddr t x i => match zB E T x,zB E T i with
   | some a,some b => sIndexAddr E t a b
   | _,_ => none
 | .fieldAddr s x f => match zB E T x with
   | some a => sFieldAddr E s a f
   | none => none
 | .load t x => match zB E T x with
   | some a => sLoad E S t a
   | none => none
 | .nilCheck x => match zB E T x with
   | some (.ptx id w base i j) => some (.ptx id w base i j)
   | _ => none
 | .pick c x y => match zB E T c with
   | some (.sbool b) => match zB E T x,zB E T y with
     | some p,some q => sPick E b p q
     | _,_ => none
   | _ => none
 | .call c => match c.callee with
   | .builtin b => match aevalL E T c.args.toList with
     | some args => sBuiltin E b c.argTypes args
     | none => none
   | _ => none
 | _ => none
theorem aevalO_inst (hA : E.At σ) (hT : TRel σ T a.tmps) {x : Option Operand} {v : Option AV} (h : aevalO E T x = some v) : instO σ v (x.map a.eval):=by
 unfold aevalO at h
 split at h
 ·cases h; exact trivial
 ·split at h
  ·rename_i hx
   cases h
   exact zW hA hT hx
  ·cases h
theorem sreadOp_ok (hE : E.Ok) (hA : E.At σ) (hS : S.rel E.P σ w Wr) (hT : TRel σ T a.tmps) {v : AV} (h : sreadOp E T S o = some v) :
  ∃ u,(execOp a.eval o).run E.P w = .ok (.value u) w∧v.inst σ = some u:=by
 have ev : ∀ {x : Operand} {v : AV},zB E T x = some v→v.inst σ = some (a.eval x):=fun hx => zW hA hT hx
 unfold sreadOp at h
 split at h
 ·rename_i op t x y yt hop
  split at h
  ·rename_i p q hp hq
   simp only [execOp,hop]
   exact yx (sBin_ok hE hA (ev hp) (ev hq) h x y)
  ·cases h
 ·rename_i op t x hop
  split at h
  ·rename_i p hp
   simp only [execOp,hop]
   exact yx (sUn_ok hA (ev hp) h)
  ·cases h
 ·rename_i s d x hop
  split at h
  ·rename_i p hp
   simp only [execOp,hop]
   exact yx (sConv_ok hE (ev hp) h)
  ·cases h
 ·rename_i t x i hop
  split at h
  ·rename_i p q hp hq
   simp only [execOp,hop]
   exact yx (sIndex_ok hE hA (ev hp) (ev hq) h)
  ·cases h
 ·rename_i t x lo hi mx hop
  split at h
  ·rename_i m
   split at h
   ·rename_i hq
    split at h
    ·rename_i xv hv mv hx hh hm
     simp only [execOp,hop]
     exact yx (sSlice3_ok hE hA (ev hx) (ev hh) (ev hm) h)
    ·cases h
   ·cases h
  ·split at h
   ·rename_i xv hx
    split at h
    ·rename_i lv hl
     split at h
     ·rename_i hv hh
      simp only [execOp,hop]
      exact yx (sSlice_ok hE hA (ev hx) (aevalO_inst hA hT hl) (aevalO_inst hA hT hh) h)
     ·cases h
    ·cases h
   ·cases h
 ·rename_i t x i hop
  split at h
  ·rename_i p q hp hq
   simp only [execOp,hop]
   exact yx (sIndexAddr_ok hE hA (ev hp) (ev hq) h)
  ·cases h
 ·rename_i s x f hop
  split at h
  ·rename_i p hp
   simp only [execOp,hop]
   exact yx (sFieldAddr_ok hE (ev hp) h)
  ·cases h
 ·rename_i t x hop
  split at h
  ·rename_i p hp
   simp only [execOp,hop]
   exact yx (sLoad_ok hE hA hS (ev hp) h)
  ·cases h
 ·rename_i x hop
  split at h
  ·rename_i id wd base i j hx
   cases h
   obtain ⟨b,κ,kb,n,h1,h2,h3,h4⟩:=inst_ptx (ev hx)
   exact ⟨a.eval x,by simp [execOp,hop,h4],ev hx⟩
  ·cases h
 ·rename_i c x y hop
  split at h
  ·rename_i b hb
   split at h
   ·rename_i p q hp hq
    obtain ⟨r,hr,hd⟩:=toB_ok (a:=.sbool b) rfl (ev hb)
    refine ⟨_,?_,sPick_ok hA hd (ev hp) (ev hq) h⟩
    simp [execOp,hop,hr,asBool]
   ·cases h
  ·cases h
 ·rename_i c hop
  split at h
  ·rename_i b hc
   split at h
   ·rename_i args ha
    have hi:=aevalL_ok hA hT ha
    unfold sBuiltin at h
    split at h
    ·split at h
     ·rename_i x
      obtain ⟨u,hu,hx⟩:=Ins.single hi
      obtain ⟨y,hy,hv⟩:=sLen_ok (w:=w) (ty:=o.type) hE hx h
      refine ⟨y,?_,hv⟩
      have hargs : c.args.map a.eval = #[u]:=by
       apply Array.ext'
       simpa using hu
      simp [execOp,hop,resolve,hc,hargs,invoke,builtin,hy]
     ·cases h
    ·split at h
     ·rename_i x y
      obtain ⟨u,v',hu,hx,hy⟩:=Ins.two hi
      obtain ⟨k,m,n,rfl,rfl,hv⟩:=sMax_ok hA hx hy h
      refine ⟨_,?_,hv⟩
      have hargs : c.args.map a.eval = #[.int k m,.int k n]:=by
       apply Array.ext'
       simpa using hu
      simp [execOp,hop,resolve,hc,hargs,invoke,builtin,Builtin.max_,Builtin.max2]
     ·cases h
    ·split at h
     ·rename_i x y
      obtain ⟨u,v',hu,hx,hy⟩:=Ins.two hi
      obtain ⟨k,m,n,rfl,rfl,hv⟩:=sMax_ok hA hx hy h
      refine ⟨_,?_,hv⟩
      have hargs : c.args.map a.eval = #[.int k m,.int k n]:=by
       apply Array.ext'
       simpa using hu
      simp [execOp,hop,resolve,hc,hargs,invoke,builtin,Builtin.min_,Builtin.min2]
     ·cases h
    ·cases h
   ·cases h
  ·cases h
 ·cases h
end
open Go
section
variable {E : Env} {σ : Sig} {S S' : ASt} {w : World} {Wr : Nat→Prop}
def lenX : X→X
 | .nil => .num 0
 | .snoc l _ => addX (lenX l) (.num 1)
 | x => .op1 .len x
theorem snoc_den {ρ : Rho} {l : X} {r : List X} {rows : List (List Value)} {vs : List Value} (h : l.den ρ = some (zQ rows)) (hr : denL ρ r = some vs) : (X.snoc l r).den ρ = some (zQ (rows ++ [vs])):=by
 simp only [X.den,h,hr,zQ,yP]; simp
theorem den_tuple {ρ : Rho} {l : X} {r : List X} {rows : List (List Value)} (h : (X.snoc l r).den ρ = some (zQ rows)) : ∃ rows' vs,l.den ρ = some (zQ rows')∧rows = rows' ++ [vs]:=by
 simp only [X.den] at h
 split at h
 ·rename_i v hv
  split at h
  ·rename_i u hu
   unfold yP at h
   split at h
   ·rename_i a
    simp only [zQ,Option.some.injEq,Value.tuple.injEq] at h
    have h' : a.toList ++ [Value.agg u.toArray] = rows.map fun r => Value.agg r.toArray:=by
     have:=congrArg Array.toList h
     simpa using this
    rcases List.eq_nil_or_concat rows with rfl | ⟨rs,q,rfl⟩
    ·simp at h'
    ·simp only [List.concat_eq_append,List.map_append,List.map_cons,List.map_nil] at h'
     have h1:=List.append_inj' h' rfl
     refine ⟨rs,q,?_,by simp⟩
     rw [hv]
     simp only [zQ,Option.some.injEq,Value.tuple.injEq]
     apply Array.ext'
     simpa using h1.1
   ·cases h
  ·cases h
 ·cases h
theorem lenX_den {ρ : Rho} : ∀ {x : X} {rows : List (List Value)},x.den ρ = some (zQ rows)→∃ k,(lenX x).den ρ = some (.int k (rows.length : Int))
 | .nil,rows,h => by
   simp only [X.den,zQ,Option.some.injEq,Value.tuple.injEq] at h
   have : rows = []:=by
    have:=congrArg Array.size h
    simp at this
    exact List.eq_nil_of_length_eq_zero this.symm
   subst this
   exact ⟨.i64,rfl⟩
 | .snoc l r,rows,h => by
   obtain ⟨rows',vs,h1,rfl⟩:=den_tuple h
   obtain ⟨k,hk⟩:=lenX_den h1
   obtain ⟨k',hk'⟩:=addX_ok hk (b:=.num 1) (k':=.i64) rfl
   exact ⟨k',by simp only [lenX]; rw [hk']; simp⟩
 | .var i,rows,h => ⟨_,len_den h⟩
 | .num i,rows,h => ⟨_,len_den h⟩
 | .boo i,rows,h => ⟨_,len_den h⟩
 | .str i,rows,h => ⟨_,len_den h⟩
 | .op1 _ _,rows,h => ⟨_,len_den h⟩
 | .op2 _ _ _,rows,h => ⟨_,len_den h⟩
 | .ite _ _ _,rows,h => ⟨_,len_den h⟩
 | .cell _ _ _,rows,h => ⟨_,len_den h⟩
 | .ssub _ _ _,rows,h => ⟨_,len_den h⟩
 | .lsub _ _ _,rows,h => ⟨_,len_den h⟩
 | .app _ _,rows,h => ⟨_,len_den h⟩
def catX : X→X→X
 | .nil,b => b
 | a,.nil => a
 | a,.snoc b r => .snoc (catX a b) r
 | a,b => .op2 .lcat a b
theorem nil_rows {ρ : Rho} {rows : List (List Value)} (h : X.nil.den ρ = some (zQ rows)) : rows = []:=by
 simp only [X.den,zQ,Option.some.injEq,Value.tuple.injEq] at h
 have:=congrArg Array.size h
 simp at this
 exact List.eq_nil_of_length_eq_zero this.symm
theorem snoc_row {ρ : Rho} {l : X} {r : List X} {rows : List (List Value)} (h : (X.snoc l r).den ρ = some (zQ rows)) : ∃ rows' vs,l.den ρ = some (zQ rows')∧denL ρ r = some vs∧rows = rows' ++ [vs]:=by
 obtain ⟨rows',vs,h1,rfl⟩:=den_tuple h
 simp only [X.den] at h
 rw [h1] at h
 simp only at h
 split at h
 ·rename_i u hu
  refine ⟨rows',vs,h1,?_,rfl⟩
  have h2:=snoc_den h1 hu
  simp only [X.den,h1,hu] at h2
  rw [h2] at h
  simp only [zQ,Option.some.injEq,Value.tuple.injEq] at h
  have h3:=congrArg Array.toList h
  simp only [List.map_append,List.map_cons,List.map_nil] at h3
  have h4:=(List.append_inj' h3 rfl).2
  simp only [List.cons.injEq,Value.agg.injEq,and_true] at h4
  have : u = vs:=by
   have:=congrArg Array.toList h4
   simpa using this
  rw [hu,this]
 ·cases h
theorem lcat_den {ρ : Rho} {a b : X} {r1 r2 : List (List Value)} (ha : a.den ρ = some (zQ r1)) (hb : b.den ρ = some (zQ r2)) : (X.op2 .lcat a b).den ρ = some (zQ (r1 ++ r2)):=by
 simp only [X.den,ha,hb,zQ,den2]; simp
theorem catX_den {ρ : Rho} : ∀ {b a : X} {r1 r2 : List (List Value)},a.den ρ = some (zQ r1)→b.den ρ = some (zQ r2)→(catX a b).den ρ = some (zQ (r1 ++ r2))
 | .snoc b r,a,r1,r2,ha,hb => by
   unfold catX
   split
   ·rw [nil_rows ha]; simpa using hb
   ·rename_i h; cases h
   ·rename_i b' r' h
    cases h
    obtain ⟨rows',vs,h1,h2,rfl⟩:=snoc_row hb
    rw [← List.append_assoc]
    exact snoc_den (catX_den ha h1) h2
   ·rename_i h1 h2
    exact absurd rfl (h2 b r)
 | .nil,a,r1,r2,ha,hb => by
   rw [nil_rows hb]
   unfold catX
   split
   ·rw [nil_rows ha]; simpa using hb.trans (by rw [nil_rows hb])
   ·simpa using ha
   ·rename_i h; cases h
   ·rename_i h1 h2; exact absurd rfl h1
 | .var i,a,r1,r2,ha,hb => by unfold catX; split <;> first | (rw [nil_rows ha]; simpa using hb) | (rename_i h; cases h) | exact lcat_den ha hb
 | .num i,a,r1,r2,ha,hb => by unfold catX; split <;> first | (rw [nil_rows ha]; simpa using hb) | (rename_i h; cases h) | exact lcat_den ha hb
 | .boo i,a,r1,r2,ha,hb => by unfold catX; split <;> first | (rw [nil_rows ha]; simpa using hb) | (rename_i h; cases h) | exact lcat_den ha hb
 | .str i,a,r1,r2,ha,hb => by unfold catX; split <;> first | (rw [nil_rows ha]; simpa using hb) | (rename_i h; cases h) | exact lcat_den ha hb
 | .op1 _ _,a,r1,r2,ha,hb => by unfold catX; split <;> first | (rw [nil_rows ha]; simpa using hb) | (rename_i h; cases h) | exact lcat_den ha hb
 | .op2 _ _ _,a,r1,r2,ha,hb => by unfold catX; split <;> first | (rw [nil_rows ha]; simpa using hb) | (rename_i h; cases h) | exact lcat_den ha hb
 | .ite _ _ _,a,r1,r2,ha,hb => by unfold catX; split <;> first | (rw [nil_rows ha]; simpa using hb) | (rename_i h; cases h) | exact lcat_den ha hb
 | .cell _ _ _,a,r1,r2,ha,hb => by unfold catX; split <;> first | (rw [nil_rows ha]; simpa using hb) | (rename_i h; cases h) | exact lcat_den ha hb
 | .ssub _ _ _,a,r1,r2,ha,hb => by unfold catX; split <;> first | (rw [nil_rows ha]; simpa using hb) | (rename_i h; cases h) | exact lcat_den ha hb
 | .lsub _ _ _,a,r1,r2,ha,hb => by unfold catX; split <;> first | (rw [nil_rows ha]; simpa using hb) | (rename_i h; cases h) | exact lcat_den ha hb
 | .app _ _,a,r1,r2,ha,hb => by unfold catX; split <;> first | (rw [nil_rows ha]; simpa using hb) | (rename_i h; cases h) | exact lcat_den ha hb
noncomputable def toCell : AV→Option (CK×X)
 | .int k n => some (.int k,.op1 (.kind k) (.num n))
 | .sint k x => some (.int k,.op1 (.kind k) x)
 | .bool b => some (.bool,.boo b)
 | .sbool x => some (.bool,x)
 | .str s => some (.str,.str s)
 | .sstr x => some (.str,x)
 | _ => none
theorem toCell_ok {a : AV} {c : CK} {x : X} {u : Value} (h : toCell a = some (c,x)) (hu : a.inst σ = some u) : c.fits u∧x.den σ.rho = some u:=by
 unfold toCell at h
 split at h
 ·cases h
  obtain rfl:=inst_int hu
  exact ⟨⟨_,rfl⟩,kind_den (k':=.i64) rfl⟩
 ·cases h
  obtain ⟨n,k',rfl,hn⟩:=toI_ok (a:=.sint _ _) rfl hu
  exact ⟨⟨_,rfl⟩,kind_den hn⟩
 ·cases h
  simp only [AV.inst,Option.some.injEq] at hu
  subst hu
  exact ⟨⟨_,rfl⟩,rfl⟩
 ·cases h
  obtain ⟨b,rfl,hb⟩:=toB_ok (a:=.sbool _) rfl hu
  exact ⟨⟨_,rfl⟩,hb⟩
 ·cases h
  simp only [AV.inst,Option.some.injEq] at hu
  subst hu
  exact ⟨⟨_,rfl⟩,rfl⟩
 ·cases h
  obtain ⟨b,rfl,hb⟩:=toS_ok (a:=.sstr _) rfl hu
  exact ⟨⟨_,rfl⟩,hb⟩
 ·cases h
noncomputable def toRow : List AV→Option (List CK×List X)
 | [] => some ([],[])
 | a :: l => match toCell a with
   | some (c,x) => match toRow l with
     | some (cs,xs) => some (c :: cs,x :: xs)
     | none => none
   | none => none
theorem toRow_ok : ∀ {l : List AV} {cs : List CK} {xs : List X} {us : List Value},toRow l = some (cs,xs)→Ins σ l us→RowFits cs us∧denL σ.rho xs = some us
 | [],cs,xs,us,h,hi => by
   simp only [toRow,Option.some.injEq,Prod.mk.injEq] at h
   obtain ⟨rfl,rfl⟩:=h
   cases hi
   exact ⟨.nil,rfl⟩
 | a :: l,cs,xs,us,h,hi => by
   simp only [toRow] at h
   split at h
   ·rename_i c x hc
    split at h
    ·rename_i cs' xs' hr
     simp only [Option.some.injEq,Prod.mk.injEq] at h
     obtain ⟨rfl,rfl⟩:=h
     cases hi with
     | cons ha hl =>
       obtain ⟨h1,h2⟩:=toCell_ok hc ha
       obtain ⟨h3,h4⟩:=toRow_ok hr hl
       exact ⟨.cons h1 h3,by simp only [denL,h2,h4]⟩
    ·cases h
   ·cases h
theorem CK.one {c : CK} {v : Value} (h : c.fits v) : v.oneCell' = true:=by
 cases c with
 | int k => obtain ⟨n,rfl⟩:=h; rfl
 | bool => obtain ⟨n,rfl⟩:=h; rfl
 | str => obtain ⟨n,rfl⟩:=h; rfl
theorem RowFits.one {s : List CK} {r : List Value} (h : RowFits s r) : ∀ v ∈ r,v.oneCell' = true:=by
 induction h with
 | nil => intro v hv; cases hv
 | cons hc _ ih =>
   intro v hv
   cases hv with
   | head => exact CK.one hc
   | tail _ hm => exact ih v hm
def ckNo : CK→Nat
 | .int k => o1No (.wrap k)
 | .bool => 100
 | .str => 101
theorem ckNo_inj {a b : CK} (h : Nat.beq (ckNo a) (ckNo b) = true) : a = b:=by
 have:=Nat.eq_of_beq_eq_true h
 cases a <;> cases b <;> first
  | rfl
  | (rename_i k k'; cases k <;> cases k' <;> first | rfl | (simp [ckNo,o1No] at this))
  | (rename_i k; cases k <;> simp [ckNo,o1No] at this)
  | (simp [ckNo] at this)
def sameSch : List CK→List CK→Bool
 | [],[] => true
 | a :: l,b :: m => andB (Nat.beq (ckNo a) (ckNo b)) (sameSch l m)
 | _,_ => false
theorem yR : ∀ {a b : List CK},sameSch a b = true→a = b
 | [],[],_ => rfl
 | a :: l,b :: m,h => by
   obtain ⟨h1,h2⟩:=zb h
   rw [ckNo_inj h1,yR h2]
 | [],_ :: _,h => by cases h
 | _ :: _,[],h => by cases h
noncomputable def rowsX (w : Nat) : Nat→X→List AV→Option (List CK×X)
 | 0,_,_ => none
 | n + 1,x,l => match toRow (l.take w) with
   | some (sch,row) => match n with
     | 0 => some (sch,.snoc x row)
     | n + 1 => match rowsX w (n + 1) (.snoc x row) (l.drop w) with
       | some (sch',y) => match sameSch sch sch' with
         | true => some (sch',y)
         | false => none
       | none => none
   | none => none
theorem rowsX_ok {wd : Nat} : ∀ (n : Nat) {x : X} {l : List AV} {sch : List CK} {y : X} {us : List Value} {rows : List (List Value)},rowsX wd n x l = some (sch,y)→Ins σ l us→us.length = n * wd→x.den σ.rho = some (zQ rows) →
  ∃ rs,y.den σ.rho = some (zQ (rows ++ rs))∧rs.flatten = us∧rs.length = n∧(∀ r ∈ rs,RowFits sch r)∧sch.length = wd
 | 0,x,l,sch,y,us,rows,h,hi,hl,hx => by cases h
 | n + 1,x,l,sch,y,us,rows,h,hi,hl,hx => by
   unfold rowsX at h
   split at h
   ·rename_i sch₁ row hr
    obtain ⟨hf,hd⟩:=toRow_ok hr (hi.take wd)
    have hsn:=snoc_den hx hd
    have htl : (us.take wd).length = wd:=by rw [List.length_take,hl,Nat.add_mul]; omega
    have hsl : sch₁.length = wd:=by rw [← hf.length]; exact htl
    split at h
    ·cases h
     have h0 : us.take wd = us:=List.take_of_length_le (by omega)
     rw [h0] at hf hsn
     exact ⟨[us],hsn,by simp,rfl,by simpa using hf,hsl⟩
    ·rename_i n
     split at h
     ·rename_i sch₂ y₂ h2
      split at h
      ·rename_i hs
       cases h
       obtain rfl:=yR hs
       obtain ⟨rs,e1,e2,e3,e4,e5⟩:=rowsX_ok (n + 1) h2 (hi.drop wd) (by rw [List.length_drop,hl]; rw [show n + 1 + 1 = (n + 1) + 1 from rfl,Nat.add_mul (n + 1) 1]; omega) hsn
       refine ⟨us.take wd :: rs,?_,?_,by simp [e3],?_,e5⟩
       ·simpa using e1
       ·simp [e2]
       ·intro r hrm
        cases hrm with
        | head => exact hf
        | tail _ hm => exact e4 r hm
      ·cases h
     ·cases h
   ·cases h
noncomputable def sSrc (E : Env) (S : ASt) (size : Nat) (x : AV) : Option (List CK×X×X):=
 match x with
 | .slice id off len _ _ => match S.heap.get id with
   | some (.cells l _) => match andB (Nat.ble (off + len * size) l.length) (Nat.blt 0 size) with
     | true => match rowsX size len .nil ((l.drop off).take (len * size)) with
       | some (sch,y) => some (sch,y,.num len)
       | none => none
     | false => none
   | _ => none
 | .slx id w base lo len _ => match S.heap.get id with
   | some (.rows w' sch base' y _ _) => match andB (Nat.beq w w') (andB (Nat.beq w size) (andB (yB base base') (andB (isNum0 lo) (yB len (lenX y))))) with
     | true => some (sch,y,len)
     | false => none
   | _ => none
 | .slo id w len => match S.heap.get id with
   | some (.rows w' sch base' y _ _) => match andB (Nat.beq w w') (andB (Nat.beq w size) (andB (isNum0 base') (yB len (lenX y)))) with
     | true => some (sch,y,len)
     | false => none
   | _ => none
 | .spt id w lo hi => match S.heap.get id with
   | some (.rows w' sch base' y _ _) => match andB (Nat.beq w w') (andB (Nat.beq w size) (andB (isNum0 base') (E.ltF (lenX y) hi))) with
     | true => some (sch,.lsub y lo hi,subX hi lo)
     | false => none
   | _ => none
 | _ => none
theorem load_rows {P : Program} {b n : Nat} {rows : List (List Value)} {pre rest : List Value} {t : TypeId} {fr : Nat×Nat} (hb : w.heap[b]? = some (.cells (pre ++ (rows.flatten ++ rest)).toArray t fr)) (hn : n = rows.flatten.length) :
  (loadCells ⟨b,pre.length,none⟩ n).run P w = .ok rows.flatten.toArray w:=by
 subst hn
 exact run_loadCells_list (P:=P) w ⟨b,pre.length,none⟩ rows.flatten (fun j v hj => by
  have hlt:=(List.getElem?_eq_some_iff.1 hj).1
  rw [yF]
  simp only [World.cell?,hb,List.getElem?_toArray]
  rw [List.getElem?_append_right (by omega),show pre.length + j - pre.length = j by omega,List.getElem?_append_left hlt,hj]
  simp)
theorem flatten_length {wd : Nat} : ∀ {rows : List (List Value)},(∀ r ∈ rows,r.length = wd)→rows.flatten.length = rows.length * wd
 | [],_ => by simp
 | r :: rows,h => by
   simp only [List.flatten_cons,List.length_append,List.length_cons]
   rw [h r (by simp),flatten_length (fun q hq => h q (by simp [hq])),Nat.add_mul]; omega
theorem sSrc_ok (hA : E.At σ) (hS : S.rel E.P σ w Wr) {size : Nat} {x : AV} {u : Value} {sch : List CK} {y c : X} (hx : x.inst σ = some u) (h : sSrc E S size x = some (sch,y,c)) :
  ∃ rs,y.den σ.rho = some (zQ rs)∧(∃ k,c.den σ.rho = some (.int k (rs.length : Int)))∧(∀ r ∈ rs,RowFits sch r)∧sch.length = size∧0 < size ∧
    (∀ (P : Program) (w : World),(Builtin.lenOf u).run P w = .ok rs.length w)∧∀ w₁ : World,w₁.heap = w.heap→(Builtin.firstCells size rs.length u).run E.P w₁ = .ok rs.flatten.toArray w₁:=by
 unfold sSrc at h
 split at h
 ·rename_i id off len cap ex
  obtain ⟨b,κ,hs,_,rfl⟩:=yT hx
  split at h
  ·rename_i l t hb
   split at h
   ·rename_i hc
    obtain ⟨c1,c2⟩:=zb hc
    have c1':=Nat.le_of_ble_eq_true c1
    have c2':=zo c2
    split at h
    ·rename_i sch₁ y₁ hr
     cases h
     obtain ⟨b',κ',vs,rest,fr,h1,h2,hi,hk,hfr⟩:=get_cells hS hb
     rw [hs] at h1; cases h1
     have hlen:=hi.length
     obtain ⟨rs,e1,e2,e3,e4,e5⟩:=rowsX_ok len hr ((hi.drop off).take (len * size)) (by simp; omega) (rows:=[]) rfl
     refine ⟨rs,by simpa using e1,⟨.i64,by rw [e3]; rfl⟩,e4,e5,c2',fun P w => by rw [e3]; rfl,fun w₁ hw => ?_⟩
     rw [e2,e3]
     exact load_cells (w:=w₁) (P:=E.P) (by rw [hw]; exact h2) (by omega)
    ·cases h
   ·cases h
  ·cases h
 ·rename_i id wd base lo len cap
  split at h
  ·rename_i w' sch₁ base' y₁ own t hb
   split at h
   ·rename_i hc
    cases h
    obtain ⟨c1,c2⟩:=zb hc
    obtain ⟨c2,c3⟩:=zb c2
    obtain ⟨c3,c4⟩:=zb c3
    obtain ⟨c4,c5⟩:=zb c4
    obtain rfl:=Nat.eq_of_beq_eq_true c1
    obtain rfl:=Nat.eq_of_beq_eq_true c2
    obtain rfl:=zL c3
    obtain rfl:=isNum0_ok c4
    obtain ⟨b,κ,rows,pre,rest,fr,t₀,e1,e2,e3,e4,e5,e6,e7,_⟩:=get_rows hS hb
    obtain ⟨b',κ',kb,kl,kn,kc,f1,f2,f3,f4,f5,f6,rfl⟩:=inst_slx hx
    rw [e1] at f1; cases f1
    rw [e4] at f2; cases f2
    obtain ⟨k,hk⟩:=lenX_den e3
    rw [zL c5] at f4 ⊢
    have hkn : kn = rows.length:=by
     have:=X.nat_iff.2 ⟨k,hk⟩
     rw [f4] at this
     exact Option.some.inj this
    subst hkn
    obtain ⟨q,f3⟩:=X.nat_iff.1 f3
    simp only [X.den,Option.some.injEq,Value.int.injEq] at f3
    have hkl : kl = 0:=by omega
    subst hkl
    have hw : ∀ r ∈ rows,r.length = wd:=fun r hr => by rw [(e7 r hr).length,e5]
    refine ⟨rows,e3,⟨k,hk⟩,e7,e5,e6,fun P w => rfl,fun w₁ hw₁ => ?_⟩
    have:=load_rows (P:=E.P) (w:=w₁) (by rw [hw₁]; exact e2) (flatten_length hw).symm
    simpa [Builtin.firstCells] using this
   ·cases h
  ·cases h
 ·rename_i id wd len
  split at h
  ·rename_i w' sch₁ base' y₁ own t hb
   split at h
   ·rename_i hc
    cases h
    obtain ⟨c1,c2⟩:=zb hc
    obtain ⟨c2,c3⟩:=zb c2
    obtain ⟨c3,c5⟩:=zb c3
    obtain rfl:=Nat.eq_of_beq_eq_true c1
    obtain rfl:=Nat.eq_of_beq_eq_true c2
    obtain rfl:=isNum0_ok c3
    obtain ⟨b,κ,rows,pre,rest,fr,t₀,e1,e2,e3,e4,e5,e6,e7,_⟩:=get_rows hS hb
    obtain ⟨b',κ',kn,f1,f4,f6,rfl⟩:=inst_slo hx
    rw [e1] at f1; cases f1
    obtain ⟨k,hk⟩:=lenX_den e3
    rw [zL c5] at f4 ⊢
    have hkn : kn = rows.length:=by
     have:=X.nat_iff.2 ⟨k,hk⟩
     rw [f4] at this
     exact Option.some.inj this
    subst hkn
    obtain ⟨q,e4⟩:=X.nat_iff.1 e4
    simp only [X.den,Option.some.injEq,Value.int.injEq] at e4
    have hpre : pre.length = 0:=by omega
    have hw : ∀ r ∈ rows,r.length = wd:=fun r hr => by rw [(e7 r hr).length,e5]
    refine ⟨rows,e3,⟨k,hk⟩,e7,e5,e6,fun P w => rfl,fun w₁ hw₁ => ?_⟩
    have:=load_rows (P:=E.P) (w:=w₁) (by rw [hw₁]; exact e2) (flatten_length hw).symm
    rw [hpre] at this
    simpa [Builtin.firstCells] using this
   ·cases h
  ·cases h
 ·rename_i id wd lo hi
  split at h
  ·rename_i w' sch₁ base' y₁ own t hb
   split at h
   ·rename_i hc
    cases h
    obtain ⟨c1,c2⟩:=zb hc
    obtain ⟨c2,c3⟩:=zb c2
    obtain ⟨c3,c5⟩:=zb c3
    obtain rfl:=Nat.eq_of_beq_eq_true c1
    obtain rfl:=Nat.eq_of_beq_eq_true c2
    obtain rfl:=isNum0_ok c3
    obtain ⟨b,κ,rows,pre,rest,fr,t₀,e1,e2,e3,e4,e5,e6,e7,_⟩:=get_rows hS hb
    obtain ⟨b',κ',l,n,f1,f2,f3,f4,f5,rfl⟩:=inst_spt hx
    rw [e1] at f1; cases f1
    obtain ⟨k,hk⟩:=lenX_den e3
    obtain ⟨k1,g1⟩:=X.nat_iff.1 f2
    obtain ⟨k2,g2⟩:=X.nat_iff.1 f3
    have hle:=Env.ltF_ok hA c5 hk g2
    have hle : n≤rows.length:=by omega
    obtain ⟨q,e4⟩:=X.nat_iff.1 e4
    simp only [X.den,Option.some.injEq,Value.int.injEq] at e4
    have hpre : pre = []:=List.eq_nil_of_length_eq_zero (by omega)
    subst hpre
    have hw : ∀ r ∈ rows,r.length = wd:=fun r hr => by rw [(e7 r hr).length,e5]
    have hmem : ∀ r ∈ (rows.take n).drop l,r ∈ rows:=fun r hr => List.mem_of_mem_take (List.mem_of_mem_drop hr)
    have hlen : ((rows.take n).drop l).length = n - l:=by simp; omega
    obtain ⟨p2,d2⟩:=subX_ok g2 g1
    have hden : (X.lsub y₁ lo hi).den σ.rho = some (zQ ((rows.take n).drop l)):=by
     simp only [X.den,e3,g1,g2,zQ,denLsub,Int.toNat_natCast]
     congr 2
     apply Array.ext'
     simp [List.map_take,List.map_drop,List.extract_eq_take_drop,List.drop_take]
    refine ⟨(rows.take n).drop l,hden,⟨p2,by rw [d2,hlen]; congr 2; omega⟩,fun r hr => e7 r (hmem r hr),e5,e6,fun P w => by rw [hlen]; rfl,fun w₁ hw₁ => ?_⟩
    have hsplit : rows.flatten = (rows.take l).flatten ++ (((rows.take n).drop l).flatten ++ (rows.drop n).flatten):=by
     rw [← List.flatten_append,← List.flatten_append]
     congr 1
     have h1 : rows.take l = (rows.take n).take l:=by rw [List.take_take,Nat.min_eq_left f4]
     rw [h1,← List.append_assoc,List.take_append_drop,List.take_append_drop]
    have hb2 : w₁.heap[b]? = some (.cells ((rows.take l).flatten ++ (((rows.take n).drop l).flatten ++ ((rows.drop n).flatten ++ rest))).toArray t₀ fr):=by
     rw [hw₁,e2,hsplit]
     simp only [List.nil_append,List.append_assoc]
    have hfl : ((rows.take n).drop l).flatten.length = (n - l) * wd:=by
     rw [flatten_length (wd:=wd) fun r hr => hw r (hmem r hr),hlen]
    have:=load_rows (P:=E.P) (w:=w₁) hb2 hfl.symm
    have hpl : (rows.take l).flatten.length = l * wd:=by
     rw [flatten_length (wd:=wd) fun r hr => hw r (List.mem_of_mem_take hr)]
     congr 1
     simp; omega
    rw [hpl] at this
    rw [hlen]
    by_cases hz : κ = l
    ·have hnl : n - l = 0:=by omega
     have hnil : (rows.take n).drop l = []:=List.eq_nil_of_length_eq_zero (by omega)
     rw [hnl,hnil]
     simp only [Builtin.firstCells,loadCells,List.flatten_nil,Nat.zero_mul]
     rfl
    ·simpa [Builtin.firstCells,hz] using this
   ·cases h
  ·cases h
 ·cases h
end
end Go.Proofs.YtfddkbbjnghefaaGreatDoor.Zs
