/-
  Operations that touch no memory, on abstract values.
-/
import Derived.Test.YtfddkbbjnghefaaGreatDoorToEvA
import Derived.Laws.CopyRow
import Derived.Laws.BytesString
import Derived.Laws.Append
import Derived.IntWalk
set_option linter.unusedSimpArgs false
set_option linter.unusedVariables false
namespace Go.Proofs.YtfddkbbjnghefaaGreatDoor.Zs
open Go
noncomputable def pureRun {α : Type} (P : Program) (s : Sem α) : Option α:=
 Sem.rec (motive:=fun _ => Option α) (fun a => some a) (fun _ _ _ _ => none) (fun _ _ _ _ _ => none) (fun _ _ _ => none) (fun _ _ _ => none)
  (fun _ _ _ _ => none) (fun _ _ _ => none) (fun _ _ _ => none) (fun _ _ _ _ => none) (fun _ _ _ => none) (fun _ _ _ => none) (fun _ ih => ih P) (fun _ _ ih => ih) (fun _ => none) s
theorem pureRun_run {α : Type} (P : Program) (s : Sem α) : ∀ a,pureRun P s = some a→∀ w,s.run P w = .ok a w:=by
 induction s with
 | pure a => intro b h w; cases h; rfl
 | program k ih => intro b h w; exact ih P b h w
 | mark m k ih => intro b h w; exact ih b h w
 | load => intro b h; cases h
 | store => intro b h; cases h
 | new => intro b h; cases h
 | shape => intro b h; cases h
 | freeze => intro b h; cases h
 | frozen => intro b h; cases h
 | getObj => intro b h; cases h
 | setObj => intro b h; cases h
 | choose => intro b h; cases h
 | sys => intro b h; cases h
 | halt => intro b h; cases h
structure Env where
 P : Program
 und : TypeId→Option TypeDesc
 inf : TypeId→Option TypeInfo
 fn : FuncId→Option Func
 glob : Nat→Option Nat
 pure : FuncId→Bool
 facts : List (X×Bool):=[]
 rho : Option Rho:=none
 names : Bool:=false
 spare : Bool:=false
 skip : FuncId→Bool:=fun _ => false
structure Env.Ok (E : Env) : Prop where
 und : ∀ t d,E.und t = some d→E.P.underlying t = some d
 inf : ∀ t i,E.inf t = some i→E.P.info? t = some i
 fn : ∀ f g,E.fn f = some g→E.P.funcs[f]? = some g
 name : ∀ f g,E.fn f = some g→(g.name == "runtime.NumGoroutine") = false
 mixed : E.P.follows .mixedOrders = true
structure Env.At (E : Env) (σ : Sig) : Prop where
 glob : ∀ g id,E.glob g = some id→∃ κ,σ id = some (g,κ)
 facts : ∀ x b,(x,b) ∈ E.facts→x.bool σ.rho = some b
 rho : ∀ r,E.rho = some r→σ.rho = r
instance {E : Env} {σ : Sig} : CoeFun (Env.At E σ) (fun _ => ∀ g id,E.glob g = some id→∃ κ,σ id = some (g,κ)):=⟨Env.At.glob⟩
theorem Env.At.le {E : Env} {σ σ' : Sig} (h : σ.le σ') (hE : E.At σ) : E.At σ':=
 ⟨fun g id e => let ⟨κ,hk⟩:=hE g id e; ⟨κ,h _ _ hk⟩,fun x b hx => X.bool_le h.rho (hE.facts x b hx),fun r e => h.rho_eq.trans (hE.rho r e)⟩
def o1No : O1→Nat
 | .wrap k => match k with | .i8 => 0 | .i16 => 1 | .i32 => 2 | .i64 => 3 | .u8 => 4 | .u16 => 5 | .u32 => 6 | .u64 => 7
 | .kind k => match k with | .i8 => 8 | .i16 => 9 | .i32 => 10 | .i64 => 11 | .u8 => 12 | .u16 => 13 | .u32 => 14 | .u64 => 15
 | .not => 16 | .neg => 17 | .len => 18 | .slen => 19
theorem o1No_inj {a b : O1} (h : Nat.beq (o1No a) (o1No b) = true) : a = b:=by
 have:=Nat.eq_of_beq_eq_true h
 cases a <;> cases b <;> first
  | rfl
  | (rename_i k k'; cases k <;> cases k' <;> first | rfl | (simp [o1No] at this))
  | (rename_i k; cases k <;> simp [o1No] at this)
  | (simp [o1No] at this)
def o2No : O2→Nat
 | .add => 0 | .sub => 1 | .mul => 2 | .div => 3 | .mod => 4 | .lt => 5 | .le => 6 | .eq => 7 | .eqb => 8 | .eqs => 9 | .sat => 10 | .lts => 11 | .cat => 12 | .and => 13 | .or => 14 | .lcat => 15 | .mhas => 16 | .rep => 17 | .mdel => 18
 | .mat j => 19 + (j + j) | .mput k => 20 + (k + k)
theorem o2No_inj {a b : O2} (h : Nat.beq (o2No a) (o2No b) = true) : a = b:=by
 have:=Nat.eq_of_beq_eq_true h
 cases a <;> cases b <;> first | rfl | (simp only [o2No] at this; exfalso; omega) | (simp only [o2No] at this; congr 1; omega)
def sameI : Int→Int→Bool
 | .ofNat a,.ofNat b => Nat.beq a b
 | .negSucc a,.negSucc b => Nat.beq a b
 | _,_ => false
theorem sameI_ok : ∀ {a b : Int},sameI a b = true→a = b
 | .ofNat a,.ofNat b,h => by rw [Nat.eq_of_beq_eq_true (show Nat.beq a b = true from h)]
 | .negSucc a,.negSucc b,h => by rw [Nat.eq_of_beq_eq_true (show Nat.beq a b = true from h)]
 | .ofNat a,.negSucc b,h => by cases h
 | .negSucc a,.ofNat b,h => by cases h
def sameNs : List Nat→List Nat→Bool
 | [],[] => true
 | a :: l,b :: m => match Nat.beq a b with
   | true => sameNs l m
   | false => false
 | _,_ => false
theorem sameNs_ok : ∀ {l m : List Nat},sameNs l m = true→l = m
 | [],[],_ => rfl
 | a :: l,b :: m,h => by
   simp only [sameNs] at h
   split at h
   ·rename_i hb
    rw [Nat.eq_of_beq_eq_true hb,sameNs_ok h]
   ·cases h
 | [],_ :: _,h => by simp [sameNs] at h
 | _ :: _,[],h => by simp [sameNs] at h
def sameBo : Bool→Bool→Bool
 | true,b => b
 | false,b => !b
theorem sameBo_ok {a b : Bool} (h : sameBo a b = true) : a = b:=by cases a <;> cases b <;> first | rfl | cases h
def andB (a b : Bool) : Bool:=match a with | true => b | false => false
theorem zb {a b : Bool} (h : andB a b = true) : a = true∧b = true:=by cases a <;> simp_all [andB]
mutual
def yB : X→X→Bool
 | .var i,.var j => Nat.beq i j
 | .num m,.num n => sameI m n
 | .boo a,.boo b => sameBo a b
 | .str a,.str b => sameNs a b
 | .op1 o a,.op1 p b => andB (Nat.beq (o1No o) (o1No p)) (yB a b)
 | .op2 o a b,.op2 p c d => andB (Nat.beq (o2No o) (o2No p)) (andB (yB a c) (yB b d))
 | .ite a b c,.ite d e f => andB (yB a d) (andB (yB b e) (yB c f))
 | .cell j a b,.cell k c d => andB (Nat.beq j k) (andB (yB a c) (yB b d))
 | .ssub a b c,.ssub d e f => andB (yB a d) (andB (yB b e) (yB c f))
 | .lsub a b c,.lsub d e f => andB (yB a d) (andB (yB b e) (yB c f))
 | .snoc a l,.snoc b m => andB (yB a b) (sameXs l m)
 | .nil,.nil => true
 | .app s l,.app r m => andB (Nat.beq s r) (sameXs l m)
 | _,_ => false
def sameXs : List X→List X→Bool
 | [],[] => true
 | a :: l,b :: m => andB (yB a b) (sameXs l m)
 | _,_ => false
end
mutual
theorem zL : ∀ {x y : X},yB x y = true→x = y
 | .var i,y,h => by cases y <;> simp only [yB] at h <;> first | (cases h; done) | rw [Nat.eq_of_beq_eq_true h]
 | .num i,y,h => by cases y <;> simp only [yB] at h <;> first | (cases h; done) | rw [sameI_ok h]
 | .boo i,y,h => by cases y <;> simp only [yB] at h <;> first | (cases h; done) | rw [sameBo_ok h]
 | .str i,y,h => by cases y <;> simp only [yB] at h <;> first | (cases h; done) | rw [sameNs_ok h]
 | .op1 o a,y,h => by
   cases y <;> simp only [yB] at h <;> first | (cases h; done) | (obtain ⟨h1,h2⟩:=zb h; rw [o1No_inj h1,zL h2])
 | .op2 o a b,y,h => by
   cases y <;> simp only [yB] at h <;> first | (cases h; done) | (obtain ⟨h1,h2⟩:=zb h; obtain ⟨h3,h4⟩:=zb h2; rw [o2No_inj h1,zL h3,zL h4])
 | .ite a b c,y,h => by
   cases y <;> simp only [yB] at h <;> first | (cases h; done) | (obtain ⟨h1,h2⟩:=zb h; obtain ⟨h3,h4⟩:=zb h2; rw [zL h1,zL h3,zL h4])
 | .cell j a b,y,h => by
   cases y <;> simp only [yB] at h <;> first | (cases h; done) | (obtain ⟨h1,h2⟩:=zb h; obtain ⟨h3,h4⟩:=zb h2; rw [Nat.eq_of_beq_eq_true h1,zL h3,zL h4])
 | .ssub a b c,y,h => by
   cases y <;> simp only [yB] at h <;> first | (cases h; done) | (obtain ⟨h1,h2⟩:=zb h; obtain ⟨h3,h4⟩:=zb h2; rw [zL h1,zL h3,zL h4])
 | .lsub a b c,y,h => by
   cases y <;> simp only [yB] at h <;> first | (cases h; done) | (obtain ⟨h1,h2⟩:=zb h; obtain ⟨h3,h4⟩:=zb h2; rw [zL h1,zL h3,zL h4])
 | .snoc a l,y,h => by
   cases y <;> simp only [yB] at h <;> first | (cases h; done) | (obtain ⟨h1,h2⟩:=zb h; rw [zL h1,sameXs_ok h2])
 | .nil,y,h => by cases y <;> simp only [yB] at h <;> first | (cases h; done) | rfl
 | .app s l,y,h => by
   cases y <;> simp only [yB] at h <;> first | (cases h; done) | (obtain ⟨h1,h2⟩:=zb h; rw [Nat.eq_of_beq_eq_true h1,sameXs_ok h2])
theorem sameXs_ok : ∀ {x y : List X},sameXs x y = true→x = y
 | [],[],_ => rfl
 | a :: l,b :: m,h => by
   simp only [sameXs] at h
   obtain ⟨h1,h2⟩:=zb h
   rw [zL h1,sameXs_ok h2]
 | [],_ :: _,h => by simp [sameXs] at h
 | _ :: _,[],h => by simp [sameXs] at h
end
def lookF (x : X) : List (X×Bool)→Option Bool
 | [] => none
 | (y,b) :: l => match yB x y with
   | true => some b
   | false => lookF x l
theorem lookF_ok {x : X} : ∀ {l : List (X×Bool)} {b : Bool},lookF x l = some b→(x,b) ∈ l
 | [],b,h => by cases h
 | (y,c) :: l,b,h => by
   simp only [lookF] at h
   split at h
   ·rename_i hs
    cases h
    rw [zL hs]
    exact List.mem_cons_self
   ·exact List.mem_cons_of_mem _ (lookF_ok h)
def leI : Int→Int→Bool
 | .ofNat a,.ofNat b => Nat.ble a b
 | .ofNat _,.negSucc _ => false
 | .negSucc _,.ofNat _ => true
 | .negSucc a,.negSucc b => Nat.ble b a
theorem leI_eq (a b : Int) : leI a b = decide (a≤b):=by
 cases a <;> cases b <;> simp only [leI]
 ·rw [Bool.eq_iff_iff]; simp only [Nat.ble_eq,decide_eq_true_eq,Int.ofNat_eq_natCast]; omega
 ·rw [Bool.eq_iff_iff]; simp only [decide_eq_true_eq,Int.ofNat_eq_natCast,Int.negSucc_eq]; simp; omega
 ·rw [Bool.eq_iff_iff]; simp only [decide_eq_true_eq,Int.ofNat_eq_natCast,Int.negSucc_eq]; simp; omega
 ·rw [Bool.eq_iff_iff]; simp only [Nat.ble_eq,decide_eq_true_eq,Int.negSucc_eq]; omega
def decX (F : List (X×Bool)) : X→Option Bool
 | .boo b => some b
 | .op1 .not a => match decX F a with
   | some b => some (!b)
   | none => none
 | .op2 .lt (.num a) (.num b) => some (!(leI b a))
 | .op2 .le (.num a) (.num b) => some (leI a b)
 | .op2 .eq (.num a) (.num b) => some (sameI a b)
 | .op2 .eqs (.str a) (.str b) => lookF (.op2 .eqs (.str a) (.str b)) F
 | .op2 .and a b => match decX F a with
   | some p => match decX F b with
     | some q => some (p && q)
     | none => none
   | none => none
 | x => lookF x F
theorem sameI_eq (a b : Int) : sameI a b = (a == b):=by
 rw [Bool.eq_iff_iff]
 exact ⟨fun h => by rw [sameI_ok h]; simp,fun h => by
  have : a = b:=by simpa using h
  subst this
  cases a <;> exact Nat.beq_refl _⟩
theorem X.bool_iff {ρ : Rho} {x : X} {b : Bool} : x.bool ρ = some b↔x.den ρ = some (.bool b):=by
 unfold X.bool asB
 constructor
 ·intro h; split at h
  ·rename_i hx; cases h; exact hx
  ·cases h
 ·intro h; rw [h]
theorem decX_some {F : List (X×Bool)} {ρ : Rho} (hF : ∀ x b,(x,b) ∈ F→x.bool ρ = some b) : ∀ {x : X} {b : Bool},decX F x = some b→x.bool ρ = some b
 | x,b,h => by
   have look : lookF x F = some b→x.bool ρ = some b:=fun h => hF x b (lookF_ok h)
   unfold decX at h
   split at h
   ·cases h; rfl
   ·rename_i a
    split at h
    ·rename_i d hd
     cases h
     have ha:=X.bool_iff.1 (decX_some hF hd)
     rw [X.bool_iff]
     simp only [X.den,ha,den1]
    ·cases h
   ·cases h
    rw [X.bool_iff]
    simp only [X.den,den2,leI_eq,Option.some.injEq,Value.bool.injEq]
    rw [Bool.eq_iff_iff]; simp
   ·cases h
    rw [X.bool_iff]
    simp only [X.den,den2,leI_eq]
   ·cases h
    rw [X.bool_iff]
    simp only [X.den,den2,sameI_eq]
   ·exact look h
   ·rename_i p q
    split at h
    ·rename_i bp hp
     split at h
     ·rename_i bq hq
      cases h
      have h1:=X.bool_iff.1 (decX_some hF hp)
      have h2:=X.bool_iff.1 (decX_some hF hq)
      rw [X.bool_iff]
      simp only [X.den,h1,h2,den2]
     ·cases h
    ·cases h
   ·exact look h
theorem decX_ok {F : List (X×Bool)} {ρ : Rho} (hF : ∀ x b,(x,b) ∈ F→x.bool ρ = some b) {x : X} {b : Bool} (h : decX F x = some b) (c : Bool) (hc : x.bool ρ = some c) : c = b:=by
 have:=decX_some hF h
 rw [hc] at this
 exact Option.some.inj this
def decY (F : List (X×Bool)) : X→Option Bool
 | .op1 .not a => match decY F a with
   | some b => some (!b)
   | none => none
 | .op2 .and a b => match decY F a with
   | some true => decY F b
   | some false => some false
   | none => none
 | .op2 .or a b => match decY F a with
   | some true => some true
   | some false => decY F b
   | none => none
 | x => decX F x
theorem decY_ok {F : List (X×Bool)} {ρ : Rho} (hF : ∀ x b,(x,b) ∈ F→x.bool ρ = some b) : ∀ {x : X} {b : Bool},decY F x = some b→∀ c,x.bool ρ = some c→c = b
 | x,b,h,c,hc => by
   unfold decY at h
   split at h
   ·rename_i a
    split at h
    ·rename_i d hd
     cases h
     rw [X.bool_iff] at hc
     simp only [X.den] at hc
     split at hc
     ·rename_i v hv
      cases v <;> simp only [den1] at hc <;> first | (cases hc; done) | skip
      rename_i q
      cases hc
      rw [decY_ok hF hd q (X.bool_iff.2 hv)]
     ·cases hc
    ·cases h
   ·rename_i a b'
    rw [X.bool_iff] at hc
    simp only [X.den] at hc
    split at hc
    ·rename_i v hv
     split at hc
     ·rename_i u hu
      cases v <;> cases u <;> simp only [den2] at hc <;> first | (cases hc; done) | skip
      rename_i q r
      cases hc
      split at h
      ·rename_i hd
       rw [decY_ok hF hd q (X.bool_iff.2 hv),decY_ok hF h r (X.bool_iff.2 hu)]; rfl
      ·rename_i hd
       cases h
       rw [decY_ok hF hd q (X.bool_iff.2 hv)]; rfl
      ·cases h
     ·cases hc
    ·cases hc
   ·rename_i a b'
    rw [X.bool_iff] at hc
    simp only [X.den] at hc
    split at hc
    ·rename_i v hv
     split at hc
     ·rename_i u hu
      cases v <;> cases u <;> simp only [den2] at hc <;> first | (cases hc; done) | skip
      rename_i q r
      cases hc
      split at h
      ·rename_i hd
       cases h
       rw [decY_ok hF hd q (X.bool_iff.2 hv)]; rfl
      ·rename_i hd
       rw [decY_ok hF hd q (X.bool_iff.2 hv),decY_ok hF h r (X.bool_iff.2 hu)]; rfl
      ·cases h
     ·cases hc
    ·cases hc
   ·exact decX_ok hF h c hc
def mkB (E : Env) (x : X) : AV:=match decY E.facts x with
 | some b => .bool b
 | none => .sbool x
def mkI (k : IntKind) : X→AV
 | .num n => .int k n
 | x => .sint k x
theorem mkB_ok {E : Env} {σ : Sig} (hA : E.At σ) {x : X} {b : Bool} (h : x.den σ.rho = some (.bool b)) : (mkB E x).inst σ = some (.bool b):=by
 have hb:=X.bool_iff.2 h
 unfold mkB
 split
 ·rename_i c hc
  rw [decY_ok hA.facts hc b hb]
  rfl
 ·simp only [AV.inst,hb]
theorem X.int_iff {ρ : Rho} {x : X} {n : Int} : x.int ρ = some n↔∃ k,x.den ρ = some (.int k n):=by
 unfold X.int asI
 constructor
 ·intro h; split at h
  ·rename_i k m hx; cases h; exact ⟨k,hx⟩
  ·cases h
 ·rintro ⟨k,h⟩; rw [h]
theorem mkI_ok {σ : Sig} {k k' : IntKind} {x : X} {n : Int} (h : x.den σ.rho = some (.int k' n)) : (mkI k x).inst σ = some (.int k n):=by
 unfold mkI
 split
 ·simp only [X.den,Option.some.injEq,Value.int.injEq] at h
  rw [h.2]; rfl
 ·simp only [AV.inst,X.int_iff.2 ⟨k',h⟩]
def Env.dec (E : Env) (x : X) : Option Bool:=decY E.facts x
theorem Env.dec_ok {E : Env} {σ : Sig} (hA : E.At σ) {x : X} {b : Bool} (h : E.dec x = some b) {c : Bool} (hc : x.den σ.rho = some (.bool c)) : c = b:=
 decY_ok hA.facts h c (X.bool_iff.2 hc)
def toI : AV→Option (IntKind×X)
 | .int k n => some (k,.num n)
 | .sint k x => some (k,x)
 | _ => none
def toB : AV→Option X
 | .bool b => some (.boo b)
 | .sbool x => some x
 | _ => none
def toS : AV→Option X
 | .str s => some (.str s)
 | .sstr x => some x
 | _ => none
theorem toI_ok {σ : Sig} {a : AV} {k : IntKind} {x : X} {u : Value} (h : toI a = some (k,x)) (hu : a.inst σ = some u) : ∃ n k',u = .int k n∧x.den σ.rho = some (.int k' n):=by
 unfold toI at h
 split at h
 ·cases h
  simp only [AV.inst,Option.some.injEq] at hu
  exact ⟨_,_,hu.symm,rfl⟩
 ·cases h
  simp only [AV.inst] at hu
  split at hu
  ·rename_i n hn
   cases hu
   obtain ⟨k',hk⟩:=X.int_iff.1 hn
   exact ⟨n,k',rfl,hk⟩
  ·cases hu
 ·cases h
theorem toB_ok {σ : Sig} {a : AV} {x : X} {u : Value} (h : toB a = some x) (hu : a.inst σ = some u) : ∃ b,u = .bool b∧x.den σ.rho = some (.bool b):=by
 unfold toB at h
 split at h
 ·cases h
  simp only [AV.inst,Option.some.injEq] at hu
  exact ⟨_,hu.symm,rfl⟩
 ·cases h
  simp only [AV.inst] at hu
  split at hu
  ·rename_i n hn
   cases hu
   exact ⟨n,rfl,X.bool_iff.1 hn⟩
  ·cases hu
 ·cases h
theorem X.bytes_iff {ρ : Rho} {x : X} {b : ByteArray} : x.bytes ρ = some b↔x.den ρ = some (.string b):=by
 unfold X.bytes asS
 constructor
 ·intro h; split at h
  ·rename_i hx; cases h; exact hx
  ·cases h
 ·intro h; rw [h]
theorem toS_ok {σ : Sig} {a : AV} {x : X} {u : Value} (h : toS a = some x) (hu : a.inst σ = some u) : ∃ b,u = .string b∧x.den σ.rho = some (.string b):=by
 unfold toS at h
 split at h
 ·cases h
  simp only [AV.inst,Option.some.injEq] at hu
  exact ⟨_,hu.symm,rfl⟩
 ·cases h
  simp only [AV.inst] at hu
  split at hu
  ·rename_i n hn
   cases hu
   exact ⟨n,rfl,X.bytes_iff.1 hn⟩
  ·cases hu
 ·cases h
theorem X.nat_iff {ρ : Rho} {x : X} {n : Nat} : x.nat ρ = some n↔∃ k,x.den ρ = some (.int k n):=by
 unfold X.nat asN
 constructor
 ·intro h; split at h
  ·rename_i k m hx; cases h; exact ⟨k,hx⟩
  ·cases h
 ·rintro ⟨k,h⟩; rw [h]
noncomputable def zB (E : Env) (T : Trie AV) : Operand→Option AV
 | .tmp t => match T.get t with
   | some (.sbool x) => some (mkB E x)
   | r => r
 | .const v => ofV v
 | .global g => match E.glob g with | some id => some (.ptr id 0) | none => none
 | .func f => some (.func (.func f) [] [])
theorem zW {E : Env} {σ : Sig} {T : Trie AV} {a : Act} (hE : E.At σ) (hT : TRel σ T a.tmps) {x : Operand} {v : AV} (h : zB E T x = some v) : v.inst σ = some (a.eval x):=by
 cases x with
 | tmp t =>
   simp only [zB] at h
   split at h
   ·rename_i x hx
    cases h
    obtain ⟨u,hu,hi⟩:=hT t _ hx
    obtain ⟨b,rfl,hb⟩:=toB_ok (a:=.sbool x) rfl hi
    rw [mkB_ok hE hb]
    simp [Act.eval,Array.getD_eq_getD_getElem?,hu]
   ·obtain ⟨u,hu,hi⟩:=hT t v h
    rw [hi]
    simp [Act.eval,Array.getD_eq_getD_getElem?,hu]
 | const u => exact ofV_inst σ u v h
 | global g =>
   simp only [zB] at h
   cases hg : E.glob g with
   | none => rw [hg] at h; cases h
   | some id =>
     rw [hg] at h
     simp only [Option.some.injEq] at h
     subst h
     obtain ⟨κ,hk⟩:=hE g id hg
     simp [AV.inst,hk,Act.eval]
 | func f =>
   simp only [zB,Option.some.injEq] at h
   subst h
   simp [AV.inst,instL,Act.eval]
noncomputable def aevalL (E : Env) (T : Trie AV) : List Operand→Option (List AV)
 | [] => some []
 | x :: l => match zB E T x with
   | some v => match aevalL E T l with
     | some m => some (v :: m)
     | none => none
   | none => none
theorem aevalL_ok {E : Env} {σ : Sig} {T : Trie AV} {a : Act} (hE : E.At σ) (hT : TRel σ T a.tmps) : ∀ {l : List Operand} {vs : List AV},aevalL E T l = some vs→Ins σ vs (l.map a.eval)
 | [],vs,h => by simp only [aevalL,Option.some.injEq] at h; subst h; exact .nil
 | x :: l,vs,h => by
   simp only [aevalL] at h
   cases hx : zB E T x with
   | none => rw [hx] at h; cases h
   | some v =>
     rw [hx] at h
     cases hl : aevalL E T l with
     | none => rw [hl] at h; cases h
     | some m =>
       rw [hl] at h
       simp only [Option.some.injEq] at h
       subst h
       exact .cons (zW hE hT hx) (aevalL_ok hE hT hl)
noncomputable def plainOf (T : Trie AV) : Operand→Option Value
 | .tmp t => match T.get t with | some a => a.plain | none => none
 | .const v => some v
 | .func f => some (.func (.func f) #[] #[])
 | .global _ => none
noncomputable def rhoOf (T : Trie AV) (x : Operand) : Value:=match plainOf T x with | some v => v | none => undef
def noSel : Op→Bool
 | .select _ _ => false
 | _ => true
noncomputable def allPlain (T : Trie AV) : List Operand→Bool
 | [] => true
 | x :: l => match plainOf T x with | some _ => allPlain T l | none => false
noncomputable def plainOp (E : Env) (T : Trie AV) (o : Oper) : Option AV:=
 match noSel o.op with
 | true => match allPlain T o.op.operands.toList with
   | true => match pureRun E.P (execOp (rhoOf T) o) with
     | some (.value v) => ofV v
     | _ => none
   | false => none
 | false => none
theorem allPlain_spec {T : Trie AV} : ∀ {l : List Operand},allPlain T l = true→∀ x ∈ l,∃ v,plainOf T x = some v
 | [],_,x,hx => by cases hx
 | y :: l,h,x,hx => by
   simp only [allPlain] at h
   cases hy : plainOf T y with
   | none => rw [hy] at h; cases h
   | some v =>
     rw [hy] at h
     cases hx with
     | head => exact ⟨v,hy⟩
     | tail _ hm => exact allPlain_spec h x hm
theorem plainOf_ok {σ : Sig} {T : Trie AV} {a : Act} (hT : TRel σ T a.tmps) {x : Operand} {v : Value} (h : plainOf T x = some v) : a.eval x = v:=by
 cases x with
 | tmp t =>
   simp only [plainOf] at h
   cases ht : T.get t with
   | none => rw [ht] at h; cases h
   | some u =>
     rw [ht] at h
     obtain ⟨u',hu,hi⟩:=hT t u ht
     rw [AV.plain_inst h σ] at hi
     cases hi
     simp [Act.eval,Array.getD_eq_getD_getElem?,hu]
 | const u => cases h; rfl
 | global g => cases h
 | func f => cases h; rfl
theorem plainOp_ok {E : Env} {σ : Sig} {T : Trie AV} {a : Act} (hT : TRel σ T a.tmps) {o : Oper} {v : AV} (h : plainOp E T o = some v) :
  ∃ v',v.inst σ = some v'∧∀ w,(execOp a.eval o).run E.P w = .ok (.value v') w:=by
 unfold plainOp at h
 split at h
 ·rename_i hs
  split at h
  ·rename_i hp
   split at h
   ·rename_i u hu
    have hc : execOp a.eval o = execOp (rhoOf T) o:=by
     refine execOp_congr o (fun cs b e => by simp [noSel,e] at hs) fun x hx => ?_
     obtain ⟨u,hu⟩:=allPlain_spec hp x (by simpa using hx)
     rw [plainOf_ok hT hu]
     simp [rhoOf,hu]
    exact ⟨u,ofV_inst σ u v h,fun w => by rw [hc]; exact pureRun_run E.P _ _ hu w⟩
   ·cases h
  ·cases h
 ·cases h
def Env.agg (E : Env) (t : TypeId) : Option Bool:=
 match E.und t with
 | some (.struct _) => some true
 | some (.array _ _) => some true
 | some _ => some false
 | none => none
def Env.size (E : Env) (t : TypeId) : Option Nat:=match E.inf t with | some i => some i.size | none => none
def apart (E : Env) (t : TypeId) (cs : List AV) (off : Nat) : Option AV:=
 match E.agg t with
 | some true => match E.size t with
   | some n => some (.agg ((cs.drop off).take n))
   | none => none
 | some false => cs[off]?
 | none => none
theorem zA {E : Env} (hE : E.Ok) {t : TypeId} {d : TypeDesc} (h : E.und t = some d) (w : World) : (underlying t).run E.P w = .ok d w:=run_underlying (hE.und t d h) w
theorem run_inf {E : Env} (hE : E.Ok) {t : TypeId} {i : TypeInfo} (h : E.inf t = some i) (w : World) : (typeInfo t).run E.P w = .ok i w:=by
 simp [typeInfo,hE.inf t i h]
theorem z8 {E : Env} (hE : E.Ok) {t : TypeId} {n : Nat} (h : E.size t = some n) (w : World) : (sizeOf t).run E.P w = .ok n w:=by
 unfold Env.size at h
 split at h
 ·rename_i i hi
  cases h
  simp [sizeOf,run_inf hE hi]
 ·cases h
theorem run_agg {E : Env} (hE : E.Ok) {t : TypeId} {b : Bool} (h : E.agg t = some b) (w : World) : (isAgg t).run E.P w = .ok b w:=by
 unfold Env.agg at h
 split at h
 ·rename_i fs hd; cases h; simp [isAgg,zA hE hd]
 ·rename_i n e hd; cases h; simp [isAgg,zA hE hd]
 ·rename_i d hd h1 h2
  cases h
  simp only [isAgg,Sem.run_bind,zA hE h2,Result.andThen_ok]
  first | rfl | (split <;> simp_all)
 ·cases h
theorem apart_ok {E : Env} (hE : E.Ok) {σ : Sig} {t : TypeId} {cs : List AV} {vs : List Value} (hi : Ins σ cs vs) {off : Nat} {v : AV} (h : apart E t cs off = some v) :
  ∃ v',v.inst σ = some v'∧∀ w,(part t vs.toArray off).run E.P w = .ok v' w:=by
 unfold apart at h
 split at h
 ·rename_i ha
  split at h
  ·rename_i n hn
   cases h
   refine ⟨.agg ((vs.drop off).take n).toArray,?_,fun w => ?_⟩
   ·simp only [AV.inst,instL_iff.2 ((hi.drop off).take n)]
   ·simp only [part,Sem.run_bind,run_agg hE ha,Result.andThen_ok,if_true,z8 hE hn,Sem.run_pure,Sem.run_ite,List.extract_toArray]
    congr 3
    simp [List.extract_eq_take_drop]
  ·cases h
 ·rename_i ha
  obtain ⟨v',hv,hi'⟩:=hi.get h
  refine ⟨v',hi',fun w => ?_⟩
  simp [part,run_agg hE ha,hv]
 ·cases h
open Go
theorem zo {a b : Nat} (h : Nat.blt a b = true) : a < b:=Nat.le_of_ble_eq_true h
noncomputable def AV.one : AV→Bool
 | .agg _ => false
 | .tuple _ => false
 | _ => true
noncomputable def AV.cells : AV→List AV
 | .agg l => l
 | v => [v]
theorem AV.inst_agg {σ : Sig} {l : List AV} {u : Value} (h : (AV.agg l).inst σ = some u) : ∃ us,u = .agg us.toArray∧Ins σ l us:=by
 simp only [AV.inst] at h
 split at h
 ·rename_i us hus
  simp only [Option.some.injEq] at h
  exact ⟨us,h.symm,instL_iff.1 hus⟩
 ·cases h
theorem AV.inst_tuple {σ : Sig} {l : List AV} {u : Value} (h : (AV.tuple l).inst σ = some u) : ∃ us,u = .tuple us.toArray∧Ins σ l us:=by
 simp only [AV.inst] at h
 split at h
 ·rename_i us hus
  simp only [Option.some.injEq] at h
  exact ⟨us,h.symm,instL_iff.1 hus⟩
 ·cases h
theorem AV.one_inst {σ : Sig} {v : AV} {u : Value} (h : v.inst σ = some u) (ho : v.one = true) : u.oneCell' = true∧u.cells = #[u]:=by
 cases v <;> simp only [AV.inst,AV.one,Bool.false_eq_true] at h ho <;> (repeat' (split at h)) <;> first
  | (cases h; done)
  | (simp only [Option.some.injEq] at h; subst h; exact ⟨rfl,rfl⟩)
theorem AV.cells_inst {σ : Sig} {v : AV} {u : Value} (h : v.inst σ = some u) (hx : ∀ l,v≠.tuple l) : Ins σ v.cells u.cells.toList:=by
 cases hv : v with
 | agg l =>
   subst hv
   obtain ⟨us,rfl,hi⟩:=AV.inst_agg h
   exact hi
 | tuple l => exact absurd hv (hx l)
 | _ =>
   have h1:=AV.one_inst h (by rw [hv]; rfl)
   rw [h1.2]
   subst hv
   exact .cons h .nil
theorem Ins.one {σ : Sig} {l : List AV} {us : List Value} (h : Ins σ l us) (ho : l.all AV.one = true) : ∀ u ∈ us,u.oneCell' = true:=by
 induction h with
 | nil => intro u hu; cases hu
 | cons ha _ ih =>
   simp only [List.all_cons,Bool.and_eq_true] at ho
   intro u hu
   cases hu with
   | head => exact (AV.one_inst ha ho.1).1
   | tail _ hm => exact ih ho.2 u hm
def VPost (E : Env) (σ : Sig) (S : ASt) (w : World) (Wr : Nat→Prop) (r : Result Value) (v : AV) (S' : ASt) : Prop:=
 ∃ σ' u w',r = .ok u w'∧v.inst σ' = some u∧Post E.P σ S w Wr σ' S' w'
def UPost (E : Env) (σ : Sig) (S : ASt) (w : World) (Wr : Nat→Prop) (r : Result Unit) (S' : ASt) : Prop:=
 ∃ σ' w',r = .ok () w'∧Post E.P σ S w Wr σ' S' w'
def RPost (σ : Sig) (w : World) (r : Result Value) (v : AV) : Prop:=∃ u,r = .ok u w∧v.inst σ = some u
section
variable {E : Env} {σ : Sig} {S S' : ASt} {w : World} {Wr : Nat→Prop}
theorem VPost.same (hS : S.rel E.P σ w Wr) {r : Result Value} {v : AV} {u : Value} (hr : r = .ok u w) (hi : v.inst σ = some u) : VPost E σ S w Wr r v S:=
 ⟨σ,u,w,hr,hi,Post.refl hS⟩
theorem RPost.same (hS : S.rel E.P σ w Wr) {r : Result Value} {v : AV} {u : Value} (hr : r = .ok u w) (hi : v.inst σ = some u) : RPost σ w r v:=⟨u,hr,hi⟩
theorem RPost.v (hS : S.rel E.P σ w Wr) {r : Result Value} {v : AV} (h : RPost σ w r v) : VPost E σ S w Wr r v S:=
 let ⟨u,hr,hi⟩:=h; ⟨σ,u,w,hr,hi,Post.refl hS⟩
theorem get_cells (hS : S.rel E.P σ w Wr) {id : Nat} {l : List AV} {t : TypeId} (h : S.heap.get id = some (.cells l t)) :
  ∃ b κ vs rest fr,σ id = some (b,κ)∧w.heap[b]? = some (.cells (vs ++ rest).toArray t fr)∧Ins σ l vs∧κ * yo E.P t≤(vs ++ rest).length∧(fr.2≤fr.1∨(vs ++ rest).length≤fr.1):=by
 obtain ⟨b,κ,o,h1,h2,h3⟩:=hS.at_ id _ h
 obtain ⟨vs,rest,fr,hi,ho,hk,hf,_⟩:=h3
 subst ho
 exact ⟨b,κ,vs,rest,fr,h1,h2,hi,hk,hf⟩
theorem get_cells' (hS : S.rel E.P σ w Wr) {id : Nat} {l : List AV} {t : TypeId} (h : S.heap.get id = some (.cells l t)) :
  ∃ b κ vs rest fr,σ id = some (b,κ)∧w.heap[b]? = some (.cells (vs ++ rest).toArray t fr)∧Ins σ l vs∧κ * yo E.P t≤(vs ++ rest).length∧(fr.2≤fr.1∨(vs ++ rest).length≤fr.1)∧(κ = 0∨vs.length≤κ * yo E.P t):=by
 obtain ⟨b,κ,o,h1,h2,h3⟩:=hS.at_ id _ h
 obtain ⟨vs,rest,fr,hi,ho,hk⟩:=h3
 subst ho
 exact ⟨b,κ,vs,rest,fr,h1,h2,hi,hk⟩
theorem yF (b off j : Nat) : (⟨b,off,none⟩ : Addr).add j = ⟨b,off + j,none⟩:=by unfold Addr.add; split <;> simp_all
theorem cell_of {b off : Nat} {vs rest : List Value} {t : TypeId} {fr : Nat×Nat} (hb : w.heap[b]? = some (.cells (vs ++ rest).toArray t fr)) (h : off < vs.length) :
  w.cell? ⟨b,off,none⟩ = vs[off]?:=by
 simp [World.cell?,hb,List.getElem?_append_left h]
theorem load_cells {P : Program} {b off n : Nat} {vs rest : List Value} {t : TypeId} {fr : Nat×Nat} (hb : w.heap[b]? = some (.cells (vs ++ rest).toArray t fr)) (h : off + n≤vs.length) :
  (loadCells ⟨b,off,none⟩ n).run P w = .ok ((vs.drop off).take n).toArray w:=by
 have hl : ((vs.drop off).take n).length = n:=by simp; omega
 have:=run_loadCells_list (P:=P) w ⟨b,off,none⟩ ((vs.drop off).take n) (fun j v hj => by
  have hjn : j < n:=by
   have:=(List.getElem?_eq_some_iff.1 hj).1
   omega
  rw [List.getElem?_take_of_lt hjn,List.getElem?_drop] at hj
  rw [yF,cell_of hb (by omega),hj])
 rw [hl] at this
 exact this
noncomputable def aloadVar (E : Env) (S : ASt) (t : TypeId) (id off : Nat) : Option AV:=
 match S.heap.get id with
 | some (.cells l _) => match E.agg t with
   | some true => match E.size t with
     | some n => match Nat.ble (off + n) l.length with
       | true => some (.agg ((l.drop off).take n))
       | false => none
     | none => none
   | some false => l[off]?
   | none => none
 | _ => none
theorem aloadVar_ok (hE : E.Ok) (hS : S.rel E.P σ w Wr) {t : TypeId} {id off : Nat} {v : AV} (h : aloadVar E S t id off = some v) :
  ∃ b κ u,σ id = some (b,κ)∧v.inst σ = some u∧(loadVar t ⟨b,off,none⟩).run E.P w = .ok u w:=by
 unfold aloadVar at h
 split at h
 ·rename_i l t' hb
  obtain ⟨b,κ,vs,rest,fr,h1,h2,hi,hk,hfr⟩:=get_cells hS hb
  split at h
  ·rename_i ha
   split at h
   ·rename_i n hn
    split at h
    ·rename_i hle
     cases h
     have hle':=Nat.le_of_ble_eq_true hle
     have hlen:=hi.length
     refine ⟨b,κ,.agg ((vs.drop off).take n).toArray,h1,?_,?_⟩
     ·simp only [AV.inst,instL_iff.2 ((hi.drop off).take n)]
     ·simp only [loadVar,Sem.run_bind,run_agg hE ha,Result.andThen_ok,if_true,z8 hE hn,load_cells h2 (show off + n≤vs.length by omega),Sem.run_pure]
    ·cases h
   ·cases h
  ·rename_i ha
   obtain ⟨u,hu,hui⟩:=hi.get h
   refine ⟨b,κ,u,h1,hui,?_⟩
   have hlt:=(List.getElem?_eq_some_iff.1 hu).1
   have hc : w.cell? ⟨b,off,none⟩ = some u:=by rw [cell_of h2 hlt,hu]
   simp [loadVar,run_agg hE ha,hc]
  ·cases h
 ·cases h
noncomputable def splice (l : List AV) (off : Nat) (m : List AV) : List AV:=l.take off ++ (m ++ l.drop (off + m.length))
noncomputable def astoreCells (S : ASt) (id off : Nat) (m : List AV) : Option ASt:=
 match S.heap.get id with
 | some (.cells l t) =>
   match S.limit id && (Nat.blt id zM && (Nat.ble (off + m.length) l.length && m.all AV.one)) with
   | true => some { heap:=Trie.put (some (.cells (splice l off m) t)) depth S.heap id,next:=S.next,limit:=S.limit }
   | false => none
 | _ => none
theorem setRow_eq (w : World) (b : Nat) {cur : Array Value} {t : TypeId} {fr : Nat×Nat} (cs : Array Value) (hb : w.heap[b]? = some (.cells cur t fr)) :
  (w.setRow b cs).heap = w.heap.setIfInBounds b (.cells cs t fr):=by
 apply Array.ext_getElem?
 intro i
 by_cases hi : i = b
 ·subst hi
  rw [setRow_heap w i cur cs t fr hb]
  rw [Array.getElem?_setIfInBounds_self_of_lt (Array.getElem?_eq_some_iff.1 hb).1]
 ·rw [setRow_other w b i cs hi,Array.getElem?_setIfInBounds_ne (Ne.symm hi)]
theorem store_cells {P : Program} (b off : Nat) (t : TypeId) (fr : Nat×Nat) : ∀ (vs : List Value) (i : Nat) (cur : Array Value) (w : World),w.heap[b]? = some (.cells cur t fr)→(fr.2≤fr.1∨cur.size≤fr.1) →
  off + i + vs.length≤cur.size→(∀ v ∈ vs,v.oneCell' = true) →
  (storeCells ⟨b,off,none⟩ vs i).run P w = .ok () (w.setRow b (cur.toList.take (off + i) ++ vs ++ cur.toList.drop (off + i + vs.length)).toArray)
 | [],i,cur,w,hg,_,_,_ => by
   simp only [storeCells,List.append_nil,List.length_nil,Nat.add_zero,List.take_append_drop,Array.toArray_toList]
   rw [setRow_self w b cur t fr hg]
   rfl
 | v :: rest,i,cur,w,hg,hfr,hl,h1 => by
   simp only [List.length_cons] at hl
   have hi : off + i < cur.size:=by omega
   have hcell : w.cell? ⟨b,off + i,none⟩ = some cur[off + i]:=by simp [World.cell?,hg,hi]
   have hfro : w.frozen? ⟨b,off + i,none⟩ = false:=by
    simp only [World.frozen?,hg]
    rcases hfr with hfr | hfr
    ·simp; omega
    ·simp; omega
   have hst : (store ((⟨b,off,none⟩ : Addr).add i) v).run P w = .ok () (w.setRow b (cur.setIfInBounds (off + i) v)):=by
    rw [yF,run_store P w _ v _ (h1 v (by simp)),hcell]
    simp [hfro,setCell_eq_setRow w b (off + i) cur t fr v hg]
   have ih:=store_cells (P:=P) b off t fr rest (i + 1) (cur.setIfInBounds (off + i) v) (w.setRow b (cur.setIfInBounds (off + i) v)) (setRow_heap w b cur _ t _ hg) (by simpa using hfr) (by simp; omega) (fun x hx => h1 x (by simp [hx]))
   simp only [storeCells,Sem.run_bind,hst,Result.andThen_ok,ih,setRow_setRow]
   congr 3
   have e:=list_seg_step cur.toList (off + i) v rest (by simp; omega)
   simpa [Array.toList_setIfInBounds,Nat.add_assoc] using e
theorem Ins.splice {l m : List AV} {vs ms : List Value} (h : Ins σ l vs) (hm : Ins σ m ms) (off : Nat) :
  Ins σ (Zs.splice l off m) (vs.take off ++ (ms ++ vs.drop (off + ms.length))):=by
 unfold Zs.splice
 rw [← hm.length]
 exact (h.take off).append (hm.append (h.drop _))
theorem astoreCells_ok (hS : S.rel E.P σ w Wr) {id off : Nat} {m : List AV} (h : astoreCells S id off m = some S') {ms : List Value} (hm : Ins σ m ms) :
  ∃ b κ w',σ id = some (b,κ)∧(storeCells ⟨b,off,none⟩ ms).run E.P w = .ok () w'∧Post E.P σ S w Wr σ S' w':=by
 unfold astoreCells at h
 split at h
 ·rename_i l t hb
  split at h
  ·rename_i hc
   simp only [Bool.and_eq_true] at hc
   obtain ⟨hlim,hmax,hfit,hone⟩:=hc
   cases h
   obtain ⟨b,κ,vs,rest,fr,h1,h2,hi,hk,hfr,hkn⟩:=get_cells' hS hb
   have hlen:=hi.length
   have hml:=hm.length
   have hfit':=Nat.le_of_ble_eq_true hfit
   have hrun:=store_cells (P:=E.P) b off t fr ms 0 (vs ++ rest).toArray w h2 (by simpa using hfr) (by simp; omega) (hm.one hone)
   refine ⟨b,κ,_,h1,hrun,?_⟩
   have e : ((vs ++ rest).toArray.toList.take (off + 0) ++ ms ++ (vs ++ rest).toArray.toList.drop (off + 0 + ms.length)) = (vs.take off ++ (ms ++ vs.drop (off + ms.length))) ++ rest:=by
    simp only [Nat.add_zero]
    rw [List.take_append_of_le_length (by omega),List.drop_append_of_le_length (by omega)]
    simp
   rw [e]
   refine post_set hS hb hlim h1 (blk:=.cells (Zs.splice l off m) t) ?_ (zo hmax) (setRow_eq w b _ h2)
   have hlen2 : (vs.take off ++ (ms ++ vs.drop (off + ms.length)) ++ rest).length = (vs ++ rest).length:=by
    simp only [List.length_append,List.length_take,List.length_drop]
    omega
   have hlen3 : (vs.take off ++ (ms ++ vs.drop (off + ms.length))).length = vs.length:=by
    simp only [List.length_append,List.length_take,List.length_drop]
    omega
   exact ⟨_,rest,fr,hi.splice hm off,rfl,by rw [hlen2]; exact hk,by rw [hlen2]; exact hfr,by rw [hlen3]; exact hkn⟩
  ·cases h
 ·cases h
noncomputable def AV.isTuple : AV→Bool
 | .tuple _ => true
 | _ => false
theorem AV.not_tuple {v : AV} (h : v.isTuple = false) (l : List AV) : v≠.tuple l:=by
 intro e; subst e; cases h
noncomputable def astoreVar (E : Env) (S : ASt) (t : TypeId) (id off : Nat) (v : AV) : Option ASt:=
 match v.isTuple with
 | true => none
 | false => match E.size t with
   | some n => match Nat.beq v.cells.length n with
     | true => astoreCells S id off v.cells
     | false => none
   | none => none
theorem astoreVar_ok (hE : E.Ok) (hS : S.rel E.P σ w Wr) {t : TypeId} {id off : Nat} {v : AV} {u : Value} (h : astoreVar E S t id off v = some S') (hv : v.inst σ = some u) :
  ∃ b κ w',σ id = some (b,κ)∧(storeVar t ⟨b,off,none⟩ u).run E.P w = .ok () w'∧Post E.P σ S w Wr σ S' w':=by
 unfold astoreVar at h
 split at h
 ·cases h
 ·rename_i ht
  split at h
  ·rename_i n hn
   split at h
   ·rename_i hl
    have hc:=AV.cells_inst hv (AV.not_tuple ht)
    have hl':=Nat.eq_of_beq_eq_true hl
    have hlen:=hc.length
    obtain ⟨b,κ,w',h1,h2,h3⟩:=astoreCells_ok hS h hc
    refine ⟨b,κ,w',h1,?_,h3⟩
    have hz : ¬ u.cells.size≠n:=by
     simp only [Array.length_toList] at hlen
     omega
    simp [storeVar,z8 hE hn,hz,h2]
   ·cases h
  ·cases h
noncomputable def anew (S : ASt) (blk : ABlock) : Option ASt:=
 match Nat.blt S.next zM with
 | true => some { heap:=Trie.put (some blk) depth S.heap S.next,next:=S.next + 1,limit:=S.limit }
 | false => none
theorem anew_ok (hS : S.rel E.P σ w Wr) {blk : ABlock} (h : anew S blk = some S') {κ : Nat} {o : Obj} (hb : BRel E.P σ κ blk o) {w' : World} (he : w'.heap = w.heap.push o) (ho : w'.os = w.os∧w'.output = w.output:=by exact ⟨rfl,rfl⟩) :
  Post E.P σ S w Wr (σ.add S.next (w.heap.size,κ)) S' w'∧(σ.add S.next (w.heap.size,κ)) S.next = some (w.heap.size,κ):=by
 unfold anew at h
 split at h
 ·rename_i hn
  cases h
  exact ⟨post_new hS (zo hn) hb he ho,Sig.add_same _ _ _⟩
 ·cases h
theorem anewRow_ok (hS : S.rel E.P σ w Wr) {m : List AV} {t : TypeId} (h : anew S (.cells m t) = some S') {ms : List Value} (hm : Ins σ m ms) :
  ∃ σ' b κ w',(newRow t ms.toArray).run E.P w = .ok ⟨b,0,none⟩ w'∧σ' S.next = some (b,κ)∧Post E.P σ S w Wr σ' S' w':=by
 obtain ⟨hp,hs⟩:=anew_ok hS h (κ:=0) (o:=.cells ms.toArray t (0,0)) (w':={ w with heap:=w.heap.push (.cells ms.toArray t (0,0)) }) ⟨ms,[],(0,0),hm,by simp,by simp,.inl (Nat.le_refl _),.inl rfl⟩ rfl
 exact ⟨_,w.heap.size,0,_,by simp [newRow],hs,hp⟩
end
open Go
section
variable {E : Env} {σ : Sig} {S S' : ASt} {w : World} {Wr : Nat→Prop}
theorem inst_ptr {id off : Nat} {u : Value} (h : (AV.ptr id off).inst σ = some u) : ∃ b κ,σ id = some (b,κ)∧u = .pointer (some ⟨b,off,none⟩):=by
 simp only [AV.inst] at h
 split at h
 ·rename_i x hx
  simp only [Option.some.injEq] at h
  exact ⟨x.1,x.2,hx,h.symm⟩
 ·cases h
theorem ptr_inst {id off b κ : Nat} (h : σ id = some (b,κ)) : (AV.ptr id off).inst σ = some (.pointer (some ⟨b,off,none⟩)):=by simp [AV.inst,h]
theorem inst_int {k : IntKind} {n : Int} {u : Value} (h : (AV.int k n).inst σ = some u) : u = .int k n:=by simpa [AV.inst] using h.symm
theorem yT {id off len cap : Nat} {ex : Bool} {u : Value} (h : (AV.slice id off len cap ex).inst σ = some u) :
  ∃ b κ,σ id = some (b,κ)∧(ex = true∨len≤κ - cap)∧u = .slice (some ⟨b,off,none⟩) len (if ex then cap else κ - cap):=by
 simp only [AV.inst] at h
 split at h
 ·rename_i x hx
  split at h
  ·rename_i hc
   simp only [Option.some.injEq] at h
   exact ⟨x.1,x.2,hx,hc.imp (fun h => h) (fun h => h.2),h.symm⟩
  ·cases h
 ·cases h
theorem inst_slice' {id off len cap : Nat} {u : Value} (h : (AV.slice id off len cap false).inst σ = some u) :
  ∃ b κ,σ id = some (b,κ)∧0 < κ∧len≤κ - cap∧u = .slice (some ⟨b,off,none⟩) len (κ - cap):=by
 simp only [AV.inst] at h
 split at h
 ·rename_i x hx
  split at h
  ·rename_i hc
   simp only [Option.some.injEq] at h
   rcases hc with hc | hc
   ·cases hc
   ·exact ⟨x.1,x.2,hx,hc.1,hc.2,h.symm⟩
  ·cases h
 ·cases h
theorem stail_inst {id back off cap b κ : Nat} (h : σ id = some (b,κ)) (hc : 0 < κ) :
  (AV.stail id back off cap).inst σ = some (.slice (some ⟨b,if κ - cap = 0 then back else off,none⟩) 0 (κ - cap)):=by
 simp only [AV.inst,h]
 rw [if_pos hc]
theorem inst_stail {id back off cap : Nat} {u : Value} (h : (AV.stail id back off cap).inst σ = some u) : ∃ a c,u = .slice (some a) 0 c:=by
 simp only [AV.inst] at h
 split at h
 ·split at h
  ·simp only [Option.some.injEq] at h
   exact ⟨_,_,h.symm⟩
  ·cases h
 ·cases h
theorem slice_inst {id off len cap b κ : Nat} {ex : Bool} (h : σ id = some (b,κ)) (hc : ex = true∨(0 < κ∧len≤κ - cap)) :
  (AV.slice id off len cap ex).inst σ = some (.slice (some ⟨b,off,none⟩) len (if ex then cap else κ - cap)):=by
 simp only [AV.inst,h]
 rw [if_pos hc]
noncomputable def aload (E : Env) (S : ASt) (t : TypeId) (x : AV) : Option AV:=
 match x with
 | .ptr id off => aloadVar E S t id off
 | _ => none
theorem aload_ok (hE : E.Ok) (hS : S.rel E.P σ w Wr) {t : TypeId} {x v : AV} {u : Value} (hx : x.inst σ = some u) (h : aload E S t x = some v) :
  RPost σ w ((Instr.loadAt t u).run E.P w) v:=by
 unfold aload at h
 split at h
 ·rename_i id off
  obtain ⟨b,κ,y,h1,h2,h3⟩:=aloadVar_ok hE hS h
  obtain ⟨b',κ',h1',rfl⟩:=inst_ptr hx
  rw [h1] at h1'; cases h1'
  exact .same hS (by simp [Instr.loadAt,Instr.sureAddr,h3]) h2
 ·cases h
noncomputable def astore (E : Env) (S : ASt) (t : TypeId) (x v : AV) : Option ASt:=
 match x with
 | .ptr id off => astoreVar E S t id off v
 | _ => none
theorem astore_ok (hE : E.Ok) (hS : S.rel E.P σ w Wr) {t : TypeId} {x v : AV} {u y : Value} (hx : x.inst σ = some u) (hv : v.inst σ = some y) (h : astore E S t x v = some S') :
  UPost E σ S w Wr ((Instr.storeAt t u y).run E.P w) S':=by
 unfold astore at h
 split at h
 ·rename_i id off
  obtain ⟨b,κ,w',h1,h2,h3⟩:=astoreVar_ok hE hS h hv
  obtain ⟨b',κ',h1',rfl⟩:=inst_ptr hx
  rw [h1] at h1'; cases h1'
  exact ⟨σ,w',by simp [Instr.storeAt,Instr.sureAddr,h2],h3⟩
 ·cases h
noncomputable def afieldAddr (E : Env) (s : TypeId) (x : AV) (i : Nat) : Option AV:=
 match E.und s with
 | some (.struct fs) => match fs[i]? with
   | some f => match E.size f.type with
     | some n => match Nat.beq n 0 with
       | false => match x with
         | .ptr id off => some (.ptr id (off + f.offset))
         | _ => none
       | true => none
     | none => none
   | none => none
 | _ => none
theorem afieldAddr_ok (hE : E.Ok) (hS : S.rel E.P σ w Wr) {s : TypeId} {x v : AV} {i : Nat} {u : Value} (hx : x.inst σ = some u) (h : afieldAddr E s x i = some v) :
  RPost σ w ((Instr.fieldAt s u i).run E.P w) v:=by
 unfold afieldAddr at h
 split at h
 ·rename_i fs hfs
  split at h
  ·rename_i f hf
   split at h
   ·rename_i n hn
    split at h
    ·rename_i hz
     split at h
     ·rename_i id off
      cases h
      obtain ⟨b,κ,h1,rfl⟩:=inst_ptr hx
      have hz' : ¬ n = 0:=Nat.ne_of_beq_eq_false hz
      refine .same hS (u:=.pointer (some ⟨b,off + f.offset,none⟩)) ?_ (ptr_inst h1)
      simp [Instr.fieldAt,zA hE hfs,hf,Instr.sureAddr,fieldPlace,z8 hE hn,hz',yF]
     ·cases h
    ·cases h
   ·cases h
  ·cases h
 ·cases h
noncomputable def aindexAddr (E : Env) (t : TypeId) (x ix : AV) : Option AV:=
 match ix with
 | .int _ (.ofNat i) => match E.und t with
   | some (.array len elem) => match x with
     | .ptr id off => match Nat.blt i len with
       | true => match E.size elem with
         | some n => some (.ptr id (off + i * n))
         | none => none
       | false => none
     | _ => none
   | some (.slice elem) => match x with
     | .slice id off len _ _ => match Nat.blt i len with
       | true => match E.size elem with
         | some n => some (.ptr id (off + i * n))
         | none => none
       | false => none
     | _ => none
   | _ => none
 | _ => none
theorem aindexAddr_ok (hE : E.Ok) (hS : S.rel E.P σ w Wr) {t : TypeId} {x ix v : AV} {u y : Value} (hx : x.inst σ = some u) (hi : ix.inst σ = some y) (h : aindexAddr E t x ix = some v) :
  RPost σ w ((Instr.indexAt t u y).run E.P w) v:=by
 unfold aindexAddr at h
 split at h
 ·rename_i k i
  cases inst_int hi
  split at h
  ·rename_i len elem ht
   split at h
   ·rename_i id off
    split at h
    ·rename_i hl
     split at h
     ·rename_i n hn
      cases h
      obtain ⟨b,κ,h1,rfl⟩:=inst_ptr hx
      have hl':=zo hl
      refine .same hS (u:=.pointer (some ⟨b,off + i * n,none⟩)) ?_ (ptr_inst h1)
      simp [Instr.indexAt,asIntOf,zA hE ht,Instr.sureAddr,hl',z8 hE hn,yF]
     ·cases h
    ·cases h
   ·cases h
  ·rename_i elem ht
   split at h
   ·rename_i id off len cap ex
    split at h
    ·rename_i hl
     split at h
     ·rename_i n hn
      cases h
      obtain ⟨b,κ,h1,hc,rfl⟩:=yT hx
      have hl':=zo hl
      refine .same hS (u:=.pointer (some ⟨b,off + i * n,none⟩)) ?_ (ptr_inst h1)
      simp [Instr.indexAt,asIntOf,zA hE ht,Instr.sureAddr,hl',z8 hE hn,yF]
     ·cases h
    ·cases h
   ·cases h
  ·cases h
 ·cases h
noncomputable def afield (E : Env) (t : TypeId) (x : AV) (i : Nat) : Option AV:=
 match E.und t with
 | some (.struct fs) => match fs[i]? with
   | some f => match x with
     | .agg cs => apart E f.type cs f.offset
     | _ => none
   | none => none
 | _ => none
theorem afield_ok (hE : E.Ok) (hS : S.rel E.P σ w Wr) {t : TypeId} {x v : AV} {i : Nat} {u : Value} (hx : x.inst σ = some u) (h : afield E t x i = some v) :
  RPost σ w ((Instr.field t u i).run E.P w) v:=by
 unfold afield at h
 split at h
 ·rename_i fs hfs
  split at h
  ·rename_i f hf
   split at h
   ·rename_i cs
    obtain ⟨us,rfl,hi⟩:=AV.inst_agg hx
    obtain ⟨v',h1,h2⟩:=apart_ok hE hi h
    exact .same hS (by simp [Instr.field,zA hE hfs,hf,asAgg,h2]) h1
   ·cases h
  ·cases h
 ·cases h
noncomputable def aindex (E : Env) (t : TypeId) (x ix : AV) : Option AV:=
 match ix with
 | .int _ (.ofNat i) => match x with
   | .agg cs => match E.und t with
     | some (.array len elem) => match Nat.blt i len with
       | true => match E.size elem with
         | some n => apart E elem cs (i * n)
         | none => none
       | false => none
     | _ => none
   | .str s => match E.und t with
     | some .string => match s[i]? with
       | some c => match Nat.blt c 256 with
         | true => some (.int .u8 (.ofNat c))
         | false => none
       | none => none
     | _ => none
   | _ => none
 | _ => none
theorem bytesOf_size (s : List Nat) : (z7 s).size = s.length:=by simp [z7,ByteArray.size]
theorem bytesOf_get {s : List Nat} {i c : Nat} (h : s[i]? = some c) : (z7 s)[i]? = some (UInt8.ofNat c):=by
 obtain ⟨hlt,hc⟩:=List.getElem?_eq_some_iff.1 h
 rw [getElem?_pos (z7 s) i (by rw [bytesOf_size]; exact hlt)]
 congr 1
 simp [z7,ByteArray.getElem_eq_getElem_data,hc]
theorem aindex_ok (hE : E.Ok) (hS : S.rel E.P σ w Wr) {t : TypeId} {x ix v : AV} {u y : Value} (hx : x.inst σ = some u) (hi : ix.inst σ = some y) (h : aindex E t x ix = some v) :
  RPost σ w ((Instr.index t u y).run E.P w) v:=by
 unfold aindex at h
 split at h
 ·rename_i k i
  cases inst_int hi
  split at h
  ·rename_i cs
   split at h
   ·rename_i len elem ht
    split at h
    ·rename_i hl
     split at h
     ·rename_i n hn
      have hl':=zo hl
      obtain ⟨us,rfl,hi⟩:=AV.inst_agg hx
      obtain ⟨v',h1,h2⟩:=apart_ok hE hi h
      exact .same hS (by simp [Instr.index,asIntOf,zA hE ht,hl',z8 hE hn,h2]) h1
     ·cases h
    ·cases h
   ·cases h
  ·rename_i s
   split at h
   ·rename_i ht
    split at h
    ·rename_i c hc
     split at h
     ·rename_i hlt
      cases h
      have hlt':=zo hlt
      simp only [AV.inst,Option.some.injEq] at hx
      subst hx
      have hg:=bytesOf_get hc
      refine .same hS (u:=.int .u8 c) ?_ rfl
      have hm : c % 256 = c:=Nat.mod_eq_of_lt hlt'
      simp [Instr.index,asIntOf,zA hE ht,hg,hm]
     ·cases h
    ·cases h
   ·cases h
  ·cases h
 ·cases h
noncomputable def aextract (x : AV) (i : Nat) : Option AV:=
 match x with
 | .tuple l => l[i]?
 | _ => none
theorem aextract_ok (hS : S.rel E.P σ w Wr) {x v : AV} {i : Nat} {u : Value} (hx : x.inst σ = some u) (h : aextract x i = some v) :
  RPost σ w ((Instr.extract u i).run E.P w) v:=by
 unfold aextract at h
 split at h
 ·rename_i l
  obtain ⟨us,rfl,hi⟩:=AV.inst_tuple hx
  obtain ⟨v',h1,h2⟩:=hi.get h
  exact .same hS (by simp [Instr.extract,h1]) h2
 ·cases h
noncomputable def Env.zero (E : Env) (t : TypeId) : Option AV:=
 match E.inf t with
 | some i => match i.zero with
   | some z => ofV z
   | none => none
 | none => none
theorem run_zero (hE : E.Ok) {t : TypeId} {a : AV} (h : E.zero t = some a) : ∃ z i,E.P.info? t = some i∧i.zero = some z∧a.inst σ = some z∧∀ w,(zeroValue t).run E.P w = .ok z w:=by
 unfold Env.zero at h
 split at h
 ·rename_i i hi
  split at h
  ·rename_i z hz
   exact ⟨z,i,hE.inf t i hi,hz,ofV_inst σ z a h,fun w => by simp [zeroValue,run_inf hE hi,hz]⟩
  ·cases h
 ·cases h
noncomputable def aboxed (S : ASt) (t : TypeId) (v : AV) : Option (AV×ASt):=
 match v.isTuple with
 | true => none
 | false => match anew S (.cells v.cells t) with
   | some S' => some (.ptr S.next 0,S')
   | none => none
theorem newVar_ok (hS : S.rel E.P σ w Wr) {t : TypeId} {v p : AV} {u : Value} (hv : v.inst σ = some u) (h : aboxed S t v = some (p,S')) :
  ∃ σ' b w',(newVar t u).run E.P w = .ok ⟨b,0,none⟩ w'∧p.inst σ' = some (.pointer (some ⟨b,0,none⟩))∧Post E.P σ S w Wr σ' S' w':=by
 unfold aboxed at h
 split at h
 ·cases h
 ·rename_i ht
  split at h
  ·rename_i S₁ hn
   cases h
   obtain ⟨σ',b,κ,w',h1,h2,h3⟩:=anewRow_ok hS hn (AV.cells_inst hv (AV.not_tuple ht))
   refine ⟨σ',b,w',?_,ptr_inst h2,h3⟩
   simpa [newVar] using h1
  ·cases h
theorem abox_ok (hS : S.rel E.P σ w Wr) {t : TypeId} {v p : AV} {u : Value} (hv : v.inst σ = some u) (h : aboxed S t v = some (p,S')) :
  VPost E σ S w Wr ((Instr.box t u).run E.P w) p S':=by
 obtain ⟨σ',b,w',h1,h2,h3⟩:=newVar_ok hS hv h
 exact ⟨σ',_,w',by simp [Instr.box,h1],h2,h3⟩
noncomputable def aalloc (E : Env) (S : ASt) (t : TypeId) : Option (AV×ASt):=
 match E.zero t with
 | some z => aboxed S t z
 | none => none
theorem aalloc_ok (hE : E.Ok) (hS : S.rel E.P σ w Wr) {t : TypeId} {p : AV} (h : aalloc E S t = some (p,S')) :
  VPost E σ S w Wr ((Instr.alloc t true (.tuple #[])).run E.P w) p S':=by
 unfold aalloc at h
 split at h
 ·rename_i z hz
  obtain ⟨zv,i,_,_,hi,hr⟩:=run_zero (σ:=σ) hE hz
  obtain ⟨σ',b,w',h1,h2,h3⟩:=newVar_ok hS hi h
  exact ⟨σ',_,w',by simp [Instr.alloc,hr,h1],h2,h3⟩
 ·cases h
noncomputable def apaste (cells : List AV) (off : Nat) : List AV→List AV
 | [] => cells
 | v :: l => apaste (cells.set off v) (off + 1) l
noncomputable def afill (place : Nat→Option (Nat×Nat)) (cells : List AV) : List (Nat×AV)→Option (List AV)
 | [] => some cells
 | (i,v) :: rest =>
   match place i with
   | some (off,size) => match v.isTuple with
     | true => none
     | false => match Nat.beq v.cells.length size && Nat.ble (off + v.cells.length) cells.length with
       | true => afill place (apaste cells off v.cells) rest
       | false => none
   | none => none
theorem paste_ok : ∀ {l : List AV} {ls : List Value} {cells : List AV} {cs : List Value} (off j : Nat),Ins σ l ls→Ins σ cells cs →
  Ins σ (apaste cells (off + j) l) ((ls.toArray.zipIdx j).foldl (fun cs (c,j) => cs.setIfInBounds (off + j) c) cs.toArray).toList
 | [],_,cells,cs,off,j,.nil,hc => by
   have e : (([] : List Value).toArray.zipIdx j) = #[]:=by
    apply Array.ext'
    simp
   rw [e]
   simpa [apaste] using hc
 | a :: l,_,cells,cs,off,j,.cons (v:=v) (vs:=vs) ha hl,hc => by
   have ih:=paste_ok (l:=l) (ls:=vs) (cells:=cells.set (off + j) a) (cs:=cs.set (off + j) v) off (j + 1) hl (hc.set ha (off + j))
   simp only [apaste]
   have e : ((v :: vs).toArray.zipIdx j) = #[(v,j)] ++ (vs.toArray.zipIdx (j + 1)):=by
    apply Array.ext'
    simp [List.zipIdx_cons]
   rw [e,Array.foldl_append]
   simpa [Nat.add_assoc] using ih
theorem fill_ok {place : Nat→Option (Nat×Nat)} : ∀ {ps : List (Nat×AV)} {qs : List (Nat×Value)} {cells out : List AV} {cs : List Value},
  ps.map (·.1) = qs.map (·.1)→Ins σ (ps.map (·.2)) (qs.map (·.2))→Ins σ cells cs→afill place cells ps = some out →
  ∃ os : List Value,Ins σ out os∧Instr.fill place cs.toArray qs = some os.toArray
 | [],[],cells,out,cs,_,_,hc,h => by
   simp only [afill,Option.some.injEq] at h
   subst h
   exact ⟨cs,hc,rfl⟩
 | (i,v) :: ps,(j,u) :: qs,cells,out,cs,h1,h2,hc,h => by
   simp only [List.map_cons,List.cons.injEq] at h1
   obtain ⟨rfl,h1⟩:=h1
   cases h2 with
   | cons hv h2 =>
     simp only [afill] at h
     split at h
     ·rename_i off size hp
      split at h
      ·cases h
      ·rename_i ht
       split at h
       ·rename_i hb
        simp only [Bool.and_eq_true] at hb
        have hi:=AV.cells_inst hv (AV.not_tuple ht)
        have hlen:=hi.length
        have hcl:=hc.length
        have e1:=Nat.eq_of_beq_eq_true hb.1
        have e2:=Nat.le_of_ble_eq_true hb.2
        simp only [Array.length_toList] at hlen
        have hp0:=paste_ok off 0 hi hc
        simp only [Nat.add_zero,Array.toArray_toList] at hp0
        obtain ⟨os,ho,hf⟩:=fill_ok h1 h2 hp0 h
        refine ⟨os,ho,?_⟩
        have c1 : ¬ (u.cells.size≠size):=by omega
        have c2 : ¬ (off + u.cells.size > cs.length):=by omega
        simp only [Array.toArray_toList] at hf
        simp only [Instr.fill,hp,List.size_toArray]
        rw [if_neg (by simp; omega)]
        exact hf
       ·cases h
     ·cases h
 | [],_ :: _,_,_,_,h1,_,_,_ => by cases h1
 | _ :: _,[],_,_,_,h1,_,_,_ => by cases h1
end
end Go.Proofs.YtfddkbbjnghefaaGreatDoor.Zs
