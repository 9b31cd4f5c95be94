/-
  States that are of a pattern.
-/
import Derived.Test.YtfddkbbjnghefaaGreatDoorToEvI
set_option linter.unusedSimpArgs false
set_option linter.unusedVariables false
namespace Go.Proofs.YtfddkbbjnghefaaGreatDoor.Zs
open Go
def Rho.ext (ρ : Rho) (N : Nat) (vals : List Value) : Rho:=⟨fun v => if v < N then ρ.val v else vals[v - N]?,ρ.sym⟩
mutual
def belowX (N : Nat) : X→Bool
 | .var i => Nat.blt i N
 | .num _ => true
 | .boo _ => true
 | .str _ => true
 | .op1 _ a => belowX N a
 | .op2 _ a b => andB (belowX N a) (belowX N b)
 | .ite a b c => andB (belowX N a) (andB (belowX N b) (belowX N c))
 | .cell _ a b => andB (belowX N a) (belowX N b)
 | .ssub a b c => andB (belowX N a) (andB (belowX N b) (belowX N c))
 | .lsub a b c => andB (belowX N a) (andB (belowX N b) (belowX N c))
 | .snoc a l => andB (belowX N a) (belowXs N l)
 | .nil => true
 | .app _ l => belowXs N l
def belowXs (N : Nat) : List X→Bool
 | [] => true
 | a :: l => andB (belowX N a) (belowXs N l)
end
structure Rho.agree (N : Nat) (ρ ρ' : Rho) : Prop where
 val : ∀ v,v < N→ρ.val v = ρ'.val v
 sym : ρ.sym = ρ'.sym
theorem Rho.ext_agree (ρ : Rho) (N : Nat) (vals : List Value) : Rho.agree N (ρ.ext N vals) ρ:=⟨fun v hv => by simp [Rho.ext,hv],rfl⟩
theorem Rho.agree.symm {N : Nat} {ρ ρ' : Rho} (h : Rho.agree N ρ ρ') : Rho.agree N ρ' ρ:=⟨fun v hv => (h.val v hv).symm,h.sym.symm⟩
theorem Rho.agree.trans {N : Nat} {a b c : Rho} (h : Rho.agree N a b) (h' : Rho.agree N b c) : Rho.agree N a c:=⟨fun v hv => (h.val v hv).trans (h'.val v hv),h.sym.trans h'.sym⟩
mutual
theorem yO {N : Nat} {ρ ρ' : Rho} (hr : Rho.agree N ρ ρ') : ∀ (x : X),belowX N x = true→x.den ρ = x.den ρ'
 | .var i,h => hr.val i (zo h)
 | .num _,h => rfl
 | .boo _,h => rfl
 | .str _,h => rfl
 | .op1 _ a,h => by simp only [belowX] at h; simp only [X.den,yO hr a h]
 | .op2 _ a b,h => by
   simp only [belowX] at h
   obtain ⟨h1,h2⟩:=zb h
   simp only [X.den,yO hr a h1,yO hr b h2]
 | .ite a b c,h => by
   simp only [belowX] at h
   obtain ⟨h1,h2⟩:=zb h
   obtain ⟨h2,h3⟩:=zb h2
   simp only [X.den,yO hr a h1,yO hr b h2,yO hr c h3]
 | .cell _ a b,h => by
   simp only [belowX] at h
   obtain ⟨h1,h2⟩:=zb h
   simp only [X.den,yO hr a h1,yO hr b h2]
 | .ssub a b c,h => by
   simp only [belowX] at h
   obtain ⟨h1,h2⟩:=zb h
   obtain ⟨h2,h3⟩:=zb h2
   simp only [X.den,yO hr a h1,yO hr b h2,yO hr c h3]
 | .lsub a b c,h => by
   simp only [belowX] at h
   obtain ⟨h1,h2⟩:=zb h
   obtain ⟨h2,h3⟩:=zb h2
   simp only [X.den,yO hr a h1,yO hr b h2,yO hr c h3]
 | .snoc a l,h => by
   simp only [belowX] at h
   obtain ⟨h1,h2⟩:=zb h
   simp only [X.den,yO hr a h1,den_belows hr l h2]
 | .nil,h => rfl
 | .app s l,h => by
   simp only [belowX] at h
   simp only [X.den,den_belows hr l h,hr.sym]
theorem den_belows {N : Nat} {ρ ρ' : Rho} (hr : Rho.agree N ρ ρ') : ∀ (l : List X),belowXs N l = true→denL ρ l = denL ρ' l
 | [],h => rfl
 | a :: l,h => by
   simp only [belowXs] at h
   obtain ⟨h1,h2⟩:=zb h
   simp only [denL,yO hr a h1,den_belows hr l h2]
end
abbrev zp:=List (X×X)
def pairX (N : Nat) (p x : X) : zp:=match andB (yB p x) (belowX N p) with
 | true => []
 | false => [(p,x)]
def zp.hold (ρ ρ' : Rho) (l : zp) : Prop:=∀ p x,(p,x) ∈ l→p.den ρ = x.den ρ'
theorem zp.hold_append {ρ ρ' : Rho} {l m : zp} : zp.hold ρ ρ' (l ++ m)↔zp.hold ρ ρ' l∧zp.hold ρ ρ' m:=
 ⟨fun h => ⟨fun p x hx => h p x (List.mem_append_left _ hx),fun p x hx => h p x (List.mem_append_right _ hx)⟩,fun h p x hx => (List.mem_append.1 hx).elim (h.1 p x) (h.2 p x)⟩
theorem pairX_ok {N : Nat} {ρ ρ' : Rho} (hr : Rho.agree N ρ ρ') {p x : X} (h : zp.hold ρ ρ' (pairX N p x)) : p.den ρ = x.den ρ':=by
 unfold pairX at h
 split at h
 ·rename_i hs
  obtain ⟨h1,h2⟩:=zb hs
  rw [← zL h1]
  exact yO hr p h2
 ·exact h p x (by simp)
def Zb.go (i : Nat) : List (Nat×Nat)→Option Nat
 | [] => none
 | (j,k) :: l => match Nat.beq j i with
   | true => some k
   | false => Zb.go i l
def Zb (N : Nat) (ren : List (Nat×Nat)) (i : Nat) : Option Nat:=match Nat.blt i N with
 | true => some i
 | false => Zb.go i ren
def sameFn : Fn→Fn→Bool
 | .func f,.func g => Nat.beq f g
 | _,_ => false
theorem sameFn_ok {f g : Fn} (h : sameFn f g = true) : f = g:=by
 unfold sameFn at h
 split at h
 ·rw [Nat.eq_of_beq_eq_true h]
 ·cases h
def okP (b : Bool) : Option zp:=match b with | true => some [] | false => none
def addP (a b : Option zp) : Option zp:=match a with
 | some l => match b with
   | some m => some (l ++ m)
   | none => none
 | none => none
def sameId (o : Option Nat) (j : Nat) : Bool:=match o with | some i => Nat.beq i j | none => false
theorem sameId_ok {o : Option Nat} {j : Nat} (h : sameId o j = true) : o = some j:=by
 unfold sameId at h
 split at h
 ·rw [Nat.eq_of_beq_eq_true h]
 ·cases h
mutual
noncomputable def chkAV (N : Nat) (ren : List (Nat×Nat)) : AV→AV→Option zp
 | .bool a,.bool b => okP (sameBo a b)
 | .int k m,.int k' n => okP (andB (Nat.beq (o1No (.kind k)) (o1No (.kind k'))) (sameI m n))
 | .str s,.str t => okP (sameNs s t)
 | .nilptr,.nilptr => some []
 | .nilslice,.nilslice => some []
 | .nilmap,.nilmap => some []
 | .nilFunc,.nilFunc => some []
 | .nilIface,.nilIface => some []
 | .ptr i o,.ptr j o' => okP (andB (sameId (Zb N ren i) j) (Nat.beq o o'))
 | .slice i o l c e,.slice j o' l' c' e' => okP (andB (sameId (Zb N ren i) j) (andB (Nat.beq o o') (andB (Nat.beq l l') (andB (Nat.beq c c') (sameBo e e')))))
 | .map i,.map j => okP (sameId (Zb N ren i) j)
 | .yield i,.yield j => okP (sameId (Zb N ren i) j)
 | .func f a c,.func g a' c' => match sameFn f g with
   | true => addP (chkAVs N ren a a') (chkAVs N ren c c')
   | false => none
 | .iface t a,.iface u b => match Nat.beq t u with
   | true => chkAV N ren a b
   | false => none
 | .agg l,.agg m => chkAVs N ren l m
 | .tuple l,.tuple m => chkAVs N ren l m
 | .sint k p,a => match toI a with
   | some (k',x) => match Nat.beq (o1No (.kind k)) (o1No (.kind k')) with
     | true => some (pairX N p x)
     | false => none
   | none => none
 | .sbool p,a => match toB a with
   | some x => some (pairX N p x)
   | none => none
 | .sstr p,a => match toS a with
   | some x => some (pairX N p x)
   | none => none
 | .slx i w b lo len cap,.slx j w' b' lo' len' cap' => match andB (sameId (Zb N ren i) j) (Nat.beq w w') with
   | true => some (pairX N b b' ++ (pairX N lo lo' ++ (pairX N len len' ++ pairX N cap cap')))
   | false => none
 | .slo i w len,.slo j w' len' => match andB (sameId (Zb N ren i) j) (Nat.beq w w') with
   | true => some (pairX N len len')
   | false => none
 | .ptx i w b r o,.ptx j w' b' r' o' => match andB (sameId (Zb N ren i) j) (andB (Nat.beq w w') (Nat.beq o o')) with
   | true => some (pairX N b b' ++ pairX N r r')
   | false => none
 | .spt i w lo hi,.spt j w' lo' hi' => match andB (sameId (Zb N ren i) j) (Nat.beq w w') with
   | true => some (pairX N lo lo' ++ pairX N hi hi')
   | false => none
 | _,_ => none
noncomputable def chkAVs (N : Nat) (ren : List (Nat×Nat)) : List AV→List AV→Option zp
 | [],[] => some []
 | a :: l,b :: m => addP (chkAV N ren a b) (chkAVs N ren l m)
 | _,_ => none
end
theorem okP_some {b : Bool} {l : zp} (h : okP b = some l) : b = true:=by cases b <;> first | rfl | cases h
theorem addP_some {a b : Option zp} {l : zp} (h : addP a b = some l) : ∃ l1 l2,a = some l1∧b = some l2∧l = l1 ++ l2:=by
 unfold addP at h
 split at h
 ·split at h
  ·cases h; exact ⟨_,_,rfl,rfl,rfl⟩
  ·cases h
 ·cases h
structure SigIs (N : Nat) (ren : List (Nat×Nat)) (σ σ' : Sig) : Prop where
 blk : ∀ i j,Zb N ren i = some j→σ i = σ' j
 rho : Rho.agree N σ.rho σ'.rho
theorem yD {ρ ρ' : Rho} {p x : X} (h : p.den ρ = x.den ρ') : p.nat ρ = x.nat ρ':=by unfold X.nat; rw [h]
mutual
theorem chkAV_ok {N : Nat} {ren : List (Nat×Nat)} {σ σ' : Sig} (hs : SigIs N ren σ σ') : ∀ (p a : AV) (l : zp) (u : Value),chkAV N ren p a = some l→zp.hold σ.rho σ'.rho l→a.inst σ' = some u→p.inst σ = some u
 | .bool b,a,l,u,h,hp,hu => by
   cases a <;> simp only [chkAV] at h <;> first | (cases h; done) | (rw [sameBo_ok (okP_some h)]; simpa [AV.inst] using hu)
 | .int k m,a,l,u,h,hp,hu => by
   cases a <;> simp only [chkAV] at h <;> first
    | (cases h; done)
    | (obtain ⟨h1,h2⟩:=zb (okP_some h)
       rw [kind_same h1,sameI_ok h2]
       simpa [AV.inst] using hu)
 | .str s,a,l,u,h,hp,hu => by
   cases a <;> simp only [chkAV] at h <;> first | (cases h; done) | (rw [sameNs_ok (okP_some h)]; simpa [AV.inst] using hu)
 | .nilptr,a,l,u,h,hp,hu => by cases a <;> simp only [chkAV] at h <;> first | (cases h; done) | simpa [AV.inst] using hu
 | .nilslice,a,l,u,h,hp,hu => by cases a <;> simp only [chkAV] at h <;> first | (cases h; done) | simpa [AV.inst] using hu
 | .nilmap,a,l,u,h,hp,hu => by cases a <;> simp only [chkAV] at h <;> first | (cases h; done) | simpa [AV.inst] using hu
 | .nilFunc,a,l,u,h,hp,hu => by cases a <;> simp only [chkAV] at h <;> first | (cases h; done) | simpa [AV.inst] using hu
 | .nilIface,a,l,u,h,hp,hu => by cases a <;> simp only [chkAV] at h <;> first | (cases h; done) | simpa [AV.inst] using hu
 | .ptr i o,a,l,u,h,hp,hu => by
   cases a <;> simp only [chkAV] at h <;> first
    | (cases h; done)
    | (obtain ⟨h1,h2⟩:=zb (okP_some h)
       have:=hs.blk _ _ (sameId_ok h1)
       rw [Nat.eq_of_beq_eq_true h2]
       simp only [AV.inst] at hu ⊢
       rw [this]; exact hu)
 | .slice i o n c e,a,l,u,h,hp,hu => by
   cases a <;> simp only [chkAV] at h <;> first
    | (cases h; done)
    | (obtain ⟨h1,h2⟩:=zb (okP_some h)
       obtain ⟨h2,h3⟩:=zb h2
       obtain ⟨h3,h4⟩:=zb h3
       obtain ⟨h4,h5⟩:=zb h4
       have:=hs.blk _ _ (sameId_ok h1)
       rw [Nat.eq_of_beq_eq_true h2,Nat.eq_of_beq_eq_true h3,Nat.eq_of_beq_eq_true h4,sameBo_ok h5]
       simp only [AV.inst] at hu ⊢
       rw [this]; exact hu)
 | .map i,a,l,u,h,hp,hu => by
   cases a <;> simp only [chkAV] at h <;> first
    | (cases h; done)
    | (have:=hs.blk _ _ (sameId_ok (okP_some h))
       simp only [AV.inst] at hu ⊢
       rw [this]; exact hu)
 | .yield i,a,l,u,h,hp,hu => by
   cases a <;> simp only [chkAV] at h <;> first
    | (cases h; done)
    | (have:=hs.blk _ _ (sameId_ok (okP_some h))
       simp only [AV.inst] at hu ⊢
       rw [this]; exact hu)
 | .func f x c,a,l,u,h,hp,hu => by
   cases a <;> simp only [chkAV] at h <;> first
    | (cases h; done)
    | (split at h
       ·rename_i hf
        obtain ⟨l1,l2,h1,h2,rfl⟩:=addP_some h
        obtain ⟨g1,g2⟩:=zp.hold_append.1 hp
        rw [sameFn_ok hf]
        simp only [AV.inst] at hu ⊢
        split at hu
        ·rename_i fs hfs
         split at hu
         ·rename_i cs hcs
          rw [chkAVs_ok hs _ _ l1 fs h1 g1 hfs,chkAVs_ok hs _ _ l2 cs h2 g2 hcs]
          exact hu
         ·cases hu
        ·cases hu
       ·cases h)
 | .iface t x,a,l,u,h,hp,hu => by
   cases a <;> simp only [chkAV] at h <;> first
    | (cases h; done)
    | (split at h
       ·rename_i hf
        rw [Nat.eq_of_beq_eq_true hf]
        simp only [AV.inst] at hu ⊢
        split at hu
        ·rename_i v hv
         rw [chkAV_ok hs _ _ l v h hp hv]
         exact hu
        ·cases hu
       ·cases h)
 | .agg m,a,l,u,h,hp,hu => by
   cases a <;> simp only [chkAV] at h <;> first
    | (cases h; done)
    | (simp only [AV.inst] at hu ⊢
       split at hu
       ·rename_i v hv
        rw [chkAVs_ok hs _ _ l v h hp hv]
        exact hu
       ·cases hu)
 | .tuple m,a,l,u,h,hp,hu => by
   cases a <;> simp only [chkAV] at h <;> first
    | (cases h; done)
    | (simp only [AV.inst] at hu ⊢
       split at hu
       ·rename_i v hv
        rw [chkAVs_ok hs _ _ l v h hp hv]
        exact hu
       ·cases hu)
 | .sint k p,a,l,u,h,hp,hu => by
   have h' : (match toI a with
    | some (k',x) => match Nat.beq (o1No (.kind k)) (o1No (.kind k')) with
      | true => some (pairX N p x)
      | false => none
    | none => none) = some l:=by cases a <;> exact h
   split at h'
   ·rename_i k' x hx
    split at h'
    ·rename_i hk
     cases h'
     obtain rfl:=kind_same hk
     obtain ⟨n,k'',rfl,hn⟩:=toI_ok hx hu
     have:=pairX_ok hs.rho hp
     simp only [AV.inst,X.int_iff.2 ⟨k'',this.trans hn⟩]
    ·cases h'
   ·cases h'
 | .sbool p,a,l,u,h,hp,hu => by
   have h' : (match toB a with
    | some x => some (pairX N p x)
    | none => none) = some l:=by cases a <;> exact h
   split at h'
   ·rename_i x hx
    cases h'
    obtain ⟨n,rfl,hn⟩:=toB_ok hx hu
    have:=pairX_ok hs.rho hp
    simp only [AV.inst,X.bool_iff.2 (this.trans hn)]
   ·cases h'
 | .sstr p,a,l,u,h,hp,hu => by
   have h' : (match toS a with
    | some x => some (pairX N p x)
    | none => none) = some l:=by cases a <;> exact h
   split at h'
   ·rename_i x hx
    cases h'
    obtain ⟨n,rfl,hn⟩:=toS_ok hx hu
    have:=pairX_ok hs.rho hp
    simp only [AV.inst,X.bytes_iff.2 (this.trans hn)]
   ·cases h'
 | .slx i w b lo len cap,a,l,u,h,hp,hu => by
   cases a <;> simp only [chkAV] at h <;> first
    | (cases h; done)
    | (split at h
       ·rename_i hc
        cases h
        obtain ⟨h1,h2⟩:=zb hc
        have e0:=hs.blk _ _ (sameId_ok h1)
        obtain ⟨g1,g2⟩:=zp.hold_append.1 hp
        obtain ⟨g2,g3⟩:=zp.hold_append.1 g2
        obtain ⟨g3,g4⟩:=zp.hold_append.1 g3
        rw [Nat.eq_of_beq_eq_true h2]
        simp only [AV.inst] at hu ⊢
        rw [e0,yD (pairX_ok hs.rho g1),yD (pairX_ok hs.rho g2),yD (pairX_ok hs.rho g3),yD (pairX_ok hs.rho g4)]
        exact hu
       ·cases h)
 | .slo i w len,a,l,u,h,hp,hu => by
   cases a <;> simp only [chkAV] at h <;> first
    | (cases h; done)
    | (split at h
       ·rename_i hc
        cases h
        obtain ⟨h1,h2⟩:=zb hc
        have e0:=hs.blk _ _ (sameId_ok h1)
        simp only [AV.inst] at hu ⊢
        rw [e0,yD (pairX_ok hs.rho hp)]
        exact hu
       ·cases h)
 | .ptx i w b r o,a,l,u,h,hp,hu => by
   cases a <;> simp only [chkAV] at h <;> first
    | (cases h; done)
    | (split at h
       ·rename_i hc
        cases h
        obtain ⟨h1,h2⟩:=zb hc
        obtain ⟨h2,h3⟩:=zb h2
        have e0:=hs.blk _ _ (sameId_ok h1)
        obtain ⟨g1,g2⟩:=zp.hold_append.1 hp
        rw [Nat.eq_of_beq_eq_true h2,Nat.eq_of_beq_eq_true h3]
        simp only [AV.inst] at hu ⊢
        rw [e0,yD (pairX_ok hs.rho g1),yD (pairX_ok hs.rho g2)]
        exact hu
       ·cases h)
 | .spt i w lo hi,a,l,u,h,hp,hu => by
   cases a <;> simp only [chkAV] at h <;> first
    | (cases h; done)
    | (split at h
       ·rename_i hc
        cases h
        obtain ⟨h1,h2⟩:=zb hc
        have e0:=hs.blk _ _ (sameId_ok h1)
        obtain ⟨g1,g2⟩:=zp.hold_append.1 hp
        rw [Nat.eq_of_beq_eq_true h2]
        simp only [AV.inst] at hu ⊢
        rw [e0,yD (pairX_ok hs.rho g1),yD (pairX_ok hs.rho g2)]
        exact hu
       ·cases h)
theorem chkAVs_ok {N : Nat} {ren : List (Nat×Nat)} {σ σ' : Sig} (hs : SigIs N ren σ σ') : ∀ (p a : List AV) (l : zp) (u : List Value),chkAVs N ren p a = some l→zp.hold σ.rho σ'.rho l→instL σ' a = some u→instL σ p = some u
 | [],[],l,u,h,hp,hu => by simpa [instL] using hu
 | p :: ps,a :: as,l,u,h,hp,hu => by
   simp only [chkAVs] at h
   obtain ⟨l1,l2,h1,h2,rfl⟩:=addP_some h
   obtain ⟨g1,g2⟩:=zp.hold_append.1 hp
   simp only [instL] at hu ⊢
   split at hu
   ·rename_i v hv
    split at hu
    ·rename_i vs hvs
     rw [chkAV_ok hs _ _ l1 v h1 g1 hv,chkAVs_ok hs _ _ l2 vs h2 g2 hvs]
     exact hu
    ·cases hu
   ·cases hu
 | [],_ :: _,l,u,h,hp,hu => by simp [chkAVs] at h
 | _ :: _,[],l,u,h,hp,hu => by simp [chkAVs] at h
end
noncomputable def buildT : List (Nat×AV)→Trie AV
 | [] => .leaf
 | (i,b) :: l => Trie.put (some b) depth (buildT l) i
theorem buildT_get : ∀ {l : List (Nat×AV)} {i : Nat} {b : AV},(∀ p ∈ l,p.1 < zM)→(buildT l).get i = some b→(i,b) ∈ l
 | [],i,b,_,h => nomatch (show (none : Option AV) = some b from h)
 | (j,c) :: l,i,b,hl,h => by
   have hj : j < 2 ^ 31:=by simpa [zM] using hl (j,c) (by simp)
   have h2 : (Trie.put (some c) depth (buildT l) j).get i = some b:=h
   rw [Trie.get_put _ _ _ _ hj] at h2
   split at h2
   ·rename_i e
    rw [Option.some.inj h2,e]
    exact List.mem_cons_self
   ·exact List.mem_cons_of_mem _ (buildT_get (fun p hp => hl p (List.mem_cons_of_mem _ hp)) h2)
noncomputable def chkT (N : Nat) (ren : List (Nat×Nat)) (T : Trie AV) : List (Nat×AV)→Option zp
 | [] => some []
 | (i,p) :: l => match Nat.blt i zM with
   | true => match T.get i with
     | some a => addP (chkAV N ren p a) (chkT N ren T l)
     | none => none
   | false => none
theorem chkT_ok {N : Nat} {ren : List (Nat×Nat)} {σ σ' : Sig} (hs : SigIs N ren σ σ') {T : Trie AV} {tmps : Array Value} (hT : TRel σ' T tmps) : ∀ {l : List (Nat×AV)} {ps : zp},chkT N ren T l = some ps→zp.hold σ.rho σ'.rho ps →
  (∀ p ∈ l,p.1 < zM)∧∀ i a,(i,a) ∈ l→∃ v,tmps[i]? = some v∧a.inst σ = some v
 | [],ps,h,hp => ⟨(fun p hp => by cases hp),(fun i a hi => by cases hi)⟩
 | (i,p) :: l,ps,h,hp => by
   simp only [chkT] at h
   split at h
   ·rename_i hi
    split at h
    ·rename_i a ha
     obtain ⟨l1,l2,h1,h2,rfl⟩:=addP_some h
     obtain ⟨g1,g2⟩:=zp.hold_append.1 hp
     obtain ⟨r1,r2⟩:=chkT_ok hs hT h2 g2
     refine ⟨fun q hq => ?_,fun j b hj => ?_⟩
     ·cases hq with
      | head => exact zo hi
      | tail _ hm => exact r1 q hm
     ·cases hj with
      | head =>
        obtain ⟨v,hv,hiv⟩:=hT i a ha
        exact ⟨v,hv,chkAV_ok hs p a l1 v h1 g1 hiv⟩
      | tail _ hm => exact r2 j b hm
    ·cases h
   ·cases h
noncomputable def chkTT (N : Nat) (ren : List (Nat×Nat)) : Trie AV→Trie AV→Option zp
 | .leaf,_ => some []
 | .node none l r,.leaf => addP (chkTT N ren l .leaf) (chkTT N ren r .leaf)
 | .node (some _) _ _,.leaf => none
 | .node none l r,.node _ l' r' => addP (chkTT N ren l l') (chkTT N ren r r')
 | .node (some p) l r,.node (some a) l' r' => addP (chkAV N ren p a) (addP (chkTT N ren l l') (chkTT N ren r r'))
 | .node (some _) _ _,.node none _ _ => none
theorem chkTT_ok {N : Nat} {ren : List (Nat×Nat)} {ρ ρ' : Rho} : ∀ (p a : Trie AV) (ps : zp),chkTT N ren p a = some ps→zp.hold ρ ρ' ps→∀ i b,p.get i = some b→∃ c qs,a.get i = some c∧chkAV N ren b c = some qs∧zp.hold ρ ρ' qs
 | .leaf,_,ps,h,hp,i,b,hb => by rw [Trie.get_leaf] at hb; cases hb
 | .node none l r,.leaf,ps,h,hp,i,b,hb => by
   simp only [chkTT] at h
   obtain ⟨l1,l2,h1,h2,rfl⟩:=addP_some h
   obtain ⟨g1,g2⟩:=zp.hold_append.1 hp
   rw [Trie.get_node] at hb
   split at hb
   ·cases hb
   ·split at hb
    ·obtain ⟨c,qs,hc,_⟩:=chkTT_ok r .leaf l2 h2 g2 _ b hb
     rw [Trie.get_leaf] at hc; cases hc
    ·obtain ⟨c,qs,hc,_⟩:=chkTT_ok l .leaf l1 h1 g1 _ b hb
     rw [Trie.get_leaf] at hc; cases hc
 | .node (some _) _ _,.leaf,ps,h,hp,i,b,hb => by simp [chkTT] at h
 | .node none l r,.node v l' r',ps,h,hp,i,b,hb => by
   simp only [chkTT] at h
   obtain ⟨l1,l2,h1,h2,rfl⟩:=addP_some h
   obtain ⟨g1,g2⟩:=zp.hold_append.1 hp
   rw [Trie.get_node] at hb
   rw [Trie.get_node]
   split at hb
   ·cases hb
   ·rename_i h0
    rw [if_neg h0]
    split at hb
    ·rename_i h3
     rw [if_pos h3]
     exact chkTT_ok r r' l2 h2 g2 _ b hb
    ·rename_i h3
     rw [if_neg h3]
     exact chkTT_ok l l' l1 h1 g1 _ b hb
 | .node (some p) l r,.node (some a) l' r',ps,h,hp,i,b,hb => by
   simp only [chkTT] at h
   obtain ⟨l0,l12,h0',h12,rfl⟩:=addP_some h
   obtain ⟨l1,l2,h1,h2,rfl⟩:=addP_some h12
   obtain ⟨g0,g12⟩:=zp.hold_append.1 hp
   obtain ⟨g1,g2⟩:=zp.hold_append.1 g12
   rw [Trie.get_node] at hb
   rw [Trie.get_node]
   split at hb
   ·rename_i h0
    cases hb
    rw [if_pos h0]
    exact ⟨a,l0,rfl,h0',g0⟩
   ·rename_i h0
    rw [if_neg h0]
    split at hb
    ·rename_i h3
     rw [if_pos h3]
     exact chkTT_ok r r' l2 h2 g2 _ b hb
    ·rename_i h3
     rw [if_neg h3]
     exact chkTT_ok l l' l1 h1 g1 _ b hb
 | .node (some _) _ _,.node none _ _,ps,h,hp,i,b,hb => by simp [chkTT] at h
noncomputable def chkBlk (N : Nat) (ren : List (Nat×Nat)) : ABlock→ABlock→Option zp
 | .loop p,.loop a => match andB (sameSrc p.src a.src) (andB (sameState p.state a.state) (andB (samePend p.pending a.pending) (Nat.beq p.size a.size))) with
   | true => match Zb N ren p.defers with
     | some j => match Nat.beq j a.defers with
       | true => chkTT N ren p.tmps a.tmps
       | false => none
     | none => none
   | false => none
 | .cells l t,.cells m u => match Nat.beq t u with
   | true => chkAVs N ren l m
   | false => none
 | .rows w sch b x own t,.rows w' sch' b' x' own' t' => match andB (Nat.beq w w') (andB (sameSch sch sch') (andB (sameBo own own') (Nat.beq t t'))) with
   | true => some (pairX N b b' ++ pairX N x x')
   | false => none
 | .smap kag ks vag vs x,.smap kag' ks' vag' vs' x' => match andB (sameBo kag kag') (andB (sameSch ks ks') (andB (sameBo vag vag') (sameSch vs vs'))) with
   | true => some (pairX N x x')
   | false => none
 | .smap _ _ _ _ x,.map [] _ => some (pairX N x .nil)
 | _,_ => none
theorem chkBlk_ok {P : Program} {N : Nat} {ren : List (Nat×Nat)} {σ σ' : Sig} (hs : SigIs N ren σ σ') {p a : ABlock} {l : zp} {κ : Nat} {o : Obj} (h : chkBlk N ren p a = some l) (hp : zp.hold σ.rho σ'.rho l) (hb : BRel P σ' κ a o) : BRel P σ κ p o:=by
 unfold chkBlk at h
 split at h
 ·rename_i pl al
  split at h
  ·rename_i hc
   obtain ⟨h1,hc⟩:=zb hc
   obtain ⟨h2,hc⟩:=zb hc
   obtain ⟨h3,h4⟩:=zb hc
   have h1:=sameSrc_ok h1
   have h2:=sameState_ok h2
   have h3:=samePend_ok h3
   have h4:=Nat.eq_of_beq_eq_true h4
   split at h
   ·rename_i j hj
    split at h
    ·rename_i hja
     obtain rfl:=Nat.eq_of_beq_eq_true hja
     obtain ⟨l',e,rfl⟩:=hb
     obtain ⟨x,hx,hd⟩:=e.defers
     refine ⟨l',⟨by rw [h2]; exact e.state,by rw [h3]; exact e.pending,fun i b hib => ?_,by rw [h4]; exact e.size,by rw [h1]; exact e.code,⟨x,by rw [← hx]; exact hs.blk _ _ hj,hd⟩⟩,rfl⟩
     obtain ⟨c,qs,q1,q2,q3⟩:=chkTT_ok pl.tmps al.tmps l h hp i b hib
     obtain ⟨v,hv,hiv⟩:=e.tmps i c q1
     exact ⟨v,hv,chkAV_ok hs b c qs v q2 q3 hiv⟩
    ·cases h
   ·cases h
  ·cases h
 ·split at h
  ·rename_i ht
   obtain rfl:=Nat.eq_of_beq_eq_true ht
   obtain ⟨vs,rest,fr,hi,ho,hk⟩:=hb
   exact ⟨vs,rest,fr,instL_iff.1 (chkAVs_ok hs _ _ l vs h hp (instL_iff.2 hi)),ho,hk⟩
  ·cases h
 ·split at h
  ·rename_i hc
   cases h
   obtain ⟨h1,h2⟩:=zb hc
   obtain ⟨h2,h3⟩:=zb h2
   obtain ⟨h3,h4⟩:=zb h3
   obtain rfl:=Nat.eq_of_beq_eq_true h1
   obtain rfl:=yR h2
   obtain rfl:=sameBo_ok h3
   obtain rfl:=Nat.eq_of_beq_eq_true h4
   obtain ⟨g1,g2⟩:=zp.hold_append.1 hp
   obtain ⟨rows,pre,rest,fr,t₀,e1,e2,e3,e4,e5,e6,e7⟩:=hb
   exact ⟨rows,pre,rest,fr,t₀,(pairX_ok hs.rho g2).trans e1,(yD (pairX_ok hs.rho g1)).trans e2,e3,e4,e5,e6,e7⟩
  ·cases h
 ·split at h
  ·rename_i hc
   cases h
   obtain ⟨h1,h2⟩:=zb hc
   obtain ⟨h2,h3⟩:=zb h2
   obtain ⟨h3,h4⟩:=zb h3
   obtain rfl:=sameBo_ok h1
   obtain rfl:=yR h2
   obtain rfl:=sameBo_ok h3
   obtain rfl:=yR h4
   obtain ⟨es,c,rows,e1,e2,e3⟩:=hb
   exact ⟨es,c,rows,(pairX_ok hs.rho hp).trans e1,e2,e3⟩
  ·cases h
 ·cases h
  obtain ⟨es',hi,ho⟩:=hb
  cases hi
  exact ⟨[],_,[],(pairX_ok hs.rho hp).trans rfl,ho,trivial,Go.MapKept.stamped_empty _⟩
 ·cases h
noncomputable def chkH (N M : Nat) (ren : List (Nat×Nat)) (H : Trie ABlock) : List (Nat×ABlock)→Option zp
 | [] => some []
 | (i,p) :: l => match andB (Nat.ble N i) (andB (Nat.blt i M) (Nat.blt i zM)) with
   | true => match Zb N ren i with
     | some j => match Nat.ble N j with
       | true => match H.get j with
         | some a => addP (chkBlk N ren p a) (chkH N M ren H l)
         | none => none
       | false => none
     | none => none
   | false => none
theorem chkH_ok {P : Program} {N M : Nat} {ren : List (Nat×Nat)} {σ σ' : Sig} (hs : SigIs N ren σ σ') {H : Trie ABlock} : ∀ {l : List (Nat×ABlock)} {ps : zp},chkH N M ren H l = some ps→zp.hold σ.rho σ'.rho ps →
  ∀ i p,(i,p) ∈ l→N≤i∧i < M∧i < zM∧∃ j a,Zb N ren i = some j∧N≤j∧H.get j = some a∧∀ κ o,BRel P σ' κ a o→BRel P σ κ p o
 | [],ps,h,hp,i,p,hi => by cases hi
 | (i,p) :: l,ps,h,hp,i',p',hi => by
   simp only [chkH] at h
   split at h
   ·rename_i hc
    obtain ⟨c1,c2⟩:=zb hc
    obtain ⟨c2,c3⟩:=zb c2
    split at h
    ·rename_i j hj
     split at h
     ·rename_i hNj
      split at h
      ·rename_i a ha
       obtain ⟨l1,l2,h1,h2,rfl⟩:=addP_some h
       obtain ⟨g1,g2⟩:=zp.hold_append.1 hp
       cases hi with
       | head => exact ⟨Nat.le_of_ble_eq_true c1,zo c2,zo c3,j,a,hj,Nat.le_of_ble_eq_true hNj,ha,fun κ o hb => chkBlk_ok hs h1 g1 hb⟩
       | tail _ hm => exact chkH_ok hs h2 g2 i' p' hm
      ·cases h
     ·cases h
    ·cases h
   ·cases h
def distinct : List (Nat×Nat)→Bool
 | [] => true
 | (i,j) :: l => andB (l.all fun p => andB (!(Nat.beq p.1 i)) (!(Nat.beq p.2 j))) (distinct l)
theorem go_mem {i : Nat} : ∀ {l : List (Nat×Nat)} {j : Nat},Zb.go i l = some j→(i,j) ∈ l
 | [],j,h => by cases h
 | (a,b) :: l,j,h => by
   simp only [Zb.go] at h
   split at h
   ·rename_i e
    cases h
    rw [Nat.eq_of_beq_eq_true e]
    exact List.mem_cons_self
   ·exact List.mem_cons_of_mem _ (go_mem h)
theorem distinct_inj : ∀ {l : List (Nat×Nat)},distinct l = true→∀ {i i' j : Nat},(i,j) ∈ l→(i',j) ∈ l→i = i'
 | [],_,i,i',j,h,_ => by cases h
 | (a,b) :: l,hd,i,i',j,h,h' => by
   simp only [distinct] at hd
   obtain ⟨h1,h2⟩:=zb hd
   rw [List.all_eq_true] at h1
   have ne : ∀ x y,(x,y) ∈ l→y≠b:=fun x y hm => by
    obtain ⟨_,q⟩:=zb (h1 _ hm)
    intro e
    subst e
    simp at q
   cases h with
   | head => cases h' with
     | head => rfl
     | tail _ hm => exact absurd rfl (ne _ _ hm)
   | tail _ hm => cases h' with
     | head => exact absurd rfl (ne _ _ hm)
     | tail _ hm' => exact distinct_inj h2 hm hm'
open Go
structure Pat where
 slots : List (Nat×AV)
 heap : List (Nat×ABlock)
 guard : X:=.boo true
noncomputable def isDefs (N : Nat) : List ADef→List Nat→Bool
 | [],[] => true
 | d :: ds,j :: js => match d.target with
   | .collected i => match d.args with
     | [] => andB (Nat.beq i j) (andB (Nat.blt j N) (isDefs N ds js))
     | _ :: _ => false
   | .code .. => false
 | _,_ => false
def defsOf (js : List Nat) : List ADef:=js.map fun j => { target:=.collected j,args:=[] }
theorem isDefs_ok {N : Nat} {σ τ : Sig} (hs : ∀ i,i < N→τ i = σ i) : ∀ {ds : List ADef} {js : List Nat} {out : List Deferred},isDefs N ds js = true→instD σ ds = some out→instD τ (defsOf js) = some out
 | [],[],out,_,e => e
 | [],_ :: _,out,h,_ => by simp [isDefs] at h
 | _ :: _,[],out,h,_ => by simp [isDefs] at h
 | ⟨tg,args⟩ :: ds,j :: js,out,h,e => by
   cases tg with
   | code f c => simp [isDefs] at h
   | collected i =>
     cases args with
     | cons a l => simp [isDefs] at h
     | nil =>
       simp only [isDefs] at h
       obtain ⟨h1,h⟩:=zb h
       obtain ⟨h2,h3⟩:=zb h
       obtain rfl:=Nat.eq_of_beq_eq_true h1
       have e2:=zo h2
       have ih : ∀ {o : List Deferred},instD σ ds = some o→instD τ (js.map fun j => ({ target:=.collected j,args:=[] } : ADef)) = some o:=fun h4 => isDefs_ok hs h3 h4
       simp only [defsOf,List.map_cons,instD,ADef.inst,ATarget.inst,hs _ e2] at e ⊢
       cases hσ : σ i with
       | none => rw [hσ] at e; simp at e
       | some x =>
         rw [hσ] at e
         simp only [instL] at e ⊢
         cases hd : instD σ ds with
         | none => rw [hd] at e; simp at e
         | some o => rw [hd] at e; rw [ih hd]; exact e
structure LoopD where
 N : Nat
 M : Nat
 size : Nat
 reads : List (Nat×ABlock)
 pats : List Pat
 exits : List (AX×Pat)
 own : List Nat:=[]
 pre : List (X×Bool):=[]
 dfs : List Nat:=[]
inductive Tgt where
 | again (j : Nat) (ren : List (Nat×Nat))
 | leave (k : Nat) (ren : List (Nat×Nat))
noncomputable def LoopD.frame (D : LoopD) (p : Pat) : AF:={ T:=buildT p.slots,size:=D.size,defers:=defsOf D.dfs }
noncomputable def LoopD.state (D : LoopD) (p : Pat) : ASt:={ heap:=yf (p.heap ++ D.reads),next:=D.M,limit:=yi D.N D.own }
noncomputable def LoopD.out (D : LoopD) (S : ASt) (x : AX×Pat) : Out:=(x.1,{ T:=buildT x.2.slots,size:=D.size,defers:=defsOf D.dfs },{ heap:=addAll (without S.heap D.own) x.2.heap,next:=D.M,limit:=S.limit })
noncomputable def axPairs (N : Nat) (ren : List (Nat×Nat)) : AX→AX→Option zp
 | .exit a,.exit b => match Nat.beq a b with
   | true => some []
   | false => none
 | .ret,.ret => some []
 | .panic a,.panic b => chkAV N ren a b
 | _,_ => none
theorem axPairs_ok {N : Nat} {ren : List (Nat×Nat)} {σ σ' : Sig} (hs : SigIs N ren σ σ') {x' x : AX} {l : zp} (h : axPairs N ren x' x = some l) : x≠.normal∧(zp.hold σ.rho σ'.rho l→∀ e,XRel σ' x e→XRel σ x' e):=by
 cases x' <;> cases x <;> simp only [axPairs] at h <;> first
  | (cases h; done)
  | exact ⟨(by intro e; cases e),fun _ e hx => hx⟩
  | (split at h
     ·rename_i hb
      rw [Nat.eq_of_beq_eq_true hb]
      exact ⟨(by intro e; cases e),fun _ e hx => hx⟩
     ·cases h)
  | (refine ⟨(by intro e; cases e),fun hp e hx => ?_⟩
     obtain ⟨u,hu,he⟩:=hx
     exact ⟨u,chkAV_ok hs _ _ _ _ h hp hu,he⟩)
def renOk (M : Nat) (ren : List (Nat×Nat)) : Bool:=andB (distinct ren) (ren.all fun p => Nat.blt p.1 M)
noncomputable def chkHo (N M : Nat) (own : List Nat) (ren : List (Nat×Nat)) (H : Trie ABlock) : List (Nat×ABlock)→Option zp
 | [] => some []
 | (i,p) :: l => match andB (yi N own i) (andB (Nat.blt i M) (Nat.blt i zM)) with
   | true => match Zb N ren i with
     | some j => match sameBo (Nat.ble N i) (Nat.ble N j) with
       | true => match H.get j with
         | some a => addP (chkBlk N ren p a) (chkHo N M own ren H l)
         | none => none
       | false => none
     | none => none
   | false => none
theorem chkHo_ok {P : Program} {N M : Nat} {own : List Nat} {ren : List (Nat×Nat)} {σ σ' : Sig} (hs : SigIs N ren σ σ') {H : Trie ABlock} : ∀ {l : List (Nat×ABlock)} {ps : zp},chkHo N M own ren H l = some ps→zp.hold σ.rho σ'.rho ps →
  ∀ i p,(i,p) ∈ l→yi N own i = true∧i < M∧i < zM∧∃ j a,Zb N ren i = some j∧(N≤i↔N≤j)∧H.get j = some a∧∀ κ o,BRel P σ' κ a o→BRel P σ κ p o
 | [],ps,h,hp,i,p,hi => by cases hi
 | (i,p) :: l,ps,h,hp,i',p',hi => by
   simp only [chkHo] at h
   split at h
   ·rename_i hc
    obtain ⟨c1,c2⟩:=zb hc
    obtain ⟨c2,c3⟩:=zb c2
    split at h
    ·rename_i j hj
     split at h
     ·rename_i hNj
      have hNj':=sameBo_ok hNj
      split at h
      ·rename_i a ha
       obtain ⟨l1,l2,h1,h2,rfl⟩:=addP_some h
       obtain ⟨g1,g2⟩:=zp.hold_append.1 hp
       cases hi with
       | head => exact ⟨c1,zo c2,zo c3,j,a,hj,⟨fun h => Nat.le_of_ble_eq_true (hNj' ▸ Nat.ble_eq_true_of_le h),fun h => Nat.le_of_ble_eq_true (hNj'.symm ▸ Nat.ble_eq_true_of_le h)⟩,ha,fun κ o hb => chkBlk_ok hs h1 g1 hb⟩
       | tail _ hm => exact chkHo_ok hs h2 g2 i' p' hm
      ·cases h
     ·cases h
    ·cases h
   ·cases h
def yy (g : X) : zp:=match g with
 | .boo true => []
 | g => [(g,.boo true)]
theorem gpair_ok {ρ ρ' : Rho} {g : X} (h : zp.hold ρ ρ' (yy g)) : g.bool ρ = some true:=by
 unfold yy at h
 split at h
 ·rfl
 ·have:=h g (.boo true) (by simp)
  exact X.bool_iff.2 this
noncomputable def LoopD.fits (D : LoopD) (p : Pat) (ren : List (Nat×Nat)) (o : Out) : Option zp:=
 match isDefs D.N o.2.1.defers D.dfs with
 | true => match andB (renOk D.M ren) (Nat.beq o.2.1.size D.size) with
   | true => addP (chkT D.N ren o.2.1.T p.slots) (chkHo D.N D.M D.own ren o.2.2.heap p.heap)
   | false => none
 | false => none
noncomputable def LoopD.meets (D : LoopD) (o : Out) : Tgt→Option zp
 | .again j ren => match o.1 with
   | .normal => match D.pats[j]? with
     | some p => D.fits p ren o
     | none => none
   | _ => none
 | .leave k ren => match D.exits[k]? with
   | some x => match axPairs D.N ren x.1 o.1 with
     | some pa => addP (addP (D.fits x.2 ren o) (some (yy x.2.guard))) (some pa)
     | none => none
   | none => none
noncomputable def LoopD.all (D : LoopD) : List Out→List Tgt→Option (List (Tgt×zp))
 | [],[] => some []
 | o :: os,t :: ts => match D.meets o t with
   | some ps => match D.all os ts with
     | some l => some ((t,ps) :: l)
     | none => none
   | none => none
 | _,_ => none
theorem LoopD.all_mem {D : LoopD} : ∀ {os : List Out} {ts : List Tgt} {l : List (Tgt×zp)},D.all os ts = some l→∀ o ∈ os,∃ t ps,(t,ps) ∈ l∧D.meets o t = some ps
 | [],ts,l,h,o,ho => by cases ho
 | o :: os,[],l,h,o',ho => by cases h
 | o :: os,t :: ts,l,h,o',ho => by
   simp only [LoopD.all] at h
   split at h
   ·rename_i ps hps
    split at h
    ·rename_i l' hl
     cases h
     cases ho with
     | head => exact ⟨t,ps,List.mem_cons_self,hps⟩
     | tail _ hm =>
       obtain ⟨t',ps',h1,h2⟩:=LoopD.all_mem hl o' hm
       exact ⟨t',ps',List.mem_cons_of_mem _ h1,h2⟩
    ·cases h
   ·cases h
noncomputable def selfBlk (N : Nat) : List (Nat×ABlock)→Bool
 | [] => true
 | (i,b) :: l => andB (Nat.blt i N) (andB (match chkBlk N [] b b with | some [] => true | _ => false) (selfBlk N l))
noncomputable def ownIds (N : Nat) (own : List Nat) : List (Nat×ABlock)→Bool
 | [] => true
 | (i,_) :: l => match andB (Nat.blt i zM) (yi N own i) with
   | true => ownIds N own l
   | false => false
theorem ownIds_mem {n : Nat} {own : List Nat} : ∀ {l : List (Nat×ABlock)},ownIds n own l = true→∀ p ∈ l,yi n own p.1 = true∧p.1 < zM
 | [],_,p,hp => by cases hp
 | (i,b) :: l,h,p,hp => by
   simp only [ownIds] at h
   split at h
   ·rename_i hc
    obtain ⟨h1,h2⟩:=zb hc
    cases hp with
    | head => exact ⟨h2,zo h1⟩
    | tail _ hm => exact ownIds_mem h p hm
   ·cases h
noncomputable def LoopD.ok (D : LoopD) : Bool:=
 andB (Nat.ble D.N D.M) (andB (Nat.blt D.M zM) (andB (selfBlk D.N D.reads) (andB (D.pats.all fun p => ownIds D.N D.own p.heap) (andB (D.exits.all fun x => ownIds D.N D.own x.2.heap)
  (andB (D.own.all fun i => Nat.blt i D.N) (D.reads.all fun p => !(memN p.1 D.own)))))))
structure LoopD.OkP (D : LoopD) : Prop where
 NM : D.N≤D.M
 max : D.M < zM
 self : ∀ i b,(i,b) ∈ D.reads→i < D.N∧chkBlk D.N [] b b = some []
 pats : ∀ p ∈ D.pats,∀ q ∈ p.heap,yi D.N D.own q.1 = true∧q.1 < zM
 exits : ∀ x ∈ D.exits,∀ q ∈ x.2.heap,yi D.N D.own q.1 = true∧q.1 < zM
 own : ∀ i ∈ D.own,i < D.N
 reads : ∀ i b,(i,b) ∈ D.reads→i ∉ D.own
theorem fromIds_mem {n : Nat} : ∀ {l : List (Nat×ABlock)},fromIds n l = true→∀ p ∈ l,n≤p.1∧p.1 < zM
 | [],_,p,hp => by cases hp
 | (i,b) :: l,h,p,hp => by
   simp only [fromIds] at h
   split at h
   ·rename_i hc
    simp only [Bool.and_eq_true] at hc
    cases hp with
    | head => exact ⟨Nat.le_of_ble_eq_true hc.2,zo hc.1⟩
    | tail _ hm => exact fromIds_mem h p hm
   ·cases h
theorem selfBlk_ok {N : Nat} : ∀ {l : List (Nat×ABlock)},selfBlk N l = true→∀ i b,(i,b) ∈ l→i < N∧chkBlk N [] b b = some []
 | [],_,i,b,h => by cases h
 | (j,c) :: l,hl,i,b,h => by
   simp only [selfBlk] at hl
   obtain ⟨h1,h2⟩:=zb hl
   obtain ⟨h2,h3⟩:=zb h2
   cases h with
   | head =>
     refine ⟨zo h1,?_⟩
     split at h2
     ·assumption
     ·cases h2
   | tail _ hm => exact selfBlk_ok h3 i b hm
theorem LoopD.ok_iff {D : LoopD} (h : D.ok = true) : D.OkP:=by
 obtain ⟨d1,d2⟩:=zb h
 obtain ⟨d2,d3⟩:=zb d2
 obtain ⟨d3,d4⟩:=zb d3
 obtain ⟨d4,d5⟩:=zb d4
 obtain ⟨d5,d6⟩:=zb d5
 obtain ⟨d6,d7⟩:=zb d6
 rw [List.all_eq_true] at d4 d5 d6 d7
 refine ⟨Nat.le_of_ble_eq_true d1,zo d2,selfBlk_ok d3,fun p hp => ownIds_mem (d4 p hp),fun p hp => ownIds_mem (d5 p hp),fun i hi => zo (d6 i hi),fun i b hm hi => ?_⟩
 ·have:=d7 (i,b) hm
  rw [memN_iff.2 hi] at this
  cases this
theorem buildH_app : ∀ {l m : List (Nat×ABlock)},(∀ p ∈ l,p.1 < zM)→∀ {i : Nat} {b : ABlock},(yf (l ++ m)).get i = some b→(i,b) ∈ l∨((∀ c,(i,c) ∉ l)∧(yf m).get i = some b)
 | [],m,_,i,b,h => .inr ⟨(fun c hc => by cases hc),h⟩
 | (j,c) :: l,m,hl,i,b,h => by
   have hj:=hl (j,c) (by simp)
   have e : (yf ((j,c) :: l ++ m)).get i = if i = j then some c else (yf (l ++ m)).get i:=Trie.get_put _ _ _ _ (by simpa [zM] using hj)
   rw [e] at h
   split at h
   ·rename_i e1
    cases h
    rw [e1]
    exact .inl List.mem_cons_self
   ·rename_i e1
    rcases buildH_app (fun p hp => hl p (List.mem_cons_of_mem _ hp)) h with h' | ⟨h1,h2⟩
    ·exact .inl (List.mem_cons_of_mem _ h')
    ·refine .inr ⟨fun c' hc' => ?_,h2⟩
     cases hc' with
     | head => exact e1 rfl
     | tail _ hm => exact h1 c' hm
theorem buildH_miss : ∀ {l m : List (Nat×ABlock)},(∀ p ∈ l,p.1 < zM)→∀ {i : Nat},(∀ c,(i,c) ∉ l)→(yf (l ++ m)).get i = (yf m).get i
 | [],m,_,i,_ => rfl
 | (j,c) :: l,m,hl,i,h => by
   have hj:=hl (j,c) (by simp)
   have e : (yf ((j,c) :: l ++ m)).get i = if i = j then some c else (yf (l ++ m)).get i:=Trie.get_put _ _ _ _ (by simpa [zM] using hj)
   rw [e,if_neg (fun e1 => h c (by rw [e1]; exact List.mem_cons_self))]
   exact buildH_miss (fun p hp => hl p (List.mem_cons_of_mem _ hp)) fun c' hc' => h c' (List.mem_cons_of_mem _ hc')
theorem addAll_app {H : Trie ABlock} : ∀ {l : List (Nat×ABlock)},(∀ p ∈ l,p.1 < zM)→∀ {i : Nat} {b : ABlock},(addAll H l).get i = some b→(i,b) ∈ l∨((∀ c,(i,c) ∉ l)∧H.get i = some b)
 | [],_,i,b,h => .inr ⟨(fun c hc => by cases hc),h⟩
 | (j,c) :: l,hl,i,b,h => by
   have hj:=hl (j,c) (by simp)
   have e : (addAll H ((j,c) :: l)).get i = if i = j then some c else (addAll H l).get i:=Trie.get_put _ _ _ _ (by simpa [zM] using hj)
   rw [e] at h
   split at h
   ·rename_i e1
    cases h
    rw [e1]
    exact .inl List.mem_cons_self
   ·rename_i e1
    rcases addAll_app (fun p hp => hl p (List.mem_cons_of_mem _ hp)) h with h' | ⟨h1,h2⟩
    ·exact .inl (List.mem_cons_of_mem _ h')
    ·refine .inr ⟨fun c' hc' => ?_,h2⟩
     cases hc' with
     | head => exact e1 rfl
     | tail _ hm => exact h1 c' hm
theorem addAll_miss {H : Trie ABlock} : ∀ {l : List (Nat×ABlock)},(∀ p ∈ l,p.1 < zM)→∀ {i : Nat},(∀ c,(i,c) ∉ l)→(addAll H l).get i = H.get i
 | [],_,i,_ => rfl
 | (j,c) :: l,hl,i,h => by
   have hj:=hl (j,c) (by simp)
   have e : (addAll H ((j,c) :: l)).get i = if i = j then some c else (addAll H l).get i:=Trie.get_put _ _ _ _ (by simpa [zM] using hj)
   rw [e,if_neg (fun e1 => h c (by rw [e1]; exact List.mem_cons_self))]
   exact addAll_miss (fun p hp => hl p (List.mem_cons_of_mem _ hp)) fun c' hc' => h c' (List.mem_cons_of_mem _ hc')
def Env.with (E : Env) (F : List (X×Bool)) (r : Rho) : Env:={ E with facts:=F,rho:=some r }
theorem Env.with_ok {E : Env} (h : E.Ok) (F : List (X×Bool)) (r : Rho) : (E.with F r).Ok:=⟨h.und,h.inf,h.fn,h.name,h.mixed⟩
def sigOf (N : Nat) (ren : List (Nat×Nat)) (σ : Sig) (r : Rho) : Sig:=⟨fun i => (Zb N ren i).bind fun j => σ j,r⟩
theorem sigOf_is {N : Nat} {ren : List (Nat×Nat)} {σ : Sig} {r : Rho} (h : Rho.agree N r σ.rho) : SigIs N ren (sigOf N ren σ r) σ:=⟨fun i j e => by simp [sigOf,e],h⟩
theorem sigOf_is0 {N : Nat} {ren : List (Nat×Nat)} {σ : Sig} {r : Rho} (h : Rho.agree N r σ.rho) : SigIs N [] (sigOf N ren σ r) σ:=by
 refine ⟨fun i j e => ?_,h⟩
 unfold Zb at e
 split at e
 ·rename_i hi
  cases e
  simp [sigOf,Zb,hi]
 ·cases e
theorem blt_of_lt {a b : Nat} (h : a < b) : Nat.blt a b = true:=Nat.ble_eq_true_of_le h
theorem renId_low {N : Nat} {ren : List (Nat×Nat)} {i : Nat} (h : i < N) : Zb N ren i = some i:=by
 unfold Zb
 rw [blt_of_lt h]
theorem renId_high {N : Nat} {ren : List (Nat×Nat)} {i j : Nat} (h : N≤i) (e : Zb N ren i = some j) : (i,j) ∈ ren:=by
 unfold Zb at e
 split at e
 ·rename_i hb
  have:=zo hb
  omega
 ·exact go_mem e
theorem fromN_high {N i : Nat} (h : N≤i) : yi N [] i = true:=yh.2 (.inl h)
theorem fromN_low {N i : Nat} (h : i < N) : yi N [] i = false:=by
 cases hb : yi N [] i with
 | false => rfl
 | true =>
   rcases yh.1 hb with e | e
   ·omega
   ·cases e
section
variable {E : Env} {D : LoopD}
theorem mem_reads {D : LoopD} (h : D.OkP) {i : Nat} {b : ABlock} (hb : (yf D.reads).get i = some b) : (i,b) ∈ D.reads:=by
 refine buildH_get ?_ hb
 have hrd : ∀ q ∈ D.reads,q.1 < zM:=fun q hq => by
  have:=(h.self q.1 q.2 hq).1
  have:=h.NM
  have:=h.max
  omega
 clear hb
 generalize D.reads = l at hrd
 induction l with
 | nil => rfl
 | cons q l ih =>
   obtain ⟨j,c⟩:=q
   simp only [lowIds]
   rw [blt_of_lt (hrd (j,c) (by simp))]
   exact ih fun q hq => hrd q (List.mem_cons_of_mem _ hq)
theorem fits_state {P : Program} {p : Pat} {ren : List (Nat×Nat)} {o : Out} {ps : zp} (hD : D.OkP) (h : D.fits p ren o = some ps) {σ' : Sig} {w' : World} {a' : Act} {Wr : Nat→Prop} {r : Rho} (hr : Rho.agree D.N r σ'.rho)
  (hp : zp.hold r σ'.rho ps) (hf : FRel σ' o.2.1 a') (hS : o.2.2.rel P σ' w' Wr) (hlim : ∀ i,yi D.N D.own i = true→o.2.2.limit i = true)
  (hlow : ∀ i b,(yf D.reads).get i = some b→o.2.2.heap.get i = some b) :
  FRel (sigOf D.N ren σ' r) (D.frame p) a'∧(D.state p).rel P (sigOf D.N ren σ' r) w' Wr ∧
   (∀ i p',(i,p') ∈ p.heap→yi D.N D.own i = true∧i < D.M∧i < zM∧∃ j a,Zb D.N ren i = some j∧(D.N≤i↔D.N≤j)∧o.2.2.heap.get j = some a∧∀ κ ob,BRel P σ' κ a ob→BRel P (sigOf D.N ren σ' r) κ p' ob) ∧
   instD (sigOf D.N ren σ' r) (defsOf D.dfs) = some a'.defers∧renOk D.M ren = true:=by
 unfold LoopD.fits at h
 split at h
 ·rename_i hd
  split at h
  ·rename_i hren0
   obtain ⟨hren,hsz0⟩:=zb hren0
   have hsz : o.2.1.size = D.size:=Nat.eq_of_beq_eq_true hsz0
   obtain ⟨l1,l2,h1,h2,rfl⟩:=addP_some h
   obtain ⟨g1,g2⟩:=zp.hold_append.1 hp
   have hs : SigIs D.N ren (sigOf D.N ren σ' r) σ':=sigOf_is hr
   have hs0 : SigIs D.N [] (sigOf D.N ren σ' r) σ':=sigOf_is0 hr
   obtain ⟨hT1,hT2⟩:=chkT_ok hs hf.tmps h1 g1
   have hH:=chkHo_ok (P:=P) hs h2 g2
   have hNM:=hD.NM
   obtain ⟨r1,r2⟩:=zb hren
   have hkeys : ∀ i j,(i,j) ∈ ren→i < D.M:=fun i j hm => by
    rw [List.all_eq_true] at r2
    exact zo (r2 (i,j) hm)
   have hdef : instD (sigOf D.N ren σ' r) (defsOf D.dfs) = some a'.defers:=isDefs_ok (fun i hi => by
    show (Zb D.N ren i).bind (fun j => σ' j) = σ' i
    rw [renId_low hi]; rfl) hd hf.defers
   have hph : ∀ q ∈ p.heap,q.1 < zM:=fun q hq => (hH q.1 q.2 hq).2.2.1
   -- the counterpart of a block
   have part : ∀ i b,(yf (p.heap ++ D.reads)).get i = some b→∃ j c,Zb D.N ren i = some j∧o.2.2.heap.get j = some c∧(∀ κ ob,BRel P σ' κ c ob→BRel P (sigOf D.N ren σ' r) κ b ob)∧(D.N≤i↔D.N≤j)∧(i < D.N→j = i)∧i < D.M:=fun i b hb => by
    rcases buildH_app hph hb with hm | ⟨_,hb⟩
    ·obtain ⟨c1,c2,c3,j,c,e1,e2,e3,e4⟩:=hH i b hm
     exact ⟨j,c,e1,e3,e4,e2,fun hi => by rw [renId_low hi] at e1; exact (Option.some.inj e1).symm,c2⟩
    ·have hm:=mem_reads hD hb
     have hi:=(hD.self i b hm).1
     exact ⟨i,b,renId_low hi,hlow i b hb,fun κ ob hbr => chkBlk_ok hs0 (hD.self i b hm).2 (fun _ _ hx => by cases hx) hbr,Iff.rfl,fun _ => rfl,by omega⟩
   have sig_of : ∀ i j x,Zb D.N ren i = some j→(sigOf D.N ren σ' r) i = some x→σ' j = some x:=fun i j x e h => by
    simpa [sigOf,e] using h
   refine ⟨⟨fun i v hi => ?_,by rw [hf.size]; exact hsz,?_⟩,⟨?_,?_,?_,hS.wrNew,?_,?_⟩,hH,hdef,hren⟩
   ·have hm:=buildT_get hT1 hi
    exact hT2 i v hm
   ·exact hdef
   ·intro i b hb
    obtain ⟨j,c,e1,e2,e3,e4,_⟩:=part i b hb
    obtain ⟨bb,κ,ob,f1,f2,f3⟩:=hS.at_ j c e2
    exact ⟨bb,κ,ob,by simp [sigOf,e1,f1],f2,e3 κ ob f3⟩
   ·intro i i' bi bj x y hi hj hx hy hxy
    obtain ⟨j,c,e1,e2,e3,e4,e5,_⟩:=part i bi hi
    obtain ⟨j',c',e1',e2',e3',e4',e5',_⟩:=part i' bj hj
    have hor:=hS.inj j j' c c' x y e2 e2' (sig_of i j x e1 hx) (sig_of i' j' y e1' hy) hxy
    rcases hor with hjj | hq
    rotate_left
    ·refine .inr ⟨?_,?_⟩
     ·cases hc9 : yi D.N D.own i with
      | false => exact hc9
      | true =>
        have:=hlim j (by
         rcases Nat.lt_or_ge i D.N with hi | hi
         ·rw [e5 hi]; exact hc9
         ·exact yh.2 (.inl (e4.1 hi)))
        rw [hq.1] at this; cases this
     ·cases hc9 : yi D.N D.own i' with
      | false => exact hc9
      | true =>
        have:=hlim j' (by
         rcases Nat.lt_or_ge i' D.N with hi | hi
         ·rw [e5' hi]; exact hc9
         ·exact yh.2 (.inl (e4'.1 hi)))
        rw [hq.2] at this; cases this
    refine .inl ?_
    rcases Nat.lt_or_ge i D.N with hi' | hi' <;> rcases Nat.lt_or_ge i' D.N with hj' | hj'
    ·rw [← e5 hi',← e5' hj',hjj]
    ·have:=e4'.1 hj'
     have:=e5 hi'
     omega
    ·have:=e4.1 hi'
     have:=e5' hj'
     omega
    ·have m1:=renId_high hi' e1
     have m2:=renId_high hj' e1'
     rw [← hjj] at m2
     exact distinct_inj r1 m1 m2
   ·intro i b x hb hl hx
    obtain ⟨j,c,e1,e2,e3,e4,e5,_⟩:=part i b hb
    refine hS.wr j c x e2 (hlim j ?_) (sig_of i j x e1 hx)
    rcases Nat.lt_or_ge i D.N with hi | hi
    ·rw [e5 hi]; exact hl
    ·exact yh.2 (.inl (e4.1 hi))
   ·intro i hi
    have hi : D.M≤i:=hi
    constructor
    ·show (Zb D.N ren i).bind (fun j => σ' j) = none
     cases hr' : Zb D.N ren i with
     | none => rfl
     | some j =>
       have:=hkeys i j (renId_high (by omega) hr')
       omega
    ·show (yf (p.heap ++ D.reads)).get i = none
     cases hg : (yf (p.heap ++ D.reads)).get i with
     | none => rfl
     | some b =>
       obtain ⟨_,_,_,_,_,_,_,h7⟩:=part i b hg
       omega
   ·intro i hi
    have hi : D.M≤i:=hi
    exact yh.2 (.inl (by omega))
  ·cases h
 ·cases h
end
open Go
noncomputable def LoopD.step (D : LoopD) (run : AF→ASt→Option (List Out)) (j : Nat) (ts : List Tgt) : Option (List (Tgt×zp)):=
 match D.pats[j]? with
 | some p => match run (D.frame p) (D.state p) with
   | some outs => D.all outs ts
   | none => none
 | none => none
def yw (D : LoopD) (ρ : Rho) (Inv : Nat→List Value→Prop) (μ : Nat→List Value→Nat) (j : Nat) (vals : List Value) : Tgt×zp→Prop
 | (.again j' _,ps) => ∃ vals',zp.hold (ρ.ext D.N vals') (ρ.ext D.N vals) ps∧Inv j' vals'∧μ j' vals' < μ j vals
 | (.leave _ _,ps) => zp.hold ρ (ρ.ext D.N vals) ps
def yn (D : LoopD) (run : Env→AF→ASt→Option (List Out)) (E₀ : Env) (ρ : Rho) (Inv : Nat→List Value→Prop) (μ : Nat→List Value→Nat) (j : Nat) (vals : List Value) : Prop:=
 ∃ F ts l,D.step (run (E₀.with F (ρ.ext D.N vals))) j ts = some l∧(∀ x b,(x,b) ∈ F→x.bool (ρ.ext D.N vals) = some b)∧∀ q ∈ l,yw D ρ Inv μ j vals q
section
variable {E₀ : Env} {D : LoopD} {run : Env→AF→ASt→Option (List Out)} {body : Code} {ρ : Rho} {Inv : Nat→List Value→Prop} {μ : Nat→List Value→Nat}
def WrL (D : LoopD) (σ : Sig) (w : World) (b : Nat) : Prop:=w.heap.size≤b∨∃ i κ,i ∈ D.own∧σ i = some (b,κ)
theorem loop_rounds (hE : E₀.Ok) (hD : D.OkP) {ro : Option Nat} (hrun : ∀ F vals,CodeOk (E₀.with F (ρ.ext D.N vals)) ro body (run (E₀.with F (ρ.ext D.N vals)))) (hstep : ∀ j vals,Inv j vals→yn D run E₀ ρ Inv μ j vals)
  {Fe : List (X×Bool)} {S : ASt} {σ : Sig} {w : World} {Wr : Nat→Prop} {n : Nat} (hρ : σ.rho = ρ) (hA : (E₀.with Fe ρ).At σ) (hS : S.rel E₀.P σ w Wr) (hN : S.next≤D.N) (hown : ∀ i ∈ D.own,S.limit i = true∧∃ blk,S.heap.get i = some blk)
  {Q : Exit→Act→World→Prop} (hq : ∀ e a' w',(∃ x,x ∈ D.exits∧x.2.guard.bool ρ = some true∧CodeQ (E₀.with Fe ρ) σ S w Wr (D.out S x).1 (D.out S x).2.1 (D.out S x).2.2 e a' w')→Q e a' w') :
  ∀ m j vals p σj wj aj,μ j vals < m→Inv j vals→D.pats[j]? = some p→FRel σj (D.frame p) aj→(D.state p).rel E₀.P σj wj (WrL D σ w)→σj.rho = ρ.ext D.N vals→(∀ id,id < D.N→σj id = σ id) →
    Kept (WrL D σ w) w wj→Code.roundsIn (fence ro) n E₀.P body Q m aj wj
 | 0,j,vals,p,σj,wj,aj,hm,hI,hp,hf,hSj,hr,hσ,hk => by omega
 | m + 1,j,vals,p,σj,wj,aj,hm,hI,hp,hf,hSj,hr,hσ,hk => by
   rw [roundsIn_succ]
   obtain ⟨F,ts,l,h1,hF,hts⟩:=hstep j vals hI
   unfold LoopD.step at h1
   rw [hp] at h1
   simp only at h1
   split at h1
   ·rename_i outs hev
    have hAj : (E₀.with F (ρ.ext D.N vals)).At σj:=by
     refine ⟨fun g id e => ?_,fun x b hx => by rw [hr]; exact hF x b hx,fun r e => by
      have : ρ.ext D.N vals = r:=Option.some.inj e
      rw [hr,this]⟩
     obtain ⟨κ,hκ⟩:=hA g id e
     have hlt : id < S.next:=by
      rcases Nat.lt_or_ge id S.next with h | h
      ·exact h
      ·rw [(hS.fresh id h).1] at hκ; cases hκ
     exact ⟨κ,by rw [hσ id (by omega)]; exact hκ⟩
    refine wpIn_mono (hrun F vals _ _ outs hev σj wj (WrL D σ w) aj n hAj hSj hf) ?_
    rintro e a' w' ⟨o,ho,hc⟩
    obtain ⟨t,ps,ht,hmt⟩:=LoopD.all_mem h1 o ho
    have htok:=hts _ ht
    obtain ⟨x,f',S'⟩:=o
    obtain ⟨σ',q1,q2,q3⟩:=hc
    have hrho : σ'.rho = ρ.ext D.N vals:=q3.upto.rho.trans hr
    have hNM : D.N≤D.M:=hD.NM
    have hlim : ∀ i,yi D.N D.own i = true→S'.limit i = true:=fun i hi => by
     have : S'.limit = yi D.N D.own:=q3.limit
     rw [this]; exact hi
    have hlow : ∀ i b,(yf D.reads).get i = some b→S'.heap.get i = some b:=fun i b hb => by
     have hm:=mem_reads hD hb
     have hno : yi D.N D.own i = false:=by
      cases hf : yi D.N D.own i with
      | false => rfl
      | true =>
        rcases yh.1 hf with e | e
        ·have:=(hD.self i b hm).1; omega
        ·exact absurd e (hD.reads i b hm)
     have hfr : S'.heap.get i = (D.state p).heap.get i:=q3.frame i hno
     rw [hfr]
     show (yf (p.heap ++ D.reads)).get i = some b
     have hps:=hD.pats p (List.mem_of_getElem? hp)
     rw [buildH_miss (fun q hq => (hps q hq).2) fun c hc => by rw [(hps _ hc).1] at hno; cases hno]
     exact hb
    have hk' : Kept (WrL D σ w) w w':=hk.trans q3.kept
    have hσ' : ∀ id,id < D.N→σ' id = σ id:=fun id hid => (q3.upto id (show id < D.M by omega)).trans (hσ id hid)
    cases t with
    | again j' ren =>
      unfold LoopD.meets at hmt
      simp only at hmt
      split at hmt
      ·split at hmt
       ·rename_i p' hp'
        obtain ⟨vals',g1,g2,g3⟩:=htok
        rename_i hx
        obtain rfl:=q1
        have hagree : Rho.agree D.N (ρ.ext D.N vals') σ'.rho:=by rw [hrho]; exact (ρ.ext_agree D.N vals').trans (ρ.ext_agree D.N vals).symm
        obtain ⟨r1,r2,r3,r4,r5⟩:=fits_state (P:=E₀.P) hD hmt hagree (by rw [hrho]; exact g1) q2 q3.rel hlim hlow
        exact loop_rounds hE hD hrun hstep hρ hA hS hN hown hq m j' vals' p' _ w' a' (by omega) g2 hp' r1 r2 rfl (fun id hid => by
         show (Zb D.N ren id).bind (fun j => σ' j) = σ id
         rw [renId_low hid]; exact hσ' id hid) hk'
       ·cases hmt
      ·cases hmt
    | leave k ren =>
      unfold LoopD.meets at hmt
      simp only at hmt
      split at hmt
      ·rename_i x' hx'
       split at hmt
       ·rename_i pa hpa
        ·obtain ⟨psa,psb,hmt2,hpb,rfl⟩:=addP_some hmt
         cases hpb
         obtain ⟨htok4,htok3⟩:=zp.hold_append.1 htok
         obtain ⟨ps1,ps2,hfit,hg0,rfl⟩:=addP_some hmt2
         cases hg0
         obtain ⟨htok1,htok2⟩:=zp.hold_append.1 htok4
         have hmem:=List.mem_of_getElem? hx'
         have hagree : Rho.agree D.N ρ σ'.rho:=by rw [hrho]; exact (ρ.ext_agree D.N vals).symm
         obtain ⟨hxn,hxr⟩:=axPairs_ok (sigOf_is (ren:=ren) hagree) hpa
         refine not_normal hxn q1 (hq e a' w' ⟨x',hmem,gpair_ok htok2,?_⟩)
         obtain ⟨r1,r2,r3,r4,r5⟩:=fits_state (P:=E₀.P) hD hfit hagree (by rw [hrho]; exact htok1) q2 q3.rel hlim hlow
         have hwo : ∀ i,(without S.heap D.own).get i = if i ∈ D.own then none else S.heap.get i:=fun i => without_get (fun k hk => by have:=hD.own k hk; have:=hD.NM; have:=hD.max; omega) i
         have hids : ∀ q ∈ x'.2.heap,q.1 < zM:=fun q hq => (hD.exits x' hmem q hq).2
         have hlt : ∀ id blk,S.heap.get id = some blk→id < S.next:=fun id blk h => by
          rcases Nat.lt_or_ge id S.next with h' | h'
          ·exact h'
          ·rw [(hS.fresh id h').2] at h; cases h
         have hget : ∀ {i : Nat} {b : ABlock},(addAll (without S.heap D.own) x'.2.heap).get i = some b→(i,b) ∈ x'.2.heap∨(i ∉ D.own∧S.heap.get i = some b):=fun {i b} h => by
          rcases addAll_app hids h with h | ⟨h1,h2⟩
          ·exact .inl h
          ·rw [hwo i] at h2
           by_cases ho : i ∈ D.own
           ·rw [if_pos ho] at h2; cases h2
           ·rw [if_neg ho] at h2; exact .inr ⟨ho,h2⟩
         have hsig0 : ∀ id,id < D.N→(sigOf D.N ren σ' ρ) id = σ id:=fun id hid => by
          show (Zb D.N ren id).bind (fun j => σ' j) = σ id
          rw [renId_low hid]; exact hσ' id hid
         have hle : σ.le (sigOf D.N ren σ' ρ):=⟨fun id y hy => by
          have : id < S.next:=by
           rcases Nat.lt_or_ge id S.next with h' | h'
           ·exact h'
           ·rw [(hS.fresh id h').1] at hy; cases hy
          rw [hsig0 id (by omega)]; exact hy,by rw [hρ]; rfl⟩
         have hwas : ∀ id blk y,id ∉ D.own→S.heap.get id = some blk→σ id = some y→¬ WrL D σ w y.1:=fun id blk y ho h1 h2 hw => by
          obtain ⟨b,κ,ob,h3,h4,_⟩:=hS.at_ id blk h1
          rw [h2] at h3; cases h3
          rcases hw with hw | ⟨i,κ',hi,hs⟩
          ·have:=(Array.getElem?_eq_some_iff.1 h4).1
           simp only at hw; omega
          ·obtain ⟨_,blk',hb'⟩:=hown i hi
           have:=hS.inj id i blk blk' _ _ h1 hb' h2 hs rfl
           exact this.elim (fun e => ho (e ▸ hi)) fun hq => by rw [(hown i hi).1] at hq; cases hq.2
         have hnew : ∀ id blk y,(id,blk) ∈ x'.2.heap→(sigOf D.N ren σ' ρ) id = some y→WrL D σ w y.1:=fun id blk y h1 h2 => by
          obtain ⟨c1,c2,c3,jj,cc,e1,e2,e3,e4⟩:=r3 id blk h1
          have h3 : σ' jj = some y:=by simpa [sigOf,e1] using h2
          refine q3.rel.wr jj cc y e3 (hlim jj ?_) h3
          rcases Nat.lt_or_ge id D.N with hi | hi
          ·rw [renId_low hi] at e1
           cases e1
           exact c1
          ·exact yh.2 (.inl (e2.1 hi))
         have hWr : ∀ b,WrL D σ w b→Wr b:=fun b hb => by
          rcases hb with hb | ⟨i,κ,hi,hs⟩
          ·exact hS.wrNew b hb
          ·obtain ⟨hl,blk,hblk⟩:=hown i hi
           exact hS.wr i blk _ hblk hl hs
         have hfrm : ∀ id,S.limit id = false→∀ c,(id,c) ∉ x'.2.heap:=fun id hid c hc => by
          rcases yh.1 (hD.exits x' hmem _ hc).1 with e | e
          ·have:=hS.low id (by simp only at e; omega)
           rw [hid] at this; cases this
          ·have:=(hown _ e).1
           simp only at this
           rw [hid] at this; cases this
         refine ⟨sigOf D.N ren σ' ρ,?_,⟨r1.tmps,r1.size,r1.defers⟩,⟨⟨?_,?_,?_,?_,?_,?_⟩,⟨fun id hid => hsig0 id (by omega),by rw [hρ]; rfl⟩,show S.next≤D.M by omega,rfl,⟨hk'.size,fun b hb => hk'.same b fun e => hb (hWr b e),hk'.out⟩,fun id hid => (addAll_miss hids (hfrm id hid)).trans (by rw [hwo id,if_neg fun ho => by rw [(hown id ho).1] at hid; cases hid])⟩⟩
         ·exact hxr (by rw [hrho]; exact htok3) e q1
         ·intro id blk hb
          rcases hget hb with h1 | ⟨h0,h1⟩
          ·obtain ⟨c1,c2,c3,jj,cc,e1,e2,e3,e4⟩:=r3 id blk h1
           obtain ⟨bb,κ,ob,f1,f2,f3⟩:=q3.rel.at_ jj cc e3
           exact ⟨bb,κ,ob,by simp [sigOf,e1,f1],f2,e4 κ ob f3⟩
          ·obtain ⟨b,κ,ob,h3,h4,h5⟩:=hS.at_ id blk h1
           refine ⟨b,κ,ob,hle _ _ h3,?_,h5.le hle⟩
           rw [hk'.same b (hwas id blk _ h0 h1 h3)]
           exact h4
         ·intro i i' bi bj y y' hi hj hx1 hy1 hxy
          rcases hget hi with h1 | ⟨h0,h1⟩ <;> rcases hget hj with h3 | ⟨h0',h3⟩
          ·obtain ⟨c1,c2,c3,jj,cc,e1,e2,e3,e4⟩:=r3 i bi h1
           obtain ⟨c1',c2',c3',jj',cc',e1',e2',e3',e4'⟩:=r3 i' bj h3
           have s1 : σ' jj = some y:=by simpa [sigOf,e1] using hx1
           have s2 : σ' jj' = some y':=by simpa [sigOf,e1'] using hy1
           have hjt:=hlim jj (by
            rcases Nat.lt_or_ge i D.N with hi | hi
            ·rw [renId_low hi] at e1
             cases e1
             exact c1
            ·exact yh.2 (.inl (e2.1 hi)))
           have hjj:=(q3.rel.inj jj jj' cc cc' y y' e3 e3' s1 s2 hxy).elim id fun hq => by rw [hjt] at hq; cases hq.1
           refine .inl ?_
           rcases Nat.lt_or_ge i D.N with hi' | hi' <;> rcases Nat.lt_or_ge i' D.N with hj' | hj'
           ·rw [renId_low hi'] at e1
            rw [renId_low hj'] at e1'
            cases e1; cases e1'
            exact hjj
           ·rw [renId_low hi'] at e1
            cases e1
            have:=e2'.1 hj'
            omega
           ·rw [renId_low hj'] at e1'
            cases e1'
            have:=e2.1 hi'
            omega
           ·have m1:=renId_high hi' e1
            have m2:=renId_high hj' e1'
            rw [← hjj] at m2
            exact distinct_inj (zb r5).1 m1 m2
          ·have a1:=hnew i bi y h1 hx1
           have h5:=hlt i' bj h3
           rw [hsig0 i' (by omega)] at hy1
           rw [hxy] at a1
           exact absurd a1 (hwas i' bj y' h0' h3 hy1)
          ·have a1:=hnew i' bj y' h3 hy1
           have h5:=hlt i bi h1
           rw [hsig0 i (by omega)] at hx1
           rw [← hxy] at a1
           exact absurd a1 (hwas i bi y h0 h1 hx1)
          ·have h5:=hlt i bi h1
           have h6:=hlt i' bj h3
           rw [hsig0 i (by omega)] at hx1
           rw [hsig0 i' (by omega)] at hy1
           exact hS.inj i i' bi bj y y' h1 h3 hx1 hy1 hxy
         ·intro id blk y hb hl hy
          rcases hget hb with h1 | ⟨h0,h1⟩
          ·exact hWr _ (hnew id blk y h1 hy)
          ·have h5:=hlt id blk h1
           rw [hsig0 id (by omega)] at hy
           exact hS.wr id blk y h1 hl hy
         ·intro b hb
          exact hS.wrNew b (Nat.le_trans hk'.size hb)
         ·intro id hid
          have hid : D.M≤id:=hid
          constructor
          ·exact (r2.fresh id hid).1
          ·show (addAll (without S.heap D.own) x'.2.heap).get id = none
           cases hg : (addAll (without S.heap D.own) x'.2.heap).get id with
           | none => rfl
           | some b =>
             rcases hget hg with h1 | ⟨h0,h1⟩
             ·have:=(r3 id b h1).2.1
              omega
             ·have:=hlt id b h1
              omega
         ·intro id hid
          have hid : D.M≤id:=hid
          exact hS.low id (by omega)
       ·cases hmt
      ·cases hmt
   ·cases h1
end
open Go
noncomputable def readsIn (N : Nat) (H : Trie ABlock) : List (Nat×ABlock)→Bool
 | [] => true
 | (i,b) :: l => match H.get i with
   | some c => match chkBlk N [] b c with
     | some [] => readsIn N H l
     | _ => false
   | none => false
theorem readsIn_ok {N : Nat} {H : Trie ABlock} : ∀ {l : List (Nat×ABlock)},readsIn N H l = true→∀ i b,(i,b) ∈ l→∃ c,H.get i = some c∧chkBlk N [] b c = some []
 | [],_,i,b,h => by cases h
 | (j,c) :: l,hl,i,b,h => by
   simp only [readsIn] at hl
   split at hl
   ·rename_i c' hc
    split at hl
    ·rename_i hk
     cases h with
     | head => exact ⟨c',hc,hk⟩
     | tail _ hm => exact readsIn_ok hl i b hm
    ·cases hl
   ·cases hl
def isX (F : List (X×Bool)) (x y : X) : Bool:=match yB x y with
 | true => true
 | false => match y with
   | .ite a b c => match decX F a with
     | some true => yB x b
     | some false => yB x c
     | none => false
   | y => match x with
     | .boo b => match decX F y with
       | some c => sameBo c b
       | none => false
     | _ => false
theorem isX_ok {F : List (X×Bool)} {ρ : Rho} (hF : ∀ x b,(x,b) ∈ F→x.bool ρ = some b) {x y : X} (h : isX F x y = true) : y.den ρ = x.den ρ:=by
 unfold isX at h
 split at h
 ·rename_i hs; rw [zL hs]
 ·split at h
  ·rename_i a b c
   split at h
   ·rename_i hc
    rw [zL h]
    simp only [X.den,X.bool_iff.1 (decX_some hF hc),zd]
   ·rename_i hc
    rw [zL h]
    simp only [X.den,X.bool_iff.1 (decX_some hF hc),zd]
   ·cases h
  ·split at h
   ·split at h
    ·rename_i c hc
     obtain rfl:=sameBo_ok h
     exact X.bool_iff.1 (decX_some hF hc)
    ·cases h
   ·cases h
def entryOk (F : List (X×Bool)) (N : Nat) (vs : List X) : zp→Bool
 | [] => true
 | (.var v,x) :: l => match Nat.ble N v with
   | true => match vs[v - N]? with
     | some y => andB (isX F x y) (entryOk F N vs l)
     | none => false
   | false => false
 | _ :: _ => false
theorem denL_get {ρ : Rho} : ∀ {l : List X} {vs : List Value},denL ρ l = some vs→∀ {i : Nat} {x : X},l[i]? = some x→∃ v,vs[i]? = some v∧x.den ρ = some v
 | [],vs,h,i,x,hx => by simp at hx
 | a :: l,vs,h,i,x,hx => by
   simp only [denL] at h
   split at h
   ·rename_i v hv
    split at h
    ·rename_i us hus
     cases h
     cases i with
     | zero => simp only [List.getElem?_cons_zero,Option.some.injEq] at hx; subst hx; exact ⟨v,rfl,hv⟩
     | succ i => simp only [List.getElem?_cons_succ] at hx ⊢; exact denL_get hus hx
    ·cases h
   ·cases h
theorem entryOk_ok {F : List (X×Bool)} {N : Nat} {vs : List X} {ρ : Rho} {vals : List Value} (hF : ∀ x b,(x,b) ∈ F→x.bool ρ = some b) (hv : denL ρ vs = some vals) : ∀ {ps : zp},entryOk F N vs ps = true→zp.hold (ρ.ext N vals) ρ ps
 | [],h => fun p x hx => by cases hx
 | (p,x) :: l,h => by
   cases p with
   | var v =>
     simp only [entryOk] at h
     split at h
     ·rename_i hn
      have hn:=Nat.le_of_ble_eq_true hn
      split at h
      ·rename_i y hy
       obtain ⟨h1,h2⟩:=zb h
       intro q z hq
       cases hq with
       | head =>
         obtain ⟨u,hu,hd⟩:=denL_get hv hy
         rw [← isX_ok hF h1,hd]
         show (ρ.ext N vals).val v = some u
         simp only [Rho.ext]
         rw [if_neg (by omega)]
         exact hu
       | tail _ hm => exact entryOk_ok hF hv h2 q z hm
      ·cases h
     ·cases h
   | _ => cases h
def guardT (F : List (X×Bool)) (g : X) : Option Bool:=match g with
 | .boo b => some b
 | g => decX F g
theorem guardT_ok {F : List (X×Bool)} {ρ : Rho} (hF : ∀ x b,(x,b) ∈ F→x.bool ρ = some b) {g : X} {c : Bool} (h : guardT F g = some c) : g.bool ρ = some c:=by
 unfold guardT at h
 split at h
 ·exact h
 ·exact decX_some hF h
noncomputable def exitsIf (F : List (X×Bool)) : List (AX×Pat)→Option (List (AX×Pat))
 | [] => some []
 | x :: l => match guardT F x.2.guard with
   | some true => match exitsIf F l with
     | some r => some (x :: r)
     | none => none
   | some false => exitsIf F l
   | none => none
theorem exitsIf_mem {F : List (X×Bool)} {ρ : Rho} (hF : ∀ x b,(x,b) ∈ F→x.bool ρ = some b) : ∀ {l r : List (AX×Pat)},exitsIf F l = some r→∀ x ∈ l,x.2.guard.bool ρ = some true→x ∈ r
 | [],r,h,x,hx,_ => by cases hx
 | y :: l,r,h,x,hx,hg => by
   simp only [exitsIf] at h
   split at h
   ·split at h
    ·rename_i r' hr
     cases h
     cases hx with
     | head => exact List.mem_cons_self
     | tail _ hm => exact List.mem_cons_of_mem _ (exitsIf_mem hF hr x hm hg)
    ·cases h
   ·rename_i hy
    cases hx with
    | head =>
      have:=guardT_ok hF hy
      rw [hg] at this; cases this
    | tail _ hm => exact exitsIf_mem hF h x hm hg
   ·cases h
noncomputable def ownIn (S : ASt) : List Nat→Bool
 | [] => true
 | i :: l => match S.limit i with
   | true => match S.heap.get i with
     | some _ => ownIn S l
     | none => false
   | false => false
theorem ownIn_ok {S : ASt} : ∀ {l : List Nat},ownIn S l = true→∀ i ∈ l,S.limit i = true∧∃ blk,S.heap.get i = some blk
 | [],_,i,hi => by cases hi
 | j :: l,h,i,hi => by
   simp only [ownIn] at h
   split at h
   ·rename_i h1
    split at h
    ·rename_i blk h2
     cases hi with
     | head => exact ⟨h1,blk,h2⟩
     | tail _ hm => exact ownIn_ok h i hm
    ·cases h
   ·cases h
def zf (r : Rho) : List (X×Bool)→Prop
 | [] => True
 | (x,b) :: l => x.bool r = some b∧zf r l
theorem zf.mem {r : Rho} : ∀ {l : List (X×Bool)},zf r l→∀ x b,(x,b) ∈ l→x.bool r = some b
 | [],_,x,b,h => by cases h
 | (y,c) :: l,hl,x,b,h => by
   cases h with
   | head => exact hl.1
   | tail _ hm => exact hl.2.mem x b hm
def preF (F : List (X×Bool)) : List (X×Bool)→Bool
 | [] => true
 | (x,b) :: l => match decX F x with
   | some c => andB (sameBo c b) (preF F l)
   | none => false
theorem preF_ok {F : List (X×Bool)} {ρ : Rho} (hF : ∀ x b,(x,b) ∈ F→x.bool ρ = some b) : ∀ {l : List (X×Bool)},preF F l = true→zf ρ l
 | [],_ => trivial
 | (x,b) :: l,h => by
   simp only [preF] at h
   split at h
   ·rename_i c hc
    obtain ⟨h1,h2⟩:=zb h
    obtain rfl:=sameBo_ok h1
    exact ⟨decX_some hF hc,preF_ok hF h2⟩
   ·cases h
noncomputable def LoopD.hook (D : LoopD) (F : List (X×Bool)) (vs : List X) (f : AF) (S : ASt) : Option (List Out):=
 match isDefs D.N f.defers D.dfs with
 | true => match andB (Nat.ble S.next D.N) (andB (Nat.beq f.size D.size) (andB (readsIn D.N S.heap D.reads) (andB (ownIn S D.own) (preF F D.pre)))) with
   | true => match D.pats with
     | p :: _ => match addP (chkT D.N [] f.T p.slots) (chkHo D.N D.M D.own [] S.heap p.heap) with
       | some ps => match entryOk F D.N vs ps with
         | true => match exitsIf F D.exits with
           | some xs => some (xs.map (D.out S))
           | none => none
         | false => none
       | none => none
     | [] => none
   | false => none
 | false => none
section
variable {E₀ : Env} {D : LoopD} {run : Env→AF→ASt→Option (List Out)} {body : Code} {ρ : Rho} {Inv : Nat→List Value→Prop} {μ : Nat→List Value→Nat}
theorem hook_in (hE : E₀.Ok) (hD : D.ok = true) {ro : Option Nat} (hrun : ∀ F vals,CodeOk (E₀.with F (ρ.ext D.N vals)) ro body (run (E₀.with F (ρ.ext D.N vals)))) {Fe : List (X×Bool)} {vs : List X}
  (hstep : zf ρ D.pre→(∀ j vals,Inv j vals→yn D run E₀ ρ Inv μ j vals)∧∃ vals,denL ρ vs = some vals∧Inv 0 vals) : CodeOk (E₀.with Fe ρ) ro (.loop body) (D.hook Fe vs):=by
 intro f S outs h σ w Wr a n hA hS hf
 have hD:=LoopD.ok_iff hD
 unfold LoopD.hook at h
 split at h
 ·rename_i hd
  split at h
  ·rename_i hc
   obtain ⟨c1,c2⟩:=zb hc
   obtain ⟨c2,c3⟩:=zb c2
   obtain ⟨c3,c4⟩:=zb c3
   have hN : S.next≤D.N:=Nat.le_of_ble_eq_true c1
   have hsz : f.size = D.size:=Nat.eq_of_beq_eq_true c2
   have hrd:=readsIn_ok c3
   obtain ⟨c4,c5⟩:=zb c4
   have hown:=ownIn_ok c4
   have hρ : σ.rho = ρ:=hA.rho ρ rfl
   have hF : ∀ x b,(x,b) ∈ Fe→x.bool ρ = some b:=fun x b hx => by rw [← hρ]; exact hA.facts x b hx
   obtain ⟨hstep,vals,hv,hI⟩:=hstep (preF_ok hF c5)
   split at h
   ·rename_i p ps hpats
    split at h
    ·rename_i prs hprs
     obtain ⟨prs1,prs2,hT,hHo,rfl⟩:=addP_some hprs
     split at h
     ·rename_i hen
      split at h
      ·rename_i xs hxs
       cases h
       have hNM : D.N≤D.M:=hD.NM
       have hagree : Rho.agree D.N (ρ.ext D.N vals) σ.rho:=by rw [hρ]; exact ρ.ext_agree D.N vals
       have hs : SigIs D.N [] (sigOf D.N [] σ (ρ.ext D.N vals)) σ:=sigOf_is hagree
       have hpairs : zp.hold (ρ.ext D.N vals) σ.rho (prs1 ++ prs2):=by rw [hρ]; exact entryOk_ok hF hv hen
       obtain ⟨hp1,hp2⟩:=zp.hold_append.1 hpairs
       obtain ⟨hT1,hT2⟩:=chkT_ok hs hf.tmps hT hp1
       have hHo':=chkHo_ok (P:=E₀.P) hs hHo hp2
       have hsig : ∀ i,i < D.N→(sigOf D.N [] σ (ρ.ext D.N vals)) i = σ i:=fun i hi => by
        show (Zb D.N [] i).bind (fun j => σ j) = σ i
        rw [renId_low hi]; rfl
       have hph : ∀ q ∈ p.heap,q.1 < zM:=fun q hq => (hHo' q.1 q.2 hq).2.2.1
       have part : ∀ i b,(yf (p.heap ++ D.reads)).get i = some b→i < D.N∧∃ c,S.heap.get i = some c∧(∀ κ ob,BRel E₀.P σ κ c ob→BRel E₀.P (sigOf D.N [] σ (ρ.ext D.N vals)) κ b ob)∧(yi D.N D.own i = true→i ∈ D.own):=fun i b hb => by
        rcases buildH_app hph hb with hm | ⟨_,hb⟩
        ·obtain ⟨d1,d2,d3,j,c,e1,e2,e3,e4⟩:=hHo' i b hm
         have hi : i < D.N:=by
          rcases Nat.lt_or_ge i D.N with h | h
          ·exact h
          ·cases renId_high h e1
         rw [renId_low hi] at e1
         cases e1
         refine ⟨hi,c,e3,e4,fun h => ?_⟩
         rcases yh.1 h with e | e
         ·omega
         ·exact e
        ·have hm:=mem_reads hD hb
         have hi:=(hD.self i b hm).1
         obtain ⟨c,e1,e2⟩:=hrd i b hm
         refine ⟨hi,c,e1,fun κ ob hbr => chkBlk_ok hs e2 (fun _ _ hx => by cases hx) hbr,fun h => ?_⟩
         rcases yh.1 h with e | e
         ·omega
         ·exact e
       have hstate : (D.state p).rel E₀.P (sigOf D.N [] σ (ρ.ext D.N vals)) w (WrL D σ w):=by
        refine ⟨fun i b hb => ?_,fun i i' bi bj x y hi hj hx hy hxy => ?_,fun i b x hb hl hx => ?_,fun b hb => .inl hb,fun i hi => ?_,fun i hi => ?_⟩
        ·obtain ⟨hi,c,e1,e2,_⟩:=part i b hb
         obtain ⟨bb,κ,ob,f1,f2,f3⟩:=hS.at_ i c e1
         exact ⟨bb,κ,ob,by rw [hsig i hi]; exact f1,f2,e2 κ ob f3⟩
        ·obtain ⟨h1,c,e1,_⟩:=part i bi hi
         obtain ⟨h2,c',e1',_⟩:=part i' bj hj
         rw [hsig i h1] at hx
         rw [hsig i' h2] at hy
         exact (hS.inj i i' c c' x y e1 e1' hx hy hxy).imp id fun hq => by
          refine ⟨?_,?_⟩
          ·cases hc9 : yi D.N D.own i with
           | false => exact hc9
           | true =>
             rcases yh.1 hc9 with e | e
             ·omega
             ·rw [(hown i e).1] at hq; cases hq.1
          ·cases hc9 : yi D.N D.own i' with
           | false => exact hc9
           | true =>
             rcases yh.1 hc9 with e | e
             ·omega
             ·rw [(hown i' e).1] at hq; cases hq.2
        ·obtain ⟨h1,c,e1,_,e3⟩:=part i b hb
         rw [hsig i h1] at hx
         exact .inr ⟨i,x.2,e3 hl,hx⟩
        ·have hi : D.M≤i:=hi
         constructor
         ·show (Zb D.N [] i).bind (fun j => σ j) = none
          cases hr' : Zb D.N [] i with
          | none => rfl
          | some j => cases renId_high (by omega) hr'
         ·show (yf (p.heap ++ D.reads)).get i = none
          cases hg : (yf (p.heap ++ D.reads)).get i with
          | none => rfl
          | some b =>
            have:=(part i b hg).1
            omega
        ·have hi : D.M≤i:=hi
         exact yh.2 (.inl (by omega))
       have hframe : FRel (sigOf D.N [] σ (ρ.ext D.N vals)) (D.frame p) a:=by
        refine ⟨fun i v hi => hT2 i v (buildT_get hT1 hi),by rw [hf.size]; exact hsz,isDefs_ok hsig hd hf.defers⟩
       refine wpIn_loop_rounds (μ 0 vals + 1) ?_
       refine loop_rounds hE hD hrun hstep hρ hA hS hN hown (fun e a' w' q => ?_) (μ 0 vals + 1) 0 vals p _ w a (by omega) hI (by rw [hpats]; rfl) hframe hstate rfl hsig (Kept.refl _ _)
       obtain ⟨x,hx,hg,hq⟩:=q
       exact ⟨D.out S x,List.mem_map.2 ⟨x,exitsIf_mem hF hxs x hx hg,rfl⟩,hq⟩
      ·cases h
     ·cases h
    ·cases h
   ·cases h
  ·cases h
 ·cases h
theorem hook_ok (hE : E₀.Ok) (hD : D.ok = true) {ro : Option Nat} (hrun : ∀ F r,r.sym = ρ.sym→CodeOk (E₀.with F r) ro body (run (E₀.with F r))) {Fe : List (X×Bool)} {vs : List X}
  (hstep : zf ρ D.pre→(∀ j vals,Inv j vals→yn D run E₀ ρ Inv μ j vals)∧∃ vals,denL ρ vs = some vals∧Inv 0 vals) : CodeOk (E₀.with Fe ρ) ro (.loop body) (D.hook Fe vs):=
 hook_in hE hD (fun F vals => hrun F _ rfl) hstep
end
noncomputable def bodyRun (L : Env→yj) (d : Nat) (lp : Env→Code→AF→ASt→Option (List Out)) (c : Code) (E : Env) : AF→ASt→Option (List Out):=
 acode E (ev E (L E) d).call (ev E (L E) d).round false (mkOthers E (ev E (L E) d) false none (lp E)) c
theorem ye {E₀ : Env} (hE : E₀.Ok) {L : Env→yj} {d : Nat} {lp : Env→Code→AF→ASt→Option (List Out)} {c : Code} {F : List (X×Bool)} {r : Rho} (hL : zu (E₀.with F r) (L (E₀.with F r)))
  (hlp : ∀ c' ∈ loopsOf c,CodeOk (E₀.with F r) none (.loop c') (lp (E₀.with F r) c')) : CodeOk (E₀.with F r) none c (bodyRun L d lp c (E₀.with F r)):=by
 have hV:=ev_ok (Env.with_ok hE F r) hL d
 exact acode_ok (Env.with_ok hE F r) hV.1 hV.2.1 (ro:=none) c (mkOthers_ok (Env.with_ok hE F r) hV none none (lp (E₀.with F r)) c (fun _ h => by cases h)) hlp
noncomputable def bodyOf (P : Program) (f : FuncId) : Code:=match P.funcs[f]? with
 | some fn => match fn.body with
   | some c => c
   | none => .skip
 | none => .skip
noncomputable def yA (P : Program) (f i : Nat) : Code:=((loopsOf (bodyOf P f))[i]?).getD .skip
noncomputable def hooks : List (Nat×(AF→ASt→Option (List Out)))→Code→AF→ASt→Option (List Out)
 | [],_ => fun _ _ => none
 | (k,h) :: l,c => match Nat.beq (keyOf c) k with
   | true => h
   | false => hooks l c
theorem hooks_hit {k : Nat} {h : AF→ASt→Option (List Out)} {l : List (Nat×(AF→ASt→Option (List Out)))} {c : Code} (e : keyOf c = k) : hooks ((k,h) :: l) c = h:=by
 have : Nat.beq (keyOf c) k = true:=by rw [e]; exact Nat.beq_refl k
 simp only [hooks,this]
theorem hooks_miss {k : Nat} {h : AF→ASt→Option (List Out)} {l : List (Nat×(AF→ASt→Option (List Out)))} {c : Code} (e : Nat.beq (keyOf c) k = false) : hooks ((k,h) :: l) c = hooks l c:=by
 simp only [hooks,e]
noncomputable def oneH (f : FuncId) (h : Code→AF→ASt→Option (List Out)) : LoopE:=fun g => match Nat.beq g f with
 | true => h
 | false => noLoop
theorem loops_all {E : Env} (hfn : ∀ f fn,E.fn f = some fn→E.P.funcs[f]? = some fn) {f n : Nat} {h : Code→AF→ASt→Option (List Out)} (hlen : (loopsOf (bodyOf E.P f)).length = n) (hok : ∀ i,i < n→CodeOk E none (.loop (yA E.P f i)) (h (yA E.P f i))) :
  LoopsOk E (oneH f h):=by
 intro g fn c hg hc c' hm
 show CodeOk E none (.loop c') ((match Nat.beq g f with | true => h | false => noLoop) c')
 cases e : Nat.beq g f with
 | false => exact yc
 | true =>
   obtain rfl:=Nat.eq_of_beq_eq_true e
   have hb : bodyOf E.P g = c:=by simp [bodyOf,hfn g fn hg,hc]
   obtain ⟨i,hi⟩:=List.getElem?_of_mem hm
   have hlt:=(List.getElem?_eq_some_iff.1 hi).1
   have:=hok i (by rw [← hlen,hb]; exact hlt)
   have e2 : yA E.P g i = c':=by simp [yA,hb,hi]
   rw [e2] at this
   exact this
noncomputable def memOf (l : List (Nat×ABlock)) (n : Nat) : ASt:={ heap:=yf l,next:=n,limit:=yi n [] }
end Go.Proofs.YtfddkbbjnghefaaGreatDoor.Zs
