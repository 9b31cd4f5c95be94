/-
  Functions of Go's library by their contracts.
-/
import Derived.Test.YtfddkbbjnghefaaGreatDoorToEvH
import Derived.Lib.Join
import Derived.Below
set_option linter.unusedSimpArgs false
set_option linter.unusedVariables false
namespace Go.Proofs.YtfddkbbjnghefaaGreatDoor.Zs
open Go Go.RowKit
noncomputable def orLib (A B : yj) : yj:=fun f args S => match A f args S with
 | some r => some r
 | none => B f args S
theorem yd {E : Env} {A B : yj} (hA : zu E A) (hB : zu E B) : zu E (orLib A B):=by
 intro f args S r S' h
 unfold orLib at h
 split at h
 ·rename_i x hx
  cases h
  exact hA f args S r S' hx
 ·exact hB f args S r S' h
open Go
noncomputable def sameBlock : ABlock→ABlock→Bool
 | .cells l t,.cells m u => match Nat.beq t u with
   | true => sameAVs l m
   | false => false
 | _,_ => false
theorem sameBlock_ok {a b : ABlock} (h : sameBlock a b = true) : a = b:=by
 cases a <;> cases b <;> simp only [sameBlock] at h <;> first
  | (cases h; done)
  | (split at h
     ·rename_i hk
      rw [Nat.eq_of_beq_eq_true hk,sameAVs_ok h]
     ·cases h)
noncomputable def yf : List (Nat×ABlock)→Trie ABlock
 | [] => .leaf
 | (i,b) :: l => Trie.put (some b) depth (yf l) i
noncomputable def lowIds : List (Nat×ABlock)→Bool
 | [] => true
 | (i,_) :: l => match Nat.blt i zM with
   | true => lowIds l
   | false => false
theorem buildH_get : ∀ {l : List (Nat×ABlock)},lowIds l = true→∀ {i : Nat} {b : ABlock},(yf l).get i = some b→(i,b) ∈ l
 | [],_,i,b,h => nomatch (show (none : Option ABlock) = some b from h)
 | (j,c) :: l,hl,i,b,h => by
   simp only [lowIds] at hl
   split at hl
   ·rename_i hj
    have hj : j < 2 ^ 31:=by simpa [zM] using zo hj
    have h2 : (Trie.put (some c) depth (yf l) j).get i = some b:=h
    rw [Trie.get_put _ _ _ _ hj] at h2
    split at h2
    ·rename_i e
     rw [Option.some.inj h2,e]
     exact List.mem_cons_self
    ·exact List.mem_cons_of_mem _ (buildH_get hl h2)
   ·cases hl
noncomputable def covers (H : Trie ABlock) : List (Nat×ABlock)→Bool
 | [] => true
 | (i,b) :: l => match H.get i with
   | some c => match sameBlock c b with
     | true => covers H l
     | false => false
   | none => false
theorem covers_ok {H : Trie ABlock} : ∀ {l : List (Nat×ABlock)},covers H l = true→∀ {i : Nat} {b : ABlock},(i,b) ∈ l→H.get i = some b
 | [],_,i,b,h => by cases h
 | (j,c) :: l,hc,i,b,h => by
   simp only [covers] at hc
   split at hc
   ·rename_i c' hj
    split at hc
    ·rename_i hs
     cases h with
     | head => rw [hj,sameBlock_ok hs]
     | tail _ hm => exact covers_ok hc hm
    ·cases hc
   ·cases hc
noncomputable def addAll (H : Trie ABlock) : List (Nat×ABlock)→Trie ABlock
 | [] => H
 | (i,b) :: l => Trie.put (some b) depth (addAll H l) i
noncomputable def fromIds (n : Nat) : List (Nat×ABlock)→Bool
 | [] => true
 | (i,_) :: l => match Nat.blt i zM && Nat.ble n i with
   | true => fromIds n l
   | false => false
theorem addAll_get {H : Trie ABlock} {n : Nat} : ∀ {l : List (Nat×ABlock)},fromIds n l = true→(∀ id,id < n→(addAll H l).get id = H.get id) ∧
  ∀ {i : Nat} {b : ABlock},(addAll H l).get i = some b→((i,b) ∈ l∧n≤i)∨H.get i = some b
 | [],_ => ⟨fun _ _ => rfl,fun h => .inr h⟩
 | (j,c) :: l,hl => by
   simp only [fromIds] at hl
   split at hl
   ·rename_i hj
    simp only [Bool.and_eq_true] at hj
    have hj1 : j < 2 ^ 31:=by simpa [zM] using zo hj.1
    have hj2 : n≤j:=Nat.le_of_ble_eq_true hj.2
    have hget : ∀ i,(addAll H ((j,c) :: l)).get i = if i = j then some c else (addAll H l).get i:=fun i => Trie.get_put _ _ _ _ hj1
    obtain ⟨h1,h2⟩:=addAll_get (H:=H) (n:=n) hl
    refine ⟨fun id hid => ?_,fun {i b} h => ?_⟩
    ·rw [hget,if_neg (by omega)]
     exact h1 id hid
    ·rw [hget] at h
     split at h
     ·rename_i e
      rw [Option.some.inj h,e]
      exact .inl ⟨List.mem_cons_self,hj2⟩
     ·rcases h2 h with ⟨h3,h4⟩ | h3
      ·exact .inl ⟨List.mem_cons_of_mem _ h3,h4⟩
      ·exact .inr h3
   ·cases hl
noncomputable def memoLib (f : Nat) (args : List AV) (l : List (Nat×ABlock)) (n : Nat) (v : AV) (news : List (Nat×ABlock)) (m : Nat) : yj:=fun g as S =>
 match Nat.beq g f with
 | true => match Nat.beq S.next n with
   | true => match sameAVs as args with
     | true => match covers S.heap l with
       | true => some (.ret v,{ heap:=addAll S.heap news,next:=m,limit:=S.limit })
       | false => none
     | false => none
   | false => none
 | false => none
noncomputable def runsTo (E : Env) (L : yj) (d : Nat) (f : Nat) (args : List AV) (l : List (Nat×ABlock)) (n : Nat) (v : AV) (news : List (Nat×ABlock)) (m : Nat) : Bool:=
 match lowIds l && fromIds n news with
 | true => match (ev E L d).call f args { heap:=yf l,next:=n,limit:=yi n [] } with
   | some (.ret u,S') => match yS u v with
     | true => match Nat.beq S'.next m with
       | true => covers S'.heap news
       | false => false
     | false => false
   | _ => false
 | false => false
theorem yz {E : Env} {L : yj} (hE : E.Ok) (hL : zu E L) {d f : Nat} {args : List AV} {l : List (Nat×ABlock)} {n : Nat} {v : AV} {news : List (Nat×ABlock)} {m : Nat}
  (h : runsTo E L d f args l n v news m = true) : zu E (memoLib f args l n v news m):=by
 unfold runsTo at h
 split at h
 ·rename_i hlow
  simp only [Bool.and_eq_true] at hlow
  obtain ⟨hlow,hfrom⟩:=hlow
  split at h
  ·rename_i u S₁ hrun
   split at h
   ·rename_i hsame
    split at h
    ·rename_i hm₁
     obtain rfl:=sameAV_ok hsame
     obtain rfl:=Nat.eq_of_beq_eq_true hm₁
     intro g as S r S' hm σ w Wr us hA hS hi
     unfold memoLib at hm
     split at hm
     ·rename_i hg
      split at hm
      ·rename_i hn
       split at hm
       ·rename_i ha
        split at hm
        ·rename_i hc
         cases hm
         obtain rfl:=Nat.eq_of_beq_eq_true hg
         obtain rfl:=Nat.eq_of_beq_eq_true hn
         obtain rfl:=sameAVs_ok ha
         have sub : ∀ id blk,(yf l).get id = some blk→S.heap.get id = some blk:=fun id blk hb => covers_ok hc (buildH_get hlow hb)
         have hnone : ∀ id,S.next≤id→(yf l).get id = none:=fun id hid => by
          cases hb : (yf l).get id with
          | none => rfl
          | some blk => have:=sub id blk hb; rw [(hS.fresh id hid).2] at this; cases this
         have hfn : ∀ id,S.next≤id→yi S.next [] id = true:=fun id hid => by
          unfold yi
          rw [Nat.ble_eq_true_of_le hid]
         have hfl : ∀ id blk,(yf l).get id = some blk→yi S.next [] id = false:=fun id blk hb => by
          have hlt : ¬ S.next≤id:=fun hid => by
           have:=hnone id hid
           rw [hb] at this
           cases this
          unfold yi
          split
          ·rename_i hb'; exact absurd (Nat.le_of_ble_eq_true hb') hlt
          ·rfl
         have hrel : ({ heap:=yf l,next:=S.next,limit:=yi S.next [] } : ASt).rel E.P σ w (fun b => w.heap.size≤b):=by
          refine ⟨fun id blk hb => hS.at_ id blk (sub id blk hb),fun i j bi bj x y hi hj hx hy _ => .inr ⟨hfl i bi hi,hfl j bj hj⟩,fun id blk x hb hlim hx => ?_,fun b hb => hb,fun id hid => ⟨(hS.fresh id hid).1,hnone id hid⟩,hfn⟩
          have hlt : ¬ S.next≤id:=fun hid => by
           have:=hnone id hid
           rw [show (yf l).get id = some blk from hb] at this
           cases this
          have hlim : yi S.next [] id = true:=hlim
          unfold yi at hlim
          split at hlim
          ·rename_i hb'; exact absurd (Nat.le_of_ble_eq_true hb') hlt
          ·cases hlim
         refine ((ev_ok hE hL d).1 _ _ _ _ _ hrun σ w _ us hA hrel hi).mono ?_
         rintro e w' ⟨σ',hend,hp⟩
         refine ⟨σ',hend,?_⟩
         have hle : σ.le σ':=hp.le hrel
         have hnext : S.next≤S₁.next:=hp.next
         obtain ⟨hold,hget⟩:=addAll_get (H:=S.heap) hfrom
         have hlt : ∀ id blk,S.heap.get id = some blk→id < S.next:=fun id blk h => by
          rcases Nat.lt_or_ge id S.next with h' | h'
          ·exact h'
          ·rw [(hS.fresh id h').2] at h; cases h
         have hup : ∀ id,id < S.next→σ' id = σ id:=hp.upto.blk
         have hwas : ∀ id blk x,S.heap.get id = some blk→σ id = some x→x.1 < w.heap.size:=fun id blk x h1 h2 => by
          obtain ⟨b,κ,o,h3,h4,_⟩:=hS.at_ id blk h1
          rw [h2] at h3
          cases h3
          exact (Array.getElem?_eq_some_iff.1 h4).1
         have hnew : ∀ id blk x,(id,blk) ∈ news→S.next≤id→σ' id = some x→S₁.heap.get id = some blk∧w.heap.size≤x.1:=fun id blk x h1 h2 h3 => by
          have h4:=covers_ok h h1
          refine ⟨h4,hp.rel.wr id blk x h4 ?_ h3⟩
          rw [hp.limit]
          exact hfn id h2
         refine ⟨⟨fun id blk hb => ?_,fun i j bi bj x y hi hj hx hy hxy => ?_,fun id blk x hb hlim hx => ?_,fun b hb => hS.wrNew b (Nat.le_trans hp.kept.size hb),fun id hid => ⟨(hp.rel.fresh id hid).1,?_⟩,fun id hid => hS.low id (Nat.le_trans hnext hid)⟩,
          hp.upto,hnext,rfl,⟨hp.kept.size,fun b hb => hp.kept.same b fun e => hb (hS.wrNew b e),hp.kept.out⟩,fun id hid => ?_⟩
         ·rcases hget hb with ⟨h1,h2⟩ | h1
          ·exact hp.rel.at_ id blk (covers_ok h h1)
          ·obtain ⟨b,κ,o,h3,h4,h5⟩:=hS.at_ id blk h1
           refine ⟨b,κ,o,hle _ _ h3,?_,h5.le hle⟩
           have:=(Array.getElem?_eq_some_iff.1 h4).1
           rw [hp.kept.same b (by omega)]
           exact h4
         ·rcases hget hi with ⟨h1,h2⟩ | h1 <;> rcases hget hj with ⟨h3,h4⟩ | h3
          ·exact (hp.rel.inj i j bi bj x y (covers_ok h h1) (covers_ok h h3) hx hy hxy).elim .inl fun hq => by
            have:=hq.1
            rw [hp.limit] at this
            have h9:=hfn i h2
            rw [show yi S.next [] i = false from this] at h9
            cases h9
          ·have e1:=(hnew i bi x h1 h2 hx).2
           rw [hup j (hlt j bj h3)] at hy
           have e2:=hwas j bj y h3 hy
           omega
          ·have e1:=(hnew j bj y h3 h4 hy).2
           rw [hup i (hlt i bi h1)] at hx
           have e2:=hwas i bi x h1 hx
           omega
          ·rw [hup i (hlt i bi h1)] at hx
           rw [hup j (hlt j bj h3)] at hy
           exact hS.inj i j bi bj x y h1 h3 hx hy hxy
         ·rcases hget hb with ⟨h1,h2⟩ | h1
          ·exact hS.wrNew _ (hnew id blk x h1 h2 hx).2
          ·rw [hup id (hlt id blk h1)] at hx
           exact hS.wr id blk x h1 hlim hx
         ·show (addAll S.heap news).get id = none
          have hid : S₁.next≤id:=hid
          cases hb : (addAll S.heap news).get id with
          | none => rfl
          | some blk =>
            rcases hget hb with ⟨h1,h2⟩ | h1
            ·have:=covers_ok h h1
             rw [(hp.rel.fresh id hid).2] at this
             cases this
            ·have:=hlt id blk h1
             omega
         ·show (addAll S.heap news).get id = S.heap.get id
          rcases Nat.lt_or_ge id S.next with h' | h'
          ·exact hold id h'
          ·rw [hS.low id h'] at hid; cases hid
        ·cases hm
       ·cases hm
      ·cases hm
     ·cases hm
    ·cases h
   ·cases h
  ·cases h
 ·cases h
end Go.Proofs.YtfddkbbjnghefaaGreatDoor.Zs
