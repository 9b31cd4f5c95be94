/-
  append to rows of one's own; new rows.
-/
import Derived.Test.YtfddkbbjnghefaaGreatDoorToEvE
set_option linter.unusedSimpArgs false
set_option linter.unusedVariables false
namespace Go.Proofs.YtfddkbbjnghefaaGreatDoor.Zs
open Go
theorem post_move' {P : Program} {σ : Sig} {S : ASt} {w w' : World} {Wr : Nat→Prop} (hS : S.rel P σ w Wr) (hn : S.next < zM) {id b κ₀ κ : Nat} {blk₀ blk₁ blk : ABlock} {o : Obj}
  (hid : S.heap.get id = some blk₀) (hl : S.limit id = true) (hs : σ id = some (b,κ₀)) (hm : id < zM) (hb₁ : BRel P σ κ₀ blk₁ o) (hb : BRel P σ κ blk o) (he : w'.heap = w.heap.setIfInBounds b o) (ho : w'.os = w.os∧w'.output = w.output:=by exact ⟨rfl,rfl⟩) :
  Post P σ S w Wr (σ.add S.next (b,κ)) { heap:=Trie.put (some blk) depth (Trie.put none depth S.heap id) S.next,next:=S.next + 1,limit:=S.limit } w':=by
 have hp:=post_set hS hid hl hs hb₁ hm he ho
 have hbl : b < w.heap.size:=by
  obtain ⟨b0,κ0,o0,e1,e2,e3⟩:=hS.at_ id blk₀ hid
  rw [hs] at e1; cases e1
  exact (Array.getElem?_eq_some_iff.1 e2).1
 have hidn : id≠S.next:=fun e => by
  have:=(hS.fresh id (by omega)).2
  rw [hid] at this; cases this
 have hget : ∀ j,(Trie.put (some blk) depth (Trie.put none depth S.heap id) S.next).get j = if j = S.next then some blk else if j = id then none else S.heap.get j:=fun j => by
  rw [Trie.get_put _ _ _ _ (by simpa [zM] using hn),Trie.get_put _ _ _ _ (by simpa [zM] using hm)]
 have hget1 : ∀ j,(Trie.put (some blk₁) depth S.heap id).get j = if j = id then some blk₁ else S.heap.get j:=fun j => Trie.get_put _ _ _ _ (by simpa [zM] using hm)
 have h1 : HRel P σ (Trie.put (some blk₁) depth S.heap id).get S.next S.limit w' Wr:=hp.rel
 have hle : σ.le (σ.add S.next (b,κ)):=(Sig.add_upto σ S.next _).le fun id hid => (hS.fresh id hid).1
 have hold : ∀ j,j≠S.next→(σ.add S.next (b,κ)) j = σ j:=fun j hj => by simp [Sig.add,hj]
 have hnx : (σ.add S.next (b,κ)) S.next = some (b,κ):=Sig.add_same _ _ _
 have hlive : ∀ j blkj,j≠id→S.heap.get j = some blkj→j≠S.next:=fun j blkj _ h e => by
  have:=(hS.fresh j (by omega)).2
  rw [h] at this; cases this
 refine ⟨⟨?_,?_,?_,?_,?_,?_⟩,Sig.add_upto _ _ _,Nat.le_succ _,rfl,hp.kept,fun j hj => by
  have h1 : j≠S.next:=fun e => by
   have:=hS.low j (by omega)
   rw [hj] at this; cases this
  have h2 : j≠id:=fun e => by rw [e,hl] at hj; cases hj
  show (Trie.put (some blk) depth (Trie.put none depth S.heap id) S.next).get j = _
  rw [hget,if_neg h1,if_neg h2]⟩
 ·intro j blkj h
  rw [hget] at h
  split at h
  ·rename_i hj
   subst hj
   cases h
   exact ⟨b,κ,o,hnx,by rw [he,Array.getElem?_setIfInBounds_self_of_lt hbl],hb.le hle⟩
  ·split at h
   ·cases h
   ·rename_i hj hji
    obtain ⟨b',κ',o',e1,e2,e3⟩:=h1.at_ j blkj (by rw [hget1,if_neg hji]; exact h)
    exact ⟨b',κ',o',by rw [hold j hj]; exact e1,e2,e3.le hle⟩
 ·intro i j bi bj x y hi hj hx hy hxy
  rw [hget] at hi hj
  have key : ∀ j bj y,j≠S.next→j≠id→S.heap.get j = some bj→σ j = some y→y.1 = b→False:=fun j bj y hjn hji hj hy e => by
   have:=h1.inj j id bj blk₁ y (b,κ₀) (by rw [hget1,if_neg hji]; exact hj) (by rw [hget1,if_pos rfl]) hy hs e
   exact this.elim hji fun hq => by rw [show S.limit id = true from hl] at hq; cases hq.2
  split at hi <;> split at hj
  ·omega
  ·rename_i hi1 hj1
   split at hj
   ·cases hj
   ·rename_i hj2
    rw [hi1,hnx] at hx; cases hx
    rw [hold j hj1] at hy
    exact (key j bj y hj1 hj2 hj hy hxy.symm).elim
  ·rename_i hi1 hj1
   split at hi
   ·cases hi
   ·rename_i hi2
    rw [hj1,hnx] at hy; cases hy
    rw [hold i hi1] at hx
    exact (key i bi x hi1 hi2 hi hx hxy).elim
  ·rename_i hi1 hj1
   split at hi
   ·cases hi
   ·rename_i hi2
    split at hj
    ·cases hj
    ·rename_i hj2
     rw [hold i hi1] at hx
     rw [hold j hj1] at hy
     exact hS.inj i j bi bj x y hi hj hx hy hxy
 ·intro j blkj x h hlj hx
  rw [hget] at h
  split at h
  ·rename_i hj
   rw [hj,hnx] at hx; cases hx
   exact hS.wr id blk₀ (b,κ₀) hid hl hs
  ·split at h
   ·cases h
   ·rename_i hj hji
    rw [hold j hj] at hx
    exact hS.wr j blkj x h hlj hx
 ·exact h1.wrNew
 ·intro j hj
  have hj' : S.next + 1≤j:=hj
  have:=hS.fresh j (by omega)
  show _∧(Trie.put (some blk) depth (Trie.put none depth S.heap id) S.next).get j = none
  rw [hget,if_neg (by omega),hold j (by omega)]
  refine ⟨this.1,?_⟩
  split
  ·rfl
  ·exact this.2
 ·intro j hj
  have hj' : S.next + 1≤j:=hj
  exact hS.low j (by omega)
section
variable {E : Env} {σ : Sig} {S S' : ASt} {w : World} {Wr : Nat→Prop}
theorem run_grow (hE : E.Ok) {argTypes : Array TypeId} {ty t elem : TypeId} {i : TypeInfo} (h0 : argTypes[0]? = some t) (hi1 : notIntT E argTypes[1]? = true)
  (ht : E.und t = some (.slice elem)) (hi : E.inf elem = some i) {base : Option Addr} {sLen sCap n : Nat} {x : Value} {olds news : List Value} (hneed : sCap < sLen + n)
  (hlen : (Builtin.lenOf x).run E.P w = .ok n w)
  (hold : ∀ w₁ : World,w₁.heap = w.heap→(Builtin.firstCells i.size sLen (.slice base sLen sCap)).run E.P w₁ = .ok olds.toArray w₁)
  (hnew : ∀ w₁ : World,w₁.heap = w.heap→(Builtin.firstCells i.size n x).run E.P w₁ = .ok news.toArray w₁)
  {z : Value} (hz : i.zero = some z) (c1 : z.cells.size = i.size) (c2 : (sLen + n) * i.bytes≤140737488355328) (c3 : sLen + n≤1000000000) (hl : (olds ++ news).length = (sLen + n) * i.size) :
  ∃ newCap rest w',(Builtin.append_ argTypes ty #[.slice base sLen sCap,x]).run E.P w = .ok (.slice (some ⟨w.heap.size,0,none⟩) (sLen + n) newCap) w' ∧
    w'.heap = w.heap.push (.cells ((olds ++ news) ++ rest).toArray elem (0,0))∧(w'.os = w.os∧w'.output = w.output)∧sLen + n≤newCap∧newCap * i.size≤((olds ++ news) ++ rest).length:=by
 let newCap:=(Question.appendCap (sLen + n) sCap elem).cut (w.tape w.drawn (.appendCap (sLen + n) sCap elem))
 have hcap : sLen + n≤newCap:=by
  simp only [newCap,Question.cut]
  omega
 let rest:=Builtin.zeroCells z.cells (newCap - (sLen + n))
 have hrl : rest.toList.length = (newCap - (sLen + n)) * i.size:=by simp [rest,Builtin.zeroCells,c1]
 let w' : World:={ w.drew with heap:=w.heap.push (.cells (olds.toArray ++ news.toArray ++ rest) elem) }
 refine ⟨newCap,rest.toList,w',?_,?_,⟨rfl,rfl⟩,hcap,?_⟩
 ·have n1 : ¬ (sLen + n≤sCap):=by omega
  have n2 : ¬ (9223372036854775807 < ((sLen : Int) + (n : Int))):=by omega
  have n3 : ¬ (281474976710656 < Builtin.nextslicecap (sLen + n) sCap * i.bytes):=by
   have:=growslice_fits hneed c2
   omega
  have hdrew : w.drew.heap = w.heap:=rfl
  have hold':=hold w.drew hdrew
  have hnew':=hnew w.drew hdrew
  rw [append_types hE h0 hi1]
  simp [Builtin.append_,zA hE ht,z8 hE (show E.size elem = some i.size by simp [Env.size,hi]),hlen,n1,n2,n3,run_inf hE hi,zeroValue,hz,Question.forced,hold',hnew',newRow,w',newCap,rest]
  rw [show (olds ++ news).toArray = olds.toArray ++ news.toArray from (by simp),Array.append_assoc]
  rfl
 ·simp only [w']
  congr 2
  apply Array.ext'
  simp
 ·rw [List.length_append,hl,hrl,← Nat.add_mul]
  exact Nat.le_of_eq (by congr 1; omega)
def maxLenX : X:=.num 1000000000
noncomputable def sOwn (E : Env) (S : ASt) (elem : TypeId) (size : Nat) (s : AV) : Option (Option (List CK)×X×Nat):=
 match s with
 | .slo id w len => match S.heap.get id with
   | some (.rows w' sch base x own t) => match andB own (andB (Nat.beq w w') (andB (Nat.beq w size) (andB (isNum0 base) (andB (Nat.beq t elem) (andB (yB len (lenX x)) (andB (S.limit id) (Nat.blt id zM))))))) with
     | true => some (some sch,x,id)
     | false => none
   | _ => none
 | .slice id off len cap ex => match S.heap.get id with
   | some (.cells l t) => match andB ex (andB (Nat.beq off 0) (andB (Nat.beq len 0) (andB (Nat.beq t elem) (andB (Nat.ble (cap * size) l.length) (andB (Nat.blt 0 size) (andB (S.limit id) (Nat.blt id zM))))))) with
     | true => some (none,.nil,id)
     | false => none
   | _ => none
 | _ => none
structure Owned (E : Env) (σ : Sig) (S : ASt) (w : World) (elem : TypeId) (size id b κ : Nat) (rows : List (List Value)) (rest : List Value) (fr : Nat×Nat) : Prop where
 blk : ∃ blk,S.heap.get id = some blk
 lim : S.limit id = true
 max : id < zM
 sig : ∃ κ₀,σ id = some (b,κ₀)∧κ₀ * size≤(rows.flatten ++ rest).length
 obj : w.heap[b]? = some (.cells (rows.flatten ++ rest).toArray elem fr)
 cap : κ * size≤(rows.flatten ++ rest).length
 cell : yo E.P elem = size
 free : fr.2≤fr.1∨(rows.flatten ++ rest).length≤fr.1
theorem sOwn_ok (hE : E.Ok) (hS : S.rel E.P σ w Wr) {elem : TypeId} {i : TypeInfo} (hi : E.inf elem = some i) {s : AV} {u : Value} {o : Option (List CK)} {x : X} {id : Nat} (hs : s.inst σ = some u)
  (h : sOwn E S elem i.size s = some (o,x,id)) : ∃ b κ rows rest fr,Owned E σ S w elem i.size id b κ rows rest fr∧u = .slice (some ⟨b,0,none⟩) rows.length κ∧rows.length≤κ∧x.den σ.rho = some (zQ rows)∧0 < i.size ∧
    (∀ sch,o = some sch→(∀ r ∈ rows,RowFits sch r)∧sch.length = i.size)∧(o = none→rows = []):=by
 have hcs : yo E.P elem = i.size:=by simp [yo,hE.inf _ i hi]
 unfold sOwn at h
 split at h
 ·rename_i id wd len
  split at h
  ·rename_i w' sch base x₁ own t hb
   split at h
   ·rename_i hc
    cases h
    obtain ⟨c1,c2⟩:=zb hc
    obtain ⟨c2,c3⟩:=zb c2
    obtain ⟨c3,c4⟩:=zb c3
    obtain ⟨c4,c5⟩:=zb c4
    obtain ⟨c5,c6⟩:=zb c5
    obtain ⟨c6,c7⟩:=zb c6
    obtain ⟨c7,c8⟩:=zb c7
    subst c1
    obtain rfl:=Nat.eq_of_beq_eq_true c2
    have c3':=Nat.eq_of_beq_eq_true c3
    obtain rfl:=isNum0_ok c4
    obtain rfl:=Nat.eq_of_beq_eq_true c5
    obtain ⟨b,κ,rows,pre,rest,fr,t₀,e1,e2,e3,e4,e5,e6,e7,e8⟩:=get_rows hS hb
    obtain ⟨ht0,hpre,e9,e10,e11⟩:=e8 rfl
    subst hpre
    subst ht0
    obtain ⟨b',κ',kn,f1,f4,f6,rfl⟩:=inst_slo hs
    rw [e1] at f1; cases f1
    obtain ⟨k,hk⟩:=lenX_den e3
    rw [zL c6] at f4
    have hkn : kn = rows.length:=by
     have:=X.nat_iff.2 ⟨k,hk⟩
     rw [f4] at this
     exact Option.some.inj this
    subst hkn
    refine ⟨b,κ,rows,rest,fr,⟨⟨_,hb⟩,c7,zo c8,⟨_,e1,by rw [← c3']; rw [e10] at e9; simpa using e9⟩,by simpa using e2,by rw [← c3']; rw [e10] at e9; simpa using e9,hcs,by simpa using e11⟩,rfl,f6,e3,by omega,?_,fun h => by cases h⟩
    rintro sch' h; cases h
    exact ⟨e7,by omega⟩
   ·cases h
  ·cases h
 ·rename_i id off len cap ex
  split at h
  ·rename_i l t hb
   split at h
   ·rename_i hc
    cases h
    obtain ⟨c1,c2⟩:=zb hc
    obtain ⟨c2,c3⟩:=zb c2
    obtain ⟨c3,c4⟩:=zb c3
    obtain ⟨c4,c5⟩:=zb c4
    obtain ⟨c5,c6⟩:=zb c5
    obtain ⟨c6,c7⟩:=zb c6
    obtain ⟨c7,c8⟩:=zb c7
    subst c1
    obtain rfl:=Nat.eq_of_beq_eq_true c2
    obtain rfl:=Nat.eq_of_beq_eq_true c3
    obtain rfl:=Nat.eq_of_beq_eq_true c4
    have c5':=Nat.le_of_ble_eq_true c5
    obtain ⟨b,κ,vs,rest,fr,e1,e2,e3,e4,e5⟩:=get_cells hS hb
    obtain ⟨b',κ',f1,f2,rfl⟩:=yT hs
    rw [e1] at f1; cases f1
    have hlen:=e3.length
    refine ⟨b,cap,[],vs ++ rest,fr,⟨⟨_,hb⟩,c7,zo c8,⟨_,e1,by rw [hcs] at e4; simpa using e4⟩,by simpa using e2,by simp; omega,hcs,by simpa using e5⟩,rfl,Nat.zero_le _,rfl,zo c6,(fun sch h => by cases h),(fun _ => rfl)⟩
   ·cases h
  ·cases h
 ·cases h
noncomputable def sGrown (S : ASt) (size : Nat) (sch : List CK) (x : X) (elem : TypeId) : Option (AV×ASt):=
 match anew S (.rows size sch (.num 0) x true elem) with
 | some S' => some (.slo S.next size (lenX x),S')
 | none => none
noncomputable def sappendR (E : Env) (S : ASt) (argTypes : Array TypeId) (s x : AV) : Option (AV×ASt):=
 match argTypes[0]? with
 | some t => match notIntT E argTypes[1]? with
   | true => match E.und t with
     | some (.slice elem) => match E.inf elem with
       | some i => match i.zero with
         | some z => match andB (Nat.beq z.cells.size i.size) (Nat.ble (1000000000 * i.bytes) 140737488355328) with
           | true => match sSrc E S i.size x with
             | some (sch,y,c) => match s with
               | .nilslice => match andB (E.ltT (.num 0) c) (E.ltF maxLenX c) with
                 | true => sGrown S i.size sch y elem
                 | false => none
               | _ => match sOwn E S elem i.size s with
                 | some (o,x₀,id) => match andB (match o with | some sch' => sameSch sch sch' | none => true) (E.ltF maxLenX (lenX (catX x₀ y))) with
                   | true => sGrown { heap:=Trie.put none depth S.heap id,next:=S.next,limit:=S.limit } i.size sch (catX x₀ y) elem
                   | false => none
                 | none => none
             | none => none
           | false => none
         | none => none
       | none => none
     | _ => none
   | false => none
 | none => none
theorem rows_brel {P : Program} {size κ : Nat} {sch : List CK} {x : X} {elem : TypeId} {rows : List (List Value)} {rest : List Value} {fr : Nat×Nat} (hx : x.den σ.rho = some (zQ rows)) (hl : sch.length = size) (hz : 0 < size)
  (hf : ∀ r ∈ rows,RowFits sch r) (hc : κ * size≤(rows.flatten ++ rest).length) (hcs : yo P elem = size) (hfr : fr.2≤fr.1∨(rows.flatten ++ rest).length≤fr.1) :
  BRel P σ κ (.rows size sch (.num 0) x true elem) (.cells (rows.flatten ++ rest).toArray elem fr):=
 ⟨rows,[],rest,fr,elem,hx,rfl,hl,hz,hf,by simp,fun _ => ⟨rfl,rfl,by rw [hcs]; simpa using hc,hcs,by simpa using hfr⟩⟩
theorem sappendR_ok (hE : E.Ok) (hA : E.At σ) (hS : S.rel E.P σ w Wr) {argTypes : Array TypeId} {ty : TypeId} {s x v : AV} {su xu : Value} (hs : s.inst σ = some su) (hx : x.inst σ = some xu)
  (h : sappendR E S argTypes s x = some (v,S')) : VPost E σ S w Wr ((Builtin.append_ argTypes ty #[su,xu]).run E.P w) v S':=by
 unfold sappendR at h
 split at h
 ·rename_i t h0
  split at h
  ·rename_i hi1
   split at h
   ·rename_i elem ht
    split at h
    ·rename_i i hi
     split at h
     ·rename_i z hz
      split at h
      ·rename_i hcc
       obtain ⟨q1,q2⟩:=zb hcc
       have q1':=Nat.eq_of_beq_eq_true q1
       have q2':=Nat.le_of_ble_eq_true q2
       have hcs : yo E.P elem = i.size:=by simp [yo,hE.inf _ i hi]
       have hbytes : ∀ m,m≤1000000000→m * i.bytes≤140737488355328:=fun m hm => Nat.le_trans (Nat.mul_le_mul_right _ hm) q2'
       split at h
       ·rename_i sch y c hsrc
        obtain ⟨rs,r1,⟨k,r2⟩,r3,r4,r5,r6,r7⟩:=sSrc_ok hA hS hx hsrc
        have hrw : ∀ r ∈ rs,r.length = i.size:=fun r hr => by rw [(r3 r hr).length,r4]
        have hfl:=flatten_length hrw
        split at h
        ·simp only [AV.inst,Option.some.injEq] at hs
         subst hs
         split at h
         ·rename_i hc
          obtain ⟨d1,d2⟩:=zb hc
          have g1:=Env.ltT_ok hA d1 (a:=.num 0) (k:=.i64) rfl r2
          have g2:=Env.ltF_ok hA d2 (a:=.num 1000000000) (k:=.i64) rfl r2
          unfold sGrown at h
          split at h
          ·rename_i S₁ hn
           cases h
           obtain ⟨newCap,rest,w',e1,e2,e3,e4,e5⟩:=run_grow (w:=w) (ty:=ty) hE h0 hi1 ht hi (base:=none) (sLen:=0) (sCap:=0) (n:=rs.length) (olds:=[]) (news:=rs.flatten) (by omega) (r6 E.P w) (fun w₁ _ => rfl) r7 hz q1' (hbytes _ (by omega)) (by omega) (by simpa using hfl)
           simp only [List.nil_append] at e2 e5
           obtain ⟨hp,hsg⟩:=anew_ok hS hn (κ:=newCap) (rows_brel (P:=E.P) (σ:=σ) (fr:=(0,0)) (rest:=rest) r1 r4 r5 r3 e5 hcs (.inl (Nat.le_refl _))) e2 e3
           refine ⟨_,_,w',e1,?_,hp⟩
           obtain ⟨k',hk'⟩:=lenX_den (ρ:=(σ.add S.next (w.heap.size,newCap)).rho) r1
           simp only [AV.inst,hsg,X.nat_iff.2 ⟨k',hk'⟩]
           rw [if_pos (by omega)]
           simp
          ·cases h
         ·cases h
        ·split at h
         ·rename_i o x₀ id hown
          obtain ⟨b,κ,rows,rest,fr,ho,rfl,hle,hx₀,_,hsch,hnone⟩:=sOwn_ok hE hS hi hs hown
          split at h
          ·rename_i hc
           obtain ⟨d1,d2⟩:=zb hc
           have hfit : ∀ r ∈ rows ++ rs,RowFits sch r:=by
            intro r hr
            rcases List.mem_append.1 hr with hr | hr
            ·cases o with
             | none => rw [hnone rfl] at hr; cases hr
             | some sch' =>
               rw [yR d1]
               exact (hsch sch' rfl).1 r hr
            ·exact r3 r hr
           have hcat:=catX_den hx₀ r1
           obtain ⟨k',hk'⟩:=lenX_den hcat
           have g2:=Env.ltF_ok hA d2 (a:=.num 1000000000) (k:=.i64) rfl hk'
           have hlen2 : (rows ++ rs).length = rows.length + rs.length:=List.length_append
           have hroww : ∀ r ∈ rows,r.length = i.size:=fun r hr => by
            have:=hfit r (List.mem_append_left _ hr)
            rw [this.length,r4]
           have hfl0:=flatten_length hroww
           obtain ⟨blk,hblk⟩:=ho.blk
           obtain ⟨κ₀,hsig,hk0⟩:=ho.sig
           have hold : ∀ w₁ : World,w₁.heap = w.heap→(Builtin.firstCells i.size rows.length (.slice (some ⟨b,0,none⟩) rows.length κ)).run E.P w₁ = .ok rows.flatten.toArray w₁:=fun w₁ hw => by
            have:=load_rows (P:=E.P) (w:=w₁) (b:=b) (rows:=rows) (pre:=[]) (rest:=rest) (t:=elem) (fr:=fr) (by rw [hw]; simpa using ho.obj) hfl0.symm
            simpa [Builtin.firstCells] using this
           unfold sGrown at h
           split at h
           ·rename_i S₁ hn
            cases h
            by_cases hroom : rows.length + rs.length≤κ
            ·-- in place
             have hsz : (rows.length + rs.length) * i.size≤κ * i.size:=Nat.mul_le_mul_right _ hroom
             have hin : 0 + rows.length * i.size + rs.flatten.length≤(rows.flatten ++ rest).length:=by
              rw [hfl,Nat.zero_add,← Nat.add_mul]
              exact Nat.le_trans hsz ho.cap
             have hone : ∀ v ∈ rs.flatten,v.oneCell' = true:=fun v hv => by
              obtain ⟨r,hr,hvr⟩:=List.mem_flatten.1 hv
              exact (r3 r hr).one v hvr
             have hrun:=store_cells (P:=E.P) b (0 + rows.length * i.size) elem fr rs.flatten 0 (rows.flatten ++ rest).toArray w ho.obj (by simpa using ho.free) (by simpa using hin) hone
             have hrm:=run_room hE (w:=w) (ty:=ty) h0 hi1 ht hi (b:=b) (off:=0) (sLen:=rows.length) (sCap:=κ) hroom (r6 E.P w) (r7 w rfl) hrun
             unfold anew at hn
             split at hn
             ·rename_i hnx
              cases hn
              simp only at hnx
              have hcont : ((rows.flatten ++ rest).toArray.toList.take (0 + rows.length * i.size + 0) ++ rs.flatten ++ (rows.flatten ++ rest).toArray.toList.drop (0 + rows.length * i.size + 0 + rs.flatten.length)) = (rows ++ rs).flatten ++ (rest.drop rs.flatten.length):=by
               simp only [Nat.zero_add,Nat.add_zero]
               rw [← hfl0,List.flatten_append]
               rw [List.take_append_of_le_length (Nat.le_refl _),List.take_length]
               rw [List.drop_append]
               simp
              rw [hcont] at hrm
              have hlen3 : ((rows ++ rs).flatten ++ rest.drop rs.flatten.length).length = (rows.flatten ++ rest).length:=by
               simp only [List.flatten_append,List.length_append,List.length_drop] at hin ⊢
               rw [hfl0] at hin ⊢
               omega
              refine ⟨σ.add S.next (b,κ),_,_,hrm,?_,?_⟩
              ·have : (σ.add S.next (b,κ)) S.next = some (b,κ):=Sig.add_same _ _ _
               simp only [AV.inst,this,X.nat_iff.2 ⟨k',show (lenX (catX x₀ y)).den (σ.add S.next (b,κ)).rho = _ from hk'⟩]
               rw [if_pos (by omega),hlen2]
              ·exact post_move' hS (zo hnx) hblk ho.lim hsig ho.max (blk₁:=.cells [] elem) ⟨[],_,fr,.nil,rfl,by rw [hcs]; exact Nat.le_trans hk0 (Nat.le_of_eq hlen3.symm),ho.free.imp (fun h => h) (fun h => Nat.le_trans (Nat.le_of_eq hlen3) h),.inr (by simp)⟩ (rows_brel (P:=E.P) (σ:=σ) hcat r4 r5 hfit (by rw [hlen3]; exact ho.cap) hcs (by rw [hlen3]; exact ho.free)) (setRow_eq w b _ ho.obj)
             ·cases hn
            ·-- grown
             have hkill:=rel_kill hS ho.lim ho.max
             obtain ⟨newCap,rest',w',e1,e2,e3,e4,e5⟩:=run_grow (w:=w) (ty:=ty) hE h0 hi1 ht hi (base:=some ⟨b,0,none⟩) (sLen:=rows.length) (sCap:=κ) (n:=rs.length) (olds:=rows.flatten) (news:=rs.flatten) (by omega) (r6 E.P w) hold r7 hz q1' (hbytes _ (by omega)) (by omega) (by rw [List.length_append,hfl0,hfl,Nat.add_mul])
             rw [← List.flatten_append] at e2 e5
             obtain ⟨hp,hsg⟩:=anew_ok hkill.rel hn (κ:=newCap) (rows_brel (P:=E.P) (σ:=σ) (fr:=(0,0)) (rest:=rest') hcat r4 r5 hfit e5 hcs (.inl (Nat.le_refl _))) e2 e3
             refine ⟨_,_,w',e1,?_,hkill.trans hp⟩
             simp only at hsg
             simp only [AV.inst,hsg,X.nat_iff.2 ⟨k',show (lenX (catX x₀ y)).den (σ.add S.next (w.heap.size,newCap)).rho = _ from hk'⟩]
             rw [if_pos (by omega),hlen2]
           ·cases h
          ·cases h
         ·cases h
       ·cases h
      ·cases h
     ·cases h
    ·cases h
   ·cases h
  ·cases h
 ·cases h
noncomputable def sappend0 (E : Env) (S : ASt) (argTypes : Array TypeId) (s x : AV) : Option (AV×ASt):=none
theorem sappend0_ok (hE : E.Ok) (hS : S.rel E.P σ w Wr) {argTypes : Array TypeId} {ty : TypeId} {s x v : AV} {su xu : Value} (hs : s.inst σ = some su) (hx : x.inst σ = some xu)
  (h : sappend0 E S argTypes s x = some (v,S')) : VPost E σ S w Wr ((Builtin.append_ argTypes ty #[su,xu]).run E.P w) v S':=by
 unfold sappend0 at h
 cases h
noncomputable def sappendZ0 (E : Env) (S : ASt) (argTypes : Array TypeId) (s x : AV) : Option (AV×ASt):=
 match s with
 | .nilslice => match argTypes[0]? with
   | some t => match notIntT E argTypes[1]? with
     | true => match E.und t with
       | some (.slice elem) => match E.inf elem with
         | some i => match sSrc E S i.size x with
           | some (_,_,c) => match E.ltF (.num 0) c with
             | true => some (.nilslice,S)
             | false => none
           | none => none
         | none => none
       | _ => none
     | false => none
   | none => none
 | _ => none
theorem sappendZ0_ok (hE : E.Ok) (hA : E.At σ) (hS : S.rel E.P σ w Wr) {argTypes : Array TypeId} {ty : TypeId} {s x v : AV} {su xu : Value} (hs : s.inst σ = some su) (hx : x.inst σ = some xu)
  (h : sappendZ0 E S argTypes s x = some (v,S')) : VPost E σ S w Wr ((Builtin.append_ argTypes ty #[su,xu]).run E.P w) v S':=by
 unfold sappendZ0 at h
 split at h
 ·split at h
  ·rename_i t h0
   split at h
   ·rename_i hi1
    split at h
    ·rename_i elem ht
     split at h
     ·rename_i i hi
      split at h
      ·rename_i sch y c hsrc
       split at h
       ·rename_i hz
        cases h
        obtain ⟨rs,r1,⟨k,r2⟩,r3,r4,r5,r6,r7⟩:=sSrc_ok hA hS hx hsrc
        have hlen:=Env.ltF_ok hA hz (a:=.num 0) (k:=.i64) rfl r2
        have hnil : rs = []:=List.eq_nil_of_length_eq_zero (by omega)
        subst hnil
        simp only [AV.inst,Option.some.injEq] at hs
        subst hs
        have h6:=r6 E.P w
        have h7:=r7 w rfl
        refine .same hS (u:=.slice none 0 0) ?_ rfl
        rw [append_types hE h0 hi1]
        simp only [List.length_nil,List.flatten_nil] at h6 h7
        simp [Builtin.append_,zA hE ht,z8 hE (show E.size elem = some i.size by simp [Env.size,hi]),h6,h7]
       ·cases h
      ·cases h
     ·cases h
    ·cases h
   ·cases h
  ·cases h
 ·cases h
noncomputable def sappendE (E : Env) (S : ASt) (argTypes : Array TypeId) (s x : AV) : Option (AV×ASt):=
 match x with
 | .slice _ _ n _ _ => match Nat.beq n 0 with
   | true => match s with
     | .slo id w len => match argTypes[0]? with
       | some t => match notIntT E argTypes[1]? with
         | true => match E.und t with
           | some (.slice elem) => match E.inf elem with
             | some _ => some (.slo id w len,S)
             | none => none
           | _ => none
         | false => none
       | none => none
     | _ => none
   | false => none
 | _ => none
theorem sappendE_ok (hE : E.Ok) (hS : S.rel E.P σ w Wr) {argTypes : Array TypeId} {ty : TypeId} {s x v : AV} {su xu : Value} (hs : s.inst σ = some su) (hx : x.inst σ = some xu)
  (h : sappendE E S argTypes s x = some (v,S')) : VPost E σ S w Wr ((Builtin.append_ argTypes ty #[su,xu]).run E.P w) v S':=by
 unfold sappendE at h
 split at h
 ·split at h
  ·rename_i hz
   obtain rfl:=Nat.eq_of_beq_eq_true hz
   split at h
   ·split at h
    ·rename_i t h0
     split at h
     ·rename_i hi1
      split at h
      ·rename_i elem ht
       split at h
       ·rename_i i hi
        cases h
        obtain ⟨b,κ,n,f1,f4,f6,rfl⟩:=inst_slo hs
        obtain ⟨b',κ',g1,g2,rfl⟩:=yT hx
        refine .same hS (u:=.slice (some ⟨b,0,none⟩) n κ) ?_ hs
        rw [append_types hE h0 hi1]
        simp [Builtin.append_,Builtin.lenOf,Builtin.firstCells,loadCells,loadCellsFrom,storeCells,zA hE ht,z8 hE (show E.size elem = some i.size by simp [Env.size,hi]),f6]
       ·cases h
      ·cases h
     ·cases h
    ·cases h
   ·cases h
  ·cases h
 ·cases h
noncomputable def sappend (E : Env) (S : ASt) (argTypes : Array TypeId) (s x : AV) : Option (AV×ASt):=match sappend0 E S argTypes s x with
 | some r => some r
 | none => match sappendR E S argTypes s x with
   | some r => some r
   | none => match sappendE E S argTypes s x with
     | some r => some r
     | none => sappendZ0 E S argTypes s x
theorem sappend_ok (hE : E.Ok) (hA : E.At σ) (hS : S.rel E.P σ w Wr) {argTypes : Array TypeId} {ty : TypeId} {s x v : AV} {su xu : Value} (hs : s.inst σ = some su) (hx : x.inst σ = some xu)
  (h : sappend E S argTypes s x = some (v,S')) : VPost E σ S w Wr ((Builtin.append_ argTypes ty #[su,xu]).run E.P w) v S':=by
 unfold sappend at h
 split at h
 ·rename_i r hr
  cases h
  exact sappend0_ok hE hS hs hx hr
 ·split at h
  ·rename_i r hr
   cases h
   exact sappendR_ok hE hA hS hs hx hr
  ·split at h
   ·rename_i r hr
    cases h
    exact sappendE_ok hE hS hs hx hr
   ·exact sappendZ0_ok hE hA hS hs hx h
noncomputable def smake (E : Env) (S : ASt) (t : TypeId) (len cap : AV) : Option (AV×ASt):=
 match len,cap with
 | .int _ (.ofNat l),.sint _ c => match E.und t with
   | some (.slice elem) => match E.inf elem with
     | some i => match E.zero elem with
       | some z => match z.isTuple with
         | true => none
         | false => match toRow z.cells with
           | some (sch,_) => match andB (Nat.beq l 0) (andB (E.ltF c (.num 0)) (andB (E.ltF maxLenX c) (andB (Nat.ble (i.bytes * 1000000000) 281474976710656) (andB (Nat.blt 0 i.size) (andB (Nat.beq sch.length i.size) (Nat.beq z.cells.length i.size)))))) with
             | true => sGrown S i.size sch .nil elem
             | false => none
           | none => none
       | none => none
     | none => none
   | _ => none
 | _,_ => none
theorem smake_ok (hE : E.Ok) (hA : E.At σ) (hS : S.rel E.P σ w Wr) {t : TypeId} {len cap v : AV} {u y : Value} (hl : len.inst σ = some u) (hc : cap.inst σ = some y) (h : smake E S t len cap = some (v,S')) :
  VPost E σ S w Wr ((Instr.makeSlice t u y).run E.P w) v S':=by
 unfold smake at h
 split at h
 ·rename_i kl l kc c
  cases inst_int hl
  obtain ⟨m,k',rfl,hm⟩:=toI_ok (a:=.sint kc c) rfl hc
  split at h
  ·rename_i elem ht
   split at h
   ·rename_i i hi
    split at h
    ·rename_i z hz
     split at h
     ·cases h
     ·rename_i htu
      split at h
      ·rename_i sch xs hrow
       split at h
       ·rename_i hb
        obtain ⟨b0,b1⟩:=zb hb
        obtain ⟨b1,b2⟩:=zb b1
        obtain ⟨b2,b3⟩:=zb b2
        obtain ⟨b3,b4⟩:=zb b3
        obtain ⟨b4,b5⟩:=zb b4
        obtain ⟨b5,b6⟩:=zb b5
        obtain rfl:=Nat.eq_of_beq_eq_true b0
        have b3':=Nat.le_of_ble_eq_true b3
        have b4':=zo b4
        have b5':=Nat.eq_of_beq_eq_true b5
        have b6':=Nat.eq_of_beq_eq_true b6
        have g1:=Env.ltF_ok hA b1 hm (b:=.num 0) (k':=.i64) rfl
        have g2:=Env.ltF_ok hA b2 (a:=.num 1000000000) (k:=.i64) rfl hm
        obtain ⟨n,rfl⟩:=Int.eq_ofNat_of_zero_le g1
        have hn9 : n≤1000000000:=by omega
        have hby : i.bytes * n≤281474976710656:=Nat.le_trans (Nat.mul_le_mul_left _ hn9) b3'
        obtain ⟨zv,i',hi',_,hzi,hr⟩:=run_zero (σ:=σ) hE hz
        have hzc:=AV.cells_inst hzi (AV.not_tuple htu)
        have hcs : yo E.P elem = i.size:=by simp [yo,hE.inf _ i hi]
        unfold sGrown at h
        split at h
        ·rename_i S₁ hnw
         cases h
         let ms : List Value:=(List.range (n * i.size)).map fun q => zv.cells.toList.toArray[q % zv.cells.toList.length]!
         have hml : ms.length = n * i.size:=by simp [ms]
         let w' : World:={ w with heap:=w.heap.push (.cells ms.toArray elem (0,0)) }
         have e1 : (newRow elem ms.toArray).run E.P w = .ok ⟨w.heap.size,0,none⟩ w':=by simp [newRow,w']
         have hrel : BRel E.P σ n (.rows i.size sch (.num 0) .nil true elem) (.cells (([] : List (List Value)).flatten ++ ms).toArray elem (0,0)):=
          rows_brel (rows:=[]) rfl b5' b4' (fun r hr => by cases hr) (by simp [hml]) hcs (.inl (Nat.le_refl _))
         obtain ⟨hp,hsg⟩:=anew_ok hS hnw (κ:=n) (o:=.cells ms.toArray elem (0,0)) (w':=w') (by simpa using hrel) rfl
         refine ⟨_,.slice (some ⟨w.heap.size,0,none⟩) 0 n,w',?_,?_,hp⟩
         ·have w1 : IntKind.i64.wrap (0 : Int) = 0:=rfl
          have w2 : IntKind.i64.wrap (n : Int) = n:=IntWalk.i64_in _ (by omega)
          have n1 : ¬ ((n : Int) < 0):=by omega
          have n4 : ¬ ((281474976710656 : Int) < (i.bytes : Int) * (n : Int)):=by
           rw [← Int.natCast_mul]
           omega
          have e0 : (((Array.range (n * i.size)).map fun x => zv.cells[x % zv.cells.size]!)) = ms.toArray:=by
           apply Array.ext'
           simp [ms]
          by_cases h0 : n = 0
          ·subst h0
           have hms : ms = []:=List.eq_nil_of_length_eq_zero (by rw [hml]; simp)
           have e1' : (newRow elem #[]).run E.P w = .ok ⟨w.heap.size,0,none⟩ w':=by rw [hms] at e1; exact e1
           simp [Instr.makeSlice,zA hE ht,asInt,asIntOf,run_inf hE hi,sizeOf,w1,show Array.range 0 = #[] from rfl,e1']
          ·rw [← e0] at e1
           have h1 : ¬ n * i.size = 0:=fun e => by rcases Nat.mul_eq_zero.1 e with e | e <;> omega
           have h2 : ¬ i.size = 0:=by omega
           simp [Instr.makeSlice,zA hE ht,asInt,asIntOf,run_inf hE hi,sizeOf,w1,w2,n1,n4,h1,hr,e1]
         ·have hz0 : (lenX .nil).nat (σ.add S.next (w.heap.size,n)).rho = some 0:=X.nat_iff.2 ⟨.i64,rfl⟩
          simp only [AV.inst,hsg,hz0]
          rw [if_pos (Nat.zero_le _)]
        ·cases h
       ·cases h
      ·cases h
    ·cases h
   ·cases h
  ·cases h
 ·cases h
end
open Go
theorem ba_beq (a b : ByteArray) : (a == b) = true↔a = b:=by
 rcases a with ⟨a⟩
 rcases b with ⟨b⟩
 show (a == b) = true↔_
 simp
theorem sameV_eq {a b : Value} (h : sameV a b = true) : a = b:=by
 unfold sameV at h
 split at h
 ·simp only [Bool.and_eq_true,decide_eq_true_eq,beq_iff_eq] at h; rw [h.1,h.2]
 ·rw [eq_of_beq h]
 ·rw [(ba_beq _ _).1 h]
 ·cases h
theorem begins_eq : ∀ {a b : List Value},a.length = b.length→y8 a b = true→a = b
 | [],[],_,_ => rfl
 | a :: l,b :: m,hl,h => by
   simp only [y8,Bool.and_eq_true] at h
   rw [sameV_eq h.1,begins_eq (by simpa using hl) h.2]
 | [],_ :: _,hl,_ => by simp at hl
 | _ :: _,[],hl,_ => by simp at hl
theorem begins_append : ∀ {a b : List Value} (c : List Value),a.length = b.length→y8 a (b ++ c) = y8 a b
 | [],[],c,_ => rfl
 | a :: l,b :: m,c,hl => by
   simp only [List.cons_append,y8]
   rw [begins_append c (by simpa using hl)]
 | [],_ :: _,_,hl => by simp at hl
 | _ :: _,[],_,hl => by simp at hl
theorem sameV_refl {c : CK} {v : Value} (h : c.fits v) : sameV v v = true:=by
 cases c with
 | int k => obtain ⟨n,rfl⟩:=h; simp [sameV]
 | bool => obtain ⟨n,rfl⟩:=h; simp [sameV]
 | str => obtain ⟨n,rfl⟩:=h; exact (ba_beq n n).2 rfl
theorem begins_refl {s : List CK} {r : List Value} (h : RowFits s r) : y8 r r = true:=by
 induction h with
 | nil => rfl
 | cons hc _ ih => simp [y8,sameV_refl hc,ih]
structure KeyOk (P : Program) (kt : TypeId) (kag : Bool) (ks : List CK) : Prop where
 asks : ∀ (b : Bool) (kc : List Value) (w : World),RowFits ks kc→(Instr.checkKey b 10000 kt (yL kag kc)).run P w = .ok () w
 eq : ∀ (kc kc' : List Value) (w : World),RowFits ks kc→RowFits ks kc'→(Op.equal kt (yL kag kc) (yL kag kc')).run P w = .ok (y8 kc kc') w
 now : ∀ (d : TypeDesc) (kc kc' : List Value) (b : Bool),RowFits ks kc→RowFits ks kc'→Instr.sameNow d (yL kag kc) (yL kag kc') = some b→b = y8 kc kc'
 same : ∀ kc : List Value,RowFits ks kc→Instr.sameBits 10000 (yL kag kc) (yL kag kc) = true
 und : ∃ d,P.underlying kt = some d
section
variable {P : Program} {kt : TypeId} {kag vag : Bool} {ks vs : List CK} {kc : List Value}
theorem findNow_rows (K : KeyOk P kt kag ks) (hk : RowFits ks kc) {d : TypeDesc} : ∀ {es : List MapEntry} {rows : List (List Value)} {i : Nat} {r : Option (Nat×Value)},EntRows kag ks vag vs es rows →
  Instr.findNow d (yL kag kc) es i = some r→r = findER kc es rows i
 | [],[],i,r,_,h => by simp only [Instr.findNow,Option.some.injEq] at h; exact h.symm
 | e :: es,q :: rows,i,r,h,hn => by
   obtain ⟨⟨kc',vc,rfl,f1,f2,e1,e2⟩,h⟩:=h
   simp only [Instr.findNow] at hn
   have hb:=begins_append vc (show kc.length = kc'.length by rw [hk.length,f1.length])
   simp only [findER]
   rw [hb]
   cases hs : Instr.sameNow d (yL kag kc) e.key with
   | none => rw [hs] at hn; cases hn
   | some b =>
     rw [hs] at hn
     have hq:=hs
     rw [e1] at hq
     have hb':=K.now d kc kc' b hk f1 hq
     rw [← hb']
     cases b with
     | true => simp only [Option.some.injEq] at hn; exact hn.symm
     | false => exact findNow_rows K hk h hn
 | [],_ :: _,_,_,h,_ => by cases h
 | _ :: _,[],_,_,h,_ => by cases h
theorem findAsking_rows (K : KeyOk P kt kag ks) (hk : RowFits ks kc) : ∀ {es : List MapEntry} {rows : List (List Value)} {i : Nat} (w : World),EntRows kag ks vag vs es rows →
  (Instr.findAsking kt (yL kag kc) es i).run P w = .ok (findER kc es rows i) w
 | [],[],i,w,_ => rfl
 | e :: es,q :: rows,i,w,h => by
   obtain ⟨⟨kc',vc,rfl,f1,f2,e1,e2⟩,h⟩:=h
   have hb:=begins_append vc (show kc.length = kc'.length by rw [hk.length,f1.length])
   simp only [findER,Instr.findAsking,Sem.run_bind]
   rw [hb,e1,K.eq kc kc' w hk f1]
   simp only [Result.andThen_ok]
   cases y8 kc kc' with
   | true => rfl
   | false => exact findAsking_rows K hk w h
 | [],_ :: _,_,_,h => by cases h
 | _ :: _,[],_,_,h => by cases h
theorem findKey_rows (K : KeyOk P kt kag ks) (hk : RowFits ks kc) {es : List MapEntry} {rows : List (List Value)} (h : EntRows kag ks vag vs es rows) (w : World) :
  (Instr.findKey kt (yL kag kc) es).run P w = .ok (findER kc es rows 0) w:=by
 obtain ⟨d,hd⟩:=K.und
 unfold Instr.findKey
 simp only [Sem.run_bind,run_underlying hd,Result.andThen_ok]
 cases hn : Instr.findNow d (yL kag kc) es 0 with
 | some r => rw [findNow_rows K hk h hn]; rfl
 | none => exact findAsking_rows K hk w h
theorem findER_none : ∀ {es : List MapEntry} {rows : List (List Value)} {i : Nat},EntRows kag ks vag vs es rows→findER kc es rows i = none→mapHas rows kc = false∧∀ row,putRow kc row rows = rows ++ [row]
 | [],[],i,_,_ => ⟨rfl,fun _ => rfl⟩
 | e :: es,q :: rows,i,h,hf => by
   simp only [findER] at hf
   split at hf
   ·cases hf
   ·rename_i hb
    obtain ⟨h1,h2⟩:=findER_none h.2 hf
    refine ⟨?_,fun row => ?_⟩
    ·simp only [mapHas,List.any_cons,hb,Bool.false_or]; exact h1
    ·simp only [putRow,hb,h2,List.cons_append]
 | [],_ :: _,_,h,_ => by cases h
 | _ :: _,[],_,h,_ => by cases h
theorem findER_some : ∀ {es : List MapEntry} {rows : List (List Value)} {i j : Nat} {v : Value},EntRows kag ks vag vs es rows→findER kc es rows i = some (j,v) →
  ∃ n e row,j = i + n∧es[n]? = some e∧v = e.val∧mapHas rows kc = true∧mapRow rows kc = some row∧y8 kc row = true ∧
    (∃ kc' vc,row = kc' ++ vc∧RowFits ks kc'∧RowFits vs vc∧e.key = yL kag kc'∧e.val = yL vag vc) ∧
    ∀ (e' : MapEntry) (row' : List Value),(∃ kc' vc,row' = kc' ++ vc∧RowFits ks kc'∧RowFits vs vc∧e'.key = yL kag kc'∧e'.val = yL vag vc)→EntRows kag ks vag vs (es.set n e') (putRow kc row' rows)
 | e :: es,q :: rows,i,j,v,h,hf => by
   simp only [findER] at hf
   split at hf
   ·rename_i hb
    cases hf
    refine ⟨0,e,q,rfl,rfl,rfl,by simp [mapHas,hb],by simp [mapRow,hb],hb,h.1,fun e' row' hr => ?_⟩
    simp only [List.set_cons_zero,putRow,hb]
    exact ⟨hr,h.2⟩
   ·rename_i hb
    obtain ⟨n,e0,row,g1,g2,g3,g4,g5,g6,g7,g8⟩:=findER_some h.2 hf
    refine ⟨n + 1,e0,row,by omega,by simpa using g2,g3,?_,?_,g6,g7,fun e' row' hr => ?_⟩
    ·simp only [mapHas,List.any_cons,hb,Bool.false_or]; exact g4
    ·simp only [mapRow,List.find?_cons,hb]; exact g5
    ·simp only [List.set_cons_succ,putRow,hb]
     exact ⟨h.1,g8 e' row' hr⟩
 | [],[],_,_,_,_,hf => by cases hf
 | [],_ :: _,_,_,_,h,_ => by cases h
 | _ :: _,[],_,_,_,h,_ => by cases h
theorem findER_ne (K : KeyOk P kt kag ks) (hk : RowFits ks kc) (w : World) : ∀ {es : List MapEntry} {rows : List (List Value)} {i : Nat},EntRows kag ks vag vs es rows→findER kc es rows i = none→∀ e ∈ es,e.key≠yL kag kc
 | [],[],i,_,_,e,he => by cases he
 | e :: es,q :: rows,i,h,hf,e',he => by
   obtain ⟨⟨kc',vc,rfl,f1,f2,e1,e2⟩,h⟩:=h
   simp only [findER] at hf
   rw [begins_append vc (show kc.length = kc'.length by rw [hk.length,f1.length])] at hf
   split at hf
   ·cases hf
   ·rename_i hb
    rcases List.mem_cons.1 he with rfl | he
    ·rw [e1]
     intro heq
     have h1:=K.eq kc kc' w hk f1
     have h2:=K.eq kc kc w hk hk
     rw [heq,h2,begins_refl hk] at h1
     exact absurd (h1.trans (congrArg (fun b => (Result.ok b w : Result Bool)) hb)) (by intro hx; cases hx)
    ·exact findER_ne K hk w h hf e' he
 | [],_ :: _,_,h,_,_,_ => by cases h
 | _ :: _,[],_,h,_,_,_ => by cases h
theorem EntRows.snoc : ∀ {es : List MapEntry} {rows : List (List Value)},EntRows kag ks vag vs es rows→∀ {e' : MapEntry} {row' : List Value},(∃ kc' vc,row' = kc' ++ vc∧RowFits ks kc'∧RowFits vs vc∧e'.key = yL kag kc'∧e'.val = yL vag vc) →
  EntRows kag ks vag vs (es ++ [e']) (rows ++ [row'])
 | [],[],_,_,_,hr => ⟨hr,trivial⟩
 | e :: es,q :: rows,h,_,_,hr => ⟨h.1,EntRows.snoc h.2 hr⟩
 | [],_ :: _,h,_,_,_ => by cases h
 | _ :: _,[],h,_,_,_ => by cases h
end
section
variable {E : Env} {σ : Sig} {S S' : ASt} {w : World} {Wr : Nat→Prop}
noncomputable def ckVar : CK→Nat→AV
 | .int k,i => .sint k (.var i)
 | .bool,i => .sbool (.var i)
 | .str,i => .sstr (.var i)
noncomputable def ckVars : Nat→List CK→List AV
 | _,[] => []
 | i,c :: cs => ckVar c i :: ckVars (i + 1) cs
def eqCK : CK→X→X→X
 | .int _,a,b => eqI a b
 | .bool,a,b => eqB a b
 | .str,a,b => eqS a b
def eqCKs : Nat→Nat→List CK→X
 | _,_,[] => .boo true
 | i,j,c :: cs => andX (eqCK c (.var i) (.var j)) (eqCKs (i + 1) (j + 1) cs)
theorem ckVar_ok {c : CK} {i : Nat} {v : Value} (hv : c.fits v) (hx : σ.rho.val i = some v) : (ckVar c i).inst σ = some v:=by
 cases c with
 | int k => obtain ⟨n,rfl⟩:=hv; exact mkI_ok (x:=.var i) hx
 | bool =>
   obtain ⟨b,rfl⟩:=hv
   show (match (X.var i).bool σ.rho with | some b => some (Value.bool b) | none => none) = _
   rw [X.bool_iff.2 (show (X.var i).den σ.rho = _ from hx)]
 | str => obtain ⟨s,rfl⟩:=hv; exact mkS_ok (x:=.var i) hx
theorem ckVars_ok : ∀ {cs : List CK} {i : Nat} {r : List Value},RowFits cs r→(∀ j v,r[j]? = some v→σ.rho.val (i + j) = some v)→Ins σ (ckVars i cs) r
 | [],i,r,h,_ => by cases h; exact .nil
 | c :: cs,i,r,h,hv => by
   cases h with
   | cons hc hr =>
     refine .cons (ckVar_ok hc (hv 0 _ rfl)) (ckVars_ok hr fun j v hj => ?_)
     have:=hv (j + 1) v (by simpa using hj)
     rw [show i + 1 + j = i + (j + 1) by omega]; exact this
theorem eqCK_den {ρ : Rho} {c : CK} {a b : X} {u v : Value} (hu : c.fits u) (hv : c.fits v) (ha : a.den ρ = some u) (hb : b.den ρ = some v) : (eqCK c a b).den ρ = some (.bool (sameV u v)):=by
 cases c with
 | int k =>
   obtain ⟨n,rfl⟩:=hu
   obtain ⟨m,rfl⟩:=hv
   have:=eqI_den ha hb
   simpa [eqCK,sameV] using this
 | bool =>
   obtain ⟨n,rfl⟩:=hu
   obtain ⟨m,rfl⟩:=hv
   simpa [eqCK,sameV] using eqB_den ha hb
 | str =>
   obtain ⟨n,rfl⟩:=hu
   obtain ⟨m,rfl⟩:=hv
   simpa [eqCK,sameV] using eqS_den ha hb
theorem eqCKs_den {ρ : Rho} : ∀ {cs : List CK} {i k : Nat} {p q : List Value},RowFits cs p→RowFits cs q→(∀ j v,p[j]? = some v→ρ.val (i + j) = some v)→(∀ j v,q[j]? = some v→ρ.val (k + j) = some v) →
  (eqCKs i k cs).den ρ = some (.bool (y8 p q))
 | [],i,k,p,q,h,h',_,_ => by cases h; cases h'; rfl
 | c :: cs,i,k,p,q,h,h',hp,hq => by
   cases h with
   | cons hc hr =>
     cases h' with
     | cons hc' hr' =>
       simp only [eqCKs,y8]
       refine andX_den (eqCK_den hc hc' (hp 0 _ rfl) (hq 0 _ rfl)) (eqCKs_den hr hr' (fun j v hj => ?_) fun j v hj => ?_)
       ·have:=hp (j + 1) v (by simpa using hj)
        rw [show i + 1 + j = i + (j + 1) by omega]; exact this
       ·have:=hq (j + 1) v (by simpa using hj)
        rw [show k + 1 + j = k + (j + 1) by omega]; exact this
noncomputable def plainT (E : Env) (t : TypeId) : Bool:=match E.und t with
 | some .bool => true
 | some (.int _) => true
 | some .string => true
 | _ => false
noncomputable def keyFields (E : Env) (n : Nat) (ks : List CK) : List Field→Bool
 | [] => true
 | f :: fs => match decide (f.name≠"_") with
   | true => match plainT E f.type with
     | true => match apart E f.type (ckVars 0 ks) f.offset with
       | some _ => keyFields E n ks fs
       | none => false
     | false => false
   | false => keyFields E n ks fs
noncomputable def keyT (E : Env) (kt : TypeId) (kag : Bool) (ks : List CK) : Bool:=
 match kag with
 | false => match ks with
   | [.int _] => match E.und kt with
     | some (.int _) => true
     | _ => false
   | [.str] => match E.und kt with
     | some .string => true
     | _ => false
   | [.bool] => match E.und kt with
     | some .bool => true
     | _ => false
   | _ => false
 | true => match E.und kt with
   | some (.struct fs) => match keyFields E 0 ks fs.toList with
     | true => match sEq E 60 kt (.agg (ckVars 0 ks)) (.agg (ckVars ks.length ks)) with
       | some x => yB x (eqCKs 0 ks.length ks)
       | none => false
     | false => false
   | _ => false
theorem check_plain (hE : E.Ok) {t : TypeId} (h : plainT E t = true) (b : Bool) (n : Nat) (v : Value) (w : World) : (Instr.checkKey b (n + 1) t v).run E.P w = .ok () w:=by
 unfold plainT at h
 split at h
 ·rename_i ht; simp [Instr.checkKey,zA hE ht]
 ·rename_i ht; simp [Instr.checkKey,zA hE ht]
 ·rename_i ht; simp [Instr.checkKey,zA hE ht]
 ·cases h
theorem sameBits_one {c : CK} {v : Value} (h : c.fits v) (n : Nat) : Instr.sameBits n v v = true:=by
 cases c with
 | int k => obtain ⟨m,rfl⟩:=h; cases n <;> simp [Instr.sameBits]
 | bool => obtain ⟨m,rfl⟩:=h; cases n <;> simp [Instr.sameBits]
 | str => obtain ⟨m,rfl⟩:=h; cases n <;> simpa [Instr.sameBits] using (ba_beq m m).2 rfl
theorem sameBits_agg {cs : List CK} {r : List Value} (h : RowFits cs r) (n : Nat) : Instr.sameBits (n + 1) (.agg r.toArray) (.agg r.toArray) = true:=by
 have : ∀ {cs : List CK} {r : List Value},RowFits cs r→(r.zip r).all (fun p => Instr.sameBits n p.1 p.2) = true:=fun h => by
  induction h with
  | nil => rfl
  | cons hc _ ih => simp only [List.zip_cons_cons,List.all_cons,ih,Bool.and_true,sameBits_one hc]
 have h3:=this h
 simpa [Instr.sameBits] using h3
theorem check_fields (hE : E.Ok) {ks : List CK} {kc : List Value} (hk : RowFits ks kc) (b : Bool) (n : Nat) (w : World) : ∀ {fs : List Field},keyFields E 0 ks fs = true →
  (forIn fs PUnit.unit (fun (f : Field) (_ : PUnit) => (if f.name≠"_" then (do
    let l ← part f.type kc.toArray f.offset
    Instr.checkKey b (n + 1) f.type l
    pure (ForInStep.yield PUnit.unit)) else pure (ForInStep.yield PUnit.unit) : Sem (ForInStep PUnit)))).run E.P w = .ok PUnit.unit w
 | [],_ => by simp
 | f :: fs,h => by
   simp only [keyFields] at h
   split at h
   ·rename_i hname
    have hname' : f.name≠"_":=by simpa using hname
    split at h
    ·rename_i hp
     split at h
     ·rename_i a ha
      have hi : Ins ⟨fun _ => none,⟨fun i => kc[i]?,fun _ _ => none⟩⟩ (ckVars 0 ks) kc:=ckVars_ok hk fun j v hj => by simpa using hj
      obtain ⟨u,_,hr⟩:=apart_ok hE hi ha
      simp only [List.forIn_cons,Sem.run_bind,if_pos hname',hr,Result.andThen_ok,check_plain hE hp]
      simpa using check_fields hE hk b n w h
     ·cases h
    ·cases h
   ·rename_i hname
    have hname' : ¬ (f.name≠"_"):=by simpa using hname
    simp only [List.forIn_cons,Sem.run_bind,if_neg hname',Result.andThen_ok]
    simpa using check_fields hE hk b n w h
theorem check_struct (hE : E.Ok) {t : TypeId} {fs : Array Field} (ht : E.und t = some (.struct fs)) {ks : List CK} {kc : List Value} (hk : RowFits ks kc) (b : Bool) (n : Nat) (w : World) (h : keyFields E 0 ks fs.toList = true) :
  (Instr.checkKey b (n + 1 + 1) t (.agg kc.toArray)).run E.P w = .ok () w:=by
 have:=check_fields hE hk b n w h
 rw [Instr.checkKey]
 simp only [Sem.run_bind,zA hE ht,Result.andThen_ok]
 rw [← Array.forIn_toList,this]
 rfl
theorem keyT_ok (hE : E.Ok) {kt : TypeId} {kag : Bool} {ks : List CK} (h : keyT E kt kag ks = true) : KeyOk E.P kt kag ks:=by
 unfold keyT at h
 split at h
 ·-- one cell
  have one : ∀ {c : CK} {kc : List Value},RowFits [c] kc→∃ v,kc = [v]∧c.fits v:=fun h => by
   rcases h with _ | ⟨hc,hr⟩
   cases hr
   exact ⟨_,rfl,hc⟩
  split at h
  ·rename_i k
   split at h
   ·rename_i q ht
    refine ⟨fun b kc w hk => ?_,fun kc kc' w hk hk' => ?_,fun d kc kc' b hk hk' hs => ?_,fun kc hk => ?_,⟨_,hE.und _ _ ht⟩⟩
    ·obtain ⟨v,rfl,n,rfl⟩:=one hk
     exact check_plain hE (by simp [plainT,ht]) b 9999 _ w
    ·obtain ⟨v,rfl,n,rfl⟩:=one hk
     obtain ⟨v',rfl,n',rfl⟩:=one hk'
     have:=run_equalIn_int w 9999 kt k q n n' (hE.und _ _ ht)
     simp only [yL,List.headD_cons,y8,sameV,Bool.and_true,decide_true,Bool.true_and]
     exact this
    ·obtain ⟨v,rfl,n,rfl⟩:=one hk
     obtain ⟨v',rfl,n',rfl⟩:=one hk'
     simp only [yL,List.headD_cons] at hs
     cases d <;> simp [Instr.sameNow] at hs
     simp [y8,sameV,hs]
    ·obtain ⟨v,rfl,hc⟩:=one hk
     exact sameBits_one hc 10000
   ·cases h
  ·split at h
   ·rename_i ht
    refine ⟨fun b kc w hk => ?_,fun kc kc' w hk hk' => ?_,fun d kc kc' b hk hk' hs => ?_,fun kc hk => ?_,⟨_,hE.und _ _ ht⟩⟩
    ·obtain ⟨v,rfl,n,rfl⟩:=one hk
     exact check_plain hE (by simp [plainT,ht]) b 9999 _ w
    ·obtain ⟨v,rfl,n,rfl⟩:=one hk
     obtain ⟨v',rfl,n',rfl⟩:=one hk'
     have:=run_equalIn_string w 9999 kt n n' (hE.und _ _ ht)
     rw [← beq_toListBytes] at this
     simp only [yL,List.headD_cons,y8,sameV,Bool.and_true]
     exact this
    ·obtain ⟨v,rfl,n,rfl⟩:=one hk
     obtain ⟨v',rfl,n',rfl⟩:=one hk'
     simp only [yL,List.headD_cons] at hs
     cases d <;> simp [Instr.sameNow] at hs
     simp [y8,sameV,hs]
    ·obtain ⟨v,rfl,hc⟩:=one hk
     exact sameBits_one hc 10000
   ·cases h
  ·split at h
   ·rename_i ht
    refine ⟨fun b kc w hk => ?_,fun kc kc' w hk hk' => ?_,fun d kc kc' b hk hk' hs => ?_,fun kc hk => ?_,⟨_,hE.und _ _ ht⟩⟩
    ·obtain ⟨v,rfl,n,rfl⟩:=one hk
     exact check_plain hE (by simp [plainT,ht]) b 9999 _ w
    ·obtain ⟨v,rfl,n,rfl⟩:=one hk
     obtain ⟨v',rfl,n',rfl⟩:=one hk'
     have:=run_equalIn_bool' w 9999 kt n n' (hE.und _ _ ht)
     simp only [yL,List.headD_cons,y8,sameV,Bool.and_true]
     exact this
    ·obtain ⟨v,rfl,n,rfl⟩:=one hk
     obtain ⟨v',rfl,n',rfl⟩:=one hk'
     simp only [yL,List.headD_cons] at hs
     cases d <;> simp [Instr.sameNow] at hs
     simp [y8,sameV,hs]
    ·obtain ⟨v,rfl,hc⟩:=one hk
     exact sameBits_one hc 10000
   ·cases h
  ·cases h
 ·split at h
  ·rename_i fs ht
   split at h
   ·rename_i hf
    split at h
    ·rename_i x hx
     have hu:=hE.und _ _ ht
     refine ⟨fun b kc w hk => ?_,fun kc kc' w hk hk' => ?_,fun d kc kc' b hk hk' hs => ?_,fun kc hk => ?_,⟨_,hu⟩⟩
     ·exact check_struct hE ht hk b 9998 w hf
     ·let σ' : Sig:=⟨fun _ => none,⟨fun i => (kc ++ kc')[i]?,fun _ _ => none⟩⟩
      have hl:=hk.length
      have p1 : ∀ j v,kc[j]? = some v→σ'.rho.val (0 + j) = some v:=fun j v hj => by
       show (kc ++ kc')[0 + j]? = some v
       rw [Nat.zero_add,List.getElem?_append_left (List.getElem?_eq_some_iff.1 hj).1]; exact hj
      have p2 : ∀ j v,kc'[j]? = some v→σ'.rho.val (ks.length + j) = some v:=fun j v hj => by
       show (kc ++ kc')[ks.length + j]? = some v
       rw [← hl,List.getElem?_append_right (by omega),Nat.add_sub_cancel_left]; exact hj
      have i1 : Ins σ' (ckVars 0 ks) kc:=ckVars_ok hk p1
      have i2 : Ins σ' (ckVars ks.length ks) kc':=ckVars_ok hk' p2
      have e1 : (AV.agg (ckVars 0 ks)).inst σ' = some (.agg kc.toArray):=by simp only [AV.inst,instL_iff.2 i1]
      have e2 : (AV.agg (ckVars ks.length ks)).inst σ' = some (.agg kc'.toArray):=by simp only [AV.inst,instL_iff.2 i2]
      obtain ⟨r,h1,h2⟩:=(sEq_both (σ:=σ') hE 60).1 kt _ _ x _ _ hx e1 e2
      rw [zL h,eqCKs_den hk hk' p1 p2] at h1
      cases h1
      exact h2 10000 (by omega) w
     ·simp only [yL] at hs
      cases d <;> simp [Instr.sameNow] at hs
     ·exact sameBits_agg hk 9999
    ·cases h
   ·cases h
  ·cases h
noncomputable def sKey : AV→Option (Bool×List CK×List X)
 | .agg l => match toRow l with
   | some (cs,xs) => some (true,cs,xs)
   | none => none
 | a => match toCell a with
   | some (c,x) => some (false,[c],[x])
   | none => none
theorem sKey_ok {a : AV} {ag : Bool} {cs : List CK} {xs : List X} {u : Value} (h : sKey a = some (ag,cs,xs)) (hu : a.inst σ = some u) : ∃ kc,u = yL ag kc∧RowFits cs kc∧denL σ.rho xs = some kc:=by
 unfold sKey at h
 split at h
 ·split at h
  ·rename_i l cs' xs' hr
   cases h
   obtain ⟨us,rfl,hus⟩:=AV.inst_agg hu
   obtain ⟨h1,h2⟩:=toRow_ok hr hus
   exact ⟨us,rfl,h1,h2⟩
  ·cases h
 ·split at h
  ·rename_i c x hc
   cases h
   obtain ⟨h1,h2⟩:=toCell_ok hc hu
   exact ⟨[u],rfl,.cons h1 .nil,by simp only [denL,h2]⟩
  ·cases h
def keyX (xs : List X) : X:=.snoc .nil xs
theorem keyX_den {ρ : Rho} {xs : List X} {kc : List Value} (h : denL ρ xs = some kc) : (keyX xs).den ρ = some (zQ [kc]):=by simp [keyX,X.den,h,yP,zQ]
theorem keyRow_V (kc : List Value) (l : List (List Value)) : keyRow ((kc :: l).map fun r => Value.agg r.toArray).toArray = kc:=by simp [keyRow,rowOf]
theorem has_den {ρ : Rho} {m : X} {xs : List X} {rows : List (List Value)} {kc : List Value} (hm : m.den ρ = some (zQ rows)) (hk : denL ρ xs = some kc) : (X.op2 .mhas m (keyX xs)).den ρ = some (.bool (mapHas rows kc)):=by
 simp only [X.den,hm,keyX_den hk]
 simp only [zQ,den2,rowsOf_V,keyRow_V]
theorem at_den {ρ : Rho} {m : X} {xs : List X} {rows : List (List Value)} {kc row : List Value} {j : Nat} {v : Value} (hm : m.den ρ = some (zQ rows)) (hk : denL ρ xs = some kc) (hr : mapRow rows kc = some row) (hv : row[j]? = some v) :
  (X.op2 (.mat j) m (keyX xs)).den ρ = some v:=by
 simp only [X.den,hm,keyX_den hk]
 simp only [zQ,den2,rowsOf_V,keyRow_V,mapAt,hr,hv]
theorem denL_append {ρ : Rho} : ∀ {xs ys : List X} {a b : List Value},denL ρ xs = some a→denL ρ ys = some b→denL ρ (xs ++ ys) = some (a ++ b)
 | [],ys,a,b,h,h' => by simp only [denL,Option.some.injEq] at h; subst h; exact h'
 | x :: xs,ys,a,b,h,h' => by
   simp only [denL] at h
   cases hx : x.den ρ with
   | none => rw [hx] at h; cases h
   | some v =>
     rw [hx] at h
     cases hl : denL ρ xs with
     | none => rw [hl] at h; cases h
     | some vs =>
       rw [hl] at h
       cases h
       simp only [List.cons_append,denL,hx,denL_append hl h']
theorem put_den {ρ : Rho} {m : X} {xs : List X} {rows : List (List Value)} {row : List Value} {n : Nat} (hm : m.den ρ = some (zQ rows)) (hk : denL ρ xs = some row) :
  (X.op2 (.mput n) m (keyX xs)).den ρ = some (zQ (putRow (row.take n) row rows)):=by
 simp only [X.den,hm,keyX_den hk]
 simp only [zQ,den2,rowsOf_V,keyRow_V]
noncomputable def mapAVs (E : Env) (m k : X) : Nat→List CK→List AV
 | _,[] => []
 | j,c :: cs => ckAV E c (.op2 (.mat j) m k) :: mapAVs E m k (j + 1) cs
noncomputable def mapVal (E : Env) (vag : Bool) (m k : X) (j : Nat) (vs : List CK) : AV:=match vag with
 | true => .agg (mapAVs E m k j vs)
 | false => match vs with
   | c :: _ => ckAV E c (.op2 (.mat j) m k)
   | [] => .nilIface
theorem mapAVs_ok (hA : E.At σ) {m : X} {xs : List X} {rows : List (List Value)} {kc row : List Value} (hm : m.den σ.rho = some (zQ rows)) (hk : denL σ.rho xs = some kc) (hr : mapRow rows kc = some row) :
  ∀ {cs : List CK} {j : Nat} {r : List Value},RowFits cs r→(∀ i v,r[i]? = some v→row[j + i]? = some v)→Ins σ (mapAVs E m (keyX xs) j cs) r
 | [],j,r,h,_ => by cases h; exact .nil
 | c :: cs,j,r,h,hv => by
   cases h with
   | cons hc hl =>
     refine .cons (ckAV_ok hA hc (at_den hm hk hr (hv 0 _ rfl))) (mapAVs_ok hA hm hk hr hl fun i v hi => ?_)
     have:=hv (i + 1) v (by simpa using hi)
     rw [show j + 1 + i = j + (i + 1) by omega]; exact this
theorem mapVal_ok (hA : E.At σ) {m : X} {xs : List X} {rows : List (List Value)} {kc row : List Value} (hm : m.den σ.rho = some (zQ rows)) (hk : denL σ.rho xs = some kc) (hr : mapRow rows kc = some row)
  {vag : Bool} {cs : List CK} {j : Nat} {r : List Value} (hl : (match vag with | true => true | false => Nat.beq cs.length 1) = true) (h : RowFits cs r) (hv : ∀ i v,r[i]? = some v→row[j + i]? = some v) : (mapVal E vag m (keyX xs) j cs).inst σ = some (yL vag r):=by
 cases vag with
 | true =>
   simp only [mapVal,AV.inst,instL_iff.2 (mapAVs_ok hA hm hk hr h hv),yL]
 | false =>
   cases h with
   | nil => simp at hl
   | cons hc _ => exact ckAV_ok hA hc (at_den hm hk hr (hv 0 _ rfl))
noncomputable def mapView (S : ASt) (id : Nat) (kag : Bool) (ks : List CK) : Option (Bool×List CK×X):=
 match S.heap.get id with
 | some (.smap kag' ks' vag vs x) => match andB (sameBo kag kag') (sameSch ks ks') with
   | true => some (vag,vs,x)
   | false => none
 | _ => none
noncomputable def bareMap (S : ASt) (id : Nat) : Bool:=match S.heap.get id with
 | some (.map [] _) => true
 | _ => false
theorem mapView_ok (hS : S.rel E.P σ w Wr) {id : Nat} {kag vag : Bool} {ks vs : List CK} {x : X} (h : mapView S id kag ks = some (vag,vs,x)) :
  S.heap.get id = some (.smap kag ks vag vs x)∧∃ b κ es c rows,σ id = some (b,κ)∧w.heap[b]? = some (.map (es : List MapEntry).toArray c)∧x.den σ.rho = some (zQ rows)∧EntRows kag ks vag vs es rows∧Go.MapKept.Stamped es.toArray c:=by
 unfold mapView at h
 split at h
 ·rename_i kag' ks' vag' vs' x' hb
  split at h
  ·rename_i hc
   obtain ⟨h1,h2⟩:=zb hc
   obtain rfl:=sameBo_ok h1
   obtain rfl:=yR h2
   cases h
   obtain ⟨b,κ,o,e1,e2,es,c,rows,e3,rfl,e4⟩:=hS.at_ id _ hb
   exact ⟨hb,b,κ,es,c,rows,e1,e2,e3,e4⟩
  ·cases h
 ·cases h
theorem bareMap_ok (hS : S.rel E.P σ w Wr) {id : Nat} (h : bareMap S id = true) : ∃ c0,S.heap.get id = some (.map [] c0)∧∃ b κ,σ id = some (b,κ)∧w.heap[b]? = some (.map #[] c0):=by
 unfold bareMap at h
 split at h
 ·rename_i c0 hb
  obtain ⟨b,κ,es',h1,h2,h3⟩:=get_map hS hb
  cases h3
  exact ⟨c0,hb,b,κ,h1,h2⟩
 ·cases h
noncomputable def zeroOf (E : Env) (et : TypeId) (ok : Bool) : Option AV:=match E.zero et with
 | some z => some (match ok with | true => .tuple [z,.bool false] | false => z)
 | none => none
noncomputable def slookup (E : Env) (S : ASt) (t : TypeId) (m k : AV) (ok : Bool) : Option AV:=
 match m with
 | .map id => match E.und t with
   | some (.map kt et) => match sKey k with
     | some (kag,ks,xs) => match keyT E kt kag ks with
       | true => match bareMap S id with
         | true => zeroOf E et ok
         | false => match mapView S id kag ks with
           | some (vag,vs,x) => match (match vag with | true => true | false => Nat.beq vs.length 1) with
             | true => match E.dec (.op2 .mhas x (keyX xs)) with
               | some true => some (match ok with | true => .tuple [mapVal E vag x (keyX xs) ks.length vs,.bool true] | false => mapVal E vag x (keyX xs) ks.length vs)
               | some false => zeroOf E et ok
               | none => none
             | false => none
           | none => none
       | false => none
     | none => none
   | _ => none
 | _ => none
theorem zero_lookup (hE : E.Ok) {t kt et : TypeId} (ht : E.und t = some (.map kt et)) {b c0 : Nat} {kv : Value} {es' : List MapEntry} {ok : Bool} (hb : w.heap[b]? = some (.map es'.toArray c0))
  (hck : (Instr.checkKey es'.toArray.isEmpty 10000 kt kv).run E.P w = .ok () w) (hf : (Instr.findKey kt kv es').run E.P w = .ok none w) {v : AV} (h : zeroOf E et ok = some v) :
  RPost σ w ((Instr.lookup t (.map (some b)) kv ok).run E.P w) v:=by
 unfold zeroOf at h
 split at h
 ·rename_i z hz
  cases h
  obtain ⟨zv,_,_,_,hzi,hr⟩:=run_zero (σ:=σ) hE hz
  refine ⟨if ok then .tuple #[zv,.bool false] else zv,?_,?_⟩
  ·rw [lookup_run hE ht (.inr ⟨b,c0,rfl,hb⟩) hck hf]
   simp [hr]
  ·cases ok with
   | true => simp [AV.inst,instL,hzi]
   | false => simpa using hzi
 ·cases h
theorem slookup_ok (hE : E.Ok) (hA : E.At σ) (hS : S.rel E.P σ w Wr) {t : TypeId} {m k v : AV} {ok : Bool} {mu ku : Value} (hm : m.inst σ = some mu) (hk : k.inst σ = some ku) (h : slookup E S t m k ok = some v) :
  RPost σ w ((Instr.lookup t mu ku ok).run E.P w) v:=by
 unfold slookup at h
 split at h
 ·rename_i id
  split at h
  ·rename_i kt et ht
   split at h
   ·rename_i kag ks xs hkey
    obtain ⟨kc,rfl,hfit,hden⟩:=sKey_ok hkey hk
    split at h
    ·rename_i hkt
     have K:=keyT_ok hE hkt
     split at h
     ·rename_i hbm
      obtain ⟨c0,hb,b,κ,h1,h2⟩:=bareMap_ok hS hbm
      obtain ⟨b',κ',h1',rfl⟩:=inst_map hm
      rw [h1] at h1'; cases h1'
      exact zero_lookup (es':=[]) hE ht h2 (K.asks _ kc w hfit) (findKey_rows (vag:=false) (vs:=[]) (es:=[]) (rows:=[]) K hfit trivial w) h
     ·split at h
      ·rename_i vag vs x hv
       obtain ⟨_,b,κ,es,c,rows,h1,h2,h3,h4,_⟩:=mapView_ok hS hv
       obtain ⟨b',κ',h1',rfl⟩:=inst_map hm
       rw [h1] at h1'; cases h1'
       have hfind:=findKey_rows K hfit h4 w
       have hck:=K.asks es.toArray.isEmpty kc w hfit
       split at h
       ·rename_i hw
        split at h
        ·rename_i hd
         have hhas:=Env.dec_ok hA hd (has_den h3 hden)
         cases hf : findER kc es rows 0 with
         | none => rw [(findER_none h4 hf).1] at hhas; cases hhas
         | some p =>
           obtain ⟨j,vv⟩:=p
           obtain ⟨n,e,row,g1,g2,g3,g4,g5,g6,⟨kc',vc,rfl,f1,f2,f3,f4⟩,_⟩:=findER_some h4 hf
           rw [hf] at hfind
           have hval:=mapVal_ok hA h3 hden g5 hw (j:=ks.length) f2 fun i v hi => by
            rw [← f1.length,List.getElem?_append_right (by omega),Nat.add_sub_cancel_left]; exact hi
           rw [← f4,← g3] at hval
           cases h
           refine ⟨if ok then .tuple #[vv,.bool true] else vv,?_,?_⟩
           ·rw [lookup_run hE ht (.inr ⟨b,c,rfl,h2⟩) hck hfind]
            simp
           ·cases ok with
            | true => simp [AV.inst,instL,hval]
            | false => simpa using hval
        ·rename_i hd
         have hhas:=Env.dec_ok hA hd (has_den h3 hden)
         cases hf : findER kc es rows 0 with
         | none =>
           rw [hf] at hfind
           exact zero_lookup hE ht h2 hck hfind h
         | some p =>
           obtain ⟨j,vv⟩:=p
           obtain ⟨n,e,row,g1,g2,g3,g4,_⟩:=findER_some h4 hf
           rw [g4] at hhas; cases hhas
        ·cases h
       ·cases h
      ·cases h
    ·cases h
   ·cases h
  ·cases h
 ·cases h
noncomputable def sputMap (S : ASt) (id : Nat) (blk : ABlock) : Option ASt:=
 match S.limit id && Nat.blt id zM with
 | true => some { heap:=Trie.put (some blk) depth S.heap id,next:=S.next,limit:=S.limit }
 | false => none
theorem sputMap_ok (hS : S.rel E.P σ w Wr) {id c0 b κ : Nat} {blk0 blk : ABlock} {es0 : Array MapEntry} {o : Obj} (hb : S.heap.get id = some blk0) (hs : σ id = some (b,κ))
  (hw : w.heap[b]? = some (.map es0 c0)) (hi : BRel E.P σ κ blk o) (h : sputMap S id blk = some S') :
  ∃ w',(setObj b o).run E.P w = .ok () w'∧Post E.P σ S w Wr σ S' w':=by
 unfold sputMap at h
 split at h
 ·rename_i hc
  simp only [Bool.and_eq_true] at hc
  cases h
  refine ⟨_,zrun_set (P:=E.P) _ hw,?_⟩
  exact post_set hS hb hc.1 hs hi (zo hc.2) rfl
 ·cases h
noncomputable def supdate (E : Env) (S : ASt) (t : TypeId) (m k v : AV) : Option ASt:=
 match m with
 | .map id => match E.und t with
   | some (.map kt _) => match sKey k with
     | some (kag,ks,xs) => match keyT E kt kag ks with
       | true => match sKey v with
         | some (vag,vs,ys) => match bareMap S id with
           | true => sputMap S id (.smap kag ks vag vs (.op2 (.mput ks.length) .nil (keyX (xs ++ ys))))
           | false => match mapView S id kag ks with
             | some (vag',vs',x) => match andB (sameBo vag vag') (sameSch vs vs') with
               | true => sputMap S id (.smap kag ks vag vs (.op2 (.mput ks.length) x (keyX (xs ++ ys))))
               | false => none
             | none => none
         | none => none
       | false => none
     | none => none
   | _ => none
 | _ => none
theorem update_run (hE : E.Ok) (hS : S.rel E.P σ w Wr) {t kt et : TypeId} (ht : E.und t = some (.map kt et)) {kag vag : Bool} {ks vs : List CK} (K : KeyOk E.P kt kag ks) {id b κ c : Nat} {blk0 : ABlock} {es : List MapEntry} {rows : List (List Value)}
  (hb : S.heap.get id = some blk0) (hs : σ id = some (b,κ)) (hw : w.heap[b]? = some (.map es.toArray c)) (hR : EntRows kag ks vag vs es rows) (hst : Go.MapKept.Stamped es.toArray c) {kc vc : List Value} (hk : RowFits ks kc) (hv : RowFits vs vc) {x : X} {xs : List X}
  (hx : x.den σ.rho = some (zQ rows)) (hxs : denL σ.rho xs = some (kc ++ vc)) (h : sputMap S id (.smap kag ks vag vs (.op2 (.mput ks.length) x (keyX xs))) = some S') :
  UPost E σ S w Wr ((Instr.mapUpdate t (.map (some b)) (yL kag kc) (yL vag vc)).run E.P w) S':=by
 have hput:=put_den (n:=ks.length) hx hxs
 have htk : (kc ++ vc).take ks.length = kc:=by rw [← hk.length,List.take_left']; rfl
 rw [htk] at hput
 have hfind:=findKey_rows K hk hR w
 have hck:=K.asks false kc w hk
 have hnew : ∃ kc' vc',kc ++ vc = kc' ++ vc'∧RowFits ks kc'∧RowFits vs vc'∧yL kag kc = yL kag kc'∧yL vag vc = yL vag vc':=⟨kc,vc,rfl,hk,hv,rfl,rfl⟩
 cases hf : findER kc es rows 0 with
 | none =>
   rw [hf] at hfind
   obtain ⟨_,h2⟩:=findER_none hR hf
   rw [h2] at hput
   have hB : BRel E.P σ κ (.smap kag ks vag vs (.op2 (.mput ks.length) x (keyX xs))) (.map (es ++ [({ key:=yL kag kc,val:=yL vag vc,born:=c } : MapEntry)]).toArray (c + 1)):=⟨_,_,_,hput,rfl,hR.snoc hnew,by
    have:=Go.MapKept.stamped_push hst (key:=yL kag kc) (val:=yL vag vc) (fun x hx => findER_ne K hk w hR hf x (by simpa using hx))
    simpa using this⟩
   obtain ⟨w',r1,r2⟩:=sputMap_ok hS hb hs hw hB h
   refine ⟨σ,w',?_,r2⟩
   simp only [Instr.mapUpdate,Sem.run_bind,zA hE ht,Result.andThen_ok,zrun_get hw,hck,hfind]
   simpa using r1
 | some p =>
   obtain ⟨j,vv⟩:=p
   rw [hf] at hfind
   obtain ⟨n,e,row,g1,g2,g3,g4,g5,g6,⟨kc',vc',rfl,f1,f2,f3,f4⟩,g8⟩:=findER_some hR hf
   rw [begins_append _ (by rw [hk.length,f1.length])] at g6
   obtain rfl:=begins_eq (by rw [hk.length,f1.length]) g6
   obtain rfl : j = n:=by omega
   have hmod:=modify_set es j e (fun e => { e with key:=yL kag kc,val:=yL vag vc }) g2
   have hst' : Go.MapKept.Stamped (es.set j ({ e with key:=yL kag kc,val:=yL vag vc } : MapEntry)).toArray c:=by
    rw [← hmod]
    refine Go.MapKept.stamped_modify hst j _ (fun _ _ => rfl) (fun e' _ h' => ?_)
    have : e' = e:=by rw [List.getElem?_toArray,g2] at h'; exact (Option.some.inj h').symm
    rw [this,f3]
   have hB : BRel E.P σ κ (.smap kag ks vag vs (.op2 (.mput ks.length) x (keyX xs))) (.map (es.set j ({ e with key:=yL kag kc,val:=yL vag vc } : MapEntry)).toArray c):=⟨_,_,_,hput,rfl,g8 _ _ hnew,hst'⟩
   obtain ⟨w',r1,r2⟩:=sputMap_ok hS hb hs hw hB h
   refine ⟨σ,w',?_,r2⟩
   have hst : (Instr.keyThatStays (((es.toArray[j]?).map (·.key)).getD (yL kag kc)) (yL kag kc)).run E.P w = .ok (yL kag kc) w:=by
    simp [g2,f3,Instr.keyThatStays,K.same kc hk]
   simp only [Instr.mapUpdate,Sem.run_bind,zA hE ht,Result.andThen_ok,zrun_get hw,hck,hfind,hst]
   rw [hmod]
   exact r1
theorem supdate_ok (hE : E.Ok) (hS : S.rel E.P σ w Wr) {t : TypeId} {m k v : AV} {mu ku vu : Value} (hm : m.inst σ = some mu) (hk : k.inst σ = some ku) (hv : v.inst σ = some vu)
  (h : supdate E S t m k v = some S') : UPost E σ S w Wr ((Instr.mapUpdate t mu ku vu).run E.P w) S':=by
 unfold supdate at h
 split at h
 ·rename_i id
  split at h
  ·rename_i kt et ht
   split at h
   ·rename_i kag ks xs hkey
    obtain ⟨kc,rfl,hfit,hden⟩:=sKey_ok hkey hk
    split at h
    ·rename_i hkt
     have K:=keyT_ok hE hkt
     split at h
     ·rename_i vag vs ys hval
      obtain ⟨vc,rfl,hfit',hden'⟩:=sKey_ok hval hv
      split at h
      ·rename_i hbm
       obtain ⟨c0,hb,b,κ,h1,h2⟩:=bareMap_ok hS hbm
       obtain ⟨b',κ',h1',rfl⟩:=inst_map hm
       rw [h1] at h1'; cases h1'
       exact update_run (es:=[]) (rows:=[]) hE hS ht K hb h1 h2 trivial (Go.MapKept.stamped_empty c0) hfit hfit' (x:=.nil) rfl (denL_append hden hden') h
      ·split at h
       ·rename_i vag' vs' x hvw
        split at h
        ·rename_i hc
         obtain ⟨c1,c2⟩:=zb hc
         obtain rfl:=sameBo_ok c1
         obtain rfl:=yR c2
         obtain ⟨hb,b,κ,es,c,rows,h1,h2,h3,h4,hst⟩:=mapView_ok hS hvw
         obtain ⟨b',κ',h1',rfl⟩:=inst_map hm
         rw [h1] at h1'; cases h1'
         exact update_run hE hS ht K hb h1 h2 h4 hst hfit hfit' h3 (denL_append hden hden') h
        ·cases h
       ·cases h
     ·cases h
    ·cases h
   ·cases h
  ·cases h
 ·cases h
end
end Go.Proofs.YtfddkbbjnghefaaGreatDoor.Zs
