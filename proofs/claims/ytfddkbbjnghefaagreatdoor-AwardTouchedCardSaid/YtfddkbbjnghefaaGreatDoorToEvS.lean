/-
  slices.Sort and slices.Compact of an own row of numbers: entries of the library, whose premises are what the shelf says.
-/
import Derived.Test.YtfddkbbjnghefaaGreatDoorToEvK
import Derived.Test.YtfddkbbjnghefaaGreatDoorToEvP
import Derived.Maps.Own
import Derived.Lib.SlKeysI
import Derived.Laws.AppendOwn
import Derived.Sort.Row
import Derived.Sort.Grow
import Derived.Lib.SlicesCompact
set_option linter.unusedSimpArgs false
set_option linter.unusedVariables false
namespace Go.Proofs.YtfddkbbjnghefaaGreatDoor.Zs
open Go
def keyI (r : List Value) : Int:=match r with
 | .int _ n :: _ => n
 | _ => 0
def sortK (rows : List (List Value)) : List Int:=(rows.map keyI).mergeSort fun x y => decide (x≤y)
def yg (l : List Int) : List (List Value):=l.map fun n => [.int .i64 n]
theorem oneRows_flat : ∀ l : List Int,(yg l).flatten = l.map fun n => .int .i64 n
 | [] => rfl
 | n :: l => by
   have:=oneRows_flat l
   unfold yg at this ⊢
   simp [this]
theorem oneRows_fit (l : List Int) : ∀ r ∈ yg l,RowFits [.int .i64] r:=fun r hr => by
 obtain ⟨n,_,rfl⟩:=List.mem_map.1 hr
 exact .cons ⟨n,rfl⟩ .nil
section
variable {P : Program} {kt : Nat} {vag : Bool} {vs : List CK}
end
open Go Go.RowKit Go.Maps Go.Sort
def SortSays (P : Program) (fS : Nat) : Prop:=
 (∀ (blk cap : Nat) (zs : List Int) (w : World),Holds (Value.int .i64) w blk 0 zs.toArray→blk < w.heap.size→zs.length < 4611686018427387904 →
   Calls P fS #[.slice (some ⟨blk,0,none⟩) zs.length cap] w fun e w' => e = .returned (.tuple #[])∧∃ n os,w' = grow (Go.Sort.putRow (Value.int .i64) (Sort.ahead w n) blk 0 (zs.mergeSort fun x y => decide (x≤y)).toArray) os) ∧
 ∀ (p : Option Addr) (cap : Nat) (w : World),Calls P fS #[.slice p 0 cap] w fun e w' => e = .returned (.tuple #[])∧w' = w
noncomputable def sortLib (fS sg : Nat) (E : Env) : yj:=fun f args S =>
 match Nat.beq f fS with
 | true => match args with
   | [.nilslice] => some (.ret (.tuple []),S)
   | [.slo id 1 len] => match S.heap.get id with
     | some (.rows 1 sch (.num 0) x true t) => match andB (sameSch sch [.int .i64]) (andB (yB len (.op1 .len x)) (andB (E.ltF maxLenX (.op1 .len x)) (andB (S.limit id) (Nat.blt id zM)))) with
       | true => some (.ret (.tuple []),{ S with heap:=Trie.put (some (.rows 1 [.int .i64] (.num 0) (.app sg [x]) true t)) depth S.heap id })
       | false => none
     | _ => none
   | _ => none
 | false => none
theorem ints_rows : ∀ {rows : List (List Value)},(∀ r ∈ rows,RowFits [.int .i64] r)→rows = yg (rows.map keyI)
 | [],_ => rfl
 | r :: rows,h => by
   have h1:=h r List.mem_cons_self
   have h2:=ints_rows fun q hq => h q (List.mem_cons_of_mem _ hq)
   rcases h1 with _ | ⟨⟨n,rfl⟩,h1⟩
   cases h1
   show _ = [.int .i64 n] :: yg (rows.map keyI)
   rw [← h2]
theorem oneRows_len (l : List Int) : (yg l).flatten.length = l.length:=by rw [oneRows_flat,List.length_map]
theorem frozen_no {w : World} {b n : Nat} {c : Array Value} {t : TypeId} {fr : Nat×Nat} (hb : w.heap[b]? = some (.cells c t fr)) (h : fr.2≤fr.1∨c.size≤fr.1) (hn : n < c.size) : w.frozen? ⟨b,n,none⟩ = false:=by
 simp only [World.frozen?,hb]
 simp
 omega
theorem holds_own {w : World} {b : Nat} {zs : List Int} {rest : List Value} {t : TypeId} {fr : Nat×Nat} (hb : w.heap[b]? = some (.cells ((yg zs).flatten ++ rest).toArray t fr)) (h : fr.2≤fr.1∨((yg zs).flatten ++ rest).length≤fr.1) : Holds (Value.int .i64) w b 0 zs.toArray:=fun j hj => by
 have hj : j < zs.length:=by simpa using hj
 have hl:=oneRows_len zs
 refine ⟨?_,frozen_no hb (by simpa using h) (by simp only [List.size_toArray,List.length_append]; omega)⟩
 rw [Nat.zero_add,cell_of hb (by omega),oneRows_flat,List.getElem?_map,List.getElem?_eq_getElem hj]
 simp [getElem!_pos,hj]
theorem put_own {w : World} {b : Nat} {zs zs' : List Int} {rest : List Value} {t : TypeId} {fr : Nat×Nat} (hb : w.heap[b]? = some (.cells ((yg zs).flatten ++ rest).toArray t fr)) (h : zs'.length = zs.length) :
  (Go.Sort.putRow (Value.int .i64) w b 0 zs'.toArray).heap = w.heap.setIfInBounds b (.cells ((yg zs').flatten ++ rest).toArray t fr):=by
 have hl:=oneRows_len zs
 have hl':=oneRows_len zs'
 have hc : putCells (Value.int .i64) 0 zs'.toArray ((yg zs).flatten ++ rest).toArray = ((yg zs').flatten ++ rest).toArray:=by
  apply Array.ext'
  apply List.ext_getElem?
  intro k
  simp only [putCells,Array.toList_mapIdx,List.getElem?_mapIdx,List.toList_toArray,List.size_toArray,Nat.zero_le,true_and,Nat.zero_add,Nat.sub_zero]
  by_cases hk : k < zs'.length
  ·rw [List.getElem?_append_left (by omega),List.getElem?_append_left (by omega),oneRows_flat,oneRows_flat,List.getElem?_map,List.getElem?_map,List.getElem?_eq_getElem (show k < zs.length by omega),List.getElem?_eq_getElem hk]
   simp [hk,getElem!_pos]
  ·rw [List.getElem?_append_right (by omega),List.getElem?_append_right (by omega),hl,hl',h]
   simp [show ¬ k < zs'.length from hk]
   cases rest[k - zs.length]? <;> simp [show ¬ k < zs.length by omega]
 unfold Go.Sort.putRow mapBlock
 apply Array.ext_getElem?
 intro i
 simp only [Array.getElem?_modify,Array.getElem?_setIfInBounds]
 have hbs:=(Array.getElem?_eq_some_iff.1 hb).1
 by_cases hi : b = i
 ·subst hi
  simp only [if_true,hb,hbs,Option.map_some,onCells,hc]
 ·simp [hi]
theorem sortLib_ok {E : Env} (hE : E.Ok) {r : Rho} (hr : E.rho = some r) {fS sg : Nat} (hsg : ∀ rows,r.sym sg [zQ rows] = some (zQ (yg (sortK rows)))) (hk : SortSays E.P fS) : zu E (sortLib fS sg E):=by
 intro f args S rr S' h σ w Wr us hA hS hi
 unfold sortLib at h
 split at h
 ·rename_i hf
  obtain rfl:=Nat.eq_of_beq_eq_true hf
  split at h
  ·cases h
   obtain ⟨u,rfl,hu⟩:=hi.single
   cases hu
   refine (hk.2 none 0 w).mono ?_
   rintro e w' ⟨rfl,rfl⟩
   exact ⟨σ,⟨_,rfl,rfl⟩,pure_post hS (Kept.refl _ _)⟩
  ·rename_i id len
   split at h
   ·rename_i sch x t hb
    split at h
    ·rename_i hc
     obtain ⟨c1,c2⟩:=zb hc
     obtain ⟨c2,c3⟩:=zb c2
     obtain ⟨c3,c4⟩:=zb c3
     obtain ⟨c4,c5⟩:=zb c4
     obtain rfl:=yR c1
     cases h
     have hρ : σ.rho = r:=hA.rho r hr
     obtain ⟨u,rfl,hu⟩:=hi.single
     obtain ⟨b,κ,rows,pre,rest,fr,t₀,e1,e2,e3,e4,e5,e6,e7,e8⟩:=get_rows hS hb
     obtain ⟨rfl,rfl,k1,k2,k3⟩:=e8 rfl
     obtain ⟨b',κ',n,f1,f2,f3,rfl⟩:=inst_slo hu
     rw [e1] at f1; cases f1
     have hlen:=len_den e3
     obtain rfl:=zL c2
     have hn : n = rows.length:=by
      obtain ⟨k,hk'⟩:=X.nat_iff.1 f2
      rw [hlen] at hk'
      simp only [Option.some.injEq,Value.int.injEq] at hk'
      omega
     subst hn
     have h9:=Env.ltF_ok hA c3 (a:=.num 1000000000) (k:=.i64) rfl hlen
     have hrw:=ints_rows e7
     rw [List.nil_append] at e2 k1 k3
     rw [hrw] at e2 k1 k3
     have hbs:=(Array.getElem?_eq_some_iff.1 e2).1
     have hcall:=hk.1 b κ (rows.map keyI) w (holds_own e2 k3) hbs (by rw [List.length_map]; omega)
     rw [List.length_map] at hcall
     refine hcall.mono ?_
     rintro e w' ⟨rfl,m,os,rfl⟩
     have hsl : (sortK rows).length = (rows.map keyI).length:=by unfold sortK; exact List.length_mergeSort _
     have hput:=put_own (w:=w) e2 hsl
     have hden : (X.app sg [x]).den σ.rho = some (zQ (yg (sortK rows))):=by
      simp only [X.den,denL,e3]
      rw [hρ]; exact hsg rows
     have hfl : ((yg (sortK rows)).flatten ++ rest).length = ((yg (rows.map keyI)).flatten ++ rest).length:=by
      rw [List.length_append,List.length_append,oneRows_len,oneRows_len,hsl]
     have hB : BRel E.P σ κ (.rows 1 [.int .i64] (.num 0) (.app sg [x]) true t₀) (.cells ((yg (sortK rows)).flatten ++ rest).toArray t₀ fr):=
      rows_brel (P:=E.P) (κ:=κ) (size:=1) (sch:=[.int .i64]) (rest:=rest) (fr:=fr) (elem:=t₀) hden rfl (by decide) (oneRows_fit _) (by rw [hfl,← k2]; exact k1) k2 (by rw [hfl]; exact k3)
     have p1:=post_set (w':=Go.Sort.putRow (Value.int .i64) w b 0 (sortK rows).toArray) hS hb c4 e1 hB (zo c5) hput ⟨rfl,rfl⟩
     have hrel : ({ S with heap:=Trie.put (some (.rows 1 [.int .i64] (.num 0) (.app sg [x]) true t₀)) depth S.heap id } : ASt).rel E.P σ (Go.Sort.putRow (Value.int .i64) w b 0 (sortK rows).toArray) Wr:=p1.rel
     refine ⟨σ,⟨_,rfl,rfl⟩,p1.trans (pure_post hrel ?_)⟩
     have hh : (grow (Go.Sort.putRow (Value.int .i64) (Sort.ahead w m) b 0 ((List.map keyI rows).mergeSort fun x y => decide (x≤y)).toArray) os).heap = (Go.Sort.putRow (Value.int .i64) w b 0 (sortK rows).toArray).heap ++ os:=rfl
     refine ⟨by rw [hh]; simp,fun q hq => ?_,rfl,rfl⟩
     rw [hh,Array.getElem?_append_left (by omega)]
    ·cases h
   ·cases h
  ·cases h
 ·cases h
open Go Go.RowKit Go.Maps Go.Sort
def CompSays (P : Program) (fC : Nat) : Prop:=
 (∀ (blk cap : Nat) (zs : List Int) (w : World),Holds (Value.int .i64) w blk 0 zs.toArray→zs.length≤9223372036854775807→zs.length≤cap →
   Calls P fC #[.slice (some ⟨blk,0,none⟩) zs.length cap] w fun e w' => e = .returned (.slice (some ⟨blk,0,none⟩) (Lib.compact zs).length cap)∧∃ q,w' = Go.Sort.putRow (Value.int .i64) (Sort.ahead w q) blk 0 (Lib.compact zs ++ List.replicate (zs.length - (Lib.compact zs).length) 0).toArray) ∧
 ∀ (p : Option Addr) (cap : Nat) (w : World),Calls P fC #[.slice p 0 cap] w fun e w' => e = .returned (.slice p 0 cap)∧w' = w
def compK (rows : List (List Value)) : List Int:=Lib.compact (rows.map keyI)
noncomputable def lenIs (E : Env) (len x : X) : Bool:=match yB len (.op1 .len x) with
 | true => true
 | false => andB (E.ltF (.op1 .len x) len) (E.ltF len (.op1 .len x))
noncomputable def compLib (fC sg : Nat) (E : Env) : yj:=fun f args S =>
 match Nat.beq f fC with
 | true => match args with
   | [.nilslice] => some (.ret .nilslice,S)
   | [.slo id 1 len] => match S.heap.get id with
     | some (.rows 1 sch (.num 0) x true t) => match andB (sameSch sch [.int .i64]) (andB (lenIs E len x) (andB (E.ltF maxLenX (.op1 .len x)) (andB (S.limit id) (Nat.blt id zM)))) with
       | true => some (.ret (.slo id 1 (.op1 .len (.app sg [x]))),{ S with heap:=Trie.put (some (.rows 1 [.int .i64] (.num 0) (.app sg [x]) true t)) depth S.heap id })
       | false => none
     | _ => none
   | _ => none
 | false => none
theorem compact_len (zs : List Int) : (Lib.compact zs).length≤zs.length:=by
 have key : ∀ (d : Array Int) (m : Nat),(Lib.compactUpTo d m).length≤m:=by
  intro d m
  induction m with
  | zero => exact Nat.le_refl _
  | succ m ih =>
    rw [Lib.compactUpTo_succ,List.length_append]
    split <;> simp <;> omega
 exact key _ _
theorem compLib_ok {E : Env} (hE : E.Ok) {r : Rho} (hr : E.rho = some r) {fC sg : Nat} (hsg : ∀ rows,r.sym sg [zQ rows] = some (zQ (yg (compK rows)))) (hk : CompSays E.P fC) : zu E (compLib fC sg E):=by
 intro f args S rr S' h σ w Wr us hA hS hi
 unfold compLib at h
 split at h
 ·rename_i hf
  obtain rfl:=Nat.eq_of_beq_eq_true hf
  split at h
  ·cases h
   obtain ⟨u,rfl,hu⟩:=hi.single
   cases hu
   refine (hk.2 none 0 w).mono ?_
   rintro e w' ⟨rfl,rfl⟩
   exact ⟨σ,⟨_,rfl,rfl⟩,pure_post hS (Kept.refl _ _)⟩
  ·rename_i id len
   split at h
   ·rename_i sch x t hb
    split at h
    ·rename_i hc
     obtain ⟨c1,c2⟩:=zb hc
     obtain ⟨c2,c3⟩:=zb c2
     obtain ⟨c3,c4⟩:=zb c3
     obtain ⟨c4,c5⟩:=zb c4
     obtain rfl:=yR c1
     cases h
     have hρ : σ.rho = r:=hA.rho r hr
     obtain ⟨u,rfl,hu⟩:=hi.single
     obtain ⟨b,κ,rows,pre,rest,fr,t₀,e1,e2,e3,e4,e5,e6,e7,e8⟩:=get_rows hS hb
     obtain ⟨rfl,rfl,k1,k2,k3⟩:=e8 rfl
     obtain ⟨b',κ',n,f1,f2,f3,rfl⟩:=inst_slo hu
     rw [e1] at f1; cases f1
     have hlen:=len_den e3
     have hn : n = rows.length:=by
      obtain ⟨k,hk'⟩:=X.nat_iff.1 f2
      unfold lenIs at c2
      split at c2
      ·rename_i hs
       rw [zL hs,hlen] at hk'
       simp only [Option.some.injEq,Value.int.injEq] at hk'
       omega
      ·obtain ⟨d1,d2⟩:=zb c2
       have g1:=Env.ltF_ok hA d1 hlen hk'
       have g2:=Env.ltF_ok hA d2 hk' hlen
       omega
     subst hn
     have h9:=Env.ltF_ok hA c3 (a:=.num 1000000000) (k:=.i64) rfl hlen
     have hrw:=ints_rows e7
     rw [List.nil_append] at e2 k1 k3
     rw [hrw] at e2 k1 k3
     have hcall:=hk.1 b κ (rows.map keyI) w (holds_own e2 k3) (by rw [List.length_map]; omega) (by rw [List.length_map]; exact f3)
     rw [List.length_map] at hcall
     refine hcall.mono ?_
     rintro e w' ⟨rfl,m,rfl⟩
     have hle : (compK rows).length≤rows.length:=by
      have:=compact_len (rows.map keyI)
      rw [List.length_map] at this
      exact this
     generalize hzz : List.replicate (rows.length - (Lib.compact (rows.map keyI)).length) (0 : Int) = zz
     have hzl : zz.length = rows.length - (compK rows).length:=by rw [← hzz,List.length_replicate]; rfl
     have hsl : (compK rows ++ zz).length = (rows.map keyI).length:=by rw [List.length_append,List.length_map,hzl]; omega
     have hput:=put_own (w:=w) e2 hsl
     have hcells : (yg (compK rows ++ zz)).flatten ++ rest = (yg (compK rows)).flatten ++ ((yg zz).flatten ++ rest):=by
      rw [oneRows_flat,oneRows_flat,oneRows_flat,List.map_append,List.append_assoc]
     have hden : (X.app sg [x]).den σ.rho = some (zQ (yg (compK rows))):=by
      simp only [X.den,denL,e3]
      rw [hρ]; exact hsg rows
     have hfl : ((yg (compK rows)).flatten ++ ((yg zz).flatten ++ rest)).length = ((yg (rows.map keyI)).flatten ++ rest).length:=by
      rw [← hcells,List.length_append,List.length_append,oneRows_len,oneRows_len,hsl]
     have hB : BRel E.P σ κ (.rows 1 [.int .i64] (.num 0) (.app sg [x]) true t₀) (.cells ((yg (compK rows)).flatten ++ ((yg zz).flatten ++ rest)).toArray t₀ fr):=
      rows_brel (P:=E.P) (κ:=κ) (size:=1) (sch:=[.int .i64]) (rest:=(yg zz).flatten ++ rest) (fr:=fr) (elem:=t₀) hden rfl (by decide) (oneRows_fit _) (by rw [hfl,← k2]; exact k1) k2 (by rw [hfl]; exact k3)
     rw [hcells] at hput
     have p1:=post_set (w':=Go.Sort.putRow (Value.int .i64) w b 0 (compK rows ++ zz).toArray) hS hb c4 e1 hB (zo c5) hput ⟨rfl,rfl⟩
     have hrel : ({ S with heap:=Trie.put (some (.rows 1 [.int .i64] (.num 0) (.app sg [x]) true t₀)) depth S.heap id } : ASt).rel E.P σ (Go.Sort.putRow (Value.int .i64) w b 0 (compK rows ++ zz).toArray) Wr:=p1.rel
     have hnat : (X.op1 .len (.app sg [x])).nat σ.rho = some (compK rows).length:=X.nat_iff.2 ⟨.i64,by
      have:=len_den hden
      rw [this]
      congr 3
      simp [yg]⟩
     have hin : (AV.slo id 1 (.op1 .len (.app sg [x]))).inst σ = some (.slice (some ⟨b,0,none⟩) (compK rows).length κ):=by
      simp only [AV.inst,e1,hnat]
      rw [if_pos (by omega)]
     refine ⟨σ,⟨_,hin,rfl⟩,p1.trans (pure_post hrel ?_)⟩
     have hh : (Go.Sort.putRow (Value.int .i64) (Sort.ahead w m) b 0 (compK rows ++ zz).toArray).heap = (Go.Sort.putRow (Value.int .i64) w b 0 (compK rows ++ zz).toArray).heap:=rfl
     exact ⟨by rw [show (Lib.compact (rows.map keyI)) = compK rows from rfl,hh]; exact Nat.le_refl _,fun q hq => by rw [show (Lib.compact (rows.map keyI)) = compK rows from rfl,hh],rfl,rfl⟩
    ·cases h
   ·cases h
  ·cases h
 ·cases h
end Go.Proofs.YtfddkbbjnghefaaGreatDoor.Zs
