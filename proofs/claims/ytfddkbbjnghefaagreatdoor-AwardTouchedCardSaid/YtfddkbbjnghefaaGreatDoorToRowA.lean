/-
  Rows of plain structs in a world that came in: a slice's elements, read as data, are rows of plain cells.
-/
import Derived.Test.YtfddkbbjnghefaaGreatDoorToEvK
import Derived.Deep.Slices
import Derived.ChangeArms
import Derived.ChangeSame
import Derived.WideShapes
set_option linter.unusedSimpArgs false
set_option linter.unusedVariables false
namespace Go.Proofs.YtfddkbbjnghefaaGreatDoor.Zs
open Go Go.ChangeShapes Go.WideShapes
def schF (P : Program) (g : TypeId→Option (List CK)) (total : Nat) : Nat→List Field→Option (List CK)
 | off,[] => match Nat.beq off total with
   | true => some []
   | false => none
 | off,f :: fs => match Nat.beq f.offset off with
   | true => match g f.type with
     | some s => match Nat.beq s.length (P.cellsOf f.type) with
       | true => match schF P g total (off + P.cellsOf f.type) fs with
         | some r => some (s ++ r)
         | none => none
       | false => none
     | none => none
   | false => none
def schT (P : Program) : Nat→TypeId→Option (List CK)
 | 0,_ => none
 | d + 1,t => match P.underlying t with
   | some .bool => some [.bool]
   | some (.int k) => some [.int k]
   | some .string => some [.str]
   | some (.struct fs) => schF P (schT P d) (P.cellsOf t) 0 fs.toList
   | _ => none
theorem RowFits.append {a b : List CK} {r s : List Value} (h : RowFits a r) (h' : RowFits b s) : RowFits (a ++ b) (r ++ s):=by
 induction h with
 | nil => exact h'
 | cons hc _ ih => exact .cons hc ih
section
variable {H : Type} {enc : TypeId×Value→H} {P : Program} {w : World} {base : Nat} {spare : Nat→Bool} {held : Bool}
theorem fits_fields {g : TypeId→Option (List CK)} {n : Nat} (hg : ∀ t s,g t = some s→∀ (cs : List Value) x,DataW.trod enc P w base spare held n t cs = some x→RowFits s cs) {total : Nat} {cs : List Value} (hl : cs.length = total) :
  ∀ (fs : List Field) (off : Nat) (s : List CK),schF P g total off fs = some s→off≤total→(∀ (j : Nat) f,fs[j]? = some f→∃ y,DataW.trod enc P w base spare held n f.type ((cs.drop f.offset).take (P.cellsOf f.type)) = some y)→RowFits s (cs.drop off)
 | [],off,s,h,ho,_ => by
   unfold schF at h
   split at h
   ·rename_i hb
    cases h
    rw [Nat.eq_of_beq_eq_true hb,← hl,List.drop_length]
    exact .nil
   ·cases h
 | f :: fs,off,s,h,ho,hf => by
   unfold schF at h
   split at h
   ·rename_i hb
    have hoff:=Nat.eq_of_beq_eq_true hb
    split at h
    ·rename_i s1 hs1
     split at h
     ·rename_i hb2
      have hs:=Nat.eq_of_beq_eq_true hb2
      split at h
      ·rename_i r hr
       cases h
       obtain ⟨y,hy⟩:=hf 0 f rfl
       have h1:=hg _ _ hs1 _ _ hy
       rw [hoff] at h1
       have hlen:=h1.length
       rw [List.length_take,List.length_drop,hl] at hlen
       have h2:=fits_fields hg hl fs (off + P.cellsOf f.type) r hr (by omega) fun j f' hj => hf (j + 1) f' (by simpa using hj)
       have h3:=h1.append h2
       rw [← List.drop_drop,List.take_append_drop] at h3
       exact h3
      ·cases h
     ·cases h
    ·cases h
   ·cases h
theorem fits_of : ∀ (d : Nat) (t : TypeId) (s : List CK),schT P d t = some s→∀ {n : Nat} {cs : List Value} {x : DataW H×List MemPlace},DataW.trod enc P w base spare held n t cs = some x→RowFits s cs
 | 0,t,s,h,n,cs,x,hx => by cases h
 | d + 1,t,s,h,n,cs,x,hx => by
   unfold schT at h
   split at h
   ·rename_i ht
    cases h
    obtain ⟨b,rfl,_⟩:=DataW.trod_bool ht hx
    exact .cons ⟨b,rfl⟩ .nil
   ·rename_i k ht
    cases h
    obtain ⟨m,rfl,_⟩:=DataW.trod_int ht hx
    exact .cons ⟨m,rfl⟩ .nil
   ·rename_i ht
    cases h
    obtain ⟨b,rfl,_⟩:=DataW.trod_string ht hx
    exact .cons ⟨b,rfl⟩ .nil
   ·rename_i fs ht
    obtain ⟨xs,m,rfl,_,hl,hlen,hf⟩:=DataW.trod_struct ht hx
    have:=fits_fields (fun t s h cs x => fits_of d t s h) hl fs.toList 0 s h (Nat.zero_le _) fun j f hj => by
     have hj' : fs[j]? = some f:=by rw [← Array.getElem?_toList]; exact hj
     have:=hf j f hj'
     have hlt : j < xs.length:=by
      rw [hlen]
      exact (Array.getElem?_eq_some_iff.1 hj').1
     rw [List.getElem?_eq_getElem hlt] at this
     exact ⟨_,this⟩
    simpa using this
   ·cases h
end
theorem rowAt_off {P : Program} {fits : TypeId→Bool} : ∀ {d : Nat} {e : TypeId} {count off n : Nat},rowAt P fits d e count off n = true→off≤count * P.cellsOf e
 | 0,e,count,off,n,h => by cases h
 | d + 1,e,count,off,n,h => by
   unfold rowAt at h
   simp only at h
   split at h
   ·cases h
   ·rename_i hs
    have hdm:=Nat.div_add_mod off (P.cellsOf e)
    have hlt:=Nat.mod_lt off (Nat.pos_of_ne_zero hs)
    simp only [Bool.or_eq_true,Bool.and_eq_true,beq_iff_eq,decide_eq_true_eq] at h
    rcases h with ⟨⟨h1,h2⟩,_⟩ | ⟨h1,_⟩
    ·have : off / P.cellsOf e * P.cellsOf e≤count * P.cellsOf e:=Nat.mul_le_mul_right _ (by omega)
     have e1 : P.cellsOf e * (off / P.cellsOf e) = off / P.cellsOf e * P.cellsOf e:=Nat.mul_comm _ _
     omega
    ·have : (off / P.cellsOf e + 1) * P.cellsOf e≤count * P.cellsOf e:=Nat.mul_le_mul_right _ h1
     have e1 : P.cellsOf e * (off / P.cellsOf e) = off / P.cellsOf e * P.cellsOf e:=Nat.mul_comm _ _
     rw [Nat.add_mul,Nat.one_mul] at this
     omega
theorem liesAt_off {P : Program} : ∀ {d : Nat} {e : TypeId} {count off : Nat} {u : TypeId} {n : Nat},liesAt P d e count off u n = true→off≤count * P.cellsOf e
 | 0,e,count,off,u,n,h => by cases h
 | d + 1,e,count,off,u,n,h => by
   unfold liesAt at h
   simp only [Bool.or_eq_true] at h
   rcases h with h | h
   ·exact rowAt_off h
   ·split at h
    ·exact liesAt_off h
    ·cases h
theorem chunks {α : Type} (c : Nat) : ∀ (n : Nat) (l : List α),n * c≤l.length→((List.range n).map fun i => (l.drop (i * c)).take c).flatten = l.take (n * c)
 | 0,l,_ => by simp
 | n + 1,l,h => by
   rw [Nat.add_mul,Nat.one_mul] at h
   rw [List.range_succ,List.map_append,List.flatten_append,chunks c n l (by omega)]
   simp only [List.map_cons,List.map_nil,List.flatten_cons,List.flatten_nil,List.append_nil]
   rw [Nat.add_mul,Nat.one_mul,List.take_add]
theorem slice_in {H : Type} {enc : TypeId×Value→H} {P : Program} {W : World} {t e : TypeId} {sch : List CK} {d : Nat} (ht : P.underlying t = some (.slice e)) (hs : schT P d e = some sch) (hc : sch.length = P.cellsOf e) (hc0 : 0 < P.cellsOf e) {r : Reach} {b0 : Nat} {v : Value} {x : DataW H} {ps : List MemPlace}
  (hv : Value.okWide P W r b0 t v) (h : DataW.Trod enc P W 0 (fun _ => true) true t v x ps) :
  v = .slice none 0 0∨∃ (b off len cap : Nat) (rows : List (List Value)) (pre rest : List Value) (t₀ : TypeId) (fr : Nat×Nat),v = .slice (some ⟨b,off,none⟩) len cap∧len≤cap∧(cap : Int)≤IntKind.i64.max∧rows.length = len∧pre.length = off ∧
    W.heap[b]? = some (.cells (pre ++ (rows.flatten ++ rest)).toArray t₀ fr)∧(∀ r ∈ rows,RowFits sch r)∧liesAt P P.depth t₀ ((pre ++ (rows.flatten ++ rest)).length / P.cellsOf t₀) off e cap = true:=by
 obtain ⟨fuel,hf⟩:=h
 obtain ⟨a0,l0,c0,rfl⟩:=okWide_slice ht hv
 rcases Go.Deep.open_slice ht hf with ⟨hcs,_⟩ | ⟨a,len,cap,m,n,D,Pl,hcs,_,hle,hm,hmm,_,hel⟩
 ·left
  simp only [Value.cells,List.cons.injEq,and_true] at hcs
  exact hcs
 ·right
  simp only [Value.cells,List.cons.injEq,and_true] at hcs
  rw [hcs] at hv ⊢
  simp only [Value.okWide,ht,Cell.okWide,Cell.ok,World.has,World.shape?] at hv
  obtain ⟨h1,h2,_,hspot,row,cells,hsh,hlies⟩:=hv
  cases hb : W.heap[a.block]? with
  | none => rw [hb] at hsh; cases hsh
  | some o =>
    rw [hb] at hsh
    cases o <;> first
     | (simp only [reduceCtorEq] at hsh; done)
     | (rename_i arr t₀ fr
        simp only [Option.some.injEq,Prod.mk.injEq] at hsh
        obtain ⟨rfl,rfl⟩:=hsh
        obtain ⟨bk,off,sp⟩:=a
        simp only at hspot hb hlies hel
        subst hspot
        have hoff : off≤arr.size:=Nat.le_trans (liesAt_off hlies) (Nat.div_mul_le_self _ _)
        let L:=arr.toList
        have hL : L.length = arr.size:=by simp [L]
        have hrow : ∀ i,i < len→((L.drop off).drop (i * P.cellsOf e)).take (P.cellsOf e) = ((L.drop off).drop (i * P.cellsOf e)).take (P.cellsOf e)∧off + (i + 1) * P.cellsOf e≤L.length∧RowFits sch (((L.drop off).drop (i * P.cellsOf e)).take (P.cellsOf e)):=by
         intro i hi
         obtain ⟨cs',h3,h4⟩:=hel i (by rw [hmm]; simp; omega)
         obtain ⟨_,h5,h6⟩:=World.cells?_some h3
         have hcell : ∀ j,j < P.cellsOf e→L[off + i * P.cellsOf e + j]? = cs'[j]?:=fun j hj => by
          rw [← h6 j hj,yF,yF]
          simp only [World.cell?,hb]
          simp [L]
         have hlast:=hcell (P.cellsOf e - 1) (by omega)
         rw [List.getElem?_eq_getElem (show P.cellsOf e - 1 < cs'.length by omega)] at hlast
         have hlt:=(List.getElem?_eq_some_iff.1 hlast).1
         have he : ((L.drop off).drop (i * P.cellsOf e)).take (P.cellsOf e) = cs':=by
          apply List.ext_getElem?
          intro j
          rcases Nat.lt_or_ge j (P.cellsOf e) with hj | hj
          ·rw [List.getElem?_take_of_lt hj,List.getElem?_drop,List.getElem?_drop,← hcell j hj]
           congr 1
           omega
          ·rw [List.getElem?_eq_none (by rw [List.length_take]; omega),List.getElem?_eq_none (by omega)]
         refine ⟨rfl,by rw [Nat.add_mul,Nat.one_mul]; omega,?_⟩
         rw [he]
         exact fits_of d e sch hs h4
        have hfit : len * P.cellsOf e≤(L.drop off).length:=by
         rw [List.length_drop]
         rcases Nat.eq_zero_or_pos len with h0 | h0
         ·rw [h0]; simp
         ·have:=(hrow (len - 1) (by omega)).2.1
          rw [show len - 1 + 1 = len by omega] at this
          omega
        have hsplit : L = L.take off ++ ((L.drop off).take (len * P.cellsOf e) ++ (L.drop off).drop (len * P.cellsOf e)):=by
         rw [List.take_append_drop,List.take_append_drop]
        refine ⟨bk,off,len,cap,(List.range len).map fun i => ((L.drop off).drop (i * P.cellsOf e)).take (P.cellsOf e),L.take off,(L.drop off).drop (len * P.cellsOf e),t₀,fr,rfl,h1,h2,by simp,?_,?_,?_,?_⟩
        ·rw [List.length_take]; omega
        ·rw [chunks _ _ _ hfit,← hsplit]
         simpa [L] using hb
        ·intro q hq
         obtain ⟨i,hi,rfl⟩:=List.mem_map.1 hq
         exact (hrow i (List.mem_range.1 hi)).2.2
        ·rw [chunks _ _ _ hfit,← hsplit,hL]
         exact hlies)
open Go
def LaidL (l : List (Nat×ABlock)) (W : World) : Prop:=∀ i b,(i,b) ∈ l→∃ as t vs,b = .cells as t∧instL Sig.bare as = some vs∧W.heap[i]? = some (.cells vs.toArray t (0,0))
theorem LaidL.of_heap {l : List (Nat×ABlock)} {W W' : World} (h : LaidL l W) (e : W.heap = W'.heap) : LaidL l W':=fun i b hm => by
 obtain ⟨as,t,vs,h1,h2,h3⟩:=h i b hm
 exact ⟨as,t,vs,h1,h2,by rw [← e]; exact h3⟩
def memK (i : Nat) (l : List (Nat×ABlock)) : Bool:=l.any fun p => Nat.beq i p.1
def lawSig (ab : List (Nat×ABlock)) (bl : Nat→Nat) (r : Rho) : Sig:=⟨fun i => if i < 50 then some (i,0) else if memK i ab = true then some (bl i,0) else none,r⟩
theorem memK_of {l : List (Nat×ABlock)} {i : Nat} {b : ABlock} (h : (i,b) ∈ l) : memK i l = true:=List.any_eq_true.2 ⟨(i,b),h,Nat.beq_refl i⟩
theorem law_rel {P : Program} {root ab : List (Nat×ABlock)} {W : World} {bl : Nat→Nat} {r : Rho} (hl : LaidL root W) (hroot : (root.all fun p => Nat.blt p.1 50) = true) (hab : (ab.all fun p => andB (Nat.ble 50 p.1) (Nat.blt p.1 100)) = true)
  (hb : ∀ i blk,(i,blk) ∈ ab→∃ o,W.heap[bl i]? = some o∧BRel P (lawSig ab bl r) 0 blk o) :
  (memOf (root ++ ab) 100).rel P (lawSig ab bl r) W (fun b => W.heap.size≤b):=by
 have hr50 : ∀ i b,(i,b) ∈ root→i < 50:=fun i b h => zo (List.all_eq_true.1 hroot _ h)
 have ha50 : ∀ i b,(i,b) ∈ ab→50≤i∧i < 100:=fun i b h => by
  obtain ⟨h1,h2⟩:=zb (List.all_eq_true.1 hab _ h)
  exact ⟨Nat.le_of_ble_eq_true h1,zo h2⟩
 have hlow : lowIds (root ++ ab) = true:=by
  have hall : ∀ p ∈ root ++ ab,p.1 < 100:=fun p hp => by
   rcases List.mem_append.1 hp with h | h
   ·have:=hr50 p.1 p.2 h; omega
   ·exact (ha50 p.1 p.2 h).2
  clear hb hl hroot hab hr50 ha50
  generalize root ++ ab = l at hall
  induction l with
  | nil => rfl
  | cons q l ih =>
    obtain ⟨j,c⟩:=q
    simp only [lowIds]
    have:=hall (j,c) (by simp)
    rw [blt_of_lt (show j < zM by unfold zM; simp only at this; omega)]
    exact ih fun q hq => hall q (List.mem_cons_of_mem _ hq)
 have hget : ∀ i b,(yf (root ++ ab)).get i = some b→(i,b) ∈ root∨(i,b) ∈ ab:=fun i b h => List.mem_append.1 (buildH_get hlow h)
 have s1 : ∀ i b,(i,b) ∈ root→(lawSig ab bl r) i = some (i,0):=fun i b h => by simp only [lawSig]; rw [if_pos (hr50 i b h)]
 have s2 : ∀ i b,(i,b) ∈ ab→(lawSig ab bl r) i = some (bl i,0):=fun i b h => by
  have:=(ha50 i b h).1
  simp only [lawSig]
  rw [if_neg (by omega),if_pos (memK_of h)]
 refine ⟨fun i b h => ?_,fun i j bi bj x y h h' hx hy hxy => ?_,fun i b x h hlim hx => ?_,fun b h => h,fun i h => ?_,fun i h => fromN_high h⟩
 ·rcases hget i b h with hm | hm
  ·obtain ⟨as,t,vs,rfl,h2,h3⟩:=hl i b hm
   exact ⟨i,0,_,s1 i _ hm,h3,vs,[],(0,0),instL_iff.1 (instL_wle (Sig.bare_le _) as vs h2),by simp,by simp,.inl (Nat.le_refl _),.inl rfl⟩
  ·obtain ⟨o,h1,h2⟩:=hb i b hm
   exact ⟨bl i,0,o,s2 i b hm,h1,h2⟩
 ·have low : ∀ k bk,(yf (root ++ ab)).get k = some bk→k < 100:=fun k bk hk => by
   rcases hget k bk hk with hm | hm
   ·have:=hr50 k bk hm; omega
   ·exact (ha50 k bk hm).2
  exact .inr ⟨fromN_low (low i bi h),fromN_low (low j bj h')⟩
 ·have : i < 100:=by
   rcases hget i b h with hm | hm
   ·have:=hr50 i b hm; omega
   ·exact (ha50 i b hm).2
  rw [show (memOf (root ++ ab) 100).limit = yi 100 [] from rfl,fromN_low this] at hlim
  cases hlim
 ·have h : 100≤i:=h
  refine ⟨?_,?_⟩
  ·simp only [lawSig]
   rw [if_neg (by omega),if_neg (fun hm => by
    obtain ⟨⟨j,b⟩,h1,h2⟩:=List.any_eq_true.1 hm
    have:=Nat.eq_of_beq_eq_true h2
    simp only at this
    have:=(ha50 j b h1).2
    omega)]
  ·cases hg : (memOf (root ++ ab) 100).heap.get i with
   | none => rfl
   | some b =>
     rcases hget i b hg with hm | hm
     ·have:=hr50 i b hm; omega
     ·have:=(ha50 i b hm).2; omega
theorem law_globs {ab : List (Nat×ABlock)} {bl : Nat→Nat} {r : Rho} {g id : Nat} (h : (match Nat.blt g 50 with | true => some g | false => none) = some id) : ∃ κ,(lawSig ab bl r) id = some (g,κ):=by
 split at h
 ·rename_i hb
  cases h
  exact ⟨0,by simp only [lawSig]; rw [if_pos (zo hb)]⟩
 ·cases h
theorem rows_brel0 {P : Program} {σ : Sig} {wd : Nat} {sch : List CK} {b x : X} {t t₀ : TypeId} {rows : List (List Value)} {pre rest : List Value} {fr : Nat×Nat} (hx : x.den σ.rho = some (zQ rows)) (hb : b.nat σ.rho = some pre.length) (hl : sch.length = wd) (h0 : 0 < wd) (hf : ∀ r ∈ rows,RowFits sch r) :
 BRel P σ 0 (.rows wd sch b x false t) (.cells (pre ++ (rows.flatten ++ rest)).toArray t₀ fr):=⟨rows,pre,rest,fr,t₀,hx,hb,hl,h0,hf,rfl,fun h => by cases h⟩
end Go.Proofs.YtfddkbbjnghefaaGreatDoor.Zs
