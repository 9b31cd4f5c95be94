/-
  The mathematics of hours: ascending lists, what is in force between them; no model.
-/
import Derived.Test.YtfddkbbjnghefaaGreatDoorToData
import Derived.Test.YtfddkbbjnghefaaGreatDoorToEvS
set_option linter.unusedSimpArgs false
set_option linter.unusedVariables false
namespace Go.Proofs.YtfddkbbjnghefaaGreatDoor.Zs
open Go
theorem cmpI_last (l : List Int) (x : Int) : (cmpI (l ++ [x])).getLast? = some x:=by
 rw [cmpI_snoc]
 split
 ·rename_i h; exact h
 ·simp
theorem cmpI_end (l : List Int) : (cmpI l).getLast? = l.getLast?:=by
 rcases List.eq_nil_or_concat l with rfl | ⟨a,x,rfl⟩
 ·rfl
 ·rw [List.concat_eq_append,cmpI_last,List.getLast?_append]; rfl
theorem bang_pre (l : List Int) (x : Int) {j : Nat} (h : j < l.length) : (l ++ [x]).toArray[j]! = l.toArray[j]!:=by
 have h1 : j < (l ++ [x]).length:=by rw [List.length_append]; omega
 rw [getElem!_pos (l ++ [x]).toArray j (by simpa using h1),getElem!_pos l.toArray j (by simpa using h)]
 simp only [List.getElem_toArray]
 exact List.getElem_append_left h
theorem upTo_pre (l : List Int) (x : Int) : ∀ m,m≤l.length→Lib.compactUpTo (l ++ [x]).toArray m = Lib.compactUpTo l.toArray m:=by
 intro m
 induction m with
 | zero => intro _; rfl
 | succ m ih =>
   intro hm
   have e1:=bang_pre l x (show m < l.length by omega)
   have hk : Lib.keeps (l ++ [x]).toArray m = Lib.keeps l.toArray m:=by
    unfold Lib.keeps
    rcases Nat.eq_zero_or_pos m with rfl | h0
    ·simp
    ·rw [e1,bang_pre l x (show m - 1 < l.length by omega)]
   rw [Lib.compactUpTo_succ,Lib.compactUpTo_succ,ih (by omega),hk,e1]
theorem comp_is : ∀ (n : Nat) (zs : List Int),zs.length = n→Lib.compact zs = cmpI zs:=by
 intro n
 induction n with
 | zero => intro zs h; rw [List.length_eq_zero_iff.1 h]; rfl
 | succ n ih =>
   intro zs h
   rcases List.eq_nil_or_concat zs with rfl | ⟨l,x,rfl⟩
   ·cases h
   ·rw [List.concat_eq_append] at h ⊢
    have hl : l.length = n:=by simpa using h
    have hlen : (l ++ [x]).length = l.length + 1:=by simp
    rw [cmpI_snoc,cmpI_end]
    unfold Lib.compact
    rw [hlen,Lib.compactUpTo_succ,upTo_pre l x _ (Nat.le_refl _)]
    have e0 : (l ++ [x]).toArray[l.length]! = x:=by
     rw [getElem!_pos (l ++ [x]).toArray l.length (by simp)]
     simp
    have hi : Lib.compactUpTo l.toArray l.length = cmpI l:=ih l hl
    rw [e0,hi]
    have hk : Lib.keeps (l ++ [x]).toArray l.length = !(decide (l.getLast? = some x)):=by
     unfold Lib.keeps
     rw [e0]
     rcases List.eq_nil_or_concat l with rfl | ⟨a,y,rfl⟩
     ·simp
     ·rw [List.concat_eq_append]
      have e2 : (a ++ [y] ++ [x]).toArray[(a ++ [y]).length - 1]! = y:=by
       rw [bang_pre (a ++ [y]) x (by simp)]
       rw [getElem!_pos (a ++ [y]).toArray _ (by simp)]
       simp
      rw [e2]
      have h1 : (a ++ [y]).getLast? = some y:=by simp
      have h2 : ¬ (a ++ [y]).length = 0:=by simp
      rw [h1]
      by_cases hxy : x = y
      ·subst hxy
       simp
      ·have hyx : ¬ y = x:=fun e => hxy e.symm
       simp [hxy,hyx]
    rw [hk]
    by_cases hc : l.getLast? = some x
    ·simp [hc]
    ·simp [hc]
theorem sym209C (rows : List (List Value)) : sy 209 [zQ rows] = some (zQ (yg (compK rows))):=by
 rw [sym209R]
 unfold compK
 rw [comp_is _ _ rfl]
open Go
open Go
def AscW (s : List Who) : Prop:=s.Pairwise fun a b => a.n < b.n
theorem asc_last : ∀ {l : List Int} {y : Int},l.Pairwise (·< ·)→l.getLast? = some y→∀ a ∈ l,a≤y
 | [],y,_,h => by cases h
 | [x],y,_,h => by simp only [List.getLast?_singleton,Option.some.injEq] at h; intro a ha; rw [List.mem_singleton] at ha; omega
 | x :: z :: l,y,hp,h => by
   rw [List.getLast?_cons_cons] at h
   have h1:=List.pairwise_cons.1 hp
   have ih:=asc_last h1.2 h
   intro a ha
   rcases List.mem_cons.1 ha with rfl | ha
   ·have e1:=h1.1 z List.mem_cons_self
    have e2:=ih z List.mem_cons_self
    omega
   ·exact ih a ha
theorem cmp_asc : ∀ (n : Nat) (zs : List Int),zs.length = n→zs.Pairwise (·≤ ·)→(cmpI zs).Pairwise (·< ·)∧∀ a,a ∈ cmpI zs↔a ∈ zs:=by
 intro n
 induction n with
 | zero => intro zs h _; rw [List.length_eq_zero_iff.1 h]; exact ⟨List.Pairwise.nil,fun a => Iff.rfl⟩
 | succ n ih =>
   intro zs h hp
   rcases List.eq_nil_or_concat zs with rfl | ⟨l,x,rfl⟩
   ·cases h
   ·rw [List.concat_eq_append] at h hp ⊢
    have hl : l.length = n:=by simpa using h
    obtain ⟨p1,p2,p3⟩:=List.pairwise_append.1 hp
    obtain ⟨i1,i2⟩:=ih l hl p1
    have hle : ∀ a ∈ l,a≤x:=fun a ha => p3 a ha x (by simp)
    rw [cmpI_snoc]
    split
    ·rename_i hx
     have hm : x ∈ cmpI l:=List.mem_of_getLast? hx
     refine ⟨i1,fun a => ?_⟩
     rw [i2,List.mem_append,List.mem_singleton]
     constructor
     ·exact .inl
     ·rintro (h | rfl)
      ·exact h
      ·exact (i2 _).1 hm
    ·rename_i hx
     refine ⟨List.pairwise_append.2 ⟨i1,List.pairwise_singleton _ _,fun a ha b hb => ?_⟩,fun a => by rw [List.mem_append,List.mem_append,i2]⟩
     rw [List.mem_singleton] at hb
     subst hb
     have e:=hle a ((i2 a).1 ha)
     rcases Int.lt_or_le a b with h | h
     ·exact h
     ·exfalso
      have e2 : a = b:=by omega
      subst e2
      cases hy : (cmpI l).getLast? with
      | none => rw [List.getLast?_eq_none_iff] at hy; rw [hy] at ha; cases ha
      | some y =>
        have e3:=asc_last i1 hy a ha
        have e4:=hle y ((i2 y).1 (List.mem_of_getLast? hy))
        have e5 : y = a:=by omega
        rw [hy,e5] at hx
        exact hx rfl
theorem beg_both (l : List Rat9) : AscW (begW l)∧∀ w,w ∈ begW l↔∃ x ∈ l,w = ⟨x.from_⟩:=by
 have hs : ((zg (zj l)).map Who.n) = ((zj l).map Who.n).mergeSort fun x y => decide (x≤y):=by
  unfold zg
  rw [List.map_map]
  exact List.map_id' _
 have hp : (((zj l).map Who.n).mergeSort fun x y => decide (x≤y)).Pairwise (·≤ ·):=by
  have:=List.pairwise_mergeSort (le:=fun (x y : Int) => decide (x≤y)) (fun a b c h1 h2 => by simp only [decide_eq_true_eq] at *; omega) (fun a b => by simp only [Bool.or_eq_true,decide_eq_true_eq]; omega) ((zj l).map Who.n)
  exact List.Pairwise.imp (fun h => by simpa using h) this
 obtain ⟨c1,c2⟩:=cmp_asc _ _ rfl hp
 unfold begW zO
 rw [hs]
 constructor
 ·unfold AscW
  rw [List.pairwise_map]
  exact c1
 ·intro w
  constructor
  ·intro h
   obtain ⟨a,ha,rfl⟩:=List.mem_map.1 h
   have h2:=List.mem_mergeSort.1 ((c2 a).1 ha)
   obtain ⟨v,hv,rfl⟩:=List.mem_map.1 h2
   unfold zj at hv
   obtain ⟨x,hx,rfl⟩:=List.mem_map.1 hv
   exact ⟨x,hx,rfl⟩
  ·rintro ⟨x,hx,rfl⟩
   refine List.mem_map.2 ⟨x.from_,(c2 _).2 (List.mem_mergeSort.2 (List.mem_map.2 ⟨⟨x.from_⟩,?_,rfl⟩)),rfl⟩
   unfold zj
   exact List.mem_map.2 ⟨x,hx,rfl⟩
theorem beg_asc (l : List Rat9) : AscW (begW l):=(beg_both l).1
theorem beg_mem (l : List Rat9) (w : Who) : w ∈ begW l↔∃ x ∈ l,w = ⟨x.from_⟩:=(beg_both l).2 w
theorem inF_cong {l : List Rat9} {g : ByteArray} {h h' K : Int} (hx : ∀ x ∈ l,x.from_≤h↔x.from_≤h') : inF l g h K = inF l g h' K:=by
 unfold inF
 have step : ∀ (p : List Rat9) (b : Option Rat9),(∀ x ∈ p,x.from_≤h↔x.from_≤h')→p.foldl (stepR l g h K) b = p.foldl (stepR l g h' K) b:=by
  intro p
  induction p with
  | nil => intro b _; rfl
  | cons x p ih =>
    intro b hb
    have e : stepR l g h K b x = stepR l g h' K b x:=by
     unfold stepR forR
     rw [decide_eq_decide.2 (hb x List.mem_cons_self)]
    rw [List.foldl_cons,List.foldl_cons,e]
    exact ih _ fun y hy => hb y (List.mem_cons_of_mem _ hy)
 exact step l none hx
theorem idAt_cong {l : List Rat9} {g : ByteArray} {h h' K : Int} (hx : ∀ x ∈ l,x.from_≤h↔x.from_≤h') : idAt l g h K = idAt l g h' K:=by
 unfold idAt; rw [inF_cong hx]
theorem idAt_none {l : List Rat9} {g : ByteArray} {h K : Int} (hx : ∀ x ∈ l,h < x.from_) : idAt l g h K = 0:=by
 have step : ∀ (p : List Rat9),(∀ x ∈ p,h < x.from_)→p.foldl (stepR l g h K) none = none:=by
  intro p
  induction p with
  | nil => intro _; rfl
  | cons x p ih =>
    intro hb
    have e : stepR l g h K none x = none:=by
     have h1:=hb x List.mem_cons_self
     have h2 : ¬ x.from_≤h:=by omega
     unfold stepR forR
     simp [h2]
    rw [List.foldl_cons,e]
    exact ih fun y hy => hb y (List.mem_cons_of_mem _ hy)
 unfold idAt inF
 rw [step l hx]
 rfl
def chgW (l : List Rat9) (g : ByteArray) (K : Int) (w : Who) : Bool:=!decide (idAt l g w.n K = idAt l g (w.n - 1) K)
theorem asc_at {s : List Who} (h : AscW s) {i j : Nat} {u v : Who} (hi : s[i]? = some u) (hj : s[j]? = some v) (hij : i < j) : u.n < v.n:=by
 obtain ⟨h1,rfl⟩:=List.getElem?_eq_some_iff.1 hi
 obtain ⟨h2,rfl⟩:=List.getElem?_eq_some_iff.1 hj
 exact List.pairwise_iff_getElem.1 h i j h1 h2 hij
def lastAt (l : List Rat9) (g : ByteArray) (K : Int) : Nat→Int
 | 0 => 0
 | j + 1 => idAt l g ((begW l).getD j ⟨0⟩).n K
theorem turns_at (l : List Rat9) (g : ByteArray) (K : Int) : ∀ i : Nat,i≤(begW l).length→zN l g K i = (lastAt l g K i,((begW l).take i).filter (chgW l g K)):=by
 intro i
 induction i with
 | zero => intro _; rfl
 | succ i ih =>
   intro hi
   have hp : (begW l)[i]? = some (begW l)[i]:=List.getElem?_eq_getElem (by omega)
   generalize hw : (begW l)[i] = w at hp
   rw [turnsI_next hp,ih (by omega),turnStep,List.take_add_one,hp]
   have hD : (begW l).getD i ⟨0⟩ = w:=by rw [List.getD_eq_getElem?_getD,hp]; rfl
   have hf : ∀ x ∈ l,∃ j : Nat,(begW l)[j]? = some ⟨x.from_⟩:=fun x hx => List.getElem?_of_mem ((beg_mem l _).2 ⟨x,hx,rfl⟩)
   have key : lastAt l g K i = idAt l g (w.n - 1) K:=by
    cases i with
    | zero =>
      show (0 : Int) = _
      refine (idAt_none fun x hx => ?_).symm
      obtain ⟨j,hj⟩:=hf x hx
      rcases Nat.eq_zero_or_pos j with rfl | h0
      ·rw [hp] at hj
       have : w.n = x.from_:=by rw [Option.some.inj hj]
       omega
      ·have:=asc_at (beg_asc l) hp hj h0
       simp only at this
       omega
    | succ k =>
      have hk : (begW l)[k]? = some (begW l)[k]:=List.getElem?_eq_getElem (by omega)
      generalize (begW l)[k] = u at hk
      have hDk : (begW l).getD k ⟨0⟩ = u:=by rw [List.getD_eq_getElem?_getD,hk]; rfl
      show idAt l g ((begW l).getD k ⟨0⟩).n K = _
      rw [hDk]
      refine idAt_cong fun x hx => ?_
      obtain ⟨j,hj⟩:=hf x hx
      have huw:=asc_at (beg_asc l) hk hp (Nat.lt_succ_self k)
      have hc : j < k∨j = k∨j = k + 1∨k + 1 < j:=by omega
      rcases hc with h | rfl | rfl | h
      ·have:=asc_at (beg_asc l) hj hk h
       simp only at this; omega
      ·rw [hk] at hj
       have : u.n = x.from_:=by rw [Option.some.inj hj]
       omega
      ·rw [hp] at hj
       have : w.n = x.from_:=by rw [Option.some.inj hj]
       omega
      ·have:=asc_at (beg_asc l) hp hj h
       simp only at this; omega
   simp only [key]
   refine Prod.ext ?_ ?_
   ·show idAt l g w.n K = idAt l g ((begW l).getD i ⟨0⟩).n K
    rw [hD]
   ·show (if idAt l g w.n K = idAt l g (w.n - 1) K then _ else _) = _
    rw [List.filter_append]
    by_cases hc : idAt l g w.n K = idAt l g (w.n - 1) K
    ·simp [hc,chgW]
    ·simp [hc,chgW]
theorem turns_is (l : List Rat9) (g : ByteArray) (K : Int) : zV l g K = (begW l).filter (chgW l g K):=by
 have h:=turns_at l g K (begW l).length (Nat.le_refl _)
 rw [List.take_length] at h
 rw [← turnsI_all (Nat.le_refl _),h]
end Go.Proofs.YtfddkbbjnghefaaGreatDoor.Zs
