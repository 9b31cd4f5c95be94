/-
  The mathematics of hours: ascending lists, what is in force between them; no model.
-/
import Derived.Test.YtfddkbbjnghefaaGreatDoorFoData
import Derived.Test.YtfddkbbjnghefaaGreatDoorFoEvS
set_option linter.unusedSimpArgs false
set_option linter.unusedVariables false
namespace Go.Proofs.YtfddkbbjnghefaaGreatDoor.Zs
open Go
theorem cmpI_last (l : List Int) (x : Int) : (cmpI (l ++ [x])).getLast? = some x:=by
 rw [cmpI_snoc]
 split
 ·rename_i h; exact h
 ·simp
theorem cmpI_end (l : List Int) : (cmpI l).getLast? = l.getLast?:=by
 rcases List.eq_nil_or_concat l with rfl | ⟨a,x,rfl⟩
 ·rfl
 ·rw [List.concat_eq_append,cmpI_last,List.getLast?_append]; rfl
theorem bang_pre (l : List Int) (x : Int) {j : Nat} (h : j < l.length) : (l ++ [x]).toArray[j]! = l.toArray[j]!:=by
 have h1 : j < (l ++ [x]).length:=by rw [List.length_append]; omega
 rw [getElem!_pos (l ++ [x]).toArray j (by simpa using h1),getElem!_pos l.toArray j (by simpa using h)]
 simp only [List.getElem_toArray]
 exact List.getElem_append_left h
theorem upTo_pre (l : List Int) (x : Int) : ∀ m,m≤l.length→Lib.compactUpTo (l ++ [x]).toArray m = Lib.compactUpTo l.toArray m:=by
 intro m
 induction m with
 | zero => intro _; rfl
 | succ m ih =>
   intro hm
   have e1:=bang_pre l x (show m < l.length by omega)
   have hk : Lib.keeps (l ++ [x]).toArray m = Lib.keeps l.toArray m:=by
    unfold Lib.keeps
    rcases Nat.eq_zero_or_pos m with rfl | h0
    ·simp
    ·rw [e1,bang_pre l x (show m - 1 < l.length by omega)]
   rw [Lib.compactUpTo_succ,Lib.compactUpTo_succ,ih (by omega),hk,e1]
theorem comp_is : ∀ (n : Nat) (zs : List Int),zs.length = n→Lib.compact zs = cmpI zs:=by
 intro n
 induction n with
 | zero => intro zs h; rw [List.length_eq_zero_iff.1 h]; rfl
 | succ n ih =>
   intro zs h
   rcases List.eq_nil_or_concat zs with rfl | ⟨l,x,rfl⟩
   ·cases h
   ·rw [List.concat_eq_append] at h ⊢
    have hl : l.length = n:=by simpa using h
    have hlen : (l ++ [x]).length = l.length + 1:=by simp
    rw [cmpI_snoc,cmpI_end]
    unfold Lib.compact
    rw [hlen,Lib.compactUpTo_succ,upTo_pre l x _ (Nat.le_refl _)]
    have e0 : (l ++ [x]).toArray[l.length]! = x:=by
     rw [getElem!_pos (l ++ [x]).toArray l.length (by simp)]
     simp
    have hi : Lib.compactUpTo l.toArray l.length = cmpI l:=ih l hl
    rw [e0,hi]
    have hk : Lib.keeps (l ++ [x]).toArray l.length = !(decide (l.getLast? = some x)):=by
     unfold Lib.keeps
     rw [e0]
     rcases List.eq_nil_or_concat l with rfl | ⟨a,y,rfl⟩
     ·simp
     ·rw [List.concat_eq_append]
      have e2 : (a ++ [y] ++ [x]).toArray[(a ++ [y]).length - 1]! = y:=by
       rw [bang_pre (a ++ [y]) x (by simp)]
       rw [getElem!_pos (a ++ [y]).toArray _ (by simp)]
       simp
      rw [e2]
      have h1 : (a ++ [y]).getLast? = some y:=by simp
      have h2 : ¬ (a ++ [y]).length = 0:=by simp
      rw [h1]
      by_cases hxy : x = y
      ·subst hxy
       simp
      ·have hyx : ¬ y = x:=fun e => hxy e.symm
       simp [hxy,hyx]
    rw [hk]
    by_cases hc : l.getLast? = some x
    ·simp [hc]
    ·simp [hc]
theorem sym209C (rows : List (List Value)) : sy 209 [zP rows] = some (zP (yr (compK rows))):=by
 rw [sym209R]
 unfold compK
 rw [comp_is _ _ rfl]
open Go
theorem insP_nil (p : Int) : insP [] p = 0:=rfl
theorem insP_cons (w : Who) (s : List Who) (p : Int) : insP (w :: s) p = if w.n < p then insP s p + 1 else 0:=by
 unfold insP
 rw [List.takeWhile_cons]
 by_cases h : w.n < p <;> simp [h]
theorem insP_le (p : Int) : ∀ s : List Who,insP s p≤s.length
 | [] => Nat.le_refl _
 | w :: s => by
   have:=insP_le p s
   rw [insP_cons,List.length_cons]
   split <;> omega
theorem insP_lt (p : Int) : ∀ (s : List Who) (k : Nat),k < insP s p→∃ w,s[k]? = some w∧w.n < p
 | [],k,h => by simp [insP_nil] at h
 | w :: s,k,h => by
   rw [insP_cons] at h
   split at h
   ·rename_i hw
    cases k with
    | zero => exact ⟨w,rfl,hw⟩
    | succ k =>
      obtain ⟨v,hv,hl⟩:=insP_lt p s k (by omega)
      exact ⟨v,by simpa using hv,hl⟩
   ·omega
theorem insP_next (p : Int) : ∀ (s : List Who) (k : Nat) (w : Who),k≤insP s p→s[k]? = some w→w.n < p→k + 1≤insP s p
 | [],k,w,_,h,_ => by simp at h
 | v :: s,k,w,hk,h,hl => by
   rw [insP_cons] at hk ⊢
   cases k with
   | zero =>
     simp at h
     subst h
     rw [if_pos hl]; omega
   | succ k =>
     split at hk
     ·rename_i hv
      rw [if_pos hv]
      have:=insP_next p s k w (by omega) (by simpa using h) hl
      omega
     ·omega
theorem insP_stop {s : List Who} {p : Int} {k : Nat} (hk : k≤insP s p) (h : ∀ w,s[k]? = some w→¬ w.n < p) : insP s p = k:=by
 by_cases e : k = insP s p
 ·exact e.symm
 ·obtain ⟨w,hw,hl⟩:=insP_lt p s k (by omega)
  exact absurd hl (h w hw)
theorem insW_len (s : List Who) (p : Int) : (insW s p).length = s.length + 1:=by
 have:=insP_le p s
 unfold insW
 simp
 omega
theorem insW_perm (s : List Who) (p : Int) : (insW s p).Perm (⟨p⟩ :: s):=by
 unfold insW
 have h : (s.take (insP s p) ++ (⟨p⟩ :: s.drop (insP s p))).Perm (⟨p⟩ :: (s.take (insP s p) ++ s.drop (insP s p))):=List.perm_middle
 rwa [List.take_append_drop] at h
def UpW (s : List Who) : Prop:=s.Pairwise fun a b => a.n≤b.n
theorem insW_up {s : List Who} {p : Int} (h : UpW s) : UpW (insW s p):=by
 unfold insW UpW
 rw [List.pairwise_append,List.pairwise_cons]
 have hs : (s.take (insP s p) ++ s.drop (insP s p)).Pairwise fun a b => a.n≤b.n:=by rw [List.take_append_drop]; exact h
 rw [List.pairwise_append] at hs
 have hpre : ∀ a ∈ s.take (insP s p),a.n < p:=fun a ha => by
  obtain ⟨k,hk,rfl⟩:=List.getElem_of_mem ha
  rw [List.length_take] at hk
  obtain ⟨w,hw,hl⟩:=insP_lt p s k (by omega)
  rw [List.getElem_take]
  rw [List.getElem?_eq_getElem (by omega)] at hw
  rw [Option.some.inj hw]; exact hl
 have hpost : ∀ b ∈ s.drop (insP s p),p≤b.n:=fun b hb => by
  obtain ⟨k,hk,rfl⟩:=List.getElem_of_mem hb
  rw [List.length_drop] at hk
  have hat : insP s p < s.length:=by omega
  have h0 : ¬ (s[insP s p]).n < p:=fun hl => by
   have:=insP_next p s (insP s p) _ (Nat.le_refl _) (List.getElem?_eq_getElem hat) hl
   omega
  rw [List.getElem_drop]
  rcases Nat.eq_zero_or_pos k with rfl | hk0
  ·have : ¬ (s[insP s p + 0]).n < p:=h0
   omega
  ·have:=List.pairwise_iff_getElem.1 h (insP s p) (insP s p + k) hat (by omega) (by omega)
   omega
 refine ⟨hs.1,⟨hpost,hs.2.1⟩,fun a ha b hb => ?_⟩
 have ha':=hpre a ha
 rcases List.mem_cons.1 hb with rfl | hb
 ·show a.n≤p; omega
 ·have:=hpost b hb; omega
theorem insW_rows (s : List Who) (p : Int) : s.take (insP s p) ++ [⟨p⟩] ++ s.drop (insP s p) = insW s p:=by unfold insW; simp
theorem insW_rows0 {s : List Who} {p : Int} (h : insP s p = 0) : [⟨p⟩] ++ s = insW s p:=by unfold insW; rw [h]; simp
open Go
theorem hrsStep_is (s : List Who) (x : Rat9) : hrsStep s x = if s[insP s x.from_]? = some ⟨x.from_⟩ then s else insW s x.from_:=by
 unfold hrsStep; rw [insW_rows]
def AscW (s : List Who) : Prop:=s.Pairwise fun a b => a.n < b.n
theorem asc_up {s : List Who} (h : AscW s) : UpW s:=List.Pairwise.imp (fun h => Int.le_of_lt h) h
theorem insP_at {p : Int} : ∀ {s : List Who},UpW s→⟨p⟩ ∈ s→s[insP s p]? = some ⟨p⟩
 | [],_,h => by cases h
 | w :: s,hu,h => by
   rw [insP_cons]
   split
   ·rename_i hw
    rw [List.getElem?_cons_succ]
    refine insP_at (List.pairwise_cons.1 hu).2 ?_
    rcases List.mem_cons.1 h with e | e
    ·rw [← e] at hw; exact absurd hw (by simp)
    ·exact e
   ·rename_i hw
    rcases List.mem_cons.1 h with e | e
    ·rw [← e]; rfl
    ·have:=(List.pairwise_cons.1 hu).1 _ e
     have e2 : w.n = p:=by simp only at this; omega
     cases w; cases e2; rfl
theorem asc_cons {w : Who} {s : List Who} : AscW (w :: s)↔(∀ v ∈ s,w.n < v.n)∧AscW s:=List.pairwise_cons
theorem up_asc : ∀ {s : List Who},UpW s→s.Nodup→AscW s
 | [],_,_ => List.Pairwise.nil
 | w :: s,hu,hn => by
   have h1:=List.pairwise_cons.1 hu
   have h2:=List.nodup_cons.1 hn
   refine asc_cons.2 ⟨fun v hv => ?_,up_asc h1.2 h2.2⟩
   have:=h1.1 v hv
   rcases Int.lt_or_le w.n v.n with h | h
   ·exact h
   ·exact absurd (by
     have e : w.n = v.n:=by omega
     have : w = v:=by cases w; cases v; cases e; rfl
     rw [this]; exact hv) h2.1
theorem asc_nodup : ∀ {s : List Who},AscW s→s.Nodup
 | [],_ => List.nodup_nil
 | w :: s,h => by
   have h1:=asc_cons.1 h
   exact List.nodup_cons.2 ⟨fun hm => Int.lt_irrefl _ (h1.1 _ hm),asc_nodup h1.2⟩
theorem hrsStep_mem (s : List Who) (x : Rat9) (w : Who) : w ∈ hrsStep s x↔w ∈ s∨w = ⟨x.from_⟩:=by
 rw [hrsStep_is]
 split
 ·rename_i h
  have:=List.mem_of_getElem? h
  constructor
  ·exact .inl
  ·rintro (h | rfl)
   ·exact h
   ·exact this
 ·rw [(insW_perm s x.from_).mem_iff,List.mem_cons,or_comm]
theorem hrsStep_asc {s : List Who} (x : Rat9) (h : AscW s) : AscW (hrsStep s x):=by
 rw [hrsStep_is]
 split
 ·exact h
 ·rename_i hn
  refine up_asc (insW_up (asc_up h)) ((insW_perm s x.from_).nodup_iff.2 (List.nodup_cons.2 ⟨fun hm => hn (insP_at (asc_up h) hm),asc_nodup h⟩))
theorem hrs_fold : ∀ (l : List Rat9) (s : List Who),AscW s→AscW (l.foldl hrsStep s)∧∀ w,w ∈ l.foldl hrsStep s↔w ∈ s∨∃ x ∈ l,w = ⟨x.from_⟩
 | [],s,h => ⟨h,fun w => by simp⟩
 | x :: l,s,h => by
   obtain ⟨h1,h2⟩:=hrs_fold l (hrsStep s x) (hrsStep_asc x h)
   refine ⟨h1,fun w => ?_⟩
   rw [List.foldl_cons,h2,hrsStep_mem]
   simp only [List.mem_cons,exists_eq_or_imp,or_assoc]
theorem hrs_asc (l : List Rat9) : AscW (hrsR l):=(hrs_fold l [⟨0⟩] (by simp [AscW])).1
theorem hrs_mem (l : List Rat9) (w : Who) : w ∈ hrsR l↔w = ⟨0⟩∨∃ x ∈ l,w = ⟨x.from_⟩:=by
 rw [hrsR,(hrs_fold l [⟨0⟩] (by simp [AscW])).2]; simp
theorem asc_eq : ∀ {a b : List Who},AscW a→AscW b→(∀ w,w ∈ a↔w ∈ b)→a = b
 | [],[],_,_,_ => rfl
 | [],y :: b,_,_,h => by cases (h y).2 List.mem_cons_self
 | x :: a,[],_,_,h => by cases (h x).1 List.mem_cons_self
 | x :: a,y :: b,ha,hb,h => by
   have h1:=asc_cons.1 ha
   have h2:=asc_cons.1 hb
   have e : x = y:=by
    rcases List.mem_cons.1 ((h x).1 List.mem_cons_self) with e | e
    ·exact e
    ·rcases List.mem_cons.1 ((h y).2 List.mem_cons_self) with e' | e'
     ·exact e'.symm
     ·have:=h1.1 _ e'; have:=h2.1 _ e; omega
   subst e
   rw [asc_eq h1.2 h2.2 fun w => ?_]
   constructor
   ·intro hw
    rcases List.mem_cons.1 ((h w).1 (List.mem_cons_of_mem _ hw)) with e | e
    ·rw [e] at hw; exact absurd (h1.1 _ hw) (Int.lt_irrefl _)
    ·exact e
   ·intro hw
    rcases List.mem_cons.1 ((h w).2 (List.mem_cons_of_mem _ hw)) with e | e
    ·rw [e] at hw; exact absurd (h2.1 _ hw) (Int.lt_irrefl _)
    ·exact e
theorem asc_last : ∀ {l : List Int} {y : Int},l.Pairwise (·< ·)→l.getLast? = some y→∀ a ∈ l,a≤y
 | [],y,_,h => by cases h
 | [x],y,_,h => by simp only [List.getLast?_singleton,Option.some.injEq] at h; intro a ha; rw [List.mem_singleton] at ha; omega
 | x :: z :: l,y,hp,h => by
   rw [List.getLast?_cons_cons] at h
   have h1:=List.pairwise_cons.1 hp
   have ih:=asc_last h1.2 h
   intro a ha
   rcases List.mem_cons.1 ha with rfl | ha
   ·have e1:=h1.1 z List.mem_cons_self
    have e2:=ih z List.mem_cons_self
    omega
   ·exact ih a ha
theorem cmp_asc : ∀ (n : Nat) (zs : List Int),zs.length = n→zs.Pairwise (·≤ ·)→(cmpI zs).Pairwise (·< ·)∧∀ a,a ∈ cmpI zs↔a ∈ zs:=by
 intro n
 induction n with
 | zero => intro zs h _; rw [List.length_eq_zero_iff.1 h]; exact ⟨List.Pairwise.nil,fun a => Iff.rfl⟩
 | succ n ih =>
   intro zs h hp
   rcases List.eq_nil_or_concat zs with rfl | ⟨l,x,rfl⟩
   ·cases h
   ·rw [List.concat_eq_append] at h hp ⊢
    have hl : l.length = n:=by simpa using h
    obtain ⟨p1,p2,p3⟩:=List.pairwise_append.1 hp
    obtain ⟨i1,i2⟩:=ih l hl p1
    have hle : ∀ a ∈ l,a≤x:=fun a ha => p3 a ha x (by simp)
    rw [cmpI_snoc]
    split
    ·rename_i hx
     have hm : x ∈ cmpI l:=List.mem_of_getLast? hx
     refine ⟨i1,fun a => ?_⟩
     rw [i2,List.mem_append,List.mem_singleton]
     constructor
     ·exact .inl
     ·rintro (h | rfl)
      ·exact h
      ·exact (i2 _).1 hm
    ·rename_i hx
     refine ⟨List.pairwise_append.2 ⟨i1,List.pairwise_singleton _ _,fun a ha b hb => ?_⟩,fun a => by rw [List.mem_append,List.mem_append,i2]⟩
     rw [List.mem_singleton] at hb
     subst hb
     have e:=hle a ((i2 a).1 ha)
     rcases Int.lt_or_le a b with h | h
     ·exact h
     ·exfalso
      have e2 : a = b:=by omega
      subst e2
      cases hy : (cmpI l).getLast? with
      | none => rw [List.getLast?_eq_none_iff] at hy; rw [hy] at ha; cases ha
      | some y =>
        have e3:=asc_last i1 hy a ha
        have e4:=hle y ((i2 y).1 (List.mem_of_getLast? hy))
        have e5 : y = a:=by omega
        rw [hy,e5] at hx
        exact hx rfl
theorem beg_both (l : List Rat9) : AscW (begW l)∧∀ w,w ∈ begW l↔∃ x ∈ l,w = ⟨x.from_⟩:=by
 have hs : ((zi (zk l)).map Who.n) = ((zk l).map Who.n).mergeSort fun x y => decide (x≤y):=by
  unfold zi
  rw [List.map_map]
  exact List.map_id' _
 have hp : (((zk l).map Who.n).mergeSort fun x y => decide (x≤y)).Pairwise (·≤ ·):=by
  have:=List.pairwise_mergeSort (le:=fun (x y : Int) => decide (x≤y)) (fun a b c h1 h2 => by simp only [decide_eq_true_eq] at *; omega) (fun a b => by simp only [Bool.or_eq_true,decide_eq_true_eq]; omega) ((zk l).map Who.n)
  exact List.Pairwise.imp (fun h => by simpa using h) this
 obtain ⟨c1,c2⟩:=cmp_asc _ _ rfl hp
 unfold begW zQ
 rw [hs]
 constructor
 ·unfold AscW
  rw [List.pairwise_map]
  exact c1
 ·intro w
  constructor
  ·intro h
   obtain ⟨a,ha,rfl⟩:=List.mem_map.1 h
   have h2:=List.mem_mergeSort.1 ((c2 a).1 ha)
   obtain ⟨v,hv,rfl⟩:=List.mem_map.1 h2
   unfold zk at hv
   obtain ⟨x,hx,rfl⟩:=List.mem_map.1 hv
   exact ⟨x,hx,rfl⟩
  ·rintro ⟨x,hx,rfl⟩
   refine List.mem_map.2 ⟨x.from_,(c2 _).2 (List.mem_mergeSort.2 (List.mem_map.2 ⟨⟨x.from_⟩,?_,rfl⟩)),rfl⟩
   unfold zk
   exact List.mem_map.2 ⟨x,hx,rfl⟩
theorem beg_asc (l : List Rat9) : AscW (begW l):=(beg_both l).1
theorem beg_mem (l : List Rat9) (w : Who) : w ∈ begW l↔∃ x ∈ l,w = ⟨x.from_⟩:=(beg_both l).2 w
theorem hrs_beg {l : List Rat9} (h : ∀ x ∈ l,0≤x.from_) : hrsR l = begW l∧⟨0⟩ ∈ begW l∨hrsR l = ⟨0⟩ :: begW l∧∀ x ∈ l,0 < x.from_:=by
 by_cases h0 : (⟨0⟩ : Who) ∈ begW l
 ·refine .inl ⟨asc_eq (hrs_asc l) (beg_asc l) fun w => ?_,h0⟩
  rw [hrs_mem,beg_mem]
  constructor
  ·rintro (rfl | h)
   ·exact (beg_mem l _).1 h0
   ·exact h
  ·exact .inr
 ·have hx : ∀ x ∈ l,0 < x.from_:=fun x hx => by
   have h1:=h x hx
   rcases Int.lt_or_le 0 x.from_ with h2 | h2
   ·exact h2
   ·exact absurd ((beg_mem l _).2 ⟨x,hx,by congr 1; omega⟩) h0
  refine .inr ⟨asc_eq (hrs_asc l) (asc_cons.2 ⟨fun v hv => ?_,beg_asc l⟩) fun w => ?_,hx⟩
  ·obtain ⟨x,hm,rfl⟩:=(beg_mem l _).1 hv
   exact hx x hm
  ·rw [hrs_mem,List.mem_cons,beg_mem]
theorem hrs_len (l : List Rat9) : (hrsR l).length≤l.length + 1:=by
 have step : ∀ (l : List Rat9) (s : List Who),(l.foldl hrsStep s).length≤l.length + s.length:=by
  intro l
  induction l with
  | nil => intro s; simp
  | cons x l ih =>
    intro s
    have h1:=ih (hrsStep s x)
    have h2 : (hrsStep s x).length≤s.length + 1:=by
     rw [hrsStep_is]; split
     ·omega
     ·rw [insW_len]; exact Nat.le_refl _
    rw [List.foldl_cons,List.length_cons]; omega
 simpa [hrsR] using step l [⟨0⟩]
def hrsI (l : List Rat9) (i : Nat) : List Who:=(l.take i).foldl hrsStep [⟨0⟩]
theorem hrsI_next {l : List Rat9} {i : Nat} {x : Rat9} (hp : l[i]? = some x) : hrsI l (i + 1) = hrsStep (hrsI l i) x:=by
 unfold hrsI
 rw [List.take_add_one,hp]
 simp
theorem hrsI_all {l : List Rat9} {i : Nat} (hi : l.length≤i) : hrsI l i = hrsR l:=by
 unfold hrsI hrsR
 rw [List.take_of_length_le hi]
theorem hrsI_len (l : List Rat9) (i : Nat) : (hrsI l i).length≤l.length + 1:=by
 have h1:=hrs_len (l.take i)
 have h2 : (l.take i).length≤l.length:=by rw [List.length_take]; omega
 have h3 : hrsI l i = hrsR (l.take i):=rfl
 rw [h3]; omega
theorem hrs_pos (l : List Rat9) : 1≤(hrsR l).length:=by
 have h:=(hrs_mem l ⟨0⟩).2 (.inl rfl)
 exact List.length_pos_of_mem h
theorem hrs_one {l : List Rat9} (h : (hrsR l).length = 1) : hrsR l = [⟨0⟩]:=by
 have h0:=(hrs_mem l ⟨0⟩).2 (.inl rfl)
 obtain ⟨a,ha⟩:=List.length_eq_one_iff.1 h
 rw [ha] at h0 ⊢
 rw [List.mem_singleton] at h0
 rw [h0]
theorem inF_cong {l : List Rat9} {g : ByteArray} {h h' K : Int} (hx : ∀ x ∈ l,x.from_≤h↔x.from_≤h') : inF l g h K = inF l g h' K:=by
 unfold inF
 have step : ∀ (p : List Rat9) (b : Option Rat9),(∀ x ∈ p,x.from_≤h↔x.from_≤h')→p.foldl (stepR l g h K) b = p.foldl (stepR l g h' K) b:=by
  intro p
  induction p with
  | nil => intro b _; rfl
  | cons x p ih =>
    intro b hb
    have e : stepR l g h K b x = stepR l g h' K b x:=by
     unfold stepR forR
     rw [decide_eq_decide.2 (hb x List.mem_cons_self)]
    rw [List.foldl_cons,List.foldl_cons,e]
    exact ih _ fun y hy => hb y (List.mem_cons_of_mem _ hy)
 exact step l none hx
theorem idAt_cong {l : List Rat9} {g : ByteArray} {h h' K : Int} (hx : ∀ x ∈ l,x.from_≤h↔x.from_≤h') : idAt l g h K = idAt l g h' K:=by
 unfold idAt; rw [inF_cong hx]
theorem idAt_none {l : List Rat9} {g : ByteArray} {h K : Int} (hx : ∀ x ∈ l,h < x.from_) : idAt l g h K = 0:=by
 have step : ∀ (p : List Rat9),(∀ x ∈ p,h < x.from_)→p.foldl (stepR l g h K) none = none:=by
  intro p
  induction p with
  | nil => intro _; rfl
  | cons x p ih =>
    intro hb
    have e : stepR l g h K none x = none:=by
     have h1:=hb x List.mem_cons_self
     have h2 : ¬ x.from_≤h:=by omega
     unfold stepR forR
     simp [h2]
    rw [List.foldl_cons,e]
    exact ih fun y hy => hb y (List.mem_cons_of_mem _ hy)
 unfold idAt inF
 rw [step l hx]
 rfl
def chgW (l : List Rat9) (g : ByteArray) (K : Int) (w : Who) : Bool:=!decide (idAt l g w.n K = idAt l g (w.n - 1) K)
theorem asc_at {s : List Who} (h : AscW s) {i j : Nat} {u v : Who} (hi : s[i]? = some u) (hj : s[j]? = some v) (hij : i < j) : u.n < v.n:=by
 obtain ⟨h1,rfl⟩:=List.getElem?_eq_some_iff.1 hi
 obtain ⟨h2,rfl⟩:=List.getElem?_eq_some_iff.1 hj
 exact List.pairwise_iff_getElem.1 h i j h1 h2 hij
def lastAt (l : List Rat9) (g : ByteArray) (K : Int) : Nat→Int
 | 0 => 0
 | j + 1 => idAt l g ((begW l).getD j ⟨0⟩).n K
theorem turns_at (l : List Rat9) (g : ByteArray) (K : Int) : ∀ i : Nat,i≤(begW l).length→zO l g K i = (lastAt l g K i,((begW l).take i).filter (chgW l g K)):=by
 intro i
 induction i with
 | zero => intro _; rfl
 | succ i ih =>
   intro hi
   have hp : (begW l)[i]? = some (begW l)[i]:=List.getElem?_eq_getElem (by omega)
   generalize hw : (begW l)[i] = w at hp
   rw [turnsI_next hp,ih (by omega),turnStep,List.take_add_one,hp]
   have hD : (begW l).getD i ⟨0⟩ = w:=by rw [List.getD_eq_getElem?_getD,hp]; rfl
   have hf : ∀ x ∈ l,∃ j : Nat,(begW l)[j]? = some ⟨x.from_⟩:=fun x hx => List.getElem?_of_mem ((beg_mem l _).2 ⟨x,hx,rfl⟩)
   have key : lastAt l g K i = idAt l g (w.n - 1) K:=by
    cases i with
    | zero =>
      show (0 : Int) = _
      refine (idAt_none fun x hx => ?_).symm
      obtain ⟨j,hj⟩:=hf x hx
      rcases Nat.eq_zero_or_pos j with rfl | h0
      ·rw [hp] at hj
       have : w.n = x.from_:=by rw [Option.some.inj hj]
       omega
      ·have:=asc_at (beg_asc l) hp hj h0
       simp only at this
       omega
    | succ k =>
      have hk : (begW l)[k]? = some (begW l)[k]:=List.getElem?_eq_getElem (by omega)
      generalize (begW l)[k] = u at hk
      have hDk : (begW l).getD k ⟨0⟩ = u:=by rw [List.getD_eq_getElem?_getD,hk]; rfl
      show idAt l g ((begW l).getD k ⟨0⟩).n K = _
      rw [hDk]
      refine idAt_cong fun x hx => ?_
      obtain ⟨j,hj⟩:=hf x hx
      have huw:=asc_at (beg_asc l) hk hp (Nat.lt_succ_self k)
      have hc : j < k∨j = k∨j = k + 1∨k + 1 < j:=by omega
      rcases hc with h | rfl | rfl | h
      ·have:=asc_at (beg_asc l) hj hk h
       simp only at this; omega
      ·rw [hk] at hj
       have : u.n = x.from_:=by rw [Option.some.inj hj]
       omega
      ·rw [hp] at hj
       have : w.n = x.from_:=by rw [Option.some.inj hj]
       omega
      ·have:=asc_at (beg_asc l) hp hj h
       simp only at this; omega
   simp only [key]
   refine Prod.ext ?_ ?_
   ·show idAt l g w.n K = idAt l g ((begW l).getD i ⟨0⟩).n K
    rw [hD]
   ·show (if idAt l g w.n K = idAt l g (w.n - 1) K then _ else _) = _
    rw [List.filter_append]
    by_cases hc : idAt l g w.n K = idAt l g (w.n - 1) K
    ·simp [hc,chgW]
    ·simp [hc,chgW]
theorem turns_is (l : List Rat9) (g : ByteArray) (K : Int) : turnsW l g K = (begW l).filter (chgW l g K):=by
 have h:=turns_at l g K (begW l).length (Nat.le_refl _)
 rw [List.take_length] at h
 rw [← turnsI_all (Nat.le_refl _),h]
theorem turns_ref {l : List Rat9} (ok : ∀ x ∈ l,0≤x.from_) (g : ByteArray) (K : Int) : (hrsR l).filter (chgW l g K) = turnsW l g K:=by
 rw [turns_is]
 rcases hrs_beg ok with ⟨h,_⟩ | ⟨h,h0⟩
 ·rw [h]
 ·have e1 : idAt l g 0 K = 0:=idAt_none h0
  have e2 : idAt l g (0 - 1) K = 0:=idAt_none fun x hx => by have:=h0 x hx; omega
  have e : chgW l g K ⟨0⟩ = false:=by unfold chgW; simp only [e1,e2]; rfl
  rw [h,List.filter_cons,e]
  rfl
def tchG (hs : List Who) (l m : List Rat9) (g : ByteArray) (K : Int) : Nat→Tch
 | 0 => ⟨0,0,false⟩
 | i + 1 => yb l m g K (tchG hs l m g K i) (hs.getD i ⟨0⟩).n (hs.getD (i + 1) ⟨0⟩).n
theorem tchG_is (l m : List Rat9) (g : ByteArray) (K : Int) : ∀ i,tchI l m g K i = tchG (hoursW m) l m g K i
 | 0 => rfl
 | i + 1 => by rw [tchI,tchG,tchG_is]
def zr (m : List Rat9) : List Who:=hrsR m ++ [⟨1000001⟩]
theorem tch_ref {l : List Rat9} {x : Rat9} (ok : ∀ y ∈ l ++ [x],0≤y.from_) (g : ByteArray) (K : Int) : tchG (zr (l ++ [x])) l (l ++ [x]) g K (hrsR (l ++ [x])).length = tch l (l ++ [x]) g K:=by
 unfold tch
 rw [tchG_is]
 rcases hrs_beg ok with ⟨h,_⟩ | ⟨h,h0⟩
 ·unfold zr hoursW; rw [h]
 ·have e1 : idAt l g 0 K = 0:=idAt_none fun y hy => h0 y (List.mem_append_left _ hy)
  have e2 : idAt (l ++ [x]) g 0 K = 0:=idAt_none h0
  have hh : zr (l ++ [x]) = ⟨0⟩ :: hoursW (l ++ [x]):=by unfold zr hoursW; rw [h]; rfl
  rw [hh,h,List.length_cons]
  generalize hoursW (l ++ [x]) = hs
  have step : ∀ i,tchG (⟨0⟩ :: hs) l (l ++ [x]) g K (i + 1) = tchG hs l (l ++ [x]) g K i:=by
   intro i
   induction i with
   | zero => simp [tchG,yb,e1,e2]
   | succ i ih => rw [tchG,ih,tchG]; rfl
  exact step _
end Go.Proofs.YtfddkbbjnghefaaGreatDoor.Zs
