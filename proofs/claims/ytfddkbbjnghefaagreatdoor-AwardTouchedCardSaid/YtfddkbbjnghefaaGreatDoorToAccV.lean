/-
  The mathematics of accepted rates: their numbers differ; what a further rate changes; no model.
-/
import Derived.Test.YtfddkbbjnghefaaGreatDoorToAcc
import Derived.Test.YtfddkbbjnghefaaGreatDoorToConB
set_option linter.unusedSimpArgs false
set_option linter.unusedVariables false
namespace Go.Proofs.YtfddkbbjnghefaaGreatDoor.Zs
open Go
theorem hasR_put (y : Rec5) : ∀ (m : List Rec5) (k : Int),hasR (putR y m) k = (decide (y.k = k) || hasR m k)
 | [],k => by unfold putR hasR; simp [Bool.beq_eq_decide_eq]
 | x :: m,k => by
   have ih:=hasR_put y m k
   unfold hasR at ih ⊢
   unfold putR
   by_cases h : x.k = y.k
   ·rw [if_pos h]
    simp only [List.any_cons,h]
    cases hb : (y.k == k) with
    | true => simp [beq_iff_eq.1 hb]
    | false => simp [beq_eq_false_iff_ne.1 hb]
   ·rw [if_neg h]
    simp only [List.any_cons,ih]
    cases (x.k == k) <;> simp
theorem hasRh_any (k : Int) : ∀ (h : List Hd3) (m : List Rec5),hasR (h.foldl (fun m x => putR (recHd x) m) m) k = (hasR m k || h.any fun x => x.id == k)
 | [],m => by simp
 | x :: h,m => by
   rw [List.foldl_cons,hasRh_any k h,hasR_put,List.any_cons,show (recHd x).k = x.id from rfl]
   rw [Bool.beq_eq_decide_eq,Bool.or_comm (decide (x.id = k)),Bool.or_assoc]
theorem hasH_is (h : List Hd3) (k : Int) : hasH h k = hasR (recMh h) k:=((hasRh_any k h []).trans (by simp [hasR,hasH])).symm
theorem ref_new {h : List Hd3} {x : Hd3} (hr : refH h x = 0) : hasR (recMh h) x.id = false:=by
 unfold refH at hr
 cases hb : hasR (recMh h) x.id with
 | false => rfl
 | true => rw [hb] at hr; simp at hr
theorem badR_at {l : List Rat9} {i : Nat} {x : Rat9} (hp : l[i]? = some x) : badR l i = if i = 100 then 2 else bif rateB x then refH (zt (l.take i)) ⟨x.id,x.known,x.of_⟩ else 1:=by
 unfold badR
 rw [List.getD_eq_getElem?_getD,hp]
 rfl
open Go
theorem ok_bad {l : List Rat9} (h : chkER l = 0) : ∀ i,i < l.length→badR l i = 0:=by
 intro i hi
 unfold chkER at h
 cases hs : stopR l with
 | none =>
   unfold stopR at hs
   have:=List.find?_eq_none.1 hs i (List.mem_range.2 hi)
   simpa using this
 | some k =>
   rw [hs] at h
   unfold stopR at hs
   have:=List.find?_some hs
   simp [h] at this
theorem ok_rate {l : List Rat9} (h : chkER l = 0) {i : Nat} {x : Rat9} (hp : l[i]? = some x) : rateB x = true:=by
 have hb:=ok_bad h i (List.getElem?_eq_some_iff.1 hp).1
 rw [badR_at hp] at hb
 cases hr : rateB x with
 | true => rfl
 | false => rw [hr] at hb; split at hb <;> simp at hb
theorem rate_id {x : Rat9} (h : rateB x = true) : x.id≠0:=by
 unfold rateB at h
 simp only [Bool.and_eq_true,zY,decide_eq_true_eq] at h
 omega
theorem rate_from {x : Rat9} (h : rateB x = true) : 0≤x.from_∧x.from_≤1000000:=by
 unfold rateB at h
 simp only [Bool.and_eq_true] at h
 obtain ⟨_,h⟩:=h
 split at h
 ·simp only [Bool.and_eq_true,zY,decide_eq_true_eq] at h
  omega
 ·simp only [Bool.and_eq_true,beq_iff_eq] at h
  omega
open Go
theorem hasH_mem {h : List Hd3} {k : Int} : hasR (recMh h) k = true↔∃ y ∈ h,y.id = k:=by
 rw [← hasH_is]
 unfold hasH
 simp only [List.any_eq_true,beq_iff_eq]
theorem ids_one {l : List Rat9} (ok : chkER l = 0) {i j : Nat} {x y : Rat9} (hi : l[i]? = some x) (hj : l[j]? = some y) (hij : i < j) : x.id≠y.id:=by
 have hjl:=(List.getElem?_eq_some_iff.1 hj).1
 have hb:=ok_bad ok j hjl
 rw [badR_at hj] at hb
 split at hb
 ·cases hb
 ·have hr:=ok_rate ok hj
  rw [hr] at hb
  have hn:=ref_new (show refH (zt (l.take j)) ⟨y.id,y.known,y.of_⟩ = 0 from hb)
  intro e
  have : hasR (recMh (zt (l.take j))) y.id = true:=by
   rw [hasH_mem]
   refine ⟨⟨x.id,x.known,x.of_⟩,?_,e⟩
   unfold zt
   refine List.mem_map.2 ⟨x,?_,rfl⟩
   have : (l.take j)[i]? = some x:=by rw [List.getElem?_take_of_lt hij]; exact hi
   exact List.mem_of_getElem? this
  rw [show (⟨y.id,y.known,y.of_⟩ : Hd3).id = y.id from rfl,this] at hn
  cases hn
theorem ids_same {l : List Rat9} (ok : chkER l = 0) {x y : Rat9} (hx : x ∈ l) (hy : y ∈ l) (e : x.id = y.id) : x = y:=by
 obtain ⟨i,hi⟩:=List.getElem?_of_mem hx
 obtain ⟨j,hj⟩:=List.getElem?_of_mem hy
 rcases Nat.lt_trichotomy i j with h | h | h
 ·exact absurd e (ids_one ok hi hj h)
 ·subst h; rw [hi] at hj; exact Option.some.inj hj
 ·exact absurd e.symm (ids_one ok hj hi h)
theorem inF_mem {l : List Rat9} {g : ByteArray} {h K : Int} {x : Rat9} (hx : inF l g h K = some x) : x ∈ l:=by
 have step : ∀ (p : List Rat9) (b : Option Rat9) (y : Rat9),p.foldl (stepR l g h K) b = some y→b = some y∨y ∈ p:=by
  intro p
  induction p with
  | nil => intro b y e; exact .inl e
  | cons z p ih =>
    intro b y e
    rcases ih _ y e with e2 | e2
    ·have hc : stepR l g h K b z = some z∨stepR l g h K b z = b:=by
      clear e e2
      unfold stepR
      exact (Classical.em _).elim (fun q => .inl (if_pos q)) (fun q => .inr (if_neg q))
     rcases hc with hc | hc
     ·rw [hc] at e2; cases e2; exact .inr List.mem_cons_self
     ·rw [hc] at e2; exact .inl e2
    ·exact .inr (List.mem_cons_of_mem _ e2)
 rcases step l none x hx with e | e
 ·cases e
 ·exact e
theorem y7 {l : List Rat9} (ok : chkER l = 0) {g : ByteArray} {h K : Int} {x : Rat9} (hx : inF l g h K = some x) : x.id≠0:=by
 obtain ⟨i,hi⟩:=List.getElem?_of_mem (inF_mem hx)
 exact rate_id (ok_rate ok hi)
theorem inF_same {l m : List Rat9} (ok : chkER m = 0) (hok : chkER l = 0) (hs : ∀ y ∈ l,y ∈ m) {g : ByteArray} {h h' K : Int} (e : idAt l g h K = idAt m g h' K) : inF l g h K = inF m g h' K:=by
 unfold idAt at e
 cases h1 : inF l g h K with
 | none =>
   cases h2 : inF m g h' K with
   | none => rfl
   | some y =>
     rw [h1,h2] at e
     exact absurd e.symm (y7 ok h2)
 | some x =>
   cases h2 : inF m g h' K with
   | none =>
     rw [h1,h2] at e
     exact absurd e (y7 hok h1)
   | some y =>
     rw [h1,h2] at e
     rw [ids_same ok (hs x (inF_mem h1)) (inF_mem h2) e]
theorem floor_at {m : List Rat9} {h : Int} (hm : h≤1000000) : (∀ y ∈ m,h < y.from_)∨∃ (k : Nat) (w n : Who),(begW m)[k]? = some w∧(yM m)[k]? = some w∧(yM m)[k + 1]? = some n∧w.n≤h∧h < n.n∧∀ y ∈ m,y.from_≤h↔y.from_≤w.n:=by
 have hasc:=beg_asc m
 have hmem : ∀ y ∈ m,∃ j : Nat,(begW m)[j]? = some ⟨y.from_⟩:=fun y hy => List.getElem?_of_mem ((beg_mem m _).2 ⟨y,hy,rfl⟩)
 have key : ∀ n : Nat,n≤(begW m).length→(∀ (i : Nat) (w : Who),i < n→(begW m)[i]? = some w→h < w.n)∨∃ (k : Nat) (w : Who),k < n∧(begW m)[k]? = some w∧w.n≤h∧∀ (i : Nat) (v : Who),k < i→i < n→(begW m)[i]? = some v→h < v.n:=by
  intro n
  induction n with
  | zero => intro _; exact .inl fun i w hi => absurd hi (Nat.not_lt_zero _)
  | succ n ih =>
    intro hn
    have hp : (begW m)[n]? = some (begW m)[n]:=List.getElem?_eq_getElem (by omega)
    generalize (begW m)[n] = w at hp
    rcases Int.lt_or_le h w.n with hlt | hle
    ·rcases ih (by omega) with h1 | ⟨k,u,hk,h2,h3,h4⟩
     ·refine .inl fun i v hi hv => ?_
      rcases Nat.lt_succ_iff_lt_or_eq.1 hi with h5 | rfl
      ·exact h1 i v h5 hv
      ·rw [hp] at hv; cases hv; exact hlt
     ·refine .inr ⟨k,u,by omega,h2,h3,fun i v hki hi hv => ?_⟩
      rcases Nat.lt_succ_iff_lt_or_eq.1 hi with h5 | rfl
      ·exact h4 i v hki h5 hv
      ·rw [hp] at hv; cases hv; exact hlt
    ·exact .inr ⟨n,w,by omega,hp,hle,fun i v hki hi hv => by omega⟩
 rcases key _ (Nat.le_refl _) with h1 | ⟨k,w,hk,h2,h3,h4⟩
 ·refine .inl fun y hy => ?_
  obtain ⟨j,hj⟩:=hmem y hy
  exact h1 j _ (List.getElem?_eq_some_iff.1 hj).1 hj
 ·right
  have hw : (yM m)[k]? = some w:=by unfold yM; rw [List.getElem?_append_left hk]; exact h2
  obtain ⟨n,hn⟩ : ∃ n,(yM m)[k + 1]? = some n:=⟨_,List.getElem?_eq_getElem (by unfold yM; simp; omega)⟩
  refine ⟨k,w,n,h2,hw,hn,h3,?_,fun y hy => ⟨fun hle => ?_,fun hle => by omega⟩⟩
  ·rcases Nat.lt_or_ge (k + 1) (begW m).length with hl | hl
   ·unfold yM at hn
    rw [List.getElem?_append_left hl] at hn
    exact h4 (k + 1) n (by omega) hl hn
   ·unfold yM at hn
    rw [List.getElem?_append_right hl,show k + 1 - (begW m).length = 0 by omega] at hn
    cases hn
    show h < 1000001
    omega
  ·obtain ⟨j,hj⟩:=hmem y hy
   rcases Nat.lt_trichotomy j k with h5 | h5 | h5
   ·have:=asc_at hasc hj h2 h5
    simp only at this; omega
   ·subst h5; rw [h2] at hj
    have : w.n = y.from_:=by rw [Option.some.inj hj]
    omega
   ·have:=h4 j _ h5 (List.getElem?_eq_some_iff.1 hj).1 hj
    simp only at this; omega
def difA (l m : List Rat9) (g : ByteArray) (K h : Int) : Prop:=idAt l g h K≠idAt m g h K
theorem hours_next {m : List Rat9} (ok : ∀ y ∈ m,0≤y.from_∧y.from_≤1000000) {k : Nat} {w n : Who} (hw : (begW m)[k]? = some w) (hn : (yM m)[k + 1]? = some n) : 0≤w.n∧w.n < n.n∧n.n≤1000001∧∀ y ∈ m,y.from_≤n.n - 1↔y.from_≤w.n:=by
 have hasc:=beg_asc m
 have hr : ∀ v ∈ begW m,0≤v.n∧v.n≤1000000:=fun v hv => by
  obtain ⟨y,hy,rfl⟩:=(beg_mem m v).1 hv
  exact ok y hy
 have hw0:=hr w (List.mem_of_getElem? hw)
 have hmem : ∀ y ∈ m,∃ j : Nat,(begW m)[j]? = some ⟨y.from_⟩:=fun y hy => List.getElem?_of_mem ((beg_mem m _).2 ⟨y,hy,rfl⟩)
 unfold yM at hn
 rcases Nat.lt_or_ge (k + 1) (begW m).length with hl | hl
 ·rw [List.getElem?_append_left hl] at hn
  have h1:=asc_at hasc hw hn (Nat.lt_succ_self k)
  have h2:=hr n (List.mem_of_getElem? hn)
  refine ⟨hw0.1,h1,by omega,fun y hy => ?_⟩
  obtain ⟨j,hj⟩:=hmem y hy
  have hc : j < k∨j = k∨j = k + 1∨k + 1 < j:=by omega
  rcases hc with h | rfl | rfl | h
  ·have:=asc_at hasc hj hw h
   simp only at this; omega
  ·rw [hw] at hj
   have : w.n = y.from_:=by rw [Option.some.inj hj]
   omega
  ·rw [hn] at hj
   have : n.n = y.from_:=by rw [Option.some.inj hj]
   omega
  ·have:=asc_at hasc hn hj h
   simp only at this; omega
 ·have hlt:=(List.getElem?_eq_some_iff.1 hw).1
  rw [List.getElem?_append_right hl,show k + 1 - (begW m).length = 0 by omega] at hn
  cases hn
  refine ⟨hw0.1,by simp only; omega,Int.le_refl _,fun y hy => ?_⟩
  obtain ⟨j,hj⟩:=hmem y hy
  have hjl:=(List.getElem?_eq_some_iff.1 hj).1
  have:=ok y hy
  have hc : j < k∨j = k:=by omega
  rcases hc with h | rfl
  ·have:=asc_at hasc hj hw h
   simp only at this ⊢; omega
  ·rw [hw] at hj
   have : w.n = y.from_:=by rw [Option.some.inj hj]
   simp only
   omega
theorem tch_says {l m : List Rat9} (ok : ∀ y ∈ m,0≤y.from_∧y.from_≤1000000) (g : ByteArray) (K : Int) : ∀ i : Nat,i≤(begW m).length →
  ((tchI l m g K i).is = false→(tchI l m g K i).from_ = 0∧(tchI l m g K i).until_ = 0∧∀ (k : Nat) (w : Who),k < i→(begW m)[k]? = some w→¬ difA l m g K w.n) ∧
  ((tchI l m g K i).is = true→∃ (k1 k2 : Nat) (w1 w2 n2 : Who),k1 < i∧k2 < i∧k1≤k2∧(begW m)[k1]? = some w1∧(begW m)[k2]? = some w2∧(yM m)[k2 + 1]? = some n2∧difA l m g K w1.n∧difA l m g K w2.n∧(tchI l m g K i).from_ = w1.n∧(tchI l m g K i).until_ = n2.n - 1∧∀ (k : Nat) (w : Who),k < i→(begW m)[k]? = some w→difA l m g K w.n→k1≤k∧k≤k2):=by
 intro i
 induction i with
 | zero =>
   intro _
   exact ⟨fun _ => ⟨rfl,rfl,fun k w hk => absurd hk (Nat.not_lt_zero _)⟩,fun h => by cases h⟩
 | succ i ih =>
   intro hi
   obtain ⟨ih1,ih2⟩:=ih (by omega)
   have hp : (begW m)[i]? = some (begW m)[i]:=List.getElem?_eq_getElem (by omega)
   generalize (begW m)[i] = w at hp
   have hp1 : (yM m)[i]? = some w:=by unfold yM; rw [List.getElem?_append_left (by omega)]; exact hp
   obtain ⟨n,hn⟩ : ∃ n,(yM m)[i + 1]? = some n:=⟨_,List.getElem?_eq_getElem (by unfold yM; simp; omega)⟩
   have hx:=hours_next ok hp hn
   have e1 : (yM m).getD i ⟨0⟩ = w:=by rw [List.getD_eq_getElem?_getD,hp1]; rfl
   have e2 : (yM m).getD (i + 1) ⟨0⟩ = n:=by rw [List.getD_eq_getElem?_getD,hn]; rfl
   have hs : tchI l m g K (i + 1) = tchStep l m g K (tchI l m g K i) w.n n.n:=by rw [tchI,e1,e2]
   rw [hs]
   unfold tchStep
   by_cases hd : idAt l g w.n K = idAt m g w.n K
   ·rw [if_pos hd]
    refine ⟨fun h0 => ?_,fun h0 => ?_⟩
    ·obtain ⟨a,b,c⟩:=ih1 h0
     refine ⟨a,b,fun k v hk hv => ?_⟩
     rcases Nat.lt_succ_iff_lt_or_eq.1 hk with h5 | rfl
     ·exact c k v h5 hv
     ·rw [hp] at hv; cases hv; exact fun h => h hd
    ·obtain ⟨k1,k2,w1,w2,n2,a1,a2,a3,a4,a5,a6,a7,a8,a9,a10,a11⟩:=ih2 h0
     refine ⟨k1,k2,w1,w2,n2,by omega,by omega,a3,a4,a5,a6,a7,a8,a9,a10,fun k v hk hv hdv => ?_⟩
     rcases Nat.lt_succ_iff_lt_or_eq.1 hk with h5 | rfl
     ·exact a11 k v h5 hv hdv
     ·rw [hp] at hv; cases hv; exact absurd hd hdv
   ·rw [if_neg hd]
    have hwr : IntKind.i64.wrap (n.n - 1) = n.n - 1:=IntWalk.i64_in _ (by omega)
    refine ⟨fun h0 => (by cases h0),fun _ => ?_⟩
    cases hI : (tchI l m g K i).is with
    | false =>
      obtain ⟨_,_,c⟩:=ih1 hI
      refine ⟨i,i,w,w,n,by omega,by omega,Nat.le_refl _,hp,hp,hn,hd,hd,by simp,by simp only; exact hwr,fun k v hk hv hdv => ?_⟩
      rcases Nat.lt_succ_iff_lt_or_eq.1 hk with h5 | rfl
      ·exact absurd hdv (c k v h5 hv)
      ·exact ⟨Nat.le_refl _,Nat.le_refl _⟩
    | true =>
      obtain ⟨k1,k2,w1,w2,n2,a1,a2,a3,a4,a5,a6,a7,a8,a9,a10,a11⟩:=ih2 hI
      refine ⟨k1,i,w1,w,n,by omega,by omega,by omega,a4,hp,hn,a7,hd,by simp only [if_true]; exact a9,by simp only; exact hwr,fun k v hk hv hdv => ?_⟩
      rcases Nat.lt_succ_iff_lt_or_eq.1 hk with h5 | rfl
      ·exact ⟨(a11 k v h5 hv hdv).1,by omega⟩
      ·exact ⟨by omega,Nat.le_refl _⟩
theorem touch_says {l : List Rat9} {x : Rat9} (ok : chkER (l ++ [x]) = 0) (g : ByteArray) (K : Int) :
  ((tch l (l ++ [x]) g K).is = false→(tch l (l ++ [x]) g K).from_ = 0∧(tch l (l ++ [x]) g K).until_ = 0∧∀ h,h≤1000000→idAt l g h K = idAt (l ++ [x]) g h K) ∧
  ((tch l (l ++ [x]) g K).is = true→0≤(tch l (l ++ [x]) g K).from_∧(tch l (l ++ [x]) g K).from_≤1000000∧0≤(tch l (l ++ [x]) g K).until_∧(tch l (l ++ [x]) g K).until_≤1000000∧idAt l g (tch l (l ++ [x]) g K).from_ K≠idAt (l ++ [x]) g (tch l (l ++ [x]) g K).from_ K∧idAt l g (tch l (l ++ [x]) g K).until_ K≠idAt (l ++ [x]) g (tch l (l ++ [x]) g K).until_ K ∧
    ∀ h,h≤1000000→idAt l g h K≠idAt (l ++ [x]) g h K→(tch l (l ++ [x]) g K).from_≤h∧h≤(tch l (l ++ [x]) g K).until_):=by
 have okf : ∀ y ∈ l ++ [x],0≤y.from_∧y.from_≤1000000:=fun y hy => by
  obtain ⟨i,hi⟩:=List.getElem?_of_mem hy
  exact rate_from (ok_rate ok hi)
 have sub : ∀ y ∈ l,y ∈ l ++ [x]:=fun y hy => List.mem_append_left _ hy
 obtain ⟨t1,t2⟩:=tch_says (l:=l) okf g K _ (Nat.le_refl _)
 have hcl : ∀ {h h' : Int},(∀ y ∈ l ++ [x],y.from_≤h↔y.from_≤h')→idAt l g h K = idAt l g h' K:=fun h => idAt_cong fun y hy => h y (sub y hy)
 refine ⟨fun h0 => ?_,fun h0 => ?_⟩
 ·obtain ⟨a,b,c⟩:=t1 h0
  refine ⟨a,b,fun h hle => ?_⟩
  rcases floor_at (m:=l ++ [x]) hle with h1 | ⟨k,w,n,h2,_,_,_,_,h6⟩
  ·rw [idAt_none (l:=l) fun y hy => h1 y (sub y hy),idAt_none h1]
  ·rw [hcl h6,idAt_cong h6]
   exact Classical.not_not.1 (c k w (List.getElem?_eq_some_iff.1 h2).1 h2)
 ·obtain ⟨k1,k2,w1,w2,n2,a1,a2,a3,a4,a5,a6,a7,a8,a9,a10,a11⟩:=t2 h0
  have e9 : (tch l (l ++ [x]) g K).from_ = w1.n:=a9
  have e10 : (tch l (l ++ [x]) g K).until_ = n2.n - 1:=a10
  rw [e9,e10]
  have hn:=hours_next okf a5 a6
  have hr1 : 0≤w1.n∧w1.n≤1000000:=by
   obtain ⟨y,hy,rfl⟩:=(beg_mem _ w1).1 (List.mem_of_getElem? a4)
   exact okf y hy
  refine ⟨hr1.1,hr1.2,by omega,by omega,a7,?_,fun h hle hd => ?_⟩
  ·rw [hcl hn.2.2.2,idAt_cong hn.2.2.2]; exact a8
  ·rcases floor_at (m:=l ++ [x]) hle with h1 | ⟨k,w,n,h2,_,hnx,h4,h5,h6⟩
   ·exact absurd (by rw [idAt_none (l:=l) fun y hy => h1 y (sub y hy),idAt_none h1]) hd
   ·rw [hcl h6,idAt_cong h6] at hd
    obtain ⟨b1,b2⟩:=a11 k w (List.getElem?_eq_some_iff.1 h2).1 h2 hd
    refine ⟨?_,?_⟩
    ·rcases Nat.lt_or_eq_of_le b1 with h7 | h7
     ·have:=asc_at (beg_asc (l ++ [x])) a4 h2 h7; omega
     ·subst h7; rw [a4] at h2; cases h2; exact h4
    ·rcases Nat.lt_or_eq_of_le b2 with h7 | h7
     ·have h8:=asc_at (beg_asc (l ++ [x])) h2 a5 h7
      obtain ⟨y,hy,e⟩:=(beg_mem _ w2).1 (List.mem_of_getElem? a5)
      have h9:=h6 y hy
      have e2 : w2.n = y.from_:=by rw [e]
      omega
     ·subst h7; rw [a6] at hnx; cases hnx; omega
theorem before_says {l : List Rat9} {x : Rat9} (hx : x.of_ = 0) (g : ByteArray) {h K : Int} (hh : h < x.from_) : inF (l ++ [x]) g h K = inF l g h K:=by
 have hv : y5 (zt (l ++ [x])) K = y5 (zt l) K:=by
  unfold zt
  rw [List.map_append,List.map_singleton,voidKh_snoc]
  simp [hx]
 have hc : ∀ y,cntR (l ++ [x]) K y = cntR l K y:=fun y => by unfold cntR; rw [hv]
 have hs : ∀ b y,stepR (l ++ [x]) g h K b y = stepR l g h K b y:=fun b y => by unfold stepR; rw [hc]
 have hf : stepR (l ++ [x]) g h K = stepR l g h K:=funext fun b => funext fun y => hs b y
 unfold inF
 rw [List.foldl_append,hf]
 show stepR l g h K _ x = _
 unfold stepR forR
 rw [decide_eq_false (show ¬ x.from_≤h by omega)]
 simp
theorem turn_says (l : List Rat9) (g : ByteArray) (K h : Int) : (∃ i : Nat,(zV l g K)[i]? = some ⟨h⟩)↔idAt l g h K≠idAt l g (h - 1) K:=by
 have e : (∃ i : Nat,(zV l g K)[i]? = some ⟨h⟩)↔(⟨h⟩ : Who) ∈ zV l g K:=(List.mem_iff_getElem?).symm
 rw [e,turns_is,List.mem_filter]
 unfold chgW
 simp only [Bool.not_eq_true',decide_eq_false_iff_not]
 refine ⟨fun q => q.2,fun q => ⟨?_,q⟩⟩
 refine Classical.byContradiction fun hn => q (idAt_cong fun y hy => ?_)
 have : y.from_≠h:=fun e => hn ((beg_mem l _).2 ⟨y,hy,by rw [e]⟩)
 omega
end Go.Proofs.YtfddkbbjnghefaaGreatDoor.Zs
