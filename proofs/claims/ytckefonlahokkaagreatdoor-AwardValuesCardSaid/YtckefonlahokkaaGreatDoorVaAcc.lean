/-
  The mathematics of sales that count: no model.
-/
import Derived.Test.YtckefonlahokkaaGreatDoorVaConE
set_option linter.unusedSimpArgs false
set_option linter.unusedVariables false
namespace Go.Proofs.YtckefonlahokkaaGreatDoor.Zs
open Go
theorem hasR_put (y : Rec5) : ∀ (m : List Rec5) (k : Int),hasR (putR y m) k = (decide (y.k = k) || hasR m k)
 | [],k => by unfold putR hasR; simp [Bool.beq_eq_decide_eq]
 | x :: m,k => by
   have ih:=hasR_put y m k
   unfold hasR at ih ⊢
   unfold putR
   by_cases h : x.k = y.k
   ·rw [if_pos h]
    simp only [List.any_cons,h]
    cases hb : (y.k == k) with
    | true => simp [beq_iff_eq.1 hb]
    | false => simp [beq_eq_false_iff_ne.1 hb]
   ·rw [if_neg h]
    simp only [List.any_cons,ih]
    cases (x.k == k) <;> simp
theorem getR_cons (x : Rec5) (m : List Rec5) (k : Int) : getR (x :: m) k = if x.k = k then x else getR m k:=by
 unfold getR
 by_cases h : x.k = k
 ·simp [h]
 ·have h' : (x.k == k) = false:=beq_eq_false_iff_ne.2 h
  simp only [List.find?_cons,h',h,if_false]
theorem getR_put (y : Rec5) : ∀ (m : List Rec5) (k : Int),getR (putR y m) k = if y.k = k then y else getR m k
 | [],k => by unfold putR; rw [getR_cons]
 | x :: m,k => by
   unfold putR
   by_cases h : x.k = y.k
   ·rw [if_pos h,getR_cons,getR_cons]
    by_cases h2 : y.k = k
    ·simp [h2]
    ·rw [if_neg h2,if_neg h2,if_neg (by rw [h]; exact h2)]
   ·rw [if_neg h,getR_cons,getR_cons,getR_put y m k]
    by_cases h2 : x.k = k
    ·rw [if_pos h2,if_pos h2,if_neg (by intro e; exact h (h2.trans e.symm))]
    ·rw [if_neg h2,if_neg h2]
theorem atF_cons (x : Flg) (m : List Flg) (k : Int) : atF (x :: m) k = if x.k = k then x.b else atF m k:=by
 unfold atF
 by_cases h : x.k = k
 ·simp [h]
 ·have h' : (x.k == k) = false:=beq_eq_false_iff_ne.2 h
  simp only [List.find?_cons,h',h,if_false]
theorem atF_put (k : Int) (b : Bool) : ∀ (m : List Flg) (k' : Int),atF (putF k b m) k' = if k = k' then b else atF m k'
 | [],k' => by unfold putF; rw [atF_cons]
 | x :: m,k' => by
   unfold putF
   by_cases h : x.k = k
   ·rw [if_pos h,atF_cons,atF_cons]
    by_cases h2 : k = k'
    ·simp [h2]
    ·rw [if_neg h2,if_neg h2,if_neg (by rw [h]; exact h2)]
   ·rw [if_neg h,atF_cons,atF_cons,atF_put k b m k']
    by_cases h2 : x.k = k'
    ·rw [if_pos h2,if_pos h2,if_neg (by intro e; exact h (h2.trans e.symm))]
    ·rw [if_neg h2,if_neg h2]
theorem atF_del (k : Int) : ∀ (m : List Flg) {k' : Int},k≠k'→atF (delF k m) k' = atF m k'
 | [],k',_ => rfl
 | x :: m,k',h => by
   unfold delF
   by_cases h1 : x.k = k
   ·rw [if_pos h1,atF_cons,if_neg (by rw [h1]; exact h)]
   ·rw [if_neg h1,atF_cons,atF_cons,atF_del k m h]
def OkL (l : List Sal9) : Prop:=∀ i x,l[i]? = some x→refS (l.take i) x = 0
theorem okL_snoc {l : List Sal9} {y : Sal9} (h : OkL (l ++ [y])) : OkL l∧refS l y = 0:=by
 refine ⟨fun i x hi => ?_,?_⟩
 ·have hil:=(List.getElem?_eq_some_iff.1 hi).1
  have:=h i x (by rw [List.getElem?_append_left hil]; exact hi)
  rwa [List.take_append_of_le_length (by omega)] at this
 ·have:=h l.length y (by simp)
  simpa using this
theorem okL_pre {a b : List Sal9} (h : OkL (a ++ b)) : OkL a:=fun i x hi => by
 have hil:=(List.getElem?_eq_some_iff.1 hi).1
 have:=h i x (by rw [List.getElem?_append_left hil]; exact hi)
 rwa [List.take_append_of_le_length (by omega)] at this
theorem ok_of_chk {l : List Sal9} (h : chkE l = 0) : OkL l:=fun i x hi => (chk_ref h hi).2
def Unv (l : List Sal9) (x : Sal9) : Prop:=x.of_ = 0∧atF (voidM l) x.id = false
structure GoodS (l : List Sal9) : Prop where
 ids : l.Pairwise fun x y => x.id≠y.id
 rec_ : ∀ x ∈ l,hasR (recM l) x.id = true∧getR (recM l) x.id = recOf x
 from_ : ∀ k,hasR (recM l) k = true→∃ x ∈ l,x.id = k
 sold : ∀ x ∈ l,Unv l x→atF (soldM l) x.parcel = true
 one : ∀ x ∈ l,∀ z ∈ l,Unv l x→Unv l z→x.parcel = z.parcel→x.id = z.id
 asc : l.Pairwise fun x y => x.known≤y.known
 last : ∀ x ∈ l,x.known≤lastS l
theorem ref_zero {pre : List Sal9} {x : Sal9} (h : refS pre x = 0) : saleB x = true∧hasR (recM pre) x.id = false∧lastS pre≤x.known ∧
  ((x.of_ = 0∧atF (soldM pre) x.parcel = false)∨(x.of_≠0∧hasR (recM pre) x.of_ = true∧(getR (recM pre) x.of_).of_ = 0∧atF (voidM pre) x.of_ = false)):=by
 have h1:=ref_sale h
 unfold refS at h
 rw [h1] at h
 cases h2 : hasR (recM pre) x.id with
 | true => rw [h2] at h; simp at h
 | false =>
   rw [h2] at h
   by_cases h3 : x.known < lastS pre
   ·rw [decide_eq_true h3] at h; simp at h
   ·rw [decide_eq_false h3] at h
    refine ⟨h1,rfl,by omega,?_⟩
    by_cases h4 : x.of_ = 0
    ·left
     cases h5 : atF (soldM pre) x.parcel with
     | false => exact ⟨h4,rfl⟩
     | true => rw [h5] at h; simp [h4] at h
    ·right
     have h4' : (x.of_ == 0) = false:=beq_eq_false_iff_ne.2 h4
     rw [h4'] at h
     cases h5 : hasR (recM pre) x.of_ with
     | false => rw [h5] at h; simp at h
     | true =>
       rw [h5] at h
       by_cases h6 : (getR (recM pre) x.of_).of_ = 0
       ·cases h7 : atF (voidM pre) x.of_ with
        | false => exact ⟨h4,rfl,h6,rfl⟩
        | true => rw [h7] at h; simp [h6] at h
       ·have h6' : ((getR (recM pre) x.of_).of_ == 0) = false:=beq_eq_false_iff_ne.2 h6
        rw [h6'] at h; simp at h
theorem sale_parcel {x : Sal9} (h : saleB x = true) : (x.of_ = 0→x.parcel≠0)∧(x.of_≠0→x.parcel = 0):=by
 unfold saleB at h
 refine ⟨fun h0 => ?_,fun h0 => ?_⟩
 ·rw [if_pos h0] at h
  simp only [Bool.and_eq_true] at h
  have:=h.2.2.1
  unfold withinB at this
  simp at this
  omega
 ·rw [if_neg h0] at h
  simp only [Bool.and_eq_true,beq_iff_eq] at h
  exact h.2.2.1
theorem good_snoc {l : List Sal9} {y : Sal9} (g : GoodS l) (h : refS l y = 0) : GoodS (l ++ [y]):=by
 obtain ⟨h1,h2,h3,h4⟩:=ref_zero h
 obtain ⟨p1,p2⟩:=sale_parcel h1
 have hy : ∀ x ∈ l,x.id≠y.id:=fun x hx e => by
  have:=(g.rec_ x hx).1
  rw [e,h2] at this; cases this
 have hrec : recM (l ++ [y]) = putR (recOf y) (recM l):=recM_snoc l y
 have hk : (recOf y).k = y.id:=rfl
 -- who is unvoided now was so before
 have hun : ∀ x ∈ l,Unv (l ++ [y]) x→Unv l x:=fun x hx hu => by
  refine ⟨hu.1,?_⟩
  have:=hu.2
  rw [voidM_snoc] at this
  split at this
  ·exact this
  ·rw [atF_put] at this
   split at this
   ·cases this
   ·exact this
 have hmem : ∀ x,x ∈ l ++ [y]→x ∈ l∨x = y:=fun x hx => by simpa using hx
 have hold : ∀ x ∈ l,Unv (l ++ [y]) x→atF (soldM (l ++ [y])) x.parcel = true:=fun x hx hu => by
  have hs:=g.sold x hx (hun x hx hu)
  rw [soldM_snoc]
  unfold soldStep
  rcases h4 with ⟨h0,h5⟩ | ⟨h0,h5,h6,h7⟩
  ·rw [if_neg (p1 h0),if_pos h0,atF_put]
   split
   ·rfl
   ·exact hs
  ·rw [if_pos (p2 h0),if_neg h0]
   have hne : y.id≠y.of_:=fun e => by rw [e,h5] at h2; cases h2
   obtain ⟨w,hw,hwi⟩:=g.from_ _ h5
   have hg : getR (putR (recOf y) (recM l)) y.of_ = recOf w:=by
    rw [getR_put,if_neg (by rw [hk]; exact hne),← hwi]
    exact (g.rec_ w hw).2
   rw [hg]
   have hwu : Unv l w:=by
    refine ⟨?_,by rw [hwi]; exact h7⟩
    rw [← hwi,(g.rec_ w hw).2] at h6
    exact h6
   have hxw : x.id≠y.of_:=fun e => by
    have:=hu.2
    rw [voidM_snoc,if_neg h0,atF_put,if_pos e.symm] at this
    cases this
   have hpp : (recOf w).parcel≠x.parcel:=fun e => hxw ((g.one x hx w hw (hun x hx hu) hwu e.symm).trans hwi)
   rw [atF_del _ _ hpp]
   exact hs
 refine ⟨?_,?_,?_,?_,?_,?_,?_⟩
 ·rw [List.pairwise_append]
  exact ⟨g.ids,List.pairwise_singleton ..,fun x hx z hz => by rw [List.mem_singleton.1 hz]; exact hy x hx⟩
 ·intro x hx
  rw [hrec,hasR_put,getR_put,hk]
  rcases hmem x hx with hx | rfl
  ·rw [if_neg (fun e => hy x hx e.symm),(g.rec_ x hx).1]
   exact ⟨by simp,(g.rec_ x hx).2⟩
  ·exact ⟨by simp,if_pos rfl⟩
 ·intro k hk'
  rw [hrec,hasR_put,hk] at hk'
  by_cases e : y.id = k
  ·exact ⟨y,by simp,e⟩
  ·rw [decide_eq_false e,Bool.false_or] at hk'
   obtain ⟨x,hx,hxk⟩:=g.from_ k hk'
   exact ⟨x,by simp [hx],hxk⟩
 ·intro x hx hu
  rcases hmem x hx with hx | rfl
  ·exact hold x hx hu
  ·rw [soldM_snoc]
   unfold soldStep
   rw [if_neg (p1 hu.1),atF_put,if_pos rfl]
 ·have new : ∀ x ∈ l,Unv (l ++ [y]) x→Unv (l ++ [y]) y→x.parcel≠y.parcel:=fun x hx hu hv e => by
   rcases h4 with ⟨h0,h5⟩ | ⟨h0,_⟩
   ·have:=g.sold x hx (hun x hx hu)
    rw [e,h5] at this; cases this
   ·exact h0 hv.1
  intro x hx z hz hu hv e
  rcases hmem x hx with hx | hx <;> rcases hmem z hz with hz | hz
  ·exact g.one x hx z hz (hun x hx hu) (hun z hz hv) e
  ·rw [hz] at e hv; exact absurd e (new x hx hu hv)
  ·rw [hx] at e hu; exact absurd e.symm (new z hz hv hu)
  ·rw [hx,hz]
 ·rw [List.pairwise_append]
  exact ⟨g.asc,List.pairwise_singleton ..,fun x hx z hz => by rw [List.mem_singleton.1 hz]; have:=g.last x hx; omega⟩
 ·intro x hx
  rw [lastS_snoc]
  rcases hmem x hx with hx | rfl
  ·have:=g.last x hx; omega
  ·exact Int.le_refl _
theorem good_nil : GoodS []:=by
 refine ⟨List.Pairwise.nil,fun x hx => (by cases hx),fun k h => ?_,fun x hx => (by cases hx),fun x hx => (by cases hx),List.Pairwise.nil,fun x hx => (by cases hx)⟩
 simp [recM,hasR] at h
theorem good_of : ∀ (n : Nat) (l : List Sal9),l.length = n→OkL l→GoodS l
 | 0,l,hn,_ => by rw [List.length_eq_zero_iff.1 hn]; exact good_nil
 | n + 1,l,hn,h => by
   have hne : l≠[]:=fun e => by rw [e] at hn; cases hn
   have hl:=List.dropLast_concat_getLast hne
   rw [← hl] at h ⊢
   obtain ⟨a,b⟩:=okL_snoc h
   exact good_snoc (good_of n _ (by simp [hn]) a) b
theorem split_known (K : Int) : ∀ (l : List Sal9),l.Pairwise (fun x y => x.known≤y.known)→∃ a b,l = a ++ b∧(∀ x ∈ a,x.known≤K)∧(∀ x ∈ b,K < x.known)
 | [],_ => ⟨[],[],rfl,fun x hx => (by cases hx),fun x hx => (by cases hx)⟩
 | x :: l,h => by
   obtain ⟨hx,hl⟩:=List.pairwise_cons.1 h
   by_cases hk : x.known≤K
   ·obtain ⟨a,b,rfl,ha,hb⟩:=split_known K l hl
    refine ⟨x :: a,b,rfl,fun z hz => ?_,hb⟩
    rcases List.mem_cons.1 hz with rfl | hz
    ·exact hk
    ·exact ha z hz
   ·refine ⟨[],x :: l,rfl,fun z hz => (by cases hz),fun z hz => ?_⟩
    rcases List.mem_cons.1 hz with rfl | hz
    ·omega
    ·have:=hx z hz; omega
theorem voidK_split {a b : List Sal9} {K : Int} (ha : ∀ x ∈ a,x.known≤K) (hb : ∀ x ∈ b,K < x.known) : voidK (a ++ b) K = voidM a:=by
 have k1 : ∀ (a : List Sal9) (m : List Flg),(∀ x ∈ a,x.known≤K)→a.foldl (fun m x => if x.of_≠0∧x.known≤K then putF x.of_ true m else m) m = a.foldl (fun m x => if x.of_ = 0 then m else putF x.of_ true m) m:=by
  intro a
  induction a with
  | nil => intro m _; rfl
  | cons x a ih =>
    intro m h
    have hx:=h x (List.mem_cons_self ..)
    simp only [List.foldl_cons]
    rw [show (if x.of_≠0∧x.known≤K then putF x.of_ true m else m) = (if x.of_ = 0 then m else putF x.of_ true m) by by_cases h0 : x.of_ = 0 <;> simp [h0,hx]]
    exact ih _ fun z hz => h z (List.mem_cons_of_mem _ hz)
 have k2 : ∀ (b : List Sal9) (m : List Flg),(∀ x ∈ b,K < x.known)→b.foldl (fun m x => if x.of_≠0∧x.known≤K then putF x.of_ true m else m) m = m:=by
  intro b
  induction b with
  | nil => intro m _; rfl
  | cons x b ih =>
    intro m h
    have hx:=h x (List.mem_cons_self ..)
    simp only [List.foldl_cons]
    rw [if_neg (by omega)]
    exact ih _ fun z hz => h z (List.mem_cons_of_mem _ hz)
 unfold voidK voidM
 rw [List.foldl_append,k2 b _ hb,k1 a _ ha]
theorem count_one {l : List Sal9} (h : chkE l = 0) (K : Int) : (countS l K).Pairwise fun x y => x.parcel≠y.parcel:=by
 have g:=good_of _ l rfl (ok_of_chk h)
 obtain ⟨a,b,rfl,ha,hb⟩:=split_known K l g.asc
 have ga:=good_of _ a rfl (okL_pre (ok_of_chk h))
 have hv:=voidK_split ha hb
 unfold countS
 rw [List.filter_append,List.pairwise_append]
 have hcb : ∀ x ∈ b,cntB (a ++ b) K x = false:=fun x hx => by
  have:=hb x hx
  unfold cntB
  rw [decide_eq_false (by omega)]
  simp
 have hnb : b.filter (cntB (a ++ b) K) = []:=List.filter_eq_nil_iff.2 fun x hx => by rw [hcb x hx]; decide
 rw [hnb]
 refine ⟨?_,List.Pairwise.nil,fun x _ z hz => by cases hz⟩
 have hu : ∀ x,cntB (a ++ b) K x = true→Unv a x:=fun x hx => by
  unfold cntB at hx
  rw [hv] at hx
  simp only [Bool.and_eq_true,beq_iff_eq,Bool.not_eq_true'] at hx
  exact ⟨hx.1.1,hx.2⟩
 rw [List.pairwise_filter]
 refine ga.ids.imp_of_mem fun {x y} hx hy hid hc1 hc2 e => ?_
 exact hid (ga.one x hx y hy (hu x hc1) (hu y hc2) e)
open Go
theorem prc_miss (k : Int) : ∀ (c : List Sal9) (m : List Shr),(∀ z ∈ c,z.parcel≠k)→atP (c.foldl (fun m x => putK x.parcel x.price m) m) k = atP m k
 | [],m,_ => rfl
 | y :: c,m,h => by
   rw [List.foldl_cons,prc_miss k c _ fun z hz => h z (List.mem_cons_of_mem _ hz),atP_put,if_neg (h y (List.mem_cons_self ..))]
theorem prc_hit : ∀ (c : List Sal9) (m : List Shr),c.Pairwise (fun x y => x.parcel≠y.parcel)→∀ x ∈ c,atP (c.foldl (fun m x => putK x.parcel x.price m) m) x.parcel = x.price
 | [],m,_,x,hx => by cases hx
 | y :: c,m,h,x,hx => by
   obtain ⟨hy,hc⟩:=List.pairwise_cons.1 h
   rw [List.foldl_cons]
   rcases List.mem_cons.1 hx with rfl | hx
   ·rw [prc_miss _ c _ fun z hz e => hy z hz e.symm,atP_put,if_pos rfl]
   ·exact prc_hit c _ hc x hx
theorem count_mem {l : List Sal9} {K : Int} {x : Sal9} (h : x ∈ countS l K) : x ∈ l∧x.of_ = 0:=by
 obtain ⟨hm,hc⟩:=List.mem_filter.1 h
 unfold cntB at hc
 simp only [Bool.and_eq_true,beq_iff_eq] at hc
 exact ⟨hm,hc.1.1⟩
theorem sorted_len (l : List Who) : (sortedW l).length = l.length:=by simp [sortedW]
open Go
theorem hasR_any (k : Int) : ∀ (l : List Sal9) (m : List Rec5),hasR (l.foldl (fun m x => putR (recOf x) m) m) k = (hasR m k || l.any fun x => x.id == k)
 | [],m => by simp
 | x :: l,m => by
   rw [List.foldl_cons,hasR_any k l,hasR_put,List.any_cons,show (recOf x).k = x.id from rfl]
   rw [Bool.beq_eq_decide_eq,Bool.or_comm (decide (x.id = k)),Bool.or_assoc]
theorem hasR_mem (l : List Sal9) (k : Int) : hasR (recM l) k = l.any fun x => x.id == k:=(hasR_any k l []).trans (by simp [hasR])
theorem void_any (k : Int) : ∀ (l : List Sal9) (m : List Flg),atF (l.foldl (fun m x => if x.of_ = 0 then m else putF x.of_ true m) m) k = (atF m k || l.any fun x => !(x.of_ == 0) && x.of_ == k)
 | [],m => by simp
 | x :: l,m => by
   rw [List.foldl_cons,void_any k l,List.any_cons]
   by_cases h : x.of_ = 0
   ·simp [h]
   ·rw [if_neg h,atF_put]
    by_cases h2 : x.of_ = k
    ·simp [h2,show ¬ k = 0 from fun e => h (h2.trans e)]
    ·have h2' : (x.of_ == k) = false:=beq_eq_false_iff_ne.2 h2
     simp [h2,h2']
theorem void_mem (l : List Sal9) (k : Int) : atF (voidM l) k = l.any fun x => !(x.of_ == 0) && x.of_ == k:=(void_any k l []).trans (by simp [atF])
theorem voidK_any (K k : Int) : ∀ (l : List Sal9) (m : List Flg),atF (l.foldl (fun m x => if x.of_≠0∧x.known≤K then putF x.of_ true m else m) m) k = (atF m k || l.any fun x => (!(x.of_ == 0) && decide (x.known≤K)) && x.of_ == k)
 | [],m => by simp
 | x :: l,m => by
   rw [List.foldl_cons,voidK_any K k l,List.any_cons]
   by_cases h : x.of_≠0∧x.known≤K
   ·rw [if_pos h,atF_put]
    by_cases h2 : x.of_ = k
    ·simp [h2,h.2,show ¬ k = 0 from fun e => h.1 (h2.trans e)]
    ·have h2' : (x.of_ == k) = false:=beq_eq_false_iff_ne.2 h2
     simp [h2,h2']
   ·rw [if_neg h]
    have : ((!(x.of_ == 0) && decide (x.known≤K)) && x.of_ == k) = false:=by
     rw [Bool.eq_false_iff]
     intro e
     simp at e
     exact h e.1
    rw [this,Bool.false_or]
theorem voidK_mem (l : List Sal9) (K k : Int) : atF (voidK l K) k = l.any fun x => (!(x.of_ == 0) && decide (x.known≤K)) && x.of_ == k:=(voidK_any K k l []).trans (by simp [atF])
def NoTw (m : List Flg) : Prop:=m.Pairwise fun x y => x.k≠y.k
theorem put_keys (k : Int) (b : Bool) : ∀ (m : List Flg) (x : Flg),x ∈ putF k b m→x.k = k∨∃ y ∈ m,y.k = x.k
 | [],x,h => by
   have : x = ⟨k,b⟩:=by simpa [putF] using h
   exact .inl (by rw [this])
 | y :: m,x,h => by
   unfold putF at h
   by_cases hy : y.k = k
   ·rw [if_pos hy] at h
    rcases List.mem_cons.1 h with rfl | h
    ·exact .inl rfl
    ·exact .inr ⟨x,List.mem_cons_of_mem _ h,rfl⟩
   ·rw [if_neg hy] at h
    rcases List.mem_cons.1 h with rfl | h
    ·exact .inr ⟨x,List.mem_cons_self ..,rfl⟩
    ·rcases put_keys k b m x h with h | ⟨z,hz,e⟩
     ·exact .inl h
     ·exact .inr ⟨z,List.mem_cons_of_mem _ hz,e⟩
theorem put_noTw {k : Int} {b : Bool} : ∀ {m : List Flg},NoTw m→NoTw (putF k b m)
 | [],_ => List.pairwise_singleton ..
 | y :: m,h => by
   obtain ⟨h1,h2⟩:=List.pairwise_cons.1 h
   unfold putF
   by_cases hy : y.k = k
   ·rw [if_pos hy]
    exact List.pairwise_cons.2 ⟨fun z hz => by show k≠z.k; rw [← hy]; exact h1 z hz,h2⟩
   ·rw [if_neg hy]
    refine List.pairwise_cons.2 ⟨fun z hz => ?_,put_noTw h2⟩
    rcases put_keys k b m z hz with e | ⟨w,hw,e⟩
    ·rw [e]; exact hy
    ·rw [← e]; exact h1 w hw
theorem del_sub (k : Int) : ∀ (m : List Flg),(delF k m).Sublist m
 | [] => List.Sublist.slnil
 | y :: m => by
   unfold delF
   split
   ·exact List.sublist_cons_self ..
   ·exact (del_sub k m).cons_cons _
theorem del_noTw {k : Int} {m : List Flg} (h : NoTw m) : NoTw (delF k m):=List.Pairwise.sublist (del_sub k m) h
theorem atF_none {k : Int} : ∀ {m : List Flg},(∀ x ∈ m,x.k≠k)→atF m k = false
 | [],_ => rfl
 | x :: m,h => by rw [atF_cons,if_neg (h x (List.mem_cons_self ..))]; exact atF_none fun y hy => h y (List.mem_cons_of_mem _ hy)
theorem at_del_self {k : Int} : ∀ {m : List Flg},NoTw m→atF (delF k m) k = false
 | [],_ => rfl
 | y :: m,h => by
   obtain ⟨h1,h2⟩:=List.pairwise_cons.1 h
   unfold delF
   by_cases hy : y.k = k
   ·rw [if_pos hy]
    exact atF_none fun x hx e => h1 x hx (hy.trans e.symm)
   ·rw [if_neg hy,atF_cons,if_neg hy]
    exact at_del_self h2
structure BackS (l : List Sal9) : Prop where
 noTw : NoTw (soldM l)
 back : ∀ p,atF (soldM l) p = true→∃ x ∈ l,Unv l x∧x.parcel = p
 named : ∀ z ∈ l,z.of_≠0→∃ w ∈ l,w.id = z.of_
theorem back_snoc {l : List Sal9} {y : Sal9} (g : GoodS l) (b : BackS l) (h : refS l y = 0) : BackS (l ++ [y]):=by
 obtain ⟨h1,h2,h3,h4⟩:=ref_zero h
 obtain ⟨p1,p2⟩:=sale_parcel h1
 have hnew : ∀ w ∈ l,w.id≠y.id:=fun w hw e => by
  have:=(g.rec_ w hw).1
  rw [e,h2] at this; cases this
 rcases h4 with ⟨h0,h5⟩ | ⟨h0,h5,h6,h7⟩
 ·have hs : soldM (l ++ [y]) = putF y.parcel true (soldM l):=by rw [soldM_snoc]; unfold soldStep; rw [if_neg (p1 h0),if_pos h0]
  have hv : voidM (l ++ [y]) = voidM l:=by rw [voidM_snoc,if_pos h0]
  refine ⟨by rw [hs]; exact put_noTw b.noTw,fun p hp => ?_,fun z hz hz0 => ?_⟩
  ·rw [hs,atF_put] at hp
   by_cases e : y.parcel = p
   ·refine ⟨y,by simp,⟨h0,?_⟩,e⟩
    rw [hv,void_mem,List.any_eq_false]
    intro z hz hc
    simp only [Bool.and_eq_true,Bool.not_eq_true',beq_eq_false_iff_ne,ne_eq,beq_iff_eq] at hc
    obtain ⟨w,hw,hwi⟩:=b.named z hz hc.1
    exact hnew w hw (hwi.trans hc.2)
   ·rw [if_neg e] at hp
    obtain ⟨x,hx,hu,hxp⟩:=b.back p hp
    exact ⟨x,by simp [hx],⟨hu.1,by rw [hv]; exact hu.2⟩,hxp⟩
  ·rcases List.mem_append.1 hz with hz | hz
   ·obtain ⟨w,hw,e⟩:=b.named z hz hz0
    exact ⟨w,by simp [hw],e⟩
   ·rw [List.mem_singleton.1 hz] at hz0
    exact absurd h0 hz0
 ·obtain ⟨w,hw,hwi⟩:=g.from_ _ h5
  have hne : (recOf y).k≠y.of_:=fun e => by
   have : y.id = y.of_:=e
   rw [this,h5] at h2; cases h2
  have hg : getR (putR (recOf y) (recM l)) y.of_ = recOf w:=by
   rw [getR_put,if_neg hne,← hwi]
   exact (g.rec_ w hw).2
  have hs : soldM (l ++ [y]) = delF w.parcel (soldM l):=by rw [soldM_snoc]; unfold soldStep; rw [if_pos (p2 h0),if_neg h0,hg]; rfl
  refine ⟨by rw [hs]; exact del_noTw b.noTw,fun p hp => ?_,fun z hz hz0 => ?_⟩
  ·rw [hs] at hp
   by_cases e : w.parcel = p
   ·rw [← e,at_del_self b.noTw] at hp; cases hp
   ·rw [atF_del _ _ e] at hp
    obtain ⟨x,hx,hu,hxp⟩:=b.back p hp
    refine ⟨x,by simp [hx],⟨hu.1,?_⟩,hxp⟩
    have hxw : y.of_≠x.id:=fun he => by
     have e1:=(g.rec_ x hx).2
     rw [← he,← hwi,(g.rec_ w hw).2] at e1
     have e2 : w.parcel = x.parcel:=congrArg Rec5.parcel e1
     exact e (e2.trans hxp)
    rw [voidM_snoc,if_neg h0,atF_put,if_neg hxw]
    exact hu.2
  ·rcases List.mem_append.1 hz with hz | hz
   ·obtain ⟨w,hw,e⟩:=b.named z hz hz0
    exact ⟨w,by simp [hw],e⟩
   ·rw [List.mem_singleton.1 hz]
    exact ⟨w,by simp [hw],hwi⟩
theorem back_of : ∀ (n : Nat) (l : List Sal9),l.length = n→OkL l→BackS l
 | 0,l,hn,_ => by
   rw [List.length_eq_zero_iff.1 hn]
   refine ⟨List.Pairwise.nil,fun p hp => ?_,fun z hz => by cases hz⟩
   simp [soldM,soldP,atF] at hp
 | n + 1,l,hn,h => by
   have hne : l≠[]:=fun e => by rw [e] at hn; cases hn
   have hl:=List.dropLast_concat_getLast hne
   rw [← hl] at h ⊢
   obtain ⟨a,b⟩:=okL_snoc h
   exact back_snoc (good_of n _ (by simp [hn]) a) (back_of n _ (by simp [hn]) a) b
theorem hasH_of (l : List Sal9) (k : Int) : hasH (headsOf l) k = hasR (recM l) k:=by
 rw [hasR_mem]; simp [hasH,headsOf,List.any_map,Function.comp_def]
theorem twcH_of (l : List Sal9) {k : Int} (h : k≠0) : twcH (headsOf l) k = atF (voidM l) k:=by
 rw [void_mem]
 unfold twcH headsOf
 rw [List.any_map]
 congr 1
 funext x
 rw [Bool.eq_iff_iff]
 simp only [Function.comp,Bool.and_eq_true,Bool.not_eq_true',beq_eq_false_iff_ne,ne_eq,beq_iff_eq]
 constructor
 ·intro e; exact ⟨fun e0 => h (e.symm.trans e0),e⟩
 ·intro e; exact e.2
theorem vdH_of (l : List Sal9) (K : Int) {k : Int} (h : k≠0) : vdH (headsOf l) k K = atF (voidK l K) k:=by
 rw [voidK_mem]
 unfold vdH headsOf
 rw [List.any_map]
 congr 1
 funext x
 rw [Bool.eq_iff_iff]
 simp only [Function.comp,Bool.and_eq_true,Bool.not_eq_true',beq_eq_false_iff_ne,ne_eq,beq_iff_eq,decide_eq_true_eq]
 constructor
 ·rintro ⟨e,ek⟩; exact ⟨⟨fun e0 => h (e.symm.trans e0),ek⟩,e⟩
 ·rintro ⟨⟨_,ek⟩,e⟩; exact ⟨e,ek⟩
theorem cntH_of (l : List Sal9) (K : Int) {x : Sal9} (h : x.id≠0) : cntH (headsOf l) x.id x.known x.of_ K = cntB l K x:=by
 unfold cntH cntB
 rw [vdH_of l K h,Bool.and_comm]
theorem nmdH_of {l : List Sal9} (g : GoodS l) (k : Int) : nmdH (headsOf l) k = (hasR (recM l) k && (getR (recM l) k).of_ == 0):=by
 rw [Bool.eq_iff_iff]
 unfold nmdH headsOf
 simp only [List.any_map,List.any_eq_true,Function.comp,Bool.and_eq_true,beq_iff_eq]
 constructor
 ·rintro ⟨x,hx,h0,rfl⟩
  obtain ⟨a,b⟩:=g.rec_ x hx
  exact ⟨a,by rw [b]; exact h0⟩
 ·rintro ⟨a,b⟩
  obtain ⟨x,hx,rfl⟩:=g.from_ k a
  rw [(g.rec_ x hx).2] at b
  exact ⟨x,hx,b,rfl⟩
theorem last_of (l : List Sal9) {k : Int} (h : 0≤k) : (decide (0 < ((headsOf l).length : Int)) && decide (k < lastH (headsOf l))) = decide (k < lastS l):=by
 rcases List.eq_nil_or_concat l with rfl | ⟨a,y,rfl⟩
 ·have : decide (k < 0) = false:=decide_eq_false (by omega)
  show (_ && _) = decide (k < 0)
  rw [this]
  simp [headsOf]
 ·rw [List.concat_eq_append,lastS_snoc,heads_snoc]
  have e : lastH (headsOf a ++ [⟨y.id,y.known,y.of_⟩]) = y.known:=by simp [lastH]
  rw [e]
  simp
theorem ids_pos {l : List Sal9} (h : OkL l) {x : Sal9} (hx : x ∈ l) : saleB x = true∧x.id≠0:=by
 obtain ⟨i,hi⟩:=List.getElem?_of_mem hx
 have hs:=ref_sale (h i x hi)
 refine ⟨hs,fun e => ?_⟩
 unfold saleB at hs
 simp only [Bool.and_eq_true] at hs
 have:=hs.1.1
 unfold withinB at this
 simp at this
 omega
theorem sld_of {l : List Sal9} (h : OkL l) {p K : Int} (hK : lastS l≤K) : sldB l p K = atF (soldM l) p:=by
 have g:=good_of _ l rfl h
 have b:=back_of _ l rfl h
 rw [Bool.eq_iff_iff]
 unfold sldB
 simp only [List.any_eq_true,Bool.and_eq_true,beq_iff_eq]
 have key : ∀ x ∈ l,cntH (headsOf l) x.id x.known x.of_ K = true↔Unv l x:=fun x hx => by
  have hi:=(ids_pos h hx).2
  have hk:=g.last x hx
  rw [cntH_of l K hi]
  unfold cntB Unv
  rw [voidK_mem,void_mem]
  simp only [Bool.and_eq_true,beq_iff_eq,decide_eq_true_eq,Bool.not_eq_true',List.any_eq_false,Bool.not_eq_true',beq_eq_false_iff_ne,ne_eq,not_and]
  constructor
  ·rintro ⟨⟨a,_⟩,c⟩
   exact ⟨a,fun z hz hz0 e => c z hz ⟨hz0,by have:=g.last z hz; omega⟩ e⟩
  ·rintro ⟨a,c⟩
   exact ⟨⟨a,by omega⟩,fun z hz hz0 e => c z hz hz0.1 e⟩
 constructor
 ·rintro ⟨x,hx,rfl,hc⟩
  exact g.sold x hx ((key x hx).1 hc)
 ·intro hp
  obtain ⟨x,hx,hu,e⟩:=b.back p hp
  exact ⟨x,hx,e,(key x hx).2 hu⟩
theorem ref_same {pre : List Sal9} (h : OkL pre) (x : Sal9) : refS pre x = bif saleB x then hsx pre x else 1:=by
 have g:=good_of _ pre rfl h
 unfold refS
 cases hs : saleB x with
 | false => rfl
 | true =>
   have hk : 0≤x.known:=by
    unfold saleB at hs
    simp only [Bool.and_eq_true] at hs
    have:=hs.1.2.1
    unfold withinB at this
    simp at this
    omega
   unfold hsx hdE
   rw [hasH_of,last_of pre hk]
   simp only [cond_true]
   cases hasR (recM pre) x.id with
   | true => rfl
   | false =>
     cases hT : decide (x.known < lastS pre) with
     | true => rfl
     | false =>
       have hT' : lastS pre≤x.known:=by have:=of_decide_eq_false hT; omega
       cases h0 : (x.of_ == 0) with
       | true =>
         rw [sld_of h hT']
         rfl
       | false =>
         have h0' : x.of_≠0:=beq_eq_false_iff_ne.1 h0
         rw [nmdH_of g,twcH_of pre h0']
         cases (hasR (recM pre) x.of_ && (getR (recM pre) x.of_).of_ == 0) with
         | false => rfl
         | true => cases atF (voidM pre) x.of_ <;> rfl
theorem ok_take {l : List Sal9} {i : Nat} (h : ∀ k,k < i→badS l k = 0) : OkL (l.take i):=fun k x hx => by
 obtain ⟨hk,hx'⟩:=List.getElem?_eq_some_iff.1 hx
 rw [List.length_take] at hk
 have hb:=h k (by omega)
 have hl : l.getD k ⟨0,0,0,0,0,0,0,0,0⟩ = x:=by
  rw [List.getD_eq_getElem?_getD,List.getElem?_eq_getElem (by omega)]
  rw [List.getElem_take] at hx'
  exact hx'
 unfold badS at hb
 rw [hl] at hb
 rw [List.take_take,Nat.min_eq_left (by omega)]
 split at hb
 ·cases hb
 ·exact hb
theorem bad_same {l : List Sal9} {i : Nat} {x : Sal9} (hp : l[i]? = some x) (h : ∀ k,k < i→badS l k = 0) : badS l i = if i = 200 then 2 else bif saleB x then hsE l i else 1:=by
 have hg : l.getD i ⟨0,0,0,0,0,0,0,0,0⟩ = x:=by rw [List.getD_eq_getElem?_getD,hp]; rfl
 have he : hsE l (i : Int) = hsx (l.take i) x:=by unfold hsE; rw [Int.toNat_natCast,hg]
 unfold badS
 rw [hg,ref_same (ok_take h),he]
open Go
theorem insP_nil (p : Int) : insP [] p = 0:=rfl
theorem insP_cons (w : Who) (s : List Who) (p : Int) : insP (w :: s) p = if w.n < p then insP s p + 1 else 0:=by
 unfold insP
 rw [List.takeWhile_cons]
 by_cases h : w.n < p <;> simp [h]
theorem insP_le (p : Int) : ∀ s : List Who,insP s p≤s.length
 | [] => Nat.le_refl _
 | w :: s => by
   have:=insP_le p s
   rw [insP_cons,List.length_cons]
   split <;> omega
theorem insP_lt (p : Int) : ∀ (s : List Who) (k : Nat),k < insP s p→∃ w,s[k]? = some w∧w.n < p
 | [],k,h => by simp [insP_nil] at h
 | w :: s,k,h => by
   rw [insP_cons] at h
   split at h
   ·rename_i hw
    cases k with
    | zero => exact ⟨w,rfl,hw⟩
    | succ k =>
      obtain ⟨v,hv,hl⟩:=insP_lt p s k (by omega)
      exact ⟨v,by simpa using hv,hl⟩
   ·omega
theorem insP_next (p : Int) : ∀ (s : List Who) (k : Nat) (w : Who),k≤insP s p→s[k]? = some w→w.n < p→k + 1≤insP s p
 | [],k,w,_,h,_ => by simp at h
 | v :: s,k,w,hk,h,hl => by
   rw [insP_cons] at hk ⊢
   cases k with
   | zero =>
     simp at h
     subst h
     rw [if_pos hl]; omega
   | succ k =>
     split at hk
     ·rename_i hv
      rw [if_pos hv]
      have:=insP_next p s k w (by omega) (by simpa using h) hl
      omega
     ·omega
theorem insP_stop {s : List Who} {p : Int} {k : Nat} (hk : k≤insP s p) (h : ∀ w,s[k]? = some w→¬ w.n < p) : insP s p = k:=by
 by_cases e : k = insP s p
 ·exact e.symm
 ·obtain ⟨w,hw,hl⟩:=insP_lt p s k (by omega)
  exact absurd hl (h w hw)
theorem insW_len (s : List Who) (p : Int) : (insW s p).length = s.length + 1:=by
 have:=insP_le p s
 unfold insW
 simp
 omega
theorem insW_ne (s : List Who) (p : Int) : insW s p≠[]:=fun e => by
 have:=insW_len s p
 rw [e] at this
 simp at this
theorem insW_perm (s : List Who) (p : Int) : (insW s p).Perm (⟨p⟩ :: s):=by
 unfold insW
 have h : (s.take (insP s p) ++ (⟨p⟩ :: s.drop (insP s p))).Perm (⟨p⟩ :: (s.take (insP s p) ++ s.drop (insP s p))):=List.perm_middle
 rwa [List.take_append_drop] at h
def UpW (s : List Who) : Prop:=s.Pairwise fun a b => a.n≤b.n
theorem insW_up {s : List Who} {p : Int} (h : UpW s) : UpW (insW s p):=by
 unfold insW UpW
 rw [List.pairwise_append,List.pairwise_cons]
 have hs : (s.take (insP s p) ++ s.drop (insP s p)).Pairwise fun a b => a.n≤b.n:=by rw [List.take_append_drop]; exact h
 rw [List.pairwise_append] at hs
 have hpre : ∀ a ∈ s.take (insP s p),a.n < p:=fun a ha => by
  obtain ⟨k,hk,rfl⟩:=List.getElem_of_mem ha
  rw [List.length_take] at hk
  obtain ⟨w,hw,hl⟩:=insP_lt p s k (by omega)
  rw [List.getElem_take]
  rw [List.getElem?_eq_getElem (by omega)] at hw
  rw [Option.some.inj hw]; exact hl
 have hpost : ∀ b ∈ s.drop (insP s p),p≤b.n:=fun b hb => by
  obtain ⟨k,hk,rfl⟩:=List.getElem_of_mem hb
  rw [List.length_drop] at hk
  have hat : insP s p < s.length:=by omega
  have h0 : ¬ (s[insP s p]).n < p:=fun hl => by
   have:=insP_next p s (insP s p) _ (Nat.le_refl _) (List.getElem?_eq_getElem hat) hl
   omega
  rw [List.getElem_drop]
  rcases Nat.eq_zero_or_pos k with rfl | hk0
  ·have : ¬ (s[insP s p + 0]).n < p:=h0
   omega
  ·have:=List.pairwise_iff_getElem.1 h (insP s p) (insP s p + k) hat (by omega) (by omega)
   omega
 refine ⟨hs.1,⟨hpost,hs.2.1⟩,fun a ha b hb => ?_⟩
 have ha':=hpre a ha
 rcases List.mem_cons.1 hb with rfl | hb
 ·show a.n≤p; omega
 ·have:=hpost b hb; omega
def insF (c : List Who) : List Who:=c.foldl (fun s w => insW s w.n) []
theorem insF_snoc (c : List Who) (w : Who) : insF (c ++ [w]) = insW (insF c) w.n:=by simp [insF]
theorem insF_ok : ∀ (c s : List Who),UpW s→UpW (c.foldl (fun s w => insW s w.n) s)∧(c.foldl (fun s w => insW s w.n) s).Perm (c ++ s)
 | [],s,h => ⟨h,List.Perm.refl _⟩
 | w :: c,s,h => by
   obtain ⟨a,b⟩:=insF_ok c (insW s w.n) (insW_up h)
   refine ⟨a,b.trans ?_⟩
   refine ((insW_perm s w.n).append_left c).trans ?_
   exact List.perm_middle
theorem insF_sorted (c : List Who) : insF c = sortedW c:=by
 obtain ⟨a,b⟩:=insF_ok c [] List.Pairwise.nil
 have h1 : UpW (sortedW c):=by
  unfold UpW sortedW
  rw [List.pairwise_map]
  have:=List.pairwise_mergeSort (le:=fun (x y : Int) => decide (x≤y)) (fun a b c hab hbc => by simp at *; omega) (fun a b => by simp; omega) (c.map Who.n)
  exact this.imp fun {x y} h => by simpa using h
 have h2 : (sortedW c).Perm c:=by
  unfold sortedW
  refine ((List.mergeSort_perm _ _).map Who.mk).trans ?_
  rw [List.map_map]
  exact List.Perm.of_eq ((List.map_congr_left fun x _ => rfl).trans (List.map_id c))
 refine List.Perm.eq_of_pairwise (fun x y _ _ h1 h2 => ?_) a h1 (((List.append_nil c) ▸ b).trans h2.symm)
 cases x; cases y
 simp at h1 h2 ⊢
 omega
theorem insF_len (c : List Who) : (insF c).length = c.length:=by rw [insF_sorted,sorted_len]
def insI (l : List Sal9) (K : Int) (i : Nat) : List Who:=insF (cntI l K i)
theorem insI_next {l : List Sal9} {K : Int} {i : Nat} {x : Sal9} (h : l[i]? = some x) : insI l K (i + 1) = if cntB l K x = true then insW (insI l K i) x.parcel else insI l K i:=by
 unfold insI
 rw [cntI_next h]
 by_cases hc : cntB l K x = true
 ·rw [if_pos hc,if_pos hc,insF_snoc]
 ·rw [if_neg hc,if_neg hc]
theorem insI_all {l : List Sal9} {K : Int} {i : Nat} (h : l.length≤i) : insI l K i = sortedW (cntW l K):=by unfold insI; rw [cntI_all h,insF_sorted]
theorem insI_len (l : List Sal9) (K : Int) (i : Nat) : (insI l K i).length≤l.length:=by unfold insI; rw [insF_len]; exact cntI_len l K i
theorem insW_rows (s : List Who) (p : Int) : s.take (insP s p) ++ [⟨p⟩] ++ s.drop (insP s p) = insW s p:=by unfold insW; simp
theorem insW_rows0 {s : List Who} {p : Int} (h : insP s p = 0) : [⟨p⟩] ++ s = insW s p:=by unfold insW; rw [h]; simp
open Go
theorem seen_mem (l : List Who) (k : Int) : atF (seenF l) k = l.any fun x => x.n == k:=by
 have key : ∀ (l : List Who) (m : List Flg),atF (l.foldl (fun m x => putF x.n true m) m) k = (atF m k || l.any fun x => x.n == k):=by
  intro l
  induction l with
  | nil => intro m; simp
  | cons x l ih =>
    intro m
    rw [List.foldl_cons,ih,atF_put,List.any_cons]
    by_cases h : x.n = k
    ·simp [h]
    ·have h' : (x.n == k) = false:=beq_eq_false_iff_ne.2 h
     simp [h,h']
 exact (key l []).trans (by simp [atF])
theorem twice_snoc (l : List Who) (x : Who) : twiceW (l ++ [x]) = (twiceW l || l.any fun y => y.n == x.n):=by
 unfold twiceW
 rw [List.length_append,List.length_singleton,List.range_succ,List.any_append]
 congr 1
 ·have e : ∀ i ∈ List.range l.length,atF (seenF ((l ++ [x]).take i)) ((l ++ [x]).getD i ⟨0⟩).n = atF (seenF (l.take i)) (l.getD i ⟨0⟩).n:=fun i hi => by
   have hi:=List.mem_range.1 hi
   rw [List.take_append_of_le_length (by omega),List.getD_eq_getElem?_getD,List.getD_eq_getElem?_getD,List.getElem?_append_left hi]
  rw [Bool.eq_iff_iff,List.any_eq_true,List.any_eq_true]
  constructor
  ·rintro ⟨i,hi,h⟩; exact ⟨i,hi,by rw [← e i hi]; exact h⟩
  ·rintro ⟨i,hi,h⟩; exact ⟨i,hi,by rw [e i hi]; exact h⟩
 ·simp [seen_mem]
theorem twice_take : ∀ {b : List Who} {i : Nat},twiceW (b.take i) = true→twiceW b = true:=by
 have key : ∀ (n : Nat) (b : List Who) (i : Nat),b.length = i + n→twiceW (b.take i) = true→twiceW b = true:=by
  intro n
  induction n with
  | zero => intro b i hb h; rw [List.take_of_length_le (by omega)] at h; exact h
  | succ n ih =>
    intro b i hb h
    refine ih b (i + 1) (by omega) ?_
    obtain ⟨x,hx⟩ : ∃ x,b[i]? = some x:=⟨_,List.getElem?_eq_getElem (by omega)⟩
    rw [List.take_add_one,hx]
    show twiceW (b.take i ++ [x]) = true
    rw [twice_snoc,h]; rfl
 intro b i h
 by_cases hi : i≤b.length
 ·exact key (b.length - i) b i (by omega) h
 ·rw [List.take_of_length_le (by omega)] at h; exact h
theorem sale_in {l : List Sal9} {p K : Int} {x : Sal9} (h : saleAt l p K = some x) : x ∈ countS l K∧x.parcel = p:=by
 unfold saleAt at h
 exact ⟨List.mem_of_find?_eq_some h,by have:=List.find?_some h; simpa using this⟩
theorem sale_prc {l : List Sal9} {p K : Int} {x : Sal9} (hok : chkE l = 0) (h : saleAt l p K = some x) : x.price = atP (prcM l K) p∧1≤x.price∧x.price≤1000000000:=by
 obtain ⟨hx,rfl⟩:=sale_in h
 obtain ⟨hm,h0⟩:=count_mem hx
 have hp:=sale_price (chk_sale hok hm) h0
 exact ⟨(prc_hit _ [] (count_one hok K) x hx).symm,hp.1,hp.2⟩
theorem sale_no {l : List Sal9} {p K : Int} (h : saleAt l p K = none) : atP (prcM l K) p = 0:=by
 unfold saleAt at h
 rw [List.find?_eq_none] at h
 have:=prc_miss p (countS l K) [] fun z hz e => h z hz (by simp [e])
 exact this.trans (by simp [atP,hasK])
theorem sum_pos {l : List Sal9} (h : chkE l = 0) (K : Int) (b : List Who) (hb : (b.length : Int)≤200) : 0≤sumP9 (prcM l K) b∧sumP9 (prcM l K) b≤200000000000:=by
 have:=sumP9_le (prc_bound h K) b 0
 unfold sumP9
 omega
end Go.Proofs.YtckefonlahokkaaGreatDoor.Zs
