/-
  The parcels that were sold, and what is held for them: the keys of a ledger's maps.
-/
import Derived.Test.YtpdemfamfmeemacGreatPpData
set_option linter.unusedSimpArgs false
set_option linter.unusedVariables false
namespace Go.Proofs.YtpdemfamfmeemacGreat.Zs
open Go
def putI (c v : Int) : List (Int × Int) → List (Int × Int)
  | [] => [(c, v)]
  | p :: l => if p.1 = c then (c, v) :: l else p :: putI c v l
def rowsI (m : List (Int × Int)) : List (List Value) := m.map fun p => irow p.1 p.2
def keysI (m : List (Int × Int)) : List Int := m.map (·.1)
theorem begins_ir (c a b : Int) : begins (kI c) (irow a b) = decide (a = c) := by
  by_cases h : a = c
  · subst h; rw [begin_ir]; simp
  · rw [apart_kI h _ (begin_ir a b)]; simp [h]
theorem putRow_I (c v : Int) : ∀ m, putRow (kI c) (irow c v) (rowsI m) = rowsI (putI c v m)
  | [] => rfl
  | p :: l => by
    show putRow (kI c) (irow c v) (irow p.1 p.2 :: rowsI l) = _
    have ih := putRow_I c v l
    by_cases h : p.1 = c
    · have e : decide (p.1 = c) = true := decide_eq_true h
      simp only [putRow, begins_ir, e, putI, if_pos h]
      rfl
    · have e : decide (p.1 = c) = false := decide_eq_false h
      simp only [putRow, begins_ir, e, putI, if_neg h, ih]
      rfl
theorem has_I (c : Int) : ∀ m, mapHas (rowsI m) (kI c) = true ↔ c ∈ keysI m
  | [] => by simp [rowsI, mapHas, keysI]
  | p :: l => by
    have ih := has_I c l
    unfold mapHas rowsI keysI at *
    simp only [List.map_cons, List.any_cons, begins_ir, Bool.or_eq_true, decide_eq_true_eq, ih, List.mem_cons]
    constructor
    · rintro (h | h)
      · exact .inl h.symm
      · exact .inr h
    · rintro (h | h)
      · exact .inl h.symm
      · exact .inr h
theorem putI_keys (c v : Int) : ∀ m, keysI (putI c v m) = if c ∈ keysI m then keysI m else keysI m ++ [c]
  | [] => by simp [putI, keysI]
  | p :: l => by
    have ih := putI_keys c v l
    unfold keysI at *
    by_cases h : p.1 = c
    · simp [putI, h]
    · have h' : ¬ c = p.1 := fun e => h e.symm
      simp only [putI, if_neg h, List.map_cons, ih, List.mem_cons, h', false_or]
      split <;> simp
theorem putI_len (c v : Int) : ∀ m, (putI c v m).length ≤ m.length + 1
  | [] => by simp [putI]
  | p :: l => by
    have ih := putI_len c v l
    by_cases h : p.1 = c
    · simp [putI, h]
    · simp [putI, h]; omega
theorem at_I : ∀ (m : List (Int × Int)) (p : Int × Int), (keysI m).Nodup → p ∈ m → mapAt (rowsI m) (kI p.1) 1 = some (.int .i64 p.2)
  | q :: l, p, hn, hp => by
    have hn' : ¬ q.1 ∈ keysI l ∧ (keysI l).Nodup := by simpa [keysI] using hn
    rcases List.mem_cons.1 hp with rfl | hm
    · have e : begins (kI p.1) (irow p.1 p.2) = true := begin_ir _ _
      simp only [mapAt, mapRow, rowsI, List.map_cons, List.find?_cons, e]
      rfl
    · have hne : ¬ q.1 = p.1 := fun e => hn'.1 (e ▸ List.mem_map.2 ⟨p, hm, rfl⟩)
      have e : begins (kI p.1) (irow q.1 q.2) = false := by rw [begins_ir]; exact decide_eq_false hne
      have ih := at_I l p hn'.2 hm
      simp only [mapAt, mapRow, rowsI, List.map_cons, List.find?_cons, e] at ih ⊢
      exact ih
  | [], p, _, hp => by cases hp
structure KeyP (pre : List Ptg) (a b : List (Int × Int)) : Prop where
  sold : soldV pre = rowsI a
  held : heldV pre = rowsI b
  keys : keysI b = keysI a
  nd : (keysI a).Nodup
  ne : pre ≠ [] → a ≠ []
  inr : ∀ c ∈ keysI a, 10 ≤ c ∧ c ≤ 10000007
  len : a.length ≤ pre.length
def KeyL (pre : List Ptg) : Prop := ∃ a b, KeyP pre a b
theorem keyL_nil : KeyL [] := ⟨[], [], rfl, rfl, rfl, List.nodup_nil, fun h => absurd rfl h, (fun c h => by cases h), Nat.le_refl _⟩
theorem KeyL.snoc {pre : List Ptg} {p : Ptg} (g : GoodL pre) (h : KeyL pre) (hr : refusedP pre p = 0) : KeyL (pre ++ [p]) := by
  obtain ⟨a, b, k⟩ := h
  have ac := accepted hr
  by_cases k1 : p.kind = 1
  · have hs : soldW pre p.parcel ≤ 0 := ac.kind1 k1
    have hno : ¬ p.parcel ∈ keysI a := fun hm => by
      have hh : mapHas (soldV pre) (kI p.parcel) = true := by rw [k.sold]; exact (has_I _ _).2 hm
      rcases g.sold p.parcel with ⟨e, _⟩ | ⟨_, _, e⟩
      · rw [hh] at e; cases e
      · omega
    have d : decide (p.kind = 1) = true := decide_eq_true k1
    refine ⟨putI p.parcel p.amount a, putI p.parcel p.amount b, ?_, ?_, ?_, ?_, fun _ e => ?_, ?_, ?_⟩
    · rw [soldV_snoc, d, k.sold]; exact putRow_I _ _ _
    · rw [heldV_snoc, d, k.held]; exact putRow_I _ _ _
    · rw [putI_keys, putI_keys, k.keys]
    · rw [putI_keys, if_neg hno]
      exact List.nodup_append.2 ⟨k.nd, by simp, fun x hx y hy => by
        simp only [List.mem_singleton] at hy
        subst hy
        exact fun e => hno (e ▸ hx)⟩
    · have := congrArg keysI e
      rw [putI_keys, if_neg hno] at this
      simp [keysI] at this
    · rw [putI_keys, if_neg hno]
      intro c hc
      rcases List.mem_append.1 hc with hc | hc
      · exact k.inr c hc
      · rw [List.mem_singleton.1 hc]; exact ac.form.parcel
    · have := putI_len p.parcel p.amount a
      have := k.len
      rw [List.length_append]; simp; omega
  · have d : decide (p.kind = 1) = false := decide_eq_false k1
    have hk : p.kind = 2 ∨ p.kind = 3 := by have := ac.form.kind; omega
    have hs : ¬ soldW pre p.parcel = 0 := by
      rcases hk with hk | hk
      · exact (ac.kind2 hk).1
      · exact (ac.kind3 hk).1
    have hin : p.parcel ∈ keysI a := by
      rcases g.sold p.parcel with ⟨_, e⟩ | ⟨e, _, _⟩
      · exact absurd e hs
      · rw [k.sold] at e; exact (has_I _ _).1 e
    have hh : ∃ v, heldV (pre ++ [p]) = rowsI (putI p.parcel v b) := by
      rw [heldV_snoc, d, k.held, cond_false]
      cases decide (p.kind = 2)
      · exact ⟨_, putRow_I _ _ _⟩
      · exact ⟨_, putRow_I _ _ _⟩
    obtain ⟨v, hv⟩ := hh
    refine ⟨a, putI p.parcel v b, ?_, hv, ?_, k.nd, fun _ e => ?_, k.inr, ?_⟩
    · rw [soldV_snoc, d]; exact k.sold
    · rw [putI_keys, if_pos (by rw [k.keys]; exact hin), k.keys]
    · rw [e] at hin; cases hin
    · have := k.len
      rw [List.length_append]; omega
theorem chk_key : ∀ (l pre : List Ptg), GoodL pre → KeyL pre → (chkP pre l).2 = 0 → GoodL (pre ++ l) ∧ KeyL (pre ++ l)
  | [], pre, g, h, _ => by rw [List.append_nil]; exact ⟨g, h⟩
  | p :: r, pre, g, h, hc => by
    by_cases e : refusedP pre p = 0
    · simp only [chkP, if_pos e] at hc
      have := chk_key r (pre ++ [p]) (g.snoc e) (h.snoc g e) hc
      rwa [List.append_assoc] at this
    · simp only [chkP, if_neg e] at hc
      exact absurd hc e
theorem sum_perm' {l m : List Int} (h : l.Perm m) : l.sum = m.sum := by
  induction h with
  | nil => rfl
  | cons x _ ih => simp [ih]
  | swap x y l => simp only [List.sum_cons]; omega
  | trans _ _ h1 h2 => exact h1.trans h2
theorem sum_le {f : Int → Int} {b : Int} : ∀ (l : List Int), (∀ c ∈ l, 0 ≤ f c ∧ f c ≤ b) → 0 ≤ (l.map f).sum ∧ (l.map f).sum ≤ b * l.length
  | [], _ => by simp
  | c :: l, h => by
    have h1 := h c List.mem_cons_self
    have h2 := sum_le l fun d hd => h d (List.mem_cons_of_mem _ hd)
    have e : b * ((c :: l).length : Int) = b * (l.length : Int) + b := by
      rw [List.length_cons, Int.natCast_add, Int.mul_add]; simp
    rw [List.map_cons, List.sum_cons, e]
    omega
theorem sum_add {f g : Int → Int} : ∀ (l : List Int), (l.map fun c => f c + g c).sum = (l.map f).sum + (l.map g).sum
  | [] => rfl
  | c :: l => by
    simp only [List.map_cons, List.sum_cons, sum_add l]
    omega
structure BookK (m : List Ptg) : Prop where
  good : GoodL m
  wk : wordsK (soldV m) = true
  wz : wordsZ (heldV m) = true
  l1 : (soldV m).length ≤ 400
  l2 : (heldV m).length ≤ 400
  n1 : (soldV m).length = (soldK m).length
  ne : (soldV m).length ≠ 0
  inr : ∀ c ∈ soldK m, (10 ≤ c ∧ c ≤ 10000007) ∧ 0 < soldW m c
  tot : ((heldV m).map valZ).sum + ((soldK m).map fun c => sumH m c 41).sum = ((soldK m).map fun c => soldW m c).sum
theorem rowsI_keyZ (a : List (Int × Int)) : (rowsI a).map keyZ = keysI a := by
  unfold rowsI keysI
  rw [List.map_map]
  rfl
theorem rowsI_valZ (a : List (Int × Int)) : (rowsI a).map valZ = a.map (·.2) := by
  unfold rowsI
  rw [List.map_map]
  rfl
theorem book_of {m : List Ptg} (h : (checkP m).2 = 0) (hne : m ≠ []) : BookK m := by
  obtain ⟨g, a, b, k⟩ := chk_key m [] goodL_nil keyL_nil h
  rw [List.nil_append] at g k
  have hl : b.length = a.length := by
    have := congrArg List.length k.keys
    simpa [keysI] using this
  have hlen := k.len
  have h4 := g.len
  have hperm : (soldK m).Perm (keysI a) := by
    unfold soldK sortZ
    rw [k.sold, rowsI_keyZ]
    exact List.mergeSort_perm _ _
  have hval : ∀ p ∈ b, p.2 = heldZ m p.1 ∧ 0 ≤ p.2 ∧ p.2 ≤ 1000000000 := fun p hp => by
    have hin : p.1 ∈ keysI b := List.mem_map.2 ⟨p, hp, rfl⟩
    have hh : mapHas (heldV m) (kI p.1) = true := by rw [k.held]; exact (has_I _ _).2 hin
    have ha : mapAt (heldV m) (kI p.1) 1 = some (.int .i64 p.2) := by rw [k.held]; exact at_I b p (by rw [k.keys]; exact k.nd) hp
    rcases g.held p.1 with ⟨e, _⟩ | ⟨_, e, _⟩
    · rw [hh] at e; cases e
    · rw [ha] at e
      have e2 : p.2 = heldZ m p.1 := (Value.int.inj (Option.some.inj e)).2
      have h1 := g.heldN p.1
      have h2 := g.soldB p.1
      have h3 := sumH_nonneg (fun w => g.hasN w p.1) 41
      unfold heldZ at *
      omega
  refine ⟨g, ?_, ?_, ?_, ?_, ?_, ?_, fun c hc => ?_, ?_⟩
  · unfold wordsK
    rw [k.sold, List.all_eq_true]
    intro r hr
    obtain ⟨p, hp, rfl⟩ := List.mem_map.1 hr
    have := k.inr p.1 (List.mem_map.2 ⟨p, hp, rfl⟩)
    show wz p.1 = true
    simp only [wz, Bool.and_eq_true, decide_eq_true_eq]
    omega
  · unfold wordsZ
    rw [k.held, List.all_eq_true]
    intro r hr
    obtain ⟨p, hp, rfl⟩ := List.mem_map.1 hr
    have h1 := k.inr p.1 (by rw [← k.keys]; exact List.mem_map.2 ⟨p, hp, rfl⟩)
    have h2 := hval p hp
    show (wz p.1 && wz p.2) = true
    simp only [wz, Bool.and_eq_true, decide_eq_true_eq]
    omega
  · rw [k.sold]; unfold rowsI; rw [List.length_map]; omega
  · rw [k.held]; unfold rowsI; rw [List.length_map]; omega
  · rw [hperm.length_eq, k.sold]; unfold rowsI keysI; rw [List.length_map, List.length_map]
  · rw [k.sold]; unfold rowsI; rw [List.length_map]
    intro e
    exact k.ne hne (List.eq_nil_of_length_eq_zero e)
  · have hin := hperm.mem_iff.1 hc
    refine ⟨k.inr c hin, ?_⟩
    have hh : mapHas (soldV m) (kI c) = true := by rw [k.sold]; exact (has_I _ _).2 hin
    rcases g.sold c with ⟨e, _⟩ | ⟨_, _, e⟩
    · rw [hh] at e; cases e
    · exact e
  · have e1 : (heldV m).map valZ = (keysI a).map (heldZ m) := by
      rw [k.held, rowsI_valZ, ← k.keys]
      unfold keysI
      rw [List.map_map]
      exact List.map_congr_left fun p hp => (hval p hp).1
    rw [e1, ← sum_perm' (hperm.map (heldZ m)), ← sum_add]
    refine congrArg List.sum (List.map_congr_left fun c _ => ?_)
    unfold heldZ
    omega
open Go
theorem atZ_snoc (l : List Int) (x n : Int) : atZ (l ++ [x]) n = if n < x then atZ l n else l.length + 1 := by
  unfold atZ
  rw [List.reverse_append, List.reverse_singleton, List.singleton_append, List.dropWhile_cons]
  by_cases h : n < x <;> simp [h]
theorem atZ_le (l : List Int) (n : Int) : atZ l n ≤ l.length := by
  unfold atZ
  have h := List.dropWhile_suffix (fun x => decide (n < x)) (l := l.reverse)
  have := h.length_le
  simpa using this
theorem atZ_spec (n : Int) (l : List Int) : (∀ x ∈ l.drop (atZ l n), n < x) ∧ (atZ l n = 0 ∨ ∃ a y, l.take (atZ l n) = a ++ [y] ∧ y ≤ n ∧ l[atZ l n - 1]? = some y) := by
  suffices h : ∀ m : List Int, ∀ l, l = m.reverse → (∀ x ∈ l.drop (atZ l n), n < x) ∧ (atZ l n = 0 ∨ ∃ a y, l.take (atZ l n) = a ++ [y] ∧ y ≤ n ∧ l[atZ l n - 1]? = some y) from h l.reverse l (List.reverse_reverse l).symm
  intro m
  induction m with
  | nil => rintro l rfl; exact ⟨by simp, .inl rfl⟩
  | cons x m ih =>
    rintro l rfl
    rw [List.reverse_cons]
    generalize hr : m.reverse = r
    obtain ⟨h1, h2⟩ := ih r hr.symm
    have hle := atZ_le r n
    rw [atZ_snoc]
    by_cases hx : n < x
    · rw [if_pos hx]
      refine ⟨fun y hy => ?_, ?_⟩
      · rw [List.drop_append_of_le_length hle] at hy
        rcases List.mem_append.1 hy with hy | hy
        · exact h1 y hy
        · rw [List.mem_singleton.1 hy]; exact hx
      · rcases h2 with h2 | ⟨a, y, e, hy, hi⟩
        · exact .inl h2
        · refine .inr ⟨a, y, by rw [List.take_append_of_le_length hle]; exact e, hy, ?_⟩
          have hpos : 0 < atZ r n := by
            cases hk : atZ r n with
            | zero => rw [hk] at e; simp at e
            | succ k => omega
          rw [List.getElem?_append_left (by omega)]
          exact hi
    · rw [if_neg hx]
      refine ⟨fun y hy => ?_, .inr ⟨r, x, ?_, by omega, ?_⟩⟩
      · rw [List.drop_of_length_le (by simp)] at hy; cases hy
      · rw [List.take_of_length_le (by simp)]
      · simp
theorem putZ_ok {l : List Int} {n : Int} (h : l.Pairwise (· < ·)) : (putZ l n).Pairwise (· < ·) ∧ ∀ c, c ∈ putZ l n ↔ c ∈ l ∨ c = n := by
  obtain ⟨h1, h2⟩ := atZ_spec n l
  have hl : l.take (atZ l n) ++ l.drop (atZ l n) = l := List.take_append_drop _ _
  unfold putZ
  generalize hk : atZ l n = k at *
  by_cases hc : 0 < k ∧ l[k - 1]? = some n
  · have e : (decide (0 < k) && decide (l[k - 1]? = some n)) = true := by simp [hc.1, hc.2]
    rw [e]
    refine ⟨h, fun c => ⟨.inl, ?_⟩⟩
    rintro (hm | rfl)
    · exact hm
    · exact List.mem_of_getElem? hc.2
  · have e : (decide (0 < k) && decide (l[k - 1]? = some n)) = false := by
      rw [Bool.and_eq_false_iff]
      by_cases h0 : 0 < k
      · exact .inr (decide_eq_false fun g => hc ⟨h0, g⟩)
      · exact .inl (decide_eq_false h0)
    rw [e]
    have hp := h
    rw [← hl, List.pairwise_append] at hp
    have hlt : ∀ a ∈ l.take k, a < n := by
      intro a ha
      rcases h2 with h2 | ⟨b, y, eb, hy, hi⟩
      · subst h2; simp at ha
      · have hne : ¬ y = n := fun g => by
          subst g
          refine hc ⟨?_, hi⟩
          cases k with
          | zero => simp at eb
          | succ k => omega
        have hpb := hp.1
        rw [eb] at ha hpb
        rw [List.pairwise_append] at hpb
        rcases List.mem_append.1 ha with g | g
        · have := hpb.2.2 a g y (List.mem_singleton.2 rfl); omega
        · rw [List.mem_singleton.1 g]; omega
    refine ⟨?_, fun c => ?_⟩
    · show (l.take k ++ n :: l.drop k).Pairwise (· < ·)
      rw [List.pairwise_append, List.pairwise_cons]
      refine ⟨hp.1, ⟨h1, hp.2.1⟩, fun a ha b hb => ?_⟩
      rcases List.mem_cons.1 hb with rfl | hb
      · exact hlt a ha
      · exact hp.2.2 a ha b hb
    · show c ∈ l.take k ++ n :: l.drop k ↔ _
      have : c ∈ l ↔ c ∈ l.take k ∨ c ∈ l.drop k := by rw [← List.mem_append, hl]
      rw [List.mem_append, List.mem_cons, this]
      constructor
      · rintro (g | g | g)
        · exact .inl (.inl g)
        · exact .inr g
        · exact .inl (.inr g)
      · rintro ((g | g) | g)
        · exact .inl g
        · exact .inr (.inr g)
        · exact .inr (.inl g)
theorem parcZ_from : ∀ (l : List Ptg) (a : List Int), a.Pairwise (· < ·) → (l.foldl (fun a p => putZ a p.parcel) a).Pairwise (· < ·) ∧ ∀ c, c ∈ l.foldl (fun a p => putZ a p.parcel) a ↔ c ∈ a ∨ ∃ p ∈ l, p.parcel = c
  | [], a, h => ⟨h, fun c => by simp⟩
  | p :: l, a, h => by
    obtain ⟨h1, h2⟩ := putZ_ok (n := p.parcel) h
    obtain ⟨h3, h4⟩ := parcZ_from l _ h1
    refine ⟨h3, fun c => ?_⟩
    rw [List.foldl_cons, h4, h2]
    constructor
    · rintro ((g | g) | ⟨q, hq, g⟩)
      · exact .inl g
      · exact .inr ⟨p, List.mem_cons_self, g.symm⟩
      · exact .inr ⟨q, List.mem_cons_of_mem _ hq, g⟩
    · rintro (g | ⟨q, hq, g⟩)
      · exact .inl (.inl g)
      · rcases List.mem_cons.1 hq with rfl | hq
        · exact .inl (.inr g.symm)
        · exact .inr ⟨q, hq, g⟩
theorem parcZ_len : ∀ (l : List Ptg) (a : List Int), (l.foldl (fun a p => putZ a p.parcel) a).length ≤ a.length + l.length
  | [], a => by simp
  | p :: l, a => by
    have := parcZ_len l (putZ a p.parcel)
    have h2 : (putZ a p.parcel).length ≤ a.length + 1 := by
      unfold putZ
      cases (decide (0 < atZ a p.parcel) && decide (a[atZ a p.parcel - 1]? = some p.parcel))
      · show (a.take _ ++ p.parcel :: a.drop _).length ≤ _
        have := atZ_le a p.parcel
        simp only [List.length_append, List.length_take, List.length_cons, List.length_drop]
        omega
      · show a.length ≤ _
        omega
    rw [List.foldl_cons, List.length_cons]
    omega
theorem parcZ_snoc (l : List Ptg) (p : Ptg) : parcZ (l ++ [p]) = putZ (parcZ l) p.parcel := by simp [parcZ]
theorem parcZ_le (l : List Ptg) : (parcZ l).length ≤ l.length := by
  have := parcZ_len l []
  simpa [parcZ] using this
def SoldL (pre : List Ptg) : Prop := (∀ q ∈ pre, 0 < soldW pre q.parcel) ∧ ∀ c, 0 < soldW pre c → ∃ q ∈ pre, q.parcel = c
theorem SoldL.snoc {pre : List Ptg} {p : Ptg} (g : GoodL pre) (h : SoldL pre) (hr : refusedP pre p = 0) : SoldL (pre ++ [p]) := by
  have ac := accepted hr
  have g' := g.snoc hr
  have mono : ∀ c, 0 < soldW pre c → 0 < soldW (pre ++ [p]) c := by
    intro c hc
    rw [soldW_snoc']
    unfold soldStep
    by_cases k1 : p.kind = 1
    · by_cases kc : p.parcel = c
      · subst kc; have := ac.kind1 k1; omega
      · simp only [k1, kc, decide_true, decide_false, Bool.and_false, cond_false]; exact hc
    · simp only [k1, decide_false, Bool.false_and, cond_false]; exact hc
  constructor
  · intro q hq
    rcases List.mem_append.1 hq with hq | hq
    · exact mono _ (h.1 q hq)
    · obtain rfl := List.mem_singleton.1 hq
      by_cases k1 : q.kind = 1
      · have f := ac.form
        have h0 := g.soldN q.parcel
        have h1 := ac.kind1 k1
        have h2 := f.amount
        rw [soldW_snoc']
        unfold soldStep
        simp only [k1, decide_true, Bool.and_self, cond_true]
        rw [IntWalk.i64_in _ (by omega)]
        omega
      · have f := ac.form
        have hs : ¬ soldW pre q.parcel = 0 := by
          have hk := f.kind
          by_cases k2 : q.kind = 2
          · exact (ac.kind2 k2).1
          · exact (ac.kind3 (by omega)).1
        have h0 := g.soldN q.parcel
        exact mono _ (by omega)
  · intro c hc
    by_cases kc : p.parcel = c
    · exact ⟨p, List.mem_append.2 (.inr (List.mem_singleton.2 rfl)), kc⟩
    · have e : soldW (pre ++ [p]) c = soldW pre c := by
        rw [soldW_snoc']
        unfold soldStep
        simp only [kc, decide_false, Bool.and_false, cond_false]
      rw [e] at hc
      obtain ⟨q, hq, hqc⟩ := h.2 c hc
      exact ⟨q, List.mem_append.2 (.inl hq), hqc⟩
theorem chk_sold : ∀ (l pre : List Ptg), GoodL pre → SoldL pre → (chkP pre l).2 = 0 → SoldL (pre ++ l)
  | [], pre, g, h, _ => by rw [List.append_nil]; exact h
  | p :: r, pre, g, h, hc => by
    by_cases e : refusedP pre p = 0
    · simp only [chkP, if_pos e] at hc
      have := chk_sold r (pre ++ [p]) (g.snoc e) (h.snoc g e) hc
      rwa [List.append_assoc] at this
    · simp only [chkP, if_neg e] at hc
      exact absurd hc e
theorem wrap_sum (f : Int → Int) : ∀ (ks : List Int) (n : Int), 0 ≤ n → (∀ c ∈ ks, 0 ≤ f c ∧ f c ≤ 1000000000) → n + 1000000000 * (ks.length : Int) ≤ 1000000000000000000 → ks.foldl (fun n c => IntKind.i64.wrap (n + f c)) n = n + (ks.map f).sum
  | [], n, _, _, _ => by simp
  | c :: ks, n, h0, h, hb => by
    have hc := h c List.mem_cons_self
    rw [List.length_cons] at hb
    rw [List.foldl_cons, IntWalk.i64_in _ (by omega), wrap_sum f ks (n + f c) (by omega) (fun d hd => h d (List.mem_cons_of_mem _ hd)) (by omega), List.map_cons, List.sum_cons]
    omega
theorem parts_held {m : List Ptg} (h : (checkP m).2 = 0) : IntKind.i64.wrap ((heldV m).map valZ).sum = sumHeld m (parcZ m) := by
  obtain ⟨g, a, b, k⟩ := chk_key m [] goodL_nil keyL_nil h
  have hs : SoldL ([] ++ m) := chk_sold m [] goodL_nil ⟨(fun q hq => by cases hq), fun c hc => by simp [soldW] at hc⟩ h
  rw [List.nil_append] at g k hs
  have hval : ∀ p ∈ b, p.2 = heldZ m p.1 := fun p hp => by
    have hin : p.1 ∈ keysI b := List.mem_map.2 ⟨p, hp, rfl⟩
    have hh : mapHas (heldV m) (kI p.1) = true := by rw [k.held]; exact (has_I _ _).2 hin
    have ha : mapAt (heldV m) (kI p.1) 1 = some (.int .i64 p.2) := by rw [k.held]; exact at_I b p (by rw [k.keys]; exact k.nd) hp
    rcases g.held p.1 with ⟨e, _⟩ | ⟨_, e, _⟩
    · rw [hh] at e; cases e
    · rw [ha] at e
      exact (Value.int.inj (Option.some.inj e)).2
  have e1 : (heldV m).map valZ = (keysI a).map (heldZ m) := by
    rw [k.held, rowsI_valZ, ← k.keys]
    unfold keysI
    rw [List.map_map]
    exact List.map_congr_left fun p hp => hval p hp
  obtain ⟨hp1, hp2⟩ := parcZ_from m [] List.Pairwise.nil
  have hnd : (parcZ m).Nodup := hp1.imp fun {a b} h => by omega
  have hperm : (parcZ m).Perm (keysI a) := by
    refine (List.perm_ext_iff_of_nodup hnd k.nd).2 fun c => ?_
    rw [show parcZ m = m.foldl (fun a p => putZ a p.parcel) [] from rfl, hp2]
    rw [← has_I, ← k.sold]
    constructor
    · rintro (hc | ⟨q, hq, rfl⟩)
      · cases hc
      · rcases g.sold q.parcel with ⟨_, e⟩ | ⟨e, _⟩
        · have := hs.1 q hq; omega
        · exact e
    · intro hc
      rcases g.sold c with ⟨e, _⟩ | ⟨_, _, e⟩
      · rw [hc] at e; cases e
      · exact .inr (hs.2 c e)
  have hr : ∀ c, 0 ≤ heldZ m c ∧ heldZ m c ≤ 1000000000 := fun c => by
    have h1 := g.heldN c
    have h2 := g.soldB c
    have h3 := sumH_nonneg (fun w => g.hasN w c) 41
    unfold heldZ at *
    omega
  have hlen := parcZ_le m
  have h4 := g.len
  have hf : heldW m = heldZ m := funext fun c => g.heldW c
  have hsum : ((keysI a).map (heldZ m)).sum = ((parcZ m).map (heldZ m)).sum := sum_perm' (hperm.symm.map _)
  have hb := sum_le (f := heldZ m) (b := 1000000000) (parcZ m) fun c _ => hr c
  unfold sumHeld
  rw [hf, wrap_sum (heldZ m) (parcZ m) 0 (by omega) (fun c _ => hr c) (by omega), e1, hsum, IntWalk.i64_in _ (by omega)]
  omega
end Go.Proofs.YtpdemfamfmeemacGreat.Zs
