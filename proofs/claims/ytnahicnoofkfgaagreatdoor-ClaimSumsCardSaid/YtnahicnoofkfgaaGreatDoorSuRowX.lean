/-
  The row of ClaimSums.
-/
import Derived.Test.YtnahicnoofkfgaaGreatDoorSuRowS
import Derived.Test.YtnahicnoofkfgaaGreatDoorSuLawS
import Derived.Carry
set_option linter.unusedSimpArgs false
set_option linter.unusedVariables false
namespace Go.Proofs.YtnahicnoofkfgaaGreatDoor
open Go.ChangeShapes Go.WideShapes Go.ChangeAt Go.RowKit Go.ChangeMaps

/-- What the type itself lies as, and not what lies in it. -/
def inNo (P : Program) (fits : TypeId → Bool) (d : Nat) (e : TypeId) : Bool := match P.underlying e with
  | some (.struct fs) => fs.toList.all fun f => Zs.noRow P fits d f.type
  | some (.array _ e') => Zs.noRow P fits d e'
  | _ => true
theorem rowAt_here {P : Program} {fits : TypeId → Bool} {d : Nat} {e : TypeId} {count off n : Nat} (hn : inNo P fits (d - 1) e = true) (h : rowAt P fits d e count off n = true) : off % P.cellsOf e = 0 ∧ off / P.cellsOf e + n ≤ count := by
  cases d with
  | zero => cases h
  | succ d =>
    unfold rowAt at h
    simp only at h
    split at h
    · cases h
    · simp only [Bool.or_eq_true, Bool.and_eq_true, beq_iff_eq, decide_eq_true_eq] at h
      rcases h with ⟨⟨h1, h2⟩, _⟩ | ⟨_, h⟩
      · exact ⟨h1, h2⟩
      · exfalso
        unfold inNo at hn
        rw [Nat.add_sub_cancel] at hn
        split at hn
        · rename_i fs hu
          rw [hu] at h
          simp only [Bool.and_eq_true, Array.any_eq_true] at h
          obtain ⟨_, i, hi, ⟨_, h2⟩⟩ := h
          have := List.all_eq_true.1 hn fs[i] (by simp)
          exact Zs.rowAt_no this h2
        · rename_i m e' hu
          rw [hu] at h
          exact Zs.rowAt_no hn h
        · rename_i h1 h2
          first
            | (cases h; done)
            | (split at h
               · rename_i fs hu; exact h1 fs hu
               · rename_i m e' hu; exact h2 m e' hu
               · cases h)
theorem liesAt_here {P : Program} {d : Nat} {e : TypeId} {count off : Nat} {u : TypeId} {n : Nat} (hu : ∀ m u', P.underlying u ≠ some (.array m u')) (hn : inNo P (fun t => sameLayout P P.depth t u) (P.depth - 1) e = true) (h : liesAt P d e count off u n = true) : off % P.cellsOf e = 0 ∧ off / P.cellsOf e + n ≤ count := by
  cases d with
  | zero => cases h
  | succ d =>
    unfold liesAt at h
    simp only [Bool.or_eq_true] at h
    rcases h with h | h
    · exact rowAt_here hn h
    · exfalso
      first
        | (cases h; done)
        | (split at h
           · rename_i m u' he; exact hu m u' he
           · cases h)
theorem no_arr23 (m : Nat) (u' : TypeId) : Tryz.prog.underlying 23 ≠ some (.array m u') := fun e => by
  have h := s23
  unfold strT at h
  rw [e] at h
  cases h
theorem u32 : Tryz.prog.underlying 32 = some (.slice 23) := by kernel_rfl
theorem sch23 : Zs.schT Tryz.prog 6 23 = some Zs.fracSch := by kernel_rfl
theorem away118 : Zs.noRow Tryz.prog (fun t => sameLayout Tryz.prog Tryz.prog.depth t 23) Tryz.prog.depth 118 = true := by kernel_rfl
theorem away248 : Zs.noRow Tryz.prog (fun t => sameLayout Tryz.prog Tryz.prog.depth t 23) Tryz.prog.depth 248 = true := by kernel_rfl
theorem in80 : inNo Tryz.prog (fun t => sameLayout Tryz.prog Tryz.prog.depth t 23) (Tryz.prog.depth - 1) 80 = true := by kernel_rfl
/-- What a law takes over from its list. -/
structure ListIn (W : World) (v : Value) (b off len cap : Nat) (l : List Zs.Frac) : Prop where
  eq : v = .slice (some ⟨b, off, none⟩) len cap
  le : len ≤ cap
  len : l.length = len
  obj : ∃ (pre rest : List Value) (t₀ : TypeId) (fr : Nat × Nat), pre.length = off ∧ W.heap[b]? = some (.cells (pre ++ ((l.map Zs.Frac.row).flatten ++ rest)).toArray t₀ fr)
  away : ∀ j bj, (j, bj) ∈ Zs.hRoot → b ≠ j
  fit : ∀ r ∈ l.map Zs.Frac.row, Zs.RowFits Zs.fracSch r
/-- A list that lies in one of the two fractions of the package. -/
def InVar (v : Value) : Prop := ∃ b off len cap, v = .slice (some ⟨b, off, none⟩) len cap ∧ (b = 1 ∨ b = 2) ∧ ((off = 0 ∧ len = 0 ∧ cap = 0) ∨ (off = 0 ∧ len = 0 ∧ cap = 1) ∨ (off = 0 ∧ len = 1 ∧ cap = 1) ∨ (off = 2 ∧ len = 0 ∧ cap = 0))
theorem in_two {t₀ : TypeId} {n off len cap : Nat} (ht : t₀ = 80) (hn : n = 2) (h2 : len ≤ cap) (h8 : liesAt Tryz.prog Tryz.prog.depth t₀ (n / Tryz.prog.cellsOf t₀) off 23 cap = true) : (off = 0 ∧ len = 0 ∧ cap = 0) ∨ (off = 0 ∧ len = 0 ∧ cap = 1) ∨ (off = 0 ∧ len = 1 ∧ cap = 1) ∨ (off = 2 ∧ len = 0 ∧ cap = 0) := by
  subst ht hn
  have h := liesAt_here no_arr23 in80 h8
  rw [c80] at h
  omega
set_option maxRecDepth 100000 in
theorem list_in {H : Type} {enc : TypeId × Value → H} {W : World} (hL : Zs.LaidL Zs.hRoot W) {r : Reach} {b0 : Nat} {v : Value} {d : DataW H} {ps : List MemPlace} (hv : Value.okWide Tryz.prog W r b0 32 v) (h : DataW.Trod enc Tryz.prog W 0 (fun _ => true) true 32 v d ps) :
    v = .slice none 0 0 ∨ InVar v ∨ ∃ b off len cap l, ListIn W v b off len cap l := by
  rcases Zs.slice_in u32 sch23 (by rw [c23]; rfl) (by rw [c23]; omega) hv h with h0 | ⟨b, off, len, cap, rows, pre, rest, t₀, fr, h1, h2, h3, h4, h5, h6, h7, h8⟩
  · exact .inl h0
  · right
    by_cases hb : ∃ j bj, (j, bj) ∈ Zs.hRoot ∧ b = j
    · left
      obtain ⟨j, bj, hm, rfl⟩ := hb
      obtain ⟨q, t, vs, rfl, hvs, h9⟩ := hL b bj hm
      rw [h6] at h9
      have h9 := Option.some.inj h9
      injection h9 with e1 e2 e3
      have hlen : (pre ++ (rows.flatten ++ rest)).length = vs.length := by rw [List.toArray_inj e1]
      rw [root_is] at hm
      simp only [List.mem_cons, List.not_mem_nil, or_false, Prod.mk.injEq, Zs.ABlock.cells.injEq] at hm
      rcases hm with ⟨rfl, rfl, rfl⟩ | ⟨rfl, rfl, rfl⟩ | ⟨rfl, rfl, rfl⟩ | ⟨rfl, rfl, rfl⟩
      · exact absurd h8 (fun h8 => Zs.liesAt_no no_arr23 (e2 ▸ away118) h8)
      · have : vs.length = 2 := by simp [Zs.instL, Zs.AV.inst] at hvs; rw [← hvs]; rfl
        exact ⟨_, _, _, _, h1, .inl rfl, in_two e2 (hlen.trans this) h2 h8⟩
      · have : vs.length = 2 := by simp [Zs.instL, Zs.AV.inst] at hvs; rw [← hvs]; rfl
        exact ⟨_, _, _, _, h1, .inr rfl, in_two e2 (hlen.trans this) h2 h8⟩
      · exact absurd h8 (fun h8 => Zs.liesAt_no no_arr23 (e2 ▸ away248) h8)
    · right
      have hf : rows = (rows.map Zs.toFrac).map Zs.Frac.row := Zs.fracs_of h7
      rw [hf] at h6 h7
      exact ⟨b, off, len, cap, rows.map Zs.toFrac, h1, h2, by simpa using h4, ⟨pre, rest, t₀, fr, h5, h6⟩, fun j bj hm e => hb ⟨j, bj, hm, e⟩, h7⟩
theorem fracsArg_ins {σ : Zs.Sig} {i v b κ off len cap : Nat} {l : List Zs.Frac} (hs : σ i = some (b, κ)) (h0 : σ.rho.val v = some (.int .i64 (off : Int))) (h1 : σ.rho.val (v + 1) = some (Zs.fracsR l)) (h2 : σ.rho.val (v + 2) = some (.int .i64 (cap : Int))) (hl : l.length = len) (hc : len ≤ cap) :
    (Zs.fracsArg i v).av.inst σ = some (.slice (some ⟨b, off, none⟩) len cap) := by
  have := Zs.slx_inst (σ := σ) (w := 2) (base := .var v) (lo := .num 0) (len := .op1 .len (.var (v + 1))) (cap := .var (v + 2)) hs (Zs.X.nat_iff.2 ⟨.i64, h0⟩) (kl := 0) (Zs.X.nat_iff.2 ⟨.i64, rfl⟩) (kn := len) (Zs.X.nat_iff.2 ⟨.i64, by simp only [Zs.X.den, h1, Zs.fracs_len, hl]⟩) (kc := cap) (Zs.X.nat_iff.2 ⟨.i64, h2⟩) hc
  simpa [Zs.fracsArg, Zs.Arg.av] using this
set_option maxRecDepth 100000 in
/-- The blocks of a law whose one list is a list of fractions. -/
theorem one_list {W : World} (hL : Zs.LaidL Zs.hRoot W) {v : Value} {b off len cap : Nat} {l : List Zs.Frac} (h : ListIn W v b off len cap l) {r : Zs.Rho} (h0 : r.val 0 = some (.int .i64 (off : Int))) (h1 : r.val 1 = some (Zs.fracsR l)) :
    (Zs.memOf (Zs.hRoot ++ [(60, Zs.ABlock.rows 2 Zs.fracSch (.var 0) (.var 1) false 23)]) 100).rel Tryz.prog (Zs.lawSig [(60, Zs.ABlock.rows 2 Zs.fracSch (.var 0) (.var 1) false 23)] (fun _ => b) r) W (fun b => W.heap.size ≤ b) := by
  obtain ⟨pre, rest, t₀, fr, h2, h3⟩ := h.obj
  refine Zs.law_rel hL root50 rfl (fun i blk hm => ?_) (fun i bi j bj hi hj _ => ?_) (fun i bi j bj _ hj => h.away j bj hj)
  · simp only [List.mem_singleton, Prod.mk.injEq] at hm
    obtain ⟨rfl, rfl⟩ := hm
    exact ⟨_, h3, Zs.rows_brel0 (σ := Zs.lawSig _ _ r) h1 (Zs.X.nat_iff.2 ⟨.i64, by rw [h2]; exact h0⟩) rfl (Nat.succ_pos 1) h.fit⟩
  · simp only [List.mem_singleton, Prod.mk.injEq] at hi hj
    rw [hi.1, hj.1]
def slVal (off cap : Nat) (l : List Zs.Frac) : Nat → Option Value
  | 0 => some (.int .i64 (off : Int))
  | 1 => some (Zs.fracsR l)
  | 2 => some (.int .i64 (cap : Int))
  | _ => none
set_option maxRecDepth 100000 in
theorem sums_any {W : World} (hL : Zs.LaidL Zs.hRoot W) {v : Value} (hv : v = .slice none 0 0 ∨ InVar v ∨ ∃ b off len cap l, ListIn W v b off len cap l) :
    Calls Tryz.prog 4 #[v] W fun e w' => e = .returned (.bool true) ∧ Zs.Kept (fun b => W.heap.size ≤ b) W w' := by
  rcases hv with rfl | ⟨b, off, len, cap, rfl, rfl | rfl, ⟨rfl, rfl, rfl⟩ | ⟨rfl, rfl, rfl⟩ | ⟨rfl, rfl, rfl⟩ | ⟨rfl, rfl, rfl⟩⟩ | ⟨b, off, len, cap, l, h⟩
  · exact Zs.sn_true (r := ⟨slVal 0 0 [], Zs.sy⟩) (σ := Zs.lawSig [] (fun _ => 0) ⟨slVal 0 0 [], Zs.sy⟩) (us := [.slice none 0 0]) rfl (fun g id hg => Zs.law_globs hg) (no_list hL _) (.cons rfl .nil)
  · exact Zs.s1000_true (r := ⟨slVal 0 0 [], Zs.sy⟩) (σ := Zs.lawSig [] (fun _ => 0) ⟨slVal 0 0 [], Zs.sy⟩) (us := [.slice (some ⟨1, 0, none⟩) 0 0]) rfl (fun g id hg => Zs.law_globs hg) (no_list hL _) (.cons rfl .nil)
  · exact Zs.s1001_true (r := ⟨slVal 0 0 [], Zs.sy⟩) (σ := Zs.lawSig [] (fun _ => 0) ⟨slVal 0 0 [], Zs.sy⟩) (us := [.slice (some ⟨1, 0, none⟩) 0 1]) rfl (fun g id hg => Zs.law_globs hg) (no_list hL _) (.cons rfl .nil)
  · exact Zs.s1011_true (r := ⟨slVal 0 0 [], Zs.sy⟩) (σ := Zs.lawSig [] (fun _ => 0) ⟨slVal 0 0 [], Zs.sy⟩) (us := [.slice (some ⟨1, 0, none⟩) 1 1]) rfl (fun g id hg => Zs.law_globs hg) (no_list hL _) (.cons rfl .nil)
  · exact Zs.s1200_true (r := ⟨slVal 0 0 [], Zs.sy⟩) (σ := Zs.lawSig [] (fun _ => 0) ⟨slVal 0 0 [], Zs.sy⟩) (us := [.slice (some ⟨1, 2, none⟩) 0 0]) rfl (fun g id hg => Zs.law_globs hg) (no_list hL _) (.cons rfl .nil)
  · exact Zs.s2000_true (r := ⟨slVal 0 0 [], Zs.sy⟩) (σ := Zs.lawSig [] (fun _ => 0) ⟨slVal 0 0 [], Zs.sy⟩) (us := [.slice (some ⟨2, 0, none⟩) 0 0]) rfl (fun g id hg => Zs.law_globs hg) (no_list hL _) (.cons rfl .nil)
  · exact Zs.s2001_true (r := ⟨slVal 0 0 [], Zs.sy⟩) (σ := Zs.lawSig [] (fun _ => 0) ⟨slVal 0 0 [], Zs.sy⟩) (us := [.slice (some ⟨2, 0, none⟩) 0 1]) rfl (fun g id hg => Zs.law_globs hg) (no_list hL _) (.cons rfl .nil)
  · exact Zs.s2011_true (r := ⟨slVal 0 0 [], Zs.sy⟩) (σ := Zs.lawSig [] (fun _ => 0) ⟨slVal 0 0 [], Zs.sy⟩) (us := [.slice (some ⟨2, 0, none⟩) 1 1]) rfl (fun g id hg => Zs.law_globs hg) (no_list hL _) (.cons rfl .nil)
  · exact Zs.s2200_true (r := ⟨slVal 0 0 [], Zs.sy⟩) (σ := Zs.lawSig [] (fun _ => 0) ⟨slVal 0 0 [], Zs.sy⟩) (us := [.slice (some ⟨2, 2, none⟩) 0 0]) rfl (fun g id hg => Zs.law_globs hg) (no_list hL _) (.cons rfl .nil)
  · let r : Zs.Rho := ⟨slVal off cap l, Zs.sy⟩
    refine Zs.sl_true (r := r) (σ := Zs.lawSig [(60, Zs.ABlock.rows 2 Zs.fracSch (.var 0) (.var 1) false 23)] (fun _ => b) r) (us := [v]) rfl rfl (fun g id hg => Zs.law_globs hg) (one_list hL h rfl rfl) ?_
    have := fracsArg_ins (σ := Zs.lawSig [(60, Zs.ABlock.rows 2 Zs.fracSch (.var 0) (.var 1) false 23)] (fun _ => b) r) (i := 60) (v := 0) (b := b) (κ := 0) (off := off) (len := len) (cap := cap) (l := l) rfl rfl rfl rfl h.len h.le
    rw [← h.eq] at this
    exact .cons this .nil

theorem sl_readable : ([32].all fun t => Tryz.prog.readableRec t && decide (t < Tryz.prog.types.size)) = true := by kernel_rfl
set_option maxRecDepth 100000 in
theorem sl_lifted (os : Os) (started : os.Started) (H : Type) (enc : TypeId × Value → H) :
    ReturnsInHanded {} Tryz.checked os 4 .any (fun w args => (Rows.claimSumsSpec.pre enc Tryz.prog Tryz.f4 [] false w args ∧ laidMetH Tryz.prog Rows.claimSumsRow.laid w) ∧ sizedMet enc Tryz.prog Tryz.f4 (OpenSpec.ofChange Rows.claimSumsSpec) false w args)
      (Rows.claimSumsSpec.post enc Tryz.prog Tryz.f4 false true false false) := by
  refine returns_shaped (C := Tryz.checked) (X := fun w _ => laidMetH Tryz.prog Rows.claimSumsRow.laid w) (fun _ _ _ hh h => h.of_heap hh) own started (by kernel_rfl) Tryz.func4
    (ChangeSpec.witness_shaped (enc := enc) (C := Tryz.checked) (os := os) (X := fun w _ => laidMetH Tryz.prog Rows.claimSumsRow.laid w) false (World.laidAll Tryz.prog os Rows.claimSumsRow.laid) #[.slice none 0 0] 8 (World.laidAll_os _ _ _)
      (World.shaped_of_ZipB (by kernel_rfl) (by kernel_rfl)) (by kernel_rfl) (by kernel_rfl) (by kernel_rfl)
      (by rw [MakeChecks.laidMetH_plain _ _ _ (by kernel_rfl)]; exact laidMet_laidAll _ (by kernel_rfl) (by kernel_rfl))) ?_
  intro W base args ds gs before hval0 hW hshape hL
  have hval : ∀ (j : Nat) t v, Tryz.f4.params[j]? = some t → args[j]? = some v → Value.okWide Tryz.prog W .any base t v := hval0
  have hW' := hW
  obtain ⟨p, q, hA0, hV, rfl, _, _⟩ := hW
  have hA : DataW.TrodAll enc Tryz.prog W 0 (fun _ => true) true Tryz.f4.params.toList args.toList ds p := hA0
  rw [Tryz.params4] at hA hval
  have hAk := hA
  have hlt := DataW.TrodAll.lt hA
  obtain ⟨v0, d0, rfl, rfl, h0⟩ := trodAll_one hA
  obtain ⟨rfl, rfl⟩ := trodVars_none hV
  have hl := laid_of hshape hL
  simp only [List.append_nil] at hW'
  refine (sums_any hl (list_in hl (hval 0 32 v0 rfl rfl) h0)).mono fun e W' ⟨he, hk⟩ => ?_
  subst he
  refine ⟨_, rfl, _, _, _, [], p, [], hW', ?_, ?_, ?_, kept_but hk, fun h => by cases h⟩
  · exact trodAll_mk1 (shut_bool (by kernel_rfl : Tryz.prog.underlying 4 = some .bool) true)
  · exact trodAll_stays laidOut hk sl_readable hAk hlt
  · rfl

theorem claimSums_said : Rows.ClaimSumsSaid :=
  OpenClaim.holds_of_wide 4 Tryz.f4 rfl rfl rfl rfl rfl rfl rfl ⟨rfl, rfl, rfl, rfl, rfl⟩ rfl rfl rfl rfl rfl (by kernel_rfl) Tryz.func4 (by kernel_rfl)
    (of_decide_eq_true (by kernel_rfl)) (by unfold Func.isWrapper; first | (rw [if_pos (by decide +kernel)]; kernel_rfl) | (rw [if_neg (by decide +kernel)]; exact ⟨rfl, rfl⟩))
    (fun os started H enc _ => sl_lifted os started H enc)
end Go.Proofs.YtnahicnoofkfgaaGreatDoor
