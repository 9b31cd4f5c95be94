/-
  The row of AwardMerges.
-/
import Derived.Test.YtpdemfamfmeemacGreatDoorMeRowS
import Derived.Test.YtpdemfamfmeemacGreatDoorMeLawZ
import Derived.Carry
set_option linter.unusedSimpArgs false
set_option linter.unusedVariables false
namespace Go.Proofs.YtpdemfamfmeemacGreatDoor
open Go.ChangeShapes Go.WideShapes Go.ChangeAt Go.RowKit Go.ChangeMaps
theorem u22 : Tryz.prog.underlying 22 = some (.slice 25) := by kernel_rfl
theorem c25 : Tryz.prog.cellsOf 25 = 2 := by kernel_rfl
theorem sch25 : Zs.schT Tryz.prog 6 25 = some Zs.shrSch := by kernel_rfl
structure ListIn (W : World) (v : Value) (b off len cap : Nat) (l : List Zs.Shr) : Prop where
  eq : v = .slice (some ⟨b, off, none⟩) len cap
  le : len ≤ cap
  len : l.length = len
  obj : ∃ (pre rest : List Value) (t₀ : TypeId) (fr : Nat × Nat), pre.length = off ∧ W.heap[b]? = some (.cells (pre ++ ((l.map Zs.Shr.row).flatten ++ rest)).toArray t₀ fr)
  fit : ∀ r ∈ l.map Zs.Shr.row, Zs.RowFits Zs.shrSch r
set_option maxRecDepth 100000 in
theorem list_in {H : Type} {enc : TypeId × Value → H} {W : World} {r : Reach} {b0 : Nat} {v : Value} {d : DataW H} {ps : List MemPlace} (hv : Value.okWide Tryz.prog W r b0 22 v) (h : DataW.Trod enc Tryz.prog W 0 (fun _ => true) true 22 v d ps) :
    v = .slice none 0 0 ∨ ∃ b off len cap l, ListIn W v b off len cap l := by
  rcases Zs.slice_in u22 sch25 (by rw [c25]; rfl) (by rw [c25]; omega) hv h with h0 | ⟨b, off, len, cap, rows, pre, rest, t₀, fr, h1, h2, h3, h4, h5, h6, h7, h8⟩
  · exact .inl h0
  · right
    have hf : rows = (rows.map Zs.toShr).map Zs.Shr.row := Zs.shrs_of h7
    rw [hf] at h6 h7
    exact ⟨b, off, len, cap, rows.map Zs.toShr, h1, h2, by simpa using h4, ⟨pre, rest, t₀, fr, h5, h6⟩, h7⟩
theorem shrsArg_ins {σ : Zs.Sig} {i v b κ off len cap : Nat} {l : List Zs.Shr} (hs : σ i = some (b, κ)) (h0 : σ.rho.val v = some (.int .i64 (off : Int))) (h1 : σ.rho.val (v + 1) = some (Zs.shrsR l)) (h2 : σ.rho.val (v + 2) = some (.int .i64 (cap : Int))) (hl : l.length = len) (hc : len ≤ cap) :
    (Zs.shrsArg i v).av.inst σ = some (.slice (some ⟨b, off, none⟩) len cap) := by
  have := Zs.slx_inst (σ := σ) (w := 2) (base := .var v) (lo := .num 0) (len := .op1 .len (.var (v + 1))) (cap := .var (v + 2)) hs (Zs.X.nat_iff.2 ⟨.i64, h0⟩) (kl := 0) (Zs.X.nat_iff.2 ⟨.i64, rfl⟩) (kn := len) (Zs.X.nat_iff.2 ⟨.i64, by simp only [Zs.X.den, h1, Zs.shrs_len, hl]⟩) (kc := cap) (Zs.X.nat_iff.2 ⟨.i64, h2⟩) hc
  simpa [Zs.shrsArg, Zs.Arg.av] using this
theorem list_brel {W : World} {v : Value} {b off len cap : Nat} {l : List Zs.Shr} (h : ListIn W v b off len cap l) {σ : Zs.Sig} {k : Nat} (h0 : σ.rho.val k = some (.int .i64 (off : Int))) (h1 : σ.rho.val (k + 1) = some (Zs.shrsR l)) :
    ∃ o, W.heap[b]? = some o ∧ Zs.BRel Tryz.prog σ 0 (Zs.ABlock.rows 2 Zs.shrSch (.var k) (.var (k + 1)) false 25) o := by
  obtain ⟨pre, rest, t₀, fr, h2, h3⟩ := h.obj
  exact ⟨_, h3, Zs.rows_brel0 (σ := σ) h1 (Zs.X.nat_iff.2 ⟨.i64, by rw [h2]; exact h0⟩) rfl (Nat.succ_pos 1) h.fit⟩
def chVal (o1 c1 : Nat) (l1 : List Zs.Shr) (o2 c2 : Nat) (l2 : List Zs.Shr) (n : Int) : Nat → Option Value
  | 0 => some (.int .i64 (o1 : Int))
  | 1 => some (Zs.shrsR l1)
  | 2 => some (.int .i64 (c1 : Int))
  | 3 => some (.int .i64 (o2 : Int))
  | 4 => some (Zs.shrsR l2)
  | 5 => some (.int .i64 (c2 : Int))
  | 6 => some (.int .i64 n)
  | _ => none
def at2 (b1 b2 : Nat) : Nat → Nat
  | 60 => b1
  | _ => b2
set_option maxRecDepth 100000 in
theorem int_ins {σ : Zs.Sig} {v : Nat} {n : Int} (h : σ.rho.val v = some (.int .i64 n)) : (Zs.Arg.one (.int .i64 v)).av.inst σ = some (.int .i64 n) := v_int h
set_option maxRecDepth 100000 in
theorem merges_any {W : World} (hL : Zs.LaidL Zs.hRoot W) {v u : Value} (hv : v = .slice none 0 0 ∨ ∃ b off len cap l, ListIn W v b off len cap l) (hu : u = .slice none 0 0 ∨ ∃ b off len cap l, ListIn W u b off len cap l) (n : Int) :
    Calls Tryz.prog 3 #[v, u, .int .i64 n] W fun e w' => e = .returned (.bool true) ∧ Zs.Kept (fun b => W.heap.size ≤ b) W w' := by
  rcases hv with rfl | ⟨b1, o1, n1, c1, l1, h1⟩ <;> rcases hu with rfl | ⟨b2, o2, n2, c2, l2, h2⟩
  · exact Zs.mgNN_true (r := ⟨chVal 0 0 [] 0 0 [] n, Zs.sy⟩) (σ := Zs.lawSig [] (fun _ => 0) ⟨chVal 0 0 [] 0 0 [] n, Zs.sy⟩) (us := [.slice none 0 0, .slice none 0 0, .int .i64 n]) rfl rfl (fun g id hg => Zs.law_globs hg) (no_list hL _) (.cons rfl (.cons rfl (.cons (int_ins rfl) .nil)))
  · let r : Zs.Rho := ⟨chVal 0 0 [] o2 c2 l2 n, Zs.sy⟩
    refine Zs.mgNL_true (r := r) (σ := Zs.lawSig [(61, Zs.ABlock.rows 2 Zs.shrSch (.var 3) (.var 4) false 25)] (fun _ => b2) r) (us := [.slice none 0 0, u, .int .i64 n]) rfl rfl (fun g id hg => Zs.law_globs hg) (Zs.law_rel (ab := [(61, Zs.ABlock.rows 2 Zs.shrSch (.var 3) (.var 4) false 25)]) hL root50 rfl fun i blk hm => ?_) ?_
    · simp only [List.mem_singleton, Prod.mk.injEq] at hm
      obtain ⟨rfl, rfl⟩ := hm
      exact list_brel h2 rfl rfl
    · have := shrsArg_ins (σ := Zs.lawSig [(61, Zs.ABlock.rows 2 Zs.shrSch (.var 3) (.var 4) false 25)] (fun _ => b2) r) (i := 61) (v := 3) (b := b2) (κ := 0) (off := o2) (len := n2) (cap := c2) (l := l2) rfl rfl rfl rfl h2.len h2.le
      rw [← h2.eq] at this
      exact .cons rfl (.cons this (.cons (int_ins rfl) .nil))
  · let r : Zs.Rho := ⟨chVal o1 c1 l1 0 0 [] n, Zs.sy⟩
    refine Zs.mgLN_true (r := r) (σ := Zs.lawSig [(60, Zs.ABlock.rows 2 Zs.shrSch (.var 0) (.var 1) false 25)] (fun _ => b1) r) (us := [v, .slice none 0 0, .int .i64 n]) rfl rfl (fun g id hg => Zs.law_globs hg) (Zs.law_rel (ab := [(60, Zs.ABlock.rows 2 Zs.shrSch (.var 0) (.var 1) false 25)]) hL root50 rfl fun i blk hm => ?_) ?_
    · simp only [List.mem_singleton, Prod.mk.injEq] at hm
      obtain ⟨rfl, rfl⟩ := hm
      exact list_brel h1 rfl rfl
    · have := shrsArg_ins (σ := Zs.lawSig [(60, Zs.ABlock.rows 2 Zs.shrSch (.var 0) (.var 1) false 25)] (fun _ => b1) r) (i := 60) (v := 0) (b := b1) (κ := 0) (off := o1) (len := n1) (cap := c1) (l := l1) rfl rfl rfl rfl h1.len h1.le
      rw [← h1.eq] at this
      exact .cons this (.cons rfl (.cons (int_ins rfl) .nil))
  · let r : Zs.Rho := ⟨chVal o1 c1 l1 o2 c2 l2 n, Zs.sy⟩
    refine Zs.mgLL_true (r := r) (σ := Zs.lawSig [(60, Zs.ABlock.rows 2 Zs.shrSch (.var 0) (.var 1) false 25), (61, Zs.ABlock.rows 2 Zs.shrSch (.var 3) (.var 4) false 25)] (at2 b1 b2) r) (us := [v, u, .int .i64 n]) rfl rfl (fun g id hg => Zs.law_globs hg) (Zs.law_rel (ab := [(60, Zs.ABlock.rows 2 Zs.shrSch (.var 0) (.var 1) false 25), (61, Zs.ABlock.rows 2 Zs.shrSch (.var 3) (.var 4) false 25)]) hL root50 rfl fun i blk hm => ?_) ?_
    · simp only [List.mem_cons, List.not_mem_nil, or_false, Prod.mk.injEq] at hm
      rcases hm with ⟨rfl, rfl⟩ | ⟨rfl, rfl⟩
      · exact list_brel h1 rfl rfl
      · exact list_brel h2 rfl rfl
    · have t1 := shrsArg_ins (σ := Zs.lawSig [(60, Zs.ABlock.rows 2 Zs.shrSch (.var 0) (.var 1) false 25), (61, Zs.ABlock.rows 2 Zs.shrSch (.var 3) (.var 4) false 25)] (at2 b1 b2) r) (i := 60) (v := 0) (b := b1) (κ := 0) (off := o1) (len := n1) (cap := c1) (l := l1) rfl rfl rfl rfl h1.len h1.le
      have t2 := shrsArg_ins (σ := Zs.lawSig [(60, Zs.ABlock.rows 2 Zs.shrSch (.var 0) (.var 1) false 25), (61, Zs.ABlock.rows 2 Zs.shrSch (.var 3) (.var 4) false 25)] (at2 b1 b2) r) (i := 61) (v := 3) (b := b2) (κ := 0) (off := o2) (len := n2) (cap := c2) (l := l2) rfl rfl rfl rfl h2.len h2.le
      rw [← h1.eq] at t1
      rw [← h2.eq] at t2
      exact .cons t1 (.cons t2 (.cons (int_ins rfl) .nil))
theorem mg_readable : ([22, 22, 3].all fun t => Tryz.prog.readableRec t && decide (t < Tryz.prog.types.size)) = true := by kernel_rfl
set_option maxRecDepth 100000 in
theorem mg_lifted (os : Os) (started : os.Started) (H : Type) (enc : TypeId × Value → H) :
    ReturnsInHanded {} Tryz.checked os 3 .any (fun w args => (Rows.awardMergesSpec.pre enc Tryz.prog Tryz.f3 [] false w args ∧ laidMetH Tryz.prog Rows.awardMergesRow.laid w) ∧ sizedMet enc Tryz.prog Tryz.f3 (OpenSpec.ofChange Rows.awardMergesSpec) false w args)
      (Rows.awardMergesSpec.post enc Tryz.prog Tryz.f3 false true false false) := by
  refine returns_shaped (C := Tryz.checked) (X := fun w _ => laidMetH Tryz.prog Rows.awardMergesRow.laid w) (fun _ _ _ hh h => h.of_heap hh) own started (by kernel_rfl) Tryz.func3
    (ChangeSpec.witness_shaped (enc := enc) (C := Tryz.checked) (os := os) (X := fun w _ => laidMetH Tryz.prog Rows.awardMergesRow.laid w) false (World.laidAll Tryz.prog os Rows.awardMergesRow.laid) #[.slice none 0 0, .slice none 0 0, .int .i64 0] 8 (World.laidAll_os _ _ _)
      (World.shaped_of_ZipB (by kernel_rfl) (by kernel_rfl)) (by kernel_rfl) (by kernel_rfl) (by kernel_rfl)
      (by rw [MakeChecks.laidMetH_plain _ _ _ (by kernel_rfl)]; exact laidMet_laidAll _ (by kernel_rfl) (by kernel_rfl))) ?_
  intro W base args ds gs before hval0 hW hshape hL
  have hval : ∀ (j : Nat) t v, Tryz.f3.params[j]? = some t → args[j]? = some v → Value.okWide Tryz.prog W .any base t v := hval0
  have hW' := hW
  obtain ⟨p, q, hA0, hV, rfl, _, _⟩ := hW
  have hA : DataW.TrodAll enc Tryz.prog W 0 (fun _ => true) true Tryz.f3.params.toList args.toList ds p := hA0
  rw [Tryz.params3] at hA hval
  have hAk := hA
  have hlt := DataW.TrodAll.lt hA
  obtain ⟨v0, v1, v2, d0, d1, d2, p0, p1, p2, rfl, rfl, rfl, h0, h1, h2⟩ := trodAll_three hA
  obtain ⟨rfl, rfl⟩ := trodVars_none hV
  obtain ⟨x, rfl, rfl, _, _⟩ := open_int (by kernel_rfl : Tryz.prog.underlying 3 = some (.int .i64)) (hval 2 3 v2 rfl rfl) h2
  have hl := laid_of hshape hL
  simp only [List.append_nil] at hW'
  refine (merges_any hl (list_in (hval 0 22 v0 rfl rfl) h0) (list_in (hval 1 22 v1 rfl rfl) h1) x).mono fun e W' ⟨he, hk⟩ => ?_
  subst he
  refine ⟨_, rfl, _, _, _, [], p0 ++ p1 ++ p2, [], hW', ?_, ?_, ?_, kept_but hk, fun h => by cases h⟩
  · exact trodAll_mk1 (shut_bool (by kernel_rfl : Tryz.prog.underlying 4 = some .bool) true)
  · exact trodAll_stays laidOut hk mg_readable hAk hlt
  · rfl
theorem awardMerges_said : Rows.AwardMergesSaid :=
  OpenClaim.holds_of_wide 3 Tryz.f3 rfl rfl rfl rfl rfl rfl rfl ⟨rfl, rfl, rfl, rfl, rfl⟩ rfl rfl rfl rfl rfl (by kernel_rfl) Tryz.func3 (by kernel_rfl)
    (of_decide_eq_true (by kernel_rfl)) (by unfold Func.isWrapper; first | (rw [if_pos (by decide +kernel)]; kernel_rfl) | (rw [if_neg (by decide +kernel)]; exact ⟨rfl, rfl⟩))
    (fun os started H enc _ => mg_lifted os started H enc)
end Go.Proofs.YtpdemfamfmeemacGreatDoor
