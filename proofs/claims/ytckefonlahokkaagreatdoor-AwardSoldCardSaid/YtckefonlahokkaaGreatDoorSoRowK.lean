/-
  The row of AwardSold.
-/
import Derived.Test.YtckefonlahokkaaGreatDoorSoRowS
import Derived.Test.YtckefonlahokkaaGreatDoorSoLawL
import Derived.Carry
set_option linter.unusedSimpArgs false
set_option linter.unusedVariables false
namespace Go.Proofs.YtckefonlahokkaaGreatDoor
open Go.ChangeShapes Go.WideShapes Go.ChangeAt Go.RowKit Go.ChangeMaps
theorem u22 : Tryz.prog.underlying 22 = some (.slice 27) := by kernel_rfl
theorem c27 : Tryz.prog.cellsOf 27 = 9 := by kernel_rfl
theorem sch27 : Zs.schT Tryz.prog 6 27 = some Zs.salSch := by kernel_rfl
structure ListIn (W : World) (v : Value) (b off len cap : Nat) (l : List Zs.Sal9) : Prop where
  eq : v = .slice (some ⟨b, off, none⟩) len cap
  le : len ≤ cap
  len : l.length = len
  obj : ∃ (pre rest : List Value) (t₀ : TypeId) (fr : Nat × Nat), pre.length = off ∧ W.heap[b]? = some (.cells (pre ++ ((l.map Zs.Sal9.row).flatten ++ rest)).toArray t₀ fr)
  fit : ∀ r ∈ l.map Zs.Sal9.row, Zs.RowFits Zs.salSch r
set_option maxRecDepth 100000 in
theorem list_in {H : Type} {enc : TypeId × Value → H} {W : World} {r : Reach} {b0 : Nat} {v : Value} {d : DataW H} {ps : List MemPlace} (hv : Value.okWide Tryz.prog W r b0 22 v) (h : DataW.Trod enc Tryz.prog W 0 (fun _ => true) true 22 v d ps) :
    v = .slice none 0 0 ∨ ∃ b off len cap l, ListIn W v b off len cap l := by
  rcases Zs.slice_in u22 sch27 (by rw [c27]; rfl) (by rw [c27]; omega) hv h with h0 | ⟨b, off, len, cap, rows, pre, rest, t₀, fr, h1, h2, h3, h4, h5, h6, h7, h8⟩
  · exact .inl h0
  · right
    have hf : rows = (rows.map Zs.toSal9).map Zs.Sal9.row := Zs.sals_of h7
    rw [hf] at h6 h7
    exact ⟨b, off, len, cap, rows.map Zs.toSal9, h1, h2, by simpa using h4, ⟨pre, rest, t₀, fr, h5, h6⟩, h7⟩
theorem salsArg_ins {σ : Zs.Sig} {i v b κ off len cap : Nat} {l : List Zs.Sal9} (hs : σ i = some (b, κ)) (h0 : σ.rho.val v = some (.int .i64 (off : Int))) (h1 : σ.rho.val (v + 1) = some (Zs.salsR l)) (h2 : σ.rho.val (v + 2) = some (.int .i64 (cap : Int))) (hl : l.length = len) (hc : len ≤ cap) :
    (Zs.salsArg i v).av.inst σ = some (.slice (some ⟨b, off, none⟩) len cap) := by
  have := Zs.slx_inst (σ := σ) (w := 9) (base := .var v) (lo := .num 0) (len := .op1 .len (.var (v + 1))) (cap := .var (v + 2)) hs (Zs.X.nat_iff.2 ⟨.i64, h0⟩) (kl := 0) (Zs.X.nat_iff.2 ⟨.i64, rfl⟩) (kn := len) (Zs.X.nat_iff.2 ⟨.i64, by simp only [Zs.X.den, h1, Zs.sals_len, hl]⟩) (kc := cap) (Zs.X.nat_iff.2 ⟨.i64, h2⟩) hc
  simpa [Zs.salsArg, Zs.Arg.av] using this
theorem list_brel {W : World} {v : Value} {b off len cap : Nat} {l : List Zs.Sal9} (h : ListIn W v b off len cap l) {σ : Zs.Sig} {k : Nat} (h0 : σ.rho.val k = some (.int .i64 (off : Int))) (h1 : σ.rho.val (k + 1) = some (Zs.salsR l)) :
    ∃ o, W.heap[b]? = some o ∧ Zs.BRel Tryz.prog σ 0 (Zs.ABlock.rows 9 Zs.salSch (.var k) (.var (k + 1)) false 27) o := by
  obtain ⟨pre, rest, t₀, fr, h2, h3⟩ := h.obj
  exact ⟨_, h3, Zs.rows_brel0 (σ := σ) h1 (Zs.X.nat_iff.2 ⟨.i64, by rw [h2]; exact h0⟩) rfl (Nat.succ_pos 8) h.fit⟩
def soVal (o1 c1 : Nat) (l1 : List Zs.Sal9) (a b : Int) : Nat → Option Value
  | 0 => some (.int .i64 (o1 : Int))
  | 1 => some (Zs.salsR l1)
  | 2 => some (.int .i64 (c1 : Int))
  | 4 => some (.int .i64 a)
  | 6 => some (.int .i64 b)
  | _ => none
theorem int_ins {σ : Zs.Sig} {v : Nat} {n : Int} (h : σ.rho.val v = some (.int .i64 n)) : (Zs.Arg.one (.int .i64 v)).av.inst σ = some (.int .i64 n) := v_int h
set_option maxRecDepth 100000 in
theorem sold_any {W : World} (hL : Zs.LaidL Zs.hRoot W) {v : Value} (hv : v = .slice none 0 0 ∨ ∃ b off len cap l, ListIn W v b off len cap l) (a b : Int) :
    Calls Tryz.prog 4 #[v, .int .i64 a, .int .i64 b] W fun e w' => e = .returned (.bool true) ∧ Zs.Kept (fun b => W.heap.size ≤ b) W w' := by
  rcases hv with rfl | ⟨b1, o1, n1, c1, l1, h1⟩
  · exact Zs.sn_true (ρ := ⟨soVal 0 0 [] a b, Zs.sy⟩) (σ := Zs.lawSig [] (fun _ => 0) ⟨soVal 0 0 [] a b, Zs.sy⟩) (us := [.slice none 0 0, .int .i64 a, .int .i64 b]) rfl rfl (fun g id hg => Zs.law_globs hg) (no_list hL _) (.cons rfl (.cons (int_ins rfl) (.cons (int_ins rfl) .nil)))
  · let r : Zs.Rho := ⟨soVal o1 c1 l1 a b, Zs.sy⟩
    refine Zs.so_true (ρ := r) (σ := Zs.lawSig [(60, Zs.ABlock.rows 9 Zs.salSch (.var 0) (.var 1) false 27)] (fun _ => b1) r) (us := [v, .int .i64 a, .int .i64 b]) rfl rfl (fun g id hg => Zs.law_globs hg) (Zs.law_rel (ab := [(60, Zs.ABlock.rows 9 Zs.salSch (.var 0) (.var 1) false 27)]) hL root50 rfl fun i blk hm => ?_) ?_
    · simp only [List.mem_singleton, Prod.mk.injEq] at hm
      obtain ⟨rfl, rfl⟩ := hm
      exact list_brel h1 rfl rfl
    · have := salsArg_ins (σ := Zs.lawSig [(60, Zs.ABlock.rows 9 Zs.salSch (.var 0) (.var 1) false 27)] (fun _ => b1) r) (i := 60) (v := 0) (b := b1) (κ := 0) (off := o1) (len := n1) (cap := c1) (l := l1) rfl rfl rfl rfl h1.len h1.le
      rw [← h1.eq] at this
      exact .cons this (.cons (int_ins rfl) (.cons (int_ins rfl) .nil))
theorem so_readable : ([22, 3, 3].all fun t => Tryz.prog.readableRec t && decide (t < Tryz.prog.types.size)) = true := by kernel_rfl
set_option maxRecDepth 100000 in
theorem so_lifted (os : Os) (started : os.Started) (H : Type) (enc : TypeId × Value → H) :
    ReturnsInHanded {} Tryz.checked os 4 .any (fun w args => (Rows.awardSoldSpec.pre enc Tryz.prog Tryz.f4 [] false w args ∧ laidMetH Tryz.prog Rows.awardSoldRow.laid w) ∧ sizedMet enc Tryz.prog Tryz.f4 (OpenSpec.ofChange Rows.awardSoldSpec) false w args)
      (Rows.awardSoldSpec.post enc Tryz.prog Tryz.f4 false true false false) := by
  refine returns_shaped (C := Tryz.checked) (X := fun w _ => laidMetH Tryz.prog Rows.awardSoldRow.laid w) (fun _ _ _ hh h => h.of_heap hh) own started (by kernel_rfl) Tryz.func4
    (ChangeSpec.witness_shaped (enc := enc) (C := Tryz.checked) (os := os) (X := fun w _ => laidMetH Tryz.prog Rows.awardSoldRow.laid w) false (World.laidAll Tryz.prog os Rows.awardSoldRow.laid) #[.slice none 0 0, .int .i64 0, .int .i64 0] 8 (World.laidAll_os _ _ _)
      (World.shaped_of_ZipB (by kernel_rfl) (by kernel_rfl)) (by kernel_rfl) (by kernel_rfl) (by kernel_rfl)
      (by rw [MakeChecks.laidMetH_plain _ _ _ (by kernel_rfl)]; exact laidMet_laidAll _ (by kernel_rfl) (by kernel_rfl))) ?_
  intro W base args ds gs before hval0 hW hshape hL
  have hval : ∀ (j : Nat) t v, Tryz.f4.params[j]? = some t → args[j]? = some v → Value.okWide Tryz.prog W .any base t v := hval0
  have hW' := hW
  obtain ⟨p, q, hA0, hV, rfl, _, _⟩ := hW
  have hA : DataW.TrodAll enc Tryz.prog W 0 (fun _ => true) true Tryz.f4.params.toList args.toList ds p := hA0
  rw [Tryz.params4] at hA hval
  have hAk := hA
  have hlt := DataW.TrodAll.lt hA
  obtain ⟨v0, v1, v2, d0, d1, d2, p0, p1, p2, rfl, rfl, rfl, h0, h1, h2⟩ := trodAll_three hA
  obtain ⟨rfl, rfl⟩ := trodVars_none hV
  obtain ⟨x, rfl, rfl, _, _⟩ := open_int (by kernel_rfl : Tryz.prog.underlying 3 = some (.int .i64)) (hval 1 3 v1 rfl rfl) h1
  obtain ⟨y, rfl, rfl, _, _⟩ := open_int (by kernel_rfl : Tryz.prog.underlying 3 = some (.int .i64)) (hval 2 3 v2 rfl rfl) h2
  have hl := laid_of hshape hL
  simp only [List.append_nil] at hW'
  refine (sold_any hl (list_in (hval 0 22 v0 rfl rfl) h0) x y).mono fun e W' ⟨he, hk⟩ => ?_
  subst he
  refine ⟨_, rfl, _, _, _, [], p0 ++ p1 ++ p2, [], hW', ?_, ?_, ?_, kept_but hk, fun h => by cases h⟩
  · exact trodAll_mk1 (shut_bool (by kernel_rfl : Tryz.prog.underlying 4 = some .bool) true)
  · exact trodAll_stays laidOut hk so_readable hAk hlt
  · rfl
theorem awardSold_said : Rows.AwardSoldSaid :=
  OpenClaim.holds_of_wide 4 Tryz.f4 rfl rfl rfl rfl rfl rfl rfl ⟨rfl, rfl, rfl, rfl, rfl⟩ rfl rfl rfl rfl rfl (by kernel_rfl) Tryz.func4 (by kernel_rfl)
    (of_decide_eq_true (by kernel_rfl)) (by unfold Func.isWrapper; first | (rw [if_pos (by decide +kernel)]; kernel_rfl) | (rw [if_neg (by decide +kernel)]; exact ⟨rfl, rfl⟩))
    (fun os started H enc _ => so_lifted os started H enc)
end Go.Proofs.YtckefonlahokkaaGreatDoor
