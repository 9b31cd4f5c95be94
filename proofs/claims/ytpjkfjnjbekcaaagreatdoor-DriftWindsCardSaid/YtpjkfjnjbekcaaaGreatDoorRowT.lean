/-
  The row of DriftWinds.
-/
import Derived.Test.YtpjkfjnjbekcaaaGreatDoorRowS
import Derived.Test.YtpjkfjnjbekcaaaGreatDoorLawL
set_option linter.unusedSimpArgs false
set_option linter.unusedVariables false
namespace Go.Proofs.YtpjkfjnjbekcaaaGreatDoor
open Go.ChangeShapes Go.WideShapes Go.ChangeAt Go.RowKit Go.ChangeMaps

theorem same_at {W W' : World} (h : Zs.Kept (fun b => W.heap.size ≤ b) W W') {p : MemPlace} (hp : p.block < W.heap.size) : W.sameAt W' p := by
  cases p with
  | cell b off =>
    have e := h.same b (by simp only [MemPlace.block] at hp; omega)
    simp only [World.sameAt, World.cell?, e]
  | map b => exact h.same b (by simp only [MemPlace.block] at hp; omega)
section
variable {H : Type} {enc : TypeId × Value → H} {P : Program}
theorem trodAll_stays {W W' : World} (hl : laidOutB P = true) (hk : Zs.Kept (fun b => W.heap.size ≤ b) W W') : ∀ {ts : List TypeId} {vs : List Value} {ds : List (DataW H)} {ps : List MemPlace}, (ts.all fun t => P.readableRec t && decide (t < P.types.size)) = true →
    DataW.TrodAll enc P W 0 (fun _ => true) true ts vs ds ps → (∀ p ∈ ps, p.block < W.heap.size) → DataW.TrodAll enc P W' 0 (fun b => decide (b < W.heap.size)) true ts vs ds ps
  | [], [], [], _, _, h, _ => h
  | t :: ts, v :: vs, d :: ds, _, ht, ⟨p, q, h1, h2, e⟩, hs => by
    simp only [List.all_cons, Bool.and_eq_true, decide_eq_true_eq] at ht
    obtain ⟨⟨t1, t2⟩, t3⟩ := ht
    refine ⟨p, q, Go.WideElems.Trod_stays hl t1 t2 h1 (fun x hx => same_at hk (hs x (by rw [e]; exact List.mem_append_left _ hx))) (fun x hx => ?_), trodAll_stays hl hk t3 h2 (fun x hx => hs x (by rw [e]; exact List.mem_append_right _ hx)), e⟩
    simpa using hs x (by rw [e]; exact List.mem_append_left _ hx)
end

def val1 (off cap : Nat) (l : List Zs.Wind) (p : Zs.Wind) (known hour : Int) : Nat → Option Value
  | 0 => some (.int .i64 (off : Int))
  | 1 => some (Zs.windsR l)
  | 2 => some (.int .i64 (cap : Int))
  | 12 => some (.int .i64 known)
  | 13 => some (.int .i64 hour)
  | n + 3 => p.row[n]?
theorem val_row {off cap : Nat} {l : List Zs.Wind} {p : Zs.Wind} {known hour : Int} (j : Nat) (h : j < 9) : val1 off cap l p known hour (3 + j) = p.row[j]? := by
  rcases j with _ | _ | _ | _ | _ | _ | _ | _ | _ | j <;> first | rfl | omega
set_option maxRecDepth 100000 in
theorem winds_any {W : World} (hL : Zs.LaidL Zs.hRoot W) {v : Value} (hv : v = .slice none 0 0 ∨ ∃ b off len cap l, ListIn W v b off len cap l) (p : Zs.Wind) (known hour : Int) :
    Calls Tryz.prog 3 #[v, .agg p.row.toArray, .int .i64 known, .int .i64 hour] W fun e w' => e = .returned (.bool true) ∧ Zs.Kept (fun b => W.heap.size ≤ b) W w' := by
  rcases hv with rfl | ⟨b, off, len, cap, l, h⟩
  · let r : Zs.Rho := ⟨val1 0 0 [] p known hour, Zs.sy⟩
    refine Zs.wlNil_true (r := r) (σ := Zs.lawSig [] (fun _ => 0) r) (us := [.slice none 0 0, .agg p.row.toArray, .int .i64 known, .int .i64 hour]) rfl rfl (fun g id hg => Zs.law_globs hg) (no_list hL r) ?_
    exact .cons rfl (.cons (Zs.wind_ins val_row) (.cons (Zs.v_int (k' := .i64) rfl) (.cons (Zs.v_int (k' := .i64) rfl) .nil)))
  · let r : Zs.Rho := ⟨val1 off cap l p known hour, Zs.sy⟩
    refine Zs.wl_true (r := r) (σ := Zs.lawSig [(60, Zs.ABlock.rows 9 Zs.windSch (.var 0) (.var 1) false 26)] (fun _ => b) r) (us := [v, .agg p.row.toArray, .int .i64 known, .int .i64 hour]) rfl rfl (fun g id hg => Zs.law_globs hg) (one_list hL h rfl rfl) ?_
    have := Zs.windsArg_ins (σ := Zs.lawSig [(60, Zs.ABlock.rows 9 Zs.windSch (.var 0) (.var 1) false 26)] (fun _ => b) r) (i := 60) (v := 0) (b := b) (κ := 0) (off := off) (len := len) (cap := cap) (l := l) rfl rfl rfl rfl h.len h.le
    rw [← h.eq] at this
    exact .cons this (.cons (Zs.wind_ins val_row) (.cons (Zs.v_int (k' := .i64) rfl) (.cons (Zs.v_int (k' := .i64) rfl) .nil)))

theorem readable : ([22, 26, 3, 3].all fun t => Tryz.prog.readableRec t && decide (t < Tryz.prog.types.size)) = true := by kernel_rfl
theorem laidOut : laidOutB Tryz.prog = true := by kernel_rfl
def zeroWind : Value := .agg #[.int .i64 0, .int .i64 0, .int .i64 0, .int .i64 0, .int .i64 0, .int .i64 0, .int .i64 0, .int .i64 0, .int .i64 0]
set_option maxRecDepth 100000 in
theorem lifted (os : Os) (started : os.Started) (H : Type) (enc : TypeId × Value → H) :
    ReturnsInHanded {} Tryz.checked os 3 .any (fun w args => (Rows.driftWindsSpec.pre enc Tryz.prog Tryz.f3 [] false w args ∧ laidMetH Tryz.prog Rows.driftWindsRow.laid w) ∧ sizedMet enc Tryz.prog Tryz.f3 (OpenSpec.ofChange Rows.driftWindsSpec) false w args)
      (Rows.driftWindsSpec.post enc Tryz.prog Tryz.f3 false true false false) := by
  refine returns_shaped (C := Tryz.checked) (X := fun w _ => laidMetH Tryz.prog Rows.driftWindsRow.laid w) (fun _ _ _ hh h => h.of_heap hh) own started (by kernel_rfl) Tryz.func3
    (ChangeSpec.witness_shaped (enc := enc) (C := Tryz.checked) (os := os) (X := fun w _ => laidMetH Tryz.prog Rows.driftWindsRow.laid w) false (World.laidAll Tryz.prog os Rows.driftWindsRow.laid) #[.slice none 0 0, zeroWind, .int .i64 0, .int .i64 0] 8 (World.laidAll_os _ _ _)
      (World.shaped_of_ZipB (by kernel_rfl) (by kernel_rfl)) (by kernel_rfl) (by kernel_rfl) (by kernel_rfl)
      (by rw [MakeChecks.laidMetH_plain _ _ _ (by kernel_rfl)]; exact laidMet_laidAll _ (by kernel_rfl) (by kernel_rfl))) ?_
  intro W base args ds gs before hval0 hW hshape hL
  have hval : ∀ (j : Nat) t v, Tryz.f3.params[j]? = some t → args[j]? = some v → Value.okWide Tryz.prog W .any base t v := hval0
  have hW' := hW
  obtain ⟨p, q, hA0, hV, rfl, _, _⟩ := hW
  have hA : DataW.TrodAll enc Tryz.prog W 0 (fun _ => true) true Tryz.f3.params.toList args.toList ds p := hA0
  rw [Tryz.params3] at hA hval
  have hAk := hA
  have hlt := DataW.TrodAll.lt hA
  obtain ⟨v0, v1, v2, v3, d0, d1, d2, d3, p0, p1, p2, p3, rfl, rfl, rfl, h0, h1, h2, h3⟩ := trodAll_four hA
  obtain ⟨rfl, rfl⟩ := trodVars_none hV
  obtain ⟨x, rfl⟩ := wind_in (hval 1 26 v1 rfl rfl) h1
  obtain ⟨known, rfl, rfl, _, _⟩ := open_int (by kernel_rfl : Tryz.prog.underlying 3 = some (.int .i64)) (hval 2 3 v2 rfl rfl) h2
  obtain ⟨hour, rfl, rfl, _, _⟩ := open_int (by kernel_rfl : Tryz.prog.underlying 3 = some (.int .i64)) (hval 3 3 v3 rfl rfl) h3
  have hl := laid_of hshape hL
  simp only [List.append_nil] at hW'
  refine (winds_any hl (list_in (hval 0 22 v0 rfl rfl) h0) x known hour).mono fun e W' ⟨he, hk⟩ => ?_
  subst he
  refine ⟨_, rfl, _, _, _, [], p0 ++ p1 ++ p2 ++ p3, [], hW', ?_, ?_, ?_, kept_but hk, fun h => by cases h⟩
  · exact trodAll_mk1 (shut_bool (by kernel_rfl : Tryz.prog.underlying 4 = some .bool) true)
  · exact trodAll_stays laidOut hk readable hAk hlt
  · rfl

theorem driftWinds_said : Rows.DriftWindsSaid :=
  OpenClaim.holds_of_wide 3 Tryz.f3 rfl rfl rfl rfl rfl rfl rfl ⟨rfl, rfl, rfl, rfl, rfl⟩ rfl rfl rfl rfl rfl (by kernel_rfl) Tryz.func3 (by kernel_rfl)
    (of_decide_eq_true (by kernel_rfl)) (by unfold Func.isWrapper; first | (rw [if_pos (by decide +kernel)]; kernel_rfl) | (rw [if_neg (by decide +kernel)]; exact ⟨rfl, rfl⟩))
    (fun os started H enc _ => lifted os started H enc)
end Go.Proofs.YtpjkfjnjbekcaaaGreatDoor
