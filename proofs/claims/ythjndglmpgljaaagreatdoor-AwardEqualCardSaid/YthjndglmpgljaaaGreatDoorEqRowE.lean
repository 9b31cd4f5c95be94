/-
  The row of AwardEqual.
-/
import Derived.Test.YthjndglmpgljaaaGreatDoorEqRowS
import Derived.Test.YthjndglmpgljaaaGreatDoorEqLawE
import Derived.Carry
set_option linter.unusedSimpArgs false
set_option linter.unusedVariables false
namespace Go.Proofs.YthjndglmpgljaaaGreatDoor
open Go.ChangeShapes Go.WideShapes Go.ChangeAt Go.RowKit Go.ChangeMaps

theorem u35 : Tryz.prog.underlying 35 = some (.slice 3) := by kernel_rfl
theorem sch3 : Zs.schT Tryz.prog 6 3 = some Zs.whoSch := by kernel_rfl
theorem fit152 : sameLayout Tryz.prog Tryz.prog.depth 152 3 = false := by kernel_rfl
/-- What the type itself lies as: a row of ints in one of two fields. -/
theorem rowAt_int {P : Program} {fits : TypeId → Bool} {d k n : Nat} (h3 : P.underlying 3 = some (.int .i64)) (hc3 : P.cellsOf 3 = 1) (h : rowAt P fits d 3 1 k n = true) : n ≤ 1 := by
  cases d with
  | zero => cases h
  | succ d =>
    unfold rowAt at h
    simp only [hc3, h3, Nat.div_one, Nat.mod_one] at h
    simp at h
    omega
theorem rowAt_pair {P : Program} {fits : TypeId → Bool} {d e off n : Nat} (hfit : fits e = false) (hs : strT P e = some [(3, 0), (3, 1)]) (hc : P.cellsOf e = 2) (h3 : P.underlying 3 = some (.int .i64)) (hc3 : P.cellsOf 3 = 1) (h : rowAt P fits d e 1 off n = true) : off < 2 ∧ n ≤ 1 := by
  cases d with
  | zero => cases h
  | succ d =>
    unfold strT at hs
    split at hs
    · rename_i fs hu
      unfold rowAt at h
      simp only [hc, hu, hfit, Bool.and_false, Bool.false_or] at h
      rw [if_neg (by decide)] at h
      simp only [Bool.and_eq_true, decide_eq_true_eq, Array.any_eq_true] at h
      obtain ⟨h1, _, i, hi, ⟨_, h2⟩⟩ := h
      have ht : fs[i].type = 3 := by
        have hm : (fs[i].type, fs[i].offset) ∈ fs.toList.map fun f => (f.type, f.offset) := List.mem_map.2 ⟨fs[i], by simp, rfl⟩
        rw [Option.some.inj hs] at hm
        simp only [List.mem_cons, List.not_mem_nil, or_false, Prod.mk.injEq] at hm
        rcases hm with ⟨e, _⟩ | ⟨e, _⟩ <;> exact e
      rw [ht] at h2
      exact ⟨by omega, rowAt_int h3 hc3 h2⟩
    · cases hs
set_option maxRecDepth 100000 in
theorem in_var {n off cap : Nat} (hn : n = 2) (h8 : liesAt Tryz.prog Tryz.prog.depth 152 (n / Tryz.prog.cellsOf 152) off 3 cap = true) : off < 2 ∧ cap ≤ 1 := by
  subst hn
  rw [c152] at h8
  have key : ∀ D, liesAt Tryz.prog D 152 (2 / 2) off 3 cap = true → off < 2 ∧ cap ≤ 1 := by
    intro D h
    cases D with
    | zero => cases h
    | succ D =>
      unfold liesAt at h
      rw [u3] at h
      simp only [Bool.or_false] at h
      exact rowAt_pair (fits := fun t => sameLayout Tryz.prog Tryz.prog.depth t 3) (e := 152) fit152 s152 c152 u3 c3 (show rowAt _ _ _ _ 1 _ _ = true from h)
  exact key _ h8
/-- What a law takes over from its list. -/
structure ListIn (W : World) (v : Value) (b off len cap : Nat) (l : List Zs.Who) : Prop where
  eq : v = .slice (some ⟨b, off, none⟩) len cap
  le : len ≤ cap
  len : l.length = len
  obj : ∃ (pre rest : List Value) (t₀ : TypeId) (fr : Nat × Nat), pre.length = off ∧ W.heap[b]? = some (.cells (pre ++ ((l.map Zs.Who.row).flatten ++ rest)).toArray t₀ fr)
  away : ∀ j bj, (j, bj) ∈ Zs.hRoot → b ≠ j
  fit : ∀ r ∈ l.map Zs.Who.row, Zs.RowFits Zs.whoSch r
/-- A list that lies in one of the two fractions of package claim. -/
def InVar (v : Value) : Prop := ∃ b off len cap, v = .slice (some ⟨b, off, none⟩) len cap ∧ (b = 0 ∨ b = 1) ∧ (off = 0 ∨ off = 1) ∧ ((len = 0 ∧ cap = 0) ∨ (len = 0 ∧ cap = 1) ∨ (len = 1 ∧ cap = 1))
set_option maxRecDepth 100000 in
theorem list_in {H : Type} {enc : TypeId × Value → H} {W : World} (hL : Zs.LaidL Zs.hRoot W) {r : Reach} {b0 : Nat} {v : Value} {d : DataW H} {ps : List MemPlace} (hv : Value.okWide Tryz.prog W r b0 35 v) (h : DataW.Trod enc Tryz.prog W 0 (fun _ => true) true 35 v d ps) :
    v = .slice none 0 0 ∨ InVar v ∨ ∃ b off len cap l, ListIn W v b off len cap l := by
  rcases Zs.slice_in u35 sch3 (by rw [c3]; rfl) (by rw [c3]; omega) hv h with h0 | ⟨b, off, len, cap, rows, pre, rest, t₀, fr, h1, h2, h3, h4, h5, h6, h7, h8⟩
  · exact .inl h0
  · right
    by_cases hb : ∃ j bj, (j, bj) ∈ Zs.hRoot ∧ b = j
    · left
      obtain ⟨j, bj, hm, rfl⟩ := hb
      obtain ⟨q, t, vs, rfl, hvs, h9⟩ := hL b bj hm
      rw [h6] at h9
      have h9 := Option.some.inj h9
      injection h9 with e1 e2 e3
      have hlen : (pre ++ (rows.flatten ++ rest)).length = vs.length := by rw [List.toArray_inj e1]
      rw [root_is] at hm
      simp only [List.mem_cons, List.not_mem_nil, or_false, Prod.mk.injEq, Zs.ABlock.cells.injEq] at hm
      rcases hm with ⟨rfl, rfl, rfl⟩ | ⟨rfl, rfl, rfl⟩
      · have h10 : vs.length = 2 := by simp [Zs.instL, Zs.AV.inst] at hvs; rw [← hvs]; rfl
        obtain ⟨p1, p2⟩ := in_var (hlen.trans h10) (e2 ▸ h8)
        exact ⟨_, _, _, _, h1, .inl rfl, by omega, by omega⟩
      · have h10 : vs.length = 2 := by simp [Zs.instL, Zs.AV.inst] at hvs; rw [← hvs]; rfl
        obtain ⟨p1, p2⟩ := in_var (hlen.trans h10) (e2 ▸ h8)
        exact ⟨_, _, _, _, h1, .inr rfl, by omega, by omega⟩
    · right
      have hf : rows = (rows.map Zs.toWho).map Zs.Who.row := Zs.whos_of h7
      rw [hf] at h6 h7
      exact ⟨b, off, len, cap, rows.map Zs.toWho, h1, h2, by simpa using h4, ⟨pre, rest, t₀, fr, h5, h6⟩, fun j bj hm e => hb ⟨j, bj, hm, e⟩, h7⟩
theorem whosArg_ins {σ : Zs.Sig} {i v b κ off len cap : Nat} {l : List Zs.Who} (hs : σ i = some (b, κ)) (h0 : σ.rho.val v = some (.int .i64 (off : Int))) (h1 : σ.rho.val (v + 1) = some (Zs.whosR l)) (h2 : σ.rho.val (v + 2) = some (.int .i64 (cap : Int))) (hl : l.length = len) (hc : len ≤ cap) :
    (Zs.whosArg i v).av.inst σ = some (.slice (some ⟨b, off, none⟩) len cap) := by
  have := Zs.slx_inst (σ := σ) (w := 1) (base := .var v) (lo := .num 0) (len := .op1 .len (.var (v + 1))) (cap := .var (v + 2)) hs (Zs.X.nat_iff.2 ⟨.i64, h0⟩) (kl := 0) (Zs.X.nat_iff.2 ⟨.i64, rfl⟩) (kn := len) (Zs.X.nat_iff.2 ⟨.i64, by simp only [Zs.X.den, h1, Zs.whos_len, hl]⟩) (kc := cap) (Zs.X.nat_iff.2 ⟨.i64, h2⟩) hc
  simpa [Zs.whosArg, Zs.Arg.av] using this
set_option maxRecDepth 100000 in
/-- The blocks of a law whose one list is a list of ints. -/
theorem one_list {W : World} (hL : Zs.LaidL Zs.hRoot W) {v : Value} {b off len cap : Nat} {l : List Zs.Who} (h : ListIn W v b off len cap l) {r : Zs.Rho} (h0 : r.val 0 = some (.int .i64 (off : Int))) (h1 : r.val 1 = some (Zs.whosR l)) :
    (Zs.memOf (Zs.hRoot ++ [(60, Zs.ABlock.rows 1 Zs.whoSch (.var 0) (.var 1) false 3)]) 100).rel Tryz.prog (Zs.lawSig [(60, Zs.ABlock.rows 1 Zs.whoSch (.var 0) (.var 1) false 3)] (fun _ => b) r) W (fun b => W.heap.size ≤ b) := by
  obtain ⟨pre, rest, t₀, fr, h2, h3⟩ := h.obj
  refine Zs.law_rel hL root50 rfl (fun i blk hm => ?_) (fun i bi j bj hi hj _ => ?_) (fun i bi j bj _ hj => h.away j bj hj)
  · simp only [List.mem_singleton, Prod.mk.injEq] at hm
    obtain ⟨rfl, rfl⟩ := hm
    exact ⟨_, h3, Zs.rows_brel0 (σ := Zs.lawSig _ _ r) h1 (Zs.X.nat_iff.2 ⟨.i64, by rw [h2]; exact h0⟩) rfl (Nat.succ_pos 0) h.fit⟩
  · simp only [List.mem_singleton, Prod.mk.injEq] at hi hj
    rw [hi.1, hj.1]
def elVal (off cap : Nat) (l : List Zs.Who) (p : Int) : Nat → Option Value
  | 0 => some (.int .i64 (off : Int))
  | 1 => some (Zs.whosR l)
  | 2 => some (.int .i64 (cap : Int))
  | 3 => some (.int .i64 p)
  | _ => none
set_option maxRecDepth 100000 in
theorem equal_any {W : World} (hL : Zs.LaidL Zs.hRoot W) (p : Int) {v : Value} (hv : v = .slice none 0 0 ∨ InVar v ∨ ∃ b off len cap l, ListIn W v b off len cap l) :
    Calls Tryz.prog 9 #[.int .i64 p, v] W fun e w' => e = .returned (.bool true) ∧ Zs.Kept (fun b => W.heap.size ≤ b) W w' := by
  rcases hv with rfl | ⟨b, off, len, cap, rfl, rfl | rfl, rfl | rfl, ⟨rfl, rfl⟩ | ⟨rfl, rfl⟩ | ⟨rfl, rfl⟩⟩ | ⟨b, off, len, cap, l, h⟩
  · exact Zs.en_true (r := ⟨elVal 0 0 [] p, Zs.sy⟩) (σ := Zs.lawSig [] (fun _ => 0) ⟨elVal 0 0 [] p, Zs.sy⟩) (us := [.int .i64 p, .slice none 0 0]) rfl rfl (fun g id hg => Zs.law_globs hg) (no_list hL _) (.cons (v_int (k' := .i64) rfl) (.cons rfl .nil))
  · exact Zs.e0000_true (r := ⟨elVal 0 0 [] p, Zs.sy⟩) (σ := Zs.lawSig [] (fun _ => 0) ⟨elVal 0 0 [] p, Zs.sy⟩) (us := [.int .i64 p, .slice (some ⟨0, 0, none⟩) 0 0]) rfl rfl (fun g id hg => Zs.law_globs hg) (no_list hL _) (.cons (v_int (k' := .i64) rfl) (.cons rfl .nil))
  · exact Zs.e0001_true (r := ⟨elVal 0 0 [] p, Zs.sy⟩) (σ := Zs.lawSig [] (fun _ => 0) ⟨elVal 0 0 [] p, Zs.sy⟩) (us := [.int .i64 p, .slice (some ⟨0, 0, none⟩) 0 1]) rfl rfl (fun g id hg => Zs.law_globs hg) (no_list hL _) (.cons (v_int (k' := .i64) rfl) (.cons rfl .nil))
  · exact Zs.e0011_true (r := ⟨elVal 0 0 [] p, Zs.sy⟩) (σ := Zs.lawSig [] (fun _ => 0) ⟨elVal 0 0 [] p, Zs.sy⟩) (us := [.int .i64 p, .slice (some ⟨0, 0, none⟩) 1 1]) rfl rfl (fun g id hg => Zs.law_globs hg) (no_list hL _) (.cons (v_int (k' := .i64) rfl) (.cons rfl .nil))
  · exact Zs.e0100_true (r := ⟨elVal 0 0 [] p, Zs.sy⟩) (σ := Zs.lawSig [] (fun _ => 0) ⟨elVal 0 0 [] p, Zs.sy⟩) (us := [.int .i64 p, .slice (some ⟨0, 1, none⟩) 0 0]) rfl rfl (fun g id hg => Zs.law_globs hg) (no_list hL _) (.cons (v_int (k' := .i64) rfl) (.cons rfl .nil))
  · exact Zs.e0101_true (r := ⟨elVal 0 0 [] p, Zs.sy⟩) (σ := Zs.lawSig [] (fun _ => 0) ⟨elVal 0 0 [] p, Zs.sy⟩) (us := [.int .i64 p, .slice (some ⟨0, 1, none⟩) 0 1]) rfl rfl (fun g id hg => Zs.law_globs hg) (no_list hL _) (.cons (v_int (k' := .i64) rfl) (.cons rfl .nil))
  · exact Zs.e0111_true (r := ⟨elVal 0 0 [] p, Zs.sy⟩) (σ := Zs.lawSig [] (fun _ => 0) ⟨elVal 0 0 [] p, Zs.sy⟩) (us := [.int .i64 p, .slice (some ⟨0, 1, none⟩) 1 1]) rfl rfl (fun g id hg => Zs.law_globs hg) (no_list hL _) (.cons (v_int (k' := .i64) rfl) (.cons rfl .nil))
  · exact Zs.e1000_true (r := ⟨elVal 0 0 [] p, Zs.sy⟩) (σ := Zs.lawSig [] (fun _ => 0) ⟨elVal 0 0 [] p, Zs.sy⟩) (us := [.int .i64 p, .slice (some ⟨1, 0, none⟩) 0 0]) rfl rfl (fun g id hg => Zs.law_globs hg) (no_list hL _) (.cons (v_int (k' := .i64) rfl) (.cons rfl .nil))
  · exact Zs.e1001_true (r := ⟨elVal 0 0 [] p, Zs.sy⟩) (σ := Zs.lawSig [] (fun _ => 0) ⟨elVal 0 0 [] p, Zs.sy⟩) (us := [.int .i64 p, .slice (some ⟨1, 0, none⟩) 0 1]) rfl rfl (fun g id hg => Zs.law_globs hg) (no_list hL _) (.cons (v_int (k' := .i64) rfl) (.cons rfl .nil))
  · exact Zs.e1011_true (r := ⟨elVal 0 0 [] p, Zs.sy⟩) (σ := Zs.lawSig [] (fun _ => 0) ⟨elVal 0 0 [] p, Zs.sy⟩) (us := [.int .i64 p, .slice (some ⟨1, 0, none⟩) 1 1]) rfl rfl (fun g id hg => Zs.law_globs hg) (no_list hL _) (.cons (v_int (k' := .i64) rfl) (.cons rfl .nil))
  · exact Zs.e1100_true (r := ⟨elVal 0 0 [] p, Zs.sy⟩) (σ := Zs.lawSig [] (fun _ => 0) ⟨elVal 0 0 [] p, Zs.sy⟩) (us := [.int .i64 p, .slice (some ⟨1, 1, none⟩) 0 0]) rfl rfl (fun g id hg => Zs.law_globs hg) (no_list hL _) (.cons (v_int (k' := .i64) rfl) (.cons rfl .nil))
  · exact Zs.e1101_true (r := ⟨elVal 0 0 [] p, Zs.sy⟩) (σ := Zs.lawSig [] (fun _ => 0) ⟨elVal 0 0 [] p, Zs.sy⟩) (us := [.int .i64 p, .slice (some ⟨1, 1, none⟩) 0 1]) rfl rfl (fun g id hg => Zs.law_globs hg) (no_list hL _) (.cons (v_int (k' := .i64) rfl) (.cons rfl .nil))
  · exact Zs.e1111_true (r := ⟨elVal 0 0 [] p, Zs.sy⟩) (σ := Zs.lawSig [] (fun _ => 0) ⟨elVal 0 0 [] p, Zs.sy⟩) (us := [.int .i64 p, .slice (some ⟨1, 1, none⟩) 1 1]) rfl rfl (fun g id hg => Zs.law_globs hg) (no_list hL _) (.cons (v_int (k' := .i64) rfl) (.cons rfl .nil))
  · let r : Zs.Rho := ⟨elVal off cap l p, Zs.sy⟩
    refine Zs.el_true (r := r) (σ := Zs.lawSig [(60, Zs.ABlock.rows 1 Zs.whoSch (.var 0) (.var 1) false 3)] (fun _ => b) r) (us := [.int .i64 p, v]) rfl rfl (fun g id hg => Zs.law_globs hg) (one_list hL h rfl rfl) ?_
    have := whosArg_ins (σ := Zs.lawSig [(60, Zs.ABlock.rows 1 Zs.whoSch (.var 0) (.var 1) false 3)] (fun _ => b) r) (i := 60) (v := 0) (b := b) (κ := 0) (off := off) (len := len) (cap := cap) (l := l) rfl rfl rfl rfl h.len h.le
    rw [← h.eq] at this
    exact .cons (v_int (k' := .i64) rfl) (.cons this .nil)

theorem el_readable : ([3, 35].all fun t => Tryz.prog.readableRec t && decide (t < Tryz.prog.types.size)) = true := by kernel_rfl
set_option maxRecDepth 100000 in
theorem el_lifted (os : Os) (started : os.Started) (H : Type) (enc : TypeId × Value → H) :
    ReturnsInHanded {} Tryz.checked os 9 .any (fun w args => (Rows.awardEqualSpec.pre enc Tryz.prog Tryz.f9 [] false w args ∧ laidMetH Tryz.prog Rows.awardEqualRow.laid w) ∧ sizedMet enc Tryz.prog Tryz.f9 (OpenSpec.ofChange Rows.awardEqualSpec) false w args)
      (Rows.awardEqualSpec.post enc Tryz.prog Tryz.f9 false true false false) := by
  refine returns_shaped (C := Tryz.checked) (X := fun w _ => laidMetH Tryz.prog Rows.awardEqualRow.laid w) (fun _ _ _ hh h => h.of_heap hh) own started (by kernel_rfl) Tryz.func9
    (ChangeSpec.witness_shaped (enc := enc) (C := Tryz.checked) (os := os) (X := fun w _ => laidMetH Tryz.prog Rows.awardEqualRow.laid w) false (World.laidAll Tryz.prog os Rows.awardEqualRow.laid) #[.int .i64 0, .slice none 0 0] 8 (World.laidAll_os _ _ _)
      (World.shaped_of_ZipB (by kernel_rfl) (by kernel_rfl)) (by kernel_rfl) (by kernel_rfl) (by kernel_rfl)
      (by rw [MakeChecks.laidMetH_plain _ _ _ (by kernel_rfl)]; exact laidMet_laidAll _ (by kernel_rfl) (by kernel_rfl))) ?_
  intro W base args ds gs before hval0 hW hshape hL
  have hval : ∀ (j : Nat) t v, Tryz.f9.params[j]? = some t → args[j]? = some v → Value.okWide Tryz.prog W .any base t v := hval0
  have hW' := hW
  obtain ⟨p, q, hA0, hV, rfl, _, _⟩ := hW
  have hA : DataW.TrodAll enc Tryz.prog W 0 (fun _ => true) true Tryz.f9.params.toList args.toList ds p := hA0
  rw [Tryz.params9] at hA hval
  have hAk := hA
  have hlt := DataW.TrodAll.lt hA
  obtain ⟨v0, v1, d0, d1, p0, p1, rfl, rfl, rfl, h0, h1⟩ := trodAll_two hA
  obtain ⟨rfl, rfl⟩ := trodVars_none hV
  obtain ⟨n, rfl, rfl, _, _⟩ := open_int u3 (hval 0 3 v0 rfl rfl) h0
  have hl := laid_of hshape hL
  simp only [List.append_nil] at hW'
  refine (equal_any hl n (list_in hl (hval 1 35 v1 rfl rfl) h1)).mono fun e W' ⟨he, hk⟩ => ?_
  subst he
  refine ⟨_, rfl, _, _, _, [], p0 ++ p1, [], hW', ?_, ?_, ?_, kept_but hk, fun h => by cases h⟩
  · exact trodAll_mk1 (shut_bool (by kernel_rfl : Tryz.prog.underlying 4 = some .bool) true)
  · exact trodAll_stays laidOut hk el_readable hAk hlt
  · rfl

theorem awardEqual_said : Rows.AwardEqualSaid :=
  OpenClaim.holds_of_wide 9 Tryz.f9 rfl rfl rfl rfl rfl rfl rfl ⟨rfl, rfl, rfl, rfl, rfl⟩ rfl rfl rfl rfl rfl (by kernel_rfl) Tryz.func9 (by kernel_rfl)
    (of_decide_eq_true (by kernel_rfl)) (by unfold Func.isWrapper; first | (rw [if_pos (by decide +kernel)]; kernel_rfl) | (rw [if_neg (by decide +kernel)]; exact ⟨rfl, rfl⟩))
    (fun os started H enc _ => el_lifted os started H enc)
end Go.Proofs.YthjndglmpgljaaaGreatDoor
