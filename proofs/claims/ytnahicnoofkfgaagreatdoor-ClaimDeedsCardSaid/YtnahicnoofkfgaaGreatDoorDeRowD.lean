/-
  The row of ClaimDeeds.
-/
import Derived.Test.YtnahicnoofkfgaaGreatDoorDeRowS
import Derived.Test.YtnahicnoofkfgaaGreatDoorDeLawD
import Derived.Carry
set_option linter.unusedSimpArgs false
set_option linter.unusedVariables false
namespace Go.Proofs.YtnahicnoofkfgaaGreatDoor
open Go.ChangeShapes Go.WideShapes Go.ChangeAt Go.RowKit Go.ChangeMaps

def isStr : Option TypeDesc → Bool
  | some (.struct _) => true
  | _ => false
theorem no_arrS {o : Option TypeDesc} (h : isStr o = true) (m : Nat) (u' : TypeId) : o ≠ some (.array m u') := fun e => by rw [e] at h; cases h
section
variable {H : Type} {enc : TypeId × Value → H} {P : Program} {W : World} {r : Reach} {b0 : Nat}
/-- A plain struct that came in. -/
theorem struct_in {t : TypeId} {d0 : Nat} {sch : List Zs.CK} (ht : isStr (P.underlying t) = true) (hs : Zs.schT P d0 t = some sch) {v : Value} {d : DataW H} {ps : List MemPlace} (hv : Value.okWide P W r b0 t v) (h : DataW.Trod enc P W 0 (fun _ => true) true t v d ps) :
    ∃ row, v = .agg (List.toArray row) ∧ Zs.RowFits sch row := by
  unfold Value.okWide at hv
  split at hv
  · rename_i fs hu
    obtain ⟨cs, rfl, _⟩ := hv
    obtain ⟨n, hn⟩ := h
    exact ⟨cs.toList, rfl, Zs.fits_of d0 t sch hs hn⟩
  · rename_i m e hu
    exact absurd hu (no_arrS ht _ _)
  · rename_i h1 h2
    unfold isStr at ht
    split at ht
    · rename_i fs hu; exact absurd hu (h1 fs)
    · cases ht
/-- A slice of plain structs that came in, and the package variables' blocks lie elsewhere. -/
theorem rows_in {t e : TypeId} {sch : List Zs.CK} {d0 : Nat} (ht : P.underlying t = some (.slice e)) (hst : isStr (P.underlying e) = true) (hs : Zs.schT P d0 e = some sch) (hc : P.cellsOf e = sch.length) (hc0 : 0 < sch.length) {away : List TypeId}
    (haway : (away.all fun a => Zs.noRow P (fun t => sameLayout P P.depth t e) P.depth a) = true) {v : Value} {d : DataW H} {ps : List MemPlace} (hv : Value.okWide P W r b0 t v) (h : DataW.Trod enc P W 0 (fun _ => true) true t v d ps) :
    v = .slice none 0 0 ∨ ∃ (b off len cap : Nat) (rows : List (List Value)) (pre rest : List Value) (t₀ : TypeId) (fr : Nat × Nat), v = .slice (some ⟨b, off, none⟩) len cap ∧ len ≤ cap ∧ (cap : Int) ≤ IntKind.i64.max ∧ rows.length = len ∧ pre.length = off ∧
      W.heap[b]? = some (.cells (pre ++ (rows.flatten ++ rest)).toArray t₀ fr) ∧ (∀ r ∈ rows, Zs.RowFits sch r) ∧ t₀ ∉ away := by
  rcases Zs.slice_in ht hs hc.symm (by rw [hc]; exact hc0) hv h with h0 | ⟨b, off, len, cap, rows, pre, rest, t₀, fr, h1, h2, h3, h4, h5, h6, h7, h8⟩
  · exact .inl h0
  · exact .inr ⟨b, off, len, cap, rows, pre, rest, t₀, fr, h1, h2, h3, h4, h5, h6, h7, fun hm => Zs.liesAt_no (no_arrS hst) (List.all_eq_true.1 haway t₀ hm) h8⟩
end
theorem u35 : Tryz.prog.underlying 35 = some (.slice 37) := by kernel_rfl
theorem str37 : isStr (Tryz.prog.underlying 37) = true := by kernel_rfl
theorem sch37 : Zs.schT Tryz.prog 6 37 = some Zs.deedSch := by kernel_rfl
theorem c37 : Tryz.prog.cellsOf 37 = Zs.deedSch.length := by kernel_rfl
theorem away37 : ([118, 80, 248].all fun a => Zs.noRow Tryz.prog (fun t => sameLayout Tryz.prog Tryz.prog.depth t 37) Tryz.prog.depth a) = true := by kernel_rfl
theorem root_types {i : Nat} {q : List Zs.AV} {t : TypeId} (h : (i, Zs.ABlock.cells q t) ∈ Zs.hRoot) : t ∈ [118, 80, 248] := by
  rw [root_is] at h
  simp only [List.mem_cons, List.not_mem_nil, or_false, Prod.mk.injEq, Zs.ABlock.cells.injEq] at h
  rcases h with ⟨_, _, rfl⟩ | ⟨_, _, rfl⟩ | ⟨_, _, rfl⟩ | ⟨_, _, rfl⟩ <;> simp
set_option maxRecDepth 100000 in
/-- A block of rows is none of the package variables. -/
theorem away_root {W : World} (hL : Zs.LaidL Zs.hRoot W) {b : Nat} {cs : Array Value} {t₀ : TypeId} {fr : Nat × Nat} (hb : W.heap[b]? = some (.cells cs t₀ fr)) (ha : t₀ ∉ [118, 80, 248]) : ∀ j bj, (j, bj) ∈ Zs.hRoot → b ≠ j := by
  rintro j bj hm rfl
  obtain ⟨q, t, vs, rfl, _, h3⟩ := hL b bj hm
  rw [hb] at h3
  have ht : t₀ = t := by
    have := Option.some.inj h3
    injection this
  exact ha (ht ▸ root_types hm)
/-- What a law takes over from its list. -/
structure ListIn (W : World) (v : Value) (b off len cap : Nat) (l : List Zs.Deed) : Prop where
  eq : v = .slice (some ⟨b, off, none⟩) len cap
  le : len ≤ cap
  len : l.length = len
  obj : ∃ (pre rest : List Value) (t₀ : TypeId) (fr : Nat × Nat), pre.length = off ∧ W.heap[b]? = some (.cells (pre ++ ((l.map Zs.Deed.row).flatten ++ rest)).toArray t₀ fr) ∧ t₀ ∉ [118, 80, 248]
  fit : ∀ r ∈ l.map Zs.Deed.row, Zs.RowFits Zs.deedSch r
set_option maxRecDepth 100000 in
theorem list_in {H : Type} {enc : TypeId × Value → H} {W : World} {r : Reach} {b0 : Nat} {v : Value} {d : DataW H} {ps : List MemPlace} (hv : Value.okWide Tryz.prog W r b0 35 v) (h : DataW.Trod enc Tryz.prog W 0 (fun _ => true) true 35 v d ps) :
    v = .slice none 0 0 ∨ ∃ b off len cap l, ListIn W v b off len cap l := by
  rcases rows_in u35 str37 sch37 c37 (Nat.succ_pos 10) away37 hv h with h0 | ⟨b, off, len, cap, rows, pre, rest, t₀, fr, h1, h2, h3, h4, h5, h6, h7, h8⟩
  · exact .inl h0
  · have hf : rows = (rows.map Zs.toDeed).map Zs.Deed.row := Zs.deeds_of h7
    rw [hf] at h6 h7
    exact .inr ⟨b, off, len, cap, rows.map Zs.toDeed, h1, h2, by simpa using h4, ⟨pre, rest, t₀, fr, h5, h6, h8⟩, h7⟩
set_option maxRecDepth 100000 in
theorem deed_in {H : Type} {enc : TypeId × Value → H} {W : World} {r : Reach} {b0 : Nat} {v : Value} {d : DataW H} {ps : List MemPlace} (hv : Value.okWide Tryz.prog W r b0 37 v) (h : DataW.Trod enc Tryz.prog W 0 (fun _ => true) true 37 v d ps) :
    ∃ p : Zs.Deed, v = .agg p.row.toArray := by
  obtain ⟨row, h1, h2⟩ := struct_in str37 sch37 hv h
  exact ⟨Zs.toDeed row, by rw [h1, ← Zs.deed_row h2]⟩
theorem deed_ins {σ : Zs.Sig} {v : Nat} {p : Zs.Deed} (h : ∀ j, j < 11 → σ.rho.val (v + j) = p.row[j]?) : (Zs.Arg.agg (Zs.deedLeaves v)).av.inst σ = some (.agg p.row.toArray) := by
  have h0 := h 0 (by omega); have h1 := h 1 (by omega); have h2 := h 2 (by omega); have h3 := h 3 (by omega); have h4 := h 4 (by omega); have h5 := h 5 (by omega); have h6 := h 6 (by omega); have h7 := h 7 (by omega); have h8 := h 8 (by omega); have h9 := h 9 (by omega); have h10 := h 10 (by omega)
  rw [Zs.deed0] at h0; rw [Zs.deed1] at h1; rw [Zs.deed2] at h2; rw [Zs.deed3] at h3; rw [Zs.deed4] at h4; rw [Zs.deed5] at h5; rw [Zs.deed6] at h6; rw [Zs.deed7] at h7; rw [Zs.deed8] at h8; rw [Zs.deed9] at h9; rw [Zs.deed10] at h10
  have hi : Zs.Ins σ ((Zs.deedLeaves v).map Zs.Leaf.av) p.row :=
    .cons (v_int h0) (.cons (v_int h1) (.cons (v_int h2) (.cons (v_int h3) (.cons (v_int h4) (.cons (v_int h5) (.cons (v_int h6) (.cons (v_int h7) (.cons (v_int h8) (.cons (v_int h9) (.cons (v_int h10) .nil))))))))))
  simp only [Zs.Arg.av, Zs.AV.inst, Zs.instL_iff.2 hi]
theorem deedsArg_ins {σ : Zs.Sig} {i v b κ off len cap : Nat} {l : List Zs.Deed} (hs : σ i = some (b, κ)) (h0 : σ.rho.val v = some (.int .i64 (off : Int))) (h1 : σ.rho.val (v + 1) = some (Zs.deedsR l)) (h2 : σ.rho.val (v + 2) = some (.int .i64 (cap : Int))) (hl : l.length = len) (hc : len ≤ cap) :
    (Zs.deedsArg i v).av.inst σ = some (.slice (some ⟨b, off, none⟩) len cap) := by
  have := Zs.slx_inst (σ := σ) (w := 11) (base := .var v) (lo := .num 0) (len := .op1 .len (.var (v + 1))) (cap := .var (v + 2)) hs (Zs.X.nat_iff.2 ⟨.i64, h0⟩) (kl := 0) (Zs.X.nat_iff.2 ⟨.i64, rfl⟩) (kn := len) (Zs.X.nat_iff.2 ⟨.i64, by simp only [Zs.X.den, h1, Zs.deeds_len, hl]⟩) (kc := cap) (Zs.X.nat_iff.2 ⟨.i64, h2⟩) hc
  simpa [Zs.deedsArg, Zs.Arg.av] using this
set_option maxRecDepth 100000 in
/-- The blocks of a law whose one list is a list of deeds. -/
theorem one_list {W : World} (hL : Zs.LaidL Zs.hRoot W) {v : Value} {b off len cap : Nat} {l : List Zs.Deed} (h : ListIn W v b off len cap l) {r : Zs.Rho} (h0 : r.val 0 = some (.int .i64 (off : Int))) (h1 : r.val 1 = some (Zs.deedsR l)) :
    (Zs.memOf (Zs.hRoot ++ [(60, Zs.ABlock.rows 11 Zs.deedSch (.var 0) (.var 1) false 37)]) 100).rel Tryz.prog (Zs.lawSig [(60, Zs.ABlock.rows 11 Zs.deedSch (.var 0) (.var 1) false 37)] (fun _ => b) r) W (fun b => W.heap.size ≤ b) := by
  obtain ⟨pre, rest, t₀, fr, h2, h3, h4⟩ := h.obj
  refine Zs.law_rel hL root50 rfl (fun i blk hm => ?_) (fun i bi j bj hi hj _ => ?_) (fun i bi j bj _ hj => away_root hL h3 h4 j bj hj)
  · simp only [List.mem_singleton, Prod.mk.injEq] at hm
    obtain ⟨rfl, rfl⟩ := hm
    exact ⟨_, h3, Zs.rows_brel0 (σ := Zs.lawSig _ _ r) h1 (Zs.X.nat_iff.2 ⟨.i64, by rw [h2]; exact h0⟩) rfl (Nat.succ_pos 10) h.fit⟩
  · simp only [List.mem_singleton, Prod.mk.injEq] at hi hj
    rw [hi.1, hj.1]
def dlVal (off cap : Nat) (l : List Zs.Deed) (p : Zs.Deed) : Nat → Option Value
  | 0 => some (.int .i64 (off : Int))
  | 1 => some (Zs.deedsR l)
  | 2 => some (.int .i64 (cap : Int))
  | n + 3 => p.row[n]?
theorem dl_row {off cap : Nat} {l : List Zs.Deed} {p : Zs.Deed} (j : Nat) (h : j < 11) : dlVal off cap l p (3 + j) = p.row[j]? := by
  rcases j with _ | _ | _ | _ | _ | _ | _ | _ | _ | _ | _ | j <;> first | rfl | omega
set_option maxRecDepth 100000 in
theorem deeds_any {W : World} (hL : Zs.LaidL Zs.hRoot W) {v : Value} (hv : v = .slice none 0 0 ∨ ∃ b off len cap l, ListIn W v b off len cap l) (p : Zs.Deed) :
    Calls Tryz.prog 5 #[v, .agg p.row.toArray] W fun e w' => e = .returned (.bool true) ∧ Zs.Kept (fun b => W.heap.size ≤ b) W w' := by
  rcases hv with rfl | ⟨b, off, len, cap, l, h⟩
  · let r : Zs.Rho := ⟨dlVal 0 0 [] p, Zs.sy⟩
    refine Zs.dlNil_true (r := r) (σ := Zs.lawSig [] (fun _ => 0) r) (us := [.slice none 0 0, .agg p.row.toArray]) rfl rfl (fun g id hg => Zs.law_globs hg) (no_list hL r) ?_
    exact .cons rfl (.cons (deed_ins dl_row) .nil)
  · let r : Zs.Rho := ⟨dlVal off cap l p, Zs.sy⟩
    refine Zs.dl_true (r := r) (σ := Zs.lawSig [(60, Zs.ABlock.rows 11 Zs.deedSch (.var 0) (.var 1) false 37)] (fun _ => b) r) (us := [v, .agg p.row.toArray]) rfl rfl (fun g id hg => Zs.law_globs hg) (one_list hL h rfl rfl) ?_
    have := deedsArg_ins (σ := Zs.lawSig [(60, Zs.ABlock.rows 11 Zs.deedSch (.var 0) (.var 1) false 37)] (fun _ => b) r) (i := 60) (v := 0) (b := b) (κ := 0) (off := off) (len := len) (cap := cap) (l := l) rfl rfl rfl rfl h.len h.le
    rw [← h.eq] at this
    exact .cons this (.cons (deed_ins dl_row) .nil)
def zeroDeed : Value := .agg #[.int .i64 0, .int .i64 0, .int .i64 0, .int .u8 0, .int .i64 0, .int .i64 0, .int .i64 0, .int .i64 0, .int .i64 0, .int .i64 0, .int .i64 0]

theorem dl_readable : ([35, 37].all fun t => Tryz.prog.readableRec t && decide (t < Tryz.prog.types.size)) = true := by kernel_rfl
set_option maxRecDepth 100000 in
theorem dl_lifted (os : Os) (started : os.Started) (H : Type) (enc : TypeId × Value → H) :
    ReturnsInHanded {} Tryz.checked os 5 .any (fun w args => (Rows.claimDeedsSpec.pre enc Tryz.prog Tryz.f5 [] false w args ∧ laidMetH Tryz.prog Rows.claimDeedsRow.laid w) ∧ sizedMet enc Tryz.prog Tryz.f5 (OpenSpec.ofChange Rows.claimDeedsSpec) false w args)
      (Rows.claimDeedsSpec.post enc Tryz.prog Tryz.f5 false true false false) := by
  refine returns_shaped (C := Tryz.checked) (X := fun w _ => laidMetH Tryz.prog Rows.claimDeedsRow.laid w) (fun _ _ _ hh h => h.of_heap hh) own started (by kernel_rfl) Tryz.func5
    (ChangeSpec.witness_shaped (enc := enc) (C := Tryz.checked) (os := os) (X := fun w _ => laidMetH Tryz.prog Rows.claimDeedsRow.laid w) false (World.laidAll Tryz.prog os Rows.claimDeedsRow.laid) #[.slice none 0 0, zeroDeed] 8 (World.laidAll_os _ _ _)
      (World.shaped_of_ZipB (by kernel_rfl) (by kernel_rfl)) (by kernel_rfl) (by kernel_rfl) (by kernel_rfl)
      (by rw [MakeChecks.laidMetH_plain _ _ _ (by kernel_rfl)]; exact laidMet_laidAll _ (by kernel_rfl) (by kernel_rfl))) ?_
  intro W base args ds gs before hval0 hW hshape hL
  have hval : ∀ (j : Nat) t v, Tryz.f5.params[j]? = some t → args[j]? = some v → Value.okWide Tryz.prog W .any base t v := hval0
  have hW' := hW
  obtain ⟨p, q, hA0, hV, rfl, _, _⟩ := hW
  have hA : DataW.TrodAll enc Tryz.prog W 0 (fun _ => true) true Tryz.f5.params.toList args.toList ds p := hA0
  rw [Tryz.params5] at hA hval
  have hAk := hA
  have hlt := DataW.TrodAll.lt hA
  obtain ⟨v0, v1, d0, d1, p0, p1, rfl, rfl, rfl, h0, h1⟩ := trodAll_two hA
  obtain ⟨rfl, rfl⟩ := trodVars_none hV
  obtain ⟨x, rfl⟩ := deed_in (hval 1 37 v1 rfl rfl) h1
  have hl := laid_of hshape hL
  simp only [List.append_nil] at hW'
  refine (deeds_any hl (list_in (hval 0 35 v0 rfl rfl) h0) x).mono fun e W' ⟨he, hk⟩ => ?_
  subst he
  refine ⟨_, rfl, _, _, _, [], p0 ++ p1, [], hW', ?_, ?_, ?_, kept_but hk, fun h => by cases h⟩
  · exact trodAll_mk1 (shut_bool (by kernel_rfl : Tryz.prog.underlying 4 = some .bool) true)
  · exact trodAll_stays laidOut hk dl_readable hAk hlt
  · rfl

theorem claimDeeds_said : Rows.ClaimDeedsSaid :=
  OpenClaim.holds_of_wide 5 Tryz.f5 rfl rfl rfl rfl rfl rfl rfl ⟨rfl, rfl, rfl, rfl, rfl⟩ rfl rfl rfl rfl rfl (by kernel_rfl) Tryz.func5 (by kernel_rfl)
    (of_decide_eq_true (by kernel_rfl)) (by unfold Func.isWrapper; first | (rw [if_pos (by decide +kernel)]; kernel_rfl) | (rw [if_neg (by decide +kernel)]; exact ⟨rfl, rfl⟩))
    (fun os started H enc _ => dl_lifted os started H enc)
end Go.Proofs.YtnahicnoofkfgaaGreatDoor
