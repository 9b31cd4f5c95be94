/-
  The row of a law over the papers of a file: what all of them share.
-/
import Derived.Test.YtpjkfjnjbekcaaaGreatDoorRowR
import Derived.Test.YtpjkfjnjbekcaaaGreatDoorRowP
import Derived.Test.YtpjkfjnjbekcaaaGreatDoorRows
import Derived.ProofKit
import Derived.OpenShut
import Derived.LaidMore
import Derived.Lay
import Derived.SevenTiedAt
import Derived.Stop.Joined
import Derived.WideKeyArgs
import Derived.ReadAgain
set_option linter.unusedSimpArgs false
set_option linter.unusedVariables false
namespace Go.Proofs.YtpjkfjnjbekcaaaGreatDoor
open Go.ChangeShapes Go.WideShapes Go.ChangeAt Go.RowKit Go.ChangeMaps

section
variable {H : Type} {enc : TypeId × Value → H}
/-- A law whose proof is given the shape of the package variables' blocks. -/
theorem returns_shaped {a : Assume} {C : Checked} {os : Os} {f : FuncId} {fn : Func} {s : ChangeSpec} {conds : List PathCond} {apart fresh handsOn again : Bool} {X : World → Array Value → Prop}
    (hX : ∀ (w w' : World) (args : Array Value), w.heap = w'.heap → X w args → X w' args)
    (own : ownKnob C.prog.godebug = none) (started : os.Started) (noInit : C.prog.inits.idxOf? f = none) (hfn : C.prog.funcs[f]? = some fn)
    (witness : ∃ (w : World) (tape : Tape) (i : Input), w.os = os ∧ (w.forCall tape i).Shaped C.prog ∧ i.vars = [] ∧ Input.okWide C.prog (w.forCall tape i) .any w.heap.size f i ∧
      ((s.pre enc C.prog fn conds apart (w.forCall tape i).memory i.args ∧ X (w.forCall tape i).memory i.args) ∧ sizedMet enc C.prog fn (OpenSpec.ofChange s) apart (w.forCall tape i).memory i.args) ∧ a.holds C.prog (lone (Frame.enter C.prog f i.args .normal) [] (w.forCall tape i)))
    (contract : ∀ (W : World) (base : Nat) (args : Array Value) (ds gs : List (DataW H)) (before : List MemPlace),
      (∀ (j : Nat) t v, fn.params[j]? = some t → args[j]? = some v → Value.okWide C.prog W .any base t v) →
      DataW.Whole enc C.prog fn.params.toList s.vars apart W args.toList ds gs before → W.ShapedOpen C.prog → X W args →
      Calls C.prog f args W fun e W' => ∃ v, e = .returned v ∧ s.post enc C.prog fn apart fresh handsOn again W args v W') :
    ReturnsInHanded a C os f .any (fun w args => (s.pre enc C.prog fn conds apart w args ∧ X w args) ∧ sizedMet enc C.prog fn (OpenSpec.ofChange s) apart w args) (s.post enc C.prog fn apart fresh handsOn again) := by
  refine returnsInHanded_of_calls own started noInit witness ?_
  intro w tape i _ hshape _ hok hpre _
  obtain ⟨_, _, _, fn', hfn', _, _, _, _, hval⟩ := hok
  obtain rfl : fn' = fn := Option.some.inj (hfn'.symm.trans hfn)
  obtain ⟨⟨⟨ds, gs, before, hw, _⟩, hx⟩, _⟩ := hpre
  have hw' := DataW.Whole.of_heap (w' := w.forCall tape i) (by rfl) hw
  refine (contract (w.forCall tape i) w.heap.size i.args ds gs before hval hw' hshape (hX _ _ _ (by rfl) hx)).mono fun e W' ⟨v, he, hp⟩ => ?_
  subst he
  exact ChangeSpec.post_blind hp
end

theorem kept_but {w w' : World} {may : MemPlace → Prop} (h : Zs.Kept (fun b => w.heap.size ≤ b) w w') : w.keptBut w' may := by
  refine ⟨h.out.1, h.out.2, fun i hi => ?_⟩
  rw [h.same i (by omega)]
  generalize w.heap[i]? = x
  cases x with
  | none => rfl
  | some o => cases o <;> first | exact ⟨rfl, rfl, rfl, fun _ _ => rfl⟩ | exact .inr ⟨rfl, rfl⟩ | rfl

theorem own : ownKnob Tryz.prog.godebug = none := by kernel_rfl
theorem root50 : (Zs.hRoot.all fun p => Nat.blt p.1 50) = true := by kernel_rfl
theorem root_types {i : Nat} {q : List Zs.AV} {t : TypeId} (h : (i, Zs.ABlock.cells q t) ∈ Zs.hRoot) : t ∈ [219] := by
  rw [root_is] at h
  simp only [List.mem_cons, List.not_mem_nil, or_false, Prod.mk.injEq, Zs.ABlock.cells.injEq] at h
  obtain ⟨_, _, rfl⟩ := h
  simp
set_option maxRecDepth 100000 in
/-- A block of rows is none of the package variables. -/
theorem away_root {W : World} (hL : Zs.LaidL Zs.hRoot W) {b : Nat} {cs : Array Value} {t₀ : TypeId} {fr : Nat × Nat} (hb : W.heap[b]? = some (.cells cs t₀ fr)) (ha : t₀ ∉ [219]) : ∀ j bj, (j, bj) ∈ Zs.hRoot → b ≠ j := by
  rintro j bj hm rfl
  obtain ⟨q, t, vs, rfl, _, h3⟩ := hL b bj hm
  rw [hb] at h3
  have ht : t₀ = t := by
    have := Option.some.inj h3
    injection this
  exact ha (ht ▸ root_types hm)
/-- What a law takes over from its list. -/
structure ListIn (W : World) (v : Value) (b off len cap : Nat) (l : List Zs.Wind) : Prop where
  eq : v = .slice (some ⟨b, off, none⟩) len cap
  le : len ≤ cap
  len : l.length = len
  obj : ∃ (pre rest : List Value) (t₀ : TypeId) (fr : Nat × Nat), pre.length = off ∧ W.heap[b]? = some (.cells (pre ++ ((l.map Zs.Wind.row).flatten ++ rest)).toArray t₀ fr) ∧ t₀ ∉ [219]
  fit : ∀ r ∈ l.map Zs.Wind.row, Zs.RowFits Zs.windSch r
set_option maxRecDepth 100000 in
theorem list_in {H : Type} {enc : TypeId × Value → H} {W : World} {r : Reach} {b0 : Nat} {v : Value} {d : DataW H} {ps : List MemPlace} (hv : Value.okWide Tryz.prog W r b0 22 v) (h : DataW.Trod enc Tryz.prog W 0 (fun _ => true) true 22 v d ps) :
    v = .slice none 0 0 ∨ ∃ b off len cap l, ListIn W v b off len cap l := by
  rcases Zs.rows_in Zs.u22 Zs.str26 Zs.sch26 Zs.c26 (Nat.succ_pos 8) Zs.away26 hv h with h0 | ⟨b, off, len, cap, rows, pre, rest, t₀, fr, h1, h2, h3, h4, h5, h6, h7, h8⟩
  · exact .inl h0
  · obtain ⟨l, rfl⟩ := Zs.windsL_of h7
    exact .inr ⟨b, off, len, cap, l, h1, h2, by simpa using h4, ⟨pre, rest, t₀, fr, h5, h6, h8⟩, h7⟩
set_option maxRecDepth 100000 in
theorem wind_in {H : Type} {enc : TypeId × Value → H} {W : World} {r : Reach} {b0 : Nat} {v : Value} {d : DataW H} {ps : List MemPlace} (hv : Value.okWide Tryz.prog W r b0 26 v) (h : DataW.Trod enc Tryz.prog W 0 (fun _ => true) true 26 v d ps) :
    ∃ p : Zs.Wind, v = .agg p.row.toArray := by
  obtain ⟨row, h1, h2⟩ := Zs.struct_in Zs.str26 Zs.sch26 hv h
  obtain ⟨p, rfl⟩ := Zs.windL_of h2
  exact ⟨p, h1⟩
set_option maxRecDepth 100000 in
/-- The blocks of a law whose one list is a list of papers. -/
theorem one_list {W : World} (hL : Zs.LaidL Zs.hRoot W) {v : Value} {b off len cap : Nat} {l : List Zs.Wind} (h : ListIn W v b off len cap l) {r : Zs.Rho} (h0 : r.val 0 = some (.int .i64 (off : Int))) (h1 : r.val 1 = some (Zs.windsR l)) :
    (Zs.memOf (Zs.hRoot ++ [(60, Zs.ABlock.rows 9 Zs.windSch (.var 0) (.var 1) false 26)]) 100).rel Tryz.prog (Zs.lawSig [(60, Zs.ABlock.rows 9 Zs.windSch (.var 0) (.var 1) false 26)] (fun _ => b) r) W (fun b => W.heap.size ≤ b) := by
  obtain ⟨pre, rest, t₀, fr, h2, h3, h4⟩ := h.obj
  refine Zs.law_rel hL root50 rfl (fun i blk hm => ?_) (fun i bi j bj hi hj _ => ?_) (fun i bi j bj _ hj => away_root hL h3 h4 j bj hj)
  · simp only [List.mem_singleton, Prod.mk.injEq] at hm
    obtain ⟨rfl, rfl⟩ := hm
    exact ⟨_, h3, Zs.rows_brel0 (σ := Zs.lawSig _ _ r) h1 (Zs.X.nat_iff.2 ⟨.i64, by rw [h2]; exact h0⟩) rfl (Nat.succ_pos 8) h.fit⟩
  · simp only [List.mem_singleton, Prod.mk.injEq] at hi hj
    rw [hi.1, hj.1]
set_option maxRecDepth 100000 in
theorem no_list {W : World} (hL : Zs.LaidL Zs.hRoot W) (r : Zs.Rho) : (Zs.memOf (Zs.hRoot ++ []) 100).rel Tryz.prog (Zs.lawSig [] (fun _ => 0) r) W (fun b => W.heap.size ≤ b) :=
  Zs.law_rel hL root50 rfl (fun i blk hm => by cases hm) (fun i bi j bj hi => by cases hi) (fun i bi j bj hi => by cases hi)
end Go.Proofs.YtpjkfjnjbekcaaaGreatDoor
