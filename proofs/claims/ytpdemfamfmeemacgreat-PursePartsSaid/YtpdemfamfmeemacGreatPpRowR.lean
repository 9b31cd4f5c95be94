/-
  Lists of postings, and postings, as they come in to a law.
-/
import Derived.Test.YtpdemfamfmeemacGreatPpRowS
import Derived.Carry
set_option linter.unusedSimpArgs false
set_option linter.unusedVariables false
namespace Go.Proofs.YtpdemfamfmeemacGreat
open Go.ChangeShapes Go.WideShapes Go.ChangeAt Go.RowKit Go.ChangeMaps
section
variable {H : Type} {enc : TypeId × Value → H} {P : Program} {W : World} {r : Reach} {b0 : Nat}
end
theorem uPl : Tryz.prog.underlying 22 = some (.slice 36) := by kernel_rfl
theorem schP : Zs.schT Tryz.prog 6 36 = some Zs.ptgSch := by kernel_rfl
theorem cP : Tryz.prog.cellsOf 36 = 8 := by kernel_rfl
structure ListIn (W : World) (v : Value) (b off len cap : Nat) (l : List Zs.Ptg) : Prop where
  eq : v = .slice (some ⟨b, off, none⟩) len cap
  le : len ≤ cap
  len : l.length = len
  obj : ∃ (pre rest : List Value) (t₀ : TypeId) (fr : Nat × Nat), pre.length = off ∧ W.heap[b]? = some (.cells (pre ++ ((l.map Zs.Ptg.row).flatten ++ rest)).toArray t₀ fr)
  fit : ∀ r ∈ l.map Zs.Ptg.row, Zs.RowFits Zs.ptgSch r
set_option maxRecDepth 100000 in
theorem list_in {H : Type} {enc : TypeId × Value → H} {W : World} {r : Reach} {b0 : Nat} {v : Value} {d : DataW H} {ps : List MemPlace} (hv : Value.okWide Tryz.prog W r b0 22 v) (h : DataW.Trod enc Tryz.prog W 0 (fun _ => true) true 22 v d ps) :
    v = .slice none 0 0 ∨ ∃ b off len cap l, ListIn W v b off len cap l := by
  rcases Zs.slice_in uPl schP (by rw [cP]; rfl) (by rw [cP]; omega) hv h with h0 | ⟨b, off, len, cap, rows, pre, rest, t₀, fr, h1, h2, h3, h4, h5, h6, h7, h8⟩
  · exact .inl h0
  · right
    have hf : rows = (rows.map Zs.toPtg).map Zs.Ptg.row := Zs.ptgs_of h7
    rw [hf] at h6 h7
    exact ⟨b, off, len, cap, rows.map Zs.toPtg, h1, h2, by simpa using h4, ⟨pre, rest, t₀, fr, h5, h6⟩, h7⟩
theorem ptgsArg_ins {σ : Zs.Sig} {i v b κ off len cap : Nat} {l : List Zs.Ptg} (hs : σ i = some (b, κ)) (h0 : σ.rho.val v = some (.int .i64 (off : Int))) (h1 : σ.rho.val (v + 1) = some (Zs.ptgsR l)) (h2 : σ.rho.val (v + 2) = some (.int .i64 (cap : Int))) (hl : l.length = len) (hc : len ≤ cap) :
    (Zs.ptgsArg i v).av.inst σ = some (.slice (some ⟨b, off, none⟩) len cap) := by
  have := Zs.slx_inst (σ := σ) (w := 8) (base := .var v) (lo := .num 0) (len := .op1 .len (.var (v + 1))) (cap := .var (v + 2)) hs (Zs.X.nat_iff.2 ⟨.i64, h0⟩) (kl := 0) (Zs.X.nat_iff.2 ⟨.i64, rfl⟩) (kn := len) (Zs.X.nat_iff.2 ⟨.i64, by simp only [Zs.X.den, h1, Zs.ptgs_len, hl]⟩) (kc := cap) (Zs.X.nat_iff.2 ⟨.i64, h2⟩) hc
  simpa [Zs.ptgsArg, Zs.Arg.av] using this
theorem list_brel {W : World} {v : Value} {b off len cap : Nat} {l : List Zs.Ptg} (h : ListIn W v b off len cap l) {σ : Zs.Sig} {k : Nat} (h0 : σ.rho.val k = some (.int .i64 (off : Int))) (h1 : σ.rho.val (k + 1) = some (Zs.ptgsR l)) :
    ∃ o, W.heap[b]? = some o ∧ Zs.BRel Tryz.prog σ 0 (Zs.ABlock.rows 8 Zs.ptgSch (.var k) (.var (k + 1)) false 36) o := by
  obtain ⟨pre, rest, t₀, fr, h2, h3⟩ := h.obj
  exact ⟨_, h3, Zs.rows_brel0 (σ := σ) h1 (Zs.X.nat_iff.2 ⟨.i64, by rw [h2]; exact h0⟩) rfl (Nat.succ_pos 7) h.fit⟩
abbrev blk (i v : Nat) : Nat × Zs.ABlock := (i, Zs.ABlock.rows 8 Zs.ptgSch (.var v) (.var (v + 1)) false 36)
set_option maxRecDepth 100000 in
theorem one_list {W : World} {v : Value} {b off len cap : Nat} {l : List Zs.Ptg} (h : ListIn W v b off len cap l) {r : Zs.Rho} (h0 : r.val 0 = some (.int .i64 (off : Int))) (h1 : r.val 1 = some (Zs.ptgsR l)) :
    (Zs.memOf (Zs.hRoot ++ [blk 60 0]) 100).rel Tryz.prog (Zs.lawSig [blk 60 0] (fun _ => b) r) W (fun b => W.heap.size ≤ b) := by
  refine Zs.law_rel (laid_none W) root50 rfl (fun i bk hm => ?_)
  simp only [List.mem_singleton, Prod.mk.injEq] at hm
  obtain ⟨rfl, rfl⟩ := hm
  exact list_brel h h0 h1
theorem one_arg {W : World} {v : Value} {b off len cap : Nat} {l : List Zs.Ptg} (h : ListIn W v b off len cap l) {r : Zs.Rho} (h0 : r.val 0 = some (.int .i64 (off : Int))) (h1 : r.val 1 = some (Zs.ptgsR l)) (h2 : r.val 2 = some (.int .i64 (cap : Int))) :
    (Zs.ptgsArg 60 0).av.inst (Zs.lawSig [blk 60 0] (fun _ => b) r) = some v := by
  have := ptgsArg_ins (σ := Zs.lawSig [blk 60 0] (fun _ => b) r) (i := 60) (v := 0) (b := b) (κ := 0) (off := off) (len := len) (cap := cap) (l := l) rfl h0 h1 h2 h.len h.le
  rw [← h.eq] at this
  exact this
end Go.Proofs.YtpdemfamfmeemacGreat
