/-
  The arguments of the laws: a list of papers, and a paper.
-/
import Derived.Test.YtpjkfjnjbekcaaaGreatDoorRowA
import Derived.Test.YtpjkfjnjbekcaaaGreatDoorWin
import Derived.Test.YtpjkfjnjbekcaaaGreatDoorBase
set_option linter.unusedSimpArgs false
set_option linter.unusedVariables false
namespace Go.Proofs.YtpjkfjnjbekcaaaGreatDoor.Zs
open Go Go.ChangeShapes Go.WideShapes
set_option linter.unusedSimpArgs false
set_option linter.unusedVariables false

theorem v_int {σ : Sig} {k : IntKind} {i : Nat} {n : Int} {k' : IntKind} (h : σ.rho.val i = some (.int k' n)) : (AV.sint k (.var i)).inst σ = some (.int k n) := by
  simp only [AV.inst, X.int_iff.2 ⟨k', show (X.var i).den σ.rho = _ from h⟩]
theorem v_str {σ : Sig} {i : Nat} {s : ByteArray} (h : σ.rho.val i = some (.string s)) : (AV.sstr (.var i)).inst σ = some (.string s) := by
  simp only [AV.inst, X.bytes_iff.2 (show (X.var i).den σ.rho = _ from h)]
theorem v_bool {σ : Sig} {i : Nat} {b : Bool} (h : σ.rho.val i = some (.bool b)) : (AV.sbool (.var i)).inst σ = some (.bool b) := by
  simp only [AV.inst, X.bool_iff.2 (show (X.var i).den σ.rho = _ from h)]
theorem wind_ins {σ : Sig} {v : Nat} {p : Wind} (h : ∀ j, j < 9 → σ.rho.val (v + j) = p.row[j]?) : (Arg.agg (windLeaves v)).av.inst σ = some (.agg p.row.toArray) := by
  have h0 := h 0 (by omega); have h1 := h 1 (by omega); have h2 := h 2 (by omega); have h3 := h 3 (by omega); have h4 := h 4 (by omega); have h5 := h 5 (by omega); have h6 := h 6 (by omega); have h7 := h 7 (by omega); have h8 := h 8 (by omega)
  rw [wind0] at h0; rw [wind1] at h1; rw [wind2] at h2; rw [wind3] at h3; rw [wind4] at h4; rw [wind5] at h5; rw [wind6] at h6; rw [wind7] at h7; rw [wind8] at h8
  have hi : Ins σ ((windLeaves v).map Leaf.av) p.row :=
    .cons (v_int h0) (.cons (v_int h1) (.cons (v_int h2) (.cons (v_int h3) (.cons (v_int h4) (.cons (v_int h5) (.cons (v_int h6) (.cons (v_int h7) (.cons (v_int h8) .nil))))))))
  simp only [Arg.av, AV.inst, instL_iff.2 hi]
/-- A list of papers that came in, by its block. -/
theorem windsArg_ins {σ : Sig} {i v b κ off len cap : Nat} {l : List Wind} (hs : σ i = some (b, κ)) (h0 : σ.rho.val v = some (.int .i64 (off : Int))) (h1 : σ.rho.val (v + 1) = some (windsR l)) (h2 : σ.rho.val (v + 2) = some (.int .i64 (cap : Int))) (hl : l.length = len) (hc : len ≤ cap) :
    (windsArg i v).av.inst σ = some (.slice (some ⟨b, off, none⟩) len cap) := by
  have := slx_inst (σ := σ) (w := 9) (base := .var v) (lo := .num 0) (len := .op1 .len (.var (v + 1))) (cap := .var (v + 2)) hs (X.nat_iff.2 ⟨.i64, h0⟩) (kl := 0) (X.nat_iff.2 ⟨.i64, rfl⟩) (kn := len) (X.nat_iff.2 ⟨.i64, by simp only [X.den, h1, winds_len, hl]⟩) (kc := cap) (X.nat_iff.2 ⟨.i64, h2⟩) hc
  simpa [windsArg, Arg.av] using this

def isStr : Option TypeDesc → Bool
  | some (.struct _) => true
  | _ => false
theorem no_arr {o : Option TypeDesc} (h : isStr o = true) (m : Nat) (u' : TypeId) : o ≠ some (.array m u') := fun e => by rw [e] at h; cases h
section
variable {H : Type} {enc : TypeId × Value → H} {P : Program} {W : World} {r : Reach} {b0 : Nat}
/-- A plain struct that came in. -/
theorem struct_in {t : TypeId} {d0 : Nat} {sch : List CK} (ht : isStr (P.underlying t) = true) (hs : schT P d0 t = some sch) {v : Value} {d : DataW H} {ps : List MemPlace} (hv : Value.okWide P W r b0 t v) (h : DataW.Trod enc P W 0 (fun _ => true) true t v d ps) :
    ∃ row, v = .agg (List.toArray row) ∧ RowFits sch row := by
  unfold Value.okWide at hv
  split at hv
  · rename_i fs hu
    obtain ⟨cs, rfl, _⟩ := hv
    obtain ⟨n, hn⟩ := h
    exact ⟨cs.toList, rfl, fits_of d0 t sch hs hn⟩
  · rename_i m e hu
    exact absurd hu (no_arr ht _ _)
  · rename_i h1 h2
    unfold isStr at ht
    split at ht
    · rename_i fs hu; exact absurd hu (h1 fs)
    · cases ht
/-- A slice of plain structs that came in, and the package variables' blocks lie elsewhere. -/
theorem rows_in {t e : TypeId} {sch : List CK} {d0 : Nat} (ht : P.underlying t = some (.slice e)) (hst : isStr (P.underlying e) = true) (hs : schT P d0 e = some sch) (hc : P.cellsOf e = sch.length) (hc0 : 0 < sch.length) {away : List TypeId}
    (haway : (away.all fun a => noRow P (fun t => sameLayout P P.depth t e) P.depth a) = true) {v : Value} {d : DataW H} {ps : List MemPlace} (hv : Value.okWide P W r b0 t v) (h : DataW.Trod enc P W 0 (fun _ => true) true t v d ps) :
    v = .slice none 0 0 ∨ ∃ (b off len cap : Nat) (rows : List (List Value)) (pre rest : List Value) (t₀ : TypeId) (fr : Nat × Nat), v = .slice (some ⟨b, off, none⟩) len cap ∧ len ≤ cap ∧ (cap : Int) ≤ IntKind.i64.max ∧ rows.length = len ∧ pre.length = off ∧
      W.heap[b]? = some (.cells (pre ++ (rows.flatten ++ rest)).toArray t₀ fr) ∧ (∀ r ∈ rows, RowFits sch r) ∧ t₀ ∉ away := by
  rcases slice_in ht hs hc.symm (by rw [hc]; exact hc0) hv h with h0 | ⟨b, off, len, cap, rows, pre, rest, t₀, fr, h1, h2, h3, h4, h5, h6, h7, h8⟩
  · exact .inl h0
  · exact .inr ⟨b, off, len, cap, rows, pre, rest, t₀, fr, h1, h2, h3, h4, h5, h6, h7, fun hm => liesAt_no (no_arr hst) (List.all_eq_true.1 haway t₀ hm) h8⟩
/-- A law of a list of papers and more. -/
theorem windsL_of {rows : List (List Value)} (h : ∀ r ∈ rows, RowFits windSch r) : ∃ l : List Wind, rows = l.map Wind.row := ⟨_, winds_of h⟩
theorem windL_of {row : List Value} (h : RowFits windSch row) : ∃ p : Wind, row = p.row := ⟨_, wind_row h⟩
end

theorem u22 : Tryz.prog.underlying 22 = some (.slice 26) := by kernel_rfl
theorem str26 : isStr (Tryz.prog.underlying 26) = true := by kernel_rfl
theorem sch26 : schT Tryz.prog 6 26 = some windSch := by kernel_rfl
theorem c26 : Tryz.prog.cellsOf 26 = windSch.length := by kernel_rfl
theorem away26 : ([219].all fun a => noRow Tryz.prog (fun t => sameLayout Tryz.prog Tryz.prog.depth t 26) Tryz.prog.depth a) = true := by kernel_rfl
end Go.Proofs.YtpjkfjnjbekcaaaGreatDoor.Zs
