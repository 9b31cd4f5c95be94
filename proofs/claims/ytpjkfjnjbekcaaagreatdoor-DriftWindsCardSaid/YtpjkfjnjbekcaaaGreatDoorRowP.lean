/-
  What the row gives a walk: the cells of the package variables that the example function reads.
-/
import Derived.Test.YtpjkfjnjbekcaaaGreatDoorRows
import Derived.Test.YtpjkfjnjbekcaaaGreatDoorRowA
import Derived.Test.YtpjkfjnjbekcaaaGreatDoorRunZ
import Derived.KernelRfl
import Derived.MakeChecks
import Derived.Handed
import Derived.ChangeSame
import Derived.ChangeVars
import Derived.JoinedOf
import Derived.RowKit
import Derived.RowKitTokens
import Derived.LaidLaws
import Derived.OpenShut
import Derived.FnData
set_option linter.unusedSimpArgs false
set_option linter.unusedVariables false
namespace Go.Proofs.YtpjkfjnjbekcaaaGreatDoor
open Go.ChangeShapes Go.WideShapes Go.RowKit

theorem row5 : (((begin Tryz.prog (fun _ _ => 0) default).world.heap[5]?).bind Obj.row?).map (·.2) = some 219 := by kernel_rfl
theorem gTens : Tryz.prog.globalNamed "internal/strconv.uint64pow10" = some 5 := by kernel_rfl
theorem tTens : (Tryz.prog.globals[5]?).map (·.type) = some 219 := by kernel_rfl
theorem u195 : Tryz.prog.underlying 219 = some (.array 20 166) := by kernel_rfl
theorem u140 : Tryz.prog.underlying 166 = some (.int .u64) := by kernel_rfl
theorem c140 : Tryz.prog.cellsOf 166 = 1 := by kernel_rfl
theorem c195 : Tryz.prog.cellsOf 219 = 20 := by kernel_rfl
theorem many : decide (5 < Tryz.prog.globals.size) = true := by kernel_rfl

theorem typed {W : World} (h : W.ShapedOpen Tryz.prog) {g t : Nat} (hg : g < Tryz.prog.globals.size) (hr : (((begin Tryz.prog (fun _ _ => 0) default).world.heap[g]?).bind Obj.row?).map (·.2) = some t) :
    ∃ cs, W.heap[g]? = some (.cells cs t (0, 0)) := by
  cases hx : ((begin Tryz.prog (fun _ _ => 0) default).world.heap[g]?).bind Obj.row? with
  | none => rw [hx] at hr; cases hr
  | some x =>
    rw [hx] at hr
    obtain ⟨z, t'⟩ := x
    have e : t' = t := Option.some.inj hr
    subst e
    obtain ⟨cs, h1, _⟩ := h.1 g z t' hg hx
    exact ⟨cs, h1⟩

section
variable {H : Type} {enc : TypeId × Value → H} {P : Program} {w : World} {base : Nat} {sp : Nat → Bool} {held : Bool}
theorem ints_of {m : Nat} {e : TypeId} {k : IntKind} (he : P.underlying e = some (.int k)) : ∀ (l : List Int) (cs : List Value) (xs : List (DataW H × List MemPlace)), cs.length = l.length → xs.length = l.length →
    xs.map (·.1) = l.map (fun n => .lit (.int k n)) → (∀ i, i < l.length → DataW.trod enc P w base sp held m e ((cs.drop (i * 1)).take 1) = xs[i]?) → cs = l.map fun n => .int k n
  | [], cs, xs, h1, _, _, _ => by cases cs with | nil => rfl | cons _ _ => cases h1
  | s :: l, [], xs, h1, _, _, _ => by cases h1
  | s :: l, c :: cs, [], _, h2, _, _ => by cases h2
  | s :: l, c :: cs, x :: xs, h1, h2, h3, h4 => by
    simp only [List.map_cons, List.cons.injEq] at h3
    have h0 := h4 0 (by simp)
    obtain ⟨b, e1, e2, _⟩ := DataW.trod_int he (show DataW.trod enc P w base sp held m e [c] = some x by simpa using h0)
    rw [e2] at h3
    have hb : b = s := by
      have := h3.1
      simpa using this
    have ih := ints_of he l cs xs (by simpa using h1) (by simpa using h2) h3.2 fun i hi => by
      have := h4 (i + 1) (by simpa using hi)
      simpa using this
    simp only [List.cons.injEq, and_true] at e1
    rw [e1, hb, List.map_cons, ih]
end

def tens : List Int := (List.range 20).map fun i => ((10 ^ i : Nat) : Int)

theorem datum6 : (Rows.laid_internal_strconv_uint64pow10 : DataW Unit) = .agg (tens.map fun n => .lit (.int .u64 n)) := by kernel_rfl
theorem ints_inst (σ : Zs.Sig) : ∀ l : List Int, Zs.instL σ (l.map (Zs.AV.int .u64)) = some (l.map fun n => Value.int .u64 n)
  | [] => rfl
  | s :: l => by simp only [List.map_cons, Zs.instL, Zs.AV.inst, ints_inst σ l]
theorem root_is : Zs.hRoot = [(5, Zs.ABlock.cells (tens.map (Zs.AV.int .u64)) 219)] := by kernel_rfl
theorem laid_of {W : World} (hs : W.ShapedOpen Tryz.prog) (h : laidMetH Tryz.prog Rows.driftWindsRow.laid W) : Zs.LaidL Zs.hRoot W := by
  rw [MakeChecks.laidMetH_plain _ _ _ (by kernel_rfl)] at h
  obtain ⟨ps, hv, _, _⟩ := h
  obtain ⟨_, _, _, _, _, _, _, _, _, _, hv, _⟩ := hv
  obtain ⟨_, _, _, _, _, _, _, _, _, _, hv, _⟩ := hv
  obtain ⟨g6, t6, cs6, f6, p6, _, hg6, ht6, hv6, hd6, hv, _⟩ := hv
  clear hv
  obtain rfl := Option.some.inj (gTens.symm.trans hg6)
  obtain rfl := Option.some.inj (tTens.symm.trans ht6)
  have hsize : 5 < Tryz.prog.globals.size := of_decide_eq_true many
  obtain ⟨d6, hb6⟩ := typed hs hsize row5
  have e6 : cs6 = d6 := by simpa [World.var?, gTens, hb6] using hv6.symm
  subst e6
  have k6 : W.heap[5]? = some (.cells (tens.map fun n => Value.int .u64 n).toArray 219 (0, 0)) := by
    obtain ⟨xs, m, rfl, hx, hlen, hn, hel⟩ := DataW.trod_array u195 hd6
    rw [c140] at hel
    rw [c195] at hlen
    simp only [Prod.mk.injEq] at hx
    have hm : xs.map (·.1) = tens.map fun n => .lit (.int .u64 n) := by
      have e := hx.1.symm.trans datum6
      injection e
    have e : cs6 = (tens.map fun n => Value.int .u64 n).toArray := Array.ext' (by simpa using ints_of u140 tens cs6.toList xs hlen hn hm hel)
    rw [hb6, e]
  rw [root_is]
  intro i b hm
  simp only [List.mem_cons, List.not_mem_nil, or_false, Prod.mk.injEq] at hm
  obtain ⟨rfl, rfl⟩ := hm
  exact ⟨_, _, _, rfl, ints_inst _ _, k6⟩
end Go.Proofs.YtpjkfjnjbekcaaaGreatDoor
