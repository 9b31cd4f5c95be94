/-
  The program is one that the runs speak of.
-/
import Derived.Test.YtpdemfamfmeemacGreatPpRunA
import Derived.KernelRfl
set_option linter.unusedSimpArgs false
set_option linter.unusedVariables false
namespace Go.Proofs.YtpdemfamfmeemacGreat.Zs
open Go
noncomputable def envG (P : Program) (glob : Nat → Option Nat) (pure : FuncId → Bool) (n sp : Bool) (skip : FuncId → Bool := fun _ => false) : Env := {
  P := P,
  und := fun t => P.underlying t,
  inf := fun t => P.info? t,
  fn := fun f => P.funcs[f]?,
  glob := glob,
  pure := pure,
  names := n,
  spare := sp,
  skip := skip }
theorem envG_ok {P : Program} (h : (envOf P).Ok) {glob : Nat → Option Nat} {pure : FuncId → Bool} {n sp : Bool} {skip : FuncId → Bool} : (envG P glob pure n sp skip).Ok := ⟨h.und, h.inf, h.fn, h.name, h.mixed⟩
theorem Em_is : Em = envG Tryz.prog (fun g => match Nat.blt g 50 with | true => some g | false => none) (fun f => match memN f impureL with | true => false | false => true) false true (fun f => match memN f skipL with | true => true | false => false) := by unfold Em envG; rfl
theorem E0_is : E0 = envOf Tryz.prog := rfl
theorem Em_ok : Em.Ok := by rw [Em_is]; exact envG_ok (E0_is ▸ E0_ok)
theorem baseM_ok : CallsOk Em baseL := fun f args S r S' h => nomatch (show (none : Option (AE × ASt)) = some (r, S') from h)
theorem low_root : lowIds hRoot = true := by kernel_rfl
theorem ids_root : (hRoot.all fun p => Nat.blt p.1 100) = true := by kernel_rfl
theorem plain_root : plainH hRoot = true := by kernel_rfl
theorem cov_root : covers (buildH hRoot) hRoot = true := by kernel_rfl
end Go.Proofs.YtpdemfamfmeemacGreat.Zs
