/-
  The example function of the laws of package award, as an entry of the library.
-/
import Derived.Test.YtfddkbbjnghefaaGreatDoorToRunX
import Derived.Test.YtfddkbbjnghefaaGreatDoorToEvK
import Derived.KernelRfl
set_option linter.unusedSimpArgs false
set_option linter.unusedVariables false
namespace Go.Proofs.YtfddkbbjnghefaaGreatDoor.Zs
open Go
noncomputable def globs : Nat→Option Nat:=fun g => match Nat.blt g 50 with | true => some g | false => none
noncomputable def E1 : Env:=envG Tryz.prog globs (fun _ => false) true false
theorem E1_ok : E1.Ok:=envG_ok EB_ok
noncomputable def aliveL : yj:=closedLib 8 hRoot (.bool true)
theorem globs_lt {g id : Nat} (h : globs g = some id) : id < 100:=by
 unfold globs at h
 split at h
 ·rename_i hb
  cases h
  have:=zo hb
  omega
 ·cases h
theorem okRoot' : zu (envG Tryz.prog globs (fun f => match memN f impureL with | true => false | false => true) false true (fun f => match memN f skipL with | true => true | false => false)) (memoLib 8 [] hRoot 100 (.bool true) [] 100):=by
 have h:=okRoot
 rw [Em_is] at h
 exact h
theorem alive_ok (F : List (X×Bool)) (r : Rho) : zu (E1.with F r) aliveL:=
 closedLib_ok (n:=100) okRoot' rfl (fun g id h => ⟨h,globs_lt h⟩) rfl rfl rfl low_root ids_root plain_root cov_root
end Go.Proofs.YtfddkbbjnghefaaGreatDoor.Zs
