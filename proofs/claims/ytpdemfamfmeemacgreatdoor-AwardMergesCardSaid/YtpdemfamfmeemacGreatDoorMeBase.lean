/-
  The program of this seat.
-/
import Derived.Test.YtpdemfamfmeemacGreatDoorMeEvK
import Derived.Test.YtpdemfamfmeemacGreatDoorProg
import Derived.KernelRfl
set_option linter.unusedSimpArgs false
set_option linter.unusedVariables false
namespace Go.Proofs.YtpdemfamfmeemacGreatDoor.Zs
open Go
set_option maxRecDepth 1000000 in
theorem names0 : Tryz.prog.funcs.toList.all (fun g => !(g.name == "runtime.NumGoroutine")) = true := by kernel_rfl
theorem mixed0 : Tryz.prog.follows .mixedOrders = true := by kernel_rfl
noncomputable def E0 : Env := envOf Tryz.prog
theorem E0_ok : E0.Ok := envOf_ok names0 mixed0
theorem E0_glob (g : Nat) : E0.glob g = none := rfl
noncomputable def sizeOfF (f : Nat) : Nat := match Tryz.prog.funcs[f]? with | some fn => fn.ntmps | none => 0
end Go.Proofs.YtpdemfamfmeemacGreatDoor.Zs
