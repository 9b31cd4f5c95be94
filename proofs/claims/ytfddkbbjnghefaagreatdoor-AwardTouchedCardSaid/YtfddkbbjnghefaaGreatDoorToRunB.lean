/-
  Runs of parts of the example function of package award, each found by the kernel.
-/
import Derived.Test.YtfddkbbjnghefaaGreatDoorToRunA
import Derived.KernelRfl
set_option linter.unusedSimpArgs false
set_option linter.unusedVariables false
namespace Go.Proofs.YtfddkbbjnghefaaGreatDoor.Zs
open Go
theorem r2 : runsTo Em (orLib ml1 (baseL)) 60 59 a2 hRoot 100 v2 [] 100 = true:=by kernel_rfl
theorem r13 : runsTo Em (orLib ml12 (baseL)) 60 17 a13 h13 119 v13 w13 146 = true:=by kernel_rfl
end Go.Proofs.YtfddkbbjnghefaaGreatDoor.Zs
