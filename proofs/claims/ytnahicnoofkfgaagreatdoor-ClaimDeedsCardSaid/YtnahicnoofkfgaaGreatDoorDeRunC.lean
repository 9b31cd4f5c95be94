/-
  Runs of parts of the example function of package claim, each found by the kernel.
-/
import Derived.Test.YtnahicnoofkfgaaGreatDoorDeRunA
import Derived.KernelRfl
set_option linter.unusedSimpArgs false
set_option linter.unusedVariables false
namespace Go.Proofs.YtnahicnoofkfgaaGreatDoor.Zs
open Go
theorem r26 : runsTo Em (orLib ml25 (orLib ml24 (orLib ml23 (orLib ml21 (orLib ml20 (orLib ml19 (orLib ml18 (joinLib 107)))))))) 60 168 a26 h26 260 v26 w26 260 = true := by kernel_rfl
end Go.Proofs.YtnahicnoofkfgaaGreatDoor.Zs
