/-
  Runs of parts of the example function of package claim, each found by the kernel.
-/
import Derived.Test.YtnahicnoofkfgaaGreatDoorDeRunA
import Derived.KernelRfl
set_option linter.unusedSimpArgs false
set_option linter.unusedVariables false
namespace Go.Proofs.YtnahicnoofkfgaaGreatDoor.Zs
open Go
theorem r6 : runsTo Em (joinLib 107) 60 93 a6 hRoot 100 v6 [] 100 = true := by kernel_rfl
theorem r11 : runsTo Em (joinLib 107) 60 36 a11 hRoot 100 v11 [] 100 = true := by kernel_rfl
theorem r13 : runsTo Em (joinLib 107) 60 36 a13 hRoot 100 v13 [] 100 = true := by kernel_rfl
theorem r29 : runsTo Em (orLib ml21 (orLib ml20 (orLib ml19 (orLib ml18 (orLib ml15 (orLib ml13 (orLib ml11 (orLib ml9 (orLib ml7 (orLib ml4 (orLib ml1 (joinLib 107)))))))))))) 60 83 a29 h29 393 v29 w29 477 = true := by kernel_rfl
theorem r34 : runsTo Em (joinLib 107) 60 80 a34 hRoot 100 v34 [] 100 = true := by kernel_rfl
theorem r36 : runsTo Em (orLib ml35 (orLib ml32 (orLib ml15 (orLib ml13 (orLib ml11 (orLib ml9 (orLib ml7 (orLib ml4 (orLib ml1 (joinLib 107)))))))))) 60 51 a36 h36 583 v36 w36 739 = true := by kernel_rfl
end Go.Proofs.YtnahicnoofkfgaaGreatDoor.Zs
