/-
  Runs of parts of the example function of package claim, each found by the kernel.
-/
import Derived.Test.YtnahicnoofkfgaaGreatDoorDeRunA
import Derived.KernelRfl
set_option linter.unusedSimpArgs false
set_option linter.unusedVariables false
namespace Go.Proofs.YtnahicnoofkfgaaGreatDoor.Zs
open Go
theorem r20 : runsTo Em (joinLib 107) 60 80 a20 hRoot 100 v20 [] 100 = true := by kernel_rfl
theorem r21 : runsTo Em (joinLib 107) 60 80 a21 hRoot 100 v21 [] 100 = true := by kernel_rfl
theorem r23 : runsTo Em (joinLib 107) 60 80 a23 hRoot 100 v23 [] 100 = true := by kernel_rfl
theorem r31 : runsTo Em (joinLib 107) 60 93 a31 hRoot 100 v31 [] 100 = true := by kernel_rfl
theorem r32 : runsTo Em (orLib ml31 (joinLib 107)) 60 36 a32 hRoot 100 v32 [] 100 = true := by kernel_rfl
theorem rRoot : runsTo Em (orLib ml36 (orLib ml32 (orLib ml33 (orLib ml30 (orLib ml29 (orLib ml28 (orLib ml26 (orLib ml22 (orLib ml15 (orLib ml13 (orLib ml11 (orLib ml9 (orLib ml7 (orLib ml4 (orLib ml1 (orLib ml17 (joinLib 107))))))))))))))))) 60 28 [] hRoot 100 (.bool true) [] 100 = true := by kernel_rfl
end Go.Proofs.YtnahicnoofkfgaaGreatDoor.Zs
