/-
  Runs of parts of the example function of package claim, each found by the kernel.
-/
import Derived.Test.YtnahicnoofkfgaaGreatDoorDeRunA
import Derived.KernelRfl
set_option linter.unusedSimpArgs false
set_option linter.unusedVariables false
namespace Go.Proofs.YtnahicnoofkfgaaGreatDoor.Zs
open Go
theorem r0 : runsTo Em (joinLib 107) 60 93 a0 hRoot 100 v0 [] 100 = true := by kernel_rfl
theorem r15 : runsTo Em (joinLib 107) 60 36 a15 hRoot 100 v15 [] 100 = true := by kernel_rfl
theorem r16 : runsTo Em (orLib ml15 (joinLib 107)) 60 49 a16 h16 125 v16 w16 125 = true := by kernel_rfl
theorem r17 : runsTo Em (orLib ml15 (orLib ml16 (orLib ml13 (orLib ml14 (orLib ml11 (orLib ml12 (orLib ml9 (orLib ml10 (orLib ml7 (orLib ml8 (orLib ml4 (orLib ml5 (orLib ml1 (orLib ml2 (joinLib 107))))))))))))))) 60 82 a17 h17 100 v17 w17 129 = true := by kernel_rfl
theorem r25 : runsTo Em (joinLib 107) 60 80 a25 hRoot 100 v25 [] 100 = true := by kernel_rfl
theorem r33 : runsTo Em (orLib ml32 (joinLib 107)) 60 49 a33 h33 577 v33 w33 577 = true := by kernel_rfl
end Go.Proofs.YtnahicnoofkfgaaGreatDoor.Zs
