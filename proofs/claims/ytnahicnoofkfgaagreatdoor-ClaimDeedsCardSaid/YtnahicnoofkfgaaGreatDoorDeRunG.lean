/-
  Runs of parts of the example function of package claim, each found by the kernel.
-/
import Derived.Test.YtnahicnoofkfgaaGreatDoorDeRunA
import Derived.KernelRfl
set_option linter.unusedSimpArgs false
set_option linter.unusedVariables false
namespace Go.Proofs.YtnahicnoofkfgaaGreatDoor.Zs
open Go
theorem r3 : runsTo Em (joinLib 107) 60 93 a3 hRoot 100 v3 [] 100 = true := by kernel_rfl
theorem r7 : runsTo Em (orLib ml6 (joinLib 107)) 60 36 a7 hRoot 100 v7 [] 100 = true := by kernel_rfl
theorem r8 : runsTo Em (orLib ml7 (joinLib 107)) 60 49 a8 h8 109 v8 w8 109 = true := by kernel_rfl
theorem r12 : runsTo Em (orLib ml11 (joinLib 107)) 60 49 a12 h12 117 v12 w12 117 = true := by kernel_rfl
theorem r14 : runsTo Em (orLib ml13 (joinLib 107)) 60 49 a14 h14 121 v14 w14 121 = true := by kernel_rfl
theorem r19 : runsTo Em (joinLib 107) 60 80 a19 hRoot 100 v19 [] 100 = true := by kernel_rfl
end Go.Proofs.YtnahicnoofkfgaaGreatDoor.Zs
