/-
  Runs of parts of the example function of package claim, each found by the kernel.
-/
import Derived.Test.YtnahicnoofkfgaaGreatDoorDeRunA
import Derived.KernelRfl
set_option linter.unusedSimpArgs false
set_option linter.unusedVariables false
namespace Go.Proofs.YtnahicnoofkfgaaGreatDoor.Zs
open Go
theorem r2 : runsTo Em (orLib ml1 (joinLib 107)) 60 49 a2 h2 101 v2 w2 101 = true := by kernel_rfl
theorem r4 : runsTo Em (orLib ml3 (joinLib 107)) 60 36 a4 hRoot 100 v4 [] 100 = true := by kernel_rfl
theorem r5 : runsTo Em (orLib ml4 (joinLib 107)) 60 49 a5 h5 105 v5 w5 105 = true := by kernel_rfl
theorem r18 : runsTo Em (joinLib 107) 60 181 a18 hRoot 100 v18 [] 100 = true := by kernel_rfl
theorem r22 : runsTo Em (orLib ml21 (orLib ml20 (orLib ml19 (orLib ml18 (joinLib 107))))) 60 120 a22 h22 166 v22 w22 218 = true := by kernel_rfl
theorem r24 : runsTo Em (joinLib 107) 60 80 a24 hRoot 100 v24 [] 100 = true := by kernel_rfl
end Go.Proofs.YtnahicnoofkfgaaGreatDoor.Zs
