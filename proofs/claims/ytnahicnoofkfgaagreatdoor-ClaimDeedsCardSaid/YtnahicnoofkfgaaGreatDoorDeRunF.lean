/-
  Runs of parts of the example function of package claim, each found by the kernel.
-/
import Derived.Test.YtnahicnoofkfgaaGreatDoorDeRunA
import Derived.KernelRfl
set_option linter.unusedSimpArgs false
set_option linter.unusedVariables false
namespace Go.Proofs.YtnahicnoofkfgaaGreatDoor.Zs
open Go
theorem r1 : runsTo Em (orLib ml0 (joinLib 107)) 60 36 a1 hRoot 100 v1 [] 100 = true := by kernel_rfl
theorem r9 : runsTo Em (joinLib 107) 60 36 a9 hRoot 100 v9 [] 100 = true := by kernel_rfl
theorem r10 : runsTo Em (orLib ml9 (joinLib 107)) 60 49 a10 h10 113 v10 w10 113 = true := by kernel_rfl
theorem r27 : runsTo Em (joinLib 107) 60 80 a27 hRoot 100 v27 [] 100 = true := by kernel_rfl
theorem r30 : runsTo Em (orLib ml18 (joinLib 107)) 60 95 a30 h30 491 v30 w30 577 = true := by kernel_rfl
theorem r35 : runsTo Em (orLib ml34 (orLib ml21 (orLib ml20 (orLib ml19 (orLib ml18 (joinLib 107)))))) 60 168 a35 h35 646 v35 w35 737 = true := by kernel_rfl
end Go.Proofs.YtnahicnoofkfgaaGreatDoor.Zs
