/-
  Runs of parts of the example function of package award, each found by the kernel.
-/
import Derived.Test.YtpdemfamfmeemacGreatDoorMeRunA
import Derived.KernelRfl
set_option linter.unusedSimpArgs false
set_option linter.unusedVariables false
namespace Go.Proofs.YtpdemfamfmeemacGreatDoor.Zs
open Go
theorem r6 : runsTo Em (baseL) 60 110 a6 hRoot 100 v6 [] 100 = true := by kernel_rfl
theorem r7 : runsTo Em (orLib ml6 (baseL)) 60 82 a7 hRoot 100 v7 [] 100 = true := by kernel_rfl
theorem r8 : runsTo Em (orLib ml7 (baseL)) 60 56 a8 hRoot 100 v8 [] 100 = true := by kernel_rfl
theorem r9 : runsTo Em (baseL) 60 56 a9 hRoot 100 v9 [] 100 = true := by kernel_rfl
theorem r10 : runsTo Em (orLib ml8 (orLib ml5 (orLib ml2 (baseL)))) 60 16 a10 h10 104 v10 w10 104 = true := by kernel_rfl
theorem r14 : runsTo Em (orLib ml11 (orLib ml5 (baseL))) 60 17 a14 h14 150 v14 w14 175 = true := by kernel_rfl
end Go.Proofs.YtpdemfamfmeemacGreatDoor.Zs
