/-
  Runs of parts of the example function of package award, each found by the kernel.
-/
import Derived.Test.YtpdemfamfmeemacGreatDoorMeRunA
import Derived.KernelRfl
set_option linter.unusedSimpArgs false
set_option linter.unusedVariables false
namespace Go.Proofs.YtpdemfamfmeemacGreatDoor.Zs
open Go
theorem r3 : runsTo Em (baseL) 60 110 a3 hRoot 100 v3 [] 100 = true := by kernel_rfl
theorem r4 : runsTo Em (orLib ml3 (baseL)) 60 82 a4 hRoot 100 v4 [] 100 = true := by kernel_rfl
theorem r5 : runsTo Em (orLib ml4 (baseL)) 60 56 a5 hRoot 100 v5 [] 100 = true := by kernel_rfl
theorem r11 : runsTo Em (baseL) 60 57 a11 hRoot 100 v11 [] 100 = true := by kernel_rfl
theorem r15 : runsTo Em (orLib ml14 (orLib ml11 (orLib ml9 (orLib ml8 (orLib ml5 (orLib ml2 (baseL))))))) 60 18 a15 h15 147 v15 w15 175 = true := by kernel_rfl
theorem r16 : runsTo Em (orLib ml9 (orLib ml8 (orLib ml5 (orLib ml2 (baseL))))) 60 22 a16 h16 217 v16 w16 233 = true := by kernel_rfl
end Go.Proofs.YtpdemfamfmeemacGreatDoor.Zs
