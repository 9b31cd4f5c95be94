/-
  Runs of parts of the example function of package drift, each found by the kernel.
-/
import Derived.Test.YtpjkfjnjbekcaaaGreatDoorRunA
import Derived.KernelRfl
set_option linter.unusedSimpArgs false
set_option linter.unusedVariables false
namespace Go.Proofs.YtpjkfjnjbekcaaaGreatDoor.Zs
open Go
theorem r7 : runsTo Em (orLib ml6 (baseL)) 60 21 a7 h7 351 v7 w7 478 = true := by kernel_rfl
theorem r11 : runsTo Em (baseL) 60 59 a11 h11 668 v11 w11 668 = true := by kernel_rfl
theorem r16 : runsTo Em (orLib ml15 (orLib ml11 (orLib ml10 (baseL)))) 60 23 a16 h16 652 v16 w16 673 = true := by kernel_rfl
end Go.Proofs.YtpjkfjnjbekcaaaGreatDoor.Zs
