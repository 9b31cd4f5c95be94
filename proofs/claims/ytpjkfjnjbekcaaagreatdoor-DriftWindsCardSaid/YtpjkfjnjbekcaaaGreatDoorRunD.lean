/-
  Runs of parts of the example function of package drift, each found by the kernel.
-/
import Derived.Test.YtpjkfjnjbekcaaaGreatDoorRunA
import Derived.KernelRfl
set_option linter.unusedSimpArgs false
set_option linter.unusedVariables false
namespace Go.Proofs.YtpjkfjnjbekcaaaGreatDoor.Zs
open Go
theorem r12 : runsTo Em (baseL) 60 52 a12 h12 713 v12 w12 713 = true := by kernel_rfl
theorem r18 : runsTo Em (baseL) 60 48 a18 h18 706 v18 w18 706 = true := by kernel_rfl
theorem r19 : runsTo Em (orLib ml18 (orLib ml17 (baseL))) 60 24 a19 h19 673 v19 w19 720 = true := by kernel_rfl
end Go.Proofs.YtpjkfjnjbekcaaaGreatDoor.Zs
