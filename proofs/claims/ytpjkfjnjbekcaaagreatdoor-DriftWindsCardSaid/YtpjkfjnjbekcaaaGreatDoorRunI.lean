/-
  Runs of parts of the example function of package drift, each found by the kernel.
-/
import Derived.Test.YtpjkfjnjbekcaaaGreatDoorRunA
import Derived.KernelRfl
set_option linter.unusedSimpArgs false
set_option linter.unusedVariables false
namespace Go.Proofs.YtpjkfjnjbekcaaaGreatDoor.Zs
open Go
theorem r8 : runsTo Em (baseL) 60 51 a8 h8 493 v8 w8 568 = true := by kernel_rfl
theorem r15 : runsTo Em (orLib ml14 (orLib ml13 (orLib ml12 (baseL)))) 60 51 a15 h15 676 v15 w15 751 = true := by kernel_rfl
end Go.Proofs.YtpjkfjnjbekcaaaGreatDoor.Zs
