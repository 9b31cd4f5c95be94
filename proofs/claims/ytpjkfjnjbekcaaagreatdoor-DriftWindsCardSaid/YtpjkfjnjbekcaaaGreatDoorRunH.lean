/-
  Runs of parts of the example function of package drift, each found by the kernel.
-/
import Derived.Test.YtpjkfjnjbekcaaaGreatDoorRunA
import Derived.KernelRfl
set_option linter.unusedSimpArgs false
set_option linter.unusedVariables false
namespace Go.Proofs.YtpjkfjnjbekcaaaGreatDoor.Zs
open Go
theorem r5 : runsTo Em (orLib ml4 (baseL)) 60 20 a5 h5 227 v5 w5 351 = true := by kernel_rfl
theorem r6 : runsTo Em (baseL) 60 51 a6 h6 373 v6 w6 448 = true := by kernel_rfl
end Go.Proofs.YtpjkfjnjbekcaaaGreatDoor.Zs
