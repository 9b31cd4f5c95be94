/-
  Runs of parts of the example function of package drift, each found by the kernel.
-/
import Derived.Test.YtpjkfjnjbekcaaaGreatDoorRunA
import Derived.KernelRfl
set_option linter.unusedSimpArgs false
set_option linter.unusedVariables false
namespace Go.Proofs.YtpjkfjnjbekcaaaGreatDoor.Zs
open Go
theorem r0 : runsTo Em (baseL) 60 16 a0 h0 100 v0 w0 173 = true := by kernel_rfl
theorem r17 : runsTo Em (baseL) 60 48 a17 h17 703 v17 w17 703 = true := by kernel_rfl
theorem rRoot : runsTo Em (orLib ml19 (orLib ml16 (orLib ml9 (orLib ml7 (orLib ml5 (orLib ml3 (orLib ml1 (orLib ml0 (baseL))))))))) 60 4 [] hRoot 100 (.bool true) [] 100 = true := by kernel_rfl
end Go.Proofs.YtpjkfjnjbekcaaaGreatDoor.Zs
