/-
  Runs of parts of the example function of package drift, each found by the kernel.
-/
import Derived.Test.YtpjkfjnjbekcaaaGreatDoorRunA
import Derived.KernelRfl
set_option linter.unusedSimpArgs false
set_option linter.unusedVariables false
namespace Go.Proofs.YtpjkfjnjbekcaaaGreatDoor.Zs
open Go
theorem r1 : runsTo Em (baseL) 60 18 a1 h1 177 v1 w1 206 = true := by kernel_rfl
theorem r4 : runsTo Em (baseL) 60 51 a4 h4 248 v4 w4 323 = true := by kernel_rfl
end Go.Proofs.YtpjkfjnjbekcaaaGreatDoor.Zs
