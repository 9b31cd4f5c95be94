/-
  Runs of parts of the example function of package drift, each found by the kernel.
-/
import Derived.Test.YtpjkfjnjbekcaaaGreatDoorRunA
import Derived.KernelRfl
set_option linter.unusedSimpArgs false
set_option linter.unusedVariables false
namespace Go.Proofs.YtpjkfjnjbekcaaaGreatDoor.Zs
open Go
theorem r2 : runsTo Em (baseL) 60 48 a2 h2 220 v2 w2 220 = true := by kernel_rfl
theorem r3 : runsTo Em (orLib ml2 (baseL)) 60 19 a3 h3 206 v3 w3 227 = true := by kernel_rfl
theorem r9 : runsTo Em (orLib ml8 (baseL)) 60 22 a9 h9 479 v9 w9 651 = true := by kernel_rfl
end Go.Proofs.YtpjkfjnjbekcaaaGreatDoor.Zs
