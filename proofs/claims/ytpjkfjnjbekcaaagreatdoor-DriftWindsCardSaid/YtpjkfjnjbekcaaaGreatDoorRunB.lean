/-
  Runs of parts of the example function of package drift, each found by the kernel.
-/
import Derived.Test.YtpjkfjnjbekcaaaGreatDoorRunA
import Derived.KernelRfl
set_option linter.unusedSimpArgs false
set_option linter.unusedVariables false
namespace Go.Proofs.YtpjkfjnjbekcaaaGreatDoor.Zs
open Go
theorem r10 : runsTo Em (baseL) 60 59 a10 h10 666 v10 w10 666 = true := by kernel_rfl
theorem r13 : runsTo Em (baseL) 60 52 a13 h13 731 v13 w13 731 = true := by kernel_rfl
theorem r14 : runsTo Em (baseL) 60 52 a14 h14 749 v14 w14 749 = true := by kernel_rfl
end Go.Proofs.YtpjkfjnjbekcaaaGreatDoor.Zs
