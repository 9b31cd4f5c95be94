/-
  Runs of parts of the example function of package purse, each found by the kernel.
-/
import Derived.Test.YtpdemfamfmeemacGreatPpRunA
import Derived.KernelRfl
set_option linter.unusedSimpArgs false
set_option linter.unusedVariables false
namespace Go.Proofs.YtpdemfamfmeemacGreat.Zs
open Go
theorem r0 : runsTo Em (baseL) 60 20 a0 h0 119 v0 w0 209 = true := by kernel_rfl
end Go.Proofs.YtpdemfamfmeemacGreat.Zs
