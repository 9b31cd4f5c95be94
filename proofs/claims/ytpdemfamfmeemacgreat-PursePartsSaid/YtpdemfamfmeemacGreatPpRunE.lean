/-
  Runs of parts of the example function of package purse, each found by the kernel.
-/
import Derived.Test.YtpdemfamfmeemacGreatPpRunA
import Derived.KernelRfl
set_option linter.unusedSimpArgs false
set_option linter.unusedVariables false
namespace Go.Proofs.YtpdemfamfmeemacGreat.Zs
open Go
theorem r1 : runsTo Em (baseL) 60 20 a1 h1 210 v1 w1 291 = true := by kernel_rfl
end Go.Proofs.YtpdemfamfmeemacGreat.Zs
