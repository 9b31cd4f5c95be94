/-
  Runs of parts of the example function of package purse, each found by the kernel.
-/
import Derived.Test.YtpdemfamfmeemacGreatPpRunA
import Derived.KernelRfl
set_option linter.unusedSimpArgs false
set_option linter.unusedVariables false
namespace Go.Proofs.YtpdemfamfmeemacGreat.Zs
open Go
theorem r2 : runsTo Em (baseL) 60 21 a2 h2 294 v2 w2 294 = true := by kernel_rfl
end Go.Proofs.YtpdemfamfmeemacGreat.Zs
