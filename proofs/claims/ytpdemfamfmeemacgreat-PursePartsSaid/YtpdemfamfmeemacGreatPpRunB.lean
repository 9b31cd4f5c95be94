/-
  Runs of parts of the example function of package purse, each found by the kernel.
-/
import Derived.Test.YtpdemfamfmeemacGreatPpRunA
import Derived.KernelRfl
set_option linter.unusedSimpArgs false
set_option linter.unusedVariables false
namespace Go.Proofs.YtpdemfamfmeemacGreat.Zs
open Go
theorem rRoot : runsTo Em (orLib ml2 (orLib ml1 (orLib ml0 (baseL)))) 60 4 [] hRoot 100 (.bool true) [] 100 = true := by kernel_rfl
end Go.Proofs.YtpdemfamfmeemacGreat.Zs
