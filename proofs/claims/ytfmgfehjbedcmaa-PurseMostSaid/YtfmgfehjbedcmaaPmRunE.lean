/-
  Runs of parts of the example function of package purse, each found by the kernel.
-/
import Derived.Test.YtfmgfehjbedcmaaPmRunA
import Derived.KernelRfl
set_option linter.unusedSimpArgs false
set_option linter.unusedVariables false
namespace Go.Proofs.Ytfmgfehjbedcmaa.Zs
open Go
theorem r1 : runsTo Em (baseL) 60 21 a1 h1 210 v1 w1 291 = true := by kernel_rfl
end Go.Proofs.Ytfmgfehjbedcmaa.Zs
