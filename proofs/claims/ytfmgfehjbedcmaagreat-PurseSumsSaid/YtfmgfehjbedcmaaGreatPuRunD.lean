/-
  Runs of parts of the example function of package purse, each found by the kernel.
-/
import Derived.Test.YtfmgfehjbedcmaaGreatPuRunA
import Derived.KernelRfl
set_option linter.unusedSimpArgs false
set_option linter.unusedVariables false
namespace Go.Proofs.YtfmgfehjbedcmaaGreat.Zs
open Go
theorem r0 : runsTo Em (baseL) 60 50 a0 h0 119 v0 w0 209 = true := by kernel_rfl
end Go.Proofs.YtfmgfehjbedcmaaGreat.Zs
