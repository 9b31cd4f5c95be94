/-
  Runs of parts of the example function of package cargo, each found by the kernel.
-/
import Derived.Test.YtmhbhkipjjcmlaaGreatDoorRunA
import Derived.KernelRfl
set_option linter.unusedSimpArgs false
set_option linter.unusedVariables false
namespace Go.Proofs.YtmhbhkipjjcmlaaGreatDoor.Zs
open Go
theorem r7 : runsTo Em (joinLib 118) 60 19 a7 h7 106 v7 w7 109 = true := by kernel_rfl
theorem r17 : runsTo Em (joinLib 118) 60 121 a17 h17 119 v17 w17 119 = true := by kernel_rfl
theorem r19 : runsTo Em (joinLib 118) 60 19 a19 h19 118 v19 w19 121 = true := by kernel_rfl
theorem r26 : runsTo Em (joinLib 118) 60 62 a26 h26 128 v26 w26 128 = true := by kernel_rfl
theorem r31 : runsTo Em (orLib ml30 (joinLib 118)) 60 44 a31 h31 130 v31 w31 130 = true := by kernel_rfl
theorem r47 : runsTo Em (joinLib 118) 60 22 a47 h47 526 v47 w47 526 = true := by kernel_rfl
theorem r52 : runsTo Em (joinLib 118) 60 22 a52 h52 521 v52 w52 521 = true := by kernel_rfl
theorem r56 : runsTo Em (joinLib 118) 60 17 a56 h56 628 v56 w56 628 = true := by kernel_rfl
end Go.Proofs.YtmhbhkipjjcmlaaGreatDoor.Zs
