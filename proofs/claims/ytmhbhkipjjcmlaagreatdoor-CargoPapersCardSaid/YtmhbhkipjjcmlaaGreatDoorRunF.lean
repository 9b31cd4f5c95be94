/-
  Runs of parts of the example function of package cargo, each found by the kernel.
-/
import Derived.Test.YtmhbhkipjjcmlaaGreatDoorRunA
import Derived.KernelRfl
set_option linter.unusedSimpArgs false
set_option linter.unusedVariables false
namespace Go.Proofs.YtmhbhkipjjcmlaaGreatDoor.Zs
open Go
theorem r3 : runsTo Em (joinLib 118) 60 19 a3 h3 102 v3 w3 105 = true := by kernel_rfl
theorem r21 : runsTo Em (joinLib 118) 60 121 a21 h21 123 v21 w21 123 = true := by kernel_rfl
theorem r27 : runsTo Em (joinLib 118) 60 19 a27 h27 126 v27 w27 129 = true := by kernel_rfl
theorem r38 : runsTo Em (joinLib 118) 60 17 a38 h38 419 v38 w38 419 = true := by kernel_rfl
theorem r41 : runsTo Em (joinLib 118) 60 121 a41 h41 505 v41 w41 505 = true := by kernel_rfl
theorem r42 : runsTo Em (joinLib 118) 60 62 a42 h42 506 v42 w42 506 = true := by kernel_rfl
theorem r45 : runsTo Em (joinLib 118) 60 22 a45 h45 516 v45 w45 516 = true := by kernel_rfl
theorem r54 : runsTo Em (orLib ml53 (orLib ml52 (orLib ml51 (orLib ml50 (orLib ml49 (joinLib 118)))))) 60 17 a54 h54 510 v54 w54 510 = true := by kernel_rfl
end Go.Proofs.YtmhbhkipjjcmlaaGreatDoor.Zs
