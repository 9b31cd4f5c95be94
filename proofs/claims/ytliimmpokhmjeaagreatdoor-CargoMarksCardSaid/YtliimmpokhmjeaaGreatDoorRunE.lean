/-
  Runs of parts of the example function of package cargo, each found by the kernel.
-/
import Derived.Test.YtliimmpokhmjeaaGreatDoorRunA
import Derived.KernelRfl
namespace Go.Proofs.YtliimmpokhmjeaaGreatDoor.Zev
open Go
theorem r7 : runsTo E0 (joinLib 54) 60 15 a7 h7 106 v7 w7 109 = true := by kernel_rfl
theorem r21 : runsTo E0 (joinLib 54) 60 29 a21 h21 123 v21 w21 123 = true := by kernel_rfl
theorem r22 : runsTo E0 (joinLib 54) 60 31 a22 h22 124 v22 w22 124 = true := by kernel_rfl
theorem r29 : runsTo E0 (orLib ml28 (joinLib 54)) 60 10 a29 h29 129 v29 w29 129 = true := by kernel_rfl
theorem r31 : runsTo E0 (orLib ml30 (joinLib 54)) 60 10 a31 h31 130 v31 w31 130 = true := by kernel_rfl
theorem r41 : runsTo E0 (joinLib 54) 60 29 a41 h41 505 v41 w41 505 = true := by kernel_rfl
theorem r45 : runsTo E0 (joinLib 54) 60 52 a45 h45 516 v45 w45 516 = true := by kernel_rfl
theorem r53 : runsTo E0 (joinLib 54) 60 52 a53 h53 529 v53 w53 529 = true := by kernel_rfl
end Go.Proofs.YtliimmpokhmjeaaGreatDoor.Zev
