/-
  Runs of parts of the example function of package cargo, each found by the kernel.
-/
import Derived.Test.YtliimmpokhmjeaaGreatDoorRunA
import Derived.KernelRfl
namespace Go.Proofs.YtliimmpokhmjeaaGreatDoor.Zev
open Go
theorem r1 : runsTo E0 (joinLib 54) 60 29 a1 h1 103 v1 w1 103 = true := by kernel_rfl
theorem r17 : runsTo E0 (joinLib 54) 60 29 a17 h17 119 v17 w17 119 = true := by kernel_rfl
theorem r28 : runsTo E0 (joinLib 54) 60 32 a28 h28 134 v28 w28 134 = true := by kernel_rfl
theorem r34 : runsTo E0 (joinLib 54) 60 32 a34 h34 280 v34 w34 280 = true := by kernel_rfl
theorem r42 : runsTo E0 (joinLib 54) 60 31 a42 h42 506 v42 w42 506 = true := by kernel_rfl
theorem r43 : runsTo E0 (joinLib 54) 60 52 a43 h43 512 v43 w43 512 = true := by kernel_rfl
theorem r51 : runsTo E0 (joinLib 54) 60 52 a51 h51 519 v51 w51 519 = true := by kernel_rfl
theorem r54 : runsTo E0 (orLib ml53 (orLib ml52 (orLib ml51 (orLib ml50 (orLib ml49 (joinLib 54)))))) 60 32 a54 h54 510 v54 w54 510 = true := by kernel_rfl
end Go.Proofs.YtliimmpokhmjeaaGreatDoor.Zev
