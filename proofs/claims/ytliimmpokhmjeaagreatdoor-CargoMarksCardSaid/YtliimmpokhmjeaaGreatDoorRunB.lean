/-
  Runs of parts of the example function of package cargo, each found by the kernel.
-/
import Derived.Test.YtliimmpokhmjeaaGreatDoorRunA
import Derived.KernelRfl
namespace Go.Proofs.YtliimmpokhmjeaaGreatDoor.Zev
open Go
theorem r4 : runsTo E0 (joinLib 54) 60 30 a4 h4 106 v4 w4 107 = true := by kernel_rfl
theorem r10 : runsTo E0 (joinLib 54) 60 31 a10 h10 112 v10 w10 112 = true := by kernel_rfl
theorem r33 : runsTo E0 (orLib ml32 (joinLib 54)) 60 11 a33 h33 131 v33 w33 274 = true := by kernel_rfl
theorem r37 : runsTo E0 (orLib ml36 (joinLib 54)) 60 12 a37 h37 415 v37 w37 415 = true := by kernel_rfl
theorem r40 : runsTo E0 (joinLib 54) 60 30 a40 h40 504 v40 w40 505 = true := by kernel_rfl
theorem r44 : runsTo E0 (joinLib 54) 60 52 a44 h44 514 v44 w44 514 = true := by kernel_rfl
end Go.Proofs.YtliimmpokhmjeaaGreatDoor.Zev
