/-
  Runs of parts of the example function of package cargo, each found by the kernel.
-/
import Derived.Test.YtliimmpokhmjeaaGreatDoorRunA
import Derived.KernelRfl
namespace Go.Proofs.YtliimmpokhmjeaaGreatDoor.Zev
open Go
theorem r6 : runsTo E0 (joinLib 54) 60 31 a6 h6 108 v6 w6 108 = true := by kernel_rfl
theorem r13 : runsTo E0 (joinLib 54) 60 29 a13 h13 115 v13 w13 115 = true := by kernel_rfl
theorem r23 : runsTo E0 (joinLib 54) 60 15 a23 h23 122 v23 w23 125 = true := by kernel_rfl
theorem r46 : runsTo E0 (joinLib 54) 60 52 a46 h46 518 v46 w46 518 = true := by kernel_rfl
theorem r47 : runsTo E0 (joinLib 54) 60 52 a47 h47 526 v47 w47 526 = true := by kernel_rfl
theorem r55 : runsTo E0 (orLib ml54 (joinLib 54)) 60 16 a55 h55 507 v55 w55 622 = true := by kernel_rfl
theorem r57 : runsTo E0 (orLib ml56 (joinLib 54)) 60 18 a57 h57 626 v57 w57 717 = true := by kernel_rfl
end Go.Proofs.YtliimmpokhmjeaaGreatDoor.Zev
