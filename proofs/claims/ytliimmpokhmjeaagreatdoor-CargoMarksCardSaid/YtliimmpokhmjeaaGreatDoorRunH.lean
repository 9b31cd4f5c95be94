/-
  Runs of parts of the example function of package cargo, each found by the kernel.
-/
import Derived.Test.YtliimmpokhmjeaaGreatDoorRunA
import Derived.KernelRfl
namespace Go.Proofs.YtliimmpokhmjeaaGreatDoor.Zev
open Go
theorem r19 : runsTo E0 (joinLib 54) 60 15 a19 h19 118 v19 w19 121 = true := by kernel_rfl
theorem r25 : runsTo E0 (joinLib 54) 60 29 a25 h25 127 v25 w25 127 = true := by kernel_rfl
theorem r26 : runsTo E0 (joinLib 54) 60 31 a26 h26 128 v26 w26 128 = true := by kernel_rfl
theorem r30 : runsTo E0 (joinLib 54) 60 32 a30 h30 135 v30 w30 135 = true := by kernel_rfl
theorem r36 : runsTo E0 (joinLib 54) 60 32 a36 h36 418 v36 w36 418 = true := by kernel_rfl
theorem r48 : runsTo E0 (orLib ml47 (orLib ml46 (orLib ml45 (orLib ml44 (orLib ml43 (joinLib 54)))))) 60 32 a48 h48 507 v48 w48 507 = true := by kernel_rfl
theorem r50 : runsTo E0 (joinLib 54) 60 52 a50 h50 517 v50 w50 517 = true := by kernel_rfl
theorem r52 : runsTo E0 (joinLib 54) 60 52 a52 h52 521 v52 w52 521 = true := by kernel_rfl
end Go.Proofs.YtliimmpokhmjeaaGreatDoor.Zev
