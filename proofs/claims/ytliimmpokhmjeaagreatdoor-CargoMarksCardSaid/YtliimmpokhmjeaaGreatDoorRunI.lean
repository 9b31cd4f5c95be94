/-
  Runs of parts of the example function of package cargo, each found by the kernel.
-/
import Derived.Test.YtliimmpokhmjeaaGreatDoorRunA
import Derived.KernelRfl
namespace Go.Proofs.YtliimmpokhmjeaaGreatDoor.Zev
open Go
theorem r2 : runsTo E0 (joinLib 54) 60 31 a2 h2 104 v2 w2 104 = true := by kernel_rfl
theorem r3 : runsTo E0 (joinLib 54) 60 15 a3 h3 102 v3 w3 105 = true := by kernel_rfl
theorem r5 : runsTo E0 (joinLib 54) 60 29 a5 h5 107 v5 w5 107 = true := by kernel_rfl
theorem r8 : runsTo E0 (joinLib 54) 60 30 a8 h8 110 v8 w8 111 = true := by kernel_rfl
theorem r20 : runsTo E0 (joinLib 54) 60 30 a20 h20 122 v20 w20 123 = true := by kernel_rfl
theorem r32 : runsTo E0 (joinLib 54) 60 32 a32 h32 137 v32 w32 137 = true := by kernel_rfl
theorem r38 : runsTo E0 (joinLib 54) 60 32 a38 h38 419 v38 w38 419 = true := by kernel_rfl
theorem r39 : runsTo E0 (orLib ml38 (joinLib 54)) 60 13 a39 h39 415 v39 w39 503 = true := by kernel_rfl
end Go.Proofs.YtliimmpokhmjeaaGreatDoor.Zev
