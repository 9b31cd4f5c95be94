/-
  Runs of parts of the example function of package cargo, each found by the kernel.
-/
import Derived.Test.YtliimmpokhmjeaaGreatDoorRunA
import Derived.KernelRfl
namespace Go.Proofs.YtliimmpokhmjeaaGreatDoor.Zev
open Go
theorem r0 : runsTo E0 (joinLib 54) 60 30 a0 h0 102 v0 w0 103 = true := by kernel_rfl
theorem r11 : runsTo E0 (joinLib 54) 60 15 a11 h11 110 v11 w11 113 = true := by kernel_rfl
theorem r12 : runsTo E0 (joinLib 54) 60 30 a12 h12 114 v12 w12 115 = true := by kernel_rfl
theorem r14 : runsTo E0 (joinLib 54) 60 31 a14 h14 116 v14 w14 116 = true := by kernel_rfl
theorem r24 : runsTo E0 (joinLib 54) 60 30 a24 h24 126 v24 w24 127 = true := by kernel_rfl
theorem r35 : runsTo E0 (orLib ml34 (joinLib 54)) 60 11 a35 h35 274 v35 w35 415 = true := by kernel_rfl
end Go.Proofs.YtliimmpokhmjeaaGreatDoor.Zev
