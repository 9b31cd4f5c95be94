/-
  Runs of parts of the example function of package cargo, each found by the kernel.
-/
import Derived.Test.YtmhbhkipjjcmlaaGreatDoorRunA
import Derived.KernelRfl
set_option linter.unusedSimpArgs false
set_option linter.unusedVariables false
namespace Go.Proofs.YtmhbhkipjjcmlaaGreatDoor.Zs
open Go
theorem r0 : runsTo Em (joinLib 118) 60 122 a0 h0 102 v0 w0 103 = true := by kernel_rfl
theorem r9 : runsTo Em (joinLib 118) 60 121 a9 h9 111 v9 w9 111 = true := by kernel_rfl
theorem r11 : runsTo Em (joinLib 118) 60 19 a11 h11 110 v11 w11 113 = true := by kernel_rfl
theorem r12 : runsTo Em (joinLib 118) 60 122 a12 h12 114 v12 w12 115 = true := by kernel_rfl
theorem r15 : runsTo Em (joinLib 118) 60 19 a15 h15 114 v15 w15 117 = true := by kernel_rfl
theorem r29 : runsTo Em (orLib ml28 (joinLib 118)) 60 44 a29 h29 129 v29 w29 129 = true := by kernel_rfl
theorem r36 : runsTo Em (joinLib 118) 60 17 a36 h36 418 v36 w36 418 = true := by kernel_rfl
theorem r44 : runsTo Em (joinLib 118) 60 22 a44 h44 514 v44 w44 514 = true := by kernel_rfl
end Go.Proofs.YtmhbhkipjjcmlaaGreatDoor.Zs
