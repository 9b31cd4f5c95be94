/-
  Runs of parts of the example function of package cargo, each found by the kernel.
-/
import Derived.Test.YtmhbhkipjjcmlaaGreatDoorRunA
import Derived.KernelRfl
set_option linter.unusedSimpArgs false
set_option linter.unusedVariables false
namespace Go.Proofs.YtmhbhkipjjcmlaaGreatDoor.Zs
open Go
theorem r1 : runsTo Em (joinLib 118) 60 121 a1 h1 103 v1 w1 103 = true := by kernel_rfl
theorem r18 : runsTo Em (joinLib 118) 60 62 a18 h18 120 v18 w18 120 = true := by kernel_rfl
theorem r20 : runsTo Em (joinLib 118) 60 122 a20 h20 122 v20 w20 123 = true := by kernel_rfl
theorem r22 : runsTo Em (joinLib 118) 60 62 a22 h22 124 v22 w22 124 = true := by kernel_rfl
theorem r25 : runsTo Em (joinLib 118) 60 121 a25 h25 127 v25 w25 127 = true := by kernel_rfl
theorem r28 : runsTo Em (joinLib 118) 60 17 a28 h28 134 v28 w28 134 = true := by kernel_rfl
theorem r32 : runsTo Em (joinLib 118) 60 17 a32 h32 137 v32 w32 137 = true := by kernel_rfl
theorem r43 : runsTo Em (joinLib 118) 60 22 a43 h43 512 v43 w43 512 = true := by kernel_rfl
end Go.Proofs.YtmhbhkipjjcmlaaGreatDoor.Zs
