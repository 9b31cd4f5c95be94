/-
  Runs of parts of the example function of package cargo, each found by the kernel.
-/
import Derived.Test.YtmhbhkipjjcmlaaGreatDoorRunA
import Derived.KernelRfl
set_option linter.unusedSimpArgs false
set_option linter.unusedVariables false
namespace Go.Proofs.YtmhbhkipjjcmlaaGreatDoor.Zs
open Go
theorem r6 : runsTo Em (joinLib 118) 60 62 a6 h6 108 v6 w6 108 = true := by kernel_rfl
theorem r13 : runsTo Em (joinLib 118) 60 121 a13 h13 115 v13 w13 115 = true := by kernel_rfl
theorem r23 : runsTo Em (joinLib 118) 60 19 a23 h23 122 v23 w23 125 = true := by kernel_rfl
theorem r46 : runsTo Em (joinLib 118) 60 22 a46 h46 518 v46 w46 518 = true := by kernel_rfl
theorem r51 : runsTo Em (joinLib 118) 60 22 a51 h51 519 v51 w51 519 = true := by kernel_rfl
theorem r55 : runsTo Em (orLib ml54 (joinLib 118)) 60 56 a55 h55 507 v55 w55 622 = true := by kernel_rfl
theorem r57 : runsTo Em (orLib ml56 (joinLib 118)) 60 42 a57 h57 626 v57 w57 717 = true := by kernel_rfl
end Go.Proofs.YtmhbhkipjjcmlaaGreatDoor.Zs
