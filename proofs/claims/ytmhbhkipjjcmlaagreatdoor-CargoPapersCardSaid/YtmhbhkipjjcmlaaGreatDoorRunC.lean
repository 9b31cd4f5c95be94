/-
  Runs of parts of the example function of package cargo, each found by the kernel.
-/
import Derived.Test.YtmhbhkipjjcmlaaGreatDoorRunA
import Derived.KernelRfl
set_option linter.unusedSimpArgs false
set_option linter.unusedVariables false
namespace Go.Proofs.YtmhbhkipjjcmlaaGreatDoor.Zs
open Go
theorem r8 : runsTo Em (joinLib 118) 60 122 a8 h8 110 v8 w8 111 = true := by kernel_rfl
theorem r14 : runsTo Em (joinLib 118) 60 62 a14 h14 116 v14 w14 116 = true := by kernel_rfl
theorem r24 : runsTo Em (joinLib 118) 60 122 a24 h24 126 v24 w24 127 = true := by kernel_rfl
theorem r35 : runsTo Em (orLib ml34 (joinLib 118)) 60 52 a35 h35 274 v35 w35 415 = true := by kernel_rfl
theorem r39 : runsTo Em (orLib ml38 (joinLib 118)) 60 35 a39 h39 415 v39 w39 503 = true := by kernel_rfl
theorem r49 : runsTo Em (joinLib 118) 60 22 a49 h49 515 v49 w49 515 = true := by kernel_rfl
end Go.Proofs.YtmhbhkipjjcmlaaGreatDoor.Zs
