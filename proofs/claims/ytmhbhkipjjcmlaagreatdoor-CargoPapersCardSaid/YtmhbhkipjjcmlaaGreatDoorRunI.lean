/-
  Runs of parts of the example function of package cargo, each found by the kernel.
-/
import Derived.Test.YtmhbhkipjjcmlaaGreatDoorRunA
import Derived.KernelRfl
set_option linter.unusedSimpArgs false
set_option linter.unusedVariables false
namespace Go.Proofs.YtmhbhkipjjcmlaaGreatDoor.Zs
open Go
theorem r2 : runsTo Em (joinLib 118) 60 62 a2 h2 104 v2 w2 104 = true := by kernel_rfl
theorem r5 : runsTo Em (joinLib 118) 60 121 a5 h5 107 v5 w5 107 = true := by kernel_rfl
theorem r30 : runsTo Em (joinLib 118) 60 17 a30 h30 135 v30 w30 135 = true := by kernel_rfl
theorem r34 : runsTo Em (joinLib 118) 60 17 a34 h34 280 v34 w34 280 = true := by kernel_rfl
theorem r37 : runsTo Em (orLib ml36 (joinLib 118)) 60 37 a37 h37 415 v37 w37 415 = true := by kernel_rfl
theorem r40 : runsTo Em (joinLib 118) 60 122 a40 h40 504 v40 w40 505 = true := by kernel_rfl
theorem r48 : runsTo Em (orLib ml47 (orLib ml46 (orLib ml45 (orLib ml44 (orLib ml43 (joinLib 118)))))) 60 17 a48 h48 507 v48 w48 507 = true := by kernel_rfl
theorem r53 : runsTo Em (joinLib 118) 60 22 a53 h53 529 v53 w53 529 = true := by kernel_rfl
end Go.Proofs.YtmhbhkipjjcmlaaGreatDoor.Zs
