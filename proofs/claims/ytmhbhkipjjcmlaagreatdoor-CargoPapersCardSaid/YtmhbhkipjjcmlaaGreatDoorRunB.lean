/-
  Runs of parts of the example function of package cargo, each found by the kernel.
-/
import Derived.Test.YtmhbhkipjjcmlaaGreatDoorRunA
import Derived.KernelRfl
set_option linter.unusedSimpArgs false
set_option linter.unusedVariables false
namespace Go.Proofs.YtmhbhkipjjcmlaaGreatDoor.Zs
open Go
theorem r4 : runsTo Em (joinLib 118) 60 122 a4 h4 106 v4 w4 107 = true := by kernel_rfl
theorem r10 : runsTo Em (joinLib 118) 60 62 a10 h10 112 v10 w10 112 = true := by kernel_rfl
theorem r16 : runsTo Em (joinLib 118) 60 122 a16 h16 118 v16 w16 119 = true := by kernel_rfl
theorem r33 : runsTo Em (orLib ml32 (joinLib 118)) 60 52 a33 h33 131 v33 w33 274 = true := by kernel_rfl
theorem r50 : runsTo Em (joinLib 118) 60 22 a50 h50 517 v50 w50 517 = true := by kernel_rfl
theorem rRoot : runsTo Em (orLib ml57 (orLib ml55 (orLib ml48 (orLib ml42 (orLib ml41 (orLib ml40 (orLib ml39 (orLib ml37 (orLib ml35 (orLib ml33 (orLib ml31 (orLib ml29 (orLib ml27 (orLib ml26 (orLib ml25 (orLib ml24 (orLib ml23 (orLib ml22 (orLib ml21 (orLib ml20 (orLib ml19 (orLib ml18 (orLib ml17 (orLib ml16 (orLib ml15 (orLib ml14 (orLib ml13 (orLib ml12 (orLib ml11 (orLib ml10 (orLib ml9 (orLib ml8 (orLib ml7 (orLib ml6 (orLib ml5 (orLib ml4 (orLib ml3 (orLib ml2 (orLib ml1 (orLib ml0 (joinLib 118))))))))))))))))))))))))))))))))))))))))) 60 16 [] hRoot 100 (.bool true) [] 100 = true := by kernel_rfl
end Go.Proofs.YtmhbhkipjjcmlaaGreatDoor.Zs
