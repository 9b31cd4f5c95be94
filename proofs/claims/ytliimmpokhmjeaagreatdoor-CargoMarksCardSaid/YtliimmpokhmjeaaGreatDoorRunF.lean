/-
  Runs of parts of the example function of package cargo, each found by the kernel.
-/
import Derived.Test.YtliimmpokhmjeaaGreatDoorRunA
import Derived.KernelRfl
namespace Go.Proofs.YtliimmpokhmjeaaGreatDoor.Zev
open Go
theorem r9 : runsTo E0 (joinLib 54) 60 29 a9 h9 111 v9 w9 111 = true := by kernel_rfl
theorem r15 : runsTo E0 (joinLib 54) 60 15 a15 h15 114 v15 w15 117 = true := by kernel_rfl
theorem r16 : runsTo E0 (joinLib 54) 60 30 a16 h16 118 v16 w16 119 = true := by kernel_rfl
theorem r18 : runsTo E0 (joinLib 54) 60 31 a18 h18 120 v18 w18 120 = true := by kernel_rfl
theorem r27 : runsTo E0 (joinLib 54) 60 15 a27 h27 126 v27 w27 129 = true := by kernel_rfl
theorem r49 : runsTo E0 (joinLib 54) 60 52 a49 h49 515 v49 w49 515 = true := by kernel_rfl
theorem r56 : runsTo E0 (joinLib 54) 60 32 a56 h56 628 v56 w56 628 = true := by kernel_rfl
theorem rRoot : runsTo E0 (orLib ml57 (orLib ml55 (orLib ml48 (orLib ml42 (orLib ml41 (orLib ml40 (orLib ml39 (orLib ml37 (orLib ml35 (orLib ml33 (orLib ml31 (orLib ml29 (orLib ml27 (orLib ml26 (orLib ml25 (orLib ml24 (orLib ml23 (orLib ml22 (orLib ml21 (orLib ml20 (orLib ml19 (orLib ml18 (orLib ml17 (orLib ml16 (orLib ml15 (orLib ml14 (orLib ml13 (orLib ml12 (orLib ml11 (orLib ml10 (orLib ml9 (orLib ml8 (orLib ml7 (orLib ml6 (orLib ml5 (orLib ml4 (orLib ml3 (orLib ml2 (orLib ml1 (orLib ml0 (joinLib 54))))))))))))))))))))))))))))))))))))))))) 60 4 [] hRoot 100 (.bool true) [] 100 = true := by kernel_rfl
end Go.Proofs.YtliimmpokhmjeaaGreatDoor.Zev
