/-
  Runs of parts of the example function of package award, each found by the kernel.
-/
import Derived.Test.YtfddkbbjnghefaaGreatDoorToRunA
import Derived.KernelRfl
set_option linter.unusedSimpArgs false
set_option linter.unusedVariables false
namespace Go.Proofs.YtfddkbbjnghefaaGreatDoor.Zs
open Go
theorem r3 : runsTo Em (baseL) 60 119 a3 hRoot 100 v3 [] 100 = true:=by kernel_rfl
theorem r4 : runsTo Em (orLib ml3 (baseL)) 60 96 a4 hRoot 100 v4 [] 100 = true:=by kernel_rfl
theorem r5 : runsTo Em (orLib ml4 (baseL)) 60 59 a5 hRoot 100 v5 [] 100 = true:=by kernel_rfl
theorem r10 : runsTo Em (orLib ml8 (orLib ml5 (orLib ml2 (baseL)))) 60 11 a10 h10 104 v10 w10 104 = true:=by kernel_rfl
theorem r11 : runsTo Em (baseL) 60 62 a11 hRoot 100 v11 [] 100 = true:=by kernel_rfl
theorem r14 : runsTo Em (orLib ml11 (orLib ml5 (baseL))) 60 17 a14 h14 150 v14 w14 175 = true:=by kernel_rfl
end Go.Proofs.YtfddkbbjnghefaaGreatDoor.Zs
