/-
  Runs of parts of the example function of package award, each found by the kernel.
-/
import Derived.Test.YtfddkbbjnghefaaGreatDoorToRunA
import Derived.KernelRfl
set_option linter.unusedSimpArgs false
set_option linter.unusedVariables false
namespace Go.Proofs.YtfddkbbjnghefaaGreatDoor.Zs
open Go
theorem r6 : runsTo Em (baseL) 60 119 a6 hRoot 100 v6 [] 100 = true:=by kernel_rfl
theorem r7 : runsTo Em (orLib ml6 (baseL)) 60 96 a7 hRoot 100 v7 [] 100 = true:=by kernel_rfl
theorem r8 : runsTo Em (orLib ml7 (baseL)) 60 59 a8 hRoot 100 v8 [] 100 = true:=by kernel_rfl
theorem r9 : runsTo Em (baseL) 60 59 a9 hRoot 100 v9 [] 100 = true:=by kernel_rfl
theorem r15 : runsTo Em (orLib ml14 (orLib ml11 (orLib ml9 (orLib ml8 (orLib ml5 (orLib ml2 (baseL))))))) 60 19 a15 h15 147 v15 w15 175 = true:=by kernel_rfl
theorem r16 : runsTo Em (orLib ml9 (orLib ml8 (orLib ml5 (orLib ml2 (baseL))))) 60 14 a16 h16 217 v16 w16 233 = true:=by kernel_rfl
end Go.Proofs.YtfddkbbjnghefaaGreatDoor.Zs
