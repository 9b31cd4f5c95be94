/-
  Runs of parts of the example function of package award, each found by the kernel.
-/
import Derived.Test.YtfddkbbjnghefaaGreatDoorToRunA
import Derived.KernelRfl
set_option linter.unusedSimpArgs false
set_option linter.unusedVariables false
namespace Go.Proofs.YtfddkbbjnghefaaGreatDoor.Zs
open Go
theorem r0 : runsTo Em (baseL) 60 119 a0 hRoot 100 v0 [] 100 = true:=by kernel_rfl
theorem r1 : runsTo Em (orLib ml0 (baseL)) 60 96 a1 hRoot 100 v1 [] 100 = true:=by kernel_rfl
theorem r12 : runsTo Em (orLib ml11 (orLib ml8 (baseL))) 60 42 a12 hRoot 100 v12 [] 100 = true:=by kernel_rfl
theorem rRoot : runsTo Em (orLib ml16 (orLib ml15 (orLib ml13 (orLib ml10 (orLib ml9 (orLib ml8 (orLib ml5 (orLib ml2 (baseL))))))))) 60 8 [] hRoot 100 (.bool true) [] 100 = true:=by kernel_rfl
end Go.Proofs.YtfddkbbjnghefaaGreatDoor.Zs
