/-
  The example function of the laws of package award returns true, by the runs of its parts.
-/
import Derived.Test.YtfddkbbjnghefaaGreatDoorToRunB
import Derived.Test.YtfddkbbjnghefaaGreatDoorToRunC
import Derived.Test.YtfddkbbjnghefaaGreatDoorToRunD
import Derived.Test.YtfddkbbjnghefaaGreatDoorToRunE
import Derived.Test.YtfddkbbjnghefaaGreatDoorToRunY
set_option linter.unusedSimpArgs false
set_option linter.unusedVariables false
namespace Go.Proofs.YtfddkbbjnghefaaGreatDoor.Zs
open Go
theorem ok0 : zu Em ml0:=plainM (yz Em_ok (baseM_ok) r0) rfl rfl
theorem ok1 : zu Em ml1:=plainM (yz Em_ok (yd ok0 (baseM_ok)) r1) rfl rfl
theorem ok2 : zu Em ml2:=plainM (yz Em_ok (yd ok1 (baseM_ok)) r2) rfl rfl
theorem ok3 : zu Em ml3:=plainM (yz Em_ok (baseM_ok) r3) rfl rfl
theorem ok4 : zu Em ml4:=plainM (yz Em_ok (yd ok3 (baseM_ok)) r4) rfl rfl
theorem ok5 : zu Em ml5:=plainM (yz Em_ok (yd ok4 (baseM_ok)) r5) rfl rfl
theorem ok6 : zu Em ml6:=plainM (yz Em_ok (baseM_ok) r6) rfl rfl
theorem ok7 : zu Em ml7:=plainM (yz Em_ok (yd ok6 (baseM_ok)) r7) rfl rfl
theorem ok8 : zu Em ml8:=plainM (yz Em_ok (yd ok7 (baseM_ok)) r8) rfl rfl
theorem ok9 : zu Em ml9:=plainM (yz Em_ok (baseM_ok) r9) rfl rfl
theorem ok10 : zu Em ml10:=yz Em_ok (yd ok8 (yd ok5 (yd ok2 (baseM_ok)))) r10
theorem ok11 : zu Em ml11:=plainM (yz Em_ok (baseM_ok) r11) rfl rfl
theorem ok12 : zu Em ml12:=plainM (yz Em_ok (yd ok11 (yd ok8 (baseM_ok))) r12) rfl rfl
theorem ok13 : zu Em ml13:=yz Em_ok (yd ok12 (baseM_ok)) r13
theorem ok14 : zu Em ml14:=yz Em_ok (yd ok11 (yd ok5 (baseM_ok))) r14
theorem ok15 : zu Em ml15:=yz Em_ok (yd ok14 (yd ok11 (yd ok9 (yd ok8 (yd ok5 (yd ok2 (baseM_ok))))))) r15
theorem ok16 : zu Em ml16:=yz Em_ok (yd ok9 (yd ok8 (yd ok5 (yd ok2 (baseM_ok))))) r16
theorem okRoot : zu Em (memoLib 8 [] hRoot 100 (.bool true) [] 100):=yz Em_ok (yd ok16 (yd ok15 (yd ok13 (yd ok10 (yd ok9 (yd ok8 (yd ok5 (yd ok2 (baseM_ok))))))))) rRoot
end Go.Proofs.YtfddkbbjnghefaaGreatDoor.Zs
