/-
  The example function of the laws of package award returns true, by the runs of its parts.
-/
import Derived.Test.YtfddkbbjnghefaaGreatDoorFoRunB
import Derived.Test.YtfddkbbjnghefaaGreatDoorFoRunC
import Derived.Test.YtfddkbbjnghefaaGreatDoorFoRunD
import Derived.Test.YtfddkbbjnghefaaGreatDoorFoRunE
import Derived.Test.YtfddkbbjnghefaaGreatDoorFoRunY
set_option linter.unusedSimpArgs false
set_option linter.unusedVariables false
namespace Go.Proofs.YtfddkbbjnghefaaGreatDoor.Zs
open Go
theorem ok0 : zt Em ml0:=plainM (yM Em_ok (baseM_ok) r0) rfl rfl
theorem ok1 : zt Em ml1:=plainM (yM Em_ok (ym ok0 (baseM_ok)) r1) rfl rfl
theorem ok2 : zt Em ml2:=plainM (yM Em_ok (ym ok1 (baseM_ok)) r2) rfl rfl
theorem ok3 : zt Em ml3:=plainM (yM Em_ok (baseM_ok) r3) rfl rfl
theorem ok4 : zt Em ml4:=plainM (yM Em_ok (ym ok3 (baseM_ok)) r4) rfl rfl
theorem ok5 : zt Em ml5:=plainM (yM Em_ok (ym ok4 (baseM_ok)) r5) rfl rfl
theorem ok6 : zt Em ml6:=plainM (yM Em_ok (baseM_ok) r6) rfl rfl
theorem ok7 : zt Em ml7:=plainM (yM Em_ok (ym ok6 (baseM_ok)) r7) rfl rfl
theorem ok8 : zt Em ml8:=plainM (yM Em_ok (ym ok7 (baseM_ok)) r8) rfl rfl
theorem ok9 : zt Em ml9:=plainM (yM Em_ok (baseM_ok) r9) rfl rfl
theorem ok10 : zt Em ml10:=yM Em_ok (ym ok8 (ym ok5 (ym ok2 (baseM_ok)))) r10
theorem ok11 : zt Em ml11:=plainM (yM Em_ok (baseM_ok) r11) rfl rfl
theorem ok12 : zt Em ml12:=plainM (yM Em_ok (ym ok11 (ym ok8 (baseM_ok))) r12) rfl rfl
theorem ok13 : zt Em ml13:=yM Em_ok (ym ok12 (baseM_ok)) r13
theorem ok14 : zt Em ml14:=yM Em_ok (ym ok11 (ym ok5 (baseM_ok))) r14
theorem ok15 : zt Em ml15:=yM Em_ok (ym ok14 (ym ok11 (ym ok9 (ym ok8 (ym ok5 (ym ok2 (baseM_ok))))))) r15
theorem ok16 : zt Em ml16:=yM Em_ok (ym ok9 (ym ok8 (ym ok5 (ym ok2 (baseM_ok))))) r16
theorem okRoot : zt Em (memoLib 8 [] hRoot 100 (.bool true) [] 100):=yM Em_ok (ym ok16 (ym ok15 (ym ok13 (ym ok10 (ym ok9 (ym ok8 (ym ok5 (ym ok2 (baseM_ok))))))))) rRoot
end Go.Proofs.YtfddkbbjnghefaaGreatDoor.Zs
