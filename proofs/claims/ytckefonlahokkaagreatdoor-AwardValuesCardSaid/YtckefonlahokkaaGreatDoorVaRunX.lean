/-
  The example function of the laws of package award returns true, by the runs of its parts.
-/
import Derived.Test.YtckefonlahokkaaGreatDoorVaRunB
import Derived.Test.YtckefonlahokkaaGreatDoorVaRunC
import Derived.Test.YtckefonlahokkaaGreatDoorVaRunD
import Derived.Test.YtckefonlahokkaaGreatDoorVaRunE
import Derived.Test.YtckefonlahokkaaGreatDoorVaRunY
set_option linter.unusedSimpArgs false
set_option linter.unusedVariables false
namespace Go.Proofs.YtckefonlahokkaaGreatDoor.Zs
open Go
theorem ok0 : CallsOk Em ml0:=plainM (memoLib_ok Em_ok (baseM_ok) r0) rfl rfl
theorem ok1 : CallsOk Em ml1:=plainM (memoLib_ok Em_ok (orLib_ok ok0 (baseM_ok)) r1) rfl rfl
theorem ok2 : CallsOk Em ml2:=plainM (memoLib_ok Em_ok (orLib_ok ok1 (baseM_ok)) r2) rfl rfl
theorem ok3 : CallsOk Em ml3:=plainM (memoLib_ok Em_ok (baseM_ok) r3) rfl rfl
theorem ok4 : CallsOk Em ml4:=plainM (memoLib_ok Em_ok (orLib_ok ok3 (baseM_ok)) r4) rfl rfl
theorem ok5 : CallsOk Em ml5:=plainM (memoLib_ok Em_ok (orLib_ok ok4 (baseM_ok)) r5) rfl rfl
theorem ok6 : CallsOk Em ml6:=plainM (memoLib_ok Em_ok (baseM_ok) r6) rfl rfl
theorem ok7 : CallsOk Em ml7:=plainM (memoLib_ok Em_ok (orLib_ok ok6 (baseM_ok)) r7) rfl rfl
theorem ok8 : CallsOk Em ml8:=plainM (memoLib_ok Em_ok (orLib_ok ok7 (baseM_ok)) r8) rfl rfl
theorem ok9 : CallsOk Em ml9:=plainM (memoLib_ok Em_ok (baseM_ok) r9) rfl rfl
theorem ok10 : CallsOk Em ml10:=memoLib_ok Em_ok (orLib_ok ok8 (orLib_ok ok5 (orLib_ok ok2 (baseM_ok)))) r10
theorem ok11 : CallsOk Em ml11:=plainM (memoLib_ok Em_ok (baseM_ok) r11) rfl rfl
theorem ok12 : CallsOk Em ml12:=plainM (memoLib_ok Em_ok (orLib_ok ok11 (orLib_ok ok8 (baseM_ok))) r12) rfl rfl
theorem ok13 : CallsOk Em ml13:=memoLib_ok Em_ok (orLib_ok ok12 (baseM_ok)) r13
theorem ok14 : CallsOk Em ml14:=memoLib_ok Em_ok (orLib_ok ok11 (orLib_ok ok5 (baseM_ok))) r14
theorem ok15 : CallsOk Em ml15:=memoLib_ok Em_ok (orLib_ok ok14 (orLib_ok ok11 (orLib_ok ok9 (orLib_ok ok8 (orLib_ok ok5 (orLib_ok ok2 (baseM_ok))))))) r15
theorem ok16 : CallsOk Em ml16:=memoLib_ok Em_ok (orLib_ok ok9 (orLib_ok ok8 (orLib_ok ok5 (orLib_ok ok2 (baseM_ok))))) r16
theorem okRoot : CallsOk Em (memoLib 6 [] hRoot 100 (.bool true) [] 100):=memoLib_ok Em_ok (orLib_ok ok16 (orLib_ok ok15 (orLib_ok ok13 (orLib_ok ok10 (orLib_ok ok9 (orLib_ok ok8 (orLib_ok ok5 (orLib_ok ok2 (baseM_ok))))))))) rRoot
end Go.Proofs.YtckefonlahokkaaGreatDoor.Zs
