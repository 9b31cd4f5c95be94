/-
  The example function of the laws of package drift returns true, by the runs of its parts.
-/
import Derived.Test.YtpjkfjnjbekcaaaGreatDoorRunB
import Derived.Test.YtpjkfjnjbekcaaaGreatDoorRunC
import Derived.Test.YtpjkfjnjbekcaaaGreatDoorRunD
import Derived.Test.YtpjkfjnjbekcaaaGreatDoorRunE
import Derived.Test.YtpjkfjnjbekcaaaGreatDoorRunF
import Derived.Test.YtpjkfjnjbekcaaaGreatDoorRunG
import Derived.Test.YtpjkfjnjbekcaaaGreatDoorRunH
import Derived.Test.YtpjkfjnjbekcaaaGreatDoorRunI
import Derived.Test.YtpjkfjnjbekcaaaGreatDoorRunY
set_option linter.unusedSimpArgs false
set_option linter.unusedVariables false
namespace Go.Proofs.YtpjkfjnjbekcaaaGreatDoor.Zs
open Go
theorem ok0 : CallsOk Em ml0 := memoLib_ok Em_ok (baseM_ok) r0
theorem ok1 : CallsOk Em ml1 := memoLib_ok Em_ok (baseM_ok) r1
theorem ok2 : CallsOk Em ml2 := memoLib_ok Em_ok (baseM_ok) r2
theorem ok3 : CallsOk Em ml3 := memoLib_ok Em_ok (orLib_ok ok2 (baseM_ok)) r3
theorem ok4 : CallsOk Em ml4 := memoLib_ok Em_ok (baseM_ok) r4
theorem ok5 : CallsOk Em ml5 := memoLib_ok Em_ok (orLib_ok ok4 (baseM_ok)) r5
theorem ok6 : CallsOk Em ml6 := memoLib_ok Em_ok (baseM_ok) r6
theorem ok7 : CallsOk Em ml7 := memoLib_ok Em_ok (orLib_ok ok6 (baseM_ok)) r7
theorem ok8 : CallsOk Em ml8 := memoLib_ok Em_ok (baseM_ok) r8
theorem ok9 : CallsOk Em ml9 := memoLib_ok Em_ok (orLib_ok ok8 (baseM_ok)) r9
theorem ok10 : CallsOk Em ml10 := memoLib_ok Em_ok (baseM_ok) r10
theorem ok11 : CallsOk Em ml11 := memoLib_ok Em_ok (baseM_ok) r11
theorem ok12 : CallsOk Em ml12 := memoLib_ok Em_ok (baseM_ok) r12
theorem ok13 : CallsOk Em ml13 := memoLib_ok Em_ok (baseM_ok) r13
theorem ok14 : CallsOk Em ml14 := memoLib_ok Em_ok (baseM_ok) r14
theorem ok15 : CallsOk Em ml15 := memoLib_ok Em_ok (orLib_ok ok14 (orLib_ok ok13 (orLib_ok ok12 (baseM_ok)))) r15
theorem ok16 : CallsOk Em ml16 := memoLib_ok Em_ok (orLib_ok ok15 (orLib_ok ok11 (orLib_ok ok10 (baseM_ok)))) r16
theorem ok17 : CallsOk Em ml17 := memoLib_ok Em_ok (baseM_ok) r17
theorem ok18 : CallsOk Em ml18 := memoLib_ok Em_ok (baseM_ok) r18
theorem ok19 : CallsOk Em ml19 := memoLib_ok Em_ok (orLib_ok ok18 (orLib_ok ok17 (baseM_ok))) r19
theorem okRoot : CallsOk Em (memoLib 4 [] hRoot 100 (.bool true) [] 100) := memoLib_ok Em_ok (orLib_ok ok19 (orLib_ok ok16 (orLib_ok ok9 (orLib_ok ok7 (orLib_ok ok5 (orLib_ok ok3 (orLib_ok ok1 (orLib_ok ok0 (baseM_ok))))))))) rRoot
end Go.Proofs.YtpjkfjnjbekcaaaGreatDoor.Zs
