/-
  The example function of the laws of package claim returns true, by the runs of its parts.
-/
import Derived.Test.YtnahicnoofkfgaaGreatDoorDeRunB
import Derived.Test.YtnahicnoofkfgaaGreatDoorDeRunC
import Derived.Test.YtnahicnoofkfgaaGreatDoorDeRunD
import Derived.Test.YtnahicnoofkfgaaGreatDoorDeRunE
import Derived.Test.YtnahicnoofkfgaaGreatDoorDeRunF
import Derived.Test.YtnahicnoofkfgaaGreatDoorDeRunG
import Derived.Test.YtnahicnoofkfgaaGreatDoorDeRunH
import Derived.Test.YtnahicnoofkfgaaGreatDoorDeRunI
import Derived.Test.YtnahicnoofkfgaaGreatDoorDeRunY
set_option linter.unusedSimpArgs false
set_option linter.unusedVariables false
namespace Go.Proofs.YtnahicnoofkfgaaGreatDoor.Zs
open Go
theorem ok0 : CallsOk Em ml0 := plainM (memoLib_ok Em_ok (baseM_ok) r0) rfl rfl
theorem ok1 : CallsOk Em ml1 := plainM (memoLib_ok Em_ok (orLib_ok ok0 (baseM_ok)) r1) rfl rfl
theorem ok2 : CallsOk Em ml2 := memoLib_ok Em_ok (orLib_ok ok1 (baseM_ok)) r2
theorem ok3 : CallsOk Em ml3 := plainM (memoLib_ok Em_ok (baseM_ok) r3) rfl rfl
theorem ok4 : CallsOk Em ml4 := plainM (memoLib_ok Em_ok (orLib_ok ok3 (baseM_ok)) r4) rfl rfl
theorem ok5 : CallsOk Em ml5 := memoLib_ok Em_ok (orLib_ok ok4 (baseM_ok)) r5
theorem ok6 : CallsOk Em ml6 := plainM (memoLib_ok Em_ok (baseM_ok) r6) rfl rfl
theorem ok7 : CallsOk Em ml7 := plainM (memoLib_ok Em_ok (orLib_ok ok6 (baseM_ok)) r7) rfl rfl
theorem ok8 : CallsOk Em ml8 := memoLib_ok Em_ok (orLib_ok ok7 (baseM_ok)) r8
theorem ok9 : CallsOk Em ml9 := plainM (memoLib_ok Em_ok (baseM_ok) r9) rfl rfl
theorem ok10 : CallsOk Em ml10 := memoLib_ok Em_ok (orLib_ok ok9 (baseM_ok)) r10
theorem ok11 : CallsOk Em ml11 := plainM (memoLib_ok Em_ok (baseM_ok) r11) rfl rfl
theorem ok12 : CallsOk Em ml12 := memoLib_ok Em_ok (orLib_ok ok11 (baseM_ok)) r12
theorem ok13 : CallsOk Em ml13 := plainM (memoLib_ok Em_ok (baseM_ok) r13) rfl rfl
theorem ok14 : CallsOk Em ml14 := memoLib_ok Em_ok (orLib_ok ok13 (baseM_ok)) r14
theorem ok15 : CallsOk Em ml15 := plainM (memoLib_ok Em_ok (baseM_ok) r15) rfl rfl
theorem ok16 : CallsOk Em ml16 := memoLib_ok Em_ok (orLib_ok ok15 (baseM_ok)) r16
theorem ok17 : CallsOk Em ml17 := memoLib_ok Em_ok (orLib_ok ok15 (orLib_ok ok16 (orLib_ok ok13 (orLib_ok ok14 (orLib_ok ok11 (orLib_ok ok12 (orLib_ok ok9 (orLib_ok ok10 (orLib_ok ok7 (orLib_ok ok8 (orLib_ok ok4 (orLib_ok ok5 (orLib_ok ok1 (orLib_ok ok2 (baseM_ok))))))))))))))) r17
theorem ok18 : CallsOk Em ml18 := plainM (memoLib_ok Em_ok (baseM_ok) r18) rfl rfl
theorem ok19 : CallsOk Em ml19 := plainM (memoLib_ok Em_ok (baseM_ok) r19) rfl rfl
theorem ok20 : CallsOk Em ml20 := plainM (memoLib_ok Em_ok (baseM_ok) r20) rfl rfl
theorem ok21 : CallsOk Em ml21 := plainM (memoLib_ok Em_ok (baseM_ok) r21) rfl rfl
theorem ok22 : CallsOk Em ml22 := memoLib_ok Em_ok (orLib_ok ok21 (orLib_ok ok20 (orLib_ok ok19 (orLib_ok ok18 (baseM_ok))))) r22
theorem ok23 : CallsOk Em ml23 := plainM (memoLib_ok Em_ok (baseM_ok) r23) rfl rfl
theorem ok24 : CallsOk Em ml24 := plainM (memoLib_ok Em_ok (baseM_ok) r24) rfl rfl
theorem ok25 : CallsOk Em ml25 := plainM (memoLib_ok Em_ok (baseM_ok) r25) rfl rfl
theorem ok26 : CallsOk Em ml26 := memoLib_ok Em_ok (orLib_ok ok25 (orLib_ok ok24 (orLib_ok ok23 (orLib_ok ok21 (orLib_ok ok20 (orLib_ok ok19 (orLib_ok ok18 (baseM_ok)))))))) r26
theorem ok27 : CallsOk Em ml27 := plainM (memoLib_ok Em_ok (baseM_ok) r27) rfl rfl
theorem ok28 : CallsOk Em ml28 := memoLib_ok Em_ok (orLib_ok ok27 (orLib_ok ok25 (orLib_ok ok24 (orLib_ok ok23 (orLib_ok ok21 (orLib_ok ok20 (orLib_ok ok19 (orLib_ok ok18 (baseM_ok))))))))) r28
theorem ok29 : CallsOk Em ml29 := memoLib_ok Em_ok (orLib_ok ok21 (orLib_ok ok20 (orLib_ok ok19 (orLib_ok ok18 (orLib_ok ok15 (orLib_ok ok13 (orLib_ok ok11 (orLib_ok ok9 (orLib_ok ok7 (orLib_ok ok4 (orLib_ok ok1 (baseM_ok)))))))))))) r29
theorem ok30 : CallsOk Em ml30 := memoLib_ok Em_ok (orLib_ok ok18 (baseM_ok)) r30
theorem ok31 : CallsOk Em ml31 := plainM (memoLib_ok Em_ok (baseM_ok) r31) rfl rfl
theorem ok32 : CallsOk Em ml32 := plainM (memoLib_ok Em_ok (orLib_ok ok31 (baseM_ok)) r32) rfl rfl
theorem ok33 : CallsOk Em ml33 := memoLib_ok Em_ok (orLib_ok ok32 (baseM_ok)) r33
theorem ok34 : CallsOk Em ml34 := plainM (memoLib_ok Em_ok (baseM_ok) r34) rfl rfl
theorem ok35 : CallsOk Em ml35 := memoLib_ok Em_ok (orLib_ok ok34 (orLib_ok ok21 (orLib_ok ok20 (orLib_ok ok19 (orLib_ok ok18 (baseM_ok)))))) r35
theorem ok36 : CallsOk Em ml36 := memoLib_ok Em_ok (orLib_ok ok35 (orLib_ok ok32 (orLib_ok ok15 (orLib_ok ok13 (orLib_ok ok11 (orLib_ok ok9 (orLib_ok ok7 (orLib_ok ok4 (orLib_ok ok1 (baseM_ok)))))))))) r36
theorem okRoot : CallsOk Em (memoLib 28 [] hRoot 100 (.bool true) [] 100) := memoLib_ok Em_ok (orLib_ok ok36 (orLib_ok ok32 (orLib_ok ok33 (orLib_ok ok30 (orLib_ok ok29 (orLib_ok ok28 (orLib_ok ok26 (orLib_ok ok22 (orLib_ok ok15 (orLib_ok ok13 (orLib_ok ok11 (orLib_ok ok9 (orLib_ok ok7 (orLib_ok ok4 (orLib_ok ok1 (orLib_ok ok17 (baseM_ok))))))))))))))))) rRoot
end Go.Proofs.YtnahicnoofkfgaaGreatDoor.Zs
