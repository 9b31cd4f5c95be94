/-
  The example function of the laws of package cargo returns true, by the runs of its parts.
-/
import Derived.Test.YtmhbhkipjjcmlaaGreatDoorRunB
import Derived.Test.YtmhbhkipjjcmlaaGreatDoorRunC
import Derived.Test.YtmhbhkipjjcmlaaGreatDoorRunD
import Derived.Test.YtmhbhkipjjcmlaaGreatDoorRunE
import Derived.Test.YtmhbhkipjjcmlaaGreatDoorRunF
import Derived.Test.YtmhbhkipjjcmlaaGreatDoorRunG
import Derived.Test.YtmhbhkipjjcmlaaGreatDoorRunH
import Derived.Test.YtmhbhkipjjcmlaaGreatDoorRunI
import Derived.Test.YtmhbhkipjjcmlaaGreatDoorRunY
set_option linter.unusedSimpArgs false
set_option linter.unusedVariables false
namespace Go.Proofs.YtmhbhkipjjcmlaaGreatDoor.Zs
open Go
theorem ok0 : CallsOk Em ml0 := memoLib_ok Em_ok (baseM_ok) r0
theorem ok1 : CallsOk Em ml1 := memoLib_ok Em_ok (baseM_ok) r1
theorem ok2 : CallsOk Em ml2 := memoLib_ok Em_ok (baseM_ok) r2
theorem ok3 : CallsOk Em ml3 := memoLib_ok Em_ok (baseM_ok) r3
theorem ok4 : CallsOk Em ml4 := memoLib_ok Em_ok (baseM_ok) r4
theorem ok5 : CallsOk Em ml5 := memoLib_ok Em_ok (baseM_ok) r5
theorem ok6 : CallsOk Em ml6 := memoLib_ok Em_ok (baseM_ok) r6
theorem ok7 : CallsOk Em ml7 := memoLib_ok Em_ok (baseM_ok) r7
theorem ok8 : CallsOk Em ml8 := memoLib_ok Em_ok (baseM_ok) r8
theorem ok9 : CallsOk Em ml9 := memoLib_ok Em_ok (baseM_ok) r9
theorem ok10 : CallsOk Em ml10 := memoLib_ok Em_ok (baseM_ok) r10
theorem ok11 : CallsOk Em ml11 := memoLib_ok Em_ok (baseM_ok) r11
theorem ok12 : CallsOk Em ml12 := memoLib_ok Em_ok (baseM_ok) r12
theorem ok13 : CallsOk Em ml13 := memoLib_ok Em_ok (baseM_ok) r13
theorem ok14 : CallsOk Em ml14 := memoLib_ok Em_ok (baseM_ok) r14
theorem ok15 : CallsOk Em ml15 := memoLib_ok Em_ok (baseM_ok) r15
theorem ok16 : CallsOk Em ml16 := memoLib_ok Em_ok (baseM_ok) r16
theorem ok17 : CallsOk Em ml17 := memoLib_ok Em_ok (baseM_ok) r17
theorem ok18 : CallsOk Em ml18 := memoLib_ok Em_ok (baseM_ok) r18
theorem ok19 : CallsOk Em ml19 := memoLib_ok Em_ok (baseM_ok) r19
theorem ok20 : CallsOk Em ml20 := memoLib_ok Em_ok (baseM_ok) r20
theorem ok21 : CallsOk Em ml21 := memoLib_ok Em_ok (baseM_ok) r21
theorem ok22 : CallsOk Em ml22 := memoLib_ok Em_ok (baseM_ok) r22
theorem ok23 : CallsOk Em ml23 := memoLib_ok Em_ok (baseM_ok) r23
theorem ok24 : CallsOk Em ml24 := memoLib_ok Em_ok (baseM_ok) r24
theorem ok25 : CallsOk Em ml25 := memoLib_ok Em_ok (baseM_ok) r25
theorem ok26 : CallsOk Em ml26 := memoLib_ok Em_ok (baseM_ok) r26
theorem ok27 : CallsOk Em ml27 := memoLib_ok Em_ok (baseM_ok) r27
theorem ok28 : CallsOk Em ml28 := memoLib_ok Em_ok (baseM_ok) r28
theorem ok29 : CallsOk Em ml29 := memoLib_ok Em_ok (orLib_ok ok28 (baseM_ok)) r29
theorem ok30 : CallsOk Em ml30 := memoLib_ok Em_ok (baseM_ok) r30
theorem ok31 : CallsOk Em ml31 := memoLib_ok Em_ok (orLib_ok ok30 (baseM_ok)) r31
theorem ok32 : CallsOk Em ml32 := memoLib_ok Em_ok (baseM_ok) r32
theorem ok33 : CallsOk Em ml33 := memoLib_ok Em_ok (orLib_ok ok32 (baseM_ok)) r33
theorem ok34 : CallsOk Em ml34 := memoLib_ok Em_ok (baseM_ok) r34
theorem ok35 : CallsOk Em ml35 := memoLib_ok Em_ok (orLib_ok ok34 (baseM_ok)) r35
theorem ok36 : CallsOk Em ml36 := memoLib_ok Em_ok (baseM_ok) r36
theorem ok37 : CallsOk Em ml37 := memoLib_ok Em_ok (orLib_ok ok36 (baseM_ok)) r37
theorem ok38 : CallsOk Em ml38 := memoLib_ok Em_ok (baseM_ok) r38
theorem ok39 : CallsOk Em ml39 := memoLib_ok Em_ok (orLib_ok ok38 (baseM_ok)) r39
theorem ok40 : CallsOk Em ml40 := memoLib_ok Em_ok (baseM_ok) r40
theorem ok41 : CallsOk Em ml41 := memoLib_ok Em_ok (baseM_ok) r41
theorem ok42 : CallsOk Em ml42 := memoLib_ok Em_ok (baseM_ok) r42
theorem ok43 : CallsOk Em ml43 := memoLib_ok Em_ok (baseM_ok) r43
theorem ok44 : CallsOk Em ml44 := memoLib_ok Em_ok (baseM_ok) r44
theorem ok45 : CallsOk Em ml45 := memoLib_ok Em_ok (baseM_ok) r45
theorem ok46 : CallsOk Em ml46 := memoLib_ok Em_ok (baseM_ok) r46
theorem ok47 : CallsOk Em ml47 := memoLib_ok Em_ok (baseM_ok) r47
theorem ok48 : CallsOk Em ml48 := memoLib_ok Em_ok (orLib_ok ok47 (orLib_ok ok46 (orLib_ok ok45 (orLib_ok ok44 (orLib_ok ok43 (baseM_ok)))))) r48
theorem ok49 : CallsOk Em ml49 := memoLib_ok Em_ok (baseM_ok) r49
theorem ok50 : CallsOk Em ml50 := memoLib_ok Em_ok (baseM_ok) r50
theorem ok51 : CallsOk Em ml51 := memoLib_ok Em_ok (baseM_ok) r51
theorem ok52 : CallsOk Em ml52 := memoLib_ok Em_ok (baseM_ok) r52
theorem ok53 : CallsOk Em ml53 := memoLib_ok Em_ok (baseM_ok) r53
theorem ok54 : CallsOk Em ml54 := memoLib_ok Em_ok (orLib_ok ok53 (orLib_ok ok52 (orLib_ok ok51 (orLib_ok ok50 (orLib_ok ok49 (baseM_ok)))))) r54
theorem ok55 : CallsOk Em ml55 := memoLib_ok Em_ok (orLib_ok ok54 (baseM_ok)) r55
theorem ok56 : CallsOk Em ml56 := memoLib_ok Em_ok (baseM_ok) r56
theorem ok57 : CallsOk Em ml57 := memoLib_ok Em_ok (orLib_ok ok56 (baseM_ok)) r57
theorem okRoot : CallsOk Em (memoLib 16 [] hRoot 100 (.bool true) [] 100) := memoLib_ok Em_ok (orLib_ok ok57 (orLib_ok ok55 (orLib_ok ok48 (orLib_ok ok42 (orLib_ok ok41 (orLib_ok ok40 (orLib_ok ok39 (orLib_ok ok37 (orLib_ok ok35 (orLib_ok ok33 (orLib_ok ok31 (orLib_ok ok29 (orLib_ok ok27 (orLib_ok ok26 (orLib_ok ok25 (orLib_ok ok24 (orLib_ok ok23 (orLib_ok ok22 (orLib_ok ok21 (orLib_ok ok20 (orLib_ok ok19 (orLib_ok ok18 (orLib_ok ok17 (orLib_ok ok16 (orLib_ok ok15 (orLib_ok ok14 (orLib_ok ok13 (orLib_ok ok12 (orLib_ok ok11 (orLib_ok ok10 (orLib_ok ok9 (orLib_ok ok8 (orLib_ok ok7 (orLib_ok ok6 (orLib_ok ok5 (orLib_ok ok4 (orLib_ok ok3 (orLib_ok ok2 (orLib_ok ok1 (orLib_ok ok0 (baseM_ok))))))))))))))))))))))))))))))))))))))))) rRoot
end Go.Proofs.YtmhbhkipjjcmlaaGreatDoor.Zs
