/-
  The example function of the laws of package purse returns true, by the runs of its parts.
-/
import Derived.Test.YtpdemfamfmeemacGreatPpRunB
import Derived.Test.YtpdemfamfmeemacGreatPpRunC
import Derived.Test.YtpdemfamfmeemacGreatPpRunD
import Derived.Test.YtpdemfamfmeemacGreatPpRunE
import Derived.Test.YtpdemfamfmeemacGreatPpRunY
set_option linter.unusedSimpArgs false
set_option linter.unusedVariables false
namespace Go.Proofs.YtpdemfamfmeemacGreat.Zs
open Go
theorem ok0 : CallsOk Em ml0 := memoLib_ok Em_ok (baseM_ok) r0
theorem ok1 : CallsOk Em ml1 := memoLib_ok Em_ok (baseM_ok) r1
theorem ok2 : CallsOk Em ml2 := memoLib_ok Em_ok (baseM_ok) r2
theorem okRoot : CallsOk Em (memoLib 4 [] hRoot 100 (.bool true) [] 100) := memoLib_ok Em_ok (orLib_ok ok2 (orLib_ok ok1 (orLib_ok ok0 (baseM_ok)))) rRoot
end Go.Proofs.YtpdemfamfmeemacGreat.Zs
