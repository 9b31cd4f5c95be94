/-
  The program of this seat.
-/
import Derived.Test.YtfmgfehjbedcmaaPmEvK
import Derived.Test.YtfmgfehjbedcmaaProg
import Derived.KernelRfl
set_option linter.unusedSimpArgs false
set_option linter.unusedVariables false
namespace Go.Proofs.Ytfmgfehjbedcmaa.Zs
open Go
set_option maxRecDepth 1000000 in
theorem names0 : Try.prog.funcs.toList.all (fun g => !(g.name == "runtime.NumGoroutine")) = true := by kernel_rfl
theorem mixed0 : Try.prog.follows .mixedOrders = true := by kernel_rfl
noncomputable def E0 : Env := envOf Try.prog
theorem E0_ok : E0.Ok := envOf_ok names0 mixed0
theorem E0_glob (g : Nat) : E0.glob g = none := rfl
theorem E0_P : E0.P = Try.prog := rfl
noncomputable def sizeOfF (f : Nat) : Nat := match Try.prog.funcs[f]? with | some fn => fn.ntmps | none => 0
end Go.Proofs.Ytfmgfehjbedcmaa.Zs
