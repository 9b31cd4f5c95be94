/-
  The program of this seat.
-/
import Derived.Test.YtfddkbbjnghefaaGreatDoorToEvK
import Derived.Test.YtfddkbbjnghefaaGreatDoorProg
import Derived.KernelRfl
set_option linter.unusedSimpArgs false
set_option linter.unusedVariables false
namespace Go.Proofs.YtfddkbbjnghefaaGreatDoor.Zs
open Go
set_option maxRecDepth 1000000 in
theorem names0 : Tryz.prog.funcs.toList.all (fun g => !(g.name == "runtime.NumGoroutine")) = true:=by kernel_rfl
theorem mixed0 : Tryz.prog.follows .mixedOrders = true:=by kernel_rfl
noncomputable def envS (P : Program) : Env:={ envOf P with spare:=true }
theorem envS_ok {P : Program} (h : (envOf P).Ok) : (envS P).Ok:=⟨h.und,h.inf,h.fn,h.name,h.mixed⟩
noncomputable def E0 : Env:=envS Tryz.prog
theorem yQ : E0.Ok:=envS_ok (envOf_ok names0 mixed0)
theorem yC (g : Nat) : E0.glob g = none:=rfl
noncomputable def sizeOfF (f : Nat) : Nat:=match Tryz.prog.funcs[f]? with | some fn => fn.ntmps | none => 0
end Go.Proofs.YtfddkbbjnghefaaGreatDoor.Zs
