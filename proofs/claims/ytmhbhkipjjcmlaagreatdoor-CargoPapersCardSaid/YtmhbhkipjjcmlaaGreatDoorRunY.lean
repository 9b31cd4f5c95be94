/-
  The program is one that the runs speak of.
-/
import Derived.Test.YtmhbhkipjjcmlaaGreatDoorRunA
import Derived.Test.YtmhbhkipjjcmlaaGreatDoorShelf
import Derived.KernelRfl
set_option linter.unusedSimpArgs false
set_option linter.unusedVariables false
namespace Go.Proofs.YtmhbhkipjjcmlaaGreatDoor.Zs
open Go
noncomputable def envG (P : Program) (glob : Nat → Option Nat) (pure : FuncId → Bool) (n : Bool) : Env := {
  P := P,
  und := fun t => P.underlying t,
  inf := fun t => P.info? t,
  fn := fun f => P.funcs[f]?,
  glob := glob,
  pure := pure,
  names := n }
theorem envG_ok {P : Program} (h : (envOf P).Ok) {glob : Nat → Option Nat} {pure : FuncId → Bool} {n : Bool} : (envG P glob pure n).Ok := ⟨h.und, h.inf, h.fn, h.name, h.mixed⟩
theorem envG_P {P : Program} {glob : Nat → Option Nat} {pure : FuncId → Bool} {n : Bool} : (envG P glob pure n).P = P := rfl
theorem Em_is : Em = envG Tryz.prog (fun g => match Nat.blt g 50 with | true => some g | false => none) (fun f => match memN f impureL with | true => false | false => true) false := by unfold Em envG; rfl
theorem E0_is : E0 = envOf Tryz.prog := rfl
theorem Em_ok : Em.Ok := by rw [Em_is]; exact envG_ok (E0_is ▸ E0_ok)
theorem Em_P : Em.P = Tryz.prog := by rw [Em_is]; rfl
theorem baseM_ok : CallsOk Em (joinLib 118) := joinLib_ok (by rw [Em_P]; exact fun bk o c xs sep w h1 h2 h3 h4 h5 => Tryz.strings_Join bk o c xs sep w h1 h2 h3 h4 h5)
end Go.Proofs.YtmhbhkipjjcmlaaGreatDoor.Zs
