/-
  The program is one that the runs speak of.
-/
import Derived.Test.YtliimmpokhmjeaaGreatDoorRunA
import Derived.Test.YtliimmpokhmjeaaGreatDoorShelf
import Derived.KernelRfl
namespace Go.Proofs.YtliimmpokhmjeaaGreatDoor.Zev
open Go
set_option maxRecDepth 1000000 in
theorem names0 : Tryz.prog.funcs.toList.all (fun g => !(g.name == "runtime.NumGoroutine")) = true := by kernel_rfl
noncomputable def envOf (P : Program) (glob : Nat → Option Nat) (pure : FuncId → Bool) : Env := {
  P := P,
  und := fun t => P.underlying t,
  inf := fun t => P.info? t,
  fn := fun f => P.funcs[f]?,
  glob := glob,
  pure := pure }
theorem envOf_ok {P : Program} {glob : Nat → Option Nat} {pure : FuncId → Bool} (h0 : P.funcs.toList.all (fun g => !(g.name == "runtime.NumGoroutine")) = true) (h1 : P.follows .mixedOrders = true) : (envOf P glob pure).Ok := {
  und := fun t d h => h,
  inf := fun t i h => h,
  fn := fun f g h => h,
  name := fun f g h => by
    have h : P.funcs[f]? = some g := h
    have hm : g ∈ P.funcs.toList := by
      rw [← Array.getElem?_toList] at h
      exact List.mem_of_getElem? h
    have := List.all_eq_true.1 h0 g hm
    simpa using this,
  mixed := h1 }
theorem mixed0 : Tryz.prog.follows .mixedOrders = true := by kernel_rfl
theorem E0_is : E0 = envOf Tryz.prog (fun g => match Nat.blt g 50 with | true => some g | false => none) (fun f => match memN f impure with | true => false | false => true) := by unfold E0 envOf; rfl
theorem E0_ok : E0.Ok := by rw [E0_is]; exact envOf_ok names0 mixed0
theorem E0_P : E0.P = Tryz.prog := by rw [E0_is]; rfl
theorem base_ok : CallsOk E0 (joinLib 54) := joinLib_ok (by rw [E0_P]; exact fun bk o c xs sep w h1 h2 h3 h4 h5 => Tryz.strings_Join bk o c xs sep w h1 h2 h3 h4 h5)
end Go.Proofs.YtliimmpokhmjeaaGreatDoor.Zev
