/-
  The library of the checks of one deed.
-/
import Derived.Test.YtnahicnoofkfgaaGreatDoorDeConA
import Derived.KernelRfl
set_option linter.unusedSimpArgs false
set_option linter.unusedVariables false
namespace Go.Proofs.YtnahicnoofkfgaaGreatDoor.Zs
open Go
set_option linter.unusedSimpArgs false
set_option linter.unusedVariables false

theorem con_more {c : Con} {G : List (X × Bool)} {P : Program} {sy : Nat → List Value → Option Value} (hx : ∀ r σ us, r.sym = sy → σ.rho = r → FactsIn r c.pre → Ins σ c.fn.args us → FactsIn r (G ++ c.pre))
    (h : Con.Ok { c with pre := G ++ c.pre } P sy) : c.Ok P sy := fun r σ w us a b hp d e => h r σ w us a b (hx r σ us a b hp e) d e
theorem within40 (n : Int) : withinB n 0 40 = (decide (n = 0) || withinB n 1 40) := by
  rw [Bool.eq_iff_iff]
  simp [withinB]
  omega
theorem con_cases {c : Con} {x : X} {P : Program} {sy : Nat → List Value → Option Value} (hx : ∀ r σ us, r.sym = sy → σ.rho = r → FactsIn r c.pre → Ins σ c.fn.args us → ∃ b, x.bool r = some b)
    (h1 : Con.Ok { c with pre := (x, true) :: c.pre } P sy) (h0 : Con.Ok { c with pre := (x, false) :: c.pre } P sy) : c.Ok P sy := by
  intro r σ w us hsy hρ hpre hrel hins
  obtain ⟨b, hb⟩ := hx r σ us hsy hρ hpre hins
  cases b
  · exact h0 r σ w us hsy hρ ⟨hb, hpre⟩ hrel hins
  · exact h1 r σ w us hsy hρ ⟨hb, hpre⟩ hrel hins
noncomputable def R5 : Env → CallE := libs [cLib rwithin_con, cLib rValid_con]
theorem R5_ok (F : List (X × Bool)) {r : Rho} (h : r.sym = sy) : CallsOk (E0.with F r) (R5 (E0.with F r)) := libs_ok fun c hc => by
  simp only [List.mem_cons, List.not_mem_nil, or_false] at hc
  rcases hc with rfl | rfl
  · exact lib_ok (E := E0) rwithin_cok F h
  · exact lib_ok (E := E0) rValid_cok F h
noncomputable def C5 : Env → CallE := libs [cLib cwithin_con, cLib cValid_con]
theorem C5_ok (F : List (X × Bool)) {r : Rho} (h : r.sym = sy) : CallsOk (E0.with F r) (C5 (E0.with F r)) := libs_ok fun c hc => by
  simp only [List.mem_cons, List.not_mem_nil, or_false] at hc
  rcases hc with rfl | rfl
  · exact lib_ok (E := E0) cwithin_cok F h
  · exact lib_ok (E := E0) cValid_cok F h

end Go.Proofs.YtnahicnoofkfgaaGreatDoor.Zs
