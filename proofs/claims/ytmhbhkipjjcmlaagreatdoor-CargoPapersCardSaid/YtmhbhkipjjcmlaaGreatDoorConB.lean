/-
  Contracts of the reference: Formed, refused, Check, Append.
-/
import Derived.Test.YtmhbhkipjjcmlaaGreatDoorConA
import Derived.KernelRfl
set_option linter.unusedSimpArgs false
set_option linter.unusedVariables false
namespace Go.Proofs.YtmhbhkipjjcmlaaGreatDoor.Zs
open Go
set_option linter.unusedSimpArgs false
set_option linter.unusedVariables false

noncomputable def L2 : Env → CallE := libs [cLib Within_con, cLib span_con, cLib Mark_con, cLib Name_con]
theorem L2_ok (F : List (X × Bool)) {r : Rho} (h : r.sym = sy) : CallsOk (E0.with F r) (L2 (E0.with F r)) := libs_ok fun c hc => by
  simp only [List.mem_cons, List.not_mem_nil, or_false] at hc
  rcases hc with rfl | rfl | rfl | rfl
  · exact lib_ok (E := E0) Within_ok F h
  · exact lib_ok (E := E0) span_ok F h
  · exact lib_ok (E := E0) Mark_cok F h
  · exact lib_ok (E := E0) Name_cok F h

noncomputable def Formed_con : Con := { f := 77, args := [.agg (papLeaves 0)], N := 0, M := 0, pre := [(.app 18 [.var 6, .var 7], true)], out := .sbool (.app 3 [.var 0, .var 1, .var 2, .var 3, .var 4, .var 5, .var 6, .var 7, .var 8, .var 9, .var 10, .var 11, .var 12, .var 13]), news := [] }
noncomputable def Formed_call : Env → CallL := fun E => acallAll E (evH E (L2 E) ((fun _ => noLoops) E) 4)
noncomputable def Formed_t : GTree := (.fork (.app 10 [(.var 0), (.num 1), (.num 1000000)]) (.fork (.app 10 [(.var 1), (.num 0), (.num 1000000)]) (.fork (.op2 .eq (.var 2) (.num 3)) (.fork (.op2 .eq (.var 3) (.num 0)) (.fork (.op2 .eq (.var 4) (.num 0)) (.fork (.op2 .eq (.var 5) (.num 0)) (.fork (.op2 .eqs (.var 6) (.str [])) (.fork (.op2 .eqs (.var 7) (.str [])) (.fork (.op2 .eq (.var 8) (.num 0)) (.fork (.op2 .eq (.var 9) (.num 0)) (.fork (.op2 .eq (.var 10) (.num 0)) (.fork (.op2 .eq (.var 11) (.num 0)) (.fork (.op2 .eq (.var 12) (.num 0)) (.leaf [[]]) (.leaf [[]])) (.leaf [[]])) (.leaf [[]])) (.leaf [[]])) (.leaf [[]])) (.leaf [[]])) (.leaf [[]])) (.leaf [[]])) (.leaf [[]])) (.leaf [[]])) (.fork (.op2 .eq (.var 2) (.num 2)) (.fork (.op2 .eq (.var 5) (.num 0)) (.fork (.op2 .eqs (.var 6) (.str [])) (.fork (.op2 .eqs (.var 7) (.str [])) (.fork (.op2 .eq (.var 10) (.num 0)) (.fork (.op2 .eq (.var 11) (.num 0)) (.fork (.op2 .eq (.var 13) (.num 0)) (.fork (.app 9 [(.var 8), (.var 9), (.num 0), (.num 10000000)]) (.fork (.app 10 [(.var 3), (.num 1), (.num 20)]) (.fork (.app 10 [(.var 4), (.num 0), (.num 200)]) (.leaf [[]]) (.leaf [[]])) (.leaf [[]])) (.leaf [[]])) (.leaf [[]])) (.leaf [[]])) (.leaf [[]])) (.leaf [[]])) (.leaf [[]])) (.leaf [[]])) (.fork (.app 19 [(.var 6)]) (.fork (.app 19 [(.var 7)]) (.fork (.op2 .eq (.var 12) (.num 0)) (.fork (.op2 .eq (.var 13) (.num 0)) (.fork (.op2 .eq (.var 2) (.num 1)) (.fork (.app 9 [(.var 8), (.var 9), (.num 1), (.num 100000)]) (.fork (.app 1 [(.var 6)]) (.fork (.app 2 [(.var 7)]) (.fork (.app 10 [(.var 3), (.num 1), (.num 20)]) (.fork (.app 10 [(.var 4), (.num 1), (.num 200)]) (.fork (.app 10 [(.var 5), (.num 0), (.num 200)]) (.fork (.op2 .eq (.var 5) (.var 4)) (.leaf [[]]) (.fork (.app 10 [(.var 10), (.num 1), (.num 20)]) (.leaf [[]]) (.leaf [[]]))) (.leaf [[]])) (.leaf [[]])) (.leaf [[]])) (.leaf [[]])) (.leaf [[]])) (.leaf [[]])) (.leaf [[]])) (.leaf [[]])) (.leaf [[]])) .bad) .bad))) (.leaf [[]])) (.leaf [[]]))
noncomputable def Formed_l : List (List (X × Bool) × Option Pairs) := [([((.op2 .eq (.var 12) (.num 0)), true), ((.op2 .eq (.var 11) (.num 0)), true), ((.op2 .eq (.var 10) (.num 0)), true), ((.op2 .eq (.var 9) (.num 0)), true), ((.op2 .eq (.var 8) (.num 0)), true), ((.op2 .eqs (.var 7) (.str [])), true), ((.op2 .eqs (.var 6) (.str [])), true), ((.op2 .eq (.var 5) (.num 0)), true), ((.op2 .eq (.var 4) (.num 0)), true), ((.op2 .eq (.var 3) (.num 0)), true), ((.op2 .eq (.var 2) (.num 3)), true), ((.app 10 [(.var 1), (.num 0), (.num 1000000)]), true), ((.app 10 [(.var 0), (.num 1), (.num 1000000)]), true), ((.app 18 [(.var 6), (.var 7)]), true)], some [((.app 3 [(.var 0), (.var 1), (.var 2), (.var 3), (.var 4), (.var 5), (.var 6), (.var 7), (.var 8), (.var 9), (.var 10), (.var 11), (.var 12), (.var 13)]), (.app 10 [(.var 13), (.num 1), (.num 1000000)]))]),
  ([((.op2 .eq (.var 12) (.num 0)), false), ((.op2 .eq (.var 11) (.num 0)), true), ((.op2 .eq (.var 10) (.num 0)), true), ((.op2 .eq (.var 9) (.num 0)), true), ((.op2 .eq (.var 8) (.num 0)), true), ((.op2 .eqs (.var 7) (.str [])), true), ((.op2 .eqs (.var 6) (.str [])), true), ((.op2 .eq (.var 5) (.num 0)), true), ((.op2 .eq (.var 4) (.num 0)), true), ((.op2 .eq (.var 3) (.num 0)), true), ((.op2 .eq (.var 2) (.num 3)), true), ((.app 10 [(.var 1), (.num 0), (.num 1000000)]), true), ((.app 10 [(.var 0), (.num 1), (.num 1000000)]), true), ((.app 18 [(.var 6), (.var 7)]), true)], some [((.app 3 [(.var 0), (.var 1), (.var 2), (.var 3), (.var 4), (.var 5), (.var 6), (.var 7), (.var 8), (.var 9), (.var 10), (.var 11), (.var 12), (.var 13)]), (.boo false))]),
  ([((.op2 .eq (.var 11) (.num 0)), false), ((.op2 .eq (.var 10) (.num 0)), true), ((.op2 .eq (.var 9) (.num 0)), true), ((.op2 .eq (.var 8) (.num 0)), true), ((.op2 .eqs (.var 7) (.str [])), true), ((.op2 .eqs (.var 6) (.str [])), true), ((.op2 .eq (.var 5) (.num 0)), true), ((.op2 .eq (.var 4) (.num 0)), true), ((.op2 .eq (.var 3) (.num 0)), true), ((.op2 .eq (.var 2) (.num 3)), true), ((.app 10 [(.var 1), (.num 0), (.num 1000000)]), true), ((.app 10 [(.var 0), (.num 1), (.num 1000000)]), true), ((.app 18 [(.var 6), (.var 7)]), true)], some [((.app 3 [(.var 0), (.var 1), (.var 2), (.var 3), (.var 4), (.var 5), (.var 6), (.var 7), (.var 8), (.var 9), (.var 10), (.var 11), (.var 12), (.var 13)]), (.boo false))]),
  ([((.op2 .eq (.var 10) (.num 0)), false), ((.op2 .eq (.var 9) (.num 0)), true), ((.op2 .eq (.var 8) (.num 0)), true), ((.op2 .eqs (.var 7) (.str [])), true), ((.op2 .eqs (.var 6) (.str [])), true), ((.op2 .eq (.var 5) (.num 0)), true), ((.op2 .eq (.var 4) (.num 0)), true), ((.op2 .eq (.var 3) (.num 0)), true), ((.op2 .eq (.var 2) (.num 3)), true), ((.app 10 [(.var 1), (.num 0), (.num 1000000)]), true), ((.app 10 [(.var 0), (.num 1), (.num 1000000)]), true), ((.app 18 [(.var 6), (.var 7)]), true)], some [((.app 3 [(.var 0), (.var 1), (.var 2), (.var 3), (.var 4), (.var 5), (.var 6), (.var 7), (.var 8), (.var 9), (.var 10), (.var 11), (.var 12), (.var 13)]), (.boo false))]),
  ([((.op2 .eq (.var 9) (.num 0)), false), ((.op2 .eq (.var 8) (.num 0)), true), ((.op2 .eqs (.var 7) (.str [])), true), ((.op2 .eqs (.var 6) (.str [])), true), ((.op2 .eq (.var 5) (.num 0)), true), ((.op2 .eq (.var 4) (.num 0)), true), ((.op2 .eq (.var 3) (.num 0)), true), ((.op2 .eq (.var 2) (.num 3)), true), ((.app 10 [(.var 1), (.num 0), (.num 1000000)]), true), ((.app 10 [(.var 0), (.num 1), (.num 1000000)]), true), ((.app 18 [(.var 6), (.var 7)]), true)], some [((.app 3 [(.var 0), (.var 1), (.var 2), (.var 3), (.var 4), (.var 5), (.var 6), (.var 7), (.var 8), (.var 9), (.var 10), (.var 11), (.var 12), (.var 13)]), (.boo false))]),
  ([((.op2 .eq (.var 8) (.num 0)), false), ((.op2 .eqs (.var 7) (.str [])), true), ((.op2 .eqs (.var 6) (.str [])), true), ((.op2 .eq (.var 5) (.num 0)), true), ((.op2 .eq (.var 4) (.num 0)), true), ((.op2 .eq (.var 3) (.num 0)), true), ((.op2 .eq (.var 2) (.num 3)), true), ((.app 10 [(.var 1), (.num 0), (.num 1000000)]), true), ((.app 10 [(.var 0), (.num 1), (.num 1000000)]), true), ((.app 18 [(.var 6), (.var 7)]), true)], some [((.app 3 [(.var 0), (.var 1), (.var 2), (.var 3), (.var 4), (.var 5), (.var 6), (.var 7), (.var 8), (.var 9), (.var 10), (.var 11), (.var 12), (.var 13)]), (.boo false))]),
  ([((.op2 .eqs (.var 7) (.str [])), false), ((.op2 .eqs (.var 6) (.str [])), true), ((.op2 .eq (.var 5) (.num 0)), true), ((.op2 .eq (.var 4) (.num 0)), true), ((.op2 .eq (.var 3) (.num 0)), true), ((.op2 .eq (.var 2) (.num 3)), true), ((.app 10 [(.var 1), (.num 0), (.num 1000000)]), true), ((.app 10 [(.var 0), (.num 1), (.num 1000000)]), true), ((.app 18 [(.var 6), (.var 7)]), true)], some [((.app 3 [(.var 0), (.var 1), (.var 2), (.var 3), (.var 4), (.var 5), (.var 6), (.var 7), (.var 8), (.var 9), (.var 10), (.var 11), (.var 12), (.var 13)]), (.boo false))]),
  ([((.op2 .eqs (.var 6) (.str [])), false), ((.op2 .eq (.var 5) (.num 0)), true), ((.op2 .eq (.var 4) (.num 0)), true), ((.op2 .eq (.var 3) (.num 0)), true), ((.op2 .eq (.var 2) (.num 3)), true), ((.app 10 [(.var 1), (.num 0), (.num 1000000)]), true), ((.app 10 [(.var 0), (.num 1), (.num 1000000)]), true), ((.app 18 [(.var 6), (.var 7)]), true)], some [((.app 3 [(.var 0), (.var 1), (.var 2), (.var 3), (.var 4), (.var 5), (.var 6), (.var 7), (.var 8), (.var 9), (.var 10), (.var 11), (.var 12), (.var 13)]), (.boo false))]),
  ([((.op2 .eq (.var 5) (.num 0)), false), ((.op2 .eq (.var 4) (.num 0)), true), ((.op2 .eq (.var 3) (.num 0)), true), ((.op2 .eq (.var 2) (.num 3)), true), ((.app 10 [(.var 1), (.num 0), (.num 1000000)]), true), ((.app 10 [(.var 0), (.num 1), (.num 1000000)]), true), ((.app 18 [(.var 6), (.var 7)]), true)], some [((.app 3 [(.var 0), (.var 1), (.var 2), (.var 3), (.var 4), (.var 5), (.var 6), (.var 7), (.var 8), (.var 9), (.var 10), (.var 11), (.var 12), (.var 13)]), (.boo false))]),
  ([((.op2 .eq (.var 4) (.num 0)), false), ((.op2 .eq (.var 3) (.num 0)), true), ((.op2 .eq (.var 2) (.num 3)), true), ((.app 10 [(.var 1), (.num 0), (.num 1000000)]), true), ((.app 10 [(.var 0), (.num 1), (.num 1000000)]), true), ((.app 18 [(.var 6), (.var 7)]), true)], some [((.app 3 [(.var 0), (.var 1), (.var 2), (.var 3), (.var 4), (.var 5), (.var 6), (.var 7), (.var 8), (.var 9), (.var 10), (.var 11), (.var 12), (.var 13)]), (.boo false))]),
  ([((.op2 .eq (.var 3) (.num 0)), false), ((.op2 .eq (.var 2) (.num 3)), true), ((.app 10 [(.var 1), (.num 0), (.num 1000000)]), true), ((.app 10 [(.var 0), (.num 1), (.num 1000000)]), true), ((.app 18 [(.var 6), (.var 7)]), true)], some [((.app 3 [(.var 0), (.var 1), (.var 2), (.var 3), (.var 4), (.var 5), (.var 6), (.var 7), (.var 8), (.var 9), (.var 10), (.var 11), (.var 12), (.var 13)]), (.boo false))]),
  ([((.app 10 [(.var 4), (.num 0), (.num 200)]), true), ((.app 10 [(.var 3), (.num 1), (.num 20)]), true), ((.app 9 [(.var 8), (.var 9), (.num 0), (.num 10000000)]), true), ((.op2 .eq (.var 13) (.num 0)), true), ((.op2 .eq (.var 11) (.num 0)), true), ((.op2 .eq (.var 10) (.num 0)), true), ((.op2 .eqs (.var 7) (.str [])), true), ((.op2 .eqs (.var 6) (.str [])), true), ((.op2 .eq (.var 5) (.num 0)), true), ((.op2 .eq (.var 2) (.num 2)), true), ((.op2 .eq (.var 2) (.num 3)), false), ((.app 10 [(.var 1), (.num 0), (.num 1000000)]), true), ((.app 10 [(.var 0), (.num 1), (.num 1000000)]), true), ((.app 18 [(.var 6), (.var 7)]), true)], some [((.app 3 [(.var 0), (.var 1), (.var 2), (.var 3), (.var 4), (.var 5), (.var 6), (.var 7), (.var 8), (.var 9), (.var 10), (.var 11), (.var 12), (.var 13)]), (.app 10 [(.var 12), (.num 0), (.num 40)]))]),
  ([((.app 10 [(.var 4), (.num 0), (.num 200)]), false), ((.app 10 [(.var 3), (.num 1), (.num 20)]), true), ((.app 9 [(.var 8), (.var 9), (.num 0), (.num 10000000)]), true), ((.op2 .eq (.var 13) (.num 0)), true), ((.op2 .eq (.var 11) (.num 0)), true), ((.op2 .eq (.var 10) (.num 0)), true), ((.op2 .eqs (.var 7) (.str [])), true), ((.op2 .eqs (.var 6) (.str [])), true), ((.op2 .eq (.var 5) (.num 0)), true), ((.op2 .eq (.var 2) (.num 2)), true), ((.op2 .eq (.var 2) (.num 3)), false), ((.app 10 [(.var 1), (.num 0), (.num 1000000)]), true), ((.app 10 [(.var 0), (.num 1), (.num 1000000)]), true), ((.app 18 [(.var 6), (.var 7)]), true)], some [((.app 3 [(.var 0), (.var 1), (.var 2), (.var 3), (.var 4), (.var 5), (.var 6), (.var 7), (.var 8), (.var 9), (.var 10), (.var 11), (.var 12), (.var 13)]), (.boo false))]),
  ([((.app 10 [(.var 3), (.num 1), (.num 20)]), false), ((.app 9 [(.var 8), (.var 9), (.num 0), (.num 10000000)]), true), ((.op2 .eq (.var 13) (.num 0)), true), ((.op2 .eq (.var 11) (.num 0)), true), ((.op2 .eq (.var 10) (.num 0)), true), ((.op2 .eqs (.var 7) (.str [])), true), ((.op2 .eqs (.var 6) (.str [])), true), ((.op2 .eq (.var 5) (.num 0)), true), ((.op2 .eq (.var 2) (.num 2)), true), ((.op2 .eq (.var 2) (.num 3)), false), ((.app 10 [(.var 1), (.num 0), (.num 1000000)]), true), ((.app 10 [(.var 0), (.num 1), (.num 1000000)]), true), ((.app 18 [(.var 6), (.var 7)]), true)], some [((.app 3 [(.var 0), (.var 1), (.var 2), (.var 3), (.var 4), (.var 5), (.var 6), (.var 7), (.var 8), (.var 9), (.var 10), (.var 11), (.var 12), (.var 13)]), (.boo false))]),
  ([((.app 9 [(.var 8), (.var 9), (.num 0), (.num 10000000)]), false), ((.op2 .eq (.var 13) (.num 0)), true), ((.op2 .eq (.var 11) (.num 0)), true), ((.op2 .eq (.var 10) (.num 0)), true), ((.op2 .eqs (.var 7) (.str [])), true), ((.op2 .eqs (.var 6) (.str [])), true), ((.op2 .eq (.var 5) (.num 0)), true), ((.op2 .eq (.var 2) (.num 2)), true), ((.op2 .eq (.var 2) (.num 3)), false), ((.app 10 [(.var 1), (.num 0), (.num 1000000)]), true), ((.app 10 [(.var 0), (.num 1), (.num 1000000)]), true), ((.app 18 [(.var 6), (.var 7)]), true)], some [((.app 3 [(.var 0), (.var 1), (.var 2), (.var 3), (.var 4), (.var 5), (.var 6), (.var 7), (.var 8), (.var 9), (.var 10), (.var 11), (.var 12), (.var 13)]), (.boo false))]),
  ([((.op2 .eq (.var 13) (.num 0)), false), ((.op2 .eq (.var 11) (.num 0)), true), ((.op2 .eq (.var 10) (.num 0)), true), ((.op2 .eqs (.var 7) (.str [])), true), ((.op2 .eqs (.var 6) (.str [])), true), ((.op2 .eq (.var 5) (.num 0)), true), ((.op2 .eq (.var 2) (.num 2)), true), ((.op2 .eq (.var 2) (.num 3)), false), ((.app 10 [(.var 1), (.num 0), (.num 1000000)]), true), ((.app 10 [(.var 0), (.num 1), (.num 1000000)]), true), ((.app 18 [(.var 6), (.var 7)]), true)], some [((.app 3 [(.var 0), (.var 1), (.var 2), (.var 3), (.var 4), (.var 5), (.var 6), (.var 7), (.var 8), (.var 9), (.var 10), (.var 11), (.var 12), (.var 13)]), (.boo false))]),
  ([((.op2 .eq (.var 11) (.num 0)), false), ((.op2 .eq (.var 10) (.num 0)), true), ((.op2 .eqs (.var 7) (.str [])), true), ((.op2 .eqs (.var 6) (.str [])), true), ((.op2 .eq (.var 5) (.num 0)), true), ((.op2 .eq (.var 2) (.num 2)), true), ((.op2 .eq (.var 2) (.num 3)), false), ((.app 10 [(.var 1), (.num 0), (.num 1000000)]), true), ((.app 10 [(.var 0), (.num 1), (.num 1000000)]), true), ((.app 18 [(.var 6), (.var 7)]), true)], some [((.app 3 [(.var 0), (.var 1), (.var 2), (.var 3), (.var 4), (.var 5), (.var 6), (.var 7), (.var 8), (.var 9), (.var 10), (.var 11), (.var 12), (.var 13)]), (.boo false))]),
  ([((.op2 .eq (.var 10) (.num 0)), false), ((.op2 .eqs (.var 7) (.str [])), true), ((.op2 .eqs (.var 6) (.str [])), true), ((.op2 .eq (.var 5) (.num 0)), true), ((.op2 .eq (.var 2) (.num 2)), true), ((.op2 .eq (.var 2) (.num 3)), false), ((.app 10 [(.var 1), (.num 0), (.num 1000000)]), true), ((.app 10 [(.var 0), (.num 1), (.num 1000000)]), true), ((.app 18 [(.var 6), (.var 7)]), true)], some [((.app 3 [(.var 0), (.var 1), (.var 2), (.var 3), (.var 4), (.var 5), (.var 6), (.var 7), (.var 8), (.var 9), (.var 10), (.var 11), (.var 12), (.var 13)]), (.boo false))]),
  ([((.op2 .eqs (.var 7) (.str [])), false), ((.op2 .eqs (.var 6) (.str [])), true), ((.op2 .eq (.var 5) (.num 0)), true), ((.op2 .eq (.var 2) (.num 2)), true), ((.op2 .eq (.var 2) (.num 3)), false), ((.app 10 [(.var 1), (.num 0), (.num 1000000)]), true), ((.app 10 [(.var 0), (.num 1), (.num 1000000)]), true), ((.app 18 [(.var 6), (.var 7)]), true)], some [((.app 3 [(.var 0), (.var 1), (.var 2), (.var 3), (.var 4), (.var 5), (.var 6), (.var 7), (.var 8), (.var 9), (.var 10), (.var 11), (.var 12), (.var 13)]), (.boo false))]),
  ([((.op2 .eqs (.var 6) (.str [])), false), ((.op2 .eq (.var 5) (.num 0)), true), ((.op2 .eq (.var 2) (.num 2)), true), ((.op2 .eq (.var 2) (.num 3)), false), ((.app 10 [(.var 1), (.num 0), (.num 1000000)]), true), ((.app 10 [(.var 0), (.num 1), (.num 1000000)]), true), ((.app 18 [(.var 6), (.var 7)]), true)], some [((.app 3 [(.var 0), (.var 1), (.var 2), (.var 3), (.var 4), (.var 5), (.var 6), (.var 7), (.var 8), (.var 9), (.var 10), (.var 11), (.var 12), (.var 13)]), (.boo false))]),
  ([((.op2 .eq (.var 5) (.num 0)), false), ((.op2 .eq (.var 2) (.num 2)), true), ((.op2 .eq (.var 2) (.num 3)), false), ((.app 10 [(.var 1), (.num 0), (.num 1000000)]), true), ((.app 10 [(.var 0), (.num 1), (.num 1000000)]), true), ((.app 18 [(.var 6), (.var 7)]), true)], some [((.app 3 [(.var 0), (.var 1), (.var 2), (.var 3), (.var 4), (.var 5), (.var 6), (.var 7), (.var 8), (.var 9), (.var 10), (.var 11), (.var 12), (.var 13)]), (.boo false))]),
  ([((.op2 .eq (.var 5) (.var 4)), true), ((.app 10 [(.var 5), (.num 0), (.num 200)]), true), ((.app 10 [(.var 4), (.num 1), (.num 200)]), true), ((.app 10 [(.var 3), (.num 1), (.num 20)]), true), ((.app 2 [(.var 7)]), true), ((.app 1 [(.var 6)]), true), ((.app 9 [(.var 8), (.var 9), (.num 1), (.num 100000)]), true), ((.op2 .eq (.var 2) (.num 1)), true), ((.op2 .eq (.var 13) (.num 0)), true), ((.op2 .eq (.var 12) (.num 0)), true), ((.app 19 [(.var 7)]), true), ((.app 19 [(.var 6)]), true), ((.op2 .eq (.var 2) (.num 2)), false), ((.op2 .eq (.var 2) (.num 3)), false), ((.app 10 [(.var 1), (.num 0), (.num 1000000)]), true), ((.app 10 [(.var 0), (.num 1), (.num 1000000)]), true), ((.app 18 [(.var 6), (.var 7)]), true)], some [((.app 3 [(.var 0), (.var 1), (.var 2), (.var 3), (.var 4), (.var 5), (.var 6), (.var 7), (.var 8), (.var 9), (.var 10), (.var 11), (.var 12), (.var 13)]), (.boo false))]),
  ([((.app 10 [(.var 10), (.num 1), (.num 20)]), true), ((.op2 .eq (.var 5) (.var 4)), false), ((.app 10 [(.var 5), (.num 0), (.num 200)]), true), ((.app 10 [(.var 4), (.num 1), (.num 200)]), true), ((.app 10 [(.var 3), (.num 1), (.num 20)]), true), ((.app 2 [(.var 7)]), true), ((.app 1 [(.var 6)]), true), ((.app 9 [(.var 8), (.var 9), (.num 1), (.num 100000)]), true), ((.op2 .eq (.var 2) (.num 1)), true), ((.op2 .eq (.var 13) (.num 0)), true), ((.op2 .eq (.var 12) (.num 0)), true), ((.app 19 [(.var 7)]), true), ((.app 19 [(.var 6)]), true), ((.op2 .eq (.var 2) (.num 2)), false), ((.op2 .eq (.var 2) (.num 3)), false), ((.app 10 [(.var 1), (.num 0), (.num 1000000)]), true), ((.app 10 [(.var 0), (.num 1), (.num 1000000)]), true), ((.app 18 [(.var 6), (.var 7)]), true)], some [((.app 3 [(.var 0), (.var 1), (.var 2), (.var 3), (.var 4), (.var 5), (.var 6), (.var 7), (.var 8), (.var 9), (.var 10), (.var 11), (.var 12), (.var 13)]), (.app 10 [(.var 11), (.num 1), (.num 40)]))]),
  ([((.app 10 [(.var 10), (.num 1), (.num 20)]), false), ((.op2 .eq (.var 5) (.var 4)), false), ((.app 10 [(.var 5), (.num 0), (.num 200)]), true), ((.app 10 [(.var 4), (.num 1), (.num 200)]), true), ((.app 10 [(.var 3), (.num 1), (.num 20)]), true), ((.app 2 [(.var 7)]), true), ((.app 1 [(.var 6)]), true), ((.app 9 [(.var 8), (.var 9), (.num 1), (.num 100000)]), true), ((.op2 .eq (.var 2) (.num 1)), true), ((.op2 .eq (.var 13) (.num 0)), true), ((.op2 .eq (.var 12) (.num 0)), true), ((.app 19 [(.var 7)]), true), ((.app 19 [(.var 6)]), true), ((.op2 .eq (.var 2) (.num 2)), false), ((.op2 .eq (.var 2) (.num 3)), false), ((.app 10 [(.var 1), (.num 0), (.num 1000000)]), true), ((.app 10 [(.var 0), (.num 1), (.num 1000000)]), true), ((.app 18 [(.var 6), (.var 7)]), true)], some [((.app 3 [(.var 0), (.var 1), (.var 2), (.var 3), (.var 4), (.var 5), (.var 6), (.var 7), (.var 8), (.var 9), (.var 10), (.var 11), (.var 12), (.var 13)]), (.boo false))]),
  ([((.app 10 [(.var 5), (.num 0), (.num 200)]), false), ((.app 10 [(.var 4), (.num 1), (.num 200)]), true), ((.app 10 [(.var 3), (.num 1), (.num 20)]), true), ((.app 2 [(.var 7)]), true), ((.app 1 [(.var 6)]), true), ((.app 9 [(.var 8), (.var 9), (.num 1), (.num 100000)]), true), ((.op2 .eq (.var 2) (.num 1)), true), ((.op2 .eq (.var 13) (.num 0)), true), ((.op2 .eq (.var 12) (.num 0)), true), ((.app 19 [(.var 7)]), true), ((.app 19 [(.var 6)]), true), ((.op2 .eq (.var 2) (.num 2)), false), ((.op2 .eq (.var 2) (.num 3)), false), ((.app 10 [(.var 1), (.num 0), (.num 1000000)]), true), ((.app 10 [(.var 0), (.num 1), (.num 1000000)]), true), ((.app 18 [(.var 6), (.var 7)]), true)], some [((.app 3 [(.var 0), (.var 1), (.var 2), (.var 3), (.var 4), (.var 5), (.var 6), (.var 7), (.var 8), (.var 9), (.var 10), (.var 11), (.var 12), (.var 13)]), (.boo false))]),
  ([((.app 10 [(.var 4), (.num 1), (.num 200)]), false), ((.app 10 [(.var 3), (.num 1), (.num 20)]), true), ((.app 2 [(.var 7)]), true), ((.app 1 [(.var 6)]), true), ((.app 9 [(.var 8), (.var 9), (.num 1), (.num 100000)]), true), ((.op2 .eq (.var 2) (.num 1)), true), ((.op2 .eq (.var 13) (.num 0)), true), ((.op2 .eq (.var 12) (.num 0)), true), ((.app 19 [(.var 7)]), true), ((.app 19 [(.var 6)]), true), ((.op2 .eq (.var 2) (.num 2)), false), ((.op2 .eq (.var 2) (.num 3)), false), ((.app 10 [(.var 1), (.num 0), (.num 1000000)]), true), ((.app 10 [(.var 0), (.num 1), (.num 1000000)]), true), ((.app 18 [(.var 6), (.var 7)]), true)], some [((.app 3 [(.var 0), (.var 1), (.var 2), (.var 3), (.var 4), (.var 5), (.var 6), (.var 7), (.var 8), (.var 9), (.var 10), (.var 11), (.var 12), (.var 13)]), (.boo false))]),
  ([((.app 10 [(.var 3), (.num 1), (.num 20)]), false), ((.app 2 [(.var 7)]), true), ((.app 1 [(.var 6)]), true), ((.app 9 [(.var 8), (.var 9), (.num 1), (.num 100000)]), true), ((.op2 .eq (.var 2) (.num 1)), true), ((.op2 .eq (.var 13) (.num 0)), true), ((.op2 .eq (.var 12) (.num 0)), true), ((.app 19 [(.var 7)]), true), ((.app 19 [(.var 6)]), true), ((.op2 .eq (.var 2) (.num 2)), false), ((.op2 .eq (.var 2) (.num 3)), false), ((.app 10 [(.var 1), (.num 0), (.num 1000000)]), true), ((.app 10 [(.var 0), (.num 1), (.num 1000000)]), true), ((.app 18 [(.var 6), (.var 7)]), true)], some [((.app 3 [(.var 0), (.var 1), (.var 2), (.var 3), (.var 4), (.var 5), (.var 6), (.var 7), (.var 8), (.var 9), (.var 10), (.var 11), (.var 12), (.var 13)]), (.boo false))]),
  ([((.app 2 [(.var 7)]), false), ((.app 1 [(.var 6)]), true), ((.app 9 [(.var 8), (.var 9), (.num 1), (.num 100000)]), true), ((.op2 .eq (.var 2) (.num 1)), true), ((.op2 .eq (.var 13) (.num 0)), true), ((.op2 .eq (.var 12) (.num 0)), true), ((.app 19 [(.var 7)]), true), ((.app 19 [(.var 6)]), true), ((.op2 .eq (.var 2) (.num 2)), false), ((.op2 .eq (.var 2) (.num 3)), false), ((.app 10 [(.var 1), (.num 0), (.num 1000000)]), true), ((.app 10 [(.var 0), (.num 1), (.num 1000000)]), true), ((.app 18 [(.var 6), (.var 7)]), true)], some [((.app 3 [(.var 0), (.var 1), (.var 2), (.var 3), (.var 4), (.var 5), (.var 6), (.var 7), (.var 8), (.var 9), (.var 10), (.var 11), (.var 12), (.var 13)]), (.boo false))]),
  ([((.app 1 [(.var 6)]), false), ((.app 9 [(.var 8), (.var 9), (.num 1), (.num 100000)]), true), ((.op2 .eq (.var 2) (.num 1)), true), ((.op2 .eq (.var 13) (.num 0)), true), ((.op2 .eq (.var 12) (.num 0)), true), ((.app 19 [(.var 7)]), true), ((.app 19 [(.var 6)]), true), ((.op2 .eq (.var 2) (.num 2)), false), ((.op2 .eq (.var 2) (.num 3)), false), ((.app 10 [(.var 1), (.num 0), (.num 1000000)]), true), ((.app 10 [(.var 0), (.num 1), (.num 1000000)]), true), ((.app 18 [(.var 6), (.var 7)]), true)], some [((.app 3 [(.var 0), (.var 1), (.var 2), (.var 3), (.var 4), (.var 5), (.var 6), (.var 7), (.var 8), (.var 9), (.var 10), (.var 11), (.var 12), (.var 13)]), (.boo false))]),
  ([((.app 9 [(.var 8), (.var 9), (.num 1), (.num 100000)]), false), ((.op2 .eq (.var 2) (.num 1)), true), ((.op2 .eq (.var 13) (.num 0)), true), ((.op2 .eq (.var 12) (.num 0)), true), ((.app 19 [(.var 7)]), true), ((.app 19 [(.var 6)]), true), ((.op2 .eq (.var 2) (.num 2)), false), ((.op2 .eq (.var 2) (.num 3)), false), ((.app 10 [(.var 1), (.num 0), (.num 1000000)]), true), ((.app 10 [(.var 0), (.num 1), (.num 1000000)]), true), ((.app 18 [(.var 6), (.var 7)]), true)], some [((.app 3 [(.var 0), (.var 1), (.var 2), (.var 3), (.var 4), (.var 5), (.var 6), (.var 7), (.var 8), (.var 9), (.var 10), (.var 11), (.var 12), (.var 13)]), (.boo false))]),
  ([((.op2 .eq (.var 2) (.num 1)), false), ((.op2 .eq (.var 13) (.num 0)), true), ((.op2 .eq (.var 12) (.num 0)), true), ((.app 19 [(.var 7)]), true), ((.app 19 [(.var 6)]), true), ((.op2 .eq (.var 2) (.num 2)), false), ((.op2 .eq (.var 2) (.num 3)), false), ((.app 10 [(.var 1), (.num 0), (.num 1000000)]), true), ((.app 10 [(.var 0), (.num 1), (.num 1000000)]), true), ((.app 18 [(.var 6), (.var 7)]), true)], some [((.app 3 [(.var 0), (.var 1), (.var 2), (.var 3), (.var 4), (.var 5), (.var 6), (.var 7), (.var 8), (.var 9), (.var 10), (.var 11), (.var 12), (.var 13)]), (.boo false))]),
  ([((.op2 .eq (.var 13) (.num 0)), false), ((.op2 .eq (.var 12) (.num 0)), true), ((.app 19 [(.var 7)]), true), ((.app 19 [(.var 6)]), true), ((.op2 .eq (.var 2) (.num 2)), false), ((.op2 .eq (.var 2) (.num 3)), false), ((.app 10 [(.var 1), (.num 0), (.num 1000000)]), true), ((.app 10 [(.var 0), (.num 1), (.num 1000000)]), true), ((.app 18 [(.var 6), (.var 7)]), true)], some [((.app 3 [(.var 0), (.var 1), (.var 2), (.var 3), (.var 4), (.var 5), (.var 6), (.var 7), (.var 8), (.var 9), (.var 10), (.var 11), (.var 12), (.var 13)]), (.boo false))]),
  ([((.op2 .eq (.var 12) (.num 0)), false), ((.app 19 [(.var 7)]), true), ((.app 19 [(.var 6)]), true), ((.op2 .eq (.var 2) (.num 2)), false), ((.op2 .eq (.var 2) (.num 3)), false), ((.app 10 [(.var 1), (.num 0), (.num 1000000)]), true), ((.app 10 [(.var 0), (.num 1), (.num 1000000)]), true), ((.app 18 [(.var 6), (.var 7)]), true)], some [((.app 3 [(.var 0), (.var 1), (.var 2), (.var 3), (.var 4), (.var 5), (.var 6), (.var 7), (.var 8), (.var 9), (.var 10), (.var 11), (.var 12), (.var 13)]), (.boo false))]),
  ([((.app 19 [(.var 7)]), false), ((.app 19 [(.var 6)]), true), ((.op2 .eq (.var 2) (.num 2)), false), ((.op2 .eq (.var 2) (.num 3)), false), ((.app 10 [(.var 1), (.num 0), (.num 1000000)]), true), ((.app 10 [(.var 0), (.num 1), (.num 1000000)]), true), ((.app 18 [(.var 6), (.var 7)]), true)], none),
  ([((.app 19 [(.var 6)]), false), ((.op2 .eq (.var 2) (.num 2)), false), ((.op2 .eq (.var 2) (.num 3)), false), ((.app 10 [(.var 1), (.num 0), (.num 1000000)]), true), ((.app 10 [(.var 0), (.num 1), (.num 1000000)]), true), ((.app 18 [(.var 6), (.var 7)]), true)], none),
  ([((.app 10 [(.var 1), (.num 0), (.num 1000000)]), false), ((.app 10 [(.var 0), (.num 1), (.num 1000000)]), true), ((.app 18 [(.var 6), (.var 7)]), true)], some [((.app 3 [(.var 0), (.var 1), (.var 2), (.var 3), (.var 4), (.var 5), (.var 6), (.var 7), (.var 8), (.var 9), (.var 10), (.var 11), (.var 12), (.var 13)]), (.boo false))]),
  ([((.app 10 [(.var 0), (.num 1), (.num 1000000)]), false), ((.app 18 [(.var 6), (.var 7)]), true)], some [((.app 3 [(.var 0), (.var 1), (.var 2), (.var 3), (.var 4), (.var 5), (.var 6), (.var 7), (.var 8), (.var 9), (.var 10), (.var 11), (.var 12), (.var 13)]), (.boo false))])]
theorem Formed_w (r : Rho) : Formed_con.fn.ways Formed_call E0 r Formed_con.pre Formed_t = some Formed_l := by kernel_rfl
theorem Formed_cok : Formed_con.Ok Tryz.prog sy := by
  intro r σ w us hsy hρ hpre hrel hins
  obtain ⟨u0, us, rfl, g0, hi⟩ := ins_cons hins
  obtain ⟨p, k, rfl, hp⟩ := pap_agg g0
  rw [hρ] at hp
  have a0 := hp.h0
  have a1 := hp.h1
  have a2 := hp.h2
  have a3 := hp.h3
  have a4 := hp.h4
  have a5 := hp.h5
  have a6 := hp.h6
  have a7 := hp.h7
  have a8 := hp.h8
  have a9 := hp.h9
  have a10 := hp.h10
  have a11 := hp.h11
  have a12 := hp.h12
  have a13 := hp.h13
  simp only [Nat.zero_add] at a0 a1 a2 a3 a4 a5 a6 a7 a8 a9 a10 a11 a12 a13

  have s3 : r.sym 3 [.int (k 0) p.id, .int (k 1) p.known, .int (k 2) p.kind, .int (k 3) p.loss, .int (k 4) p.pack, .int (k 5) p.inn, .string p.mark, .string p.goods, .int (k 8) p.wlo, .int (k 9) p.whi, .int (k 10) p.pieces, .int (k 11) p.owner, .int (k 12) p.count, .int (k 13) p.off] = some (.bool (formedB p)) := by rw [hsy]; rfl
  have s9 : ∀ (k1 k2 k3 k4 : IntKind) (a b c d : Int), r.sym 9 [.int k1 a, .int k2 b, .int k3 c, .int k4 d] = some (.bool (spanB a b c d)) := fun _ _ _ _ _ _ _ _ => by rw [hsy]; rfl
  have s10 : ∀ (k1 k2 k3 : IntKind) (a b c : Int), r.sym 10 [.int k1 a, .int k2 b, .int k3 c] = some (.bool (withinB a b c)) := fun _ _ _ _ _ _ => by rw [hsy]; rfl
  have s1 : ∀ s, r.sym 1 [.string s] = some (.bool (markB s)) := fun _ => by rw [hsy]; rfl
  have s2 : ∀ s, r.sym 2 [.string s] = some (.bool (nameB s)) := fun _ => by rw [hsy]; rfl
  have s18 : ∀ s t, r.sym 18 [.string s, .string t] = some (.bool (smallS s t)) := fun _ _ => by rw [hsy]; rfl
  have s19 : ∀ s, r.sym 19 [.string s] = some (.bool (shortB s)) := fun _ => by rw [hsy]; rfl
  have hpre' := hpre
  simp only [Formed_con, FactsIn, X.bool, X.den, denL, d_wrap, d_kind, d_not, d_neg, d_slen, d_add, d_sub, d_mul, d_div, d_mod, d_lt, d_le, d_eq, d_eqb, d_eqs, d_lts, d_cat, d_sat, d_and, d_or, denSub, denIte, asB, len_R, cell_R, lsub_R, a0, a1, a2, a3, a4, a5, a6, a7, a8, a9, a10, a11, a12, a13, s18, Option.some.injEq, and_true] at hpre'
  obtain ⟨sh1, sh2⟩ := short_of hpre'
  refine con_of (E := E0) E0_ok E0_glob (sy := sy) (fun F => L2_ok F hsy) (fun F => noH_ok) (Formed_w r) hρ hpre hrel hins ?_ ?_
  · simp only [Formed_con, Formed_t, AsksL, GTree.asks, FTree.asks, FactsIn, List.append_nil, List.nil_append, List.cons_append, Option.some.injEq, exists_eq', implies_true, and_self, X.bool, X.den, denL, d_wrap, d_kind, d_not, d_neg, d_slen, d_add, d_sub, d_mul, d_div, d_mod, d_lt, d_le, d_eq, d_eqb, d_eqs, d_lts, d_cat, d_sat, d_and, d_or, denSub, denIte, asB, len_R, cell_R, lsub_R, a0, a1, a2, a3, a4, a5, a6, a7, a8, a9, a10, a11, a12, a13, s3, s9, s10, s1, s2, s18, s19, sh1, sh2, reduceCtorEq, false_implies, implies_true]
  · simp only [Formed_l, EndsOk, WaysOk, forall_cons, forall_nil, TgtOk, gpair, FactsIn, hold_cons, hold_nil, Option.some.injEq, Value.bool.injEq, Value.int.injEq, decide_eq_true_eq, decide_eq_false_iff_not, and_true, true_and, and_imp, X.bool, X.den, denL, d_wrap, d_kind, d_not, d_neg, d_slen, d_add, d_sub, d_mul, d_div, d_mod, d_lt, d_le, d_eq, d_eqb, d_eqs, d_lts, d_cat, d_sat, d_and, d_or, denSub, denIte, asB, len_R, cell_R, lsub_R, a0, a1, a2, a3, a4, a5, a6, a7, a8, a9, a10, a11, a12, a13, s3, s9, s10, s1, s2, s18, s19, sh1, sh2, reduceCtorEq, false_implies, implies_true]
    (repeat' apply And.intro) <;> intros <;> (simp only [formedB, Bool.and_true, Bool.true_and, Bool.and_false, Bool.false_and, cond_true, cond_false, Bool.not_true, Bool.not_false, *]; try rfl)
end Go.Proofs.YtmhbhkipjjcmlaaGreatDoor.Zs

namespace Go.Proofs.YtmhbhkipjjcmlaaGreatDoor.Zs
open Go
set_option linter.unusedSimpArgs false
set_option linter.unusedVariables false

noncomputable def L3 : Env → CallE := libs [cLib Formed_con]
theorem L3_ok (F : List (X × Bool)) {r : Rho} (h : r.sym = sy) : CallsOk (E0.with F r) (L3 (E0.with F r)) := libs_ok fun c hc => by
  simp only [List.mem_cons, List.not_mem_nil, or_false] at hc
  subst hc; exact lib_ok (E := E0) Formed_cok F h
def refused_vs : List X := [.num 0, .boo false, .boo false]

noncomputable def rCheckPaper_con : Con := { f := 23, args := [.agg (papLeaves 0)], N := 0, M := 0, pre := [(.app 18 [.var 6, .var 7], true)], out := .sint .i64 (.app 14 [.var 0, .var 1, .var 2, .var 3, .var 4, .var 5, .var 6, .var 7, .var 8, .var 9, .var 10, .var 11, .var 12, .var 13]), news := [] }
noncomputable def rCheckPaper_call : Env → CallL := fun E => acallAll E (evH E (L3 E) ((fun _ => noLoops) E) 4)
noncomputable def rCheckPaper_t : GTree := (.fork (.app 3 [(.var 0), (.var 1), (.var 2), (.var 3), (.var 4), (.var 5), (.var 6), (.var 7), (.var 8), (.var 9), (.var 10), (.var 11), (.var 12), (.var 13)]) (.leaf [[]]) (.leaf [[]]))
noncomputable def rCheckPaper_l : List (List (X × Bool) × Option Pairs) := [([((.app 3 [(.var 0), (.var 1), (.var 2), (.var 3), (.var 4), (.var 5), (.var 6), (.var 7), (.var 8), (.var 9), (.var 10), (.var 11), (.var 12), (.var 13)]), true), ((.app 18 [(.var 6), (.var 7)]), true)], some [((.app 14 [(.var 0), (.var 1), (.var 2), (.var 3), (.var 4), (.var 5), (.var 6), (.var 7), (.var 8), (.var 9), (.var 10), (.var 11), (.var 12), (.var 13)]), (.num 0))]),
  ([((.app 3 [(.var 0), (.var 1), (.var 2), (.var 3), (.var 4), (.var 5), (.var 6), (.var 7), (.var 8), (.var 9), (.var 10), (.var 11), (.var 12), (.var 13)]), false), ((.app 18 [(.var 6), (.var 7)]), true)], some [((.app 14 [(.var 0), (.var 1), (.var 2), (.var 3), (.var 4), (.var 5), (.var 6), (.var 7), (.var 8), (.var 9), (.var 10), (.var 11), (.var 12), (.var 13)]), (.num 1))])]
theorem rCheckPaper_w (r : Rho) : rCheckPaper_con.fn.ways rCheckPaper_call E0 r rCheckPaper_con.pre rCheckPaper_t = some rCheckPaper_l := by kernel_rfl
theorem rCheckPaper_cok : rCheckPaper_con.Ok Tryz.prog sy := by
  intro r σ w us hsy hρ hpre hrel hins
  obtain ⟨u0, us, rfl, g0, hi⟩ := ins_cons hins
  obtain ⟨p, k, rfl, hp⟩ := pap_agg g0
  rw [hρ] at hp
  have a0 := hp.h0
  have a1 := hp.h1
  have a2 := hp.h2
  have a3 := hp.h3
  have a4 := hp.h4
  have a5 := hp.h5
  have a6 := hp.h6
  have a7 := hp.h7
  have a8 := hp.h8
  have a9 := hp.h9
  have a10 := hp.h10
  have a11 := hp.h11
  have a12 := hp.h12
  have a13 := hp.h13
  simp only [Nat.zero_add] at a0 a1 a2 a3 a4 a5 a6 a7 a8 a9 a10 a11 a12 a13

  have s3 : r.sym 3 [.int (k 0) p.id, .int (k 1) p.known, .int (k 2) p.kind, .int (k 3) p.loss, .int (k 4) p.pack, .int (k 5) p.inn, .string p.mark, .string p.goods, .int (k 8) p.wlo, .int (k 9) p.whi, .int (k 10) p.pieces, .int (k 11) p.owner, .int (k 12) p.count, .int (k 13) p.off] = some (.bool (formedB p)) := by rw [hsy]; rfl
  have s14 : r.sym 14 [.int (k 0) p.id, .int (k 1) p.known, .int (k 2) p.kind, .int (k 3) p.loss, .int (k 4) p.pack, .int (k 5) p.inn, .string p.mark, .string p.goods, .int (k 8) p.wlo, .int (k 9) p.whi, .int (k 10) p.pieces, .int (k 11) p.owner, .int (k 12) p.count, .int (k 13) p.off] = some (.int .i64 (if formedB p then 0 else 1)) := by rw [hsy]; rfl
  have s18 : ∀ s t, r.sym 18 [.string s, .string t] = some (.bool (smallS s t)) := fun _ _ => by rw [hsy]; rfl
  refine con_of (E := E0) E0_ok E0_glob (sy := sy) (fun F => L3_ok F hsy) (fun F => noH_ok) (rCheckPaper_w r) hρ hpre hrel hins ?_ ?_
  · simp only [rCheckPaper_con, rCheckPaper_t, AsksL, GTree.asks, FTree.asks, FactsIn, List.append_nil, List.nil_append, List.cons_append, Option.some.injEq, exists_eq', implies_true, and_self, X.bool, X.den, denL, d_wrap, d_kind, d_not, d_neg, d_slen, d_add, d_sub, d_mul, d_div, d_mod, d_lt, d_le, d_eq, d_eqb, d_eqs, d_lts, d_cat, d_sat, d_and, d_or, denSub, denIte, asB, len_R, cell_R, lsub_R, a0, a1, a2, a3, a4, a5, a6, a7, a8, a9, a10, a11, a12, a13, s3, s14, s18]
  · simp only [rCheckPaper_l, EndsOk, WaysOk, forall_cons, forall_nil, TgtOk, gpair, FactsIn, hold_cons, hold_nil, Option.some.injEq, Value.bool.injEq, Value.int.injEq, decide_eq_true_eq, decide_eq_false_iff_not, and_true, true_and, and_imp, X.bool, X.den, denL, d_wrap, d_kind, d_not, d_neg, d_slen, d_add, d_sub, d_mul, d_div, d_mod, d_lt, d_le, d_eq, d_eqb, d_eqs, d_lts, d_cat, d_sat, d_and, d_or, denSub, denIte, asB, len_R, cell_R, lsub_R, a0, a1, a2, a3, a4, a5, a6, a7, a8, a9, a10, a11, a12, a13, s3, s14, s18]
    (repeat' apply And.intro) <;> intros <;> simp [*]
noncomputable def refused_D : LoopD := { N := 100, M := 103, size := sizeOfF 72, reads := [(0, .rows 14 papSch (.var 0) (.var 1) false 26), (1, .cells [.sint .i64 (.var 3), .sint .i64 (.var 4), .sint .u8 (.var 5), .sint .i64 (.var 6), .sint .i64 (.var 7), .sint .i64 (.var 8), .sstr (.var 9), .sstr (.var 10), .sint .i64 (.var 11), .sint .i64 (.var 12), .sint .i64 (.var 13), .sint .i64 (.var 14), .sint .i64 (.var 15), .sint .i64 (.var 16)] 26)], pats := [{ slots := [(0, .slx 0 14 (.var 0) (.num 0) (.op1 .len (.var 1)) (.var 2)), (3, .ptr 1 0), (6, .sbool (.var 101)), (7, .sbool (.var 102)), (8, .sint .i64 (.var 100))], heap := [] }], exits := [(.exit 0, { slots := [(0, .slx 0 14 (.var 0) (.num 0) (.op1 .len (.var 1)) (.var 2)), (3, .ptr 1 0), (6, .sbool (.app 16 [.var 1, .var 16])), (7, .sbool (.app 17 [.var 1, .var 16]))], heap := [], guard := .op1 .not (.app 15 [.var 1, .var 3]) }), (.ret, { slots := [(4, .int .i64 6)], heap := [], guard := .app 15 [.var 1, .var 3] })], own := [], pre := [] }
noncomputable def refused_run : Env → AF → ASt → Option (List Out) := bodyRun noL 4 (fun _ => noLoop) (loopAt Tryz.prog 72 0)
def refused0_F : List (X × Bool) := [(.op2 .lt (.var 100) (.num 0), false)]
noncomputable def refused0_t : FTree := (.fork (.op2 .lt (.var 100) (.op1 .len (.var 1))) (.fork (.op2 .eq (.cell 0 (.var 1) (.var 100)) (.var 3)) (.leaf [(.leave 1 [])]) (.fork (.var 101) (.fork (.var 102) (.leaf [(.again 0 [])]) (.fork (.op2 .eq (.cell 2 (.var 1) (.var 100)) (.num 3)) (.leaf [(.again 0 [])]) (.leaf [(.again 0 [])]))) (.fork (.op2 .eq (.cell 2 (.var 1) (.var 100)) (.num 3)) (.fork (.var 102) (.leaf [(.again 0 [])]) (.leaf [(.again 0 [])])) (.fork (.var 102) (.leaf [(.again 0 [])]) (.leaf [(.again 0 [])]))))) (.leaf [(.leave 0 [])]))
noncomputable def refused0_l : List (List (X × Bool) × Option (List (Tgt × Pairs))) := [([((.op2 .eq (.cell 0 (.var 1) (.var 100)) (.var 3)), true), ((.op2 .lt (.var 100) (.op1 .len (.var 1))), true), ((.op2 .lt (.var 100) (.num 0)), false)], some [((.leave 1 []), [((.app 15 [(.var 1), (.var 3)]), (.boo true))])]),
  ([((.var 102), true), ((.var 101), true), ((.op2 .eq (.cell 0 (.var 1) (.var 100)) (.var 3)), false), ((.op2 .lt (.var 100) (.op1 .len (.var 1))), true), ((.op2 .lt (.var 100) (.num 0)), false)], some [((.again 0 []), [((.var 101), (.boo true)), ((.var 102), (.boo true)), ((.var 100), (.op1 (.wrap .i64) (.op2 .add (.var 100) (.num 1))))])]),
  ([((.op2 .eq (.cell 2 (.var 1) (.var 100)) (.num 3)), true), ((.var 102), false), ((.var 101), true), ((.op2 .eq (.cell 0 (.var 1) (.var 100)) (.var 3)), false), ((.op2 .lt (.var 100) (.op1 .len (.var 1))), true), ((.op2 .lt (.var 100) (.num 0)), false)], some [((.again 0 []), [((.var 101), (.boo true)), ((.var 102), (.op2 .eq (.cell 13 (.var 1) (.var 100)) (.var 16))), ((.var 100), (.op1 (.wrap .i64) (.op2 .add (.var 100) (.num 1))))])]),
  ([((.op2 .eq (.cell 2 (.var 1) (.var 100)) (.num 3)), false), ((.var 102), false), ((.var 101), true), ((.op2 .eq (.cell 0 (.var 1) (.var 100)) (.var 3)), false), ((.op2 .lt (.var 100) (.op1 .len (.var 1))), true), ((.op2 .lt (.var 100) (.num 0)), false)], some [((.again 0 []), [((.var 101), (.boo true)), ((.var 102), (.boo false)), ((.var 100), (.op1 (.wrap .i64) (.op2 .add (.var 100) (.num 1))))])]),
  ([((.var 102), true), ((.op2 .eq (.cell 2 (.var 1) (.var 100)) (.num 3)), true), ((.var 101), false), ((.op2 .eq (.cell 0 (.var 1) (.var 100)) (.var 3)), false), ((.op2 .lt (.var 100) (.op1 .len (.var 1))), true), ((.op2 .lt (.var 100) (.num 0)), false)], some [((.again 0 []), [((.var 101), (.boo false)), ((.var 102), (.boo true)), ((.var 100), (.op1 (.wrap .i64) (.op2 .add (.var 100) (.num 1))))])]),
  ([((.var 102), false), ((.op2 .eq (.cell 2 (.var 1) (.var 100)) (.num 3)), true), ((.var 101), false), ((.op2 .eq (.cell 0 (.var 1) (.var 100)) (.var 3)), false), ((.op2 .lt (.var 100) (.op1 .len (.var 1))), true), ((.op2 .lt (.var 100) (.num 0)), false)], some [((.again 0 []), [((.var 101), (.boo false)), ((.var 102), (.op2 .eq (.cell 13 (.var 1) (.var 100)) (.var 16))), ((.var 100), (.op1 (.wrap .i64) (.op2 .add (.var 100) (.num 1))))])]),
  ([((.var 102), true), ((.op2 .eq (.cell 2 (.var 1) (.var 100)) (.num 3)), false), ((.var 101), false), ((.op2 .eq (.cell 0 (.var 1) (.var 100)) (.var 3)), false), ((.op2 .lt (.var 100) (.op1 .len (.var 1))), true), ((.op2 .lt (.var 100) (.num 0)), false)], some [((.again 0 []), [((.var 101), (.op2 .eq (.cell 0 (.var 1) (.var 100)) (.var 16))), ((.var 102), (.boo true)), ((.var 100), (.op1 (.wrap .i64) (.op2 .add (.var 100) (.num 1))))])]),
  ([((.var 102), false), ((.op2 .eq (.cell 2 (.var 1) (.var 100)) (.num 3)), false), ((.var 101), false), ((.op2 .eq (.cell 0 (.var 1) (.var 100)) (.var 3)), false), ((.op2 .lt (.var 100) (.op1 .len (.var 1))), true), ((.op2 .lt (.var 100) (.num 0)), false)], some [((.again 0 []), [((.var 101), (.op2 .eq (.cell 0 (.var 1) (.var 100)) (.var 16))), ((.var 102), (.boo false)), ((.var 100), (.op1 (.wrap .i64) (.op2 .add (.var 100) (.num 1))))])]),
  ([((.op2 .lt (.var 100) (.op1 .len (.var 1))), false), ((.op2 .lt (.var 100) (.num 0)), false)], some [((.leave 0 []), [((.app 16 [(.var 1), (.var 16)]), (.var 101)), ((.app 17 [(.var 1), (.var 16)]), (.var 102)), ((.op1 .not (.app 15 [(.var 1), (.var 3)])), (.boo true))])])]
theorem refused0_w (r : Rho) : refused_D.ways refused_run E0 r 0 refused0_F refused0_t = some refused0_l := by kernel_rfl
theorem refused_ok : refused_D.ok = true := by kernel_rfl
theorem lastKnown_at {l : List Pap} {q : Pap} (h0 : 0 < l.length) (hq : l[((l.length : Int) - 1).toNat]? = some q) : lastKnown l = q.known := by
  rcases List.eq_nil_or_concat l with e | ⟨l', q', e⟩
  · rw [e] at h0; simp at h0
  · rw [List.concat_eq_append] at e
    subst e
    have hl : (l' ++ [q']).length = l'.length + 1 := by simp
    rw [show (((l' ++ [q'] : List Pap).length : Int) - 1).toNat = l'.length by omega] at hq
    simp at hq
    subst hq
    simp [lastKnown]
theorem foundB_take {l : List Pap} {i : Nat} {p : Pap} (hp : l[i]? = some p) (off : Int) : foundB (l.take (i + 1)) off = (foundB (l.take i) off || ((!(p.kind == 3)) && p.id == off)) := by
  rw [List.take_add_one, hp]
  simp [foundB, bne]
theorem goneB_take {l : List Pap} {i : Nat} {p : Pap} (hp : l[i]? = some p) (off : Int) : goneB (l.take (i + 1)) off = (goneB (l.take i) off || (p.kind == 3 && p.off == off)) := by
  rw [List.take_add_one, hp]
  simp [goneB]
def refused_Inv (l : List Pap) (xid off : Int) (j : Nat) (vals : List Value) : Prop :=
  j = 0 ∧ ∃ i : Nat, i ≤ l.length ∧ vals = [.int .i64 i, .bool (foundB (l.take i) off), .bool (goneB (l.take i) off)] ∧ (l.take i).any (fun q => q.id == xid) = false
def refused_mu (l : List Pap) (_ : Nat) (vals : List Value) : Nat := l.length - (vI (vals.getD 0 default)).toNat
theorem refused_step {ρ : Rho} {l : List Pap} {xid off : Int} {k0 k13 : IntKind} (h1 : ρ.val 1 = some (papsR l)) (h3 : ρ.val 3 = some (.int k0 xid)) (h16 : ρ.val 16 = some (.int k13 off)) (hsy : ρ.sym = sy) (hmax : (l.length : Int) ≤ 140737488355328) (j : Nat) (vals : List Value) (hI : refused_Inv l xid off j vals) :
    StepOk refused_D refused_run E0 ρ (refused_Inv l xid off) (refused_mu l) j vals := by
  obtain ⟨rfl, i, hi, rfl, hall⟩ := hI
  have hN : refused_D.N = 100 := rfl
  generalize hf : foundB (l.take i) off = f
  generalize hg : goneB (l.take i) off = g
  have v1 : (ρ.ext refused_D.N [.int .i64 i, .bool f, .bool g]).val 1 = some (papsR l) := by rw [ext_low _ _ _ _ (by rw [hN]; omega)]; exact h1
  have v3 : (ρ.ext refused_D.N [.int .i64 i, .bool f, .bool g]).val 3 = some (.int k0 xid) := by rw [ext_low _ _ _ _ (by rw [hN]; omega)]; exact h3
  have v16 : (ρ.ext refused_D.N [.int .i64 i, .bool f, .bool g]).val 16 = some (.int k13 off) := by rw [ext_low _ _ _ _ (by rw [hN]; omega)]; exact h16
  have v100 : (ρ.ext refused_D.N [.int .i64 i, .bool f, .bool g]).val 100 = some (.int .i64 i) := by rw [ext_high _ _ _ _ (by rw [hN]; omega)]; rfl
  have v101 : (ρ.ext refused_D.N [.int .i64 i, .bool f, .bool g]).val 101 = some (.bool f) := by rw [ext_high _ _ _ _ (by rw [hN]; omega)]; rfl
  have v102 : (ρ.ext refused_D.N [.int .i64 i, .bool f, .bool g]).val 102 = some (.bool g) := by rw [ext_high _ _ _ _ (by rw [hN]; omega)]; rfl
  have vs : (ρ.ext refused_D.N [.int .i64 i, .bool f, .bool g]).sym = sy := hsy

  refine step_of_ways (refused0_w _) (F := refused0_F) ?_ (AsksL.ok ?_) ?_
  · simp only [refused0_F, FactsIn, X.bool, X.den, denL, d_wrap, d_kind, d_not, d_neg, d_slen, d_add, d_sub, d_mul, d_div, d_mod, d_lt, d_le, d_eq, d_eqb, d_eqs, d_lts, d_cat, d_sat, d_and, d_or, denSub, denIte, asB, len_R, cell_R, lsub_R, v100, Option.some.injEq, Value.bool.injEq, decide_eq_false_iff_not, and_true]
    omega
  · cases hp : l[i]? with
    | none =>
      have hge : ¬ (i : Int) < l.length := by have := List.getElem?_eq_none_iff.1 hp; omega
      simp only [refused0_t, refused0_F, AsksL, GTree.asks, FTree.asks, FactsIn, List.append_nil, List.nil_append, List.cons_append, Option.some.injEq, exists_eq', implies_true, and_self, X.bool, X.den, denL, d_wrap, d_kind, d_not, d_neg, d_slen, d_add, d_sub, d_mul, d_div, d_mod, d_lt, d_le, d_eq, d_eqb, d_eqs, d_lts, d_cat, d_sat, d_and, d_or, denSub, denIte, asB, len_R, cell_R, lsub_R, v1, v3, v16, v100, v101, v102, vs, sym15, sym16, sym17, Int.toNat_natCast, hp, hge]
      simp
    | some p => simp only [refused0_t, refused0_F, AsksL, GTree.asks, FTree.asks, FactsIn, List.append_nil, List.nil_append, List.cons_append, Option.some.injEq, exists_eq', implies_true, and_self, X.bool, X.den, denL, d_wrap, d_kind, d_not, d_neg, d_slen, d_add, d_sub, d_mul, d_div, d_mod, d_lt, d_le, d_eq, d_eqb, d_eqs, d_lts, d_cat, d_sat, d_and, d_or, denSub, denIte, asB, len_R, cell_R, lsub_R, v1, v3, v16, v100, v101, v102, vs, sym15, sym16, sym17, Int.toNat_natCast, hp, Option.bind_some, row0, row1, row2, row3, row4, row5, row6, row7, row8, row9, row10, row11, row12, row13]
  · cases hp : l[i]? with
    | none =>
      have hge := List.getElem?_eq_none_iff.1 hp
      have hge' : ¬ (i : Int) < l.length := by omega
      simp only [refused0_l, EndsOk, WaysOk, forall_cons, forall_nil, TgtOk, gpair, FactsIn, hold_cons, hold_nil, Option.some.injEq, Value.bool.injEq, Value.int.injEq, decide_eq_true_eq, decide_eq_false_iff_not, and_true, true_and, and_imp, X.bool, X.den, denL, d_wrap, d_kind, d_not, d_neg, d_slen, d_add, d_sub, d_mul, d_div, d_mod, d_lt, d_le, d_eq, d_eqb, d_eqs, d_lts, d_cat, d_sat, d_and, d_or, denSub, denIte, asB, len_R, cell_R, lsub_R, v1, v3, v16, v100, v101, v102, vs, h1, h3, h16, hsy, sym15, sym16, sym17, Int.toNat_natCast, hp, hge']
      have hi' : i = l.length := by omega
      subst hi'
      rw [List.take_length] at hall hf hg
      simp [hall, hf, hg]
    | some p =>
      have hlt : i < l.length := (List.getElem?_eq_some_iff.1 hp).1
      have hlt1 : (i : Int) < l.length := by omega
      simp only [refused0_l, EndsOk, WaysOk, forall_cons, forall_nil, TgtOk, gpair, FactsIn, hold_cons, hold_nil, Option.some.injEq, Value.bool.injEq, Value.int.injEq, decide_eq_true_eq, decide_eq_false_iff_not, and_true, true_and, and_imp, X.bool, X.den, denL, d_wrap, d_kind, d_not, d_neg, d_slen, d_add, d_sub, d_mul, d_div, d_mod, d_lt, d_le, d_eq, d_eqb, d_eqs, d_lts, d_cat, d_sat, d_and, d_or, denSub, denIte, asB, len_R, cell_R, lsub_R, v1, v3, v16, v100, v101, v102, vs, h1, h3, h16, hsy, sym15, sym16, sym17, Int.toNat_natCast, hp, Option.bind_some, row0, row1, row2, row3, row4, row5, row6, row7, row8, row9, row10, row11, row12, row13, hlt1]
      have go : ∀ f' g', (f || ((!(p.kind == 3)) && p.id == off)) = f' → (g || (p.kind == 3 && p.off == off)) = g' → (p.id == xid) = false →
          ∃ vals', ((ρ.ext refused_D.N vals').val 101 = some (.bool f') ∧ (ρ.ext refused_D.N vals').val 102 = some (.bool g') ∧ (ρ.ext refused_D.N vals').val 100 = some (.int .i64 (IntKind.i64.wrap ((i : Int) + 1)))) ∧
            refused_Inv l xid off 0 vals' ∧ refused_mu l 0 vals' < refused_mu l 0 [.int .i64 i, .bool f, .bool g] := by
        intro f' g' e1 e2 hx
        refine ⟨[.int .i64 ((i + 1 : Nat) : Int), .bool f', .bool g'], ⟨?_, ?_, ?_⟩, ⟨rfl, i + 1, by omega, ?_, ?_⟩, ?_⟩
        · rw [ext_high _ _ _ _ (by rw [hN]; omega)]; rfl
        · rw [ext_high _ _ _ _ (by rw [hN]; omega)]; rfl
        · rw [ext_high _ _ _ _ (by rw [hN]; omega), IntWalk.i64_in _ (by omega)]; rfl
        · rw [foundB_take hp, goneB_take hp, hf, hg, e1, e2]
        · rw [List.take_add_one, hp]
          simp only [Option.toList_some, List.any_append, hall, List.any_cons, List.any_nil, hx, Bool.or_self]
        · simp [refused_mu, vI]; omega
      have hpm : p ∈ l := List.mem_of_getElem? hp
      clear hf hg hall
      (repeat' apply And.intro) <;> intros <;> first
        | (refine go _ _ ?_ ?_ ?_ <;> first | assumption | (simp only [*, Bool.true_or, Bool.false_or, Bool.not_true, Bool.not_false, Bool.true_and, Bool.false_and, Bool.or_false]; done))
        | (exact List.any_eq_true.2 ⟨p, hpm, by assumption⟩)
        | (simp_all; done)
noncomputable def refused_con : Con := { f := 72, args := [papsArg 0 0, .agg (papLeaves 3)], N := 1, M := 1, pre := [(.app 20 [.var 1], true), (.app 18 [.var 9, .var 10], true)], out := .sint .i64 (.app 4 [.var 1, .var 3, .var 4, .var 5, .var 6, .var 7, .var 8, .var 9, .var 10, .var 11, .var 12, .var 13, .var 14, .var 15, .var 16]), news := [] }
noncomputable def refused_call : Env → CallL := fun E => acallAll E (evH E (L3 E) ((fun E => oneH 72 (hooks [(9, refused_D.hook E.facts refused_vs)])) E) 4)
noncomputable def refused_t : GTree := (.fork (.op2 .lt (.op1 .len (.var 1)) (.num 300)) (.fork (.app 3 [(.var 3), (.var 4), (.var 5), (.var 6), (.var 7), (.var 8), (.var 9), (.var 10), (.var 11), (.var 12), (.var 13), (.var 14), (.var 15), (.var 16)]) (.fork (.app 15 [(.var 1), (.var 3)]) (.leaf [[]]) (.fork (.op2 .lt (.num 0) (.op1 .len (.var 1))) (.fork (.op2 .lt (.op1 (.wrap .i64) (.op2 .sub (.op1 .len (.var 1)) (.num 1))) (.num 0)) .bad (.fork (.op2 .lt (.op1 (.wrap .i64) (.op2 .sub (.op1 .len (.var 1)) (.num 1))) (.op1 .len (.var 1))) (.fork (.op2 .lt (.var 4) (.cell 1 (.var 1) (.op1 (.wrap .i64) (.op2 .sub (.op1 .len (.var 1)) (.num 1))))) (.leaf [[]]) (.fork (.op2 .eq (.var 5) (.num 3)) (.fork (.app 16 [(.var 1), (.var 16)]) (.fork (.app 17 [(.var 1), (.var 16)]) (.leaf [[]]) (.leaf [[]])) (.leaf [[]])) (.leaf [[]]))) .bad)) (.fork (.op2 .eq (.var 5) (.num 3)) (.fork (.app 16 [(.var 1), (.var 16)]) (.fork (.app 17 [(.var 1), (.var 16)]) (.leaf [[]]) (.leaf [[]])) (.leaf [[]])) (.leaf [[]])))) (.leaf [[]])) (.leaf [[]]))
noncomputable def refused_l : List (List (X × Bool) × Option Pairs) := [([((.app 15 [(.var 1), (.var 3)]), true), ((.app 3 [(.var 3), (.var 4), (.var 5), (.var 6), (.var 7), (.var 8), (.var 9), (.var 10), (.var 11), (.var 12), (.var 13), (.var 14), (.var 15), (.var 16)]), true), ((.op2 .lt (.op1 .len (.var 1)) (.num 300)), true), ((.app 20 [(.var 1)]), true), ((.app 18 [(.var 9), (.var 10)]), true)], some [((.app 4 [(.var 1), (.var 3), (.var 4), (.var 5), (.var 6), (.var 7), (.var 8), (.var 9), (.var 10), (.var 11), (.var 12), (.var 13), (.var 14), (.var 15), (.var 16)]), (.num 6))]),
  ([((.op2 .lt (.op1 (.wrap .i64) (.op2 .sub (.op1 .len (.var 1)) (.num 1))) (.num 0)), true), ((.op2 .lt (.num 0) (.op1 .len (.var 1))), true), ((.app 15 [(.var 1), (.var 3)]), false), ((.app 3 [(.var 3), (.var 4), (.var 5), (.var 6), (.var 7), (.var 8), (.var 9), (.var 10), (.var 11), (.var 12), (.var 13), (.var 14), (.var 15), (.var 16)]), true), ((.op2 .lt (.op1 .len (.var 1)) (.num 300)), true), ((.app 20 [(.var 1)]), true), ((.app 18 [(.var 9), (.var 10)]), true)], none),
  ([((.op2 .lt (.var 4) (.cell 1 (.var 1) (.op1 (.wrap .i64) (.op2 .sub (.op1 .len (.var 1)) (.num 1))))), true), ((.op2 .lt (.op1 (.wrap .i64) (.op2 .sub (.op1 .len (.var 1)) (.num 1))) (.op1 .len (.var 1))), true), ((.op2 .lt (.op1 (.wrap .i64) (.op2 .sub (.op1 .len (.var 1)) (.num 1))) (.num 0)), false), ((.op2 .lt (.num 0) (.op1 .len (.var 1))), true), ((.app 15 [(.var 1), (.var 3)]), false), ((.app 3 [(.var 3), (.var 4), (.var 5), (.var 6), (.var 7), (.var 8), (.var 9), (.var 10), (.var 11), (.var 12), (.var 13), (.var 14), (.var 15), (.var 16)]), true), ((.op2 .lt (.op1 .len (.var 1)) (.num 300)), true), ((.app 20 [(.var 1)]), true), ((.app 18 [(.var 9), (.var 10)]), true)], some [((.app 4 [(.var 1), (.var 3), (.var 4), (.var 5), (.var 6), (.var 7), (.var 8), (.var 9), (.var 10), (.var 11), (.var 12), (.var 13), (.var 14), (.var 15), (.var 16)]), (.num 7))]),
  ([((.app 17 [(.var 1), (.var 16)]), true), ((.app 16 [(.var 1), (.var 16)]), true), ((.op2 .eq (.var 5) (.num 3)), true), ((.op2 .lt (.var 4) (.cell 1 (.var 1) (.op1 (.wrap .i64) (.op2 .sub (.op1 .len (.var 1)) (.num 1))))), false), ((.op2 .lt (.op1 (.wrap .i64) (.op2 .sub (.op1 .len (.var 1)) (.num 1))) (.op1 .len (.var 1))), true), ((.op2 .lt (.op1 (.wrap .i64) (.op2 .sub (.op1 .len (.var 1)) (.num 1))) (.num 0)), false), ((.op2 .lt (.num 0) (.op1 .len (.var 1))), true), ((.app 15 [(.var 1), (.var 3)]), false), ((.app 3 [(.var 3), (.var 4), (.var 5), (.var 6), (.var 7), (.var 8), (.var 9), (.var 10), (.var 11), (.var 12), (.var 13), (.var 14), (.var 15), (.var 16)]), true), ((.op2 .lt (.op1 .len (.var 1)) (.num 300)), true), ((.app 20 [(.var 1)]), true), ((.app 18 [(.var 9), (.var 10)]), true)], some [((.app 4 [(.var 1), (.var 3), (.var 4), (.var 5), (.var 6), (.var 7), (.var 8), (.var 9), (.var 10), (.var 11), (.var 12), (.var 13), (.var 14), (.var 15), (.var 16)]), (.num 6))]),
  ([((.app 17 [(.var 1), (.var 16)]), false), ((.app 16 [(.var 1), (.var 16)]), true), ((.op2 .eq (.var 5) (.num 3)), true), ((.op2 .lt (.var 4) (.cell 1 (.var 1) (.op1 (.wrap .i64) (.op2 .sub (.op1 .len (.var 1)) (.num 1))))), false), ((.op2 .lt (.op1 (.wrap .i64) (.op2 .sub (.op1 .len (.var 1)) (.num 1))) (.op1 .len (.var 1))), true), ((.op2 .lt (.op1 (.wrap .i64) (.op2 .sub (.op1 .len (.var 1)) (.num 1))) (.num 0)), false), ((.op2 .lt (.num 0) (.op1 .len (.var 1))), true), ((.app 15 [(.var 1), (.var 3)]), false), ((.app 3 [(.var 3), (.var 4), (.var 5), (.var 6), (.var 7), (.var 8), (.var 9), (.var 10), (.var 11), (.var 12), (.var 13), (.var 14), (.var 15), (.var 16)]), true), ((.op2 .lt (.op1 .len (.var 1)) (.num 300)), true), ((.app 20 [(.var 1)]), true), ((.app 18 [(.var 9), (.var 10)]), true)], some [((.app 4 [(.var 1), (.var 3), (.var 4), (.var 5), (.var 6), (.var 7), (.var 8), (.var 9), (.var 10), (.var 11), (.var 12), (.var 13), (.var 14), (.var 15), (.var 16)]), (.num 0))]),
  ([((.app 16 [(.var 1), (.var 16)]), false), ((.op2 .eq (.var 5) (.num 3)), true), ((.op2 .lt (.var 4) (.cell 1 (.var 1) (.op1 (.wrap .i64) (.op2 .sub (.op1 .len (.var 1)) (.num 1))))), false), ((.op2 .lt (.op1 (.wrap .i64) (.op2 .sub (.op1 .len (.var 1)) (.num 1))) (.op1 .len (.var 1))), true), ((.op2 .lt (.op1 (.wrap .i64) (.op2 .sub (.op1 .len (.var 1)) (.num 1))) (.num 0)), false), ((.op2 .lt (.num 0) (.op1 .len (.var 1))), true), ((.app 15 [(.var 1), (.var 3)]), false), ((.app 3 [(.var 3), (.var 4), (.var 5), (.var 6), (.var 7), (.var 8), (.var 9), (.var 10), (.var 11), (.var 12), (.var 13), (.var 14), (.var 15), (.var 16)]), true), ((.op2 .lt (.op1 .len (.var 1)) (.num 300)), true), ((.app 20 [(.var 1)]), true), ((.app 18 [(.var 9), (.var 10)]), true)], some [((.app 4 [(.var 1), (.var 3), (.var 4), (.var 5), (.var 6), (.var 7), (.var 8), (.var 9), (.var 10), (.var 11), (.var 12), (.var 13), (.var 14), (.var 15), (.var 16)]), (.num 5))]),
  ([((.op2 .eq (.var 5) (.num 3)), false), ((.op2 .lt (.var 4) (.cell 1 (.var 1) (.op1 (.wrap .i64) (.op2 .sub (.op1 .len (.var 1)) (.num 1))))), false), ((.op2 .lt (.op1 (.wrap .i64) (.op2 .sub (.op1 .len (.var 1)) (.num 1))) (.op1 .len (.var 1))), true), ((.op2 .lt (.op1 (.wrap .i64) (.op2 .sub (.op1 .len (.var 1)) (.num 1))) (.num 0)), false), ((.op2 .lt (.num 0) (.op1 .len (.var 1))), true), ((.app 15 [(.var 1), (.var 3)]), false), ((.app 3 [(.var 3), (.var 4), (.var 5), (.var 6), (.var 7), (.var 8), (.var 9), (.var 10), (.var 11), (.var 12), (.var 13), (.var 14), (.var 15), (.var 16)]), true), ((.op2 .lt (.op1 .len (.var 1)) (.num 300)), true), ((.app 20 [(.var 1)]), true), ((.app 18 [(.var 9), (.var 10)]), true)], some [((.app 4 [(.var 1), (.var 3), (.var 4), (.var 5), (.var 6), (.var 7), (.var 8), (.var 9), (.var 10), (.var 11), (.var 12), (.var 13), (.var 14), (.var 15), (.var 16)]), (.num 0))]),
  ([((.op2 .lt (.op1 (.wrap .i64) (.op2 .sub (.op1 .len (.var 1)) (.num 1))) (.op1 .len (.var 1))), false), ((.op2 .lt (.op1 (.wrap .i64) (.op2 .sub (.op1 .len (.var 1)) (.num 1))) (.num 0)), false), ((.op2 .lt (.num 0) (.op1 .len (.var 1))), true), ((.app 15 [(.var 1), (.var 3)]), false), ((.app 3 [(.var 3), (.var 4), (.var 5), (.var 6), (.var 7), (.var 8), (.var 9), (.var 10), (.var 11), (.var 12), (.var 13), (.var 14), (.var 15), (.var 16)]), true), ((.op2 .lt (.op1 .len (.var 1)) (.num 300)), true), ((.app 20 [(.var 1)]), true), ((.app 18 [(.var 9), (.var 10)]), true)], none),
  ([((.app 17 [(.var 1), (.var 16)]), true), ((.app 16 [(.var 1), (.var 16)]), true), ((.op2 .eq (.var 5) (.num 3)), true), ((.op2 .lt (.num 0) (.op1 .len (.var 1))), false), ((.app 15 [(.var 1), (.var 3)]), false), ((.app 3 [(.var 3), (.var 4), (.var 5), (.var 6), (.var 7), (.var 8), (.var 9), (.var 10), (.var 11), (.var 12), (.var 13), (.var 14), (.var 15), (.var 16)]), true), ((.op2 .lt (.op1 .len (.var 1)) (.num 300)), true), ((.app 20 [(.var 1)]), true), ((.app 18 [(.var 9), (.var 10)]), true)], some [((.app 4 [(.var 1), (.var 3), (.var 4), (.var 5), (.var 6), (.var 7), (.var 8), (.var 9), (.var 10), (.var 11), (.var 12), (.var 13), (.var 14), (.var 15), (.var 16)]), (.num 6))]),
  ([((.app 17 [(.var 1), (.var 16)]), false), ((.app 16 [(.var 1), (.var 16)]), true), ((.op2 .eq (.var 5) (.num 3)), true), ((.op2 .lt (.num 0) (.op1 .len (.var 1))), false), ((.app 15 [(.var 1), (.var 3)]), false), ((.app 3 [(.var 3), (.var 4), (.var 5), (.var 6), (.var 7), (.var 8), (.var 9), (.var 10), (.var 11), (.var 12), (.var 13), (.var 14), (.var 15), (.var 16)]), true), ((.op2 .lt (.op1 .len (.var 1)) (.num 300)), true), ((.app 20 [(.var 1)]), true), ((.app 18 [(.var 9), (.var 10)]), true)], some [((.app 4 [(.var 1), (.var 3), (.var 4), (.var 5), (.var 6), (.var 7), (.var 8), (.var 9), (.var 10), (.var 11), (.var 12), (.var 13), (.var 14), (.var 15), (.var 16)]), (.num 0))]),
  ([((.app 16 [(.var 1), (.var 16)]), false), ((.op2 .eq (.var 5) (.num 3)), true), ((.op2 .lt (.num 0) (.op1 .len (.var 1))), false), ((.app 15 [(.var 1), (.var 3)]), false), ((.app 3 [(.var 3), (.var 4), (.var 5), (.var 6), (.var 7), (.var 8), (.var 9), (.var 10), (.var 11), (.var 12), (.var 13), (.var 14), (.var 15), (.var 16)]), true), ((.op2 .lt (.op1 .len (.var 1)) (.num 300)), true), ((.app 20 [(.var 1)]), true), ((.app 18 [(.var 9), (.var 10)]), true)], some [((.app 4 [(.var 1), (.var 3), (.var 4), (.var 5), (.var 6), (.var 7), (.var 8), (.var 9), (.var 10), (.var 11), (.var 12), (.var 13), (.var 14), (.var 15), (.var 16)]), (.num 5))]),
  ([((.op2 .eq (.var 5) (.num 3)), false), ((.op2 .lt (.num 0) (.op1 .len (.var 1))), false), ((.app 15 [(.var 1), (.var 3)]), false), ((.app 3 [(.var 3), (.var 4), (.var 5), (.var 6), (.var 7), (.var 8), (.var 9), (.var 10), (.var 11), (.var 12), (.var 13), (.var 14), (.var 15), (.var 16)]), true), ((.op2 .lt (.op1 .len (.var 1)) (.num 300)), true), ((.app 20 [(.var 1)]), true), ((.app 18 [(.var 9), (.var 10)]), true)], some [((.app 4 [(.var 1), (.var 3), (.var 4), (.var 5), (.var 6), (.var 7), (.var 8), (.var 9), (.var 10), (.var 11), (.var 12), (.var 13), (.var 14), (.var 15), (.var 16)]), (.num 0))]),
  ([((.app 3 [(.var 3), (.var 4), (.var 5), (.var 6), (.var 7), (.var 8), (.var 9), (.var 10), (.var 11), (.var 12), (.var 13), (.var 14), (.var 15), (.var 16)]), false), ((.op2 .lt (.op1 .len (.var 1)) (.num 300)), true), ((.app 20 [(.var 1)]), true), ((.app 18 [(.var 9), (.var 10)]), true)], some [((.app 4 [(.var 1), (.var 3), (.var 4), (.var 5), (.var 6), (.var 7), (.var 8), (.var 9), (.var 10), (.var 11), (.var 12), (.var 13), (.var 14), (.var 15), (.var 16)]), (.num 1))]),
  ([((.op2 .lt (.op1 .len (.var 1)) (.num 300)), false), ((.app 20 [(.var 1)]), true), ((.app 18 [(.var 9), (.var 10)]), true)], some [((.app 4 [(.var 1), (.var 3), (.var 4), (.var 5), (.var 6), (.var 7), (.var 8), (.var 9), (.var 10), (.var 11), (.var 12), (.var 13), (.var 14), (.var 15), (.var 16)]), (.num 2))])]
theorem refused_w (r : Rho) : refused_con.fn.ways refused_call E0 r refused_con.pre refused_t = some refused_l := by kernel_rfl
theorem refused_H {r : Rho} {l : List Pap} {xid off : Int} {k0 k13 : IntKind} (h1 : r.val 1 = some (papsR l)) (h3 : r.val 3 = some (.int k0 xid)) (h16 : r.val 16 = some (.int k13 off)) (hmax : (l.length : Int) ≤ 140737488355328) (hsy : r.sym = sy) (F : List (X × Bool)) :
    LoopsOk (E0.with F r) (oneH 72 (hooks [(9, refused_D.hook (E0.with F r).facts refused_vs)])) := by
  refine loops_all (n := 1) (fun f fn h => h) (by kernel_rfl) fun i hi => ?_
  obtain rfl : i = 0 := by omega
  rw [hooks_hit (show keyOf (loopAt (E0.with F r).P 72 0) = 9 by kernel_rfl)]
  refine hook_ok (E₀ := E0) (run := refused_run) (ρ := r) (Inv := refused_Inv l xid off) (μ := refused_mu l) E0_ok refused_ok (fun F r' h => ?_) (fun _ => ⟨refused_step h1 h3 h16 hsy hmax, [.int .i64 0, .bool false, .bool false], ?_, rfl, 0, Nat.zero_le _, rfl, rfl⟩)
  · exact bodyRun_ok E0_ok (noL_ok F (h.trans hsy)) fun _ _ => noLoop_ok
  · simp only [refused_vs, X.bool, X.den, denL, d_wrap, d_kind, d_not, d_neg, d_slen, d_add, d_sub, d_mul, d_div, d_mod, d_lt, d_le, d_eq, d_eqb, d_eqs, d_lts, d_cat, d_sat, d_and, d_or, denSub, denIte, asB, len_R, cell_R, lsub_R]

set_option maxHeartbeats 4000000 in
theorem refused_cok : refused_con.Ok Tryz.prog sy := by
  intro r σ w us hsy hρ hpre hrel hins
  obtain ⟨u0, us, rfl, g0, hi⟩ := ins_cons hins
  obtain ⟨u1, us, rfl, g1, hi⟩ := ins_cons hi
  obtain ⟨x, k, rfl, hp⟩ := pap_agg g1
  obtain ⟨l, h1⟩ := paps_at hrel (i := 0) rfl
  rw [hρ] at hp h1
  have h1 : r.val 1 = some (papsR l) := h1
  have a0 := hp.h0
  have a1 := hp.h1
  have a2 := hp.h2
  have a3 := hp.h3
  have a4 := hp.h4
  have a5 := hp.h5
  have a6 := hp.h6
  have a7 := hp.h7
  have a8 := hp.h8
  have a9 := hp.h9
  have a10 := hp.h10
  have a11 := hp.h11
  have a12 := hp.h12
  have a13 := hp.h13
  simp only [Nat.reduceAdd] at a0 a1 a2 a3 a4 a5 a6 a7 a8 a9 a10 a11 a12 a13

  have s3 : r.sym 3 [.int (k 0) x.id, .int (k 1) x.known, .int (k 2) x.kind, .int (k 3) x.loss, .int (k 4) x.pack, .int (k 5) x.inn, .string x.mark, .string x.goods, .int (k 8) x.wlo, .int (k 9) x.whi, .int (k 10) x.pieces, .int (k 11) x.owner, .int (k 12) x.count, .int (k 13) x.off] = some (.bool (formedB x)) := by rw [hsy]; rfl
  have s4 : r.sym 4 (papsR l :: [.int (k 0) x.id, .int (k 1) x.known, .int (k 2) x.kind, .int (k 3) x.loss, .int (k 4) x.pack, .int (k 5) x.inn, .string x.mark, .string x.goods, .int (k 8) x.wlo, .int (k 9) x.whi, .int (k 10) x.pieces, .int (k 11) x.owner, .int (k 12) x.count, .int (k 13) x.off]) = some (.int .i64 (refusedE l x)) := by
    rw [hsy]
    show some (Value.int .i64 (refusedE (papsV (papsR l)) x)) = _
    rw [papsV_R]
  have s15 : ∀ kk n, r.sym 15 [papsR l, .int kk n] = some (.bool (l.any fun q => q.id == n)) := fun kk n => by rw [hsy]; exact sym15 l kk n
  have s16 : ∀ kk n, r.sym 16 [papsR l, .int kk n] = some (.bool (foundB l n)) := fun kk n => by rw [hsy]; exact sym16 l kk n
  have s17 : ∀ kk n, r.sym 17 [papsR l, .int kk n] = some (.bool (goneB l n)) := fun kk n => by rw [hsy]; exact sym17 l kk n
  have s18 : ∀ s t, r.sym 18 [.string s, .string t] = some (.bool (smallS s t)) := fun _ _ => by rw [hsy]; rfl
  have s20 : r.sym 20 [papsR l] = some (.bool (lenB l)) := by rw [hsy]; exact sym20 _
  have hmax : (l.length : Int) ≤ 140737488355328 := by
    have := hpre.1
    simp only [X.bool, X.den, denL, d_wrap, d_kind, d_not, d_neg, d_slen, d_add, d_sub, d_mul, d_div, d_mod, d_lt, d_le, d_eq, d_eqb, d_eqs, d_lts, d_cat, d_sat, d_and, d_or, denSub, denIte, asB, len_R, cell_R, lsub_R, h1, s20, Option.some.injEq, lenB, decide_eq_true_eq] at this
    exact this
  refine con_of (E := E0) E0_ok E0_glob (sy := sy) (fun F => L3_ok F hsy) (fun F => refused_H h1 a0 a13 hmax hsy F) (refused_w r) hρ hpre hrel hins ?_ ?_
  · by_cases h0 : 0 < l.length
    · have hw : IntKind.i64.wrap ((l.length : Int) - 1) = l.length - 1 := IntWalk.i64_in _ (by omega)
      obtain ⟨q, hq⟩ : ∃ q, l[((l.length : Int) - 1).toNat]? = some q := ⟨l[((l.length : Int) - 1).toNat]'(by omega), List.getElem?_eq_getElem (by omega)⟩
      simp only [refused_con, refused_t, AsksL, GTree.asks, FTree.asks, FactsIn, List.append_nil, List.nil_append, List.cons_append, Option.some.injEq, exists_eq', implies_true, and_self, X.bool, X.den, denL, d_wrap, d_kind, d_not, d_neg, d_slen, d_add, d_sub, d_mul, d_div, d_mod, d_lt, d_le, d_eq, d_eqb, d_eqs, d_lts, d_cat, d_sat, d_and, d_or, denSub, denIte, asB, len_R, cell_R, lsub_R, a0, a1, a2, a3, a4, a5, a6, a7, a8, a9, a10, a11, a12, a13, h1, s3, s4, s15, s16, s17, s18, s20, hw, hq, Option.bind_some, row0, row1, row2, row3, row4, row5, row6, row7, row8, row9, row10, row11, row12, row13]
    · have h0' : ¬ (0 : Int) < l.length := by omega
      simp only [refused_con, refused_t, AsksL, GTree.asks, FTree.asks, FactsIn, List.append_nil, List.nil_append, List.cons_append, Option.some.injEq, exists_eq', implies_true, and_self, X.bool, X.den, denL, d_wrap, d_kind, d_not, d_neg, d_slen, d_add, d_sub, d_mul, d_div, d_mod, d_lt, d_le, d_eq, d_eqb, d_eqs, d_lts, d_cat, d_sat, d_and, d_or, denSub, denIte, asB, len_R, cell_R, lsub_R, a0, a1, a2, a3, a4, a5, a6, a7, a8, a9, a10, a11, a12, a13, h1, s3, s4, s15, s16, s17, s18, s20, h0']
      simp
  · by_cases h0 : 0 < l.length
    · have hw : IntKind.i64.wrap ((l.length : Int) - 1) = l.length - 1 := IntWalk.i64_in _ (by omega)
      obtain ⟨q, hq⟩ : ∃ q, l[((l.length : Int) - 1).toNat]? = some q := ⟨l[((l.length : Int) - 1).toNat]'(by omega), List.getElem?_eq_getElem (by omega)⟩
      have hlast : lastKnown l = q.known := by
        exact lastKnown_at h0 hq
      have h0' : (0 : Int) < l.length := by omega
      simp only [refused_l, EndsOk, WaysOk, forall_cons, forall_nil, TgtOk, gpair, FactsIn, hold_cons, hold_nil, Option.some.injEq, Value.bool.injEq, Value.int.injEq, decide_eq_true_eq, decide_eq_false_iff_not, and_true, true_and, and_imp, X.bool, X.den, denL, d_wrap, d_kind, d_not, d_neg, d_slen, d_add, d_sub, d_mul, d_div, d_mod, d_lt, d_le, d_eq, d_eqb, d_eqs, d_lts, d_cat, d_sat, d_and, d_or, denSub, denIte, asB, len_R, cell_R, lsub_R, a0, a1, a2, a3, a4, a5, a6, a7, a8, a9, a10, a11, a12, a13, h1, s3, s4, s15, s16, s17, s18, s20, hw, hq, Option.bind_some, row0, row1, row2, row3, row4, row5, row6, row7, row8, row9, row10, row11, row12, row13]
      clear hsy hρ hpre hrel hi hp hins g0 g1 h1 a0 a1 a2 a3 a4 a5 a6 a7 a8 a9 a10 a11 a12 a13 s3 s4 s15 s16 s17 s18 s20
      (repeat' apply And.intro) <;> intros <;> first
        | (exfalso; omega)
        | (simp only [refusedE]; (repeat' split) <;> first | rfl | (exfalso; simp_all; done) | (exfalso; simp_all; omega) | (exfalso; omega))
    · have h0' : ¬ (0 : Int) < l.length := by omega
      simp only [refused_l, EndsOk, WaysOk, forall_cons, forall_nil, TgtOk, gpair, FactsIn, hold_cons, hold_nil, Option.some.injEq, Value.bool.injEq, Value.int.injEq, decide_eq_true_eq, decide_eq_false_iff_not, and_true, true_and, and_imp, X.bool, X.den, denL, d_wrap, d_kind, d_not, d_neg, d_slen, d_add, d_sub, d_mul, d_div, d_mod, d_lt, d_le, d_eq, d_eqb, d_eqs, d_lts, d_cat, d_sat, d_and, d_or, denSub, denIte, asB, len_R, cell_R, lsub_R, a0, a1, a2, a3, a4, a5, a6, a7, a8, a9, a10, a11, a12, a13, h1, s3, s4, s15, s16, s17, s18, s20, h0']
      clear hsy hρ hpre hrel hi hp hins g0 g1 h1 a0 a1 a2 a3 a4 a5 a6 a7 a8 a9 a10 a11 a12 a13 s3 s4 s15 s16 s17 s18 s20
      (repeat' apply And.intro) <;> intros <;> first
        | (exfalso; simp_all; done)
        | (simp only [refusedE]; (repeat' split) <;> first | rfl | (exfalso; simp_all; done) | (exfalso; simp_all; omega) | (exfalso; omega))

end Go.Proofs.YtmhbhkipjjcmlaaGreatDoor.Zs

namespace Go.Proofs.YtmhbhkipjjcmlaaGreatDoor.Zs
open Go
set_option linter.unusedSimpArgs false
set_option linter.unusedVariables false

noncomputable def L4 : Env → CallE := libs [cLib refused_con]
theorem L4_ok (F : List (X × Bool)) {r : Rho} (h : r.sym = sy) : CallsOk (E0.with F r) (L4 (E0.with F r)) := libs_ok fun c hc => by
  simp only [List.mem_cons, List.not_mem_nil, or_false] at hc
  subst hc; exact lib_ok (E := E0) refused_cok F h
def rCheck_vs : List X := [.num 0]

noncomputable def rCheck_D : LoopD := { N := 100, M := 101, size := sizeOfF 18, reads := [(0, .rows 14 papSch (.var 0) (.var 1) false 26)], pats := [{ slots := [(0, .slx 0 14 (.var 0) (.num 0) (.op1 .len (.var 1)) (.var 2)), (4, .sint .i64 (.var 100))], heap := [] }], exits := [(.exit 0, { slots := [], heap := [], guard := .op2 .eq (.app 6 [.var 1]) (.num 0) }), (.ret, { slots := [(2, .sint .i64 (.app 5 [.var 1])), (3, .sint .i64 (.app 6 [.var 1]))], heap := [], guard := .op1 .not (.op2 .eq (.app 6 [.var 1]) (.num 0)) })], own := [], pre := [(.app 20 [.var 1], true), (.app 12 [.var 1], true)] }
noncomputable def rCheck_run : Env → AF → ASt → Option (List Out) := bodyRun L4 4 (fun _ => noLoop) (loopAt Tryz.prog 18 0)
def rCheck0_F : List (X × Bool) := [(.op2 .lt (.var 100) (.num 0), false)]
noncomputable def rCheck0_t : FTree := (.fork (.op2 .lt (.var 100) (.op1 .len (.var 1))) (.fork (.op2 .lt (.var 2) (.var 100)) .bad (.fork (.op2 .lt (.op1 .len (.var 1)) (.var 100)) .bad (.fork (.app 20 [(.lsub (.var 1) (.num 0) (.var 100))]) (.fork (.app 18 [(.cell 6 (.var 1) (.var 100)), (.cell 7 (.var 1) (.var 100))]) (.fork (.op2 .eq (.app 4 [(.lsub (.var 1) (.num 0) (.var 100)), (.cell 0 (.var 1) (.var 100)), (.cell 1 (.var 1) (.var 100)), (.cell 2 (.var 1) (.var 100)), (.cell 3 (.var 1) (.var 100)), (.cell 4 (.var 1) (.var 100)), (.cell 5 (.var 1) (.var 100)), (.cell 6 (.var 1) (.var 100)), (.cell 7 (.var 1) (.var 100)), (.cell 8 (.var 1) (.var 100)), (.cell 9 (.var 1) (.var 100)), (.cell 10 (.var 1) (.var 100)), (.cell 11 (.var 1) (.var 100)), (.cell 12 (.var 1) (.var 100)), (.cell 13 (.var 1) (.var 100))]) (.num 0)) (.leaf [(.again 0 [])]) (.leaf [(.leave 1 [])])) .bad) .bad))) (.leaf [(.leave 0 [])]))
noncomputable def rCheck0_l : List (List (X × Bool) × Option (List (Tgt × Pairs))) := [([((.op2 .lt (.var 2) (.var 100)), true), ((.op2 .lt (.var 100) (.op1 .len (.var 1))), true), ((.op2 .lt (.var 100) (.num 0)), false)], none),
  ([((.op2 .lt (.op1 .len (.var 1)) (.var 100)), true), ((.op2 .lt (.var 2) (.var 100)), false), ((.op2 .lt (.var 100) (.op1 .len (.var 1))), true), ((.op2 .lt (.var 100) (.num 0)), false)], none),
  ([((.op2 .eq (.app 4 [(.lsub (.var 1) (.num 0) (.var 100)), (.cell 0 (.var 1) (.var 100)), (.cell 1 (.var 1) (.var 100)), (.cell 2 (.var 1) (.var 100)), (.cell 3 (.var 1) (.var 100)), (.cell 4 (.var 1) (.var 100)), (.cell 5 (.var 1) (.var 100)), (.cell 6 (.var 1) (.var 100)), (.cell 7 (.var 1) (.var 100)), (.cell 8 (.var 1) (.var 100)), (.cell 9 (.var 1) (.var 100)), (.cell 10 (.var 1) (.var 100)), (.cell 11 (.var 1) (.var 100)), (.cell 12 (.var 1) (.var 100)), (.cell 13 (.var 1) (.var 100))]) (.num 0)), true), ((.app 18 [(.cell 6 (.var 1) (.var 100)), (.cell 7 (.var 1) (.var 100))]), true), ((.app 20 [(.lsub (.var 1) (.num 0) (.var 100))]), true), ((.op2 .lt (.op1 .len (.var 1)) (.var 100)), false), ((.op2 .lt (.var 2) (.var 100)), false), ((.op2 .lt (.var 100) (.op1 .len (.var 1))), true), ((.op2 .lt (.var 100) (.num 0)), false)], some [((.again 0 []), [((.var 100), (.op1 (.wrap .i64) (.op2 .add (.var 100) (.num 1))))])]),
  ([((.op2 .eq (.app 4 [(.lsub (.var 1) (.num 0) (.var 100)), (.cell 0 (.var 1) (.var 100)), (.cell 1 (.var 1) (.var 100)), (.cell 2 (.var 1) (.var 100)), (.cell 3 (.var 1) (.var 100)), (.cell 4 (.var 1) (.var 100)), (.cell 5 (.var 1) (.var 100)), (.cell 6 (.var 1) (.var 100)), (.cell 7 (.var 1) (.var 100)), (.cell 8 (.var 1) (.var 100)), (.cell 9 (.var 1) (.var 100)), (.cell 10 (.var 1) (.var 100)), (.cell 11 (.var 1) (.var 100)), (.cell 12 (.var 1) (.var 100)), (.cell 13 (.var 1) (.var 100))]) (.num 0)), false), ((.app 18 [(.cell 6 (.var 1) (.var 100)), (.cell 7 (.var 1) (.var 100))]), true), ((.app 20 [(.lsub (.var 1) (.num 0) (.var 100))]), true), ((.op2 .lt (.op1 .len (.var 1)) (.var 100)), false), ((.op2 .lt (.var 2) (.var 100)), false), ((.op2 .lt (.var 100) (.op1 .len (.var 1))), true), ((.op2 .lt (.var 100) (.num 0)), false)], some [((.leave 1 []), [((.app 5 [(.var 1)]), (.var 100)), ((.app 6 [(.var 1)]), (.app 4 [(.lsub (.var 1) (.num 0) (.var 100)), (.cell 0 (.var 1) (.var 100)), (.cell 1 (.var 1) (.var 100)), (.cell 2 (.var 1) (.var 100)), (.cell 3 (.var 1) (.var 100)), (.cell 4 (.var 1) (.var 100)), (.cell 5 (.var 1) (.var 100)), (.cell 6 (.var 1) (.var 100)), (.cell 7 (.var 1) (.var 100)), (.cell 8 (.var 1) (.var 100)), (.cell 9 (.var 1) (.var 100)), (.cell 10 (.var 1) (.var 100)), (.cell 11 (.var 1) (.var 100)), (.cell 12 (.var 1) (.var 100)), (.cell 13 (.var 1) (.var 100))])), ((.op1 .not (.op2 .eq (.app 6 [(.var 1)]) (.num 0))), (.boo true))])]),
  ([((.app 18 [(.cell 6 (.var 1) (.var 100)), (.cell 7 (.var 1) (.var 100))]), false), ((.app 20 [(.lsub (.var 1) (.num 0) (.var 100))]), true), ((.op2 .lt (.op1 .len (.var 1)) (.var 100)), false), ((.op2 .lt (.var 2) (.var 100)), false), ((.op2 .lt (.var 100) (.op1 .len (.var 1))), true), ((.op2 .lt (.var 100) (.num 0)), false)], none),
  ([((.app 20 [(.lsub (.var 1) (.num 0) (.var 100))]), false), ((.op2 .lt (.op1 .len (.var 1)) (.var 100)), false), ((.op2 .lt (.var 2) (.var 100)), false), ((.op2 .lt (.var 100) (.op1 .len (.var 1))), true), ((.op2 .lt (.var 100) (.num 0)), false)], none),
  ([((.op2 .lt (.var 100) (.op1 .len (.var 1))), false), ((.op2 .lt (.var 100) (.num 0)), false)], some [((.leave 0 []), [((.op2 .eq (.app 6 [(.var 1)]) (.num 0)), (.boo true))])])]
theorem rCheck0_w (r : Rho) : rCheck_D.ways rCheck_run E0 r 0 rCheck0_F rCheck0_t = some rCheck0_l := by kernel_rfl
theorem rCheck_ok : rCheck_D.ok = true := by kernel_rfl
def rCheck_Inv (l : List Pap) (j : Nat) (vals : List Value) : Prop :=
  j = 0 ∧ ∃ i : Nat, i ≤ l.length ∧ vals = [.int .i64 i] ∧ checkR l = chkGo (l.take i) (l.drop i)
def rCheck_mu (l : List Pap) (_ : Nat) (vals : List Value) : Nat := l.length - (vI (vals.getD 0 default)).toNat
theorem rCheck_step {ρ : Rho} {l : List Pap} {kc : IntKind} {cap : Int} (h1 : ρ.val 1 = some (papsR l)) (h2 : ρ.val 2 = some (.int kc cap)) (hcap : (l.length : Int) ≤ cap) (hsy : ρ.sym = sy) (hsm : smallB l = true) (hmax : (l.length : Int) ≤ 140737488355328) (j : Nat) (vals : List Value) (hI : rCheck_Inv l j vals) :
    StepOk rCheck_D rCheck_run E0 ρ (rCheck_Inv l) (rCheck_mu l) j vals := by
  obtain ⟨rfl, i, hi, rfl, hall⟩ := hI
  have hN : rCheck_D.N = 100 := rfl
  have v1 : (ρ.ext rCheck_D.N [.int .i64 i]).val 1 = some (papsR l) := by rw [ext_low _ _ _ _ (by rw [hN]; omega)]; exact h1
  have v2 : (ρ.ext rCheck_D.N [.int .i64 i]).val 2 = some (.int kc cap) := by rw [ext_low _ _ _ _ (by rw [hN]; omega)]; exact h2
  have v100 : (ρ.ext rCheck_D.N [.int .i64 i]).val 100 = some (.int .i64 i) := by rw [ext_high _ _ _ _ (by rw [hN]; omega)]; rfl
  have vs : (ρ.ext rCheck_D.N [.int .i64 i]).sym = sy := hsy

  have hl20 : lenB (l.take i) = true := by simp only [lenB, decide_eq_true_eq, List.length_take]; omega
  refine step_of_ways (rCheck0_w _) (F := rCheck0_F) ?_ (AsksL.ok ?_) ?_
  · simp only [rCheck0_F, FactsIn, X.bool, X.den, denL, d_wrap, d_kind, d_not, d_neg, d_slen, d_add, d_sub, d_mul, d_div, d_mod, d_lt, d_le, d_eq, d_eqb, d_eqs, d_lts, d_cat, d_sat, d_and, d_or, denSub, denIte, asB, len_R, cell_R, lsub_R, v100, Option.some.injEq, Value.bool.injEq, decide_eq_false_iff_not, and_true]
    omega
  · cases hp : l[i]? with
    | none =>
      have hge : ¬ (i : Int) < l.length := by have := List.getElem?_eq_none_iff.1 hp; omega
      simp only [rCheck0_t, rCheck0_F, AsksL, GTree.asks, FTree.asks, FactsIn, List.append_nil, List.nil_append, List.cons_append, Option.some.injEq, exists_eq', implies_true, and_self, X.bool, X.den, denL, d_wrap, d_kind, d_not, d_neg, d_slen, d_add, d_sub, d_mul, d_div, d_mod, d_lt, d_le, d_eq, d_eqb, d_eqs, d_lts, d_cat, d_sat, d_and, d_or, denSub, denIte, asB, len_R, cell_R, lsub_R, v1, v2, v100, vs, sym20, sym18, sym6, Int.toNat_natCast, Int.toNat_zero, List.drop_zero, hp, hge]
      simp
    | some p => simp only [rCheck0_t, rCheck0_F, AsksL, GTree.asks, FTree.asks, FactsIn, List.append_nil, List.nil_append, List.cons_append, Option.some.injEq, exists_eq', implies_true, and_self, X.bool, X.den, denL, d_wrap, d_kind, d_not, d_neg, d_slen, d_add, d_sub, d_mul, d_div, d_mod, d_lt, d_le, d_eq, d_eqb, d_eqs, d_lts, d_cat, d_sat, d_and, d_or, denSub, denIte, asB, len_R, cell_R, lsub_R, v1, v2, v100, vs, sym20, sym18, sym4, sym6, Int.toNat_natCast, Int.toNat_zero, List.drop_zero, hp, Option.bind_some, row0, row1, row2, row3, row4, row5, row6, row7, row8, row9, row10, row11, row12, row13]
  · cases hp : l[i]? with
    | none =>
      have hge := List.getElem?_eq_none_iff.1 hp
      have hge' : ¬ (i : Int) < l.length := by omega
      simp only [rCheck0_l, EndsOk, WaysOk, forall_cons, forall_nil, TgtOk, gpair, FactsIn, hold_cons, hold_nil, Option.some.injEq, Value.bool.injEq, Value.int.injEq, decide_eq_true_eq, decide_eq_false_iff_not, and_true, true_and, and_imp, X.bool, X.den, denL, d_wrap, d_kind, d_not, d_neg, d_slen, d_add, d_sub, d_mul, d_div, d_mod, d_lt, d_le, d_eq, d_eqb, d_eqs, d_lts, d_cat, d_sat, d_and, d_or, denSub, denIte, asB, len_R, cell_R, lsub_R, v1, v2, v100, vs, h1, h2, hsy, sym20, sym18, sym5, sym6, Int.toNat_natCast, Int.toNat_zero, List.drop_zero, hp, hge']
      have hi' : i = l.length := by omega
      subst hi'
      rw [List.drop_length] at hall
      simp [hall, chkGo]
    | some p =>
      have hlt : i < l.length := (List.getElem?_eq_some_iff.1 hp).1
      have hlt1 : (i : Int) < l.length := by omega
      have hsp := small_at hsm hp
      rw [chkGo_step hp] at hall
      simp only [rCheck0_l, EndsOk, WaysOk, forall_cons, forall_nil, TgtOk, gpair, FactsIn, hold_cons, hold_nil, Option.some.injEq, Value.bool.injEq, Value.int.injEq, decide_eq_true_eq, decide_eq_false_iff_not, and_true, true_and, and_imp, X.bool, X.den, denL, d_wrap, d_kind, d_not, d_neg, d_slen, d_add, d_sub, d_mul, d_div, d_mod, d_lt, d_le, d_eq, d_eqb, d_eqs, d_lts, d_cat, d_sat, d_and, d_or, denSub, denIte, asB, len_R, cell_R, lsub_R, v1, v2, v100, vs, h1, h2, hsy, sym20, sym18, sym4, sym5, sym6, Int.toNat_natCast, Int.toNat_zero, List.drop_zero, hp, Option.bind_some, row0, row1, row2, row3, row4, row5, row6, row7, row8, row9, row10, row11, row12, row13, hlt1, hl20, hsp, beq_iff_eq, beq_eq_false_iff_ne]
      have go : refusedE (l.take i) p = 0 →
          ∃ vals', ((ρ.ext rCheck_D.N vals').val 100 = some (.int .i64 (IntKind.i64.wrap ((i : Int) + 1)))) ∧
            rCheck_Inv l 0 vals' ∧ rCheck_mu l 0 vals' < rCheck_mu l 0 [.int .i64 i] := by
        intro e
        refine ⟨[.int .i64 ((i + 1 : Nat) : Int)], ?_, ⟨rfl, i + 1, by omega, rfl, ?_⟩, ?_⟩
        · rw [ext_high _ _ _ _ (by rw [hN]; omega), IntWalk.i64_in _ (by omega)]; rfl
        · rw [hall, if_pos e]
        · simp [rCheck_mu, vI]; omega
      (repeat' apply And.intro) <;> intros <;> first
        | (exfalso; omega)
        | (exact go (by assumption))
        | (rename_i e _ _ _ _ _ _; rw [if_neg e] at hall; simp [hall, e]; done)
        | (simp_all; done)
noncomputable def rCheck_con : Con := { f := 18, args := [papsArg 0 0], N := 1, M := 1, pre := [(.app 20 [.var 1], true), (.app 12 [.var 1], true)], out := .tuple [.sint .i64 (.app 5 [.var 1]), .sint .i64 (.app 6 [.var 1])], news := [] }
noncomputable def rCheck_call : Env → CallL := fun E => acallAll E (evH E (L4 E) ((fun E => oneH 18 (hooks [(2, rCheck_D.hook E.facts rCheck_vs)])) E) 4)
noncomputable def rCheck_t : GTree := (.fork (.op2 .eq (.app 6 [(.var 1)]) (.num 0)) (.leaf [[]]) (.leaf [[]]))
noncomputable def rCheck_l : List (List (X × Bool) × Option Pairs) := [([((.op2 .eq (.app 6 [(.var 1)]) (.num 0)), true), ((.app 20 [(.var 1)]), true), ((.app 12 [(.var 1)]), true)], some [((.app 5 [(.var 1)]), (.num 0)), ((.app 6 [(.var 1)]), (.num 0))]),
  ([((.op2 .eq (.app 6 [(.var 1)]) (.num 0)), false), ((.app 20 [(.var 1)]), true), ((.app 12 [(.var 1)]), true)], some [((.app 5 [(.var 1)]), (.app 5 [(.var 1)])), ((.app 6 [(.var 1)]), (.app 6 [(.var 1)]))])]
theorem rCheck_w (r : Rho) : rCheck_con.fn.ways rCheck_call E0 r rCheck_con.pre rCheck_t = some rCheck_l := by kernel_rfl
theorem rCheck_H {r : Rho} {l : List Pap} {kc : IntKind} {cap : Int} (h1 : r.val 1 = some (papsR l)) (h2 : r.val 2 = some (.int kc cap)) (hcap : (l.length : Int) ≤ cap) (hsy : r.sym = sy) (F : List (X × Bool)) :
    LoopsOk (E0.with F r) (oneH 18 (hooks [(2, rCheck_D.hook (E0.with F r).facts rCheck_vs)])) := by
  refine loops_all (n := 1) (fun f fn h => h) (by kernel_rfl) fun i hi => ?_
  obtain rfl : i = 0 := by omega
  rw [hooks_hit (show keyOf (loopAt (E0.with F r).P 18 0) = 2 by kernel_rfl)]
  refine hook_ok (E₀ := E0) (run := rCheck_run) (ρ := r) (Inv := rCheck_Inv l) (μ := rCheck_mu l) E0_ok rCheck_ok (fun F r' h => ?_) (fun hpre => ⟨rCheck_step h1 h2 hcap hsy (by have := hpre; simp only [rCheck_D, FactsIn, X.bool, X.den, denL, d_wrap, d_kind, d_not, d_neg, d_slen, d_add, d_sub, d_mul, d_div, d_mod, d_lt, d_le, d_eq, d_eqb, d_eqs, d_lts, d_cat, d_sat, d_and, d_or, denSub, denIte, asB, len_R, cell_R, lsub_R, h1, hsy, sym12, sym20, Option.some.injEq] at this; exact this.2.1) (by have := hpre; simp only [rCheck_D, FactsIn, X.bool, X.den, denL, d_wrap, d_kind, d_not, d_neg, d_slen, d_add, d_sub, d_mul, d_div, d_mod, d_lt, d_le, d_eq, d_eqb, d_eqs, d_lts, d_cat, d_sat, d_and, d_or, denSub, denIte, asB, len_R, cell_R, lsub_R, h1, hsy, sym12, sym20, Option.some.injEq, lenB, decide_eq_true_eq] at this; exact this.1), [.int .i64 0], ?_, rfl, 0, Nat.zero_le _, rfl, rfl⟩)
  · exact bodyRun_ok E0_ok (L4_ok F (h.trans hsy)) fun _ _ => noLoop_ok
  · simp only [rCheck_vs, X.bool, X.den, denL, d_wrap, d_kind, d_not, d_neg, d_slen, d_add, d_sub, d_mul, d_div, d_mod, d_lt, d_le, d_eq, d_eqb, d_eqs, d_lts, d_cat, d_sat, d_and, d_or, denSub, denIte, asB, len_R, cell_R, lsub_R]

theorem paps_cap {σ : Sig} {i b : Nat} {u : Value} {l : List Pap} (h : (papsArg i b).av.inst σ = some u) (h1 : σ.rho.val (b + 1) = some (papsR l)) : ∃ kc cap, σ.rho.val (b + 2) = some (.int kc cap) ∧ (l.length : Int) ≤ cap := by
  obtain ⟨_, _, _, _, kn, kc, _, _, _, e4, e5, e6, _⟩ := inst_slx h
  obtain ⟨q, hq⟩ := X.nat_iff.1 e5
  obtain ⟨q', hq'⟩ := X.nat_iff.1 e4
  simp only [X.den, h1, len_R, Option.some.injEq, Value.int.injEq] at hq'
  exact ⟨q, kc, hq, by omega⟩
theorem rCheck_cok : rCheck_con.Ok Tryz.prog sy := by
  intro r σ w us hsy hρ hpre hrel hins
  obtain ⟨u0, us, rfl, g0, hi⟩ := ins_cons hins
  obtain ⟨l, h1⟩ := paps_at hrel (i := 0) rfl
  have h1 : σ.rho.val 1 = some (papsR l) := h1
  obtain ⟨kc, cap, h2, hcap⟩ := paps_cap g0 h1
  rw [hρ] at h1 h2
  have h2 : r.val 2 = some (.int kc cap) := h2
  refine con_of (E := E0) E0_ok E0_glob (sy := sy) (fun F => L4_ok F hsy) (fun F => rCheck_H h1 h2 hcap hsy F) (rCheck_w r) hρ hpre hrel hins ?_ ?_
  · simp only [rCheck_con, rCheck_t, AsksL, GTree.asks, FTree.asks, FactsIn, List.append_nil, List.nil_append, List.cons_append, Option.some.injEq, exists_eq', implies_true, and_self, X.bool, X.den, denL, d_wrap, d_kind, d_not, d_neg, d_slen, d_add, d_sub, d_mul, d_div, d_mod, d_lt, d_le, d_eq, d_eqb, d_eqs, d_lts, d_cat, d_sat, d_and, d_or, denSub, denIte, asB, len_R, cell_R, lsub_R, h1, hsy, sym5, sym6, sym12, sym20]
  · simp only [rCheck_l, EndsOk, WaysOk, forall_cons, forall_nil, TgtOk, gpair, FactsIn, hold_cons, hold_nil, Option.some.injEq, Value.bool.injEq, Value.int.injEq, decide_eq_true_eq, decide_eq_false_iff_not, and_true, true_and, and_imp, X.bool, X.den, denL, d_wrap, d_kind, d_not, d_neg, d_slen, d_add, d_sub, d_mul, d_div, d_mod, d_lt, d_le, d_eq, d_eqb, d_eqs, d_lts, d_cat, d_sat, d_and, d_or, denSub, denIte, asB, len_R, cell_R, lsub_R, h1, hsy, sym5, sym6, sym12, sym20]
    have h00 : (checkR l).2 = 0 → (checkR l).1 = 0 := check00 l
    (repeat' apply And.intro) <;> intros <;> simp_all
noncomputable def L5 : Env → CallE := libs [cLib refused_con, cLib rCheck_con]
theorem L5_ok (F : List (X × Bool)) {r : Rho} (h : r.sym = sy) : CallsOk (E0.with F r) (L5 (E0.with F r)) := libs_ok fun c hc => by
  simp only [List.mem_cons, List.not_mem_nil, or_false] at hc
  rcases hc with rfl | rfl
  · exact lib_ok (E := E0) refused_cok F h
  · exact lib_ok (E := E0) rCheck_cok F h

noncomputable def rAppendNo_con : Con := { f := 20, args := [papsArg 0 0, .agg (papLeaves 3)], N := 1, M := 1, pre := [(.app 20 [.var 1], true), (.app 12 [.var 1], true), (.app 18 [.var 9, .var 10], true), (.op2 .eq (.app 11 [.var 1, .var 3, .var 4, .var 5, .var 6, .var 7, .var 8, .var 9, .var 10, .var 11, .var 12, .var 13, .var 14, .var 15, .var 16]) (.num 0), false)], out := .tuple [.nilslice, .sint .i64 (.app 11 [.var 1, .var 3, .var 4, .var 5, .var 6, .var 7, .var 8, .var 9, .var 10, .var 11, .var 12, .var 13, .var 14, .var 15, .var 16])], news := [] }
noncomputable def rAppendNo_call : Env → CallL := fun E => acallAll E (evH E (L5 E) ((fun _ => noLoops) E) 4)
noncomputable def rAppendNo_t : GTree := (.fork (.op2 .eq (.app 6 [(.var 1)]) (.num 0)) (.fork (.op2 .eq (.app 4 [(.var 1), (.var 3), (.var 4), (.var 5), (.var 6), (.var 7), (.var 8), (.var 9), (.var 10), (.var 11), (.var 12), (.var 13), (.var 14), (.var 15), (.var 16)]) (.num 0)) (.fork (.op2 .lt (.num 1000000000) (.op1 .len (.var 1))) .bad (.fork (.op2 .lt (.num 1000000000) (.op2 .add (.op1 .len (.var 1)) (.num 1))) .bad .bad)) (.leaf [[]])) (.leaf [[]]))
noncomputable def rAppendNo_l : List (List (X × Bool) × Option Pairs) := [([((.op2 .lt (.num 1000000000) (.op1 .len (.var 1))), true), ((.op2 .eq (.app 4 [(.var 1), (.var 3), (.var 4), (.var 5), (.var 6), (.var 7), (.var 8), (.var 9), (.var 10), (.var 11), (.var 12), (.var 13), (.var 14), (.var 15), (.var 16)]) (.num 0)), true), ((.op2 .eq (.app 6 [(.var 1)]) (.num 0)), true), ((.app 20 [(.var 1)]), true), ((.app 12 [(.var 1)]), true), ((.app 18 [(.var 9), (.var 10)]), true), ((.op2 .eq (.app 11 [(.var 1), (.var 3), (.var 4), (.var 5), (.var 6), (.var 7), (.var 8), (.var 9), (.var 10), (.var 11), (.var 12), (.var 13), (.var 14), (.var 15), (.var 16)]) (.num 0)), false)], none),
  ([((.op2 .lt (.num 1000000000) (.op2 .add (.op1 .len (.var 1)) (.num 1))), true), ((.op2 .lt (.num 1000000000) (.op1 .len (.var 1))), false), ((.op2 .eq (.app 4 [(.var 1), (.var 3), (.var 4), (.var 5), (.var 6), (.var 7), (.var 8), (.var 9), (.var 10), (.var 11), (.var 12), (.var 13), (.var 14), (.var 15), (.var 16)]) (.num 0)), true), ((.op2 .eq (.app 6 [(.var 1)]) (.num 0)), true), ((.app 20 [(.var 1)]), true), ((.app 12 [(.var 1)]), true), ((.app 18 [(.var 9), (.var 10)]), true), ((.op2 .eq (.app 11 [(.var 1), (.var 3), (.var 4), (.var 5), (.var 6), (.var 7), (.var 8), (.var 9), (.var 10), (.var 11), (.var 12), (.var 13), (.var 14), (.var 15), (.var 16)]) (.num 0)), false)], none),
  ([((.op2 .lt (.num 1000000000) (.op2 .add (.op1 .len (.var 1)) (.num 1))), false), ((.op2 .lt (.num 1000000000) (.op1 .len (.var 1))), false), ((.op2 .eq (.app 4 [(.var 1), (.var 3), (.var 4), (.var 5), (.var 6), (.var 7), (.var 8), (.var 9), (.var 10), (.var 11), (.var 12), (.var 13), (.var 14), (.var 15), (.var 16)]) (.num 0)), true), ((.op2 .eq (.app 6 [(.var 1)]) (.num 0)), true), ((.app 20 [(.var 1)]), true), ((.app 12 [(.var 1)]), true), ((.app 18 [(.var 9), (.var 10)]), true), ((.op2 .eq (.app 11 [(.var 1), (.var 3), (.var 4), (.var 5), (.var 6), (.var 7), (.var 8), (.var 9), (.var 10), (.var 11), (.var 12), (.var 13), (.var 14), (.var 15), (.var 16)]) (.num 0)), false)], none),
  ([((.op2 .eq (.app 4 [(.var 1), (.var 3), (.var 4), (.var 5), (.var 6), (.var 7), (.var 8), (.var 9), (.var 10), (.var 11), (.var 12), (.var 13), (.var 14), (.var 15), (.var 16)]) (.num 0)), false), ((.op2 .eq (.app 6 [(.var 1)]) (.num 0)), true), ((.app 20 [(.var 1)]), true), ((.app 12 [(.var 1)]), true), ((.app 18 [(.var 9), (.var 10)]), true), ((.op2 .eq (.app 11 [(.var 1), (.var 3), (.var 4), (.var 5), (.var 6), (.var 7), (.var 8), (.var 9), (.var 10), (.var 11), (.var 12), (.var 13), (.var 14), (.var 15), (.var 16)]) (.num 0)), false)], some [((.app 11 [(.var 1), (.var 3), (.var 4), (.var 5), (.var 6), (.var 7), (.var 8), (.var 9), (.var 10), (.var 11), (.var 12), (.var 13), (.var 14), (.var 15), (.var 16)]), (.app 4 [(.var 1), (.var 3), (.var 4), (.var 5), (.var 6), (.var 7), (.var 8), (.var 9), (.var 10), (.var 11), (.var 12), (.var 13), (.var 14), (.var 15), (.var 16)]))]),
  ([((.op2 .eq (.app 6 [(.var 1)]) (.num 0)), false), ((.app 20 [(.var 1)]), true), ((.app 12 [(.var 1)]), true), ((.app 18 [(.var 9), (.var 10)]), true), ((.op2 .eq (.app 11 [(.var 1), (.var 3), (.var 4), (.var 5), (.var 6), (.var 7), (.var 8), (.var 9), (.var 10), (.var 11), (.var 12), (.var 13), (.var 14), (.var 15), (.var 16)]) (.num 0)), false)], some [((.app 11 [(.var 1), (.var 3), (.var 4), (.var 5), (.var 6), (.var 7), (.var 8), (.var 9), (.var 10), (.var 11), (.var 12), (.var 13), (.var 14), (.var 15), (.var 16)]), (.app 6 [(.var 1)]))])]
theorem rAppendNo_w (r : Rho) : rAppendNo_con.fn.ways rAppendNo_call E0 r rAppendNo_con.pre rAppendNo_t = some rAppendNo_l := by kernel_rfl
theorem rAppendNo_cok : rAppendNo_con.Ok Tryz.prog sy := by
  intro r σ w us hsy hρ hpre hrel hins
  obtain ⟨u0, us, rfl, g0, hi⟩ := ins_cons hins
  obtain ⟨u1, us, rfl, g1, hi⟩ := ins_cons hi
  obtain ⟨x, k, rfl, hp⟩ := pap_agg g1
  obtain ⟨l, h1⟩ := paps_at hrel (i := 0) rfl
  rw [hρ] at hp h1
  have h1 : r.val 1 = some (papsR l) := h1
  have a0 := hp.h0
  have a1 := hp.h1
  have a2 := hp.h2
  have a3 := hp.h3
  have a4 := hp.h4
  have a5 := hp.h5
  have a6 := hp.h6
  have a7 := hp.h7
  have a8 := hp.h8
  have a9 := hp.h9
  have a10 := hp.h10
  have a11 := hp.h11
  have a12 := hp.h12
  have a13 := hp.h13
  simp only [Nat.reduceAdd] at a0 a1 a2 a3 a4 a5 a6 a7 a8 a9 a10 a11 a12 a13

  refine con_of (E := E0) E0_ok E0_glob (sy := sy) (fun F => L5_ok F hsy) (fun F => noH_ok) (rAppendNo_w r) hρ hpre hrel hins ?_ ?_
  · simp only [rAppendNo_con, rAppendNo_t, AsksL, GTree.asks, FTree.asks, FactsIn, List.append_nil, List.nil_append, List.cons_append, Option.some.injEq, exists_eq', implies_true, and_self, X.bool, X.den, denL, d_wrap, d_kind, d_not, d_neg, d_slen, d_add, d_sub, d_mul, d_div, d_mod, d_lt, d_le, d_eq, d_eqb, d_eqs, d_lts, d_cat, d_sat, d_and, d_or, denSub, denIte, asB, len_R, cell_R, lsub_R, a0, a1, a2, a3, a4, a5, a6, a7, a8, a9, a10, a11, a12, a13, h1, hsy, sym4, sym5, sym6, sym11, sym12, sym18, sym20]
  · simp only [rAppendNo_l, EndsOk, WaysOk, forall_cons, forall_nil, TgtOk, gpair, FactsIn, hold_cons, hold_nil, Option.some.injEq, Value.bool.injEq, Value.int.injEq, decide_eq_true_eq, decide_eq_false_iff_not, and_true, true_and, and_imp, X.bool, X.den, denL, d_wrap, d_kind, d_not, d_neg, d_slen, d_add, d_sub, d_mul, d_div, d_mod, d_lt, d_le, d_eq, d_eqb, d_eqs, d_lts, d_cat, d_sat, d_and, d_or, denSub, denIte, asB, len_R, cell_R, lsub_R, a0, a1, a2, a3, a4, a5, a6, a7, a8, a9, a10, a11, a12, a13, h1, hsy, sym4, sym5, sym6, sym11, sym12, sym18, sym20, appendE]
    have hlen : refusedE l x = 0 → l.length < 300 := refused_len l x
    clear hρ hpre hrel hi hp hins g0 g1 h1 a0 a1 a2 a3 a4 a5 a6 a7 a8 a9 a10 a11 a12 a13
    (repeat' apply And.intro) <;> intros <;> first
      | trivial
      | (simp_all; done)
      | (exfalso; simp_all; omega)
noncomputable def rAppendYes_con : Con := { f := 20, args := [papsArg 0 0, .agg (papLeaves 3)], N := 1, M := 2, pre := [(.app 20 [.var 1], true), (.app 12 [.var 1], true), (.app 18 [.var 9, .var 10], true), (.op2 .eq (.app 11 [.var 1, .var 3, .var 4, .var 5, .var 6, .var 7, .var 8, .var 9, .var 10, .var 11, .var 12, .var 13, .var 14, .var 15, .var 16]) (.num 0), true)], out := .tuple [.slo 1 14 (.op2 .add (.op1 .len (.var 1)) (.num 1)), .int .i64 0], news := [(1, .rows 14 papSch (.num 0) (.snoc (.var 1) [.op1 (.kind .i64) (.var 3), .op1 (.kind .i64) (.var 4), .op1 (.kind .u8) (.var 5), .op1 (.kind .i64) (.var 6), .op1 (.kind .i64) (.var 7), .op1 (.kind .i64) (.var 8), .var 9, .var 10, .op1 (.kind .i64) (.var 11), .op1 (.kind .i64) (.var 12), .op1 (.kind .i64) (.var 13), .op1 (.kind .i64) (.var 14), .op1 (.kind .i64) (.var 15), .op1 (.kind .i64) (.var 16)]) true 26)] }
noncomputable def rAppendYes_call : Env → CallL := fun E => acallAll E (evH E (L5 E) ((fun _ => noLoops) E) 4)
noncomputable def rAppendYes_t : GTree := (.fork (.op2 .eq (.app 6 [(.var 1)]) (.num 0)) (.fork (.op2 .eq (.app 4 [(.var 1), (.var 3), (.var 4), (.var 5), (.var 6), (.var 7), (.var 8), (.var 9), (.var 10), (.var 11), (.var 12), (.var 13), (.var 14), (.var 15), (.var 16)]) (.num 0)) (.fork (.op2 .lt (.num 1000000000) (.op1 .len (.var 1))) .bad (.fork (.op2 .lt (.num 1000000000) (.op2 .add (.op1 .len (.var 1)) (.num 1))) .bad (.leaf [[(1, 5)], [(1, 5)], [(1, 5)]]))) .bad) .bad)
noncomputable def rAppendYes_l : List (List (X × Bool) × Option Pairs) := [([((.op2 .lt (.num 1000000000) (.op1 .len (.var 1))), true), ((.op2 .eq (.app 4 [(.var 1), (.var 3), (.var 4), (.var 5), (.var 6), (.var 7), (.var 8), (.var 9), (.var 10), (.var 11), (.var 12), (.var 13), (.var 14), (.var 15), (.var 16)]) (.num 0)), true), ((.op2 .eq (.app 6 [(.var 1)]) (.num 0)), true), ((.app 20 [(.var 1)]), true), ((.app 12 [(.var 1)]), true), ((.app 18 [(.var 9), (.var 10)]), true), ((.op2 .eq (.app 11 [(.var 1), (.var 3), (.var 4), (.var 5), (.var 6), (.var 7), (.var 8), (.var 9), (.var 10), (.var 11), (.var 12), (.var 13), (.var 14), (.var 15), (.var 16)]) (.num 0)), true)], none),
  ([((.op2 .lt (.num 1000000000) (.op2 .add (.op1 .len (.var 1)) (.num 1))), true), ((.op2 .lt (.num 1000000000) (.op1 .len (.var 1))), false), ((.op2 .eq (.app 4 [(.var 1), (.var 3), (.var 4), (.var 5), (.var 6), (.var 7), (.var 8), (.var 9), (.var 10), (.var 11), (.var 12), (.var 13), (.var 14), (.var 15), (.var 16)]) (.num 0)), true), ((.op2 .eq (.app 6 [(.var 1)]) (.num 0)), true), ((.app 20 [(.var 1)]), true), ((.app 12 [(.var 1)]), true), ((.app 18 [(.var 9), (.var 10)]), true), ((.op2 .eq (.app 11 [(.var 1), (.var 3), (.var 4), (.var 5), (.var 6), (.var 7), (.var 8), (.var 9), (.var 10), (.var 11), (.var 12), (.var 13), (.var 14), (.var 15), (.var 16)]) (.num 0)), true)], none),
  ([((.op2 .lt (.num 1000000000) (.op2 .add (.op1 .len (.var 1)) (.num 1))), false), ((.op2 .lt (.num 1000000000) (.op1 .len (.var 1))), false), ((.op2 .eq (.app 4 [(.var 1), (.var 3), (.var 4), (.var 5), (.var 6), (.var 7), (.var 8), (.var 9), (.var 10), (.var 11), (.var 12), (.var 13), (.var 14), (.var 15), (.var 16)]) (.num 0)), true), ((.op2 .eq (.app 6 [(.var 1)]) (.num 0)), true), ((.app 20 [(.var 1)]), true), ((.app 12 [(.var 1)]), true), ((.app 18 [(.var 9), (.var 10)]), true), ((.op2 .eq (.app 11 [(.var 1), (.var 3), (.var 4), (.var 5), (.var 6), (.var 7), (.var 8), (.var 9), (.var 10), (.var 11), (.var 12), (.var 13), (.var 14), (.var 15), (.var 16)]) (.num 0)), true)], some [((.op2 .add (.op1 .len (.var 1)) (.num 1)), (.op2 .add (.op1 .len (.var 1)) (.num 1))), ((.snoc (.var 1) [(.op1 (.kind .i64) (.var 3)), (.op1 (.kind .i64) (.var 4)), (.op1 (.kind .u8) (.var 5)), (.op1 (.kind .i64) (.var 6)), (.op1 (.kind .i64) (.var 7)), (.op1 (.kind .i64) (.var 8)), (.var 9), (.var 10), (.op1 (.kind .i64) (.var 11)), (.op1 (.kind .i64) (.var 12)), (.op1 (.kind .i64) (.var 13)), (.op1 (.kind .i64) (.var 14)), (.op1 (.kind .i64) (.var 15)), (.op1 (.kind .i64) (.var 16))]), (.snoc (.var 1) [(.op1 (.kind .i64) (.var 3)), (.op1 (.kind .i64) (.var 4)), (.op1 (.kind .u8) (.var 5)), (.op1 (.kind .i64) (.var 6)), (.op1 (.kind .i64) (.var 7)), (.op1 (.kind .i64) (.var 8)), (.var 9), (.var 10), (.op1 (.kind .i64) (.var 11)), (.op1 (.kind .i64) (.var 12)), (.op1 (.kind .i64) (.var 13)), (.op1 (.kind .i64) (.var 14)), (.op1 (.kind .i64) (.var 15)), (.op1 (.kind .i64) (.var 16))])), ((.op2 .add (.op1 .len (.var 1)) (.num 1)), (.op2 .add (.op1 .len (.var 1)) (.num 1))), ((.snoc (.var 1) [(.op1 (.kind .i64) (.var 3)), (.op1 (.kind .i64) (.var 4)), (.op1 (.kind .u8) (.var 5)), (.op1 (.kind .i64) (.var 6)), (.op1 (.kind .i64) (.var 7)), (.op1 (.kind .i64) (.var 8)), (.var 9), (.var 10), (.op1 (.kind .i64) (.var 11)), (.op1 (.kind .i64) (.var 12)), (.op1 (.kind .i64) (.var 13)), (.op1 (.kind .i64) (.var 14)), (.op1 (.kind .i64) (.var 15)), (.op1 (.kind .i64) (.var 16))]), (.snoc (.var 1) [(.op1 (.kind .i64) (.var 3)), (.op1 (.kind .i64) (.var 4)), (.op1 (.kind .u8) (.var 5)), (.op1 (.kind .i64) (.var 6)), (.op1 (.kind .i64) (.var 7)), (.op1 (.kind .i64) (.var 8)), (.var 9), (.var 10), (.op1 (.kind .i64) (.var 11)), (.op1 (.kind .i64) (.var 12)), (.op1 (.kind .i64) (.var 13)), (.op1 (.kind .i64) (.var 14)), (.op1 (.kind .i64) (.var 15)), (.op1 (.kind .i64) (.var 16))])), ((.op2 .add (.op1 .len (.var 1)) (.num 1)), (.op2 .add (.op1 .len (.var 1)) (.num 1))), ((.snoc (.var 1) [(.op1 (.kind .i64) (.var 3)), (.op1 (.kind .i64) (.var 4)), (.op1 (.kind .u8) (.var 5)), (.op1 (.kind .i64) (.var 6)), (.op1 (.kind .i64) (.var 7)), (.op1 (.kind .i64) (.var 8)), (.var 9), (.var 10), (.op1 (.kind .i64) (.var 11)), (.op1 (.kind .i64) (.var 12)), (.op1 (.kind .i64) (.var 13)), (.op1 (.kind .i64) (.var 14)), (.op1 (.kind .i64) (.var 15)), (.op1 (.kind .i64) (.var 16))]), (.snoc (.var 1) [(.op1 (.kind .i64) (.var 3)), (.op1 (.kind .i64) (.var 4)), (.op1 (.kind .u8) (.var 5)), (.op1 (.kind .i64) (.var 6)), (.op1 (.kind .i64) (.var 7)), (.op1 (.kind .i64) (.var 8)), (.var 9), (.var 10), (.op1 (.kind .i64) (.var 11)), (.op1 (.kind .i64) (.var 12)), (.op1 (.kind .i64) (.var 13)), (.op1 (.kind .i64) (.var 14)), (.op1 (.kind .i64) (.var 15)), (.op1 (.kind .i64) (.var 16))]))]),
  ([((.op2 .eq (.app 4 [(.var 1), (.var 3), (.var 4), (.var 5), (.var 6), (.var 7), (.var 8), (.var 9), (.var 10), (.var 11), (.var 12), (.var 13), (.var 14), (.var 15), (.var 16)]) (.num 0)), false), ((.op2 .eq (.app 6 [(.var 1)]) (.num 0)), true), ((.app 20 [(.var 1)]), true), ((.app 12 [(.var 1)]), true), ((.app 18 [(.var 9), (.var 10)]), true), ((.op2 .eq (.app 11 [(.var 1), (.var 3), (.var 4), (.var 5), (.var 6), (.var 7), (.var 8), (.var 9), (.var 10), (.var 11), (.var 12), (.var 13), (.var 14), (.var 15), (.var 16)]) (.num 0)), true)], none),
  ([((.op2 .eq (.app 6 [(.var 1)]) (.num 0)), false), ((.app 20 [(.var 1)]), true), ((.app 12 [(.var 1)]), true), ((.app 18 [(.var 9), (.var 10)]), true), ((.op2 .eq (.app 11 [(.var 1), (.var 3), (.var 4), (.var 5), (.var 6), (.var 7), (.var 8), (.var 9), (.var 10), (.var 11), (.var 12), (.var 13), (.var 14), (.var 15), (.var 16)]) (.num 0)), true)], none)]
theorem rAppendYes_w (r : Rho) : rAppendYes_con.fn.ways rAppendYes_call E0 r rAppendYes_con.pre rAppendYes_t = some rAppendYes_l := by kernel_rfl
theorem rAppendYes_cok : rAppendYes_con.Ok Tryz.prog sy := by
  intro r σ w us hsy hρ hpre hrel hins
  obtain ⟨u0, us, rfl, g0, hi⟩ := ins_cons hins
  obtain ⟨u1, us, rfl, g1, hi⟩ := ins_cons hi
  obtain ⟨x, k, rfl, hp⟩ := pap_agg g1
  obtain ⟨l, h1⟩ := paps_at hrel (i := 0) rfl
  rw [hρ] at hp h1
  have h1 : r.val 1 = some (papsR l) := h1
  have a0 := hp.h0
  have a1 := hp.h1
  have a2 := hp.h2
  have a3 := hp.h3
  have a4 := hp.h4
  have a5 := hp.h5
  have a6 := hp.h6
  have a7 := hp.h7
  have a8 := hp.h8
  have a9 := hp.h9
  have a10 := hp.h10
  have a11 := hp.h11
  have a12 := hp.h12
  have a13 := hp.h13
  simp only [Nat.reduceAdd] at a0 a1 a2 a3 a4 a5 a6 a7 a8 a9 a10 a11 a12 a13

  refine con_of (E := E0) E0_ok E0_glob (sy := sy) (fun F => L5_ok F hsy) (fun F => noH_ok) (rAppendYes_w r) hρ hpre hrel hins ?_ ?_
  · simp only [rAppendYes_con, rAppendYes_t, AsksL, GTree.asks, FTree.asks, FactsIn, List.append_nil, List.nil_append, List.cons_append, Option.some.injEq, exists_eq', implies_true, and_self, X.bool, X.den, denL, d_wrap, d_kind, d_not, d_neg, d_slen, d_add, d_sub, d_mul, d_div, d_mod, d_lt, d_le, d_eq, d_eqb, d_eqs, d_lts, d_cat, d_sat, d_and, d_or, denSub, denIte, asB, len_R, cell_R, lsub_R, a0, a1, a2, a3, a4, a5, a6, a7, a8, a9, a10, a11, a12, a13, h1, hsy, sym4, sym5, sym6, sym11, sym12, sym18, sym20]
  · simp only [rAppendYes_l, EndsOk, WaysOk, forall_cons, forall_nil, TgtOk, gpair, FactsIn, hold_cons, hold_nil, Option.some.injEq, Value.bool.injEq, Value.int.injEq, decide_eq_true_eq, decide_eq_false_iff_not, and_true, true_and, and_imp, X.bool, X.den, denL, d_wrap, d_kind, d_not, d_neg, d_slen, d_add, d_sub, d_mul, d_div, d_mod, d_lt, d_le, d_eq, d_eqb, d_eqs, d_lts, d_cat, d_sat, d_and, d_or, denSub, denIte, asB, len_R, cell_R, lsub_R, a0, a1, a2, a3, a4, a5, a6, a7, a8, a9, a10, a11, a12, a13, h1, hsy, sym4, sym5, sym6, sym11, sym12, sym18, sym20, appendE]
    have hlen : refusedE l x = 0 → l.length < 300 := refused_len l x
    clear hρ hpre hrel hi hp hins g0 g1 h1 a0 a1 a2 a3 a4 a5 a6 a7 a8 a9 a10 a11 a12 a13
    (repeat' apply And.intro) <;> intros <;> first
      | trivial
      | (simp_all; done)
      | (exfalso; simp_all; omega)
end Go.Proofs.YtmhbhkipjjcmlaaGreatDoor.Zs
