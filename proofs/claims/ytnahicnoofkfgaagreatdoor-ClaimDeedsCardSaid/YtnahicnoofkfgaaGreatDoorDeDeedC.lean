/-
  Contracts of Check and Append of the package.
-/
import Derived.Test.YtnahicnoofkfgaaGreatDoorDeDeedG
import Derived.Test.YtnahicnoofkfgaaGreatDoorDeDeedH
import Derived.Test.YtnahicnoofkfgaaGreatDoorDeFrac
import Derived.KernelRfl
set_option linter.unusedSimpArgs false
set_option linter.unusedVariables false
namespace Go.Proofs.YtnahicnoofkfgaaGreatDoor.Zs
open Go
set_option linter.unusedSimpArgs false
set_option linter.unusedVariables false

theorem rows_len (a : List (List Value)) : den1 .len (rowsV a) = some (.int .i64 a.length) := by simp [den1, rowsV]
theorem acc_d (x : Deed) : ((if formB x = true then (0 : Int) else 1) = 0) ↔ formB x = true := by cases formB x <;> simp
theorem refused_bif {pre : List Deed} {p : Deed} {i : Nat} (hlen : pre.length = i) (hi : i ≤ 300) : refusedD pre p =
    bif decide ((i : Int) = 300) then 2 else bif !(formB p) then 1 else bif thereB pre p.id then 6 else bif decide (p.known < lastD pre) then 7 else bif badB pre p then 5 else bif decide (p.kind = 6) && goneB pre p.of_ 1000000 then 6 else 0 := by
  have e2 : decide (300 ≤ pre.length) = decide ((i : Int) = 300) := by rw [Bool.eq_iff_iff]; simp; omega
  unfold refusedD
  rw [e2]
  cases hf : formB p with
  | false => simp
  | true =>
    have e7 : (decide (0 < pre.length) && decide (p.known < lastD pre)) = decide (p.known < lastD pre) := by
      rcases Nat.eq_zero_or_pos pre.length with h | h
      · have hk := formed_known hf
        have : lastD pre = 0 := by rw [List.eq_nil_of_length_eq_zero h]; rfl
        rw [this]
        simp [h]
        omega
      · simp [h]
    rw [e7]

noncomputable def D3 : Env → CallE := libs [cLib cDeed_con]
theorem D3_ok (F : List (X × Bool)) {r : Rho} (h : r.sym = sy) : CallsOk (E0.with F r) (D3 (E0.with F r)) := libs_ok fun c hc => by
  simp only [List.mem_cons, List.not_mem_nil, or_false] at hc
  subst hc; exact lib_ok (E := E0) cDeed_cok F h
def cChk_vs : List X := [.num 0, .nil, .nil, .num 0]

noncomputable def cChk_D : LoopD := { N := 100, M := 104, size := sizeOfF 31, reads := [(0, .rows 11 deedSch (.var 0) (.var 1) false 37)], pats := [{ slots := [(4, .ptr 3 0), (11, .slx 0 11 (.var 0) (.num 0) (.op1 .len (.var 1)) (.var 2)), (12, .sint .i64 (.op1 .len (.var 1))), (13, .sint .i64 (.var 100))], heap := [(1, .smap false [.int .i64] false [.int .u8] (.var 101)), (2, .smap false [.int .i64] false [.bool] (.var 102)), (3, .cells [.map 1, .map 2, .sint .i64 (.var 103)] 98)] }], exits := [(.exit 0, { slots := [], heap := [(1, .smap false [.int .i64] false [.int .u8] (.app 25 [.var 1])), (2, .smap false [.int .i64] false [.bool] (.app 26 [.var 1])), (3, .cells [.map 1, .map 2, .sint .i64 (.app 27 [.var 1])] 98)], guard := .op2 .eq (.app 6 [.var 1]) (.num 0) }), (.ret, { slots := [(2, .sint .i64 (.app 5 [.var 1])), (3, .sint .i64 (.app 6 [.var 1]))], heap := [(1, .smap false [.int .i64] false [.int .u8] (.app 25 [.var 1])), (2, .smap false [.int .i64] false [.bool] (.app 26 [.var 1])), (3, .cells [.map 1, .map 2, .sint .i64 (.app 27 [.var 1])] 98)], guard := .op1 .not (.op2 .eq (.app 6 [.var 1]) (.num 0)) })], own := [1, 2, 3], pre := [(.app 20 [.var 1], true)] }
noncomputable def cChk_run : Env → AF → ASt → Option (List Out) := bodyRun D3 5 (fun _ => noLoop) (loopAt Tryz.prog 31 0)
def cChk0_F : List (X × Bool) := [(.op2 .lt (.var 100) (.num 0), false)]
def dfz0 : X := .op2 .eq (.app 64 [(.cell 0 (.var 1) (.var 100)), (.cell 1 (.var 1) (.var 100)), (.cell 2 (.var 1) (.var 100)), (.cell 3 (.var 1) (.var 100)), (.cell 4 (.var 1) (.var 100)), (.cell 5 (.var 1) (.var 100)), (.cell 6 (.var 1) (.var 100)), (.cell 7 (.var 1) (.var 100)), (.cell 8 (.var 1) (.var 100)), (.cell 9 (.var 1) (.var 100)), (.cell 10 (.var 1) (.var 100))]) (.num 0)
def dfz1 : X := .snoc .nil [(.op1 (.kind .i64) (.cell 10 (.var 1) (.var 100)))]
def dfz2 : X := .snoc .nil [(.op1 (.kind .i64) (.cell 0 (.var 1) (.var 100)))]
def dfz3 : X := .cell 3 (.var 1) (.var 100)
def dfz4 : X := .op2 (.mput 1) (.var 101) (.snoc .nil [(.op1 (.kind .i64) (.cell 0 (.var 1) (.var 100))), (.op1 (.kind .u8) dfz3)])
def dfz5 : X := .op2 .lt (.cell 1 (.var 1) (.var 100)) (.var 103)
def dfz6 : X := .op2 .eq (.op1 .len (.var 101)) (.num 300)
def dfz7 : X := .op2 .lt (.var 100) (.op1 .len (.var 1))
def dfz8 : X := .op2 (.mat 1) (.var 101) dfz1
def dfz9 : X := .op2 .lt (.var 100) (.num 0)
def dfz10 : X := .op1 .not (.op2 .eq (.app 6 [(.var 1)]) (.num 0))
def dfz11 : X := .op2 .eq (.op2 (.mat 1) (.var 101) dfz2) (.num 0)
def dfz12 : X := .op2 .mhas (.var 101) dfz2
def dfz13 : X := .op2 (.mput 1) (.var 102) (.snoc .nil [(.op1 (.kind .i64) (.cell 10 (.var 1) (.var 100))), (.boo true)])
def dfz14 : X := .op2 .mhas (.var 101) dfz1
def dfz15 : X := .op1 (.wrap .i64) (.op2 .add (.var 100) (.num 1))
def dfz16 : X := .op2 .eq dfz3 (.num 5)
def dfz17 : X := .op2 .eq dfz3 (.num 6)
def dfz18 : X := .app 6 [(.var 1)]
def dfz19 : X := .op2 .mhas (.var 102) dfz1
noncomputable def cChk0_t : FTree := (.fork dfz7 (.fork dfz6 (.leaf [.leave 1 []]) (.fork dfz0 (.fork dfz12 (.fork dfz11 (.fork dfz5 (.leaf [.leave 1 []]) (.fork dfz14 (.fork dfz16 (.fork (.op2 .eq dfz8 (.num 4)) (.fork dfz17 (.fork dfz19 (.fork (.op2 (.mat 1) (.var 102) dfz1) (.leaf [.leave 1 []]) (.leaf [.again 0 []])) (.leaf [.again 0 []])) (.leaf [.again 0 []])) (.leaf [.leave 1 []])) (.fork dfz17 (.fork (.op2 .eq dfz8 (.num 0)) (.leaf [.leave 1 []]) (.fork (.op2 .eq dfz8 (.num 6)) (.leaf [.leave 1 []]) (.fork dfz19 (.fork (.op2 (.mat 1) (.var 102) dfz1) (.leaf [.leave 1 []]) (.leaf [.again 0 []])) (.leaf [.again 0 []])))) (.leaf [.again 0 []]))) (.fork dfz16 (.leaf [.leave 1 []]) (.fork dfz17 (.leaf [.leave 1 []]) (.leaf [.again 0 []]))))) (.leaf [.leave 1 []])) (.fork dfz5 (.leaf [.leave 1 []]) (.fork dfz14 (.fork dfz16 (.fork (.op2 .eq dfz8 (.num 4)) (.fork dfz17 (.fork dfz19 (.fork (.op2 (.mat 1) (.var 102) dfz1) (.leaf [.leave 1 []]) (.leaf [.again 0 []])) (.leaf [.again 0 []])) (.leaf [.again 0 []])) (.leaf [.leave 1 []])) (.fork dfz17 (.fork (.op2 .eq dfz8 (.num 0)) (.leaf [.leave 1 []]) (.fork (.op2 .eq dfz8 (.num 6)) (.leaf [.leave 1 []]) (.fork dfz19 (.fork (.op2 (.mat 1) (.var 102) dfz1) (.leaf [.leave 1 []]) (.leaf [.again 0 []])) (.leaf [.again 0 []])))) (.leaf [.again 0 []]))) (.fork dfz16 (.leaf [.leave 1 []]) (.fork dfz17 (.leaf [.leave 1 []]) (.leaf [.again 0 []])))))) (.leaf [.leave 1 []]))) (.leaf [.leave 0 []]))
noncomputable def cChk0_l : List (List (X × Bool) × Option (List (Tgt × Pairs))) := [([(dfz6, true), (dfz7, true), (dfz9, false)], some [(.leave 1 [], [(.app 5 [.var 1], .var 100), (dfz18, .num 2), (.app 25 [.var 1], .var 101), (.app 26 [.var 1], .var 102), (.app 27 [.var 1], .var 103), (dfz10, .boo true)])]),
  ([(dfz5, true), (dfz11, true), (dfz12, true), (dfz0, true), (dfz6, false), (dfz7, true), (dfz9, false)], some [(.leave 1 [], [(.app 5 [.var 1], .var 100), (dfz18, .num 7), (.app 25 [.var 1], .var 101), (.app 26 [.var 1], .var 102), (.app 27 [.var 1], .var 103), (dfz10, .boo true)])]),
  ([(.op2 (.mat 1) (.var 102) dfz1, true), (dfz19, true), (dfz17, true), (.op2 .eq dfz8 (.num 4), true), (dfz16, true), (dfz14, true), (dfz5, false), (dfz11, true), (dfz12, true), (dfz0, true), (dfz6, false), (dfz7, true), (dfz9, false)], some [(.leave 1 [], [(.app 5 [.var 1], .var 100), (dfz18, .num 6), (.app 25 [.var 1], .var 101), (.app 26 [.var 1], .var 102), (.app 27 [.var 1], .var 103), (dfz10, .boo true)])]),
  ([(.op2 (.mat 1) (.var 102) dfz1, false), (dfz19, true), (dfz17, true), (.op2 .eq dfz8 (.num 4), true), (dfz16, true), (dfz14, true), (dfz5, false), (dfz11, true), (dfz12, true), (dfz0, true), (dfz6, false), (dfz7, true), (dfz9, false)], some [(.again 0 [], [(.var 100, dfz15), (.var 101, dfz4), (.var 102, dfz13), (.var 103, .cell 1 (.var 1) (.var 100))])]),
  ([(dfz19, false), (dfz17, true), (.op2 .eq dfz8 (.num 4), true), (dfz16, true), (dfz14, true), (dfz5, false), (dfz11, true), (dfz12, true), (dfz0, true), (dfz6, false), (dfz7, true), (dfz9, false)], some [(.again 0 [], [(.var 100, dfz15), (.var 101, dfz4), (.var 102, dfz13), (.var 103, .cell 1 (.var 1) (.var 100))])]),
  ([(dfz17, false), (.op2 .eq dfz8 (.num 4), true), (dfz16, true), (dfz14, true), (dfz5, false), (dfz11, true), (dfz12, true), (dfz0, true), (dfz6, false), (dfz7, true), (dfz9, false)], some [(.again 0 [], [(.var 100, dfz15), (.var 101, dfz4), (.var 102, .var 102), (.var 103, .cell 1 (.var 1) (.var 100))])]),
  ([(.op2 .eq dfz8 (.num 4), false), (dfz16, true), (dfz14, true), (dfz5, false), (dfz11, true), (dfz12, true), (dfz0, true), (dfz6, false), (dfz7, true), (dfz9, false)], some [(.leave 1 [], [(.app 5 [.var 1], .var 100), (dfz18, .num 5), (.app 25 [.var 1], .var 101), (.app 26 [.var 1], .var 102), (.app 27 [.var 1], .var 103), (dfz10, .boo true)])]),
  ([(.op2 .eq dfz8 (.num 0), true), (dfz17, true), (dfz16, false), (dfz14, true), (dfz5, false), (dfz11, true), (dfz12, true), (dfz0, true), (dfz6, false), (dfz7, true), (dfz9, false)], some [(.leave 1 [], [(.app 5 [.var 1], .var 100), (dfz18, .num 5), (.app 25 [.var 1], .var 101), (.app 26 [.var 1], .var 102), (.app 27 [.var 1], .var 103), (dfz10, .boo true)])]),
  ([(.op2 .eq dfz8 (.num 6), true), (.op2 .eq dfz8 (.num 0), false), (dfz17, true), (dfz16, false), (dfz14, true), (dfz5, false), (dfz11, true), (dfz12, true), (dfz0, true), (dfz6, false), (dfz7, true), (dfz9, false)], some [(.leave 1 [], [(.app 5 [.var 1], .var 100), (dfz18, .num 5), (.app 25 [.var 1], .var 101), (.app 26 [.var 1], .var 102), (.app 27 [.var 1], .var 103), (dfz10, .boo true)])]),
  ([(.op2 (.mat 1) (.var 102) dfz1, true), (dfz19, true), (.op2 .eq dfz8 (.num 6), false), (.op2 .eq dfz8 (.num 0), false), (dfz17, true), (dfz16, false), (dfz14, true), (dfz5, false), (dfz11, true), (dfz12, true), (dfz0, true), (dfz6, false), (dfz7, true), (dfz9, false)], some [(.leave 1 [], [(.app 5 [.var 1], .var 100), (dfz18, .num 6), (.app 25 [.var 1], .var 101), (.app 26 [.var 1], .var 102), (.app 27 [.var 1], .var 103), (dfz10, .boo true)])]),
  ([(.op2 (.mat 1) (.var 102) dfz1, false), (dfz19, true), (.op2 .eq dfz8 (.num 6), false), (.op2 .eq dfz8 (.num 0), false), (dfz17, true), (dfz16, false), (dfz14, true), (dfz5, false), (dfz11, true), (dfz12, true), (dfz0, true), (dfz6, false), (dfz7, true), (dfz9, false)], some [(.again 0 [], [(.var 100, dfz15), (.var 101, dfz4), (.var 102, dfz13), (.var 103, .cell 1 (.var 1) (.var 100))])]),
  ([(dfz19, false), (.op2 .eq dfz8 (.num 6), false), (.op2 .eq dfz8 (.num 0), false), (dfz17, true), (dfz16, false), (dfz14, true), (dfz5, false), (dfz11, true), (dfz12, true), (dfz0, true), (dfz6, false), (dfz7, true), (dfz9, false)], some [(.again 0 [], [(.var 100, dfz15), (.var 101, dfz4), (.var 102, dfz13), (.var 103, .cell 1 (.var 1) (.var 100))])]),
  ([(dfz17, false), (dfz16, false), (dfz14, true), (dfz5, false), (dfz11, true), (dfz12, true), (dfz0, true), (dfz6, false), (dfz7, true), (dfz9, false)], some [(.again 0 [], [(.var 100, dfz15), (.var 101, dfz4), (.var 102, .var 102), (.var 103, .cell 1 (.var 1) (.var 100))])]),
  ([(dfz16, true), (dfz14, false), (dfz5, false), (dfz11, true), (dfz12, true), (dfz0, true), (dfz6, false), (dfz7, true), (dfz9, false)], some [(.leave 1 [], [(.app 5 [.var 1], .var 100), (dfz18, .num 5), (.app 25 [.var 1], .var 101), (.app 26 [.var 1], .var 102), (.app 27 [.var 1], .var 103), (dfz10, .boo true)])]),
  ([(dfz17, true), (dfz16, false), (dfz14, false), (dfz5, false), (dfz11, true), (dfz12, true), (dfz0, true), (dfz6, false), (dfz7, true), (dfz9, false)], some [(.leave 1 [], [(.app 5 [.var 1], .var 100), (dfz18, .num 5), (.app 25 [.var 1], .var 101), (.app 26 [.var 1], .var 102), (.app 27 [.var 1], .var 103), (dfz10, .boo true)])]),
  ([(dfz17, false), (dfz16, false), (dfz14, false), (dfz5, false), (dfz11, true), (dfz12, true), (dfz0, true), (dfz6, false), (dfz7, true), (dfz9, false)], some [(.again 0 [], [(.var 100, dfz15), (.var 101, dfz4), (.var 102, .var 102), (.var 103, .cell 1 (.var 1) (.var 100))])]),
  ([(dfz11, false), (dfz12, true), (dfz0, true), (dfz6, false), (dfz7, true), (dfz9, false)], some [(.leave 1 [], [(.app 5 [.var 1], .var 100), (dfz18, .num 6), (.app 25 [.var 1], .var 101), (.app 26 [.var 1], .var 102), (.app 27 [.var 1], .var 103), (dfz10, .boo true)])]),
  ([(dfz5, true), (dfz12, false), (dfz0, true), (dfz6, false), (dfz7, true), (dfz9, false)], some [(.leave 1 [], [(.app 5 [.var 1], .var 100), (dfz18, .num 7), (.app 25 [.var 1], .var 101), (.app 26 [.var 1], .var 102), (.app 27 [.var 1], .var 103), (dfz10, .boo true)])]),
  ([(.op2 (.mat 1) (.var 102) dfz1, true), (dfz19, true), (dfz17, true), (.op2 .eq dfz8 (.num 4), true), (dfz16, true), (dfz14, true), (dfz5, false), (dfz12, false), (dfz0, true), (dfz6, false), (dfz7, true), (dfz9, false)], some [(.leave 1 [], [(.app 5 [.var 1], .var 100), (dfz18, .num 6), (.app 25 [.var 1], .var 101), (.app 26 [.var 1], .var 102), (.app 27 [.var 1], .var 103), (dfz10, .boo true)])]),
  ([(.op2 (.mat 1) (.var 102) dfz1, false), (dfz19, true), (dfz17, true), (.op2 .eq dfz8 (.num 4), true), (dfz16, true), (dfz14, true), (dfz5, false), (dfz12, false), (dfz0, true), (dfz6, false), (dfz7, true), (dfz9, false)], some [(.again 0 [], [(.var 100, dfz15), (.var 101, dfz4), (.var 102, dfz13), (.var 103, .cell 1 (.var 1) (.var 100))])]),
  ([(dfz19, false), (dfz17, true), (.op2 .eq dfz8 (.num 4), true), (dfz16, true), (dfz14, true), (dfz5, false), (dfz12, false), (dfz0, true), (dfz6, false), (dfz7, true), (dfz9, false)], some [(.again 0 [], [(.var 100, dfz15), (.var 101, dfz4), (.var 102, dfz13), (.var 103, .cell 1 (.var 1) (.var 100))])]),
  ([(dfz17, false), (.op2 .eq dfz8 (.num 4), true), (dfz16, true), (dfz14, true), (dfz5, false), (dfz12, false), (dfz0, true), (dfz6, false), (dfz7, true), (dfz9, false)], some [(.again 0 [], [(.var 100, dfz15), (.var 101, dfz4), (.var 102, .var 102), (.var 103, .cell 1 (.var 1) (.var 100))])]),
  ([(.op2 .eq dfz8 (.num 4), false), (dfz16, true), (dfz14, true), (dfz5, false), (dfz12, false), (dfz0, true), (dfz6, false), (dfz7, true), (dfz9, false)], some [(.leave 1 [], [(.app 5 [.var 1], .var 100), (dfz18, .num 5), (.app 25 [.var 1], .var 101), (.app 26 [.var 1], .var 102), (.app 27 [.var 1], .var 103), (dfz10, .boo true)])]),
  ([(.op2 .eq dfz8 (.num 0), true), (dfz17, true), (dfz16, false), (dfz14, true), (dfz5, false), (dfz12, false), (dfz0, true), (dfz6, false), (dfz7, true), (dfz9, false)], some [(.leave 1 [], [(.app 5 [.var 1], .var 100), (dfz18, .num 5), (.app 25 [.var 1], .var 101), (.app 26 [.var 1], .var 102), (.app 27 [.var 1], .var 103), (dfz10, .boo true)])]),
  ([(.op2 .eq dfz8 (.num 6), true), (.op2 .eq dfz8 (.num 0), false), (dfz17, true), (dfz16, false), (dfz14, true), (dfz5, false), (dfz12, false), (dfz0, true), (dfz6, false), (dfz7, true), (dfz9, false)], some [(.leave 1 [], [(.app 5 [.var 1], .var 100), (dfz18, .num 5), (.app 25 [.var 1], .var 101), (.app 26 [.var 1], .var 102), (.app 27 [.var 1], .var 103), (dfz10, .boo true)])]),
  ([(.op2 (.mat 1) (.var 102) dfz1, true), (dfz19, true), (.op2 .eq dfz8 (.num 6), false), (.op2 .eq dfz8 (.num 0), false), (dfz17, true), (dfz16, false), (dfz14, true), (dfz5, false), (dfz12, false), (dfz0, true), (dfz6, false), (dfz7, true), (dfz9, false)], some [(.leave 1 [], [(.app 5 [.var 1], .var 100), (dfz18, .num 6), (.app 25 [.var 1], .var 101), (.app 26 [.var 1], .var 102), (.app 27 [.var 1], .var 103), (dfz10, .boo true)])]),
  ([(.op2 (.mat 1) (.var 102) dfz1, false), (dfz19, true), (.op2 .eq dfz8 (.num 6), false), (.op2 .eq dfz8 (.num 0), false), (dfz17, true), (dfz16, false), (dfz14, true), (dfz5, false), (dfz12, false), (dfz0, true), (dfz6, false), (dfz7, true), (dfz9, false)], some [(.again 0 [], [(.var 100, dfz15), (.var 101, dfz4), (.var 102, dfz13), (.var 103, .cell 1 (.var 1) (.var 100))])]),
  ([(dfz19, false), (.op2 .eq dfz8 (.num 6), false), (.op2 .eq dfz8 (.num 0), false), (dfz17, true), (dfz16, false), (dfz14, true), (dfz5, false), (dfz12, false), (dfz0, true), (dfz6, false), (dfz7, true), (dfz9, false)], some [(.again 0 [], [(.var 100, dfz15), (.var 101, dfz4), (.var 102, dfz13), (.var 103, .cell 1 (.var 1) (.var 100))])]),
  ([(dfz17, false), (dfz16, false), (dfz14, true), (dfz5, false), (dfz12, false), (dfz0, true), (dfz6, false), (dfz7, true), (dfz9, false)], some [(.again 0 [], [(.var 100, dfz15), (.var 101, dfz4), (.var 102, .var 102), (.var 103, .cell 1 (.var 1) (.var 100))])]),
  ([(dfz16, true), (dfz14, false), (dfz5, false), (dfz12, false), (dfz0, true), (dfz6, false), (dfz7, true), (dfz9, false)], some [(.leave 1 [], [(.app 5 [.var 1], .var 100), (dfz18, .num 5), (.app 25 [.var 1], .var 101), (.app 26 [.var 1], .var 102), (.app 27 [.var 1], .var 103), (dfz10, .boo true)])]),
  ([(dfz17, true), (dfz16, false), (dfz14, false), (dfz5, false), (dfz12, false), (dfz0, true), (dfz6, false), (dfz7, true), (dfz9, false)], some [(.leave 1 [], [(.app 5 [.var 1], .var 100), (dfz18, .num 5), (.app 25 [.var 1], .var 101), (.app 26 [.var 1], .var 102), (.app 27 [.var 1], .var 103), (dfz10, .boo true)])]),
  ([(dfz17, false), (dfz16, false), (dfz14, false), (dfz5, false), (dfz12, false), (dfz0, true), (dfz6, false), (dfz7, true), (dfz9, false)], some [(.again 0 [], [(.var 100, dfz15), (.var 101, dfz4), (.var 102, .var 102), (.var 103, .cell 1 (.var 1) (.var 100))])]),
  ([(dfz0, false), (dfz6, false), (dfz7, true), (dfz9, false)], some [(.leave 1 [], [(.app 5 [.var 1], .var 100), (dfz18, .num 1), (.app 25 [.var 1], .var 101), (.app 26 [.var 1], .var 102), (.app 27 [.var 1], .var 103), (dfz10, .boo true)])]),
  ([(dfz7, false), (dfz9, false)], some [(.leave 0 [], [(.app 25 [.var 1], .var 101), (.app 26 [.var 1], .var 102), (.app 27 [.var 1], .var 103), (.op2 .eq dfz18 (.num 0), .boo true)])])]
theorem cChk0_w (r : Rho) : cChk_D.ways cChk_run E0 r 0 cChk0_F cChk0_t = some cChk0_l := by kernel_rfl
theorem cChk_ok : cChk_D.ok = true := by kernel_rfl
def cChk_Inv (l : List Deed) (j : Nat) (vals : List Value) : Prop :=
  j = 0 ∧ ∃ i : Nat, (i ≤ l.length ∧ i ≤ 300) ∧ vals = [.int .i64 i, rowsV (kindsV (l.take i)), rowsV (voidsV (l.take i)), .int .i64 (lastD (l.take i))] ∧ checkD l = chkD (l.take i) (l.drop i) ∧ GoodD (l.take i)
def cChk_mu (l : List Deed) (_ : Nat) (vals : List Value) : Nat := l.length - (vI (vals.getD 0 default)).toNat
set_option maxHeartbeats 4000000 in
theorem cChk_step {ρ : Rho} {l : List Deed} (h1 : ρ.val 1 = some (deedsR l)) (hsy : ρ.sym = sy) (hsh : shortB l = true) (j : Nat) (vals : List Value) (hI : cChk_Inv l j vals) :
    StepOk cChk_D cChk_run E0 ρ (cChk_Inv l) (cChk_mu l) j vals := by
  obtain ⟨rfl, i, ⟨hi, hi3⟩, rfl, hall, hgood⟩ := hI
  have hN : cChk_D.N = 100 := rfl
  have hmax := short_len hsh
  have hlen : (l.take i).length = i := by simp; omega
  have hnext : ∀ p, l[i]? = some p → l.take (i + 1) = l.take i ++ [p] := fun p hp => by rw [List.take_add_one, hp]; rfl
  have hstep : ∀ p, l[i]? = some p → checkD l = if refusedD (l.take i) p = 0 then chkD (l.take (i + 1)) (l.drop (i + 1)) else (i, refusedD (l.take i) p) := fun p hp => by rw [hall, chkD_step hp]
  have hkl : (kindsV (l.take i)).length = i := by rw [hgood.kinds, List.length_map, hlen]
  generalize hpre : l.take i = pre at hall hgood hlen hnext hstep hkl ⊢
  have v1 : (ρ.ext cChk_D.N [.int .i64 i, rowsV (kindsV pre), rowsV (voidsV pre), .int .i64 (lastD pre)]).val 1 = some (deedsR l) := by rw [ext_low _ _ _ _ (by rw [hN]; omega)]; exact h1
  have v100 : (ρ.ext cChk_D.N [.int .i64 i, rowsV (kindsV pre), rowsV (voidsV pre), .int .i64 (lastD pre)]).val 100 = some (.int .i64 i) := by rw [ext_high _ _ _ _ (by rw [hN]; omega)]; rfl
  have v101 : (ρ.ext cChk_D.N [.int .i64 i, rowsV (kindsV pre), rowsV (voidsV pre), .int .i64 (lastD pre)]).val 101 = some (rowsV (kindsV pre)) := by rw [ext_high _ _ _ _ (by rw [hN]; omega)]; rfl
  have v102 : (ρ.ext cChk_D.N [.int .i64 i, rowsV (kindsV pre), rowsV (voidsV pre), .int .i64 (lastD pre)]).val 102 = some (rowsV (voidsV pre)) := by rw [ext_high _ _ _ _ (by rw [hN]; omega)]; rfl
  have v103 : (ρ.ext cChk_D.N [.int .i64 i, rowsV (kindsV pre), rowsV (voidsV pre), .int .i64 (lastD pre)]).val 103 = some (.int .i64 (lastD pre)) := by rw [ext_high _ _ _ _ (by rw [hN]; omega)]; rfl
  have vs : (ρ.ext cChk_D.N [.int .i64 i, rowsV (kindsV pre), rowsV (voidsV pre), .int .i64 (lastD pre)]).sym = sy := hsy

  have hF : FactsIn (ρ.ext cChk_D.N [.int .i64 i, rowsV (kindsV pre), rowsV (voidsV pre), .int .i64 (lastD pre)]) cChk0_F := by
    simp only [cChk0_F, FactsIn, X.bool, X.den, denL, d_wrap, d_kind, d_not, d_neg, d_slen, d_add, d_sub, d_mul, d_div, d_mod, d_lt, d_le, d_eq, d_eqb, d_eqs, d_lts, d_cat, d_sat, d_and, d_or, denSub, denIte, asB, fracs_len, fracs_cell, fracs_lsub, deeds_len, deeds_cell, deeds_lsub, v100, Option.some.injEq, Value.bool.injEq, decide_eq_false_iff_not, and_true]
    omega
  suffices both : AsksL (ρ.ext cChk_D.N [.int .i64 i, rowsV (kindsV pre), rowsV (voidsV pre), .int .i64 (lastD pre)]) (cChk0_t.asks cChk0_F) ∧ WaysOk cChk_D ρ (cChk_Inv l) (cChk_mu l) 0 [.int .i64 i, rowsV (kindsV pre), rowsV (voidsV pre), .int .i64 (lastD pre)] cChk0_l from step_of_ways (cChk0_w _) hF both.1.ok both.2
  cases hp : l[i]? with
  | none =>
    have hge := List.getElem?_eq_none_iff.1 hp
    have hge' : ¬ (i : Int) < l.length := by omega
    refine ⟨?_, ?_⟩
    · simp only [cChk0_t, dfz19, dfz18, dfz17, dfz16, dfz15, dfz14, dfz13, dfz12, dfz11, dfz10, dfz9, dfz8, dfz7, dfz6, dfz5, dfz4, dfz3, dfz2, dfz1, dfz0, cChk0_F, AsksL, GTree.asks, FTree.asks, FactsIn, List.append_nil, List.nil_append, List.cons_append, Option.some.injEq, exists_eq', implies_true, and_self, X.bool, X.den, denL, d_wrap, d_kind, d_not, d_neg, d_slen, d_add, d_sub, d_mul, d_div, d_mod, d_lt, d_le, d_eq, d_eqb, d_eqs, d_lts, d_cat, d_sat, d_and, d_or, denSub, denIte, asB, fracs_len, fracs_cell, fracs_lsub, deeds_len, deeds_cell, deeds_lsub, snoc_nil, d_mhas, d_mat, d_mput, rows_len, List.take_succ_cons, List.take_zero, v1, v100, v101, v102, v103, vs, sym5, sym6, sym20, sym25, sym26, sym27, sym64, Int.toNat_natCast, hp, hge']
      simp
    · have hl : pre = l := by rw [← hpre, show i = l.length by omega, List.take_length]
      have h0 : checkD l = (0, 0) := by rw [hall, show i = l.length by omega, List.drop_length]; rfl
      have h02 : (checkD l).2 = 0 := by rw [h0]
      subst hl
      simp only [cChk0_l, dfz19, dfz18, dfz17, dfz16, dfz15, dfz14, dfz13, dfz12, dfz11, dfz10, dfz9, dfz8, dfz7, dfz6, dfz5, dfz4, dfz3, dfz2, dfz1, dfz0, EndsOk, WaysOk, forall_cons, forall_nil, TgtOk, gpair, FactsIn, hold_cons, hold_nil, Option.some.injEq, Value.bool.injEq, Value.int.injEq, decide_eq_true_eq, decide_eq_false_iff_not, and_true, true_and, and_imp, X.bool, X.den, denL, d_wrap, d_kind, d_not, d_neg, d_slen, d_add, d_sub, d_mul, d_div, d_mod, d_lt, d_le, d_eq, d_eqb, d_eqs, d_lts, d_cat, d_sat, d_and, d_or, denSub, denIte, asB, fracs_len, fracs_cell, fracs_lsub, deeds_len, deeds_cell, deeds_lsub, beq_iff_eq, beq_eq_false_iff_ne, ne_eq, snoc_nil, d_mhas, d_mat, d_mput, rows_len, List.take_succ_cons, List.take_zero, v1, v100, v101, v102, v103, vs, h1, hsy, sym5, sym6, sym20, sym25, sym26, sym27, sym64, Int.toNat_natCast, hp, hge', upto_full h02]
      simp [h0]
  | some p =>
    have hlt : i < l.length := (List.getElem?_eq_some_iff.1 hp).1
    have hlt1 : (i : Int) < l.length := by omega
    have hst := hstep p hp
    have go : ∀ vv, voidsV (pre ++ [p]) = vv → refusedD pre p = 0 → ∃ vals', ((ρ.ext cChk_D.N vals').val 100 = some (.int .i64 (IntKind.i64.wrap ((i : Int) + 1))) ∧
        (ρ.ext cChk_D.N vals').val 101 = some (rowsV (putRow [.int .i64 p.id] [.int .i64 p.id, .int .u8 p.kind] (kindsV pre))) ∧ (ρ.ext cChk_D.N vals').val 102 = some (rowsV vv) ∧
        (ρ.ext cChk_D.N vals').val 103 = some (.int .i64 p.known)) ∧
          cChk_Inv l 0 vals' ∧ cChk_mu l 0 vals' < cChk_mu l 0 [.int .i64 i, rowsV (kindsV pre), rowsV (voidsV pre), .int .i64 (lastD pre)] := by
      intro vv hv e
      have hw : IntKind.i64.wrap ((i : Int) + 1) = ((i + 1 : Nat) : Int) := IntWalk.i64_in _ (by omega)
      refine ⟨[.int .i64 ((i + 1 : Nat) : Int), rowsV (kindsV (l.take (i + 1))), rowsV (voidsV (l.take (i + 1))), .int .i64 (lastD (l.take (i + 1)))], ⟨?_, ?_, ?_, ?_⟩, ⟨rfl, i + 1, ⟨by omega, by have := (accepted e).1; omega⟩, rfl, ?_, ?_⟩, ?_⟩
      · rw [ext_high _ _ _ _ (by rw [hN]; omega), hw]; rfl
      · rw [ext_high _ _ _ _ (by rw [hN]; omega), hnext p hp, kindsV_snoc]; rfl
      · rw [ext_high _ _ _ _ (by rw [hN]; omega), hnext p hp, hv]; rfl
      · rw [ext_high _ _ _ _ (by rw [hN]; omega), hnext p hp, lastD_snoc]; rfl
      · rw [hst, if_pos e]
      · rw [hnext p hp]; exact hgood.snoc e
      · simp [cChk_mu, vI]; omega
    have vno : ¬ p.kind = 6 → voidsV (pre ++ [p]) = voidsV pre := fun h => by rw [voidsV_snoc, if_neg h]
    have vyes : p.kind = 6 → voidsV (pre ++ [p]) = putRow [.int .i64 p.of_] [.int .i64 p.of_, .bool true] (voidsV pre) := fun h => by rw [voidsV_snoc, if_pos h]; rfl
    have out : ∀ e, e ≠ 0 → refusedD pre p = e → (checkD l).1 = i ∧ (checkD l).2 = e ∧ rowsV (kindsV (uptoD l)) = rowsV (kindsV pre) ∧ rowsV (voidsV (uptoD l)) = rowsV (voidsV pre) ∧ lastD (uptoD l) = lastD pre ∧ (!((checkD l).2 == 0)) = true := by
      intro e he h
      have hc : checkD l = ((i : Int), e) := by rw [hst, if_neg (by rw [h]; exact he), h]
      have hu : uptoD l = pre := by rw [upto_part (i := i) (by rw [hc]; exact he) (by rw [hc]), hpre]
      rw [hu, hc]
      refine ⟨rfl, rfl, rfl, rfl, rfl, ?_⟩
      simp [he]
    have hasK := hgood.has p.id
    have hasO := hgood.has p.of_
    have hasV := hgood.gone p.of_
    have kA : (thereB pre p.id = false ∧ mapAt (kindsV pre) [.int .i64 p.id] 1 = none) ∨ ∃ a : Int, ¬ a = 0 ∧ thereB pre p.id = true ∧ mapAt (kindsV pre) [.int .i64 p.id] 1 = some (.int .u8 a) := by
      cases h : thereB pre p.id with
      | false => exact .inl ⟨rfl, mapAt_none (by rw [hasK]; exact h)⟩
      | true =>
        obtain ⟨q, hq, he, ha⟩ := hgood.at_ h
        exact .inr ⟨q.kind, by have := formed_kind (hgood.formed q hq); omega, rfl, ha⟩
    have kB : (thereB pre p.of_ = false ∧ mapAt (kindsV pre) [.int .i64 p.of_] 1 = none) ∨ (¬ (findR pre p.of_).kind = 0 ∧ thereB pre p.of_ = true ∧ mapAt (kindsV pre) [.int .i64 p.of_] 1 = some (.int .u8 (findR pre p.of_).kind)) := by
      cases h : thereB pre p.of_ with
      | false => exact .inl ⟨rfl, mapAt_none (by rw [hasO]; exact h)⟩
      | true =>
        obtain ⟨q, hq, he, ha⟩ := hgood.at_ h
        have hk := hgood.kind_at h
        have hq1 := formed_kind (hgood.formed q hq)
        refine .inr ⟨?_, rfl, hk⟩
        rw [ha] at hk
        simp only [Option.some.injEq, Value.int.injEq, true_and] at hk
        omega
    have kC : (goneB pre p.of_ 1000000 = false ∧ mapAt (voidsV pre) [.int .i64 p.of_] 1 = none) ∨ (goneB pre p.of_ 1000000 = true ∧ mapAt (voidsV pre) [.int .i64 p.of_] 1 = some (.bool true)) := by
      cases h : goneB pre p.of_ 1000000 with
      | false => exact .inl ⟨rfl, mapAt_none (by rw [hasV]; exact h)⟩
      | true => exact .inr ⟨rfl, hgood.gone_at h⟩
    have R := refused_bif (p := p) hlen hi3
    unfold badB at R
    have hasK : mapHas (kindsV pre) [.int .i64 p.id] = thereB pre p.id := hasK
    have hasO : mapHas (kindsV pre) [.int .i64 p.of_] = thereB pre p.of_ := hasO
    clear hF hgood hall hstep hnext hst hi hsh hmax
    have keep := hpre
    clear hpre keep
    generalize (findR pre p.of_).kind = fk at kB R
    rcases kA with ⟨hA, hA1⟩ | ⟨a, ha0, hA, hA1⟩ <;> rcases kB with ⟨hB, hB1⟩ | ⟨hb0, hB, hB1⟩ <;> rcases kC with ⟨hC, hC1⟩ | ⟨hC, hC1⟩ <;> rw [hA] at hasK R <;> rw [hB] at hasO R <;> rw [hC] at hasV R
    all_goals (refine ⟨?_, ?_⟩)
    all_goals (simp only [cChk0_t, dfz19, dfz18, dfz17, dfz16, dfz15, dfz14, dfz13, dfz12, dfz11, dfz10, dfz9, dfz8, dfz7, dfz6, dfz5, dfz4, dfz3, dfz2, dfz1, dfz0, cChk0_F, cChk0_l, AsksL, GTree.asks, FTree.asks, FactsIn, List.append_nil, List.nil_append, List.cons_append, Option.some.injEq, exists_eq', implies_true, and_self, X.bool, X.den, denL, d_wrap, d_kind, d_not, d_neg, d_slen, d_add, d_sub, d_mul, d_div, d_mod, d_lt, d_le, d_eq, d_eqb, d_eqs, d_lts, d_cat, d_sat, d_and, d_or, denSub, denIte, asB, fracs_len, fracs_cell, fracs_lsub, deeds_len, deeds_cell, deeds_lsub, snoc_nil, d_mhas, d_mat, d_mput, rows_len, List.take_succ_cons, List.take_zero, EndsOk, WaysOk, forall_cons, forall_nil, TgtOk, gpair, FactsIn, hold_cons, hold_nil, Option.some.injEq, Value.bool.injEq, Value.int.injEq, decide_eq_true_eq, decide_eq_false_iff_not, and_true, true_and, and_imp, X.bool, X.den, denL, d_wrap, d_kind, d_not, d_neg, d_slen, d_add, d_sub, d_mul, d_div, d_mod, d_lt, d_le, d_eq, d_eqb, d_eqs, d_lts, d_cat, d_sat, d_and, d_or, denSub, denIte, asB, fracs_len, fracs_cell, fracs_lsub, deeds_len, deeds_cell, deeds_lsub, beq_iff_eq, beq_eq_false_iff_ne, ne_eq, snoc_nil, d_mhas, d_mat, d_mput, rows_len, List.take_succ_cons, List.take_zero, v1, v100, v101, v102, v103, vs, h1, hsy, sym5, sym6, sym20, sym25, sym26, sym27, sym64, Int.toNat_natCast, hp, Option.bind_some, deed0, deed1, deed2, deed3, deed4, deed5, deed6, deed7, deed8, deed9, deed10, hlt1, hkl, hasK, hasO, hasV, hA1, hB1, hC1, reduceCtorEq, false_implies, implies_true, true_implies, and_self, beq_iff_eq, beq_eq_false_iff_ne, ne_eq, acc_d])
    all_goals (clear v1 v100 v101 v102 v103 vs h1 hsy hp hN hA1 hB1 hC1 hasK hasO hasV hkl)
    all_goals (rcases Classical.em ((i : Int) = 300) with c2 | c2)
    all_goals (first | (replace c2 : ((i : Int) = 300) = False := eq_false c2) | (replace c2 : ((i : Int) = 300) = True := eq_true c2))
    all_goals (by_cases c7 : p.known < lastD pre <;> cases fb : formB p <;> simp only [c2, c7, fb, decide_true, decide_false, Bool.not_true, Bool.not_false, Bool.false_and, Bool.true_and, Bool.and_true, Bool.and_false, cond_true, cond_false, not_true_eq_false, not_false_eq_true, Bool.false_eq_true, true_implies, false_implies, implies_true, and_true, true_and] at R ⊢)
    all_goals ((repeat' apply And.intro) <;> intros <;> first
      | trivial
      | (exfalso; omega)
      | contradiction
      | (exact out _ (by decide) R)
      | (exact out _ (by decide) (by rw [R]; simp [*]; done))
      | (exact go _ (vno (by assumption)) (by rw [R]; simp [*]; done))
      | (exact go _ (vyes (by assumption)) (by rw [R]; simp [*]; done))
      | (exact go _ (vno (by omega)) (by rw [R]; simp [*]; done))
      | (refine out _ (by decide) ?_; rw [R]; simp_all; done)
      | (refine go _ (vno (by assumption)) ?_; rw [R]; simp_all; done)
      | (refine go _ (vyes (by assumption)) ?_; rw [R]; simp_all; done))

noncomputable def cChk_con : Con := { f := 31, args := [deedsArg 0 0], N := 1, M := 1, pre := [(.app 20 [.var 1], true)], out := .tuple [.sint .i64 (.app 5 [.var 1]), .sint .i64 (.app 6 [.var 1])], news := [] }
noncomputable def cChk_call : Env → CallL := fun E => acallAll E (evH E (D3 E) ((fun E => oneH 31 (hooks [(3, cChk_D.hook E.facts cChk_vs)])) E) 6)
noncomputable def cChk_t : GTree := (.fork (.op2 .eq dfz18 (.num 0)) (.leaf [[]]) (.leaf [[]]))
noncomputable def cChk_l : List (List (X × Bool) × Option Pairs) := [([(.op2 .eq dfz18 (.num 0), true), (.app 20 [.var 1], true)], some [(.app 5 [.var 1], .num 0), (dfz18, .num 0)]),
  ([(.op2 .eq dfz18 (.num 0), false), (.app 20 [.var 1], true)], some [(.app 5 [.var 1], .app 5 [.var 1]), (dfz18, dfz18)])]
theorem cChk_w (r : Rho) : cChk_con.fn.ways cChk_call E0 r cChk_con.pre cChk_t = some cChk_l := by kernel_rfl
theorem cChk_H {r : Rho} {l : List Deed} (h1 : r.val 1 = some (deedsR l)) (hsy : r.sym = sy) (F : List (X × Bool)) :
    LoopsOk (E0.with F r) (oneH 31 (hooks [(3, cChk_D.hook (E0.with F r).facts cChk_vs)])) := by
  refine loops_all (n := 1) (fun f fn h => h) (by kernel_rfl) fun i hi => ?_
  obtain rfl : i = 0 := by omega
  rw [hooks_hit (show keyOf (loopAt (E0.with F r).P 31 0) = 3 by kernel_rfl)]
  refine hook_ok (E₀ := E0) (run := cChk_run) (ρ := r) (Inv := cChk_Inv l) (μ := cChk_mu l) E0_ok cChk_ok (fun F r' h => ?_) (fun hpre => ⟨cChk_step h1 hsy (by have := hpre; simp only [cChk_D, FactsIn, X.bool, X.den, denL, d_wrap, d_kind, d_not, d_neg, d_slen, d_add, d_sub, d_mul, d_div, d_mod, d_lt, d_le, d_eq, d_eqb, d_eqs, d_lts, d_cat, d_sat, d_and, d_or, denSub, denIte, asB, fracs_len, fracs_cell, fracs_lsub, deeds_len, deeds_cell, deeds_lsub, h1, hsy, sym20, Option.some.injEq, Value.bool.injEq, and_true] at this; exact this), [.int .i64 0, .tuple #[], .tuple #[], .int .i64 0], ?_, rfl, 0, ⟨Nat.zero_le _, by omega⟩, rfl, rfl, goodD_nil⟩)
  · exact bodyRun_ok E0_ok (D3_ok F (h.trans hsy)) fun _ _ => noLoop_ok
  · simp only [cChk_vs, X.bool, X.den, denL, d_wrap, d_kind, d_not, d_neg, d_slen, d_add, d_sub, d_mul, d_div, d_mod, d_lt, d_le, d_eq, d_eqb, d_eqs, d_lts, d_cat, d_sat, d_and, d_or, denSub, denIte, asB, fracs_len, fracs_cell, fracs_lsub, deeds_len, deeds_cell, deeds_lsub]

theorem cChk_cok : cChk_con.Ok Tryz.prog sy := by
  intro r σ w us hsy hρ hpre hrel hins
  obtain ⟨l, h1⟩ := deeds_at hrel (i := 0) rfl
  rw [hρ] at h1
  have h1 : r.val 1 = some (deedsR l) := h1
  refine con_of (E := E0) E0_ok E0_glob (sy := sy) (fun F => D3_ok F hsy) (fun F => cChk_H h1 hsy F) (cChk_w r) hρ hpre hrel hins ?_ ?_
  · simp only [cChk_con, cChk_t, dfz19, dfz18, dfz17, dfz16, dfz15, dfz14, dfz13, dfz12, dfz11, dfz10, dfz9, dfz8, dfz7, dfz6, dfz5, dfz4, dfz3, dfz2, dfz1, dfz0, AsksL, GTree.asks, FTree.asks, FactsIn, List.append_nil, List.nil_append, List.cons_append, Option.some.injEq, exists_eq', implies_true, and_self, X.bool, X.den, denL, d_wrap, d_kind, d_not, d_neg, d_slen, d_add, d_sub, d_mul, d_div, d_mod, d_lt, d_le, d_eq, d_eqb, d_eqs, d_lts, d_cat, d_sat, d_and, d_or, denSub, denIte, asB, fracs_len, fracs_cell, fracs_lsub, deeds_len, deeds_cell, deeds_lsub, h1, hsy, sym5, sym6, sym20]
  · simp only [cChk_l, dfz19, dfz18, dfz17, dfz16, dfz15, dfz14, dfz13, dfz12, dfz11, dfz10, dfz9, dfz8, dfz7, dfz6, dfz5, dfz4, dfz3, dfz2, dfz1, dfz0, EndsOk, WaysOk, forall_cons, forall_nil, TgtOk, gpair, FactsIn, hold_cons, hold_nil, Option.some.injEq, Value.bool.injEq, Value.int.injEq, decide_eq_true_eq, decide_eq_false_iff_not, and_true, true_and, and_imp, X.bool, X.den, denL, d_wrap, d_kind, d_not, d_neg, d_slen, d_add, d_sub, d_mul, d_div, d_mod, d_lt, d_le, d_eq, d_eqb, d_eqs, d_lts, d_cat, d_sat, d_and, d_or, denSub, denIte, asB, fracs_len, fracs_cell, fracs_lsub, deeds_len, deeds_cell, deeds_lsub, beq_iff_eq, beq_eq_false_iff_ne, ne_eq, h1, hsy, sym5, sym6, sym20]
    have h00 : (checkD l).2 = 0 → (checkD l).1 = 0 := check00 l
    (repeat' apply And.intro) <;> intros <;> simp_all
end Go.Proofs.YtnahicnoofkfgaaGreatDoor.Zs

namespace Go.Proofs.YtnahicnoofkfgaaGreatDoor.Zs
open Go
set_option linter.unusedSimpArgs false
set_option linter.unusedVariables false

noncomputable def D5 : Env → CallE := libs [cLib cChk_con]
theorem D5_ok (F : List (X × Bool)) {r : Rho} (h : r.sym = sy) : CallsOk (E0.with F r) (D5 (E0.with F r)) := libs_ok fun c hc => by
  simp only [List.mem_cons, List.not_mem_nil, or_false] at hc
  subst hc; exact lib_ok (E := E0) cChk_cok F h

theorem chkD_snoc (x : Deed) : ∀ (l pre : List Deed), (chkD pre (l ++ [x])).2 = if (chkD pre l).2 ≠ 0 then (chkD pre l).2 else refusedD (pre ++ l) x
  | [], pre => by
    simp only [List.nil_append, chkD, List.append_nil, ne_eq, not_true_eq_false, if_false]
    split
    · rename_i h; exact h.symm
    · rfl
  | p :: r, pre => by
    simp only [List.cons_append, chkD]
    split
    · rw [chkD_snoc x r (pre ++ [p])]; simp
    · rename_i h; simp [h]
theorem check_snoc (l : List Deed) (x : Deed) : (checkD (l ++ [x])).2 = appendD l x := by
  have := chkD_snoc x l []
  rw [List.nil_append] at this
  exact this

noncomputable def cAppendNo_con : Con := { f := 33, args := [deedsArg 0 0, .agg (deedLeaves 3)], N := 1, M := 1, pre := [(.op2 .lt (.num 900) (.op1 .len (.var 1)), false), (.op2 .eq (.app 11 [.var 1, .var 3, .var 4, .var 5, .var 6, .var 7, .var 8, .var 9, .var 10, .var 11, .var 12, .var 13]) (.num 0), false)], out := .tuple [.nilslice, .sint .i64 (.app 11 [.var 1, .var 3, .var 4, .var 5, .var 6, .var 7, .var 8, .var 9, .var 10, .var 11, .var 12, .var 13])], news := [] }
noncomputable def cAppendNo_call : Env → CallL := fun E => acallAll E (evH E (D5 E) ((fun _ => noLoops) E) 6)
def dhz0 : X := .snoc (.var 1) [(.op1 (.kind .i64) (.var 3)), (.op1 (.kind .i64) (.var 4)), (.op1 (.kind .i64) (.var 5)), (.op1 (.kind .u8) (.var 6)), (.op1 (.kind .i64) (.var 7)), (.op1 (.kind .i64) (.var 8)), (.op1 (.kind .i64) (.var 9)), (.op1 (.kind .i64) (.var 10)), (.op1 (.kind .i64) (.var 11)), (.op1 (.kind .i64) (.var 12)), (.op1 (.kind .i64) (.var 13))]
def dhz1 : X := .op2 .eq (.app 11 [(.var 1), (.var 3), (.var 4), (.var 5), (.var 6), (.var 7), (.var 8), (.var 9), (.var 10), (.var 11), (.var 12), (.var 13)]) (.num 0)
def dhz2 : X := .op1 (.wrap .i64) (.op2 .add (.op1 .len (.var 1)) (.num 1))
def dhz3 : X := .op1 .len (.var 1)
def dhz4 : X := .op2 .lt (.num 1000000000) dhz2
def dhz5 : X := .op2 .lt (.num 1000000000) (.op2 .add dhz3 (.num 1))
def dhz6 : X := .op2 .lt dhz2 (.num 0)
noncomputable def cAppendNo_t : GTree := (.fork dhz4 (.fork dhz6 .bad .bad) (.fork dhz6 .bad (.fork (.op2 .lt (.num 1000000000) dhz3) .bad (.fork dhz5 .bad (.fork (.app 20 [dhz0]) (.fork (.op2 .eq (.app 6 [dhz0]) (.num 0)) .bad (.leaf [[]])) .bad)))))
noncomputable def cAppendNo_l : List (List (X × Bool) × Option Pairs) := [([(dhz6, true), (dhz4, true), (.op2 .lt (.num 900) dhz3, false), (dhz1, false)], none),
  ([(dhz6, false), (dhz4, true), (.op2 .lt (.num 900) dhz3, false), (dhz1, false)], none),
  ([(dhz6, true), (dhz4, false), (.op2 .lt (.num 900) dhz3, false), (dhz1, false)], none),
  ([(.op2 .lt (.num 1000000000) dhz3, true), (dhz6, false), (dhz4, false), (.op2 .lt (.num 900) dhz3, false), (dhz1, false)], none),
  ([(dhz5, true), (.op2 .lt (.num 1000000000) dhz3, false), (dhz6, false), (dhz4, false), (.op2 .lt (.num 900) dhz3, false), (dhz1, false)], none),
  ([(.op2 .eq (.app 6 [dhz0]) (.num 0), true), (.app 20 [dhz0], true), (dhz5, false), (.op2 .lt (.num 1000000000) dhz3, false), (dhz6, false), (dhz4, false), (.op2 .lt (.num 900) dhz3, false), (dhz1, false)], none),
  ([(.op2 .eq (.app 6 [dhz0]) (.num 0), false), (.app 20 [dhz0], true), (dhz5, false), (.op2 .lt (.num 1000000000) dhz3, false), (dhz6, false), (dhz4, false), (.op2 .lt (.num 900) dhz3, false), (dhz1, false)], some [(.app 11 [.var 1, .var 3, .var 4, .var 5, .var 6, .var 7, .var 8, .var 9, .var 10, .var 11, .var 12, .var 13], .app 6 [dhz0])]),
  ([(.app 20 [dhz0], false), (dhz5, false), (.op2 .lt (.num 1000000000) dhz3, false), (dhz6, false), (dhz4, false), (.op2 .lt (.num 900) dhz3, false), (dhz1, false)], none)]
theorem cAppendNo_w (r : Rho) : cAppendNo_con.fn.ways cAppendNo_call E0 r cAppendNo_con.pre cAppendNo_t = some cAppendNo_l := by kernel_rfl
set_option maxRecDepth 100000 in
set_option maxHeartbeats 1000000 in
theorem cAppendNo_cok : cAppendNo_con.Ok Tryz.prog sy := by
  intro r σ w us hsy hρ hpre hrel hins
  obtain ⟨u0, us, rfl, g0, hi⟩ := ins_cons hins
  obtain ⟨u1, us, rfl, g1, hi⟩ := ins_cons hi
  obtain ⟨x, k, rfl, hp⟩ := deed_agg g1
  obtain ⟨l, h1⟩ := deeds_at hrel (i := 0) rfl
  rw [hρ] at hp h1
  have h1 : r.val 1 = some (deedsR l) := h1
  have a0 := hp.h0
  have a1 := hp.h1
  have a2 := hp.h2
  have a3 := hp.h3
  have a4 := hp.h4
  have a5 := hp.h5
  have a6 := hp.h6
  have a7 := hp.h7
  have a8 := hp.h8
  have a9 := hp.h9
  have a10 := hp.h10
  simp only [Nat.zero_add, Nat.reduceAdd] at a0 a1 a2 a3 a4 a5 a6 a7 a8 a9 a10

  have hlen : (l.length : Int) ≤ 900 := by
    have := hpre.1
    simp only [X.bool, X.den, denL, d_wrap, d_kind, d_not, d_neg, d_slen, d_add, d_sub, d_mul, d_div, d_mod, d_lt, d_le, d_eq, d_eqb, d_eqs, d_lts, d_cat, d_sat, d_and, d_or, denSub, denIte, asB, fracs_len, fracs_cell, fracs_lsub, deeds_len, deeds_cell, deeds_lsub, h1, Option.some.injEq, Value.bool.injEq, decide_eq_false_iff_not] at this
    omega
  have hw : IntKind.i64.wrap ((l.length : Int) + 1) = l.length + 1 := IntWalk.i64_in _ (by omega)
  have hle : shortB (l ++ [x]) = true := len_short (by simp; omega)
  refine con_of (E := E0) E0_ok E0_glob (sy := sy) (fun F => D5_ok F hsy) (fun F => noH_ok) (cAppendNo_w r) hρ hpre hrel hins ?_ ?_
  · simp only [cAppendNo_con, cAppendNo_t, dhz6, dhz5, dhz4, dhz3, dhz2, dhz1, dhz0, AsksL, GTree.asks, FTree.asks, FactsIn, List.append_nil, List.nil_append, List.cons_append, Option.some.injEq, exists_eq', implies_true, and_self, X.bool, X.den, denL, d_wrap, d_kind, d_not, d_neg, d_slen, d_add, d_sub, d_mul, d_div, d_mod, d_lt, d_le, d_eq, d_eqb, d_eqs, d_lts, d_cat, d_sat, d_and, d_or, denSub, denIte, asB, fracs_len, fracs_cell, fracs_lsub, deeds_len, deeds_cell, deeds_lsub, deeds_snoc, deeds_snoc0, snoc_nil, a0, a1, a2, a3, a4, a5, a6, a7, a8, a9, a10, h1, hsy, sym5, sym6, sym11, sym20, hw, check_snoc, hle]
  · simp only [cAppendNo_l, dhz6, dhz5, dhz4, dhz3, dhz2, dhz1, dhz0, EndsOk, WaysOk, forall_cons, forall_nil, TgtOk, gpair, FactsIn, hold_cons, hold_nil, Option.some.injEq, Value.bool.injEq, Value.int.injEq, decide_eq_true_eq, decide_eq_false_iff_not, and_true, true_and, and_imp, X.bool, X.den, denL, d_wrap, d_kind, d_not, d_neg, d_slen, d_add, d_sub, d_mul, d_div, d_mod, d_lt, d_le, d_eq, d_eqb, d_eqs, d_lts, d_cat, d_sat, d_and, d_or, denSub, denIte, asB, fracs_len, fracs_cell, fracs_lsub, deeds_len, deeds_cell, deeds_lsub, beq_iff_eq, beq_eq_false_iff_ne, ne_eq, deeds_snoc, deeds_snoc0, snoc_nil, a0, a1, a2, a3, a4, a5, a6, a7, a8, a9, a10, h1, hsy, sym5, sym6, sym11, sym20, hw, check_snoc, hle]
    clear hρ hpre hrel hi hp hins g0 g1 h1 a0 a1 a2 a3 a4 a5 a6 a7 a8 a9 a10 hw
    (repeat' apply And.intro) <;> intros <;> first
      | trivial
      | (exfalso; omega)
      | (simp_all; done)
      | (exfalso; simp_all; omega)
noncomputable def cAppendYes_con : Con := { f := 33, args := [deedsArg 0 0, .agg (deedLeaves 3)], N := 1, M := 2, pre := [(.op2 .lt (.num 900) (.op1 .len (.var 1)), false), (.op2 .eq (.app 11 [.var 1, .var 3, .var 4, .var 5, .var 6, .var 7, .var 8, .var 9, .var 10, .var 11, .var 12, .var 13]) (.num 0), true)], out := .tuple [.slo 1 11 (.op2 .add (.op1 .len (.var 1)) (.num 1)), .int .i64 0], news := [(1, .rows 11 deedSch (.num 0) (.snoc (.var 1) [.op1 (.kind .i64) (.var 3), .op1 (.kind .i64) (.var 4), .op1 (.kind .i64) (.var 5), .op1 (.kind .u8) (.var 6), .op1 (.kind .i64) (.var 7), .op1 (.kind .i64) (.var 8), .op1 (.kind .i64) (.var 9), .op1 (.kind .i64) (.var 10), .op1 (.kind .i64) (.var 11), .op1 (.kind .i64) (.var 12), .op1 (.kind .i64) (.var 13)]) true 37)] }
noncomputable def cAppendYes_call : Env → CallL := fun E => acallAll E (evH E (D5 E) ((fun _ => noLoops) E) 6)
noncomputable def cAppendYes_t : GTree := (.fork dhz4 (.fork dhz6 .bad .bad) (.fork dhz6 .bad (.fork (.op2 .lt (.num 1000000000) dhz3) .bad (.fork dhz5 .bad (.fork (.app 20 [dhz0]) (.fork (.op2 .eq (.app 6 [dhz0]) (.num 0)) (.leaf [[(1, 5)]]) .bad) .bad)))))
noncomputable def cAppendYes_l : List (List (X × Bool) × Option Pairs) := [([(dhz6, true), (dhz4, true), (.op2 .lt (.num 900) dhz3, false), (dhz1, true)], none),
  ([(dhz6, false), (dhz4, true), (.op2 .lt (.num 900) dhz3, false), (dhz1, true)], none),
  ([(dhz6, true), (dhz4, false), (.op2 .lt (.num 900) dhz3, false), (dhz1, true)], none),
  ([(.op2 .lt (.num 1000000000) dhz3, true), (dhz6, false), (dhz4, false), (.op2 .lt (.num 900) dhz3, false), (dhz1, true)], none),
  ([(dhz5, true), (.op2 .lt (.num 1000000000) dhz3, false), (dhz6, false), (dhz4, false), (.op2 .lt (.num 900) dhz3, false), (dhz1, true)], none),
  ([(.op2 .eq (.app 6 [dhz0]) (.num 0), true), (.app 20 [dhz0], true), (dhz5, false), (.op2 .lt (.num 1000000000) dhz3, false), (dhz6, false), (dhz4, false), (.op2 .lt (.num 900) dhz3, false), (dhz1, true)], some [(.op2 .add dhz3 (.num 1), .op2 .add dhz3 (.num 1)), (dhz0, dhz0)]),
  ([(.op2 .eq (.app 6 [dhz0]) (.num 0), false), (.app 20 [dhz0], true), (dhz5, false), (.op2 .lt (.num 1000000000) dhz3, false), (dhz6, false), (dhz4, false), (.op2 .lt (.num 900) dhz3, false), (dhz1, true)], none),
  ([(.app 20 [dhz0], false), (dhz5, false), (.op2 .lt (.num 1000000000) dhz3, false), (dhz6, false), (dhz4, false), (.op2 .lt (.num 900) dhz3, false), (dhz1, true)], none)]
theorem cAppendYes_w (r : Rho) : cAppendYes_con.fn.ways cAppendYes_call E0 r cAppendYes_con.pre cAppendYes_t = some cAppendYes_l := by kernel_rfl
set_option maxRecDepth 100000 in
set_option maxHeartbeats 1000000 in
theorem cAppendYes_cok : cAppendYes_con.Ok Tryz.prog sy := by
  intro r σ w us hsy hρ hpre hrel hins
  obtain ⟨u0, us, rfl, g0, hi⟩ := ins_cons hins
  obtain ⟨u1, us, rfl, g1, hi⟩ := ins_cons hi
  obtain ⟨x, k, rfl, hp⟩ := deed_agg g1
  obtain ⟨l, h1⟩ := deeds_at hrel (i := 0) rfl
  rw [hρ] at hp h1
  have h1 : r.val 1 = some (deedsR l) := h1
  have a0 := hp.h0
  have a1 := hp.h1
  have a2 := hp.h2
  have a3 := hp.h3
  have a4 := hp.h4
  have a5 := hp.h5
  have a6 := hp.h6
  have a7 := hp.h7
  have a8 := hp.h8
  have a9 := hp.h9
  have a10 := hp.h10
  simp only [Nat.zero_add, Nat.reduceAdd] at a0 a1 a2 a3 a4 a5 a6 a7 a8 a9 a10

  have hlen : (l.length : Int) ≤ 900 := by
    have := hpre.1
    simp only [X.bool, X.den, denL, d_wrap, d_kind, d_not, d_neg, d_slen, d_add, d_sub, d_mul, d_div, d_mod, d_lt, d_le, d_eq, d_eqb, d_eqs, d_lts, d_cat, d_sat, d_and, d_or, denSub, denIte, asB, fracs_len, fracs_cell, fracs_lsub, deeds_len, deeds_cell, deeds_lsub, h1, Option.some.injEq, Value.bool.injEq, decide_eq_false_iff_not] at this
    omega
  have hw : IntKind.i64.wrap ((l.length : Int) + 1) = l.length + 1 := IntWalk.i64_in _ (by omega)
  have hle : shortB (l ++ [x]) = true := len_short (by simp; omega)
  refine con_of (E := E0) E0_ok E0_glob (sy := sy) (fun F => D5_ok F hsy) (fun F => noH_ok) (cAppendYes_w r) hρ hpre hrel hins ?_ ?_
  · simp only [cAppendYes_con, cAppendYes_t, dhz6, dhz5, dhz4, dhz3, dhz2, dhz1, dhz0, AsksL, GTree.asks, FTree.asks, FactsIn, List.append_nil, List.nil_append, List.cons_append, Option.some.injEq, exists_eq', implies_true, and_self, X.bool, X.den, denL, d_wrap, d_kind, d_not, d_neg, d_slen, d_add, d_sub, d_mul, d_div, d_mod, d_lt, d_le, d_eq, d_eqb, d_eqs, d_lts, d_cat, d_sat, d_and, d_or, denSub, denIte, asB, fracs_len, fracs_cell, fracs_lsub, deeds_len, deeds_cell, deeds_lsub, deeds_snoc, deeds_snoc0, snoc_nil, a0, a1, a2, a3, a4, a5, a6, a7, a8, a9, a10, h1, hsy, sym5, sym6, sym11, sym20, hw, check_snoc, hle]
  · simp only [cAppendYes_l, dhz6, dhz5, dhz4, dhz3, dhz2, dhz1, dhz0, EndsOk, WaysOk, forall_cons, forall_nil, TgtOk, gpair, FactsIn, hold_cons, hold_nil, Option.some.injEq, Value.bool.injEq, Value.int.injEq, decide_eq_true_eq, decide_eq_false_iff_not, and_true, true_and, and_imp, X.bool, X.den, denL, d_wrap, d_kind, d_not, d_neg, d_slen, d_add, d_sub, d_mul, d_div, d_mod, d_lt, d_le, d_eq, d_eqb, d_eqs, d_lts, d_cat, d_sat, d_and, d_or, denSub, denIte, asB, fracs_len, fracs_cell, fracs_lsub, deeds_len, deeds_cell, deeds_lsub, beq_iff_eq, beq_eq_false_iff_ne, ne_eq, deeds_snoc, deeds_snoc0, snoc_nil, a0, a1, a2, a3, a4, a5, a6, a7, a8, a9, a10, h1, hsy, sym5, sym6, sym11, sym20, hw, check_snoc, hle]
    clear hρ hpre hrel hi hp hins g0 g1 h1 a0 a1 a2 a3 a4 a5 a6 a7 a8 a9 a10 hw
    (repeat' apply And.intro) <;> intros <;> first
      | trivial
      | (exfalso; omega)
      | (simp_all; done)
      | (exfalso; simp_all; omega)
end Go.Proofs.YtnahicnoofkfgaaGreatDoor.Zs
