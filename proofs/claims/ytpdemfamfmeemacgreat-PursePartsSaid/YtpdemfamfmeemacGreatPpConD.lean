/-
  Contracts of package purse: the ledger of a book.
-/
import Derived.Test.YtpdemfamfmeemacGreatPpConA
import Derived.Test.YtpdemfamfmeemacGreatPpData
import Derived.KernelRfl
set_option linter.unusedSimpArgs false
set_option linter.unusedVariables false
namespace Go.Proofs.YtpdemfamfmeemacGreat.Zs
open Go
theorem refused_bif {pre : List Ptg} {p : Ptg} {i : Nat} (hlen : pre.length = i) (hi : i ≤ 400) (hf : formB p = true) (hn : thereB pre p.id = false) : refusedP pre p =
    bif !(decide ((i : Int) < 400)) then 2
    else bif decide (p.hour < lastH pre) then 7
    else bif decide (p.kind = 1) then (bif decide (0 < soldW pre p.parcel) then 6 else 0)
    else bif decide (soldW pre p.parcel = 0) then 5
    else bif decide (p.kind = 2) then (bif decide (heldW pre p.parcel < p.amount) then 70 else 0)
    else bif decide (hasW pre p.party p.parcel < p.amount) then 70
    else bif decide (p.known ≤ (lastPay pre p.party p.parcel).known) then 71 else 0 := by
  have e2 : decide (400 ≤ pre.length) = !(decide ((i : Int) < 400)) := by rw [Bool.eq_iff_iff]; simp; omega
  have e7 : (decide (0 < pre.length) && decide (p.hour < lastH pre)) = decide (p.hour < lastH pre) := by
    rcases Nat.eq_zero_or_pos pre.length with h | h
    · have hk := (form_of hf).hour
      have : lastH pre = 0 := by rw [List.eq_nil_of_length_eq_zero h]; rfl
      rw [this]
      simp [h]
      omega
    · simp [h]
  unfold refusedP
  rw [e2, e7, hf, hn]
  rfl
theorem refused_no {pre : List Ptg} {p : Ptg} (h : pre.length < 400) (hf : formB p = false) : refusedP pre p = 1 := by
  unfold refusedP
  rw [decide_eq_false (by omega), hf]
  rfl
theorem refused_twice {pre : List Ptg} {p : Ptg} (h : pre.length < 400) (hf : formB p = true) (hn : thereB pre p.id = true) : refusedP pre p = 6 := by
  unfold refusedP
  rw [decide_eq_false (by omega), hf, hn]
  rfl
theorem refused_full {pre : List Ptg} {p : Ptg} (h : ¬ pre.length < 400) : refusedP pre p = 2 := by
  unfold refusedP
  rw [decide_eq_true (by omega)]
  rfl
theorem bif_int (b : Bool) (k : IntKind) (m n : Int) : (bif b then Value.int k m else Value.int k n) = .int k (bif b then m else n) := by cases b <;> rfl
theorem high_max (n m : Int) : (bif decide (n < m) then m else n) = max n m := by
  by_cases h : n < m
  · simp only [h, decide_true, cond_true]; omega
  · simp only [h, decide_false, cond_false]; omega
noncomputable def L3 : Env → CallE := libs [cLib cPost_con]
theorem L3_ok (F : List (X × Bool)) {r : Rho} (h : r.sym = sy) : CallsOk (E0.with F r) (L3 (E0.with F r)) := libs_ok fun c hc => by
  simp only [List.mem_cons, List.not_mem_nil, or_false] at hc
  subst hc; exact lib_ok (E := E0) cPost_cok F h
def gled_vs : List X := [.num 0, .nil, .nil, .nil, .nil, .nil, .num 0, .num 0, .num 0]
noncomputable def lLed_D : LoopD := { N := 100, M := 109, size := sizeOfF 51, reads := [(0, .rows 8 ptgSch (.var 0) (.var 1) false 36), (2, .cells [.ptr 9 0] 46)], pats := [{ slots := [(1, .ptr 3 0), (2, .ptr 2 0), (5, .slx 0 8 (.var 0) (.num 0) (.op1 .len (.var 1)) (.var 2)), (6, .sint .i64 (.op1 .len (.var 1))), (7, .sint .i64 (.var 100))], heap := [(3, .cells [.sint .i64 (.var 108)] 3), (4, .smap false [.int .i64] false [.bool] (.var 101)), (5, .smap false [.int .i64] false [.int .i64] (.var 102)), (6, .smap false [.int .i64] false [.int .i64] (.var 103)), (7, .smap true [.int .i64, .int .i64] false [.int .i64] (.var 104)), (8, .smap true [.int .i64, .int .i64] false [.int .i64] (.var 105)), (9, .cells [.map 4, .sint .i64 (.var 106), .sint .i64 (.var 107), .map 5, .map 6, .map 7, .map 8] 54)] }], exits := [(.exit 0, { slots := [], heap := [(3, .cells [.sint .i64 (.app 57 [.var 1])] 3), (4, .smap false [.int .i64] false [.bool] (.app 50 [.var 1])), (5, .smap false [.int .i64] false [.int .i64] (.app 51 [.var 1])), (6, .smap false [.int .i64] false [.int .i64] (.app 52 [.var 1])), (7, .smap true [.int .i64, .int .i64] false [.int .i64] (.app 53 [.var 1])), (8, .smap true [.int .i64, .int .i64] false [.int .i64] (.app 54 [.var 1])), (9, .cells [.map 4, .sint .i64 (.app 55 [.var 1]), .sint .i64 (.app 56 [.var 1]), .map 5, .map 6, .map 7, .map 8] 54)], guard := .op2 .eq (.app 6 [.var 1]) (.num 0) }), (.panic (.iface 24 (.sint .i64 (.app 6 [.var 1]))), { slots := [], heap := [(3, .cells [.sint .i64 (.app 5 [.var 1])] 3), (4, .smap false [.int .i64] false [.bool] (.app 50 [.var 1])), (5, .smap false [.int .i64] false [.int .i64] (.app 51 [.var 1])), (6, .smap false [.int .i64] false [.int .i64] (.app 52 [.var 1])), (7, .smap true [.int .i64, .int .i64] false [.int .i64] (.app 53 [.var 1])), (8, .smap true [.int .i64, .int .i64] false [.int .i64] (.app 54 [.var 1])), (9, .cells [.map 4, .sint .i64 (.app 55 [.var 1]), .sint .i64 (.app 56 [.var 1]), .map 5, .map 6, .map 7, .map 8] 54)], guard := .op1 .not (.op2 .eq (.app 6 [.var 1]) (.num 0)) })], own := [3, 4, 5, 6, 7, 8, 9], pre := [(.app 20 [.var 1], true)] }
noncomputable def lLed_run : Env → AF → ASt → Option (List Out) := bodyRun L3 9 (fun _ => noLoop) (loopAt Tryz.prog 51 0)
def lLed0_F : List (X × Bool) := [(.op2 .lt (.var 100) (.num 0), false)]
def yPD_0 : X := .op2 .eq (.ite (.app 63 [(.cell 0 (.var 1) (.var 100)), (.cell 1 (.var 1) (.var 100)), (.cell 2 (.var 1) (.var 100)), (.cell 3 (.var 1) (.var 100)), (.cell 4 (.var 1) (.var 100)), (.cell 5 (.var 1) (.var 100)), (.cell 6 (.var 1) (.var 100)), (.cell 7 (.var 1) (.var 100))]) (.num 0) (.num 1)) (.num 0)
def yPD_1 : X := .op1 (.kind .i64) (.cell 4 (.var 1) (.var 100))
def yPD_2 : X := .snoc .nil [(.op1 (.kind .i64) (.cell 3 (.var 1) (.var 100))), yPD_1]
def yPD_3 : X := .op1 (.kind .i64) (.cell 0 (.var 1) (.var 100))
def yPD_4 : X := .cell 2 (.var 1) (.var 100)
def yPD_5 : X := .op2 .lt (.num 0) (.op2 (.mat 1) (.var 102) (.snoc .nil [yPD_1]))
def yPD_6 : X := .op2 .lt (.cell 1 (.var 1) (.var 100)) (.var 107)
def yPD_7 : X := .cell 5 (.var 1) (.var 100)
def yPD_8 : X := .op2 .lt (.op1 .len (.var 101)) (.num 400)
def yPD_9 : X := .ite (.op2 .lt (.var 106) (.cell 0 (.var 1) (.var 100))) yPD_3 (.op1 (.kind .i64) (.var 106))
def yPD_10 : X := .op2 .mhas (.var 101) (.snoc .nil [yPD_3])
def yPD_11 : X := .op2 .lt (.var 100) (.op1 .len (.var 1))
def yPD_12 : X := .op2 .mhas (.var 102) (.snoc .nil [yPD_1])
def yPD_13 : X := .op2 .lt (.var 100) (.num 0)
def yPD_14 : X := .op2 (.mput 1) (.var 101) (.snoc .nil [yPD_3, (.boo true)])
def yPD_15 : X := .op2 .mhas (.var 103) (.snoc .nil [yPD_1])
def yPD_16 : X := .op1 .not (.op2 .eq (.app 6 [(.var 1)]) (.num 0))
def yPD_17 : X := .op1 (.kind .i64) (.cell 3 (.var 1) (.var 100))
def yPD_18 : X := .op2 (.mat 1) (.var 101) (.snoc .nil [yPD_3])
def yPD_19 : X := .op1 (.wrap .i64) (.op2 .add (.var 100) (.num 1))
def yPD_20 : X := .op2 .eq yPD_4 (.num 0)
def yPD_21 : X := .op2 .eq yPD_4 (.num 1)
def yPD_22 : X := .op2 (.mput 1) (.var 103) (.snoc .nil [yPD_1, (.op1 (.kind .i64) (.op1 (.wrap .i64) (.op2 .add (.op2 (.mat 1) (.var 103) (.snoc .nil [yPD_1])) yPD_7)))])
def yPD_23 : X := .op2 .lt (.op2 (.mat 2) (.var 105) yPD_2) (.cell 7 (.var 1) (.var 100))
def yPD_24 : X := .op2 (.mput 2) (.var 104) (.snoc .nil [yPD_17, yPD_1, (.op1 (.kind .i64) (.op1 (.wrap .i64) (.op2 .sub (.op2 (.mat 2) (.var 104) yPD_2) yPD_7)))])
def yPD_25 : X := .op2 .eq yPD_4 (.num 2)
def yPD_26 : X := .op2 .mhas (.var 104) yPD_2
def yPD_27 : X := .op2 (.mput 2) (.var 104) (.snoc .nil [yPD_17, yPD_1, (.op1 (.kind .i64) (.op1 (.wrap .i64) (.op2 .sub (.num 0) yPD_7)))])
def yPD_28 : X := .op2 (.mput 1) (.var 103) (.snoc .nil [yPD_1, (.op1 (.kind .i64) (.op1 (.wrap .i64) (.op2 .add (.num 0) yPD_7)))])
def yPD_29 : X := .op2 (.mput 2) (.var 105) (.snoc .nil [yPD_17, yPD_1, (.op1 (.kind .i64) (.cell 7 (.var 1) (.var 100)))])
def yPD_30 : X := .op2 .eq yPD_4 (.num 3)
def yPD_31 : X := .op2 .lt (.op2 (.mat 2) (.var 104) yPD_2) yPD_7
def yPD_32 : X := .op2 .lt (.num 0) (.cell 7 (.var 1) (.var 100))
def yPD_33 : X := .op2 .mhas (.var 105) yPD_2
def yPD_34 : X := .cell 1 (.var 1) (.var 100)
def yPD_35 : X := .app 50 [(.var 1)]
def yPD_36 : X := .app 51 [(.var 1)]
def yPD_37 : X := .app 52 [(.var 1)]
def yPD_38 : X := .app 53 [(.var 1)]
def yPD_39 : X := .app 54 [(.var 1)]
def yPD_40 : X := .app 55 [(.var 1)]
def yPD_41 : X := .app 56 [(.var 1)]
def yPD_42 : X := .app 6 [(.var 1)]
def yPD_43 : X := .op2 (.mat 1) (.var 103) (.snoc .nil [yPD_1])
def yPD_44 : X := .op2 .lt (.num 0) yPD_7
def yPD_45 : X := .op2 (.mput 2) (.var 104) (.snoc .nil [yPD_17, yPD_1, (.op1 (.kind .i64) (.op1 (.wrap .i64) (.op2 .add (.op2 (.mat 2) (.var 104) yPD_2) yPD_7)))])
def yPD_46 : X := .app 5 [(.var 1)]
def yPD_47 : X := .op2 (.mput 2) (.var 104) (.snoc .nil [yPD_17, yPD_1, (.op1 (.kind .i64) (.op1 (.wrap .i64) (.op2 .add (.num 0) yPD_7)))])
def yPD_48 : X := .op2 (.mput 1) (.var 103) (.snoc .nil [yPD_1, (.op1 (.kind .i64) (.op1 (.wrap .i64) (.op2 .sub (.num 0) yPD_7)))])
def yPD_49 : X := .op2 (.mput 1) (.var 103) (.snoc .nil [yPD_1, (.op1 (.kind .i64) (.op1 (.wrap .i64) (.op2 .sub yPD_43 yPD_7)))])
def yPD_50 : X := .snoc .nil [yPD_1, (.op1 (.kind .i64) yPD_7)]
noncomputable def lLed0_t : FTree := (.fork yPD_11 (.fork yPD_8 (.fork yPD_0 (.fork yPD_10 (.fork yPD_18 (.leaf [.leave 1 []]) (.fork yPD_6 (.leaf [.leave 1 []]) (.fork yPD_20 .bad (.fork yPD_21 (.fork yPD_12 (.fork yPD_5 (.leaf [.leave 1 []]) (.leaf [.again 0 []])) (.leaf [.again 0 []])) (.fork yPD_25 (.fork yPD_12 (.fork yPD_5 (.fork yPD_15 (.fork (.op2 .lt yPD_43 yPD_7) (.leaf [.leave 1 []]) (.fork yPD_26 (.leaf [.again 0 []]) (.leaf [.again 0 []]))) (.fork yPD_44 (.leaf [.leave 1 []]) (.fork yPD_26 (.leaf [.again 0 []]) (.leaf [.again 0 []])))) (.leaf [.leave 1 []])) (.leaf [.leave 1 []])) (.fork yPD_30 (.fork yPD_12 (.fork yPD_5 (.fork yPD_26 (.fork yPD_31 (.leaf [.leave 1 []]) (.fork yPD_33 (.fork yPD_23 (.fork yPD_15 (.leaf [.again 0 []]) (.leaf [.again 0 []])) (.leaf [.leave 1 []])) (.fork yPD_32 (.fork yPD_15 (.leaf [.again 0 []]) (.leaf [.again 0 []])) (.leaf [.leave 1 []])))) (.fork yPD_44 (.leaf [.leave 1 []]) (.fork yPD_33 (.fork yPD_23 (.fork yPD_15 (.leaf [.again 0 []]) (.leaf [.again 0 []])) (.leaf [.leave 1 []])) (.fork yPD_32 (.fork yPD_15 (.leaf [.again 0 []]) (.leaf [.again 0 []])) (.leaf [.leave 1 []]))))) (.leaf [.leave 1 []])) (.leaf [.leave 1 []])) .bad)))))) (.fork yPD_6 (.leaf [.leave 1 []]) (.fork yPD_20 .bad (.fork yPD_21 (.fork yPD_12 (.fork yPD_5 (.leaf [.leave 1 []]) (.leaf [.again 0 []])) (.leaf [.again 0 []])) (.fork yPD_25 (.fork yPD_12 (.fork yPD_5 (.fork yPD_15 (.fork (.op2 .lt yPD_43 yPD_7) (.leaf [.leave 1 []]) (.fork yPD_26 (.leaf [.again 0 []]) (.leaf [.again 0 []]))) (.fork yPD_44 (.leaf [.leave 1 []]) (.fork yPD_26 (.leaf [.again 0 []]) (.leaf [.again 0 []])))) (.leaf [.leave 1 []])) (.leaf [.leave 1 []])) (.fork yPD_30 (.fork yPD_12 (.fork yPD_5 (.fork yPD_26 (.fork yPD_31 (.leaf [.leave 1 []]) (.fork yPD_33 (.fork yPD_23 (.fork yPD_15 (.leaf [.again 0 []]) (.leaf [.again 0 []])) (.leaf [.leave 1 []])) (.fork yPD_32 (.fork yPD_15 (.leaf [.again 0 []]) (.leaf [.again 0 []])) (.leaf [.leave 1 []])))) (.fork yPD_44 (.leaf [.leave 1 []]) (.fork yPD_33 (.fork yPD_23 (.fork yPD_15 (.leaf [.again 0 []]) (.leaf [.again 0 []])) (.leaf [.leave 1 []])) (.fork yPD_32 (.fork yPD_15 (.leaf [.again 0 []]) (.leaf [.again 0 []])) (.leaf [.leave 1 []]))))) (.leaf [.leave 1 []])) (.leaf [.leave 1 []])) .bad)))))) (.leaf [.leave 1 []])) (.leaf [.leave 1 []])) (.leaf [.leave 0 []]))
noncomputable def lLed0_l : List (List (X × Bool) × Option (List (Tgt × Pairs))) := [([(yPD_18, true), (yPD_10, true), (yPD_0, true), (yPD_8, true), (yPD_11, true), (yPD_13, false)], some [(.leave 1 [], [(yPD_46, .var 100), (yPD_35, .var 101), (yPD_36, .var 102), (yPD_37, .var 103), (yPD_38, .var 104), (yPD_39, .var 105), (yPD_40, .var 106), (yPD_41, .var 107), (yPD_16, .boo true), (yPD_42, .num 6)])]),
  ([(yPD_6, true), (yPD_18, false), (yPD_10, true), (yPD_0, true), (yPD_8, true), (yPD_11, true), (yPD_13, false)], some [(.leave 1 [], [(yPD_46, .var 100), (yPD_35, .var 101), (yPD_36, .var 102), (yPD_37, .var 103), (yPD_38, .var 104), (yPD_39, .var 105), (yPD_40, .var 106), (yPD_41, .var 107), (yPD_16, .boo true), (yPD_42, .num 7)])]),
  ([(yPD_20, true), (yPD_6, false), (yPD_18, false), (yPD_10, true), (yPD_0, true), (yPD_8, true), (yPD_11, true), (yPD_13, false)], none),
  ([(yPD_5, true), (yPD_12, true), (yPD_21, true), (yPD_20, false), (yPD_6, false), (yPD_18, false), (yPD_10, true), (yPD_0, true), (yPD_8, true), (yPD_11, true), (yPD_13, false)], some [(.leave 1 [], [(yPD_46, .var 100), (yPD_35, .var 101), (yPD_36, .var 102), (yPD_37, .var 103), (yPD_38, .var 104), (yPD_39, .var 105), (yPD_40, .var 106), (yPD_41, .var 107), (yPD_16, .boo true), (yPD_42, .num 6)])]),
  ([(yPD_5, false), (yPD_12, true), (yPD_21, true), (yPD_20, false), (yPD_6, false), (yPD_18, false), (yPD_10, true), (yPD_0, true), (yPD_8, true), (yPD_11, true), (yPD_13, false)], some [(.again 0 [], [(.var 100, yPD_19), (.var 108, .var 100), (.var 101, yPD_14), (.var 102, .op2 (.mput 1) (.var 102) yPD_50), (.var 103, .op2 (.mput 1) (.var 103) yPD_50), (.var 104, .var 104), (.var 105, .var 105), (.var 106, yPD_9), (.var 107, yPD_34)])]),
  ([(yPD_12, false), (yPD_21, true), (yPD_20, false), (yPD_6, false), (yPD_18, false), (yPD_10, true), (yPD_0, true), (yPD_8, true), (yPD_11, true), (yPD_13, false)], some [(.again 0 [], [(.var 100, yPD_19), (.var 108, .var 100), (.var 101, yPD_14), (.var 102, .op2 (.mput 1) (.var 102) yPD_50), (.var 103, .op2 (.mput 1) (.var 103) yPD_50), (.var 104, .var 104), (.var 105, .var 105), (.var 106, yPD_9), (.var 107, yPD_34)])]),
  ([(.op2 .lt yPD_43 yPD_7, true), (yPD_15, true), (yPD_5, true), (yPD_12, true), (yPD_25, true), (yPD_21, false), (yPD_20, false), (yPD_6, false), (yPD_18, false), (yPD_10, true), (yPD_0, true), (yPD_8, true), (yPD_11, true), (yPD_13, false)], some [(.leave 1 [], [(yPD_46, .var 100), (yPD_35, .var 101), (yPD_36, .var 102), (yPD_37, .var 103), (yPD_38, .var 104), (yPD_39, .var 105), (yPD_40, .var 106), (yPD_41, .var 107), (yPD_16, .boo true), (yPD_42, .num 70)])]),
  ([(yPD_26, true), (.op2 .lt yPD_43 yPD_7, false), (yPD_15, true), (yPD_5, true), (yPD_12, true), (yPD_25, true), (yPD_21, false), (yPD_20, false), (yPD_6, false), (yPD_18, false), (yPD_10, true), (yPD_0, true), (yPD_8, true), (yPD_11, true), (yPD_13, false)], some [(.again 0 [], [(.var 100, yPD_19), (.var 108, .var 100), (.var 101, yPD_14), (.var 102, .var 102), (.var 103, yPD_49), (.var 104, yPD_45), (.var 105, yPD_29), (.var 106, yPD_9), (.var 107, yPD_34)])]),
  ([(yPD_26, false), (.op2 .lt yPD_43 yPD_7, false), (yPD_15, true), (yPD_5, true), (yPD_12, true), (yPD_25, true), (yPD_21, false), (yPD_20, false), (yPD_6, false), (yPD_18, false), (yPD_10, true), (yPD_0, true), (yPD_8, true), (yPD_11, true), (yPD_13, false)], some [(.again 0 [], [(.var 100, yPD_19), (.var 108, .var 100), (.var 101, yPD_14), (.var 102, .var 102), (.var 103, yPD_49), (.var 104, yPD_47), (.var 105, yPD_29), (.var 106, yPD_9), (.var 107, yPD_34)])]),
  ([(yPD_44, true), (yPD_15, false), (yPD_5, true), (yPD_12, true), (yPD_25, true), (yPD_21, false), (yPD_20, false), (yPD_6, false), (yPD_18, false), (yPD_10, true), (yPD_0, true), (yPD_8, true), (yPD_11, true), (yPD_13, false)], some [(.leave 1 [], [(yPD_46, .var 100), (yPD_35, .var 101), (yPD_36, .var 102), (yPD_37, .var 103), (yPD_38, .var 104), (yPD_39, .var 105), (yPD_40, .var 106), (yPD_41, .var 107), (yPD_16, .boo true), (yPD_42, .num 70)])]),
  ([(yPD_26, true), (yPD_44, false), (yPD_15, false), (yPD_5, true), (yPD_12, true), (yPD_25, true), (yPD_21, false), (yPD_20, false), (yPD_6, false), (yPD_18, false), (yPD_10, true), (yPD_0, true), (yPD_8, true), (yPD_11, true), (yPD_13, false)], some [(.again 0 [], [(.var 100, yPD_19), (.var 108, .var 100), (.var 101, yPD_14), (.var 102, .var 102), (.var 103, yPD_48), (.var 104, yPD_45), (.var 105, yPD_29), (.var 106, yPD_9), (.var 107, yPD_34)])]),
  ([(yPD_26, false), (yPD_44, false), (yPD_15, false), (yPD_5, true), (yPD_12, true), (yPD_25, true), (yPD_21, false), (yPD_20, false), (yPD_6, false), (yPD_18, false), (yPD_10, true), (yPD_0, true), (yPD_8, true), (yPD_11, true), (yPD_13, false)], some [(.again 0 [], [(.var 100, yPD_19), (.var 108, .var 100), (.var 101, yPD_14), (.var 102, .var 102), (.var 103, yPD_48), (.var 104, yPD_47), (.var 105, yPD_29), (.var 106, yPD_9), (.var 107, yPD_34)])]),
  ([(yPD_5, false), (yPD_12, true), (yPD_25, true), (yPD_21, false), (yPD_20, false), (yPD_6, false), (yPD_18, false), (yPD_10, true), (yPD_0, true), (yPD_8, true), (yPD_11, true), (yPD_13, false)], some [(.leave 1 [], [(yPD_46, .var 100), (yPD_35, .var 101), (yPD_36, .var 102), (yPD_37, .var 103), (yPD_38, .var 104), (yPD_39, .var 105), (yPD_40, .var 106), (yPD_41, .var 107), (yPD_16, .boo true), (yPD_42, .num 5)])]),
  ([(yPD_12, false), (yPD_25, true), (yPD_21, false), (yPD_20, false), (yPD_6, false), (yPD_18, false), (yPD_10, true), (yPD_0, true), (yPD_8, true), (yPD_11, true), (yPD_13, false)], some [(.leave 1 [], [(yPD_46, .var 100), (yPD_35, .var 101), (yPD_36, .var 102), (yPD_37, .var 103), (yPD_38, .var 104), (yPD_39, .var 105), (yPD_40, .var 106), (yPD_41, .var 107), (yPD_16, .boo true), (yPD_42, .num 5)])]),
  ([(yPD_31, true), (yPD_26, true), (yPD_5, true), (yPD_12, true), (yPD_30, true), (yPD_25, false), (yPD_21, false), (yPD_20, false), (yPD_6, false), (yPD_18, false), (yPD_10, true), (yPD_0, true), (yPD_8, true), (yPD_11, true), (yPD_13, false)], some [(.leave 1 [], [(yPD_46, .var 100), (yPD_35, .var 101), (yPD_36, .var 102), (yPD_37, .var 103), (yPD_38, .var 104), (yPD_39, .var 105), (yPD_40, .var 106), (yPD_41, .var 107), (yPD_16, .boo true), (yPD_42, .num 70)])]),
  ([(yPD_15, true), (yPD_23, true), (yPD_33, true), (yPD_31, false), (yPD_26, true), (yPD_5, true), (yPD_12, true), (yPD_30, true), (yPD_25, false), (yPD_21, false), (yPD_20, false), (yPD_6, false), (yPD_18, false), (yPD_10, true), (yPD_0, true), (yPD_8, true), (yPD_11, true), (yPD_13, false)], some [(.again 0 [], [(.var 100, yPD_19), (.var 108, .var 100), (.var 101, yPD_14), (.var 102, .var 102), (.var 103, yPD_22), (.var 104, yPD_24), (.var 105, .var 105), (.var 106, yPD_9), (.var 107, yPD_34)])]),
  ([(yPD_15, false), (yPD_23, true), (yPD_33, true), (yPD_31, false), (yPD_26, true), (yPD_5, true), (yPD_12, true), (yPD_30, true), (yPD_25, false), (yPD_21, false), (yPD_20, false), (yPD_6, false), (yPD_18, false), (yPD_10, true), (yPD_0, true), (yPD_8, true), (yPD_11, true), (yPD_13, false)], some [(.again 0 [], [(.var 100, yPD_19), (.var 108, .var 100), (.var 101, yPD_14), (.var 102, .var 102), (.var 103, yPD_28), (.var 104, yPD_24), (.var 105, .var 105), (.var 106, yPD_9), (.var 107, yPD_34)])]),
  ([(yPD_23, false), (yPD_33, true), (yPD_31, false), (yPD_26, true), (yPD_5, true), (yPD_12, true), (yPD_30, true), (yPD_25, false), (yPD_21, false), (yPD_20, false), (yPD_6, false), (yPD_18, false), (yPD_10, true), (yPD_0, true), (yPD_8, true), (yPD_11, true), (yPD_13, false)], some [(.leave 1 [], [(yPD_46, .var 100), (yPD_35, .var 101), (yPD_36, .var 102), (yPD_37, .var 103), (yPD_38, .var 104), (yPD_39, .var 105), (yPD_40, .var 106), (yPD_41, .var 107), (yPD_16, .boo true), (yPD_42, .num 71)])]),
  ([(yPD_15, true), (yPD_32, true), (yPD_33, false), (yPD_31, false), (yPD_26, true), (yPD_5, true), (yPD_12, true), (yPD_30, true), (yPD_25, false), (yPD_21, false), (yPD_20, false), (yPD_6, false), (yPD_18, false), (yPD_10, true), (yPD_0, true), (yPD_8, true), (yPD_11, true), (yPD_13, false)], some [(.again 0 [], [(.var 100, yPD_19), (.var 108, .var 100), (.var 101, yPD_14), (.var 102, .var 102), (.var 103, yPD_22), (.var 104, yPD_24), (.var 105, .var 105), (.var 106, yPD_9), (.var 107, yPD_34)])]),
  ([(yPD_15, false), (yPD_32, true), (yPD_33, false), (yPD_31, false), (yPD_26, true), (yPD_5, true), (yPD_12, true), (yPD_30, true), (yPD_25, false), (yPD_21, false), (yPD_20, false), (yPD_6, false), (yPD_18, false), (yPD_10, true), (yPD_0, true), (yPD_8, true), (yPD_11, true), (yPD_13, false)], some [(.again 0 [], [(.var 100, yPD_19), (.var 108, .var 100), (.var 101, yPD_14), (.var 102, .var 102), (.var 103, yPD_28), (.var 104, yPD_24), (.var 105, .var 105), (.var 106, yPD_9), (.var 107, yPD_34)])]),
  ([(yPD_32, false), (yPD_33, false), (yPD_31, false), (yPD_26, true), (yPD_5, true), (yPD_12, true), (yPD_30, true), (yPD_25, false), (yPD_21, false), (yPD_20, false), (yPD_6, false), (yPD_18, false), (yPD_10, true), (yPD_0, true), (yPD_8, true), (yPD_11, true), (yPD_13, false)], some [(.leave 1 [], [(yPD_46, .var 100), (yPD_35, .var 101), (yPD_36, .var 102), (yPD_37, .var 103), (yPD_38, .var 104), (yPD_39, .var 105), (yPD_40, .var 106), (yPD_41, .var 107), (yPD_16, .boo true), (yPD_42, .num 71)])]),
  ([(yPD_44, true), (yPD_26, false), (yPD_5, true), (yPD_12, true), (yPD_30, true), (yPD_25, false), (yPD_21, false), (yPD_20, false), (yPD_6, false), (yPD_18, false), (yPD_10, true), (yPD_0, true), (yPD_8, true), (yPD_11, true), (yPD_13, false)], some [(.leave 1 [], [(yPD_46, .var 100), (yPD_35, .var 101), (yPD_36, .var 102), (yPD_37, .var 103), (yPD_38, .var 104), (yPD_39, .var 105), (yPD_40, .var 106), (yPD_41, .var 107), (yPD_16, .boo true), (yPD_42, .num 70)])]),
  ([(yPD_15, true), (yPD_23, true), (yPD_33, true), (yPD_44, false), (yPD_26, false), (yPD_5, true), (yPD_12, true), (yPD_30, true), (yPD_25, false), (yPD_21, false), (yPD_20, false), (yPD_6, false), (yPD_18, false), (yPD_10, true), (yPD_0, true), (yPD_8, true), (yPD_11, true), (yPD_13, false)], some [(.again 0 [], [(.var 100, yPD_19), (.var 108, .var 100), (.var 101, yPD_14), (.var 102, .var 102), (.var 103, yPD_22), (.var 104, yPD_27), (.var 105, .var 105), (.var 106, yPD_9), (.var 107, yPD_34)])]),
  ([(yPD_15, false), (yPD_23, true), (yPD_33, true), (yPD_44, false), (yPD_26, false), (yPD_5, true), (yPD_12, true), (yPD_30, true), (yPD_25, false), (yPD_21, false), (yPD_20, false), (yPD_6, false), (yPD_18, false), (yPD_10, true), (yPD_0, true), (yPD_8, true), (yPD_11, true), (yPD_13, false)], some [(.again 0 [], [(.var 100, yPD_19), (.var 108, .var 100), (.var 101, yPD_14), (.var 102, .var 102), (.var 103, yPD_28), (.var 104, yPD_27), (.var 105, .var 105), (.var 106, yPD_9), (.var 107, yPD_34)])]),
  ([(yPD_23, false), (yPD_33, true), (yPD_44, false), (yPD_26, false), (yPD_5, true), (yPD_12, true), (yPD_30, true), (yPD_25, false), (yPD_21, false), (yPD_20, false), (yPD_6, false), (yPD_18, false), (yPD_10, true), (yPD_0, true), (yPD_8, true), (yPD_11, true), (yPD_13, false)], some [(.leave 1 [], [(yPD_46, .var 100), (yPD_35, .var 101), (yPD_36, .var 102), (yPD_37, .var 103), (yPD_38, .var 104), (yPD_39, .var 105), (yPD_40, .var 106), (yPD_41, .var 107), (yPD_16, .boo true), (yPD_42, .num 71)])]),
  ([(yPD_15, true), (yPD_32, true), (yPD_33, false), (yPD_44, false), (yPD_26, false), (yPD_5, true), (yPD_12, true), (yPD_30, true), (yPD_25, false), (yPD_21, false), (yPD_20, false), (yPD_6, false), (yPD_18, false), (yPD_10, true), (yPD_0, true), (yPD_8, true), (yPD_11, true), (yPD_13, false)], some [(.again 0 [], [(.var 100, yPD_19), (.var 108, .var 100), (.var 101, yPD_14), (.var 102, .var 102), (.var 103, yPD_22), (.var 104, yPD_27), (.var 105, .var 105), (.var 106, yPD_9), (.var 107, yPD_34)])]),
  ([(yPD_15, false), (yPD_32, true), (yPD_33, false), (yPD_44, false), (yPD_26, false), (yPD_5, true), (yPD_12, true), (yPD_30, true), (yPD_25, false), (yPD_21, false), (yPD_20, false), (yPD_6, false), (yPD_18, false), (yPD_10, true), (yPD_0, true), (yPD_8, true), (yPD_11, true), (yPD_13, false)], some [(.again 0 [], [(.var 100, yPD_19), (.var 108, .var 100), (.var 101, yPD_14), (.var 102, .var 102), (.var 103, yPD_28), (.var 104, yPD_27), (.var 105, .var 105), (.var 106, yPD_9), (.var 107, yPD_34)])]),
  ([(yPD_32, false), (yPD_33, false), (yPD_44, false), (yPD_26, false), (yPD_5, true), (yPD_12, true), (yPD_30, true), (yPD_25, false), (yPD_21, false), (yPD_20, false), (yPD_6, false), (yPD_18, false), (yPD_10, true), (yPD_0, true), (yPD_8, true), (yPD_11, true), (yPD_13, false)], some [(.leave 1 [], [(yPD_46, .var 100), (yPD_35, .var 101), (yPD_36, .var 102), (yPD_37, .var 103), (yPD_38, .var 104), (yPD_39, .var 105), (yPD_40, .var 106), (yPD_41, .var 107), (yPD_16, .boo true), (yPD_42, .num 71)])]),
  ([(yPD_5, false), (yPD_12, true), (yPD_30, true), (yPD_25, false), (yPD_21, false), (yPD_20, false), (yPD_6, false), (yPD_18, false), (yPD_10, true), (yPD_0, true), (yPD_8, true), (yPD_11, true), (yPD_13, false)], some [(.leave 1 [], [(yPD_46, .var 100), (yPD_35, .var 101), (yPD_36, .var 102), (yPD_37, .var 103), (yPD_38, .var 104), (yPD_39, .var 105), (yPD_40, .var 106), (yPD_41, .var 107), (yPD_16, .boo true), (yPD_42, .num 5)])]),
  ([(yPD_12, false), (yPD_30, true), (yPD_25, false), (yPD_21, false), (yPD_20, false), (yPD_6, false), (yPD_18, false), (yPD_10, true), (yPD_0, true), (yPD_8, true), (yPD_11, true), (yPD_13, false)], some [(.leave 1 [], [(yPD_46, .var 100), (yPD_35, .var 101), (yPD_36, .var 102), (yPD_37, .var 103), (yPD_38, .var 104), (yPD_39, .var 105), (yPD_40, .var 106), (yPD_41, .var 107), (yPD_16, .boo true), (yPD_42, .num 5)])]),
  ([(yPD_30, false), (yPD_25, false), (yPD_21, false), (yPD_20, false), (yPD_6, false), (yPD_18, false), (yPD_10, true), (yPD_0, true), (yPD_8, true), (yPD_11, true), (yPD_13, false)], none),
  ([(yPD_6, true), (yPD_10, false), (yPD_0, true), (yPD_8, true), (yPD_11, true), (yPD_13, false)], some [(.leave 1 [], [(yPD_46, .var 100), (yPD_35, .var 101), (yPD_36, .var 102), (yPD_37, .var 103), (yPD_38, .var 104), (yPD_39, .var 105), (yPD_40, .var 106), (yPD_41, .var 107), (yPD_16, .boo true), (yPD_42, .num 7)])]),
  ([(yPD_20, true), (yPD_6, false), (yPD_10, false), (yPD_0, true), (yPD_8, true), (yPD_11, true), (yPD_13, false)], none),
  ([(yPD_5, true), (yPD_12, true), (yPD_21, true), (yPD_20, false), (yPD_6, false), (yPD_10, false), (yPD_0, true), (yPD_8, true), (yPD_11, true), (yPD_13, false)], some [(.leave 1 [], [(yPD_46, .var 100), (yPD_35, .var 101), (yPD_36, .var 102), (yPD_37, .var 103), (yPD_38, .var 104), (yPD_39, .var 105), (yPD_40, .var 106), (yPD_41, .var 107), (yPD_16, .boo true), (yPD_42, .num 6)])]),
  ([(yPD_5, false), (yPD_12, true), (yPD_21, true), (yPD_20, false), (yPD_6, false), (yPD_10, false), (yPD_0, true), (yPD_8, true), (yPD_11, true), (yPD_13, false)], some [(.again 0 [], [(.var 100, yPD_19), (.var 108, .var 100), (.var 101, yPD_14), (.var 102, .op2 (.mput 1) (.var 102) yPD_50), (.var 103, .op2 (.mput 1) (.var 103) yPD_50), (.var 104, .var 104), (.var 105, .var 105), (.var 106, yPD_9), (.var 107, yPD_34)])]),
  ([(yPD_12, false), (yPD_21, true), (yPD_20, false), (yPD_6, false), (yPD_10, false), (yPD_0, true), (yPD_8, true), (yPD_11, true), (yPD_13, false)], some [(.again 0 [], [(.var 100, yPD_19), (.var 108, .var 100), (.var 101, yPD_14), (.var 102, .op2 (.mput 1) (.var 102) yPD_50), (.var 103, .op2 (.mput 1) (.var 103) yPD_50), (.var 104, .var 104), (.var 105, .var 105), (.var 106, yPD_9), (.var 107, yPD_34)])]),
  ([(.op2 .lt yPD_43 yPD_7, true), (yPD_15, true), (yPD_5, true), (yPD_12, true), (yPD_25, true), (yPD_21, false), (yPD_20, false), (yPD_6, false), (yPD_10, false), (yPD_0, true), (yPD_8, true), (yPD_11, true), (yPD_13, false)], some [(.leave 1 [], [(yPD_46, .var 100), (yPD_35, .var 101), (yPD_36, .var 102), (yPD_37, .var 103), (yPD_38, .var 104), (yPD_39, .var 105), (yPD_40, .var 106), (yPD_41, .var 107), (yPD_16, .boo true), (yPD_42, .num 70)])]),
  ([(yPD_26, true), (.op2 .lt yPD_43 yPD_7, false), (yPD_15, true), (yPD_5, true), (yPD_12, true), (yPD_25, true), (yPD_21, false), (yPD_20, false), (yPD_6, false), (yPD_10, false), (yPD_0, true), (yPD_8, true), (yPD_11, true), (yPD_13, false)], some [(.again 0 [], [(.var 100, yPD_19), (.var 108, .var 100), (.var 101, yPD_14), (.var 102, .var 102), (.var 103, yPD_49), (.var 104, yPD_45), (.var 105, yPD_29), (.var 106, yPD_9), (.var 107, yPD_34)])]),
  ([(yPD_26, false), (.op2 .lt yPD_43 yPD_7, false), (yPD_15, true), (yPD_5, true), (yPD_12, true), (yPD_25, true), (yPD_21, false), (yPD_20, false), (yPD_6, false), (yPD_10, false), (yPD_0, true), (yPD_8, true), (yPD_11, true), (yPD_13, false)], some [(.again 0 [], [(.var 100, yPD_19), (.var 108, .var 100), (.var 101, yPD_14), (.var 102, .var 102), (.var 103, yPD_49), (.var 104, yPD_47), (.var 105, yPD_29), (.var 106, yPD_9), (.var 107, yPD_34)])]),
  ([(yPD_44, true), (yPD_15, false), (yPD_5, true), (yPD_12, true), (yPD_25, true), (yPD_21, false), (yPD_20, false), (yPD_6, false), (yPD_10, false), (yPD_0, true), (yPD_8, true), (yPD_11, true), (yPD_13, false)], some [(.leave 1 [], [(yPD_46, .var 100), (yPD_35, .var 101), (yPD_36, .var 102), (yPD_37, .var 103), (yPD_38, .var 104), (yPD_39, .var 105), (yPD_40, .var 106), (yPD_41, .var 107), (yPD_16, .boo true), (yPD_42, .num 70)])]),
  ([(yPD_26, true), (yPD_44, false), (yPD_15, false), (yPD_5, true), (yPD_12, true), (yPD_25, true), (yPD_21, false), (yPD_20, false), (yPD_6, false), (yPD_10, false), (yPD_0, true), (yPD_8, true), (yPD_11, true), (yPD_13, false)], some [(.again 0 [], [(.var 100, yPD_19), (.var 108, .var 100), (.var 101, yPD_14), (.var 102, .var 102), (.var 103, yPD_48), (.var 104, yPD_45), (.var 105, yPD_29), (.var 106, yPD_9), (.var 107, yPD_34)])]),
  ([(yPD_26, false), (yPD_44, false), (yPD_15, false), (yPD_5, true), (yPD_12, true), (yPD_25, true), (yPD_21, false), (yPD_20, false), (yPD_6, false), (yPD_10, false), (yPD_0, true), (yPD_8, true), (yPD_11, true), (yPD_13, false)], some [(.again 0 [], [(.var 100, yPD_19), (.var 108, .var 100), (.var 101, yPD_14), (.var 102, .var 102), (.var 103, yPD_48), (.var 104, yPD_47), (.var 105, yPD_29), (.var 106, yPD_9), (.var 107, yPD_34)])]),
  ([(yPD_5, false), (yPD_12, true), (yPD_25, true), (yPD_21, false), (yPD_20, false), (yPD_6, false), (yPD_10, false), (yPD_0, true), (yPD_8, true), (yPD_11, true), (yPD_13, false)], some [(.leave 1 [], [(yPD_46, .var 100), (yPD_35, .var 101), (yPD_36, .var 102), (yPD_37, .var 103), (yPD_38, .var 104), (yPD_39, .var 105), (yPD_40, .var 106), (yPD_41, .var 107), (yPD_16, .boo true), (yPD_42, .num 5)])]),
  ([(yPD_12, false), (yPD_25, true), (yPD_21, false), (yPD_20, false), (yPD_6, false), (yPD_10, false), (yPD_0, true), (yPD_8, true), (yPD_11, true), (yPD_13, false)], some [(.leave 1 [], [(yPD_46, .var 100), (yPD_35, .var 101), (yPD_36, .var 102), (yPD_37, .var 103), (yPD_38, .var 104), (yPD_39, .var 105), (yPD_40, .var 106), (yPD_41, .var 107), (yPD_16, .boo true), (yPD_42, .num 5)])]),
  ([(yPD_31, true), (yPD_26, true), (yPD_5, true), (yPD_12, true), (yPD_30, true), (yPD_25, false), (yPD_21, false), (yPD_20, false), (yPD_6, false), (yPD_10, false), (yPD_0, true), (yPD_8, true), (yPD_11, true), (yPD_13, false)], some [(.leave 1 [], [(yPD_46, .var 100), (yPD_35, .var 101), (yPD_36, .var 102), (yPD_37, .var 103), (yPD_38, .var 104), (yPD_39, .var 105), (yPD_40, .var 106), (yPD_41, .var 107), (yPD_16, .boo true), (yPD_42, .num 70)])]),
  ([(yPD_15, true), (yPD_23, true), (yPD_33, true), (yPD_31, false), (yPD_26, true), (yPD_5, true), (yPD_12, true), (yPD_30, true), (yPD_25, false), (yPD_21, false), (yPD_20, false), (yPD_6, false), (yPD_10, false), (yPD_0, true), (yPD_8, true), (yPD_11, true), (yPD_13, false)], some [(.again 0 [], [(.var 100, yPD_19), (.var 108, .var 100), (.var 101, yPD_14), (.var 102, .var 102), (.var 103, yPD_22), (.var 104, yPD_24), (.var 105, .var 105), (.var 106, yPD_9), (.var 107, yPD_34)])]),
  ([(yPD_15, false), (yPD_23, true), (yPD_33, true), (yPD_31, false), (yPD_26, true), (yPD_5, true), (yPD_12, true), (yPD_30, true), (yPD_25, false), (yPD_21, false), (yPD_20, false), (yPD_6, false), (yPD_10, false), (yPD_0, true), (yPD_8, true), (yPD_11, true), (yPD_13, false)], some [(.again 0 [], [(.var 100, yPD_19), (.var 108, .var 100), (.var 101, yPD_14), (.var 102, .var 102), (.var 103, yPD_28), (.var 104, yPD_24), (.var 105, .var 105), (.var 106, yPD_9), (.var 107, yPD_34)])]),
  ([(yPD_23, false), (yPD_33, true), (yPD_31, false), (yPD_26, true), (yPD_5, true), (yPD_12, true), (yPD_30, true), (yPD_25, false), (yPD_21, false), (yPD_20, false), (yPD_6, false), (yPD_10, false), (yPD_0, true), (yPD_8, true), (yPD_11, true), (yPD_13, false)], some [(.leave 1 [], [(yPD_46, .var 100), (yPD_35, .var 101), (yPD_36, .var 102), (yPD_37, .var 103), (yPD_38, .var 104), (yPD_39, .var 105), (yPD_40, .var 106), (yPD_41, .var 107), (yPD_16, .boo true), (yPD_42, .num 71)])]),
  ([(yPD_15, true), (yPD_32, true), (yPD_33, false), (yPD_31, false), (yPD_26, true), (yPD_5, true), (yPD_12, true), (yPD_30, true), (yPD_25, false), (yPD_21, false), (yPD_20, false), (yPD_6, false), (yPD_10, false), (yPD_0, true), (yPD_8, true), (yPD_11, true), (yPD_13, false)], some [(.again 0 [], [(.var 100, yPD_19), (.var 108, .var 100), (.var 101, yPD_14), (.var 102, .var 102), (.var 103, yPD_22), (.var 104, yPD_24), (.var 105, .var 105), (.var 106, yPD_9), (.var 107, yPD_34)])]),
  ([(yPD_15, false), (yPD_32, true), (yPD_33, false), (yPD_31, false), (yPD_26, true), (yPD_5, true), (yPD_12, true), (yPD_30, true), (yPD_25, false), (yPD_21, false), (yPD_20, false), (yPD_6, false), (yPD_10, false), (yPD_0, true), (yPD_8, true), (yPD_11, true), (yPD_13, false)], some [(.again 0 [], [(.var 100, yPD_19), (.var 108, .var 100), (.var 101, yPD_14), (.var 102, .var 102), (.var 103, yPD_28), (.var 104, yPD_24), (.var 105, .var 105), (.var 106, yPD_9), (.var 107, yPD_34)])]),
  ([(yPD_32, false), (yPD_33, false), (yPD_31, false), (yPD_26, true), (yPD_5, true), (yPD_12, true), (yPD_30, true), (yPD_25, false), (yPD_21, false), (yPD_20, false), (yPD_6, false), (yPD_10, false), (yPD_0, true), (yPD_8, true), (yPD_11, true), (yPD_13, false)], some [(.leave 1 [], [(yPD_46, .var 100), (yPD_35, .var 101), (yPD_36, .var 102), (yPD_37, .var 103), (yPD_38, .var 104), (yPD_39, .var 105), (yPD_40, .var 106), (yPD_41, .var 107), (yPD_16, .boo true), (yPD_42, .num 71)])]),
  ([(yPD_44, true), (yPD_26, false), (yPD_5, true), (yPD_12, true), (yPD_30, true), (yPD_25, false), (yPD_21, false), (yPD_20, false), (yPD_6, false), (yPD_10, false), (yPD_0, true), (yPD_8, true), (yPD_11, true), (yPD_13, false)], some [(.leave 1 [], [(yPD_46, .var 100), (yPD_35, .var 101), (yPD_36, .var 102), (yPD_37, .var 103), (yPD_38, .var 104), (yPD_39, .var 105), (yPD_40, .var 106), (yPD_41, .var 107), (yPD_16, .boo true), (yPD_42, .num 70)])]),
  ([(yPD_15, true), (yPD_23, true), (yPD_33, true), (yPD_44, false), (yPD_26, false), (yPD_5, true), (yPD_12, true), (yPD_30, true), (yPD_25, false), (yPD_21, false), (yPD_20, false), (yPD_6, false), (yPD_10, false), (yPD_0, true), (yPD_8, true), (yPD_11, true), (yPD_13, false)], some [(.again 0 [], [(.var 100, yPD_19), (.var 108, .var 100), (.var 101, yPD_14), (.var 102, .var 102), (.var 103, yPD_22), (.var 104, yPD_27), (.var 105, .var 105), (.var 106, yPD_9), (.var 107, yPD_34)])]),
  ([(yPD_15, false), (yPD_23, true), (yPD_33, true), (yPD_44, false), (yPD_26, false), (yPD_5, true), (yPD_12, true), (yPD_30, true), (yPD_25, false), (yPD_21, false), (yPD_20, false), (yPD_6, false), (yPD_10, false), (yPD_0, true), (yPD_8, true), (yPD_11, true), (yPD_13, false)], some [(.again 0 [], [(.var 100, yPD_19), (.var 108, .var 100), (.var 101, yPD_14), (.var 102, .var 102), (.var 103, yPD_28), (.var 104, yPD_27), (.var 105, .var 105), (.var 106, yPD_9), (.var 107, yPD_34)])]),
  ([(yPD_23, false), (yPD_33, true), (yPD_44, false), (yPD_26, false), (yPD_5, true), (yPD_12, true), (yPD_30, true), (yPD_25, false), (yPD_21, false), (yPD_20, false), (yPD_6, false), (yPD_10, false), (yPD_0, true), (yPD_8, true), (yPD_11, true), (yPD_13, false)], some [(.leave 1 [], [(yPD_46, .var 100), (yPD_35, .var 101), (yPD_36, .var 102), (yPD_37, .var 103), (yPD_38, .var 104), (yPD_39, .var 105), (yPD_40, .var 106), (yPD_41, .var 107), (yPD_16, .boo true), (yPD_42, .num 71)])]),
  ([(yPD_15, true), (yPD_32, true), (yPD_33, false), (yPD_44, false), (yPD_26, false), (yPD_5, true), (yPD_12, true), (yPD_30, true), (yPD_25, false), (yPD_21, false), (yPD_20, false), (yPD_6, false), (yPD_10, false), (yPD_0, true), (yPD_8, true), (yPD_11, true), (yPD_13, false)], some [(.again 0 [], [(.var 100, yPD_19), (.var 108, .var 100), (.var 101, yPD_14), (.var 102, .var 102), (.var 103, yPD_22), (.var 104, yPD_27), (.var 105, .var 105), (.var 106, yPD_9), (.var 107, yPD_34)])]),
  ([(yPD_15, false), (yPD_32, true), (yPD_33, false), (yPD_44, false), (yPD_26, false), (yPD_5, true), (yPD_12, true), (yPD_30, true), (yPD_25, false), (yPD_21, false), (yPD_20, false), (yPD_6, false), (yPD_10, false), (yPD_0, true), (yPD_8, true), (yPD_11, true), (yPD_13, false)], some [(.again 0 [], [(.var 100, yPD_19), (.var 108, .var 100), (.var 101, yPD_14), (.var 102, .var 102), (.var 103, yPD_28), (.var 104, yPD_27), (.var 105, .var 105), (.var 106, yPD_9), (.var 107, yPD_34)])]),
  ([(yPD_32, false), (yPD_33, false), (yPD_44, false), (yPD_26, false), (yPD_5, true), (yPD_12, true), (yPD_30, true), (yPD_25, false), (yPD_21, false), (yPD_20, false), (yPD_6, false), (yPD_10, false), (yPD_0, true), (yPD_8, true), (yPD_11, true), (yPD_13, false)], some [(.leave 1 [], [(yPD_46, .var 100), (yPD_35, .var 101), (yPD_36, .var 102), (yPD_37, .var 103), (yPD_38, .var 104), (yPD_39, .var 105), (yPD_40, .var 106), (yPD_41, .var 107), (yPD_16, .boo true), (yPD_42, .num 71)])]),
  ([(yPD_5, false), (yPD_12, true), (yPD_30, true), (yPD_25, false), (yPD_21, false), (yPD_20, false), (yPD_6, false), (yPD_10, false), (yPD_0, true), (yPD_8, true), (yPD_11, true), (yPD_13, false)], some [(.leave 1 [], [(yPD_46, .var 100), (yPD_35, .var 101), (yPD_36, .var 102), (yPD_37, .var 103), (yPD_38, .var 104), (yPD_39, .var 105), (yPD_40, .var 106), (yPD_41, .var 107), (yPD_16, .boo true), (yPD_42, .num 5)])]),
  ([(yPD_12, false), (yPD_30, true), (yPD_25, false), (yPD_21, false), (yPD_20, false), (yPD_6, false), (yPD_10, false), (yPD_0, true), (yPD_8, true), (yPD_11, true), (yPD_13, false)], some [(.leave 1 [], [(yPD_46, .var 100), (yPD_35, .var 101), (yPD_36, .var 102), (yPD_37, .var 103), (yPD_38, .var 104), (yPD_39, .var 105), (yPD_40, .var 106), (yPD_41, .var 107), (yPD_16, .boo true), (yPD_42, .num 5)])]),
  ([(yPD_30, false), (yPD_25, false), (yPD_21, false), (yPD_20, false), (yPD_6, false), (yPD_10, false), (yPD_0, true), (yPD_8, true), (yPD_11, true), (yPD_13, false)], none),
  ([(yPD_0, false), (yPD_8, true), (yPD_11, true), (yPD_13, false)], some [(.leave 1 [], [(yPD_46, .var 100), (yPD_35, .var 101), (yPD_36, .var 102), (yPD_37, .var 103), (yPD_38, .var 104), (yPD_39, .var 105), (yPD_40, .var 106), (yPD_41, .var 107), (yPD_16, .boo true), (yPD_42, .num 1)])]),
  ([(yPD_8, false), (yPD_11, true), (yPD_13, false)], some [(.leave 1 [], [(yPD_46, .var 100), (yPD_35, .var 101), (yPD_36, .var 102), (yPD_37, .var 103), (yPD_38, .var 104), (yPD_39, .var 105), (yPD_40, .var 106), (yPD_41, .var 107), (yPD_16, .boo true), (yPD_42, .num 2)])]),
  ([(yPD_11, false), (yPD_13, false)], some [(.leave 0 [], [(.app 57 [.var 1], .var 108), (yPD_35, .var 101), (yPD_36, .var 102), (yPD_37, .var 103), (yPD_38, .var 104), (yPD_39, .var 105), (yPD_40, .var 106), (yPD_41, .var 107), (.op2 .eq yPD_42 (.num 0), .boo true)])])]
theorem lLed0_w (r : Rho) : lLed_D.ways lLed_run E0 r 0 lLed0_F lLed0_t = some lLed0_l := by kernel_rfl
theorem lLed_ok : lLed_D.ok = true := by kernel_rfl
def lLed_Inv (l : List Ptg) (j : Nat) (vals : List Value) : Prop :=
  j = 0 ∧ ∃ i : Nat, (i ≤ l.length ∧ i ≤ 400) ∧ vals = [.int .i64 i, rowsV (idsV (l.take i)), rowsV (soldV (l.take i)), rowsV (heldV (l.take i)), rowsV (hasV (l.take i)), rowsV (knownV (l.take i)), .int .i64 (highP (l.take i)), .int .i64 (lastH (l.take i)), .int .i64 (lastX (l.take i))] ∧ checkP l = chkP (l.take i) (l.drop i) ∧ GoodL (l.take i)
def lLed_mu (l : List Ptg) (_ : Nat) (vals : List Value) : Nat := l.length - (vI (vals.getD 0 default)).toNat
set_option maxRecDepth 100000 in
set_option maxHeartbeats 8000000 in
theorem lLed_step {ρ : Rho} {l : List Ptg} (h1 : ρ.val 1 = some (ptgsR l)) (hsy : ρ.sym = sy) (hsh : shortB l = true) (j : Nat) (vals : List Value) (hI : lLed_Inv l j vals) :
    StepOk lLed_D lLed_run E0 ρ (lLed_Inv l) (lLed_mu l) j vals := by
  obtain ⟨rfl, i, ⟨hi, hi4⟩, rfl, hall, hgood⟩ := hI
  have hN : lLed_D.N = 100 := rfl
  have hmax := short_len hsh
  have hlen : (l.take i).length = i := by simp; omega
  have hnext : ∀ p, l[i]? = some p → l.take (i + 1) = l.take i ++ [p] := fun p hp => by rw [List.take_add_one, hp]; rfl
  have hstep : ∀ p, l[i]? = some p → checkP l = if refusedP (l.take i) p = 0 then chkP (l.take (i + 1)) (l.drop (i + 1)) else (i, refusedP (l.take i) p) := fun p hp => by rw [hall, chkP_step hp]
  have hkl : (idsV (l.take i)).length = i := by rw [hgood.ids, List.length_map, hlen]
  generalize hpre : l.take i = pre at hall hgood hlen hnext hstep hkl ⊢
  have v1 : (ρ.ext lLed_D.N [.int .i64 i, rowsV (idsV pre), rowsV (soldV pre), rowsV (heldV pre), rowsV (hasV pre), rowsV (knownV pre), .int .i64 (highP pre), .int .i64 (lastH pre), .int .i64 (lastX pre)]).val 1 = some (ptgsR l) := by rw [ext_low _ _ _ _ (by rw [hN]; omega)]; exact h1
  have v100 : (ρ.ext lLed_D.N [.int .i64 i, rowsV (idsV pre), rowsV (soldV pre), rowsV (heldV pre), rowsV (hasV pre), rowsV (knownV pre), .int .i64 (highP pre), .int .i64 (lastH pre), .int .i64 (lastX pre)]).val 100 = some (.int .i64 i) := by rw [ext_high _ _ _ _ (by rw [hN]; omega)]; rfl
  have v101 : (ρ.ext lLed_D.N [.int .i64 i, rowsV (idsV pre), rowsV (soldV pre), rowsV (heldV pre), rowsV (hasV pre), rowsV (knownV pre), .int .i64 (highP pre), .int .i64 (lastH pre), .int .i64 (lastX pre)]).val 101 = some (rowsV (idsV pre)) := by rw [ext_high _ _ _ _ (by rw [hN]; omega)]; rfl
  have v102 : (ρ.ext lLed_D.N [.int .i64 i, rowsV (idsV pre), rowsV (soldV pre), rowsV (heldV pre), rowsV (hasV pre), rowsV (knownV pre), .int .i64 (highP pre), .int .i64 (lastH pre), .int .i64 (lastX pre)]).val 102 = some (rowsV (soldV pre)) := by rw [ext_high _ _ _ _ (by rw [hN]; omega)]; rfl
  have v103 : (ρ.ext lLed_D.N [.int .i64 i, rowsV (idsV pre), rowsV (soldV pre), rowsV (heldV pre), rowsV (hasV pre), rowsV (knownV pre), .int .i64 (highP pre), .int .i64 (lastH pre), .int .i64 (lastX pre)]).val 103 = some (rowsV (heldV pre)) := by rw [ext_high _ _ _ _ (by rw [hN]; omega)]; rfl
  have v104 : (ρ.ext lLed_D.N [.int .i64 i, rowsV (idsV pre), rowsV (soldV pre), rowsV (heldV pre), rowsV (hasV pre), rowsV (knownV pre), .int .i64 (highP pre), .int .i64 (lastH pre), .int .i64 (lastX pre)]).val 104 = some (rowsV (hasV pre)) := by rw [ext_high _ _ _ _ (by rw [hN]; omega)]; rfl
  have v105 : (ρ.ext lLed_D.N [.int .i64 i, rowsV (idsV pre), rowsV (soldV pre), rowsV (heldV pre), rowsV (hasV pre), rowsV (knownV pre), .int .i64 (highP pre), .int .i64 (lastH pre), .int .i64 (lastX pre)]).val 105 = some (rowsV (knownV pre)) := by rw [ext_high _ _ _ _ (by rw [hN]; omega)]; rfl
  have v106 : (ρ.ext lLed_D.N [.int .i64 i, rowsV (idsV pre), rowsV (soldV pre), rowsV (heldV pre), rowsV (hasV pre), rowsV (knownV pre), .int .i64 (highP pre), .int .i64 (lastH pre), .int .i64 (lastX pre)]).val 106 = some (.int .i64 (highP pre)) := by rw [ext_high _ _ _ _ (by rw [hN]; omega)]; rfl
  have v107 : (ρ.ext lLed_D.N [.int .i64 i, rowsV (idsV pre), rowsV (soldV pre), rowsV (heldV pre), rowsV (hasV pre), rowsV (knownV pre), .int .i64 (highP pre), .int .i64 (lastH pre), .int .i64 (lastX pre)]).val 107 = some (.int .i64 (lastH pre)) := by rw [ext_high _ _ _ _ (by rw [hN]; omega)]; rfl
  have v108 : (ρ.ext lLed_D.N [.int .i64 i, rowsV (idsV pre), rowsV (soldV pre), rowsV (heldV pre), rowsV (hasV pre), rowsV (knownV pre), .int .i64 (highP pre), .int .i64 (lastH pre), .int .i64 (lastX pre)]).val 108 = some (.int .i64 (lastX pre)) := by rw [ext_high _ _ _ _ (by rw [hN]; omega)]; rfl
  have vs : (ρ.ext lLed_D.N [.int .i64 i, rowsV (idsV pre), rowsV (soldV pre), rowsV (heldV pre), rowsV (hasV pre), rowsV (knownV pre), .int .i64 (highP pre), .int .i64 (lastH pre), .int .i64 (lastX pre)]).sym = sy := hsy
  have hF : FactsIn (ρ.ext lLed_D.N [.int .i64 i, rowsV (idsV pre), rowsV (soldV pre), rowsV (heldV pre), rowsV (hasV pre), rowsV (knownV pre), .int .i64 (highP pre), .int .i64 (lastH pre), .int .i64 (lastX pre)]) lLed0_F := by
    simp only [lLed0_F, FactsIn, X.bool, X.den, denL, dX, denSub, denIte, asB, dY, v100, Option.some.injEq, Value.bool.injEq, decide_eq_false_iff_not, and_true]
    omega
  suffices both : AsksL (ρ.ext lLed_D.N [.int .i64 i, rowsV (idsV pre), rowsV (soldV pre), rowsV (heldV pre), rowsV (hasV pre), rowsV (knownV pre), .int .i64 (highP pre), .int .i64 (lastH pre), .int .i64 (lastX pre)]) (lLed0_t.asks lLed0_F) ∧ WaysOk lLed_D ρ (lLed_Inv l) (lLed_mu l) 0 [.int .i64 i, rowsV (idsV pre), rowsV (soldV pre), rowsV (heldV pre), rowsV (hasV pre), rowsV (knownV pre), .int .i64 (highP pre), .int .i64 (lastH pre), .int .i64 (lastX pre)] lLed0_l from step_of_ways (lLed0_w _) hF both.1.ok both.2
  cases hp : l[i]? with
  | none =>
    have hge := List.getElem?_eq_none_iff.1 hp
    have hge' : ¬ (i : Int) < l.length := by omega
    refine ⟨?_, ?_⟩
    · simp only [lLed0_t, yPD_50, yPD_49, yPD_48, yPD_47, yPD_46, yPD_45, yPD_44, yPD_43, yPD_42, yPD_41, yPD_40, yPD_39, yPD_38, yPD_37, yPD_36, yPD_35, yPD_34, yPD_33, yPD_32, yPD_31, yPD_30, yPD_29, yPD_28, yPD_27, yPD_26, yPD_25, yPD_24, yPD_23, yPD_22, yPD_21, yPD_20, yPD_19, yPD_18, yPD_17, yPD_16, yPD_15, yPD_14, yPD_13, yPD_12, yPD_11, yPD_10, yPD_9, yPD_8, yPD_7, yPD_6, yPD_5, yPD_4, yPD_3, yPD_2, yPD_1, yPD_0, lLed0_F, AsksL, GTree.asks, FTree.asks, FactsIn, List.append_nil, List.nil_append, List.cons_append, Option.some.injEq, exists_eq', implies_true, and_self, X.bool, X.den, denL, dX, denSub, d_ite2, d_eq_ite2, asB, dY, snoc_nil, d_mhas, d_mat, d_mput, rows_len, List.take_succ_cons, List.take_zero, cond_acc, v1, v100, v101, v102, v103, v104, v105, v106, v107, v108, vs, sym5, sym6, sym20, sym50, sym51, sym52, sym53, sym54, sym55, sym56, sym57, sym63, Int.toNat_natCast, hp, hge']
      simp
    · have hl : pre = l := by rw [← hpre, show i = l.length by omega, List.take_length]
      have h0 : checkP l = (0, 0) := by rw [hall, show i = l.length by omega, List.drop_length]; rfl
      have h02 : (checkP l).2 = 0 := by rw [h0]
      subst hl
      simp only [lLed0_l, yPD_50, yPD_49, yPD_48, yPD_47, yPD_46, yPD_45, yPD_44, yPD_43, yPD_42, yPD_41, yPD_40, yPD_39, yPD_38, yPD_37, yPD_36, yPD_35, yPD_34, yPD_33, yPD_32, yPD_31, yPD_30, yPD_29, yPD_28, yPD_27, yPD_26, yPD_25, yPD_24, yPD_23, yPD_22, yPD_21, yPD_20, yPD_19, yPD_18, yPD_17, yPD_16, yPD_15, yPD_14, yPD_13, yPD_12, yPD_11, yPD_10, yPD_9, yPD_8, yPD_7, yPD_6, yPD_5, yPD_4, yPD_3, yPD_2, yPD_1, yPD_0, EndsOk, WaysOk, forall_cons, forall_nil, TgtOk, gpair, FactsIn, hold_cons, hold_nil, Option.some.injEq, dZ, X.bool, X.den, denL, dX, denSub, d_ite2, d_eq_ite2, asB, dY, snoc_nil, d_mhas, d_mat, d_mput, rows_len, List.take_succ_cons, List.take_zero, cond_acc, beq_iff_eq, beq_eq_false_iff_ne, ne_eq, v1, v100, v101, v102, v103, v104, v105, v106, v107, v108, vs, h1, hsy, sym5, sym6, sym20, sym50, sym51, sym52, sym53, sym54, sym55, sym56, sym57, sym63, Int.toNat_natCast, hp, hge', upto_full h02]
      simp [h0]
  | some p =>
    have hlt : i < l.length := (List.getElem?_eq_some_iff.1 hp).1
    have hlt1 : (i : Int) < l.length := by omega
    have hst := hstep p hp
    have hw : IntKind.i64.wrap ((i : Int) + 1) = ((i + 1 : Nat) : Int) := IntWalk.i64_in _ (by omega)
    have go : ∀ (sv hv av kv : List (List Value)) (hh : Int), soldV (pre ++ [p]) = sv → heldV (pre ++ [p]) = hv → hasV (pre ++ [p]) = av → knownV (pre ++ [p]) = kv → max (highP pre) p.id = hh → refusedP pre p = 0 → ∃ vals', ((ρ.ext lLed_D.N vals').val 100 = some (.int .i64 ((i + 1 : Nat) : Int)) ∧
        (ρ.ext lLed_D.N vals').val 108 = some (.int .i64 (i : Int)) ∧
        (ρ.ext lLed_D.N vals').val 101 = some (rowsV (putRow [.int .i64 p.id] [.int .i64 p.id, .bool true] (idsV pre))) ∧ (ρ.ext lLed_D.N vals').val 102 = some (rowsV sv) ∧ (ρ.ext lLed_D.N vals').val 103 = some (rowsV hv) ∧
        (ρ.ext lLed_D.N vals').val 104 = some (rowsV av) ∧ (ρ.ext lLed_D.N vals').val 105 = some (rowsV kv) ∧ (ρ.ext lLed_D.N vals').val 106 = some (.int .i64 hh) ∧ (ρ.ext lLed_D.N vals').val 107 = some (.int .i64 p.hour)) ∧
          lLed_Inv l 0 vals' ∧ lLed_mu l 0 vals' < lLed_mu l 0 [.int .i64 i, rowsV (idsV pre), rowsV (soldV pre), rowsV (heldV pre), rowsV (hasV pre), rowsV (knownV pre), .int .i64 (highP pre), .int .i64 (lastH pre), .int .i64 (lastX pre)] := by
      rintro sv hv av kv hh rfl rfl rfl rfl rfl e
      refine ⟨[.int .i64 ((i + 1 : Nat) : Int), rowsV (idsV (l.take (i + 1))), rowsV (soldV (l.take (i + 1))), rowsV (heldV (l.take (i + 1))), rowsV (hasV (l.take (i + 1))), rowsV (knownV (l.take (i + 1))), .int .i64 (highP (l.take (i + 1))), .int .i64 (lastH (l.take (i + 1))), .int .i64 (lastX (l.take (i + 1)))], ⟨?_, ?_, ?_, ?_, ?_, ?_, ?_, ?_, ?_⟩, ⟨rfl, i + 1, ⟨by omega, by have := (accepted e).len; omega⟩, rfl, ?_, ?_⟩, ?_⟩
      · rw [ext_high _ _ _ _ (by rw [hN]; omega)]; rfl
      · rw [ext_high _ _ _ _ (by rw [hN]; omega), hnext p hp]
        show some (Value.int .i64 (lastX (pre ++ [p]))) = _
        simp [lastX, hlen]
      · rw [ext_high _ _ _ _ (by rw [hN]; omega), hnext p hp, idsV_snoc]; rfl
      · rw [ext_high _ _ _ _ (by rw [hN]; omega), hnext p hp]; rfl
      · rw [ext_high _ _ _ _ (by rw [hN]; omega), hnext p hp]; rfl
      · rw [ext_high _ _ _ _ (by rw [hN]; omega), hnext p hp]; rfl
      · rw [ext_high _ _ _ _ (by rw [hN]; omega), hnext p hp]; rfl
      · rw [ext_high _ _ _ _ (by rw [hN]; omega), hnext p hp, highP_snoc]; rfl
      · rw [ext_high _ _ _ _ (by rw [hN]; omega), hnext p hp, lastH_snoc]; rfl
      · rw [hst, if_pos e]
      · rw [hnext p hp]; exact hgood.snoc e
      · simp [lLed_mu, vI]; omega
    have out : ∀ e, e ≠ 0 → refusedP pre p = e → (checkP l).1 = i ∧ rowsV (idsV (uptoP l)) = rowsV (idsV pre) ∧ rowsV (soldV (uptoP l)) = rowsV (soldV pre) ∧ rowsV (heldV (uptoP l)) = rowsV (heldV pre) ∧ rowsV (hasV (uptoP l)) = rowsV (hasV pre) ∧ rowsV (knownV (uptoP l)) = rowsV (knownV pre) ∧
        highP (uptoP l) = highP pre ∧ lastH (uptoP l) = lastH pre ∧ (!((checkP l).2 == 0)) = true ∧ (checkP l).2 = e := by
      intro e he h
      have hc : checkP l = ((i : Int), e) := by rw [hst, if_neg (by rw [h]; exact he), h]
      have hu : uptoP l = pre := by rw [upto_part (i := i) (by rw [hc]; exact he) (by rw [hc]), hpre]
      rw [hu, hc]
      exact ⟨rfl, rfl, rfl, rfl, rfl, rfl, rfl, rfl, by simp [he], rfl⟩
    have hasK := hgood.idHas p.id
    have kA0 : (thereB pre p.id = false ∧ mapAt (idsV pre) (kI p.id) 1 = none) ∨ (thereB pre p.id = true ∧ mapAt (idsV pre) (kI p.id) 1 = some (.bool true)) := by
      cases h : thereB pre p.id with
      | false => exact .inl ⟨rfl, mapAt_none (by rw [hasK]; exact h)⟩
      | true => exact .inr ⟨rfl, hgood.idAt h⟩
    have kB : (mapHas (soldV pre) (kI p.parcel) = false ∧ mapHas (heldV pre) (kI p.parcel) = false ∧ mapAt (soldV pre) (kI p.parcel) 1 = none ∧ mapAt (heldV pre) (kI p.parcel) 1 = none ∧ soldW pre p.parcel = 0) ∨
        (mapHas (soldV pre) (kI p.parcel) = true ∧ mapHas (heldV pre) (kI p.parcel) = true ∧ mapAt (soldV pre) (kI p.parcel) 1 = some (.int .i64 (soldW pre p.parcel)) ∧ mapAt (heldV pre) (kI p.parcel) 1 = some (.int .i64 (heldZ pre p.parcel)) ∧ 0 < soldW pre p.parcel) := by
      rcases hgood.sold p.parcel with ⟨a1, a2⟩ | ⟨a1, a2, a3⟩ <;> rcases hgood.held p.parcel with ⟨b1, b2⟩ | ⟨b1, b2, b3⟩
      · exact .inl ⟨a1, b1, mapAt_none a1, mapAt_none b1, a2⟩
      · omega
      · omega
      · exact .inr ⟨a1, b1, a2, b2, a3⟩
    have kC : (mapHas (hasV pre) (kA p.party p.parcel) = false ∧ mapHas (knownV pre) (kA p.party p.parcel) = false ∧ mapAt (hasV pre) (kA p.party p.parcel) 2 = none ∧ mapAt (knownV pre) (kA p.party p.parcel) 2 = none ∧ hasW pre p.party p.parcel = 0) ∨
        (mapHas (hasV pre) (kA p.party p.parcel) = true ∧ mapHas (knownV pre) (kA p.party p.parcel) = true ∧ mapAt (hasV pre) (kA p.party p.parcel) 2 = some (.int .i64 (hasW pre p.party p.parcel)) ∧ mapAt (knownV pre) (kA p.party p.parcel) 2 = some (.int .i64 (lastPay pre p.party p.parcel).known)) := by
      rcases hgood.has p.party p.parcel with ⟨a1, a2, a3⟩ | ⟨a1, a2, a3⟩ <;> rcases hgood.known p.party p.parcel with ⟨b1, b2⟩ | ⟨b1, b2, b3⟩
      · exact .inl ⟨a1, b1, mapAt_none a1, mapAt_none b1, a2⟩
      · rw [a3] at b3; cases b3
      · rw [b2] at a3; cases a3
      · exact .inr ⟨a1, b1, a2, b2⟩
    have hheld := hgood.heldW p.parcel
    have hat : atI (hasV pre) (kA p.party p.parcel) 2 = hasW pre p.party p.parcel := by
      rcases hgood.has p.party p.parcel with ⟨a1, a2, _⟩ | ⟨_, a2, _⟩
      · rw [atI_none a1, a2]
      · exact atI_of a2
    have hah : 0 < soldW pre p.parcel → atI (heldV pre) (kI p.parcel) 1 = heldZ pre p.parcel := fun q => by
      rcases hgood.held p.parcel with ⟨_, a2⟩ | ⟨_, a2, _⟩
      · omega
      · exact atI_of a2
    have hkind : formB p = true → p.kind = 1 ∨ p.kind = 2 ∨ p.kind = 3 := fun h => by have := (form_of h).kind; omega
    have s1 : p.kind = 1 → soldV (pre ++ [p]) = putRow [.int .i64 p.parcel] [.int .i64 p.parcel, .int .i64 p.amount] (soldV pre) := fun k => by rw [soldV_snoc, decide_eq_true k]; rfl
    have s2 : ¬ p.kind = 1 → soldV (pre ++ [p]) = soldV pre := fun k => by rw [soldV_snoc, decide_eq_false k]; rfl
    have d1 : p.kind = 1 → heldV (pre ++ [p]) = putRow [.int .i64 p.parcel] [.int .i64 p.parcel, .int .i64 p.amount] (heldV pre) := fun k => by rw [heldV_snoc, decide_eq_true k]; rfl
    have d2_ : p.kind = 2 → 0 < soldW pre p.parcel → heldV (pre ++ [p]) = putRow [.int .i64 p.parcel] [.int .i64 p.parcel, .int .i64 (IntKind.i64.wrap (heldZ pre p.parcel - p.amount))] (heldV pre) := fun k q => by rw [← hah q, heldV_snoc, decide_eq_false (by omega), decide_eq_true k]; rfl
    have d3 : p.kind = 3 → 0 < soldW pre p.parcel → heldV (pre ++ [p]) = putRow [.int .i64 p.parcel] [.int .i64 p.parcel, .int .i64 (IntKind.i64.wrap (heldZ pre p.parcel + p.amount))] (heldV pre) := fun k q => by rw [← hah q, heldV_snoc, decide_eq_false (by omega), decide_eq_false (by omega)]; rfl
    have t1 : p.kind = 1 → hasV (pre ++ [p]) = hasV pre := fun k => by rw [hasV_snoc, decide_eq_true k]; rfl
    have t2 : p.kind = 2 → hasV (pre ++ [p]) = putRow [.int .i64 p.party, .int .i64 p.parcel] [.int .i64 p.party, .int .i64 p.parcel, .int .i64 (IntKind.i64.wrap (hasW pre p.party p.parcel + p.amount))] (hasV pre) := fun k => by rw [← hat, hasV_snoc, decide_eq_false (by omega), decide_eq_true k]; rfl
    have t3 : p.kind = 3 → hasV (pre ++ [p]) = putRow [.int .i64 p.party, .int .i64 p.parcel] [.int .i64 p.party, .int .i64 p.parcel, .int .i64 (IntKind.i64.wrap (hasW pre p.party p.parcel - p.amount))] (hasV pre) := fun k => by rw [← hat, hasV_snoc, decide_eq_false (by omega), decide_eq_false (by omega)]; rfl
    have q2 : p.kind = 2 → knownV (pre ++ [p]) = putRow [.int .i64 p.party, .int .i64 p.parcel] [.int .i64 p.party, .int .i64 p.parcel, .int .i64 p.known] (knownV pre) := fun k => by rw [knownV_snoc, decide_eq_true k]; rfl
    have q1 : ¬ p.kind = 2 → knownV (pre ++ [p]) = knownV pre := fun k => by rw [knownV_snoc, decide_eq_false k]; rfl
    have F0 : ¬ pre.length < 400 → refusedP pre p = 2 := refused_full
    have F1 : pre.length < 400 → formB p = false → refusedP pre p = 1 := refused_no
    have F2 : pre.length < 400 → formB p = true → thereB pre p.id = true → refusedP pre p = 6 := refused_twice
    have R : formB p = true → thereB pre p.id = false → _ := refused_bif hlen hi4
    rw [hheld] at R
    rw [hlen] at F0 F1 F2
    have hbd : 0 < soldW pre p.parcel → p.kind = 2 ∨ p.kind = 3 ∨ p.kind = 1 ∨ True := fun _ => .inr (.inr (.inr trivial))
    clear hF hgood hall hstep hnext hst hi hsh hmax hpre hheld hbd hat hah
    simp only [kI] at hasK kA0 kB d2_ d3
    simp only [kA] at kC t2 t3
    rcases kA0 with ⟨hA, hA1⟩ | ⟨hA, hA1⟩ <;> rcases kB with ⟨hB, hB1, hB2, hB3, hB4⟩ | ⟨hB, hB1, hB2, hB3, hB4⟩ <;> rcases kC with ⟨hC, hC1, hC2, hC3, hC4⟩ | ⟨hC, hC1, hC2, hC3⟩ <;> rw [hA] at hasK
    all_goals (refine ⟨?_, ?_⟩)
    all_goals (simp only [lLed0_t, yPD_50, yPD_49, yPD_48, yPD_47, yPD_46, yPD_45, yPD_44, yPD_43, yPD_42, yPD_41, yPD_40, yPD_39, yPD_38, yPD_37, yPD_36, yPD_35, yPD_34, yPD_33, yPD_32, yPD_31, yPD_30, yPD_29, yPD_28, yPD_27, yPD_26, yPD_25, yPD_24, yPD_23, yPD_22, yPD_21, yPD_20, yPD_19, yPD_18, yPD_17, yPD_16, yPD_15, yPD_14, yPD_13, yPD_12, yPD_11, yPD_10, yPD_9, yPD_8, yPD_7, yPD_6, yPD_5, yPD_4, yPD_3, yPD_2, yPD_1, yPD_0, lLed0_F, lLed0_l, AsksL, GTree.asks, FTree.asks, FactsIn, List.append_nil, List.nil_append, List.cons_append, Option.some.injEq, exists_eq', implies_true, and_self, X.bool, X.den, denL, dX, denSub, d_ite2, d_eq_ite2, asB, dY, snoc_nil, d_mhas, d_mat, d_mput, rows_len, List.take_succ_cons, List.take_zero, cond_acc, EndsOk, WaysOk, forall_cons, forall_nil, TgtOk, gpair, FactsIn, hold_cons, hold_nil, Option.some.injEq, dZ, X.bool, X.den, denL, dX, denSub, d_ite2, d_eq_ite2, asB, dY, snoc_nil, d_mhas, d_mat, d_mput, rows_len, List.take_succ_cons, List.take_zero, cond_acc, beq_iff_eq, beq_eq_false_iff_ne, ne_eq, v1, v100, v101, v102, v103, v104, v105, v106, v107, v108, vs, h1, hsy, sym5, sym6, sym20, sym50, sym51, sym52, sym53, sym54, sym55, sym56, sym57, sym63, Int.toNat_natCast, hp, Option.bind_some, ptg0, ptg1, ptg2, ptg3, ptg4, ptg5, ptg6, ptg7, hlt1, hkl, hasK, hA1, hB, hB1, hB2, hB3, hC, hC1, hC2, hC3, hw, bif_int, high_max, reduceCtorEq, false_implies, implies_true, true_implies, and_self])
    all_goals (clear v1 v100 v101 v102 v103 v104 v105 v106 v107 v108 vs h1 hsy hp hN hasK hA1 hB hB1 hB2 hB3 hC hC1 hC2 hC3)
    all_goals (cases fb : formB p)
    all_goals (simp only [cond_true, cond_false, true_implies, false_implies, not_true_eq_false, not_false_eq_true, implies_true, and_true, true_and, (show ((1 : Int) = 0) = False from by decide)])
    all_goals ((repeat' apply And.intro) <;> intros <;> first
      | (exact True.intro)
      | (exfalso; omega)
      | (exfalso; have := hkind fb; omega)
      | (exfalso; have := (form_of fb).amount; omega)
      | (exact out _ (by decide) (F0 (by omega)))
      | (exact out _ (by decide) (F1 (by omega) fb))
      | (exact out _ (by decide) (F2 (by omega) fb hA))
      | (refine out _ (by decide) ?_; rw [R fb hA]; simp only [Bool.cond_decide, Bool.cond_not]; (repeat' split) <;> omega)
      | (refine go _ _ _ _ _ (s1 ?_) (d1 ?_) (t1 ?_) (q1 ?_) rfl ?_ <;> first | assumption | omega | (rw [R fb hA]; simp only [Bool.cond_decide, Bool.cond_not]; (repeat' split) <;> omega))
      | (refine go _ _ _ _ _ (s2 ?_) (d2_ ?_ ?_) (t2 ?_) (q2 ?_) rfl ?_ <;> first | assumption | omega | (rw [R fb hA]; simp only [Bool.cond_decide, Bool.cond_not]; (repeat' split) <;> omega))
      | (rw [hC4] at t2; refine go _ _ _ _ _ (s2 ?_) (d2_ ?_ ?_) (t2 ?_) (q2 ?_) rfl ?_ <;> first | assumption | omega | (rw [R fb hA]; simp only [Bool.cond_decide, Bool.cond_not]; (repeat' split) <;> omega))
      | (refine go _ _ _ _ _ (s2 ?_) (d3 ?_ ?_) (t3 ?_) (q1 ?_) rfl ?_ <;> first | assumption | omega | (rw [R fb hA]; simp only [Bool.cond_decide, Bool.cond_not]; (repeat' split) <;> omega)))
noncomputable def cLedN_con : Con := { f := 22, args := [ptgsArg 0 0], N := 1, M := 1, pre := [(.app 20 [.var 1], true), (.op2 .eq (.app 6 [.var 1]) (.num 0), false)], out := .tuple [.nilptr, .sint .i64 (.app 5 [.var 1]), .sint .i64 (.app 6 [.var 1])], news := [] }
noncomputable def cLedN_call : Env → CallL := fun E => acallAll E (evH E (L3 E) ((fun E => oneH 51 (hooks [(1, lLed_D.hook E.facts gled_vs)])) E) 9)
noncomputable def cLedN_t : GTree := (.leaf [[]])
noncomputable def cLedN_l : List (List (X × Bool) × Option Pairs) := [([(.app 20 [.var 1], true), (.op2 .eq yPD_42 (.num 0), false)], some [(yPD_46, yPD_46), (yPD_42, yPD_42)])]
theorem cLedN_w (r : Rho) : cLedN_con.fn.ways cLedN_call E0 r cLedN_con.pre cLedN_t = some cLedN_l := by kernel_rfl
theorem lLed_H {r : Rho} {l : List Ptg} (h1 : r.val 1 = some (ptgsR l)) (hsh : shortB l = true) (hsy : r.sym = sy) (F : List (X × Bool)) :
    LoopsOk (E0.with F r) (oneH 51 (hooks [(1, lLed_D.hook (E0.with F r).facts gled_vs)])) := by
  refine loops_all (n := 1) (fun f fn h => h) (by kernel_rfl) fun i hi => ?_
  obtain rfl : i = 0 := by omega
  rw [hooks_hit (show keyOf (loopAt (E0.with F r).P 51 0) = 1 by kernel_rfl)]
  refine hook_ok (E₀ := E0) (run := lLed_run) (ρ := r) (Inv := lLed_Inv l) (μ := lLed_mu l) E0_ok lLed_ok (fun F r' h => ?_) (fun _ => ⟨lLed_step h1 hsy hsh, [.int .i64 0, .tuple #[], .tuple #[], .tuple #[], .tuple #[], .tuple #[], .int .i64 0, .int .i64 0, .int .i64 0], ?_, rfl, 0, ⟨Nat.zero_le _, by omega⟩, rfl, rfl, goodL_nil⟩)
  · exact bodyRun_ok E0_ok (L3_ok F (h.trans hsy)) fun _ _ => noLoop_ok
  · simp only [gled_vs, X.bool, X.den, denL, dX, denSub, denIte, asB, dY]
theorem cLedN_cok : cLedN_con.Ok Tryz.prog sy := by
  intro r σ w us hsy hρ hpre hrel hins
  obtain ⟨l, h1⟩ := ptgs_at hrel (i := 0) rfl
  rw [hρ] at h1
  have h1 : r.val 1 = some (ptgsR l) := h1
  have hsh : shortB l = true := by
    have := hpre.1
    simpa only [X.bool, X.den, denL, dX, denSub, denIte, asB, dY, h1, hsy, sym20, Option.some.injEq, Value.bool.injEq] using this
  refine con_of (E := E0) E0_ok E0_glob (sy := sy) (fun F => L3_ok F hsy) (fun F => lLed_H h1 hsh hsy F) (cLedN_w r) hρ hpre hrel hins ?_ ?_
  · simp only [cLedN_con, cLedN_t, yPD_50, yPD_49, yPD_48, yPD_47, yPD_46, yPD_45, yPD_44, yPD_43, yPD_42, yPD_41, yPD_40, yPD_39, yPD_38, yPD_37, yPD_36, yPD_35, yPD_34, yPD_33, yPD_32, yPD_31, yPD_30, yPD_29, yPD_28, yPD_27, yPD_26, yPD_25, yPD_24, yPD_23, yPD_22, yPD_21, yPD_20, yPD_19, yPD_18, yPD_17, yPD_16, yPD_15, yPD_14, yPD_13, yPD_12, yPD_11, yPD_10, yPD_9, yPD_8, yPD_7, yPD_6, yPD_5, yPD_4, yPD_3, yPD_2, yPD_1, yPD_0, AsksL, GTree.asks, FTree.asks, FactsIn, List.append_nil, List.nil_append, List.cons_append, Option.some.injEq, exists_eq', implies_true, and_self, X.bool, X.den, denL, dX, denSub, denIte, asB, dY, h1, hsy, sym5, sym6, sym20, sym50, sym51, sym52, sym53, sym54, sym55, sym56]
    try simp
  · simp only [cLedN_l, yPD_50, yPD_49, yPD_48, yPD_47, yPD_46, yPD_45, yPD_44, yPD_43, yPD_42, yPD_41, yPD_40, yPD_39, yPD_38, yPD_37, yPD_36, yPD_35, yPD_34, yPD_33, yPD_32, yPD_31, yPD_30, yPD_29, yPD_28, yPD_27, yPD_26, yPD_25, yPD_24, yPD_23, yPD_22, yPD_21, yPD_20, yPD_19, yPD_18, yPD_17, yPD_16, yPD_15, yPD_14, yPD_13, yPD_12, yPD_11, yPD_10, yPD_9, yPD_8, yPD_7, yPD_6, yPD_5, yPD_4, yPD_3, yPD_2, yPD_1, yPD_0, EndsOk, WaysOk, forall_cons, forall_nil, TgtOk, gpair, FactsIn, hold_cons, hold_nil, Option.some.injEq, dZ, X.bool, X.den, denL, dX, denSub, denIte, asB, dY, h1, hsy, sym5, sym6, sym20, sym50, sym51, sym52, sym53, sym54, sym55, sym56]
    try simp
noncomputable def cLedY_con : Con := { f := 22, args := [ptgsArg 0 0], N := 1, M := 7, pre := [(.app 20 [.var 1], true), (.op2 .eq (.app 6 [.var 1]) (.num 0), true)], out := .tuple [.ptr 6 0, .int .i64 0, .int .i64 0], news := [(1, .smap false [.int .i64] false [.bool] (.app 50 [.var 1])), (2, .smap false [.int .i64] false [.int .i64] (.app 51 [.var 1])), (3, .smap false [.int .i64] false [.int .i64] (.app 52 [.var 1])), (4, .smap true [.int .i64, .int .i64] false [.int .i64] (.app 53 [.var 1])), (5, .smap true [.int .i64, .int .i64] false [.int .i64] (.app 54 [.var 1])), (6, .cells [.map 1, .sint .i64 (.app 55 [.var 1]), .sint .i64 (.app 56 [.var 1]), .map 2, .map 3, .map 4, .map 5] 54)] }
noncomputable def cLedY_call : Env → CallL := fun E => acallAll E (evH E (L3 E) ((fun E => oneH 51 (hooks [(1, lLed_D.hook E.facts gled_vs)])) E) 9)
noncomputable def cLedY_t : GTree := (.leaf [[(1, 4), (2, 5), (3, 6), (4, 7), (5, 8), (6, 9)]])
noncomputable def cLedY_l : List (List (X × Bool) × Option Pairs) := [([(.app 20 [.var 1], true), (.op2 .eq yPD_42 (.num 0), true)], some [(yPD_35, yPD_35), (yPD_36, yPD_36), (yPD_37, yPD_37), (yPD_38, yPD_38), (yPD_39, yPD_39), (yPD_40, yPD_40), (yPD_41, yPD_41)])]
theorem cLedY_w (r : Rho) : cLedY_con.fn.ways cLedY_call E0 r cLedY_con.pre cLedY_t = some cLedY_l := by kernel_rfl
theorem cLedY_cok : cLedY_con.Ok Tryz.prog sy := by
  intro r σ w us hsy hρ hpre hrel hins
  obtain ⟨l, h1⟩ := ptgs_at hrel (i := 0) rfl
  rw [hρ] at h1
  have h1 : r.val 1 = some (ptgsR l) := h1
  have hsh : shortB l = true := by
    have := hpre.1
    simpa only [X.bool, X.den, denL, dX, denSub, denIte, asB, dY, h1, hsy, sym20, Option.some.injEq, Value.bool.injEq] using this
  refine con_of (E := E0) E0_ok E0_glob (sy := sy) (fun F => L3_ok F hsy) (fun F => lLed_H h1 hsh hsy F) (cLedY_w r) hρ hpre hrel hins ?_ ?_
  · simp only [cLedY_con, cLedY_t, yPD_50, yPD_49, yPD_48, yPD_47, yPD_46, yPD_45, yPD_44, yPD_43, yPD_42, yPD_41, yPD_40, yPD_39, yPD_38, yPD_37, yPD_36, yPD_35, yPD_34, yPD_33, yPD_32, yPD_31, yPD_30, yPD_29, yPD_28, yPD_27, yPD_26, yPD_25, yPD_24, yPD_23, yPD_22, yPD_21, yPD_20, yPD_19, yPD_18, yPD_17, yPD_16, yPD_15, yPD_14, yPD_13, yPD_12, yPD_11, yPD_10, yPD_9, yPD_8, yPD_7, yPD_6, yPD_5, yPD_4, yPD_3, yPD_2, yPD_1, yPD_0, AsksL, GTree.asks, FTree.asks, FactsIn, List.append_nil, List.nil_append, List.cons_append, Option.some.injEq, exists_eq', implies_true, and_self, X.bool, X.den, denL, dX, denSub, denIte, asB, dY, h1, hsy, sym5, sym6, sym20, sym50, sym51, sym52, sym53, sym54, sym55, sym56]
    try simp
  · simp only [cLedY_l, yPD_50, yPD_49, yPD_48, yPD_47, yPD_46, yPD_45, yPD_44, yPD_43, yPD_42, yPD_41, yPD_40, yPD_39, yPD_38, yPD_37, yPD_36, yPD_35, yPD_34, yPD_33, yPD_32, yPD_31, yPD_30, yPD_29, yPD_28, yPD_27, yPD_26, yPD_25, yPD_24, yPD_23, yPD_22, yPD_21, yPD_20, yPD_19, yPD_18, yPD_17, yPD_16, yPD_15, yPD_14, yPD_13, yPD_12, yPD_11, yPD_10, yPD_9, yPD_8, yPD_7, yPD_6, yPD_5, yPD_4, yPD_3, yPD_2, yPD_1, yPD_0, EndsOk, WaysOk, forall_cons, forall_nil, TgtOk, gpair, FactsIn, hold_cons, hold_nil, Option.some.injEq, dZ, X.bool, X.den, denL, dX, denSub, denIte, asB, dY, h1, hsy, sym5, sym6, sym20, sym50, sym51, sym52, sym53, sym54, sym55, sym56]
    try simp
end Go.Proofs.YtpdemfamfmeemacGreat.Zs
