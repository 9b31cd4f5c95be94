/-
  A contract: what is awarded, step by step.
-/
import Derived.Test.YtcmbkcebbgigcaaGreatDoorMoConG
import Derived.Test.YtcmbkcebbgigcaaGreatDoorMoAcc
import Derived.Test.YtcmbkcebbgigcaaGreatDoorMoKeys
import Derived.KernelRfl
set_option linter.unusedSimpArgs false
set_option linter.unusedVariables false
namespace Go.Proofs.YtcmbkcebbgigcaaGreatDoor.Zs
open Go
noncomputable def LA : Env → CallE := libs [cLib cRt_con, cLib cSl_con, cLib cFind_con, cLib cParts_con]
theorem LA_ok (F : List (X × Bool)) {r : Rho} (h : r.sym = sy) : CallsOk (E0.with F r) (LA (E0.with F r)) := libs_ok fun c hc => by
  simp only [List.mem_cons, List.not_mem_nil, or_false] at hc
  rcases hc with rfl | rfl | rfl | rfl
  · exact lib_ok (E := E0) cRt_cok F h
  · exact lib_ok (E := E0) cSl_cok F h
  · exact lib_ok (E := E0) cFind_cok F h
  · exact lib_ok (E := E0) cParts_cok F h
noncomputable def bodyRunH (L : Env → CallE) (H : Env → LoopE) (d : Nat) (lp : Env → Code → AF → ASt → Option (List Out)) (c : Code) (E : Env) : AF → ASt → Option (List Out) :=
  acode E (evH E (L E) (H E) d).call (evH E (L E) (H E) d).round false (mkOthers E (evH E (L E) (H E) d) false none (lp E)) c
def fd_vs : List X := [.num 0, .var 100]
def st_vs : List X := [.nil]
noncomputable def lFd_D : LoopD := { N := 200, M := 202, size := sizeOfF 23, reads := [(0, .rows 1 whoSch (.var 18) (.var 19) false 3), (31, .cells [.sint .i64 (.var 2), .sstr (.var 3), .sint .i64 (.var 4), .sint .i64 (.var 5), .sint .i64 (.var 6), .sint .i64 (.var 7), .sint .i64 (.var 9), .sint .i64 (.var 10), .sint .i64 (.var 11), .sint .i64 (.var 12), .sint .i64 (.var 13), .sint .i64 (.var 14), .sint .i64 (.var 15), .sint .i64 (.var 16), .sint .i64 (.var 17), .slx 0 1 (.var 18) (.num 0) (.op1 .len (.var 19)) (.var 20), .sint .i64 (.var 13), .sint .i64 (.app 140 [.var 6, .var 7, .var 4, .var 5, .var 13, .var 11, .var 14, .var 15, .var 16]), .sint .i64 (.app 141 [.var 6, .var 7, .var 4, .var 5, .var 13, .var 11, .var 14, .var 15, .var 16]), .sint .i64 (.ite (.op2 .lt (.op2 .sub (.op2 .sub (.var 13) (.app 140 [.var 6, .var 7, .var 4, .var 5, .var 13, .var 11, .var 14, .var 15, .var 16])) (.app 141 [.var 6, .var 7, .var 4, .var 5, .var 13, .var 11, .var 14, .var 15, .var 16])) (.op1 (.wrap .i64) (.op2 .div (.op1 (.wrap .i64) (.op2 .mul (.var 13) (.var 4))) (.var 5)))) (.op1 (.kind .i64) (.op2 .sub (.op2 .sub (.var 13) (.app 140 [.var 6, .var 7, .var 4, .var 5, .var 13, .var 11, .var 14, .var 15, .var 16])) (.app 141 [.var 6, .var 7, .var 4, .var 5, .var 13, .var 11, .var 14, .var 15, .var 16]))) (.op1 (.kind .i64) (.op1 (.wrap .i64) (.op2 .div (.op1 (.wrap .i64) (.op2 .mul (.var 13) (.var 4))) (.var 5))))), .sint .i64 (.op1 (.wrap .i64) (.op2 .sub (.op2 .sub (.op2 .sub (.var 13) (.app 140 [.var 6, .var 7, .var 4, .var 5, .var 13, .var 11, .var 14, .var 15, .var 16])) (.app 141 [.var 6, .var 7, .var 4, .var 5, .var 13, .var 11, .var 14, .var 15, .var 16])) (.ite (.op2 .lt (.op2 .sub (.op2 .sub (.var 13) (.app 140 [.var 6, .var 7, .var 4, .var 5, .var 13, .var 11, .var 14, .var 15, .var 16])) (.app 141 [.var 6, .var 7, .var 4, .var 5, .var 13, .var 11, .var 14, .var 15, .var 16])) (.op1 (.wrap .i64) (.op2 .div (.op1 (.wrap .i64) (.op2 .mul (.var 13) (.var 4))) (.var 5)))) (.op1 (.kind .i64) (.op2 .sub (.op2 .sub (.var 13) (.app 140 [.var 6, .var 7, .var 4, .var 5, .var 13, .var 11, .var 14, .var 15, .var 16])) (.app 141 [.var 6, .var 7, .var 4, .var 5, .var 13, .var 11, .var 14, .var 15, .var 16]))) (.op1 (.kind .i64) (.op1 (.wrap .i64) (.op2 .div (.op1 (.wrap .i64) (.op2 .mul (.var 13) (.var 4))) (.var 5))))))), .nilslice, .map 29] 72), (103, .rows 1 whoSch (.num 0) (.app 102 [.ite (.op2 .lt (.op2 .sub (.op2 .sub (.var 13) (.app 140 [.var 6, .var 7, .var 4, .var 5, .var 13, .var 11, .var 14, .var 15, .var 16])) (.app 141 [.var 6, .var 7, .var 4, .var 5, .var 13, .var 11, .var 14, .var 15, .var 16])) (.op1 (.wrap .i64) (.op2 .div (.op1 (.wrap .i64) (.op2 .mul (.var 13) (.var 4))) (.var 5)))) (.op1 (.kind .i64) (.op2 .sub (.op2 .sub (.var 13) (.app 140 [.var 6, .var 7, .var 4, .var 5, .var 13, .var 11, .var 14, .var 15, .var 16])) (.app 141 [.var 6, .var 7, .var 4, .var 5, .var 13, .var 11, .var 14, .var 15, .var 16]))) (.op1 (.kind .i64) (.op1 (.wrap .i64) (.op2 .div (.op1 (.wrap .i64) (.op2 .mul (.var 13) (.var 4))) (.var 5)))), .op1 .len (.var 19)]) true 3)], pats := [{ slots := [(0, .ptr 31 0), (30, .slo 103 1 (.op1 .len (.var 19))), (31, .sint .i64 (.op1 .len (.var 19))), (32, .sint .i64 (.var 200))], heap := [(29, .smap false [.int .i64] false [.int .i64] (.var 201))] }], exits := [(.exit 0, { slots := [], heap := [(29, .smap false [.int .i64] false [.int .i64] (.app 117 [.app 144 [.var 6, .var 7, .var 4, .var 5, .var 13, .var 11, .var 14, .var 15, .var 16, .var 19]]))] })], own := [29], pre := [(.app 146 [.var 0, .var 1, .var 2, .var 3, .var 4, .var 5, .var 6, .var 7, .var 8, .var 9, .var 10, .var 11, .var 12, .var 13, .var 14, .var 15, .var 16, .var 17, .var 19], true), (.app 20 [.var 19], true), (.op2 .lt (.num 100) (.op1 .slen (.var 3)), false), (.app 147 [.var 6, .var 7, .var 4, .var 5, .var 13, .var 11, .var 14, .var 15, .var 16, .var 100], true)] }
noncomputable def lFd_run : Env → AF → ASt → Option (List Out) := bodyRun LA 6 (fun _ => noLoop) (loopAt Tryz.prog 23 0)
def lFd0_F : List (X × Bool) := [(.op2 .lt (.var 200) (.num 0), false)]
def qd0 : X := .op2 .sub (.var 13) (.app 140 [(.var 6), (.var 7), (.var 4), (.var 5), (.var 13), (.var 11), (.var 14), (.var 15), (.var 16)])
def qd1 : X := .app 117 [(.app 144 [(.var 6), (.var 7), (.var 4), (.var 5), (.var 13), (.var 11), (.var 14), (.var 15), (.var 16), (.var 19)])]
def qd2 : X := .app 146 [(.var 0), (.var 1), (.var 2), (.var 3), (.var 4), (.var 5), (.var 6), (.var 7), (.var 8), (.var 9), (.var 10), (.var 11), (.var 12), (.var 13), (.var 14), (.var 15), (.var 16), (.var 17), (.var 19)]
def qd3 : X := .ite (.op2 .lt (.op2 .sub qd0 (.app 141 [(.var 6), (.var 7), (.var 4), (.var 5), (.var 13), (.var 11), (.var 14), (.var 15), (.var 16)])) (.op1 (.wrap .i64) (.op2 .div (.op1 (.wrap .i64) (.op2 .mul (.var 13) (.var 4))) (.var 5)))) (.op1 (.kind .i64) (.op2 .sub qd0 (.app 141 [(.var 6), (.var 7), (.var 4), (.var 5), (.var 13), (.var 11), (.var 14), (.var 15), (.var 16)]))) (.op1 (.kind .i64) (.op1 (.wrap .i64) (.op2 .div (.op1 (.wrap .i64) (.op2 .mul (.var 13) (.var 4))) (.var 5))))
def qd4 : X := .ite (.op2 .lt qd0 (.op1 (.wrap .i64) (.op2 .mul (.var 7) (.op1 (.wrap .i64) (.op2 .div (.op1 (.wrap .i64) (.op2 .sub (.op1 (.wrap .i64) (.op2 .add (.op1 (.wrap .i64) (.op2 .sub (.var 11) (.var 16))) (.num 100))) (.num 1))) (.num 100)))))) (.op1 (.kind .i64) qd0) (.op1 (.kind .i64) (.op1 (.wrap .i64) (.op2 .mul (.var 7) (.op1 (.wrap .i64) (.op2 .div (.op1 (.wrap .i64) (.op2 .sub (.op1 (.wrap .i64) (.op2 .add (.op1 (.wrap .i64) (.op2 .sub (.var 11) (.var 16))) (.num 100))) (.num 1))) (.num 100))))))
def qd5 : X := .op2 .eq (.ite (.app 130 [(.var 0), (.var 1), (.var 2), (.var 3), (.var 4), (.var 5), (.var 6), (.var 7), (.var 8)]) (.num 0) (.num 1)) (.num 0)
def qd6 : X := .op2 .eq (.ite (.app 131 [(.var 9), (.var 10), (.var 11), (.var 12), (.var 13), (.var 14), (.var 15), (.var 16), (.var 17)]) (.num 0) (.num 1)) (.num 0)
def qd7 : X := .app 141 [(.var 6), (.var 7), (.var 4), (.var 5), (.var 13), (.var 11), (.var 14), (.var 15), (.var 16)]
def qd8 : X := .op2 .lt (.num 100) (.op1 .slen (.var 3))
def qd9 : X := .ite (.op2 .lt (.var 13) (.num 0)) (.op1 (.kind .i64) (.var 13)) (.op1 (.kind .i64) (.num 0))
def qd10 : X := .ite (.op2 .lt (.var 13) (.var 6)) (.op1 (.kind .i64) (.var 13)) (.op1 (.kind .i64) (.var 6))
def qd11 : X := .snoc .nil [(.op1 (.kind .i64) (.var 14))]
def qd12 : X := .snoc .nil [(.op1 (.kind .i64) (.var 15))]
def qd13 : X := .app 140 [(.var 6), (.var 7), (.var 4), (.var 5), (.var 13), (.var 11), (.var 14), (.var 15), (.var 16)]
def qd14 : X := .op2 (.mput 1) (.var 201) (.snoc .nil [(.op1 (.kind .i64) (.cell 0 (.var 19) (.var 200))), (.op1 (.kind .i64) (.op1 (.wrap .i64) (.op2 .add (.op2 (.mat 1) (.var 201) (.snoc .nil [(.op1 (.kind .i64) (.cell 0 (.var 19) (.var 200)))])) (.cell 0 (.app 102 [qd3, (.op1 .len (.var 19))]) (.var 200)))))])
def qd15 : X := .ite (.op2 .lt qd0 (.num 0)) (.op1 (.kind .i64) qd0) (.op1 (.kind .i64) (.num 0))
def qd16 : X := .op2 (.mput 1) (.var 201) (.snoc .nil [(.op1 (.kind .i64) (.cell 0 (.var 19) (.var 200))), (.op1 (.kind .i64) (.op1 (.wrap .i64) (.op2 .add (.num 0) (.cell 0 (.app 102 [qd3, (.op1 .len (.var 19))]) (.var 200)))))])
def qd17 : X := .app 142 [(.var 6), (.var 7), (.var 4), (.var 5), (.var 13), (.var 11), (.var 14), (.var 15), (.var 16)]
def qd18 : X := .app 143 [(.var 6), (.var 7), (.var 4), (.var 5), (.var 13), (.var 11), (.var 14), (.var 15), (.var 16)]
def qd19 : X := .snoc .nil [(.op1 (.kind .i64) (.cell 0 (.var 19) (.var 200)))]
def qd20 : X := .op2 .eq (.var 15) (.num 0)
def qd21 : X := .op2 (.mput 1) (.var 100) (.snoc .nil [(.op1 (.kind .i64) (.var 14)), (.op1 (.kind .i64) (.op1 (.wrap .i64) (.op2 .add (.op2 (.mat 1) (.var 100) qd11) qd10)))])
def qd22 : X := .op2 (.mput 1) (.var 100) (.snoc .nil [(.op1 (.kind .i64) (.var 15)), (.op1 (.kind .i64) (.op1 (.wrap .i64) (.op2 .add (.op2 (.mat 1) (.var 100) qd12) qd15)))])
def qd23 : X := .op2 (.mput 1) (.var 100) (.snoc .nil [(.op1 (.kind .i64) (.var 14)), (.op1 (.kind .i64) (.op1 (.wrap .i64) (.op2 .add (.op2 (.mat 1) (.var 100) qd11) qd9)))])
def qd24 : X := .op2 (.mput 1) (.var 100) (.snoc .nil [(.op1 (.kind .i64) (.var 15)), (.op1 (.kind .i64) (.op1 (.wrap .i64) (.op2 .add (.op2 (.mat 1) (.var 100) qd12) qd4)))])
def qd25 : X := .op2 .eq (.var 14) (.num 0)
def qd26 : X := .app 20 [(.var 19)]
def qd27 : X := .op2 (.mput 1) (.var 100) (.snoc .nil [(.op1 (.kind .i64) (.var 14)), (.op1 (.kind .i64) (.op1 (.wrap .i64) (.op2 .add (.num 0) qd10)))])
def qd28 : X := .op2 (.mput 1) (.var 100) (.snoc .nil [(.op1 (.kind .i64) (.var 15)), (.op1 (.kind .i64) (.op1 (.wrap .i64) (.op2 .add (.num 0) qd15)))])
def qd29 : X := .op2 .eq (.op1 .len qd1) (.num 0)
def qd30 : X := .op2 (.mput 1) (.var 100) (.snoc .nil [(.op1 (.kind .i64) (.var 14)), (.op1 (.kind .i64) (.op1 (.wrap .i64) (.op2 .add (.num 0) qd9)))])
def qd31 : X := .op2 (.mput 1) (.var 100) (.snoc .nil [(.op1 (.kind .i64) (.var 15)), (.op1 (.kind .i64) (.op1 (.wrap .i64) (.op2 .add (.num 0) qd4)))])
def qd32 : X := .op2 .eq (.var 8) (.num 0)
def qd33 : X := .op2 .eq (.var 17) (.num 0)
def qd34 : X := .op2 .lt (.num 1000000000) (.op1 .len qd1)
def qd35 : X := .app 100 [(.var 19)]
def qd36 : X := .op1 (.kind .i64) (.cell 0 (.app 113 [qd1]) (.var 300))
def qd37 : X := .op2 .lt (.var 200) (.op1 .len (.app 102 [qd3, (.op1 .len (.var 19))]))
def qd38 : X := .op2 .lt (.var 300) (.op1 .len (.app 113 [qd1]))
def qd39 : X := .app 147 [(.var 6), (.var 7), (.var 4), (.var 5), (.var 13), (.var 11), (.var 14), (.var 15), (.var 16), (.var 100)]
def qd40 : X := .op2 .lt (.num 1000000000) (.op2 .add (.op1 .len (.var 301)) (.num 1))
def qd41 : X := .op2 .lt (.var 200) (.op1 .len (.var 19))
def qd42 : X := .op2 .mhas (.var 100) qd11
def qd43 : X := .op2 .mhas (.var 100) qd12
def qd44 : X := .op2 .lt (.var 300) (.op1 .len qd1)
def qd45 : X := .op1 (.wrap .i64) (.op2 .add (.var 200) (.num 1))
def qd46 : X := .op2 .mhas qd1 (.snoc .nil [qd36])
def qd47 : X := .op1 (.wrap .i64) (.op2 .sub (.var 13) qd10)
def qd48 : X := .op2 .lt (.var 300) (.num 0)
def qd49 : X := .op1 (.wrap .i64) (.op2 .sub (.var 13) qd9)
def qd50 : X := .op1 .len (.app 115 [qd1])
def qd51 : X := .op2 .lt (.var 200) (.num 0)
def qd52 : X := .op2 .sub qd0 qd7
def qd53 : X := .op1 (.wrap .i64) (.op2 .sub qd0 qd15)
def qd54 : X := .op1 (.wrap .i64) (.op2 .sub qd0 qd4)
def qd55 : X := .op2 .mhas (.var 201) qd19
def qd56 : X := .op1 (.wrap .i64) (.op2 .add (.var 300) (.num 1))
noncomputable def lFd0_t : FTree := (.fork qd41 (.fork qd37 (.fork qd55 (.fork (.op2 .mhas qd14 qd19) (.fork (.op2 .eq (.op2 (.mat 1) qd14 qd19) (.num 0)) (.leaf [.again 0 []]) (.leaf [.again 0 []])) (.leaf [.again 0 []])) (.fork (.op2 .mhas qd16 qd19) (.fork (.op2 .eq (.op2 (.mat 1) qd16 qd19) (.num 0)) (.leaf [.again 0 []]) (.leaf [.again 0 []])) (.leaf [.again 0 []]))) .bad) (.leaf [.leave 0 []]))
noncomputable def lFd0_l : List (List (X × Bool) × Option (List (Tgt × Pairs))) := [([(.op2 .eq (.op2 (.mat 1) qd14 qd19) (.num 0), true), (.op2 .mhas qd14 qd19, true), (qd55, true), (qd37, true), (qd41, true), (qd51, false)], some [(.again 0 [], [(.var 200, qd45), (.var 201, .op2 .mdel qd14 qd19)])]),
  ([(.op2 .eq (.op2 (.mat 1) qd14 qd19) (.num 0), false), (.op2 .mhas qd14 qd19, true), (qd55, true), (qd37, true), (qd41, true), (qd51, false)], some [(.again 0 [], [(.var 200, qd45), (.var 201, qd14)])]),
  ([(.op2 .mhas qd14 qd19, false), (qd55, true), (qd37, true), (qd41, true), (qd51, false)], some [(.again 0 [], [(.var 200, qd45), (.var 201, .op2 .mdel qd14 qd19)])]),
  ([(.op2 .eq (.op2 (.mat 1) qd16 qd19) (.num 0), true), (.op2 .mhas qd16 qd19, true), (qd55, false), (qd37, true), (qd41, true), (qd51, false)], some [(.again 0 [], [(.var 200, qd45), (.var 201, .op2 .mdel qd16 qd19)])]),
  ([(.op2 .eq (.op2 (.mat 1) qd16 qd19) (.num 0), false), (.op2 .mhas qd16 qd19, true), (qd55, false), (qd37, true), (qd41, true), (qd51, false)], some [(.again 0 [], [(.var 200, qd45), (.var 201, qd16)])]),
  ([(.op2 .mhas qd16 qd19, false), (qd55, false), (qd37, true), (qd41, true), (qd51, false)], some [(.again 0 [], [(.var 200, qd45), (.var 201, .op2 .mdel qd16 qd19)])]),
  ([(qd37, false), (qd41, true), (qd51, false)], none),
  ([(qd41, false), (qd51, false)], some [(.leave 0 [], [(qd1, .var 201)])])]
theorem lFd0_w (r : Rho) : lFd_D.ways lFd_run E0 r 0 lFd0_F lFd0_t = some lFd0_l := by kernel_rfl
theorem lFd_ok : lFd_D.ok = true := by kernel_rfl
theorem at_all {r : Rat9} {s : Sal9} {l : List Who} {kr ks : Nat → IntKind} {ρ : Rho} (hr : Rat9At ρ 0 kr r) (hs : Sal9At ρ 9 ks s) (h19 : ρ.val 19 = some (whosR l)) : ρ.val 0 = some (.int (kr 0) r.id) ∧ ρ.val 1 = some (.int (kr 1) r.known) ∧ ρ.val 2 = some (.int (kr 2) r.from_) ∧ ρ.val 3 = some (.string r.goods) ∧ ρ.val 4 = some (.int (kr 4) r.num) ∧ ρ.val 5 = some (.int (kr 5) r.den) ∧ ρ.val 6 = some (.int (kr 6) r.cart) ∧ ρ.val 7 = some (.int (kr 7) r.store) ∧ ρ.val 8 = some (.int (kr 8) r.of_) ∧ ρ.val 9 = some (.int (ks 0) s.id) ∧ ρ.val 10 = some (.int (ks 1) s.known) ∧ ρ.val 11 = some (.int (ks 2) s.hour) ∧ ρ.val 12 = some (.int (ks 3) s.parcel) ∧ ρ.val 13 = some (.int (ks 4) s.price) ∧ ρ.val 14 = some (.int (ks 5) s.carter) ∧ ρ.val 15 = some (.int (ks 6) s.keeper) ∧ ρ.val 16 = some (.int (ks 7) s.since) ∧ ρ.val 17 = some (.int (ks 8) s.of_) ∧ ρ.val 19 = some (whosR l) :=
  ⟨hr.h0, hr.h1, hr.h2, hr.h3, hr.h4, hr.h5, hr.h6, hr.h7, hr.h8, hs.h0, hs.h1, hs.h2, hs.h3, hs.h4, hs.h5, hs.h6, hs.h7, hs.h8, h19⟩
theorem ext_all {r : Rat9} {s : Sal9} {l : List Who} {kr ks : Nat → IntKind} {ρ : Rho} (N : Nat) (vals : List Value) (hN : 24 ≤ N) (hr : Rat9At ρ 0 kr r) (hs : Sal9At ρ 9 ks s) (h19 : ρ.val 19 = some (whosR l)) : (ρ.ext N vals).val 0 = some (.int (kr 0) r.id) ∧ (ρ.ext N vals).val 1 = some (.int (kr 1) r.known) ∧ (ρ.ext N vals).val 2 = some (.int (kr 2) r.from_) ∧ (ρ.ext N vals).val 3 = some (.string r.goods) ∧ (ρ.ext N vals).val 4 = some (.int (kr 4) r.num) ∧ (ρ.ext N vals).val 5 = some (.int (kr 5) r.den) ∧ (ρ.ext N vals).val 6 = some (.int (kr 6) r.cart) ∧ (ρ.ext N vals).val 7 = some (.int (kr 7) r.store) ∧ (ρ.ext N vals).val 8 = some (.int (kr 8) r.of_) ∧ (ρ.ext N vals).val 9 = some (.int (ks 0) s.id) ∧ (ρ.ext N vals).val 10 = some (.int (ks 1) s.known) ∧ (ρ.ext N vals).val 11 = some (.int (ks 2) s.hour) ∧ (ρ.ext N vals).val 12 = some (.int (ks 3) s.parcel) ∧ (ρ.ext N vals).val 13 = some (.int (ks 4) s.price) ∧ (ρ.ext N vals).val 14 = some (.int (ks 5) s.carter) ∧ (ρ.ext N vals).val 15 = some (.int (ks 6) s.keeper) ∧ (ρ.ext N vals).val 16 = some (.int (ks 7) s.since) ∧ (ρ.ext N vals).val 17 = some (.int (ks 8) s.of_) ∧ (ρ.ext N vals).val 19 = some (whosR l) := by
  have low : ∀ k, k < 24 → (ρ.ext N vals).val k = ρ.val k := fun k hk => ext_low _ _ _ _ (by omega)
  refine ⟨?_, ?_, ?_, ?_, ?_, ?_, ?_, ?_, ?_, ?_, ?_, ?_, ?_, ?_, ?_, ?_, ?_, ?_, ?_⟩ <;> rw [low _ (by omega)]
  · exact hr.h0
  · exact hr.h1
  · exact hr.h2
  · exact hr.h3
  · exact hr.h4
  · exact hr.h5
  · exact hr.h6
  · exact hr.h7
  · exact hr.h8
  · exact hs.h0
  · exact hs.h1
  · exact hs.h2
  · exact hs.h3
  · exact hs.h4
  · exact hs.h5
  · exact hs.h6
  · exact hs.h7
  · exact hs.h8
  · exact h19
def lFd_Inv (r : Rat9) (s : Sal9) (l : List Who) (j : Nat) (vals : List Value) : Prop :=
  j = 0 ∧ ∃ i : Nat, i ≤ l.length ∧ vals = [.int .i64 i, shrsR (accB [] (payTo (divOf r s) l i))]
def lFd_mu (l : List Who) (_ : Nat) (vals : List Value) : Nat := l.length - (vI (vals.getD 0 default)).toNat
set_option maxHeartbeats 4000000 in
theorem lFd_step {ρ : Rho} {r : Rat9} {s : Sal9} {l : List Who} {kr ks : Nat → IntKind} (hr : Rat9At ρ 0 kr r) (hs : Sal9At ρ 9 ks s) (h19 : ρ.val 19 = some (whosR l)) (hsy : ρ.sym = sy) (hg : givesB r s l = true) (j : Nat) (vals : List Value) (hI : lFd_Inv r s l j vals) :
    StepOk lFd_D lFd_run E0 ρ (lFd_Inv r s l) (lFd_mu l) j vals := by
  obtain ⟨rfl, i, hi, rfl⟩ := hI
  have hN : lFd_D.N = 200 := rfl
  have g := gives_good hg
  have hfin := (gives_all hg).2.2.2.2
  obtain ⟨hl1, hl2, hl3⟩ := finder_iff hfin
  have hacc := pay_acc g hfin i hi
  obtain ⟨v0, v1, v2, v3, v4, v5, v6, v7, v8, v9, v10, v11, v12, v13, v14, v15, v16, v17, v19⟩ := ext_all lFd_D.N [.int .i64 i, shrsR (accB [] (payTo (divOf r s) l i))] (by rw [hN]; omega) hr hs h19
  have vs : (ρ.ext lFd_D.N [.int .i64 i, shrsR (accB [] (payTo (divOf r s) l i))]).sym = sy := hsy
  have v200 : (ρ.ext lFd_D.N [.int .i64 i, shrsR (accB [] (payTo (divOf r s) l i))]).val 200 = some (.int .i64 i) := by rw [ext_high _ _ _ _ (by rw [hN]; omega)]; rfl
  have v201 : (ρ.ext lFd_D.N [.int .i64 i, shrsR (accB [] (payTo (divOf r s) l i))]).val 201 = some (shrsR (accB [] (payTo (divOf r s) l i))) := by rw [ext_high _ _ _ _ (by rw [hN]; omega)]; rfl
  obtain ⟨r0, r1, r2, r3, r4, r5, r6, r7, r8, r9, r10, r11, r12, r13, r14, r15, r16, r17, r19⟩ := at_all hr hs h19
  have hF : FactsIn (ρ.ext lFd_D.N [.int .i64 i, shrsR (accB [] (payTo (divOf r s) l i))]) lFd0_F := by
    simp only [lFd0_F, FactsIn, X.bool, X.den, denL, dX, denSub, denIte, asB, dY, v200, Option.some.injEq, Value.bool.injEq, decide_eq_false_iff_not, and_true]
    omega
  suffices both : AsksL (ρ.ext lFd_D.N [.int .i64 i, shrsR (accB [] (payTo (divOf r s) l i))]) (lFd0_t.asks lFd0_F) ∧ WaysOk lFd_D ρ (lFd_Inv r s l) (lFd_mu l) 0 [.int .i64 i, shrsR (accB [] (payTo (divOf r s) l i))] lFd0_l from step_of_ways (lFd0_w _) hF both.1.ok both.2
  obtain ⟨w1, w2⟩ := find_wraps g
  have hfi := find_in g
  simp only [divOf] at w1 w2
  have c9 : cart9 ⟨r.cart, r.store, r.num, r.den, s.price, s.hour, s.carter, s.keeper, s.since⟩ = cart9 (divOf r s) := rfl
  have s9 : stor9 ⟨r.cart, r.store, r.num, r.den, s.price, s.hour, s.carter, s.keeper, s.since⟩ = stor9 (divOf r s) := rfl
  have p9 : payL ⟨r.cart, r.store, r.num, r.den, s.price, s.hour, s.carter, s.keeper, s.since⟩ l = payL (divOf r s) l := rfl
  have hfd : find9 (divOf r s) = min ((s.price * r.num).tdiv r.den) (s.price - cart9 (divOf r s) - stor9 (divOf r s)) := rfl
  have hFR : ∀ (k0 : IntKind), (if s.price - cart9 (divOf r s) - stor9 (divOf r s) < (s.price * r.num).tdiv r.den then s.price - cart9 (divOf r s) - stor9 (divOf r s) else (s.price * r.num).tdiv r.den) = find9 (divOf r s) := fun _ => by
    rw [hfd]; split <;> omega
  by_cases hlt : s.price - cart9 (divOf r s) - stor9 (divOf r s) < (s.price * r.num).tdiv r.den
  all_goals
    have hfv := hFR .i64
    first | rw [if_pos hlt] at hfv | rw [if_neg hlt] at hfv
  all_goals cases hp : l[i]? with
  | none =>
    have hge := List.getElem?_eq_none_iff.1 hp
    have hge' : ¬ (i : Int) < l.length := by omega
    obtain rfl : i = l.length := by omega
    refine ⟨?_, ?_⟩
    · simp only [lFd0_t, qd56, qd55, qd54, qd53, qd52, qd51, qd50, qd49, qd48, qd47, qd46, qd45, qd44, qd43, qd42, qd41, qd40, qd39, qd38, qd37, qd36, qd35, qd34, qd33, qd32, qd31, qd30, qd29, qd28, qd27, qd26, qd25, qd24, qd23, qd22, qd21, qd20, qd19, qd18, qd17, qd16, qd15, qd14, qd13, qd12, qd11, qd10, qd9, qd8, qd7, qd6, qd5, qd4, qd3, qd2, qd1, qd0, lFd0_F, AsksL, GTree.asks, FTree.asks, FactsIn, List.append_nil, List.nil_append, List.cons_append, Option.some.injEq, exists_eq', implies_true, and_self, X.bool, X.den, denL, dX, denSub, denIte, asB, dY, d_hasS, d_putS, d_delS, has_put, whos_snocN, whos_snoc0N, shrs_snocN, shrs_snoc0N, v0, v1, v2, v3, v4, v5, v6, v7, v8, v9, v10, v11, v12, v13, v14, v15, v16, v17, v19, v200, v201, vs, sym20, sym102, sym130, sym131, sym146, sym147, sym140, sym141, sym142, sym143, sym144, sym117, sym115, sym10, sym100, sym113, sym114, Int.toNat_natCast, hp, hge', c9, s9, w1, w2, hlt, decide_true, decide_false]
      try simp
    · simp only [lFd0_l, qd56, qd55, qd54, qd53, qd52, qd51, qd50, qd49, qd48, qd47, qd46, qd45, qd44, qd43, qd42, qd41, qd40, qd39, qd38, qd37, qd36, qd35, qd34, qd33, qd32, qd31, qd30, qd29, qd28, qd27, qd26, qd25, qd24, qd23, qd22, qd21, qd20, qd19, qd18, qd17, qd16, qd15, qd14, qd13, qd12, qd11, qd10, qd9, qd8, qd7, qd6, qd5, qd4, qd3, qd2, qd1, qd0, EndsOk, WaysOk, forall_cons, forall_nil, TgtOk, gpair, FactsIn, hold_cons, hold_nil, Option.some.injEq, dZ, X.bool, X.den, denL, dX, denSub, denIte, asB, dY, beq_iff_eq, beq_eq_false_iff_ne, ne_eq, d_hasS, d_putS, d_delS, has_put, whos_snocN, whos_snoc0N, shrs_snocN, shrs_snoc0N, beq_iff_eq, beq_eq_false_iff_ne, ne_eq, v0, v1, v2, v3, v4, v5, v6, v7, v8, v9, v10, v11, v12, v13, v14, v15, v16, v17, v19, v200, v201, vs, r0, r1, r2, r3, r4, r5, r6, r7, r8, r9, r10, r11, r12, r13, r14, r15, r16, r17, r19, hsy, sym20, sym102, sym130, sym131, sym146, sym147, sym140, sym141, sym142, sym143, sym144, sym117, sym115, sym10, sym100, sym113, sym114, Int.toNat_natCast, hp, hge', c9, s9, w1, w2, hlt, decide_true, decide_false, reduceCtorEq, Bool.false_eq_true, false_implies, implies_true, true_implies, and_self, true_and, and_true, p9]
      intros; rfl
  | some x =>
    have hil : i < l.length := (List.getElem?_eq_some_iff.1 hp).1
    have hil1 : (i : Int) < l.length := by omega
    have hx := hl3 x (List.mem_of_getElem? hp)
    have hnext := acc_next (divOf r s) l i hp
    have hw : IntKind.i64.wrap ((i : Int) + 1) = ((i + 1 : Nat) : Int) := by rw [IntWalk.i64_in _ (by omega)]; rfl
    have hpg := parts_get (find9 (divOf r s)) l.length i (by omega)
    have hpl := parts_len (find9 (divOf r s)) l.length
    have hpl1 : (i : Int) < ((partsR (find9 (divOf r s)) l.length).length : Nat) := by omega
    have hpb := part_bounds (find9 (divOf r s)) l.length i hfi.1 (by omega)
    have htd := tdiv_leA (find9 (divOf r s)) l.length hfi.1 (by omega)
    have hpr : (divOf r s).p ≤ 1000000000 := g.2.2.2.2.1.2
    have hsi := stor_in g
    have hci := cart_in g
    generalize hpv : partR (find9 (divOf r s)) l.length i = pv at hnext hpg hpb
    rw [← hfv] at hpg hpl1
    have go : ∀ mm, mm = accB [] (payTo (divOf r s) l (i + 1)) → ∃ vals', ((ρ.ext lFd_D.N vals').val 200 = some (.int .i64 ((i + 1 : Nat) : Int)) ∧ (ρ.ext lFd_D.N vals').val 201 = some (shrsR mm)) ∧ lFd_Inv r s l 0 vals' ∧ lFd_mu l 0 vals' < lFd_mu l 0 [.int .i64 i, shrsR (accB [] (payTo (divOf r s) l i))] := by
      rintro mm rfl
      refine ⟨[.int .i64 ((i + 1 : Nat) : Int), shrsR (accB [] (payTo (divOf r s) l (i + 1)))], ⟨?_, ?_⟩, ⟨rfl, i + 1, by omega, rfl⟩, ?_⟩
      · rw [ext_high _ _ _ _ (by rw [hN]; omega)]; rfl
      · rw [ext_high _ _ _ _ (by rw [hN]; omega)]; rfl
      · simp [lFd_mu, vI]; omega
    have hmu : lFd_mu l 0 [.int .i64 i, shrsR (accB [] (payTo (divOf r s) l i))] = l.length - i := by simp [lFd_mu, vI]
    rw [hmu] at go
    generalize hm : accB [] (payTo (divOf r s) l i) = m at hacc hnext v0 v1 v2 v3 v4 v5 v6 v7 v8 v9 v10 v11 v12 v13 v14 v15 v16 v17 v19 v200 v201 vs hF ⊢
    have hat := acc_at hacc x.n
    have w5 : IntKind.i64.wrap (atK m x.n + pv) = atK m x.n + pv := IntWalk.i64_in _ (by omega)
    have hz : atK m x.n + pv = 0 → delK x.n (putK x.n (atK m x.n + pv) m) = accB [] (payTo (divOf r s) l (i + 1)) := fun h => by rw [hnext]; unfold addK; rw [if_pos h]
    have hnz : ¬ atK m x.n + pv = 0 → putK x.n (atK m x.n + pv) m = accB [] (payTo (divOf r s) l (i + 1)) := fun h => by rw [hnext]; unfold addK; rw [if_neg h]
    have hgp : ∀ v, den2 (.mat 1) (shrsR (putK x.n v m)) (whosR [⟨x.n⟩]) = some (.int .i64 v) := fun v => by rw [d_atS, has_put, at_put]; rfl
    cases hh : hasK m x.n with
    | true =>
      have hgm : den2 (.mat 1) (shrsR m) (whosR [⟨x.n⟩]) = some (.int .i64 (atK m x.n)) := by rw [d_atS, hh]; rfl
      refine ⟨?_, ?_⟩
      all_goals (simp only [lFd0_t, qd56, qd55, qd54, qd53, qd52, qd51, qd50, qd49, qd48, qd47, qd46, qd45, qd44, qd43, qd42, qd41, qd40, qd39, qd38, qd37, qd36, qd35, qd34, qd33, qd32, qd31, qd30, qd29, qd28, qd27, qd26, qd25, qd24, qd23, qd22, qd21, qd20, qd19, qd18, qd17, qd16, qd15, qd14, qd13, qd12, qd11, qd10, qd9, qd8, qd7, qd6, qd5, qd4, qd3, qd2, qd1, qd0, lFd0_F, lFd0_l, AsksL, GTree.asks, FTree.asks, FactsIn, List.append_nil, List.nil_append, List.cons_append, Option.some.injEq, exists_eq', implies_true, and_self, X.bool, X.den, denL, dX, denSub, denIte, asB, dY, d_hasS, d_putS, d_delS, has_put, whos_snocN, whos_snoc0N, shrs_snocN, shrs_snoc0N, EndsOk, WaysOk, forall_cons, forall_nil, TgtOk, gpair, FactsIn, hold_cons, hold_nil, Option.some.injEq, dZ, X.bool, X.den, denL, dX, denSub, denIte, asB, dY, beq_iff_eq, beq_eq_false_iff_ne, ne_eq, d_hasS, d_putS, d_delS, has_put, whos_snocN, whos_snoc0N, shrs_snocN, shrs_snoc0N, beq_iff_eq, beq_eq_false_iff_ne, ne_eq, v0, v1, v2, v3, v4, v5, v6, v7, v8, v9, v10, v11, v12, v13, v14, v15, v16, v17, v19, v200, v201, vs, r0, r1, r2, r3, r4, r5, r6, r7, r8, r9, r10, r11, r12, r13, r14, r15, r16, r17, r19, hsy, sym20, sym102, sym130, sym131, sym146, sym147, sym140, sym141, sym142, sym143, sym144, sym117, sym115, sym10, sym100, sym113, sym114, Int.toNat_natCast, hp, Option.bind_some, who0, hil1, hh, hgm, hgp, hw, w5, c9, s9, w1, w2, hlt, hpg, hpl1, decide_true, decide_false, reduceCtorEq, Bool.false_eq_true, false_implies, implies_true, true_implies, and_self])
      all_goals (clear v200 v201 v0 v1 v2 v3 v4 v5 v6 v7 v8 v9 v10 v11 v12 v13 v14 v15 v16 v17 v19 vs r0 r1 r2 r3 r4 r5 r6 r7 r8 r9 r10 r11 r12 r13 r14 r15 r16 r17 r19 hr hs h19 hsy hp hF hgm hgp hpg)
      all_goals ((repeat' apply And.intro) <;> intros <;> first
        | trivial
        | (exfalso; omega)
        | (exact absurd trivial (by assumption))
        | (exact go _ (hz (by assumption)))
        | (exact go _ (hnz (by assumption))))
    | false =>
      have h0 := at_none hh
      have w3 : IntKind.i64.wrap (0 + pv) = pv := by rw [IntWalk.i64_in _ (by omega)]; omega
      rw [h0, Int.zero_add] at hz hnz
      refine ⟨?_, ?_⟩
      all_goals (simp only [lFd0_t, qd56, qd55, qd54, qd53, qd52, qd51, qd50, qd49, qd48, qd47, qd46, qd45, qd44, qd43, qd42, qd41, qd40, qd39, qd38, qd37, qd36, qd35, qd34, qd33, qd32, qd31, qd30, qd29, qd28, qd27, qd26, qd25, qd24, qd23, qd22, qd21, qd20, qd19, qd18, qd17, qd16, qd15, qd14, qd13, qd12, qd11, qd10, qd9, qd8, qd7, qd6, qd5, qd4, qd3, qd2, qd1, qd0, lFd0_F, lFd0_l, AsksL, GTree.asks, FTree.asks, FactsIn, List.append_nil, List.nil_append, List.cons_append, Option.some.injEq, exists_eq', implies_true, and_self, X.bool, X.den, denL, dX, denSub, denIte, asB, dY, d_hasS, d_putS, d_delS, has_put, whos_snocN, whos_snoc0N, shrs_snocN, shrs_snoc0N, EndsOk, WaysOk, forall_cons, forall_nil, TgtOk, gpair, FactsIn, hold_cons, hold_nil, Option.some.injEq, dZ, X.bool, X.den, denL, dX, denSub, denIte, asB, dY, beq_iff_eq, beq_eq_false_iff_ne, ne_eq, d_hasS, d_putS, d_delS, has_put, whos_snocN, whos_snoc0N, shrs_snocN, shrs_snoc0N, beq_iff_eq, beq_eq_false_iff_ne, ne_eq, v0, v1, v2, v3, v4, v5, v6, v7, v8, v9, v10, v11, v12, v13, v14, v15, v16, v17, v19, v200, v201, vs, r0, r1, r2, r3, r4, r5, r6, r7, r8, r9, r10, r11, r12, r13, r14, r15, r16, r17, r19, hsy, sym20, sym102, sym130, sym131, sym146, sym147, sym140, sym141, sym142, sym143, sym144, sym117, sym115, sym10, sym100, sym113, sym114, Int.toNat_natCast, hp, Option.bind_some, who0, hil1, hh, hgp, hw, w3, c9, s9, w1, w2, hlt, hpg, hpl1, decide_true, decide_false, reduceCtorEq, Bool.false_eq_true, false_implies, implies_true, true_implies, and_self])
      all_goals (clear v200 v201 v0 v1 v2 v3 v4 v5 v6 v7 v8 v9 v10 v11 v12 v13 v14 v15 v16 v17 v19 vs r0 r1 r2 r3 r4 r5 r6 r7 r8 r9 r10 r11 r12 r13 r14 r15 r16 r17 r19 hr hs h19 hsy hp hF hgp hpg)
      all_goals ((repeat' apply And.intro) <;> intros <;> first
        | trivial
        | (exfalso; omega)
        | (exact absurd trivial (by assumption))
        | (exact go _ (hz (by assumption)))
        | (exact go _ (hnz (by assumption))))
theorem bodyRunH_ok {E₀ : Env} (hE : E₀.Ok) {L : Env → CallE} {H : Env → LoopE} {d : Nat} {lp : Env → Code → AF → ASt → Option (List Out)} {c : Code} {F : List (X × Bool)} {r : Rho} (hL : CallsOk (E₀.with F r) (L (E₀.with F r))) (hH : LoopsOk (E₀.with F r) (H (E₀.with F r)))
    (hlp : ∀ c' ∈ loopsOf c, CodeOk (E₀.with F r) none (.loop c') (lp (E₀.with F r) c')) : CodeOk (E₀.with F r) none c (bodyRunH L H d lp c (E₀.with F r)) := by
  have hV := evH_ok (Env.with_ok hE F r) hL hH d
  exact acode_ok (Env.with_ok hE F r) hV.1 hV.2.1 (ro := none) c (mkOthers_ok (Env.with_ok hE F r) hV none none (lp (E₀.with F r)) c (fun _ h => by cases h)) hlp
theorem rat_ext {ρ : Rho} {N : Nat} {vals : List Value} {k : Nat → IntKind} {r : Rat9} (hN : 9 ≤ N) (h : Rat9At ρ 0 k r) : Rat9At (ρ.ext N vals) 0 k r := ⟨by rw [ext_low _ _ _ _ (by omega)]; exact h.h0, by rw [ext_low _ _ _ _ (by omega)]; exact h.h1, by rw [ext_low _ _ _ _ (by omega)]; exact h.h2, by rw [ext_low _ _ _ _ (by omega)]; exact h.h3, by rw [ext_low _ _ _ _ (by omega)]; exact h.h4, by rw [ext_low _ _ _ _ (by omega)]; exact h.h5, by rw [ext_low _ _ _ _ (by omega)]; exact h.h6, by rw [ext_low _ _ _ _ (by omega)]; exact h.h7, by rw [ext_low _ _ _ _ (by omega)]; exact h.h8⟩
theorem sal_ext {ρ : Rho} {N : Nat} {vals : List Value} {k : Nat → IntKind} {r : Sal9} (hN : 18 ≤ N) (h : Sal9At ρ 9 k r) : Sal9At (ρ.ext N vals) 9 k r := ⟨by rw [ext_low _ _ _ _ (by omega)]; exact h.h0, by rw [ext_low _ _ _ _ (by omega)]; exact h.h1, by rw [ext_low _ _ _ _ (by omega)]; exact h.h2, by rw [ext_low _ _ _ _ (by omega)]; exact h.h3, by rw [ext_low _ _ _ _ (by omega)]; exact h.h4, by rw [ext_low _ _ _ _ (by omega)]; exact h.h5, by rw [ext_low _ _ _ _ (by omega)]; exact h.h6, by rw [ext_low _ _ _ _ (by omega)]; exact h.h7, by rw [ext_low _ _ _ _ (by omega)]; exact h.h8⟩
theorem lFd_H {r : Rho} {ra : Rat9} {sa : Sal9} {l : List Who} {kr ks : Nat → IntKind} (hr : Rat9At r 0 kr ra) (hs : Sal9At r 9 ks sa) (h19 : r.val 19 = some (whosR l)) (hsy : r.sym = sy) (hg : givesB ra sa l = true) (F : List (X × Bool)) :
    LoopsOk (E0.with F r) (oneH 23 (hooks [(2, lFd_D.hook (E0.with F r).facts fd_vs)])) := by
  refine loops_all (n := 1) (fun f fn h => h) (by kernel_rfl) fun i hi => ?_
  obtain rfl : i = 0 := by omega
  rw [hooks_hit (show keyOf (loopAt (E0.with F r).P 23 0) = 2 by kernel_rfl)]
  refine hook_ok (E₀ := E0) (run := lFd_run) (ρ := r) (Inv := lFd_Inv ra sa l) (μ := lFd_mu l) E0_ok lFd_ok (fun F r' h => ?_) (fun hq => ⟨lFd_step hr hs h19 hsy hg, [.int .i64 0, shrsR (accB [] (payTo (divOf ra sa) l 0))], ?_, rfl, 0, Nat.zero_le _, rfl⟩)
  · exact bodyRun_ok E0_ok (LA_ok F (h.trans hsy)) fun _ _ => noLoop_ok
  · have q := hq.2.2.2.1
    have r4 : r.val 4 = some (.int (kr 4) ra.num) := hr.h4
    have r5 : r.val 5 = some (.int (kr 5) ra.den) := hr.h5
    have r6 : r.val 6 = some (.int (kr 6) ra.cart) := hr.h6
    have r7 : r.val 7 = some (.int (kr 7) ra.store) := hr.h7
    have r11 : r.val 11 = some (.int (ks 2) sa.hour) := hs.h2
    have r13 : r.val 13 = some (.int (ks 4) sa.price) := hs.h4
    have r14 : r.val 14 = some (.int (ks 5) sa.carter) := hs.h5
    have r15 : r.val 15 = some (.int (ks 6) sa.keeper) := hs.h6
    have r16 : r.val 16 = some (.int (ks 7) sa.since) := hs.h7
    simp only [X.bool, X.den, denL, dX, denSub, denIte, asB, dY, r4, r5, r6, r7, r11, r13, r14, r15, r16, hsy] at q
    cases hv : r.val 100 with
    | none => rw [hv] at q; cases q
    | some v =>
      rw [hv] at q
      simp only [sym147, Option.some.injEq, Bool.and_eq_true, decide_eq_true_eq] at q
      have e := shrs_is q.1
      rw [q.2] at e
      simp only [fd_vs, X.bool, X.den, denL, dX, denSub, denIte, asB, dY, hv, e]
      rfl
noncomputable def lSt_D : LoopD := { N := 100, M := 101, size := sizeOfF 5, reads := [(0, .rows 1 whoSch (.var 18) (.var 19) false 3)], pats := [{ slots := [(6, .ptr 3 0), (11, .ptr 31 0), (43, .agg [.func (.func 21) [.ptr 31 0] [], .func (.func 22) [.ptr 31 0] [], .func (.func 23) [.ptr 31 0] []]), (44, .int .i64 0)], heap := [(31, .cells [.sint .i64 (.var 2), .sstr (.var 3), .sint .i64 (.var 4), .sint .i64 (.var 5), .sint .i64 (.var 6), .sint .i64 (.var 7), .sint .i64 (.var 9), .sint .i64 (.var 10), .sint .i64 (.var 11), .sint .i64 (.var 12), .sint .i64 (.var 13), .sint .i64 (.var 14), .sint .i64 (.var 15), .sint .i64 (.var 16), .sint .i64 (.var 17), .slx 0 1 (.var 18) (.num 0) (.op1 .len (.var 19)) (.var 20), .sint .i64 (.var 13), .int .i64 0, .int .i64 0, .int .i64 0, .sint .i64 (.var 13), .nilslice, .map 29] 72), (29, .smap false [.int .i64] false [.int .i64] (.var 100))] }, { slots := [(6, .ptr 3 0), (11, .ptr 31 0), (43, .agg [.func (.func 21) [.ptr 31 0] [], .func (.func 22) [.ptr 31 0] [], .func (.func 23) [.ptr 31 0] []]), (44, .int .i64 1)], heap := [(31, .cells [.sint .i64 (.var 2), .sstr (.var 3), .sint .i64 (.var 4), .sint .i64 (.var 5), .sint .i64 (.var 6), .sint .i64 (.var 7), .sint .i64 (.var 9), .sint .i64 (.var 10), .sint .i64 (.var 11), .sint .i64 (.var 12), .sint .i64 (.var 13), .sint .i64 (.var 14), .sint .i64 (.var 15), .sint .i64 (.var 16), .sint .i64 (.var 17), .slx 0 1 (.var 18) (.num 0) (.op1 .len (.var 19)) (.var 20), .sint .i64 (.var 13), .sint .i64 (.app 140 [.var 6, .var 7, .var 4, .var 5, .var 13, .var 11, .var 14, .var 15, .var 16]), .int .i64 0, .int .i64 0, .sint .i64 (.op2 .sub (.var 13) (.app 140 [.var 6, .var 7, .var 4, .var 5, .var 13, .var 11, .var 14, .var 15, .var 16])), .nilslice, .map 29] 72), (29, .smap false [.int .i64] false [.int .i64] (.var 100))] }, { slots := [(6, .ptr 3 0), (11, .ptr 31 0), (43, .agg [.func (.func 21) [.ptr 31 0] [], .func (.func 22) [.ptr 31 0] [], .func (.func 23) [.ptr 31 0] []]), (44, .int .i64 2)], heap := [(31, .cells [.sint .i64 (.var 2), .sstr (.var 3), .sint .i64 (.var 4), .sint .i64 (.var 5), .sint .i64 (.var 6), .sint .i64 (.var 7), .sint .i64 (.var 9), .sint .i64 (.var 10), .sint .i64 (.var 11), .sint .i64 (.var 12), .sint .i64 (.var 13), .sint .i64 (.var 14), .sint .i64 (.var 15), .sint .i64 (.var 16), .sint .i64 (.var 17), .slx 0 1 (.var 18) (.num 0) (.op1 .len (.var 19)) (.var 20), .sint .i64 (.var 13), .sint .i64 (.app 140 [.var 6, .var 7, .var 4, .var 5, .var 13, .var 11, .var 14, .var 15, .var 16]), .sint .i64 (.app 141 [.var 6, .var 7, .var 4, .var 5, .var 13, .var 11, .var 14, .var 15, .var 16]), .int .i64 0, .sint .i64 (.op2 .sub (.op2 .sub (.var 13) (.app 140 [.var 6, .var 7, .var 4, .var 5, .var 13, .var 11, .var 14, .var 15, .var 16])) (.app 141 [.var 6, .var 7, .var 4, .var 5, .var 13, .var 11, .var 14, .var 15, .var 16])), .nilslice, .map 29] 72), (29, .smap false [.int .i64] false [.int .i64] (.var 100))] }, { slots := [(6, .ptr 3 0), (11, .ptr 31 0), (43, .agg [.func (.func 21) [.ptr 31 0] [], .func (.func 22) [.ptr 31 0] [], .func (.func 23) [.ptr 31 0] []]), (44, .int .i64 3)], heap := [(31, .cells [.sint .i64 (.var 2), .sstr (.var 3), .sint .i64 (.var 4), .sint .i64 (.var 5), .sint .i64 (.var 6), .sint .i64 (.var 7), .sint .i64 (.var 9), .sint .i64 (.var 10), .sint .i64 (.var 11), .sint .i64 (.var 12), .sint .i64 (.var 13), .sint .i64 (.var 14), .sint .i64 (.var 15), .sint .i64 (.var 16), .sint .i64 (.var 17), .slx 0 1 (.var 18) (.num 0) (.op1 .len (.var 19)) (.var 20), .sint .i64 (.var 13), .sint .i64 (.app 140 [.var 6, .var 7, .var 4, .var 5, .var 13, .var 11, .var 14, .var 15, .var 16]), .sint .i64 (.app 141 [.var 6, .var 7, .var 4, .var 5, .var 13, .var 11, .var 14, .var 15, .var 16]), .sint .i64 (.app 142 [.var 6, .var 7, .var 4, .var 5, .var 13, .var 11, .var 14, .var 15, .var 16]), .sint .i64 (.app 143 [.var 6, .var 7, .var 4, .var 5, .var 13, .var 11, .var 14, .var 15, .var 16]), .nilslice, .map 29] 72), (29, .smap false [.int .i64] false [.int .i64] (.app 117 [.app 144 [.var 6, .var 7, .var 4, .var 5, .var 13, .var 11, .var 14, .var 15, .var 16, .var 19]]))] }], exits := [(.exit 0, { slots := [(6, .ptr 3 0), (11, .ptr 31 0)], heap := [(31, .cells [.sint .i64 (.var 2), .sstr (.var 3), .sint .i64 (.var 4), .sint .i64 (.var 5), .sint .i64 (.var 6), .sint .i64 (.var 7), .sint .i64 (.var 9), .sint .i64 (.var 10), .sint .i64 (.var 11), .sint .i64 (.var 12), .sint .i64 (.var 13), .sint .i64 (.var 14), .sint .i64 (.var 15), .sint .i64 (.var 16), .sint .i64 (.var 17), .slx 0 1 (.var 18) (.num 0) (.op1 .len (.var 19)) (.var 20), .sint .i64 (.var 13), .sint .i64 (.app 140 [.var 6, .var 7, .var 4, .var 5, .var 13, .var 11, .var 14, .var 15, .var 16]), .sint .i64 (.app 141 [.var 6, .var 7, .var 4, .var 5, .var 13, .var 11, .var 14, .var 15, .var 16]), .sint .i64 (.app 142 [.var 6, .var 7, .var 4, .var 5, .var 13, .var 11, .var 14, .var 15, .var 16]), .sint .i64 (.app 143 [.var 6, .var 7, .var 4, .var 5, .var 13, .var 11, .var 14, .var 15, .var 16]), .nilslice, .map 29] 72), (29, .smap false [.int .i64] false [.int .i64] (.app 117 [.app 144 [.var 6, .var 7, .var 4, .var 5, .var 13, .var 11, .var 14, .var 15, .var 16, .var 19]]))] })], own := [29, 31], pre := [(.app 146 [.var 0, .var 1, .var 2, .var 3, .var 4, .var 5, .var 6, .var 7, .var 8, .var 9, .var 10, .var 11, .var 12, .var 13, .var 14, .var 15, .var 16, .var 17, .var 19], true), (.app 20 [.var 19], true), (.op2 .lt (.num 100) (.op1 .slen (.var 3)), false)] }
noncomputable def lSt_run : Env → AF → ASt → Option (List Out) := bodyRunH LA (fun E => oneH 23 (hooks [(2, lFd_D.hook E.facts fd_vs)])) 9 (fun _ => noLoop) (loopAt Tryz.prog 5 0)
def lSt0_F : List (X × Bool) := [(.app 146 [.var 0, .var 1, .var 2, .var 3, .var 4, .var 5, .var 6, .var 7, .var 8, .var 9, .var 10, .var 11, .var 12, .var 13, .var 14, .var 15, .var 16, .var 17, .var 19], true), (.app 20 [.var 19], true), (.op2 .lt (.num 100) (.op1 .slen (.var 3)), false)]
def lSt1_F : List (X × Bool) := [(.app 146 [.var 0, .var 1, .var 2, .var 3, .var 4, .var 5, .var 6, .var 7, .var 8, .var 9, .var 10, .var 11, .var 12, .var 13, .var 14, .var 15, .var 16, .var 17, .var 19], true), (.app 20 [.var 19], true), (.op2 .lt (.num 100) (.op1 .slen (.var 3)), false)]
def lSt2_F : List (X × Bool) := [(.app 146 [.var 0, .var 1, .var 2, .var 3, .var 4, .var 5, .var 6, .var 7, .var 8, .var 9, .var 10, .var 11, .var 12, .var 13, .var 14, .var 15, .var 16, .var 17, .var 19], true), (.app 20 [.var 19], true), (.op2 .lt (.num 100) (.op1 .slen (.var 3)), false), (.app 147 [.var 6, .var 7, .var 4, .var 5, .var 13, .var 11, .var 14, .var 15, .var 16, .var 100], true)]
def lSt3_F : List (X × Bool) := [(.app 146 [.var 0, .var 1, .var 2, .var 3, .var 4, .var 5, .var 6, .var 7, .var 8, .var 9, .var 10, .var 11, .var 12, .var 13, .var 14, .var 15, .var 16, .var 17, .var 19], true), (.app 20 [.var 19], true), (.op2 .lt (.num 100) (.op1 .slen (.var 3)), false)]
noncomputable def lSt0_t : FTree := (.fork qd25 (.fork qd42 (.fork (.op2 .mhas qd23 qd11) (.fork (.op2 .eq (.op2 (.mat 1) qd23 qd11) (.num 0)) (.leaf [.again 1 []]) (.leaf [.again 1 []])) (.leaf [.again 1 []])) (.fork (.op2 .mhas qd30 qd11) (.fork (.op2 .eq (.op2 (.mat 1) qd30 qd11) (.num 0)) (.leaf [.again 1 []]) (.leaf [.again 1 []])) (.leaf [.again 1 []]))) (.fork qd42 (.fork (.op2 .mhas qd21 qd11) (.fork (.op2 .eq (.op2 (.mat 1) qd21 qd11) (.num 0)) (.leaf [.again 1 []]) (.leaf [.again 1 []])) (.leaf [.again 1 []])) (.fork (.op2 .mhas qd27 qd11) (.fork (.op2 .eq (.op2 (.mat 1) qd27 qd11) (.num 0)) (.leaf [.again 1 []]) (.leaf [.again 1 []])) (.leaf [.again 1 []]))))
noncomputable def lSt0_l : List (List (X × Bool) × Option (List (Tgt × Pairs))) := [([(.op2 .eq (.op2 (.mat 1) qd23 qd11) (.num 0), true), (.op2 .mhas qd23 qd11, true), (qd42, true), (qd25, true), (qd2, true), (qd26, true), (qd8, false)], some [(.again 1 [], [(qd13, qd9), (qd0, qd49), (.var 100, .op2 .mdel qd23 qd11)])]),
  ([(.op2 .eq (.op2 (.mat 1) qd23 qd11) (.num 0), false), (.op2 .mhas qd23 qd11, true), (qd42, true), (qd25, true), (qd2, true), (qd26, true), (qd8, false)], some [(.again 1 [], [(qd13, qd9), (qd0, qd49), (.var 100, qd23)])]),
  ([(.op2 .mhas qd23 qd11, false), (qd42, true), (qd25, true), (qd2, true), (qd26, true), (qd8, false)], some [(.again 1 [], [(qd13, qd9), (qd0, qd49), (.var 100, .op2 .mdel qd23 qd11)])]),
  ([(.op2 .eq (.op2 (.mat 1) qd30 qd11) (.num 0), true), (.op2 .mhas qd30 qd11, true), (qd42, false), (qd25, true), (qd2, true), (qd26, true), (qd8, false)], some [(.again 1 [], [(qd13, qd9), (qd0, qd49), (.var 100, .op2 .mdel qd30 qd11)])]),
  ([(.op2 .eq (.op2 (.mat 1) qd30 qd11) (.num 0), false), (.op2 .mhas qd30 qd11, true), (qd42, false), (qd25, true), (qd2, true), (qd26, true), (qd8, false)], some [(.again 1 [], [(qd13, qd9), (qd0, qd49), (.var 100, qd30)])]),
  ([(.op2 .mhas qd30 qd11, false), (qd42, false), (qd25, true), (qd2, true), (qd26, true), (qd8, false)], some [(.again 1 [], [(qd13, qd9), (qd0, qd49), (.var 100, .op2 .mdel qd30 qd11)])]),
  ([(.op2 .eq (.op2 (.mat 1) qd21 qd11) (.num 0), true), (.op2 .mhas qd21 qd11, true), (qd42, true), (qd25, false), (qd2, true), (qd26, true), (qd8, false)], some [(.again 1 [], [(qd13, qd10), (qd0, qd47), (.var 100, .op2 .mdel qd21 qd11)])]),
  ([(.op2 .eq (.op2 (.mat 1) qd21 qd11) (.num 0), false), (.op2 .mhas qd21 qd11, true), (qd42, true), (qd25, false), (qd2, true), (qd26, true), (qd8, false)], some [(.again 1 [], [(qd13, qd10), (qd0, qd47), (.var 100, qd21)])]),
  ([(.op2 .mhas qd21 qd11, false), (qd42, true), (qd25, false), (qd2, true), (qd26, true), (qd8, false)], some [(.again 1 [], [(qd13, qd10), (qd0, qd47), (.var 100, .op2 .mdel qd21 qd11)])]),
  ([(.op2 .eq (.op2 (.mat 1) qd27 qd11) (.num 0), true), (.op2 .mhas qd27 qd11, true), (qd42, false), (qd25, false), (qd2, true), (qd26, true), (qd8, false)], some [(.again 1 [], [(qd13, qd10), (qd0, qd47), (.var 100, .op2 .mdel qd27 qd11)])]),
  ([(.op2 .eq (.op2 (.mat 1) qd27 qd11) (.num 0), false), (.op2 .mhas qd27 qd11, true), (qd42, false), (qd25, false), (qd2, true), (qd26, true), (qd8, false)], some [(.again 1 [], [(qd13, qd10), (qd0, qd47), (.var 100, qd27)])]),
  ([(.op2 .mhas qd27 qd11, false), (qd42, false), (qd25, false), (qd2, true), (qd26, true), (qd8, false)], some [(.again 1 [], [(qd13, qd10), (qd0, qd47), (.var 100, .op2 .mdel qd27 qd11)])])]
theorem lSt0_w (r : Rho) : lSt_D.ways lSt_run E0 r 0 lSt0_F lSt0_t = some lSt0_l := by kernel_rfl
noncomputable def lSt1_t : FTree := (.fork qd20 (.fork qd43 (.fork (.op2 .mhas qd22 qd12) (.fork (.op2 .eq (.op2 (.mat 1) qd22 qd12) (.num 0)) (.leaf [.again 2 []]) (.leaf [.again 2 []])) (.leaf [.again 2 []])) (.fork (.op2 .mhas qd28 qd12) (.fork (.op2 .eq (.op2 (.mat 1) qd28 qd12) (.num 0)) (.leaf [.again 2 []]) (.leaf [.again 2 []])) (.leaf [.again 2 []]))) (.fork qd43 (.fork (.op2 .mhas qd24 qd12) (.fork (.op2 .eq (.op2 (.mat 1) qd24 qd12) (.num 0)) (.leaf [.again 2 []]) (.leaf [.again 2 []])) (.leaf [.again 2 []])) (.fork (.op2 .mhas qd31 qd12) (.fork (.op2 .eq (.op2 (.mat 1) qd31 qd12) (.num 0)) (.leaf [.again 2 []]) (.leaf [.again 2 []])) (.leaf [.again 2 []]))))
noncomputable def lSt1_l : List (List (X × Bool) × Option (List (Tgt × Pairs))) := [([(.op2 .eq (.op2 (.mat 1) qd22 qd12) (.num 0), true), (.op2 .mhas qd22 qd12, true), (qd43, true), (qd20, true), (qd2, true), (qd26, true), (qd8, false)], some [(.again 2 [], [(qd7, qd15), (qd52, qd53), (.var 100, .op2 .mdel qd22 qd12)])]),
  ([(.op2 .eq (.op2 (.mat 1) qd22 qd12) (.num 0), false), (.op2 .mhas qd22 qd12, true), (qd43, true), (qd20, true), (qd2, true), (qd26, true), (qd8, false)], some [(.again 2 [], [(qd7, qd15), (qd52, qd53), (.var 100, qd22)])]),
  ([(.op2 .mhas qd22 qd12, false), (qd43, true), (qd20, true), (qd2, true), (qd26, true), (qd8, false)], some [(.again 2 [], [(qd7, qd15), (qd52, qd53), (.var 100, .op2 .mdel qd22 qd12)])]),
  ([(.op2 .eq (.op2 (.mat 1) qd28 qd12) (.num 0), true), (.op2 .mhas qd28 qd12, true), (qd43, false), (qd20, true), (qd2, true), (qd26, true), (qd8, false)], some [(.again 2 [], [(qd7, qd15), (qd52, qd53), (.var 100, .op2 .mdel qd28 qd12)])]),
  ([(.op2 .eq (.op2 (.mat 1) qd28 qd12) (.num 0), false), (.op2 .mhas qd28 qd12, true), (qd43, false), (qd20, true), (qd2, true), (qd26, true), (qd8, false)], some [(.again 2 [], [(qd7, qd15), (qd52, qd53), (.var 100, qd28)])]),
  ([(.op2 .mhas qd28 qd12, false), (qd43, false), (qd20, true), (qd2, true), (qd26, true), (qd8, false)], some [(.again 2 [], [(qd7, qd15), (qd52, qd53), (.var 100, .op2 .mdel qd28 qd12)])]),
  ([(.op2 .eq (.op2 (.mat 1) qd24 qd12) (.num 0), true), (.op2 .mhas qd24 qd12, true), (qd43, true), (qd20, false), (qd2, true), (qd26, true), (qd8, false)], some [(.again 2 [], [(qd7, qd4), (qd52, qd54), (.var 100, .op2 .mdel qd24 qd12)])]),
  ([(.op2 .eq (.op2 (.mat 1) qd24 qd12) (.num 0), false), (.op2 .mhas qd24 qd12, true), (qd43, true), (qd20, false), (qd2, true), (qd26, true), (qd8, false)], some [(.again 2 [], [(qd7, qd4), (qd52, qd54), (.var 100, qd24)])]),
  ([(.op2 .mhas qd24 qd12, false), (qd43, true), (qd20, false), (qd2, true), (qd26, true), (qd8, false)], some [(.again 2 [], [(qd7, qd4), (qd52, qd54), (.var 100, .op2 .mdel qd24 qd12)])]),
  ([(.op2 .eq (.op2 (.mat 1) qd31 qd12) (.num 0), true), (.op2 .mhas qd31 qd12, true), (qd43, false), (qd20, false), (qd2, true), (qd26, true), (qd8, false)], some [(.again 2 [], [(qd7, qd4), (qd52, qd54), (.var 100, .op2 .mdel qd31 qd12)])]),
  ([(.op2 .eq (.op2 (.mat 1) qd31 qd12) (.num 0), false), (.op2 .mhas qd31 qd12, true), (qd43, false), (qd20, false), (qd2, true), (qd26, true), (qd8, false)], some [(.again 2 [], [(qd7, qd4), (qd52, qd54), (.var 100, qd31)])]),
  ([(.op2 .mhas qd31 qd12, false), (qd43, false), (qd20, false), (qd2, true), (qd26, true), (qd8, false)], some [(.again 2 [], [(qd7, qd4), (qd52, qd54), (.var 100, .op2 .mdel qd31 qd12)])])]
theorem lSt1_w (r : Rho) : lSt_D.ways lSt_run E0 r 1 lSt1_F lSt1_t = some lSt1_l := by kernel_rfl
noncomputable def lSt2_t : FTree := (.fork (.op2 .eq (.var 5) (.num 0)) .bad (.fork (.app 10 [qd3, .num 0, .num 1000000000]) (.fork (.app 10 [.op1 .len (.var 19), .num 1, .num 40]) (.leaf [.again 3 []]) .bad) .bad))
noncomputable def lSt2_l : List (List (X × Bool) × Option (List (Tgt × Pairs))) := [([(.op2 .eq (.var 5) (.num 0), true), (qd2, true), (qd26, true), (qd8, false), (qd39, true)], none),
  ([(.app 10 [.op1 .len (.var 19), .num 1, .num 40], true), (.app 10 [qd3, .num 0, .num 1000000000], true), (.op2 .eq (.var 5) (.num 0), false), (qd2, true), (qd26, true), (qd8, false), (qd39, true)], some [(.again 3 [], [(qd17, qd3), (qd18, .op1 (.wrap .i64) (.op2 .sub qd52 qd3))])]),
  ([(.app 10 [.op1 .len (.var 19), .num 1, .num 40], false), (.app 10 [qd3, .num 0, .num 1000000000], true), (.op2 .eq (.var 5) (.num 0), false), (qd2, true), (qd26, true), (qd8, false), (qd39, true)], none),
  ([(.app 10 [qd3, .num 0, .num 1000000000], false), (.op2 .eq (.var 5) (.num 0), false), (qd2, true), (qd26, true), (qd8, false), (qd39, true)], none)]
theorem lSt2_w (r : Rho) : lSt_D.ways lSt_run E0 r 2 lSt2_F lSt2_t = some lSt2_l := by kernel_rfl
noncomputable def lSt3_t : FTree := (.leaf [.leave 0 []])
noncomputable def lSt3_l : List (List (X × Bool) × Option (List (Tgt × Pairs))) := [([(qd2, true), (qd26, true), (qd8, false)], some [(.leave 0 [], [])])]
theorem lSt3_w (r : Rho) : lSt_D.ways lSt_run E0 r 3 lSt3_F lSt3_t = some lSt3_l := by kernel_rfl
theorem lSt_ok : lSt_D.ok = true := by kernel_rfl
def lSt_Inv (r : Rat9) (s : Sal9) (j : Nat) (vals : List Value) : Prop :=
  (j = 0 ∧ vals = [shrsR []]) ∨ (j = 1 ∧ vals = [shrsR (accB [] [⟨s.carter, cart9 (divOf r s)⟩])]) ∨ (j = 2 ∧ vals = [shrsR (accB [] (payTo (divOf r s) [] 0))]) ∨ (j = 3 ∧ vals = [shrsR []])
def lSt_mu (j : Nat) (_ : List Value) : Nat := 3 - j
set_option maxHeartbeats 4000000 in
theorem lSt_step0 {ρ : Rho} {r : Rat9} {s : Sal9} {l : List Who} {kr ks : Nat → IntKind} (hr : Rat9At ρ 0 kr r) (hs : Sal9At ρ 9 ks s) (h19 : ρ.val 19 = some (whosR l)) (hsy : ρ.sym = sy) (hg : givesB r s l = true) (hsh : shortB l = true) (hgd : (r.goods.size : Int) ≤ 100) :
    StepOk lSt_D lSt_run E0 ρ (lSt_Inv r s) lSt_mu 0 [shrsR []] := by
  have hN : lSt_D.N = 100 := rfl
  have g := gives_good hg
  obtain ⟨v0, v1, v2, v3, v4, v5, v6, v7, v8, v9, v10, v11, v12, v13, v14, v15, v16, v17, v19⟩ := ext_all lSt_D.N [shrsR []] (by rw [hN]; omega) hr hs h19
  have vs : (ρ.ext lSt_D.N [shrsR []]).sym = sy := hsy
  have v100 : (ρ.ext lSt_D.N [shrsR []]).val 100 = some (shrsR []) := by rw [ext_high _ _ _ _ (by rw [hN]; omega)]; rfl
  have u4 : ∀ vals', (ρ.ext lSt_D.N vals').val 4 = some (.int (kr 4) r.num) := fun vals' => by rw [ext_low _ _ _ _ (by rw [hN]; omega)]; exact hr.h4
  have u5 : ∀ vals', (ρ.ext lSt_D.N vals').val 5 = some (.int (kr 5) r.den) := fun vals' => by rw [ext_low _ _ _ _ (by rw [hN]; omega)]; exact hr.h5
  have u6 : ∀ vals', (ρ.ext lSt_D.N vals').val 6 = some (.int (kr 6) r.cart) := fun vals' => by rw [ext_low _ _ _ _ (by rw [hN]; omega)]; exact hr.h6
  have u7 : ∀ vals', (ρ.ext lSt_D.N vals').val 7 = some (.int (kr 7) r.store) := fun vals' => by rw [ext_low _ _ _ _ (by rw [hN]; omega)]; exact hr.h7
  have u11 : ∀ vals', (ρ.ext lSt_D.N vals').val 11 = some (.int (ks 2) s.hour) := fun vals' => by rw [ext_low _ _ _ _ (by rw [hN]; omega)]; exact hs.h2
  have u13 : ∀ vals', (ρ.ext lSt_D.N vals').val 13 = some (.int (ks 4) s.price) := fun vals' => by rw [ext_low _ _ _ _ (by rw [hN]; omega)]; exact hs.h4
  have u14 : ∀ vals', (ρ.ext lSt_D.N vals').val 14 = some (.int (ks 5) s.carter) := fun vals' => by rw [ext_low _ _ _ _ (by rw [hN]; omega)]; exact hs.h5
  have u15 : ∀ vals', (ρ.ext lSt_D.N vals').val 15 = some (.int (ks 6) s.keeper) := fun vals' => by rw [ext_low _ _ _ _ (by rw [hN]; omega)]; exact hs.h6
  have u16 : ∀ vals', (ρ.ext lSt_D.N vals').val 16 = some (.int (ks 7) s.since) := fun vals' => by rw [ext_low _ _ _ _ (by rw [hN]; omega)]; exact hs.h7
  have u19 : ∀ vals', (ρ.ext lSt_D.N vals').val 19 = some (whosR l) := fun vals' => by rw [ext_low _ _ _ _ (by rw [hN]; omega)]; exact h19
  have us : ∀ vals', (ρ.ext lSt_D.N vals').sym = sy := fun _ => hsy
  obtain ⟨r0, r1, r2, r3, r4, r5, r6, r7, r8, r9, r10, r11, r12, r13, r14, r15, r16, r17, r19⟩ := at_all hr hs h19
  have hgd' : ¬ (100 : Int) < r.goods.size := by omega
  have hF : FactsIn (ρ.ext lSt_D.N [shrsR []]) lSt0_F := by
    simp only [lSt0_F, FactsIn, X.bool, X.den, denL, dX, denSub, denIte, asB, dY, v0, v1, v2, v3, v4, v5, v6, v7, v8, v9, v10, v11, v12, v13, v14, v15, v16, v17, v19, v100, vs, sym20, sym102, sym130, sym131, sym146, sym147, sym140, sym141, sym142, sym143, sym144, sym117, sym115, sym10, sym100, sym113, sym114, hg, hsh, hgd', decide_false, and_self]
  suffices both : AsksL (ρ.ext lSt_D.N [shrsR []]) (lSt0_t.asks lSt0_F) ∧ WaysOk lSt_D ρ (lSt_Inv r s) lSt_mu 0 [shrsR []] lSt0_l from step_of_ways (lSt0_w _) hF both.1.ok both.2
  have hci := cart_in g
  have hst := stor_in g
  have c9 : cart9 ⟨r.cart, r.store, r.num, r.den, s.price, s.hour, s.carter, s.keeper, s.since⟩ = cart9 (divOf r s) := rfl
  have s9 : stor9 ⟨r.cart, r.store, r.num, r.den, s.price, s.hour, s.carter, s.keeper, s.since⟩ = stor9 (divOf r s) := rfl
  obtain ⟨w1, w2, w3, w4, w5⟩ := stor_wraps g
  simp only [divOf] at w1 w2 w3 w4 w5
  have cdef : cart9 (divOf r s) = min (if s.carter = 0 then 0 else r.cart) s.price := rfl
  have sdef : stor9 (divOf r s) = min (if s.keeper = 0 then 0 else r.store * (s.hour - s.since + 99).tdiv 100) (s.price - cart9 (divOf r s)) := rfl
  have hpd : (divOf r s).p = s.price := rfl
  rw [hpd] at hci hst
  have hpm : s.price ≤ 1000000000 := g.2.2.2.2.1.2
  have hp0 : 1 ≤ s.price := g.2.2.2.2.1.1
  have go : ∀ mm, mm = accB [] [⟨s.carter, cart9 (divOf r s)⟩] → ∃ vals', (ρ.ext lSt_D.N vals').val 100 = some (shrsR mm) ∧ lSt_Inv r s 1 vals' ∧ lSt_mu 1 vals' < lSt_mu 0 [shrsR []] := by
    rintro mm rfl
    refine ⟨[shrsR (accB [] [⟨s.carter, cart9 (divOf r s)⟩])], ?_, ?_, ?_⟩
    · rw [ext_high _ _ _ _ (by rw [hN]; omega)]; rfl
    · simp [lSt_Inv]
    · simp [lSt_mu]
  have hmu : lSt_mu 0 [shrsR []] = 3 := rfl
  rw [hmu] at go
  have hacc : AccOk 0 ([] : List Shr) := ⟨Nat.le_refl 0, fun x hx => by cases hx⟩
  generalize hm : ([] : List Shr) = m at hacc v0 v1 v2 v3 v4 v5 v6 v7 v8 v9 v10 v11 v12 v13 v14 v15 v16 v17 v19 v100 vs hF ⊢
  have hnext : accB [] [⟨s.carter, cart9 (divOf r s)⟩] = addK m s.carter (cart9 (divOf r s)) := by rw [← hm]; rfl
  have hat := acc_at hacc s.carter
  have hgp : ∀ v, den2 (.mat 1) (shrsR (putK s.carter v m)) (whosR [⟨s.carter⟩]) = some (.int .i64 v) := fun v => by rw [d_atS, has_put, at_put]; rfl
  obtain ⟨v', hev, hv, hk, hq, hvi⟩ | ⟨v', hev, hv, hk, hq, hvi⟩ | ⟨v', hev, hv, hk, hq, hvi⟩ : (∃ v', v' = (0 : Int) ∧ cart9 (divOf r s) = v' ∧ (s.carter = 0) = True ∧ (s.price < 0) = False ∧ 0 ≤ v' ∧ v' ≤ 1000000000) ∨ (∃ v', v' = s.price ∧ cart9 (divOf r s) = v' ∧ (s.carter = 0) = False ∧ (s.price < r.cart) = True ∧ 0 ≤ v' ∧ v' ≤ 1000000000) ∨ (∃ v', v' = r.cart ∧ cart9 (divOf r s) = v' ∧ (s.carter = 0) = False ∧ (s.price < r.cart) = False ∧ 0 ≤ v' ∧ v' ≤ 1000000000) := by
    have hrc := g.1
    simp only [divOf] at hrc
    by_cases hk : s.carter = 0
    · rw [if_pos hk] at cdef
      exact .inl ⟨0, rfl, by omega, eq_true hk, eq_false (by omega), by omega, by omega⟩
    · rw [if_neg hk] at cdef
      by_cases hq : s.price < r.cart
      · exact .inr (.inl ⟨_, rfl, by omega, eq_false hk, eq_true hq, by omega, by omega⟩)
      · exact .inr (.inr ⟨_, rfl, by omega, eq_false hk, eq_false hq, by omega, by omega⟩)
  all_goals
    have wv : IntKind.i64.wrap (atK m s.carter + v') = atK m s.carter + v' := IntWalk.i64_in _ (by omega)
    have wr : IntKind.i64.wrap (s.price - v') = s.price - v' := IntWalk.i64_in _ (by omega)
    have w0 : IntKind.i64.wrap (0 + v') = v' := by rw [IntWalk.i64_in _ (by omega)]; omega
    have hnx : accB [] [⟨s.carter, cart9 (divOf r s)⟩] = addK m s.carter v' := hnext.trans (congrArg (addK m s.carter) hv)
    have hz : atK m s.carter + v' = 0 → delK s.carter (putK s.carter (atK m s.carter + v') m) = accB [] [⟨s.carter, cart9 (divOf r s)⟩] := fun h => by rw [hnx]; unfold addK; rw [if_pos h]
    have hnz : ¬ atK m s.carter + v' = 0 → putK s.carter (atK m s.carter + v') m = accB [] [⟨s.carter, cart9 (divOf r s)⟩] := fun h => by rw [hnx]; unfold addK; rw [if_neg h]
    cases hh : hasK m s.carter with
    | true =>
      have hgm : den2 (.mat 1) (shrsR m) (whosR [⟨s.carter⟩]) = some (.int .i64 (atK m s.carter)) := by rw [d_atS, hh]; rfl
      subst hev
      refine ⟨?_, ?_⟩
      all_goals (simp only [lSt0_t, qd56, qd55, qd54, qd53, qd52, qd51, qd50, qd49, qd48, qd47, qd46, qd45, qd44, qd43, qd42, qd41, qd40, qd39, qd38, qd37, qd36, qd35, qd34, qd33, qd32, qd31, qd30, qd29, qd28, qd27, qd26, qd25, qd24, qd23, qd22, qd21, qd20, qd19, qd18, qd17, qd16, qd15, qd14, qd13, qd12, qd11, qd10, qd9, qd8, qd7, qd6, qd5, qd4, qd3, qd2, qd1, qd0, lSt0_F, lSt0_l, AsksL, GTree.asks, FTree.asks, FactsIn, List.append_nil, List.nil_append, List.cons_append, Option.some.injEq, exists_eq', implies_true, and_self, X.bool, X.den, denL, dX, denSub, denIte, asB, dY, d_hasS, d_putS, d_delS, has_put, whos_snocN, whos_snoc0N, shrs_snocN, shrs_snoc0N, EndsOk, WaysOk, forall_cons, forall_nil, TgtOk, gpair, FactsIn, hold_cons, hold_nil, Option.some.injEq, dZ, X.bool, X.den, denL, dX, denSub, denIte, asB, dY, beq_iff_eq, beq_eq_false_iff_ne, ne_eq, d_hasS, d_putS, d_delS, has_put, whos_snocN, whos_snoc0N, shrs_snocN, shrs_snoc0N, beq_iff_eq, beq_eq_false_iff_ne, ne_eq, v0, v1, v2, v3, v4, v5, v6, v7, v8, v9, v10, v11, v12, v13, v14, v15, v16, v17, v19, v100, vs, u4, u5, u6, u7, u11, u13, u14, u15, u16, u19, us, r0, r1, r2, r3, r4, r5, r6, r7, r8, r9, r10, r11, r12, r13, r14, r15, r16, r17, r19, hsy, sym20, sym102, sym130, sym131, sym146, sym147, sym140, sym141, sym142, sym143, sym144, sym117, sym115, sym10, sym100, sym113, sym114, c9, s9, hh, hgm, hgp, wv, wr, w1, w2, w3, w4, w5, hk, hq, hv, decide_true, decide_false, reduceCtorEq, Bool.false_eq_true, false_implies, implies_true, true_implies, and_self, and_true, true_and])
      all_goals (clear v100 v0 v1 v2 v3 v4 v5 v6 v7 v8 v9 v10 v11 v12 v13 v14 v15 v16 v17 v19 vs r0 r1 r2 r3 r4 r5 r6 r7 r8 r9 r10 r11 r12 r13 r14 r15 r16 r17 r19 hr hs h19 hsy hF hgm hgp us u4 u5 u6 u7 u11 u13 u14 u15 u16 u19)
      all_goals ((repeat' apply And.intro) <;> intros <;> first
        | trivial
        | (exfalso; omega)
        | (exact absurd trivial (by assumption))
        | (exact go _ (hz (by assumption)))
        | (exact go _ (hnz (by assumption))))
    | false =>
      have h0 := at_none hh
      rw [h0, Int.zero_add] at hz hnz
      subst hev
      refine ⟨?_, ?_⟩
      all_goals (simp only [lSt0_t, qd56, qd55, qd54, qd53, qd52, qd51, qd50, qd49, qd48, qd47, qd46, qd45, qd44, qd43, qd42, qd41, qd40, qd39, qd38, qd37, qd36, qd35, qd34, qd33, qd32, qd31, qd30, qd29, qd28, qd27, qd26, qd25, qd24, qd23, qd22, qd21, qd20, qd19, qd18, qd17, qd16, qd15, qd14, qd13, qd12, qd11, qd10, qd9, qd8, qd7, qd6, qd5, qd4, qd3, qd2, qd1, qd0, lSt0_F, lSt0_l, AsksL, GTree.asks, FTree.asks, FactsIn, List.append_nil, List.nil_append, List.cons_append, Option.some.injEq, exists_eq', implies_true, and_self, X.bool, X.den, denL, dX, denSub, denIte, asB, dY, d_hasS, d_putS, d_delS, has_put, whos_snocN, whos_snoc0N, shrs_snocN, shrs_snoc0N, EndsOk, WaysOk, forall_cons, forall_nil, TgtOk, gpair, FactsIn, hold_cons, hold_nil, Option.some.injEq, dZ, X.bool, X.den, denL, dX, denSub, denIte, asB, dY, beq_iff_eq, beq_eq_false_iff_ne, ne_eq, d_hasS, d_putS, d_delS, has_put, whos_snocN, whos_snoc0N, shrs_snocN, shrs_snoc0N, beq_iff_eq, beq_eq_false_iff_ne, ne_eq, v0, v1, v2, v3, v4, v5, v6, v7, v8, v9, v10, v11, v12, v13, v14, v15, v16, v17, v19, v100, vs, u4, u5, u6, u7, u11, u13, u14, u15, u16, u19, us, r0, r1, r2, r3, r4, r5, r6, r7, r8, r9, r10, r11, r12, r13, r14, r15, r16, r17, r19, hsy, sym20, sym102, sym130, sym131, sym146, sym147, sym140, sym141, sym142, sym143, sym144, sym117, sym115, sym10, sym100, sym113, sym114, c9, s9, hh, hgp, w0, wr, w1, w2, w3, w4, w5, hk, hq, hv, decide_true, decide_false, reduceCtorEq, Bool.false_eq_true, false_implies, implies_true, true_implies, and_self, and_true, true_and])
      all_goals (clear v100 v0 v1 v2 v3 v4 v5 v6 v7 v8 v9 v10 v11 v12 v13 v14 v15 v16 v17 v19 vs r0 r1 r2 r3 r4 r5 r6 r7 r8 r9 r10 r11 r12 r13 r14 r15 r16 r17 r19 hr hs h19 hsy hF hgp us u4 u5 u6 u7 u11 u13 u14 u15 u16 u19)
      all_goals ((repeat' apply And.intro) <;> intros <;> first
        | trivial
        | (exfalso; omega)
        | (exact absurd trivial (by assumption))
        | (exact go _ (hz (by assumption)))
        | (exact go _ (hnz (by assumption))))
set_option maxHeartbeats 4000000 in
theorem lSt_step1 {ρ : Rho} {r : Rat9} {s : Sal9} {l : List Who} {kr ks : Nat → IntKind} (hr : Rat9At ρ 0 kr r) (hs : Sal9At ρ 9 ks s) (h19 : ρ.val 19 = some (whosR l)) (hsy : ρ.sym = sy) (hg : givesB r s l = true) (hsh : shortB l = true) (hgd : (r.goods.size : Int) ≤ 100) :
    StepOk lSt_D lSt_run E0 ρ (lSt_Inv r s) lSt_mu 1 [shrsR (accB [] [⟨s.carter, cart9 (divOf r s)⟩])] := by
  have hN : lSt_D.N = 100 := rfl
  have g := gives_good hg
  obtain ⟨v0, v1, v2, v3, v4, v5, v6, v7, v8, v9, v10, v11, v12, v13, v14, v15, v16, v17, v19⟩ := ext_all lSt_D.N [shrsR (accB [] [⟨s.carter, cart9 (divOf r s)⟩])] (by rw [hN]; omega) hr hs h19
  have vs : (ρ.ext lSt_D.N [shrsR (accB [] [⟨s.carter, cart9 (divOf r s)⟩])]).sym = sy := hsy
  have v100 : (ρ.ext lSt_D.N [shrsR (accB [] [⟨s.carter, cart9 (divOf r s)⟩])]).val 100 = some (shrsR (accB [] [⟨s.carter, cart9 (divOf r s)⟩])) := by rw [ext_high _ _ _ _ (by rw [hN]; omega)]; rfl
  have u4 : ∀ vals', (ρ.ext lSt_D.N vals').val 4 = some (.int (kr 4) r.num) := fun vals' => by rw [ext_low _ _ _ _ (by rw [hN]; omega)]; exact hr.h4
  have u5 : ∀ vals', (ρ.ext lSt_D.N vals').val 5 = some (.int (kr 5) r.den) := fun vals' => by rw [ext_low _ _ _ _ (by rw [hN]; omega)]; exact hr.h5
  have u6 : ∀ vals', (ρ.ext lSt_D.N vals').val 6 = some (.int (kr 6) r.cart) := fun vals' => by rw [ext_low _ _ _ _ (by rw [hN]; omega)]; exact hr.h6
  have u7 : ∀ vals', (ρ.ext lSt_D.N vals').val 7 = some (.int (kr 7) r.store) := fun vals' => by rw [ext_low _ _ _ _ (by rw [hN]; omega)]; exact hr.h7
  have u11 : ∀ vals', (ρ.ext lSt_D.N vals').val 11 = some (.int (ks 2) s.hour) := fun vals' => by rw [ext_low _ _ _ _ (by rw [hN]; omega)]; exact hs.h2
  have u13 : ∀ vals', (ρ.ext lSt_D.N vals').val 13 = some (.int (ks 4) s.price) := fun vals' => by rw [ext_low _ _ _ _ (by rw [hN]; omega)]; exact hs.h4
  have u14 : ∀ vals', (ρ.ext lSt_D.N vals').val 14 = some (.int (ks 5) s.carter) := fun vals' => by rw [ext_low _ _ _ _ (by rw [hN]; omega)]; exact hs.h5
  have u15 : ∀ vals', (ρ.ext lSt_D.N vals').val 15 = some (.int (ks 6) s.keeper) := fun vals' => by rw [ext_low _ _ _ _ (by rw [hN]; omega)]; exact hs.h6
  have u16 : ∀ vals', (ρ.ext lSt_D.N vals').val 16 = some (.int (ks 7) s.since) := fun vals' => by rw [ext_low _ _ _ _ (by rw [hN]; omega)]; exact hs.h7
  have u19 : ∀ vals', (ρ.ext lSt_D.N vals').val 19 = some (whosR l) := fun vals' => by rw [ext_low _ _ _ _ (by rw [hN]; omega)]; exact h19
  have us : ∀ vals', (ρ.ext lSt_D.N vals').sym = sy := fun _ => hsy
  obtain ⟨r0, r1, r2, r3, r4, r5, r6, r7, r8, r9, r10, r11, r12, r13, r14, r15, r16, r17, r19⟩ := at_all hr hs h19
  have hgd' : ¬ (100 : Int) < r.goods.size := by omega
  have hF : FactsIn (ρ.ext lSt_D.N [shrsR (accB [] [⟨s.carter, cart9 (divOf r s)⟩])]) lSt1_F := by
    simp only [lSt1_F, FactsIn, X.bool, X.den, denL, dX, denSub, denIte, asB, dY, v0, v1, v2, v3, v4, v5, v6, v7, v8, v9, v10, v11, v12, v13, v14, v15, v16, v17, v19, v100, vs, sym20, sym102, sym130, sym131, sym146, sym147, sym140, sym141, sym142, sym143, sym144, sym117, sym115, sym10, sym100, sym113, sym114, hg, hsh, hgd', decide_false, and_self]
  suffices both : AsksL (ρ.ext lSt_D.N [shrsR (accB [] [⟨s.carter, cart9 (divOf r s)⟩])]) (lSt1_t.asks lSt1_F) ∧ WaysOk lSt_D ρ (lSt_Inv r s) lSt_mu 1 [shrsR (accB [] [⟨s.carter, cart9 (divOf r s)⟩])] lSt1_l from step_of_ways (lSt1_w _) hF both.1.ok both.2
  have hci := cart_in g
  have hst := stor_in g
  have c9 : cart9 ⟨r.cart, r.store, r.num, r.den, s.price, s.hour, s.carter, s.keeper, s.since⟩ = cart9 (divOf r s) := rfl
  have s9 : stor9 ⟨r.cart, r.store, r.num, r.den, s.price, s.hour, s.carter, s.keeper, s.since⟩ = stor9 (divOf r s) := rfl
  obtain ⟨w1, w2, w3, w4, w5⟩ := stor_wraps g
  simp only [divOf] at w1 w2 w3 w4 w5
  have cdef : cart9 (divOf r s) = min (if s.carter = 0 then 0 else r.cart) s.price := rfl
  have sdef : stor9 (divOf r s) = min (if s.keeper = 0 then 0 else r.store * (s.hour - s.since + 99).tdiv 100) (s.price - cart9 (divOf r s)) := rfl
  have hpd : (divOf r s).p = s.price := rfl
  rw [hpd] at hci hst
  have hpm : s.price ≤ 1000000000 := g.2.2.2.2.1.2
  have hp0 : 1 ≤ s.price := g.2.2.2.2.1.1
  have go : ∀ mm, mm = accB [] (payTo (divOf r s) [] 0) → ∃ vals', (ρ.ext lSt_D.N vals').val 100 = some (shrsR mm) ∧ lSt_Inv r s 2 vals' ∧ lSt_mu 2 vals' < lSt_mu 1 [shrsR (accB [] [⟨s.carter, cart9 (divOf r s)⟩])] := by
    rintro mm rfl
    refine ⟨[shrsR (accB [] (payTo (divOf r s) [] 0))], ?_, ?_, ?_⟩
    · rw [ext_high _ _ _ _ (by rw [hN]; omega)]; rfl
    · simp [lSt_Inv]
    · simp [lSt_mu]
  have hmu : lSt_mu 1 [shrsR (accB [] [⟨s.carter, cart9 (divOf r s)⟩])] = 2 := rfl
  rw [hmu] at go
  have hacc : AccOk 1 (accB [] [⟨s.carter, cart9 (divOf r s)⟩]) := by
    have h := acc_add (n := 0) (m := []) ⟨Nat.le_refl 0, fun x hx => by cases hx⟩ (k := s.carter) (v := cart9 (divOf r s)) g.2.2.2.2.2.2.1 (by omega)
    exact h
  generalize hm : accB [] [⟨s.carter, cart9 (divOf r s)⟩] = m at hacc v0 v1 v2 v3 v4 v5 v6 v7 v8 v9 v10 v11 v12 v13 v14 v15 v16 v17 v19 v100 vs hF ⊢
  have hnext : accB [] (payTo (divOf r s) [] 0) = addK m s.keeper (stor9 (divOf r s)) := by rw [← hm]; rfl
  have hat := acc_at hacc s.keeper
  have hgp : ∀ v, den2 (.mat 1) (shrsR (putK s.keeper v m)) (whosR [⟨s.keeper⟩]) = some (.int .i64 v) := fun v => by rw [d_atS, has_put, at_put]; rfl
  obtain ⟨v', hev, hv, hk, hq, hvi⟩ | ⟨v', hev, hv, hk, hq, hvi⟩ | ⟨v', hev, hv, hk, hq, hvi⟩ : (∃ v', v' = (0 : Int) ∧ stor9 (divOf r s) = v' ∧ (s.keeper = 0) = True ∧ (s.price - cart9 (divOf r s) < 0) = False ∧ 0 ≤ v' ∧ v' ≤ s.price - cart9 (divOf r s)) ∨ (∃ v', v' = s.price - cart9 (divOf r s) ∧ stor9 (divOf r s) = v' ∧ (s.keeper = 0) = False ∧ (s.price - cart9 (divOf r s) < r.store * (s.hour - s.since + 99).tdiv 100) = True ∧ 0 ≤ v' ∧ v' ≤ s.price - cart9 (divOf r s)) ∨ (∃ v', v' = r.store * (s.hour - s.since + 99).tdiv 100 ∧ stor9 (divOf r s) = v' ∧ (s.keeper = 0) = False ∧ (s.price - cart9 (divOf r s) < r.store * (s.hour - s.since + 99).tdiv 100) = False ∧ 0 ≤ v' ∧ v' ≤ s.price - cart9 (divOf r s)) := by
    by_cases hk : s.keeper = 0
    · rw [if_pos hk] at sdef
      exact .inl ⟨0, rfl, by omega, eq_true hk, eq_false (by omega), by omega, by omega⟩
    · rw [if_neg hk] at sdef
      by_cases hq : s.price - cart9 (divOf r s) < r.store * (s.hour - s.since + 99).tdiv 100
      · exact .inr (.inl ⟨_, rfl, by omega, eq_false hk, eq_true hq, by omega, by omega⟩)
      · exact .inr (.inr ⟨_, rfl, by omega, eq_false hk, eq_false hq, by omega, by omega⟩)
  all_goals
    have wv : IntKind.i64.wrap (atK m s.keeper + v') = atK m s.keeper + v' := IntWalk.i64_in _ (by omega)
    have wr : IntKind.i64.wrap (s.price - cart9 (divOf r s) - v') = s.price - cart9 (divOf r s) - v' := IntWalk.i64_in _ (by omega)
    have w0 : IntKind.i64.wrap (0 + v') = v' := by rw [IntWalk.i64_in _ (by omega)]; omega
    have hnx : accB [] (payTo (divOf r s) [] 0) = addK m s.keeper v' := hnext.trans (congrArg (addK m s.keeper) hv)
    have hz : atK m s.keeper + v' = 0 → delK s.keeper (putK s.keeper (atK m s.keeper + v') m) = accB [] (payTo (divOf r s) [] 0) := fun h => by rw [hnx]; unfold addK; rw [if_pos h]
    have hnz : ¬ atK m s.keeper + v' = 0 → putK s.keeper (atK m s.keeper + v') m = accB [] (payTo (divOf r s) [] 0) := fun h => by rw [hnx]; unfold addK; rw [if_neg h]
    cases hh : hasK m s.keeper with
    | true =>
      have hgm : den2 (.mat 1) (shrsR m) (whosR [⟨s.keeper⟩]) = some (.int .i64 (atK m s.keeper)) := by rw [d_atS, hh]; rfl
      subst hev
      refine ⟨?_, ?_⟩
      all_goals (simp only [lSt1_t, qd56, qd55, qd54, qd53, qd52, qd51, qd50, qd49, qd48, qd47, qd46, qd45, qd44, qd43, qd42, qd41, qd40, qd39, qd38, qd37, qd36, qd35, qd34, qd33, qd32, qd31, qd30, qd29, qd28, qd27, qd26, qd25, qd24, qd23, qd22, qd21, qd20, qd19, qd18, qd17, qd16, qd15, qd14, qd13, qd12, qd11, qd10, qd9, qd8, qd7, qd6, qd5, qd4, qd3, qd2, qd1, qd0, lSt1_F, lSt1_l, AsksL, GTree.asks, FTree.asks, FactsIn, List.append_nil, List.nil_append, List.cons_append, Option.some.injEq, exists_eq', implies_true, and_self, X.bool, X.den, denL, dX, denSub, denIte, asB, dY, d_hasS, d_putS, d_delS, has_put, whos_snocN, whos_snoc0N, shrs_snocN, shrs_snoc0N, EndsOk, WaysOk, forall_cons, forall_nil, TgtOk, gpair, FactsIn, hold_cons, hold_nil, Option.some.injEq, dZ, X.bool, X.den, denL, dX, denSub, denIte, asB, dY, beq_iff_eq, beq_eq_false_iff_ne, ne_eq, d_hasS, d_putS, d_delS, has_put, whos_snocN, whos_snoc0N, shrs_snocN, shrs_snoc0N, beq_iff_eq, beq_eq_false_iff_ne, ne_eq, v0, v1, v2, v3, v4, v5, v6, v7, v8, v9, v10, v11, v12, v13, v14, v15, v16, v17, v19, v100, vs, u4, u5, u6, u7, u11, u13, u14, u15, u16, u19, us, r0, r1, r2, r3, r4, r5, r6, r7, r8, r9, r10, r11, r12, r13, r14, r15, r16, r17, r19, hsy, sym20, sym102, sym130, sym131, sym146, sym147, sym140, sym141, sym142, sym143, sym144, sym117, sym115, sym10, sym100, sym113, sym114, c9, s9, hh, hgm, hgp, wv, wr, w1, w2, w3, w4, w5, hk, hq, hv, decide_true, decide_false, reduceCtorEq, Bool.false_eq_true, false_implies, implies_true, true_implies, and_self, and_true, true_and])
      all_goals (clear v100 v0 v1 v2 v3 v4 v5 v6 v7 v8 v9 v10 v11 v12 v13 v14 v15 v16 v17 v19 vs r0 r1 r2 r3 r4 r5 r6 r7 r8 r9 r10 r11 r12 r13 r14 r15 r16 r17 r19 hr hs h19 hsy hF hgm hgp us u4 u5 u6 u7 u11 u13 u14 u15 u16 u19)
      all_goals ((repeat' apply And.intro) <;> intros <;> first
        | trivial
        | (exfalso; omega)
        | (exact absurd trivial (by assumption))
        | (exact go _ (hz (by assumption)))
        | (exact go _ (hnz (by assumption))))
    | false =>
      have h0 := at_none hh
      rw [h0, Int.zero_add] at hz hnz
      subst hev
      refine ⟨?_, ?_⟩
      all_goals (simp only [lSt1_t, qd56, qd55, qd54, qd53, qd52, qd51, qd50, qd49, qd48, qd47, qd46, qd45, qd44, qd43, qd42, qd41, qd40, qd39, qd38, qd37, qd36, qd35, qd34, qd33, qd32, qd31, qd30, qd29, qd28, qd27, qd26, qd25, qd24, qd23, qd22, qd21, qd20, qd19, qd18, qd17, qd16, qd15, qd14, qd13, qd12, qd11, qd10, qd9, qd8, qd7, qd6, qd5, qd4, qd3, qd2, qd1, qd0, lSt1_F, lSt1_l, AsksL, GTree.asks, FTree.asks, FactsIn, List.append_nil, List.nil_append, List.cons_append, Option.some.injEq, exists_eq', implies_true, and_self, X.bool, X.den, denL, dX, denSub, denIte, asB, dY, d_hasS, d_putS, d_delS, has_put, whos_snocN, whos_snoc0N, shrs_snocN, shrs_snoc0N, EndsOk, WaysOk, forall_cons, forall_nil, TgtOk, gpair, FactsIn, hold_cons, hold_nil, Option.some.injEq, dZ, X.bool, X.den, denL, dX, denSub, denIte, asB, dY, beq_iff_eq, beq_eq_false_iff_ne, ne_eq, d_hasS, d_putS, d_delS, has_put, whos_snocN, whos_snoc0N, shrs_snocN, shrs_snoc0N, beq_iff_eq, beq_eq_false_iff_ne, ne_eq, v0, v1, v2, v3, v4, v5, v6, v7, v8, v9, v10, v11, v12, v13, v14, v15, v16, v17, v19, v100, vs, u4, u5, u6, u7, u11, u13, u14, u15, u16, u19, us, r0, r1, r2, r3, r4, r5, r6, r7, r8, r9, r10, r11, r12, r13, r14, r15, r16, r17, r19, hsy, sym20, sym102, sym130, sym131, sym146, sym147, sym140, sym141, sym142, sym143, sym144, sym117, sym115, sym10, sym100, sym113, sym114, c9, s9, hh, hgp, w0, wr, w1, w2, w3, w4, w5, hk, hq, hv, decide_true, decide_false, reduceCtorEq, Bool.false_eq_true, false_implies, implies_true, true_implies, and_self, and_true, true_and])
      all_goals (clear v100 v0 v1 v2 v3 v4 v5 v6 v7 v8 v9 v10 v11 v12 v13 v14 v15 v16 v17 v19 vs r0 r1 r2 r3 r4 r5 r6 r7 r8 r9 r10 r11 r12 r13 r14 r15 r16 r17 r19 hr hs h19 hsy hF hgp us u4 u5 u6 u7 u11 u13 u14 u15 u16 u19)
      all_goals ((repeat' apply And.intro) <;> intros <;> first
        | trivial
        | (exfalso; omega)
        | (exact absurd trivial (by assumption))
        | (exact go _ (hz (by assumption)))
        | (exact go _ (hnz (by assumption))))
set_option maxHeartbeats 4000000 in
theorem lSt_step2 {ρ : Rho} {r : Rat9} {s : Sal9} {l : List Who} {kr ks : Nat → IntKind} (hr : Rat9At ρ 0 kr r) (hs : Sal9At ρ 9 ks s) (h19 : ρ.val 19 = some (whosR l)) (hsy : ρ.sym = sy) (hg : givesB r s l = true) (hsh : shortB l = true) (hgd : (r.goods.size : Int) ≤ 100) :
    StepOk lSt_D lSt_run E0 ρ (lSt_Inv r s) lSt_mu 2 [shrsR (accB [] (payTo (divOf r s) [] 0))] := by
  have hN : lSt_D.N = 100 := rfl
  have g := gives_good hg
  have hfin := (gives_all hg).2.2.2.2
  obtain ⟨hl1, hl2, hl3⟩ := finder_iff hfin
  obtain ⟨v0, v1, v2, v3, v4, v5, v6, v7, v8, v9, v10, v11, v12, v13, v14, v15, v16, v17, v19⟩ := ext_all lSt_D.N [shrsR (accB [] (payTo (divOf r s) [] 0))] (by rw [hN]; omega) hr hs h19
  have vs : (ρ.ext lSt_D.N [shrsR (accB [] (payTo (divOf r s) [] 0))]).sym = sy := hsy
  have v100 : (ρ.ext lSt_D.N [shrsR (accB [] (payTo (divOf r s) [] 0))]).val 100 = some (shrsR (accB [] (payTo (divOf r s) [] 0))) := by rw [ext_high _ _ _ _ (by rw [hN]; omega)]; rfl
  have u4 : ∀ vals', (ρ.ext lSt_D.N vals').val 4 = some (.int (kr 4) r.num) := fun vals' => by rw [ext_low _ _ _ _ (by rw [hN]; omega)]; exact hr.h4
  have u5 : ∀ vals', (ρ.ext lSt_D.N vals').val 5 = some (.int (kr 5) r.den) := fun vals' => by rw [ext_low _ _ _ _ (by rw [hN]; omega)]; exact hr.h5
  have u6 : ∀ vals', (ρ.ext lSt_D.N vals').val 6 = some (.int (kr 6) r.cart) := fun vals' => by rw [ext_low _ _ _ _ (by rw [hN]; omega)]; exact hr.h6
  have u7 : ∀ vals', (ρ.ext lSt_D.N vals').val 7 = some (.int (kr 7) r.store) := fun vals' => by rw [ext_low _ _ _ _ (by rw [hN]; omega)]; exact hr.h7
  have u11 : ∀ vals', (ρ.ext lSt_D.N vals').val 11 = some (.int (ks 2) s.hour) := fun vals' => by rw [ext_low _ _ _ _ (by rw [hN]; omega)]; exact hs.h2
  have u13 : ∀ vals', (ρ.ext lSt_D.N vals').val 13 = some (.int (ks 4) s.price) := fun vals' => by rw [ext_low _ _ _ _ (by rw [hN]; omega)]; exact hs.h4
  have u14 : ∀ vals', (ρ.ext lSt_D.N vals').val 14 = some (.int (ks 5) s.carter) := fun vals' => by rw [ext_low _ _ _ _ (by rw [hN]; omega)]; exact hs.h5
  have u15 : ∀ vals', (ρ.ext lSt_D.N vals').val 15 = some (.int (ks 6) s.keeper) := fun vals' => by rw [ext_low _ _ _ _ (by rw [hN]; omega)]; exact hs.h6
  have u16 : ∀ vals', (ρ.ext lSt_D.N vals').val 16 = some (.int (ks 7) s.since) := fun vals' => by rw [ext_low _ _ _ _ (by rw [hN]; omega)]; exact hs.h7
  have u19 : ∀ vals', (ρ.ext lSt_D.N vals').val 19 = some (whosR l) := fun vals' => by rw [ext_low _ _ _ _ (by rw [hN]; omega)]; exact h19
  have us : ∀ vals', (ρ.ext lSt_D.N vals').sym = sy := fun _ => hsy
  obtain ⟨r0, r1, r2, r3, r4, r5, r6, r7, r8, r9, r10, r11, r12, r13, r14, r15, r16, r17, r19⟩ := at_all hr hs h19
  have hgd' : ¬ (100 : Int) < r.goods.size := by omega
  have d9 : (⟨r.cart, r.store, r.num, r.den, s.price, s.hour, s.carter, s.keeper, s.since⟩ : Div9) = divOf r s := rfl
  have hF : FactsIn (ρ.ext lSt_D.N [shrsR (accB [] (payTo (divOf r s) [] 0))]) lSt2_F := by
    simp only [lSt2_F, FactsIn, X.bool, X.den, denL, dX, denSub, denIte, asB, dY, v0, v1, v2, v3, v4, v5, v6, v7, v8, v9, v10, v11, v12, v13, v14, v15, v16, v17, v19, v100, vs, sym20, sym102, sym130, sym131, sym146, sym147, sym140, sym141, sym142, sym143, sym144, sym117, sym115, sym10, sym100, sym113, sym114, hg, hsh, hgd', d9, is_shrs, shrsV_R, decide_true, Bool.and_true, decide_false, and_self]
  suffices both : AsksL (ρ.ext lSt_D.N [shrsR (accB [] (payTo (divOf r s) [] 0))]) (lSt2_t.asks lSt2_F) ∧ WaysOk lSt_D ρ (lSt_Inv r s) lSt_mu 2 [shrsR (accB [] (payTo (divOf r s) [] 0))] lSt2_l from step_of_ways (lSt2_w _) hF both.1.ok both.2
  obtain ⟨w1, w2⟩ := find_wraps g
  have hfi := find_in g
  have hst := stor_in g
  have hci := cart_in g
  simp only [divOf] at w1 w2
  have c9 : cart9 ⟨r.cart, r.store, r.num, r.den, s.price, s.hour, s.carter, s.keeper, s.since⟩ = cart9 (divOf r s) := rfl
  have s9 : stor9 ⟨r.cart, r.store, r.num, r.den, s.price, s.hour, s.carter, s.keeper, s.since⟩ = stor9 (divOf r s) := rfl
  have f9 : find9 ⟨r.cart, r.store, r.num, r.den, s.price, s.hour, s.carter, s.keeper, s.since⟩ = find9 (divOf r s) := rfl
  have r9 : rest9 ⟨r.cart, r.store, r.num, r.den, s.price, s.hour, s.carter, s.keeper, s.since⟩ = rest9 (divOf r s) := rfl
  have hpd : (divOf r s).p = s.price := rfl
  rw [hpd] at hfi hst hci
  have hpm : s.price ≤ 1000000000 := g.2.2.2.2.1.2
  have hde : (r.den = 0) = False := eq_false (by have : 1 ≤ r.den := g.2.2.2.1.1; omega)
  have hfd : find9 (divOf r s) = min ((s.price * r.num).tdiv r.den) (s.price - cart9 (divOf r s) - stor9 (divOf r s)) := rfl
  have hrd : rest9 (divOf r s) = s.price - cart9 (divOf r s) - stor9 (divOf r s) - find9 (divOf r s) := rfl
  have in1 : withinB (l.length : Int) 1 40 = true := by simp [withinB]; omega
  have go : ∃ vals', lSt_Inv r s 3 vals' ∧ lSt_mu 3 vals' < lSt_mu 2 [shrsR (accB [] (payTo (divOf r s) [] 0))] := ⟨[shrsR []], by simp [lSt_Inv], by simp [lSt_mu]⟩
  have hmu : lSt_mu 2 [shrsR (accB [] (payTo (divOf r s) [] 0))] = 1 := rfl
  rw [hmu] at go
  obtain ⟨v', hev, hv, hq⟩ | ⟨v', hev, hv, hq⟩ : (∃ v', v' = s.price - cart9 (divOf r s) - stor9 (divOf r s) ∧ find9 (divOf r s) = v' ∧ (s.price - cart9 (divOf r s) - stor9 (divOf r s) < (s.price * r.num).tdiv r.den) = True) ∨ (∃ v', v' = (s.price * r.num).tdiv r.den ∧ find9 (divOf r s) = v' ∧ (s.price - cart9 (divOf r s) - stor9 (divOf r s) < (s.price * r.num).tdiv r.den) = False) := by
    by_cases hq : s.price - cart9 (divOf r s) - stor9 (divOf r s) < (s.price * r.num).tdiv r.den
    · exact .inl ⟨_, rfl, by omega, eq_true hq⟩
    · exact .inr ⟨_, rfl, by omega, eq_false hq⟩
  all_goals
    rw [hv] at hfi hrd
    have in2 : withinB v' 0 1000000000 = true := by simp [withinB]; omega
    have wr : IntKind.i64.wrap (s.price - cart9 (divOf r s) - stor9 (divOf r s) - v') = s.price - cart9 (divOf r s) - stor9 (divOf r s) - v' := IntWalk.i64_in _ (by omega)
    subst hev
    refine ⟨?_, ?_⟩
    all_goals (simp only [lSt2_t, qd56, qd55, qd54, qd53, qd52, qd51, qd50, qd49, qd48, qd47, qd46, qd45, qd44, qd43, qd42, qd41, qd40, qd39, qd38, qd37, qd36, qd35, qd34, qd33, qd32, qd31, qd30, qd29, qd28, qd27, qd26, qd25, qd24, qd23, qd22, qd21, qd20, qd19, qd18, qd17, qd16, qd15, qd14, qd13, qd12, qd11, qd10, qd9, qd8, qd7, qd6, qd5, qd4, qd3, qd2, qd1, qd0, lSt2_F, lSt2_l, AsksL, GTree.asks, FTree.asks, FactsIn, List.append_nil, List.nil_append, List.cons_append, Option.some.injEq, exists_eq', implies_true, and_self, X.bool, X.den, denL, dX, denSub, denIte, asB, dY, d_hasS, d_putS, d_delS, has_put, whos_snocN, whos_snoc0N, shrs_snocN, shrs_snoc0N, EndsOk, WaysOk, forall_cons, forall_nil, TgtOk, gpair, FactsIn, hold_cons, hold_nil, Option.some.injEq, dZ, X.bool, X.den, denL, dX, denSub, denIte, asB, dY, beq_iff_eq, beq_eq_false_iff_ne, ne_eq, d_hasS, d_putS, d_delS, has_put, whos_snocN, whos_snoc0N, shrs_snocN, shrs_snoc0N, beq_iff_eq, beq_eq_false_iff_ne, ne_eq, v0, v1, v2, v3, v4, v5, v6, v7, v8, v9, v10, v11, v12, v13, v14, v15, v16, v17, v19, v100, vs, u4, u5, u6, u7, u11, u13, u14, u15, u16, u19, us, r0, r1, r2, r3, r4, r5, r6, r7, r8, r9, r10, r11, r12, r13, r14, r15, r16, r17, r19, hsy, sym20, sym102, sym130, sym131, sym146, sym147, sym140, sym141, sym142, sym143, sym144, sym117, sym115, sym10, sym100, sym113, sym114, c9, s9, f9, r9, hrd, hv, hde, hq, in1, in2, wr, w1, w2, decide_true, decide_false, reduceCtorEq, Bool.false_eq_true, false_implies, implies_true, true_implies, and_self, and_true, true_and])
    all_goals (clear v100 v0 v1 v2 v3 v4 v5 v6 v7 v8 v9 v10 v11 v12 v13 v14 v15 v16 v17 v19 vs r0 r1 r2 r3 r4 r5 r6 r7 r8 r9 r10 r11 r12 r13 r14 r15 r16 r17 r19 hr hs h19 hsy hF us u4 u5 u6 u7 u11 u13 u14 u15 u16 u19)
    all_goals ((repeat' apply And.intro) <;> intros <;> first
        | trivial
        | (exfalso; omega)
        | (exact absurd trivial (by assumption))
        | exact go)
set_option maxHeartbeats 4000000 in
theorem lSt_step3 {ρ : Rho} {r : Rat9} {s : Sal9} {l : List Who} {kr ks : Nat → IntKind} (hr : Rat9At ρ 0 kr r) (hs : Sal9At ρ 9 ks s) (h19 : ρ.val 19 = some (whosR l)) (hsy : ρ.sym = sy) (hg : givesB r s l = true) (hsh : shortB l = true) (hgd : (r.goods.size : Int) ≤ 100) :
    StepOk lSt_D lSt_run E0 ρ (lSt_Inv r s) lSt_mu 3 [shrsR []] := by
  have hN : lSt_D.N = 100 := rfl
  obtain ⟨v0, v1, v2, v3, v4, v5, v6, v7, v8, v9, v10, v11, v12, v13, v14, v15, v16, v17, v19⟩ := ext_all lSt_D.N [shrsR []] (by rw [hN]; omega) hr hs h19
  have vs : (ρ.ext lSt_D.N [shrsR []]).sym = sy := hsy
  obtain ⟨r0, r1, r2, r3, r4, r5, r6, r7, r8, r9, r10, r11, r12, r13, r14, r15, r16, r17, r19⟩ := at_all hr hs h19
  have hgd' : ¬ (100 : Int) < r.goods.size := by omega
  have hF : FactsIn (ρ.ext lSt_D.N [shrsR []]) lSt3_F := by
    simp only [lSt3_F, FactsIn, X.bool, X.den, denL, dX, denSub, denIte, asB, dY, v0, v1, v2, v3, v4, v5, v6, v7, v8, v9, v10, v11, v12, v13, v14, v15, v16, v17, v19, vs, sym20, sym102, sym130, sym131, sym146, sym147, sym140, sym141, sym142, sym143, sym144, sym117, sym115, sym10, sym100, sym113, sym114, hg, hsh, hgd', decide_false, and_self]
  suffices both : AsksL (ρ.ext lSt_D.N [shrsR []]) (lSt3_t.asks lSt3_F) ∧ WaysOk lSt_D ρ (lSt_Inv r s) lSt_mu 3 [shrsR []] lSt3_l from step_of_ways (lSt3_w _) hF both.1.ok both.2
  refine ⟨?_, ?_⟩
  · simp only [lSt3_t, qd56, qd55, qd54, qd53, qd52, qd51, qd50, qd49, qd48, qd47, qd46, qd45, qd44, qd43, qd42, qd41, qd40, qd39, qd38, qd37, qd36, qd35, qd34, qd33, qd32, qd31, qd30, qd29, qd28, qd27, qd26, qd25, qd24, qd23, qd22, qd21, qd20, qd19, qd18, qd17, qd16, qd15, qd14, qd13, qd12, qd11, qd10, qd9, qd8, qd7, qd6, qd5, qd4, qd3, qd2, qd1, qd0, lSt3_F, AsksL, GTree.asks, FTree.asks, FactsIn, List.append_nil, List.nil_append, List.cons_append, Option.some.injEq, exists_eq', implies_true, and_self, X.bool, X.den, denL, dX, denSub, denIte, asB, dY, d_hasS, d_putS, d_delS, has_put, whos_snocN, whos_snoc0N, shrs_snocN, shrs_snoc0N, v0, v1, v2, v3, v4, v5, v6, v7, v8, v9, v10, v11, v12, v13, v14, v15, v16, v17, v19, vs, sym20, sym102, sym130, sym131, sym146, sym147, sym140, sym141, sym142, sym143, sym144, sym117, sym115, sym10, sym100, sym113, sym114]
    try simp
  · simp only [lSt3_l, qd56, qd55, qd54, qd53, qd52, qd51, qd50, qd49, qd48, qd47, qd46, qd45, qd44, qd43, qd42, qd41, qd40, qd39, qd38, qd37, qd36, qd35, qd34, qd33, qd32, qd31, qd30, qd29, qd28, qd27, qd26, qd25, qd24, qd23, qd22, qd21, qd20, qd19, qd18, qd17, qd16, qd15, qd14, qd13, qd12, qd11, qd10, qd9, qd8, qd7, qd6, qd5, qd4, qd3, qd2, qd1, qd0, EndsOk, WaysOk, forall_cons, forall_nil, TgtOk, gpair, FactsIn, hold_cons, hold_nil, Option.some.injEq, dZ, X.bool, X.den, denL, dX, denSub, denIte, asB, dY, beq_iff_eq, beq_eq_false_iff_ne, ne_eq, d_hasS, d_putS, d_delS, has_put, whos_snocN, whos_snoc0N, shrs_snocN, shrs_snoc0N, beq_iff_eq, beq_eq_false_iff_ne, ne_eq, v0, v1, v2, v3, v4, v5, v6, v7, v8, v9, v10, v11, v12, v13, v14, v15, v16, v17, v19, vs, r0, r1, r2, r3, r4, r5, r6, r7, r8, r9, r10, r11, r12, r13, r14, r15, r16, r17, r19, hsy, sym20, sym102, sym130, sym131, sym146, sym147, sym140, sym141, sym142, sym143, sym144, sym117, sym115, sym10, sym100, sym113, sym114]
    try simp
theorem st_H {ρ : Rho} {r : Rat9} {s : Sal9} {l : List Who} {kr ks : Nat → IntKind} (hr : Rat9At ρ 0 kr r) (hs : Sal9At ρ 9 ks s) (h19 : ρ.val 19 = some (whosR l)) (hsy : ρ.sym = sy) (hg : givesB r s l = true) (hsh : shortB l = true) (hgd : (r.goods.size : Int) ≤ 100) (F : List (X × Bool)) :
    LoopsOk (E0.with F ρ) (oneH 5 (hooks [(8, lSt_D.hook (E0.with F ρ).facts st_vs)])) := by
  refine loops_all (n := 1) (fun f fn h => h) (by kernel_rfl) fun i hi => ?_
  obtain rfl : i = 0 := by omega
  rw [hooks_hit (show keyOf (loopAt (E0.with F ρ).P 5 0) = 8 by kernel_rfl)]
  refine hook_in (E₀ := E0) (run := lSt_run) (ρ := ρ) (Inv := lSt_Inv r s) (μ := lSt_mu) E0_ok lSt_ok (fun F vals => ?_) (fun hq => ⟨?_, [shrsR []], ?_, Or.inl ⟨rfl, rfl⟩⟩)
  · have hN : lSt_D.N = 100 := rfl
    exact bodyRunH_ok E0_ok (LA_ok F (r := ρ.ext lSt_D.N vals) hsy) (lFd_H (rat_ext (by rw [hN]; omega) hr) (sal_ext (by rw [hN]; omega) hs) (by rw [ext_low _ _ _ _ (by rw [hN]; omega)]; exact h19) hsy hg F) fun _ _ => noLoop_ok
  · rintro j vals (⟨rfl, rfl⟩ | ⟨rfl, rfl⟩ | ⟨rfl, rfl⟩ | ⟨rfl, rfl⟩)
    · exact lSt_step0 hr hs h19 hsy hg hsh hgd
    · exact lSt_step1 hr hs h19 hsy hg hsh hgd
    · exact lSt_step2 hr hs h19 hsy hg hsh hgd
    · exact lSt_step3 hr hs h19 hsy hg hsh hgd
  · simp only [st_vs, X.bool, X.den, denL, dX, denSub, denIte, asB, dY]
    rfl
noncomputable def orLoop (a b : LoopE) : LoopE := fun f c fr S => match a f c fr S with
  | some r => some r
  | none => b f c fr S
theorem orLoop_ok {E : Env} {a b : LoopE} (ha : LoopsOk E a) (hb : LoopsOk E b) : LoopsOk E (orLoop a b) := by
  intro f fn c hf hc c' hm fr S outs h
  unfold orLoop at h
  split at h
  · rename_i r hr
    cases h
    exact ha f fn c hf hc c' hm fr S _ hr
  · exact hb f fn c hf hc c' hm fr S _ h
noncomputable def LD : Env → CallE := libs [cLib cRt_con, cLib cSl_con, cLib cFind_con, cLib cParts_con, skeysLib 49 69 3 113 114]
theorem LD_ok (F : List (X × Bool)) {r : Rho} (h : r.sym = sy) : CallsOk (E0.with F r) (LD (E0.with F r)) := libs_ok fun c hc => by
  simp only [List.mem_cons, List.not_mem_nil, or_false] at hc
  rcases hc with rfl | rfl | rfl | rfl | rfl
  · exact lib_ok (E := E0) cRt_cok F h
  · exact lib_ok (E := E0) cSl_cok F h
  · exact lib_ok (E := E0) cFind_cok F h
  · exact lib_ok (E := E0) cParts_cok F h
  · exact skeysLib_ok (E := E0.with F r) (Env.with_ok E0_ok F r) (r := r) rfl (fun rows => by rw [h]; exact sym113R rows) (fun rows => by rw [h]; exact sym114R rows) keysSays Tryz.underlying3 (by kernel_rfl)
def sh_vs : List X := [.num 0]
noncomputable def lSh_D : LoopD := { N := 300, M := 304, size := sizeOfF 24, reads := [(29, .smap false [.int .i64] false [.int .i64] (.app 117 [.app 144 [.var 6, .var 7, .var 4, .var 5, .var 13, .var 11, .var 14, .var 15, .var 16, .var 19]])), (102, .rows 1 [.int .i64] (.num 0) (.app 113 [.app 117 [.app 144 [.var 6, .var 7, .var 4, .var 5, .var 13, .var 11, .var 14, .var 15, .var 16, .var 19]]]) true 3)], pats := [{ slots := [(0, .map 29), (3, .nilslice), (8, .slo 102 1 (.op1 .len (.app 117 [.app 144 [.var 6, .var 7, .var 4, .var 5, .var 13, .var 11, .var 14, .var 15, .var 16, .var 19]]))), (9, .sint .i64 (.op1 .len (.app 117 [.app 144 [.var 6, .var 7, .var 4, .var 5, .var 13, .var 11, .var 14, .var 15, .var 16, .var 19]]))), (10, .sint .i64 (.var 300))], heap := [] }, { slots := [(0, .map 29), (3, .slo 302 2 (.op1 .len (.var 301))), (8, .slo 102 1 (.op1 .len (.app 117 [.app 144 [.var 6, .var 7, .var 4, .var 5, .var 13, .var 11, .var 14, .var 15, .var 16, .var 19]]))), (9, .sint .i64 (.op1 .len (.app 117 [.app 144 [.var 6, .var 7, .var 4, .var 5, .var 13, .var 11, .var 14, .var 15, .var 16, .var 19]]))), (10, .sint .i64 (.var 300))], heap := [(302, .rows 2 shrSch (.num 0) (.var 301) true 57)] }], exits := [(.exit 0, { slots := [(3, .slo 302 2 (.op1 .len (.app 115 [.app 117 [.app 144 [.var 6, .var 7, .var 4, .var 5, .var 13, .var 11, .var 14, .var 15, .var 16, .var 19]]])))], heap := [(302, .rows 2 shrSch (.num 0) (.app 115 [.app 117 [.app 144 [.var 6, .var 7, .var 4, .var 5, .var 13, .var 11, .var 14, .var 15, .var 16, .var 19]]]) true 57)] })], own := [], pre := [(.app 146 [.var 0, .var 1, .var 2, .var 3, .var 4, .var 5, .var 6, .var 7, .var 8, .var 9, .var 10, .var 11, .var 12, .var 13, .var 14, .var 15, .var 16, .var 17, .var 19], true), (.app 20 [.var 19], true), (.op2 .lt (.num 100) (.op1 .slen (.var 3)), false), (.op2 .eq (.op1 .len (.app 117 [.app 144 [.var 6, .var 7, .var 4, .var 5, .var 13, .var 11, .var 14, .var 15, .var 16, .var 19]])) (.num 0), false)] }
noncomputable def lSh_run : Env → AF → ASt → Option (List Out) := bodyRun LD 6 (fun _ => noLoop) (loopAt Tryz.prog 24 0)
def lSh0_F : List (X × Bool) := [(.op2 .lt (.var 300) (.num 0), false), (.op2 .lt (.var 300) (.op1 .len (.app 117 [.app 144 [.var 6, .var 7, .var 4, .var 5, .var 13, .var 11, .var 14, .var 15, .var 16, .var 19]])), true)]
def lSh1_F : List (X × Bool) := [(.op2 .lt (.var 300) (.num 0), false)]
noncomputable def lSh0_t : FTree := (.fork qd38 (.fork qd46 (.leaf [.again 1 [(302, 305)]]) (.leaf [.again 1 [(302, 305)]])) .bad)
noncomputable def lSh0_l : List (List (X × Bool) × Option (List (Tgt × Pairs))) := [([(qd46, true), (qd38, true), (qd48, false), (qd44, true)], some [(.again 1 [(302, 305)], [(.op1 .len (.var 301), .num 1), (.var 300, qd56), (.var 301, .snoc .nil [qd36, .op1 (.kind .i64) (.op2 (.mat 1) qd1 (.snoc .nil [qd36]))])])]),
  ([(qd46, false), (qd38, true), (qd48, false), (qd44, true)], some [(.again 1 [(302, 305)], [(.op1 .len (.var 301), .num 1), (.var 300, qd56), (.var 301, .snoc .nil [qd36, .op1 (.kind .i64) (.num 0)])])]),
  ([(qd38, false), (qd48, false), (qd44, true)], none)]
theorem lSh0_w (r : Rho) : lSh_D.ways lSh_run E0 r 0 lSh0_F lSh0_t = some lSh0_l := by kernel_rfl
noncomputable def lSh1_t : FTree := (.fork qd44 (.fork qd38 (.fork qd46 (.fork qd40 .bad (.leaf [.again 1 [(302, 305)]])) (.fork qd40 .bad (.leaf [.again 1 [(302, 305)]]))) .bad) (.leaf [.leave 0 [(302, 302)]]))
noncomputable def lSh1_l : List (List (X × Bool) × Option (List (Tgt × Pairs))) := [([(qd40, true), (qd46, true), (qd38, true), (qd44, true), (qd48, false)], none),
  ([(qd40, false), (qd46, true), (qd38, true), (qd44, true), (qd48, false)], some [(.again 1 [(302, 305)], [(.op1 .len (.var 301), .op2 .add (.op1 .len (.var 301)) (.num 1)), (.var 300, qd56), (.var 301, .snoc (.var 301) [qd36, .op1 (.kind .i64) (.op2 (.mat 1) qd1 (.snoc .nil [qd36]))])])]),
  ([(qd40, true), (qd46, false), (qd38, true), (qd44, true), (qd48, false)], none),
  ([(qd40, false), (qd46, false), (qd38, true), (qd44, true), (qd48, false)], some [(.again 1 [(302, 305)], [(.op1 .len (.var 301), .op2 .add (.op1 .len (.var 301)) (.num 1)), (.var 300, qd56), (.var 301, .snoc (.var 301) [qd36, .op1 (.kind .i64) (.num 0)])])]),
  ([(qd38, false), (qd44, true), (qd48, false)], none),
  ([(qd44, false), (qd48, false)], some [(.leave 0 [(302, 302)], [(qd50, .op1 .len (.var 301)), (.app 115 [qd1], .var 301)])])]
theorem lSh1_w (r : Rho) : lSh_D.ways lSh_run E0 r 1 lSh1_F lSh1_t = some lSh1_l := by kernel_rfl
theorem lSh_ok : lSh_D.ok = true := by kernel_rfl
def lSh_Inv (m : List Shr) (j : Nat) (vals : List Value) : Prop :=
  ∃ i : Nat, i ≤ m.length ∧ ((j = 0 ∧ vals = [.int .i64 i] ∧ i = 0) ∨ (j = 1 ∧ vals = [.int .i64 i, shrsR ((chgOf m).take i)] ∧ i ≠ 0))
def lSh_mu (m : List Shr) (_ : Nat) (vals : List Value) : Nat := m.length - (vI (vals.getD 0 default)).toNat
set_option maxHeartbeats 2000000 in
theorem lSh_step0 {ρ : Rho} {r : Rat9} {s : Sal9} {l : List Who} {kr ks : Nat → IntKind} {m : List Shr} (hr : Rat9At ρ 0 kr r) (hs : Sal9At ρ 9 ks s) (h19 : ρ.val 19 = some (whosR l)) (hsy : ρ.sym = sy) (hm : (accB (accA []) (payL ⟨r.cart, r.store, r.num, r.den, s.price, s.hour, s.carter, s.keeper, s.since⟩ l)) = m) (hne : m.length ≠ 0) (hmax : m.length ≤ 2000) {i : Nat} (hi : i ≤ m.length) (hi0 : i = 0) :
    StepOk lSh_D lSh_run E0 ρ (lSh_Inv m) (lSh_mu m) 0 [.int .i64 i] := by
  have hN : lSh_D.N = 300 := rfl
  obtain ⟨v0, v1, v2, v3, v4, v5, v6, v7, v8, v9, v10, v11, v12, v13, v14, v15, v16, v17, v19⟩ := ext_all lSh_D.N [.int .i64 i] (by rw [hN]; omega) hr hs h19
  have vs : (ρ.ext lSh_D.N [.int .i64 i]).sym = sy := hsy
  have v300 : (ρ.ext lSh_D.N [.int .i64 i]).val 300 = some (.int .i64 i) := by rw [ext_high _ _ _ _ (by rw [hN]; omega)]; rfl
  obtain ⟨r0, r1, r2, r3, r4, r5, r6, r7, r8, r9, r10, r11, r12, r13, r14, r15, r16, r17, r19⟩ := at_all hr hs h19
  have kl := keys_len m
  have hF : FactsIn (ρ.ext lSh_D.N [.int .i64 i]) lSh0_F := by
    simp only [lSh0_F, FactsIn, X.bool, X.den, denL, dX, denSub, denIte, asB, dY, v0, v1, v2, v3, v4, v5, v6, v7, v8, v9, v10, v11, v12, v13, v14, v15, v16, v17, v19, v300, vs, sym144, sym117, sym115, sym113, sym114, hm, Option.some.injEq, Value.bool.injEq, decide_eq_false_iff_not, decide_eq_true_eq, and_true]
    omega
  suffices both : AsksL (ρ.ext lSh_D.N [.int .i64 i]) (lSh0_t.asks lSh0_F) ∧ WaysOk lSh_D ρ (lSh_Inv m) (lSh_mu m) 0 [.int .i64 i] lSh0_l from step_of_ways (lSh0_w _) hF both.1.ok both.2
  cases hp : ((keysS m).map Who.mk)[i]? with
  | none =>
      have hge := List.getElem?_eq_none_iff.1 hp
      rw [keys_len] at hge
      exact absurd hge (by omega)
  | some k =>
      have hlt : i < m.length := by have := (List.getElem?_eq_some_iff.1 hp).1; omega
      have hlt1 : (i : Int) < m.length := by omega
      have hw : IntKind.i64.wrap ((i : Int) + 1) = ((i + 1 : Nat) : Int) := by rw [IntWalk.i64_in _ (by omega)]; rfl
      obtain ⟨hk, hc⟩ := keys_at hp
      have hh := keys_has hk
      have hgm : den2 (.mat 1) (shrsR m) (whosR [⟨k.n⟩]) = some (.int .i64 (atK m k.n)) := by rw [d_atS, hh]; rfl
      have hnext : (chgOf m).take (i + 1) = (chgOf m).take i ++ [⟨k.n, atK m k.n⟩] := by rw [List.take_add_one, hc]; rfl
      have hcl := chg_len m
      have hil : ((chgOf m).take i).length = i := by rw [List.length_take]; omega
      have go : ∃ vals', ((match (ρ.ext lSh_D.N vals').val 301 with | some v => den1 .len v | none => none) = some (.int .i64 (1)) ∧ (ρ.ext lSh_D.N vals').val 300 = some (.int .i64 ((i + 1 : Nat) : Int)) ∧ (ρ.ext lSh_D.N vals').val 301 = some (shrsR [⟨k.n, atK m k.n⟩])) ∧ lSh_Inv m 1 vals' ∧ lSh_mu m 1 vals' < lSh_mu m 0 [.int .i64 i] := by
        have e301 : (ρ.ext lSh_D.N [.int .i64 ((i + 1 : Nat) : Int), shrsR ((chgOf m).take (i + 1))]).val 301 = some (shrsR ((chgOf m).take (i + 1))) := by rw [ext_high _ _ _ _ (by rw [hN]; omega)]; rfl
        refine ⟨[.int .i64 ((i + 1 : Nat) : Int), shrsR ((chgOf m).take (i + 1))], ⟨?_, ?_, ?_⟩, ⟨i + 1, by omega, .inr ⟨rfl, rfl, by omega⟩⟩, by simp [lSh_mu, vI]; omega⟩
        · rw [e301]
          refine (shrs_len _).trans ?_
          rw [hnext, List.length_append]
          subst hi0; rfl
        · rw [ext_high _ _ _ _ (by rw [hN]; omega)]; rfl
        · rw [e301, hnext]; subst hi0; rfl
      refine ⟨?_, ?_⟩
      all_goals (simp only [lSh0_t, qd56, qd55, qd54, qd53, qd52, qd51, qd50, qd49, qd48, qd47, qd46, qd45, qd44, qd43, qd42, qd41, qd40, qd39, qd38, qd37, qd36, qd35, qd34, qd33, qd32, qd31, qd30, qd29, qd28, qd27, qd26, qd25, qd24, qd23, qd22, qd21, qd20, qd19, qd18, qd17, qd16, qd15, qd14, qd13, qd12, qd11, qd10, qd9, qd8, qd7, qd6, qd5, qd4, qd3, qd2, qd1, qd0, lSh0_F, lSh0_l, AsksL, GTree.asks, FTree.asks, FactsIn, List.append_nil, List.nil_append, List.cons_append, Option.some.injEq, exists_eq', implies_true, and_self, X.bool, X.den, denL, dX, denSub, denIte, asB, dY, d_hasS, d_putS, d_delS, has_put, whos_snocN, whos_snoc0N, shrs_snocN, shrs_snoc0N, EndsOk, WaysOk, forall_cons, forall_nil, TgtOk, gpair, FactsIn, hold_cons, hold_nil, Option.some.injEq, dZ, X.bool, X.den, denL, dX, denSub, denIte, asB, dY, beq_iff_eq, beq_eq_false_iff_ne, ne_eq, d_hasS, d_putS, d_delS, has_put, whos_snocN, whos_snoc0N, shrs_snocN, shrs_snoc0N, beq_iff_eq, beq_eq_false_iff_ne, ne_eq, v0, v1, v2, v3, v4, v5, v6, v7, v8, v9, v10, v11, v12, v13, v14, v15, v16, v17, v19, v300, vs, r0, r1, r2, r3, r4, r5, r6, r7, r8, r9, r10, r11, r12, r13, r14, r15, r16, r17, r19, hsy, sym144, sym117, sym115, sym113, sym114, hm, kl, Int.toNat_natCast, hp, Option.bind_some, who0, hlt1, hh, hgm, hw, hil, reduceCtorEq, false_implies, implies_true, true_implies, and_self])
      all_goals (clear v0 v1 v2 v3 v4 v5 v6 v7 v8 v9 v10 v11 v12 v13 v14 v15 v16 v17 v19 v300 vs r0 r1 r2 r3 r4 r5 r6 r7 r8 r9 r10 r11 r12 r13 r14 r15 r16 r17 r19 hr hs h19 hsy hp hF hgm)
      all_goals ((repeat' apply And.intro) <;> intros <;> first
        | trivial
        | (exfalso; omega)
        | (exact absurd trivial (by assumption))
        | (exact go)
        | (rw [hil] at go; exact go))
set_option maxHeartbeats 2000000 in
theorem lSh_step1 {ρ : Rho} {r : Rat9} {s : Sal9} {l : List Who} {kr ks : Nat → IntKind} {m : List Shr} (hr : Rat9At ρ 0 kr r) (hs : Sal9At ρ 9 ks s) (h19 : ρ.val 19 = some (whosR l)) (hsy : ρ.sym = sy) (hm : (accB (accA []) (payL ⟨r.cart, r.store, r.num, r.den, s.price, s.hour, s.carter, s.keeper, s.since⟩ l)) = m) (hne : m.length ≠ 0) (hmax : m.length ≤ 2000) {i : Nat} (hi : i ≤ m.length) (hi0 : i ≠ 0) :
    StepOk lSh_D lSh_run E0 ρ (lSh_Inv m) (lSh_mu m) 1 [.int .i64 i, shrsR ((chgOf m).take i)] := by
  have hN : lSh_D.N = 300 := rfl
  obtain ⟨v0, v1, v2, v3, v4, v5, v6, v7, v8, v9, v10, v11, v12, v13, v14, v15, v16, v17, v19⟩ := ext_all lSh_D.N [.int .i64 i, shrsR ((chgOf m).take i)] (by rw [hN]; omega) hr hs h19
  have vs : (ρ.ext lSh_D.N [.int .i64 i, shrsR ((chgOf m).take i)]).sym = sy := hsy
  have v300 : (ρ.ext lSh_D.N [.int .i64 i, shrsR ((chgOf m).take i)]).val 300 = some (.int .i64 i) := by rw [ext_high _ _ _ _ (by rw [hN]; omega)]; rfl
  have v301 : (ρ.ext lSh_D.N [.int .i64 i, shrsR ((chgOf m).take i)]).val 301 = some (shrsR ((chgOf m).take i)) := by rw [ext_high _ _ _ _ (by rw [hN]; omega)]; rfl
  obtain ⟨r0, r1, r2, r3, r4, r5, r6, r7, r8, r9, r10, r11, r12, r13, r14, r15, r16, r17, r19⟩ := at_all hr hs h19
  have kl := keys_len m
  have hF : FactsIn (ρ.ext lSh_D.N [.int .i64 i, shrsR ((chgOf m).take i)]) lSh1_F := by
    simp only [lSh1_F, FactsIn, X.bool, X.den, denL, dX, denSub, denIte, asB, dY, v0, v1, v2, v3, v4, v5, v6, v7, v8, v9, v10, v11, v12, v13, v14, v15, v16, v17, v19, v300, v301, vs, sym144, sym117, sym115, sym113, sym114, hm, Option.some.injEq, Value.bool.injEq, decide_eq_false_iff_not, decide_eq_true_eq, and_true]
    omega
  suffices both : AsksL (ρ.ext lSh_D.N [.int .i64 i, shrsR ((chgOf m).take i)]) (lSh1_t.asks lSh1_F) ∧ WaysOk lSh_D ρ (lSh_Inv m) (lSh_mu m) 1 [.int .i64 i, shrsR ((chgOf m).take i)] lSh1_l from step_of_ways (lSh1_w _) hF both.1.ok both.2
  cases hp : ((keysS m).map Who.mk)[i]? with
  | none =>
      have hge := List.getElem?_eq_none_iff.1 hp
      rw [keys_len] at hge
      have hge' : ¬ (i : Int) < m.length := by omega
      have hl : (chgOf m).take i = chgOf m := List.take_of_length_le (by rw [chg_len]; omega)
      refine ⟨?_, ?_⟩
      · simp only [lSh1_t, qd56, qd55, qd54, qd53, qd52, qd51, qd50, qd49, qd48, qd47, qd46, qd45, qd44, qd43, qd42, qd41, qd40, qd39, qd38, qd37, qd36, qd35, qd34, qd33, qd32, qd31, qd30, qd29, qd28, qd27, qd26, qd25, qd24, qd23, qd22, qd21, qd20, qd19, qd18, qd17, qd16, qd15, qd14, qd13, qd12, qd11, qd10, qd9, qd8, qd7, qd6, qd5, qd4, qd3, qd2, qd1, qd0, lSh1_F, AsksL, GTree.asks, FTree.asks, FactsIn, List.append_nil, List.nil_append, List.cons_append, Option.some.injEq, exists_eq', implies_true, and_self, X.bool, X.den, denL, dX, denSub, denIte, asB, dY, d_hasS, d_putS, d_delS, has_put, whos_snocN, whos_snoc0N, shrs_snocN, shrs_snoc0N, v0, v1, v2, v3, v4, v5, v6, v7, v8, v9, v10, v11, v12, v13, v14, v15, v16, v17, v19, v300, v301, vs, sym144, sym117, sym115, sym113, sym114, hm, kl, Int.toNat_natCast, hp, hge']
        try simp
      · simp only [lSh1_l, qd56, qd55, qd54, qd53, qd52, qd51, qd50, qd49, qd48, qd47, qd46, qd45, qd44, qd43, qd42, qd41, qd40, qd39, qd38, qd37, qd36, qd35, qd34, qd33, qd32, qd31, qd30, qd29, qd28, qd27, qd26, qd25, qd24, qd23, qd22, qd21, qd20, qd19, qd18, qd17, qd16, qd15, qd14, qd13, qd12, qd11, qd10, qd9, qd8, qd7, qd6, qd5, qd4, qd3, qd2, qd1, qd0, EndsOk, WaysOk, forall_cons, forall_nil, TgtOk, gpair, FactsIn, hold_cons, hold_nil, Option.some.injEq, dZ, X.bool, X.den, denL, dX, denSub, denIte, asB, dY, beq_iff_eq, beq_eq_false_iff_ne, ne_eq, d_hasS, d_putS, d_delS, has_put, whos_snocN, whos_snoc0N, shrs_snocN, shrs_snoc0N, beq_iff_eq, beq_eq_false_iff_ne, ne_eq, v0, v1, v2, v3, v4, v5, v6, v7, v8, v9, v10, v11, v12, v13, v14, v15, v16, v17, v19, v300, v301, vs, r0, r1, r2, r3, r4, r5, r6, r7, r8, r9, r10, r11, r12, r13, r14, r15, r16, r17, r19, hsy, sym144, sym117, sym115, sym113, sym114, hm, kl, Int.toNat_natCast, hp, hge']
        simp [hl]
  | some k =>
      have hlt : i < m.length := by have := (List.getElem?_eq_some_iff.1 hp).1; omega
      have hlt1 : (i : Int) < m.length := by omega
      have hw : IntKind.i64.wrap ((i : Int) + 1) = ((i + 1 : Nat) : Int) := by rw [IntWalk.i64_in _ (by omega)]; rfl
      obtain ⟨hk, hc⟩ := keys_at hp
      have hh := keys_has hk
      have hgm : den2 (.mat 1) (shrsR m) (whosR [⟨k.n⟩]) = some (.int .i64 (atK m k.n)) := by rw [d_atS, hh]; rfl
      have hnext : (chgOf m).take (i + 1) = (chgOf m).take i ++ [⟨k.n, atK m k.n⟩] := by rw [List.take_add_one, hc]; rfl
      have hcl := chg_len m
      have hil : ((chgOf m).take i).length = i := by rw [List.length_take]; omega
      have go : ∃ vals', ((match (ρ.ext lSh_D.N vals').val 301 with | some v => den1 .len v | none => none) = some (.int .i64 ((((chgOf m).take i).length : Int) + 1)) ∧ (ρ.ext lSh_D.N vals').val 300 = some (.int .i64 ((i + 1 : Nat) : Int)) ∧ (ρ.ext lSh_D.N vals').val 301 = some (shrsR ((chgOf m).take i ++ [⟨k.n, atK m k.n⟩]))) ∧ lSh_Inv m 1 vals' ∧ lSh_mu m 1 vals' < lSh_mu m 1 [.int .i64 i, shrsR ((chgOf m).take i)] := by
        have e301 : (ρ.ext lSh_D.N [.int .i64 ((i + 1 : Nat) : Int), shrsR ((chgOf m).take (i + 1))]).val 301 = some (shrsR ((chgOf m).take (i + 1))) := by rw [ext_high _ _ _ _ (by rw [hN]; omega)]; rfl
        refine ⟨[.int .i64 ((i + 1 : Nat) : Int), shrsR ((chgOf m).take (i + 1))], ⟨?_, ?_, ?_⟩, ⟨i + 1, by omega, .inr ⟨rfl, rfl, by omega⟩⟩, by simp [lSh_mu, vI]; omega⟩
        · rw [e301]
          refine (shrs_len _).trans ?_
          rw [hnext, List.length_append]
          rfl
        · rw [ext_high _ _ _ _ (by rw [hN]; omega)]; rfl
        · rw [e301, hnext]
      refine ⟨?_, ?_⟩
      all_goals (simp only [lSh1_t, qd56, qd55, qd54, qd53, qd52, qd51, qd50, qd49, qd48, qd47, qd46, qd45, qd44, qd43, qd42, qd41, qd40, qd39, qd38, qd37, qd36, qd35, qd34, qd33, qd32, qd31, qd30, qd29, qd28, qd27, qd26, qd25, qd24, qd23, qd22, qd21, qd20, qd19, qd18, qd17, qd16, qd15, qd14, qd13, qd12, qd11, qd10, qd9, qd8, qd7, qd6, qd5, qd4, qd3, qd2, qd1, qd0, lSh1_F, lSh1_l, AsksL, GTree.asks, FTree.asks, FactsIn, List.append_nil, List.nil_append, List.cons_append, Option.some.injEq, exists_eq', implies_true, and_self, X.bool, X.den, denL, dX, denSub, denIte, asB, dY, d_hasS, d_putS, d_delS, has_put, whos_snocN, whos_snoc0N, shrs_snocN, shrs_snoc0N, EndsOk, WaysOk, forall_cons, forall_nil, TgtOk, gpair, FactsIn, hold_cons, hold_nil, Option.some.injEq, dZ, X.bool, X.den, denL, dX, denSub, denIte, asB, dY, beq_iff_eq, beq_eq_false_iff_ne, ne_eq, d_hasS, d_putS, d_delS, has_put, whos_snocN, whos_snoc0N, shrs_snocN, shrs_snoc0N, beq_iff_eq, beq_eq_false_iff_ne, ne_eq, v0, v1, v2, v3, v4, v5, v6, v7, v8, v9, v10, v11, v12, v13, v14, v15, v16, v17, v19, v300, v301, vs, r0, r1, r2, r3, r4, r5, r6, r7, r8, r9, r10, r11, r12, r13, r14, r15, r16, r17, r19, hsy, sym144, sym117, sym115, sym113, sym114, hm, kl, Int.toNat_natCast, hp, Option.bind_some, who0, hlt1, hh, hgm, hw, hil, reduceCtorEq, false_implies, implies_true, true_implies, and_self])
      all_goals (clear v0 v1 v2 v3 v4 v5 v6 v7 v8 v9 v10 v11 v12 v13 v14 v15 v16 v17 v19 v300 v301 vs r0 r1 r2 r3 r4 r5 r6 r7 r8 r9 r10 r11 r12 r13 r14 r15 r16 r17 r19 hr hs h19 hsy hp hF hgm)
      all_goals ((repeat' apply And.intro) <;> intros <;> first
        | trivial
        | (exfalso; omega)
        | (exact absurd trivial (by assumption))
        | (exact go)
        | (rw [hil] at go; exact go))
theorem lSh_step {ρ : Rho} {r : Rat9} {s : Sal9} {l : List Who} {kr ks : Nat → IntKind} {m : List Shr} (hr : Rat9At ρ 0 kr r) (hs : Sal9At ρ 9 ks s) (h19 : ρ.val 19 = some (whosR l)) (hsy : ρ.sym = sy) (hm : (accB (accA []) (payL ⟨r.cart, r.store, r.num, r.den, s.price, s.hour, s.carter, s.keeper, s.since⟩ l)) = m) (hne : m.length ≠ 0) (hmax : m.length ≤ 2000) (j : Nat) (vals : List Value) (hI : lSh_Inv m j vals) :
    StepOk lSh_D lSh_run E0 ρ (lSh_Inv m) (lSh_mu m) j vals := by
  obtain ⟨i, hi, ⟨rfl, rfl, hi0⟩ | ⟨rfl, rfl, hi0⟩⟩ := hI
  · exact lSh_step0 hr hs h19 hsy hm hne hmax hi hi0
  · exact lSh_step1 hr hs h19 hsy hm hne hmax hi hi0
theorem pay_all {r : Rat9} {s : Sal9} {l : List Who} (hg : givesB r s l = true) : AccOk (l.length + 2) (accB (accA []) (payL ⟨r.cart, r.store, r.num, r.den, s.price, s.hour, s.carter, s.keeper, s.since⟩ l)) ∧ (accB (accA []) (payL ⟨r.cart, r.store, r.num, r.den, s.price, s.hour, s.carter, s.keeper, s.since⟩ l)).length ≤ 2000 := by
  have g := gives_good hg
  have hf := (gives_all hg).2.2.2.2
  have h : AccOk (l.length + 2) (accB (accA []) (payL ⟨r.cart, r.store, r.num, r.den, s.price, s.hour, s.carter, s.keeper, s.since⟩ l)) := pay_acc g hf l.length (Nat.le_refl _)
  have h2 := finder_iff hf
  exact ⟨h, by have := h.1; omega⟩
theorem aw_H {ρ : Rho} {r : Rat9} {s : Sal9} {l : List Who} {kr ks : Nat → IntKind} (hr : Rat9At ρ 0 kr r) (hs : Sal9At ρ 9 ks s) (h19 : ρ.val 19 = some (whosR l)) (hsy : ρ.sym = sy) (hg : givesB r s l = true) (hsh : shortB l = true) (hgd : (r.goods.size : Int) ≤ 100) (F : List (X × Bool)) :
    LoopsOk (E0.with F ρ) (orLoop (oneH 5 (hooks [(8, lSt_D.hook (E0.with F ρ).facts st_vs)])) (oneH 24 (hooks [(3, lSh_D.hook (E0.with F ρ).facts sh_vs)]))) := by
  refine orLoop_ok (st_H hr hs h19 hsy hg hsh hgd F) (loops_all (n := 1) (fun f fn h => h) (by kernel_rfl) fun i hi => ?_)
  obtain rfl : i = 0 := by omega
  rw [hooks_hit (show keyOf (loopAt (E0.with F ρ).P 24 0) = 3 by kernel_rfl)]
  obtain ⟨r0, r1, r2, r3, r4, r5, r6, r7, r8, r9, r10, r11, r12, r13, r14, r15, r16, r17, r19⟩ := at_all hr hs h19
  refine hook_ok (E₀ := E0) (run := lSh_run) (ρ := ρ) (Inv := lSh_Inv (accB (accA []) (payL ⟨r.cart, r.store, r.num, r.den, s.price, s.hour, s.carter, s.keeper, s.since⟩ l))) (μ := lSh_mu (accB (accA []) (payL ⟨r.cart, r.store, r.num, r.den, s.price, s.hour, s.carter, s.keeper, s.since⟩ l))) E0_ok lSh_ok (fun F r' h => ?_) (fun hp => ?_)
  · exact bodyRun_ok E0_ok (LD_ok F (h.trans hsy)) fun _ _ => noLoop_ok
  · have q := hp.2.2.2.1
    simp only [X.bool, X.den, denL, dX, denSub, denIte, asB, dY, r0, r1, r2, r3, r4, r5, r6, r7, r8, r9, r10, r11, r12, r13, r14, r15, r16, r17, r19, hsy, sym144, sym117, sym115, sym113, sym114, Option.some.injEq, Value.bool.injEq, beq_eq_false_iff_ne, ne_eq] at q
    refine ⟨lSh_step hr hs h19 hsy rfl (by omega) (pay_all hg).2, [.int .i64 0], ?_, 0, Nat.zero_le _, .inl ⟨rfl, rfl, rfl⟩⟩
    simp only [sh_vs, X.bool, X.den, denL, dX, denSub, denIte, asB, dY]
noncomputable def cAwE_con : Con := { f := 5, args := [.agg [.int .i64 0, .int .i64 1, .int .i64 2, .str 3, .int .i64 4, .int .i64 5, .int .i64 6, .int .i64 7, .int .i64 8], .agg [.int .i64 9, .int .i64 10, .int .i64 11, .int .i64 12, .int .i64 13, .int .i64 14, .int .i64 15, .int .i64 16, .int .i64 17], whosArg 0 18], N := 1, M := 1, pre := [(.op2 .lt (.num 100) (.op1 .slen (.var 3)), false), (.app 20 [.var 19], true), (.app 146 [.var 0, .var 1, .var 2, .var 3, .var 4, .var 5, .var 6, .var 7, .var 8, .var 9, .var 10, .var 11, .var 12, .var 13, .var 14, .var 15, .var 16, .var 17, .var 19], false)], out := .tuple [.agg [.int .i64 0, .int .i64 0, .int .i64 0, .int .i64 0, .int .i64 0, .nilslice], .int .i64 1], news := [] }
noncomputable def cAwE_call : Env → CallL := fun E => acallAll E (evH E (LA E) ((fun _ => noLoops) E) 6)
noncomputable def cAwE_t : GTree := (.fork qd5 (.fork qd6 (.fork qd32 (.fork qd33 (.fork qd25 (.fork qd20 (.fork qd35 .bad (.leaf [[]])) (.fork qd35 .bad (.leaf [[]]))) (.fork qd20 (.fork qd35 .bad (.leaf [[]])) (.fork qd35 .bad (.leaf [[]])))) (.leaf [[]])) (.leaf [[]])) (.leaf [[]])) (.leaf [[]]))
noncomputable def cAwE_l : List (List (X × Bool) × Option Pairs) := [([(qd35, true), (qd20, true), (qd25, true), (qd33, true), (qd32, true), (qd6, true), (qd5, true), (qd8, false), (qd26, true), (qd2, false)], none),
  ([(qd35, false), (qd20, true), (qd25, true), (qd33, true), (qd32, true), (qd6, true), (qd5, true), (qd8, false), (qd26, true), (qd2, false)], some []),
  ([(qd35, true), (qd20, false), (qd25, true), (qd33, true), (qd32, true), (qd6, true), (qd5, true), (qd8, false), (qd26, true), (qd2, false)], none),
  ([(qd35, false), (qd20, false), (qd25, true), (qd33, true), (qd32, true), (qd6, true), (qd5, true), (qd8, false), (qd26, true), (qd2, false)], some []),
  ([(qd35, true), (qd20, true), (qd25, false), (qd33, true), (qd32, true), (qd6, true), (qd5, true), (qd8, false), (qd26, true), (qd2, false)], none),
  ([(qd35, false), (qd20, true), (qd25, false), (qd33, true), (qd32, true), (qd6, true), (qd5, true), (qd8, false), (qd26, true), (qd2, false)], some []),
  ([(qd35, true), (qd20, false), (qd25, false), (qd33, true), (qd32, true), (qd6, true), (qd5, true), (qd8, false), (qd26, true), (qd2, false)], none),
  ([(qd35, false), (qd20, false), (qd25, false), (qd33, true), (qd32, true), (qd6, true), (qd5, true), (qd8, false), (qd26, true), (qd2, false)], some []),
  ([(qd33, false), (qd32, true), (qd6, true), (qd5, true), (qd8, false), (qd26, true), (qd2, false)], some []),
  ([(qd32, false), (qd6, true), (qd5, true), (qd8, false), (qd26, true), (qd2, false)], some []),
  ([(qd6, false), (qd5, true), (qd8, false), (qd26, true), (qd2, false)], some []),
  ([(qd5, false), (qd8, false), (qd26, true), (qd2, false)], some [])]
theorem cAwE_w (r : Rho) : cAwE_con.fn.ways cAwE_call E0 r cAwE_con.pre cAwE_t = some cAwE_l := by kernel_rfl
set_option maxHeartbeats 4000000 in
theorem cAwE_cok : cAwE_con.Ok Tryz.prog sy := by
  intro ρ σ w us hsy hρ hpre hrel hins
  obtain ⟨l, h19⟩ := whos_at hrel (i := 0) rfl
  obtain ⟨u0, us, rfl, g0, hi⟩ := ins_cons hins
  obtain ⟨u1, us, rfl, g1, hi⟩ := ins_cons hi
  obtain ⟨r, kr, rfl, hr⟩ := rat_agg (v := 0) g0
  obtain ⟨s, ks, rfl, hs⟩ := sal_agg (v := 9) g1
  rw [hρ] at h19 hr hs
  have h19 : ρ.val 19 = some (whosR l) := h19
  obtain ⟨r0, r1, r2, r3, r4, r5, r6, r7, r8, r9, r10, r11, r12, r13, r14, r15, r16, r17, r19⟩ := at_all hr hs h19
  have hp := hpre
  simp only [cAwE_con, FactsIn, X.bool, X.den, denL, dX, denSub, denIte, asB, dY, r0, r1, r2, r3, r4, r5, r6, r7, r8, r9, r10, r11, r12, r13, r14, r15, r16, r17, r19, hsy, sym20, sym102, sym130, sym131, sym146, sym147, sym140, sym141, sym142, sym143, sym144, sym117, sym115, sym10, sym100, sym113, sym114, Option.some.injEq, Value.bool.injEq, and_true, beq_iff_eq, beq_eq_false_iff_ne, ne_eq, decide_eq_false_iff_not] at hp
  obtain ⟨hgd, hsh, hg⟩ := hp
  obtain ⟨b1, hrb⟩ : ∃ b, rateB ⟨r.id, r.known, r.from_, r.goods, r.num, r.den, r.cart, r.store, r.of_⟩ = b := ⟨_, rfl⟩
  obtain ⟨b2, hsb⟩ : ∃ b, saleB ⟨s.id, s.known, s.hour, s.parcel, s.price, s.carter, s.keeper, s.since, s.of_⟩ = b := ⟨_, rfl⟩
  refine con_of (E := E0) E0_ok E0_glob (sy := sy) (fun F => LA_ok F hsy) (fun F => noH_ok) (cAwE_w ρ) hρ hpre hrel hins ?_ ?_
  · cases b1 <;> cases b2 <;> simp only [cAwE_con, cAwE_t, qd56, qd55, qd54, qd53, qd52, qd51, qd50, qd49, qd48, qd47, qd46, qd45, qd44, qd43, qd42, qd41, qd40, qd39, qd38, qd37, qd36, qd35, qd34, qd33, qd32, qd31, qd30, qd29, qd28, qd27, qd26, qd25, qd24, qd23, qd22, qd21, qd20, qd19, qd18, qd17, qd16, qd15, qd14, qd13, qd12, qd11, qd10, qd9, qd8, qd7, qd6, qd5, qd4, qd3, qd2, qd1, qd0, AsksL, GTree.asks, FTree.asks, FactsIn, List.append_nil, List.nil_append, List.cons_append, Option.some.injEq, exists_eq', implies_true, and_self, X.bool, X.den, denL, dX, denSub, denIte, asB, dY, d_hasS, d_putS, d_delS, has_put, whos_snocN, whos_snoc0N, shrs_snocN, shrs_snoc0N, r0, r1, r2, r3, r4, r5, r6, r7, r8, r9, r10, r11, r12, r13, r14, r15, r16, r17, r19, hsy, sym20, sym102, sym130, sym131, sym146, sym147, sym140, sym141, sym142, sym143, sym144, sym117, sym115, sym10, sym100, sym113, sym114, hrb, hsb]
    all_goals (try simp)
  · cases b1 <;> cases b2 <;> simp only [cAwE_l, qd56, qd55, qd54, qd53, qd52, qd51, qd50, qd49, qd48, qd47, qd46, qd45, qd44, qd43, qd42, qd41, qd40, qd39, qd38, qd37, qd36, qd35, qd34, qd33, qd32, qd31, qd30, qd29, qd28, qd27, qd26, qd25, qd24, qd23, qd22, qd21, qd20, qd19, qd18, qd17, qd16, qd15, qd14, qd13, qd12, qd11, qd10, qd9, qd8, qd7, qd6, qd5, qd4, qd3, qd2, qd1, qd0, EndsOk, WaysOk, forall_cons, forall_nil, TgtOk, gpair, FactsIn, hold_cons, hold_nil, Option.some.injEq, dZ, X.bool, X.den, denL, dX, denSub, denIte, asB, dY, beq_iff_eq, beq_eq_false_iff_ne, ne_eq, d_hasS, d_putS, d_delS, has_put, whos_snocN, whos_snoc0N, shrs_snocN, shrs_snoc0N, beq_iff_eq, beq_eq_false_iff_ne, ne_eq, r0, r1, r2, r3, r4, r5, r6, r7, r8, r9, r10, r11, r12, r13, r14, r15, r16, r17, r19, hsy, sym20, sym102, sym130, sym131, sym146, sym147, sym140, sym141, sym142, sym143, sym144, sym117, sym115, sym10, sym100, sym113, sym114, hrb, hsb]
    all_goals (clear r0 r1 r2 r3 r4 r5 r6 r7 r8 r9 r10 r11 r12 r13 r14 r15 r16 r17 r19 hr hs h19 hsy hρ hpre hrel hins g0 g1)
    all_goals (have bz : ∀ a : Int, (a == 0) = decide (a = 0) := fun a => by rw [Bool.eq_iff_iff]; simp)
    all_goals (simp only [givesB, hrb, hsb, bz, Bool.true_and, Bool.false_and, Bool.and_true, Bool.and_false] at hg)
    all_goals (clear bz)
    all_goals ((repeat' apply And.intro) <;> intros <;> first
      | trivial
      | contradiction
      | (exfalso; omega)
      | (simp_all; done)
      | (exfalso; simp_all; omega)
      | (exfalso; exact Bool.noConfusion (hword.symm.trans (by assumption))))
noncomputable def cAw0_con : Con := { f := 5, args := [.agg [.int .i64 0, .int .i64 1, .int .i64 2, .str 3, .int .i64 4, .int .i64 5, .int .i64 6, .int .i64 7, .int .i64 8], .agg [.int .i64 9, .int .i64 10, .int .i64 11, .int .i64 12, .int .i64 13, .int .i64 14, .int .i64 15, .int .i64 16, .int .i64 17], whosArg 0 18], N := 1, M := 1, pre := [(.op2 .lt (.num 100) (.op1 .slen (.var 3)), false), (.app 20 [.var 19], true), (.app 146 [.var 0, .var 1, .var 2, .var 3, .var 4, .var 5, .var 6, .var 7, .var 8, .var 9, .var 10, .var 11, .var 12, .var 13, .var 14, .var 15, .var 16, .var 17, .var 19], true), (.op2 .eq (.op1 .len (.app 117 [.app 144 [.var 6, .var 7, .var 4, .var 5, .var 13, .var 11, .var 14, .var 15, .var 16, .var 19]])) (.num 0), true)], out := .tuple [.agg [.sint .i64 (.var 13), .sint .i64 (.app 140 [.var 6, .var 7, .var 4, .var 5, .var 13, .var 11, .var 14, .var 15, .var 16]), .sint .i64 (.app 141 [.var 6, .var 7, .var 4, .var 5, .var 13, .var 11, .var 14, .var 15, .var 16]), .sint .i64 (.app 142 [.var 6, .var 7, .var 4, .var 5, .var 13, .var 11, .var 14, .var 15, .var 16]), .sint .i64 (.app 143 [.var 6, .var 7, .var 4, .var 5, .var 13, .var 11, .var 14, .var 15, .var 16]), .nilslice], .int .i64 0], news := [] }
noncomputable def cAw0_call : Env → CallL := fun E => acallAll E (evH E (LD E) ((fun E => orLoop (oneH 5 (hooks [(8, lSt_D.hook E.facts st_vs)])) (oneH 24 (hooks [(3, lSh_D.hook E.facts sh_vs)]))) E) 8)
noncomputable def cAw0_t : GTree := (.fork qd5 (.fork qd6 (.fork qd32 (.fork qd33 (.fork qd25 (.fork qd20 (.fork qd35 (.fork (.app 114 [qd1]) (.fork qd34 .bad (.leaf [[]])) .bad) .bad) (.fork qd35 (.fork (.app 114 [qd1]) (.fork qd34 .bad (.leaf [[]])) .bad) .bad)) (.fork qd20 (.fork qd35 (.fork (.app 114 [qd1]) (.fork qd34 .bad (.leaf [[]])) .bad) .bad) (.fork qd35 (.fork (.app 114 [qd1]) (.fork qd34 .bad (.leaf [[]])) .bad) .bad))) .bad) .bad) .bad) .bad)
noncomputable def cAw0_l : List (List (X × Bool) × Option Pairs) := [([(qd34, true), (.app 114 [qd1], true), (qd35, true), (qd20, true), (qd25, true), (qd33, true), (qd32, true), (qd6, true), (qd5, true), (qd8, false), (qd26, true), (qd2, true), (qd29, true)], none),
  ([(qd34, false), (.app 114 [qd1], true), (qd35, true), (qd20, true), (qd25, true), (qd33, true), (qd32, true), (qd6, true), (qd5, true), (qd8, false), (qd26, true), (qd2, true), (qd29, true)], some [(.var 13, .var 13), (qd13, qd13), (qd7, qd7), (qd17, qd17), (qd18, qd18)]),
  ([(.app 114 [qd1], false), (qd35, true), (qd20, true), (qd25, true), (qd33, true), (qd32, true), (qd6, true), (qd5, true), (qd8, false), (qd26, true), (qd2, true), (qd29, true)], none),
  ([(qd35, false), (qd20, true), (qd25, true), (qd33, true), (qd32, true), (qd6, true), (qd5, true), (qd8, false), (qd26, true), (qd2, true), (qd29, true)], none),
  ([(qd34, true), (.app 114 [qd1], true), (qd35, true), (qd20, false), (qd25, true), (qd33, true), (qd32, true), (qd6, true), (qd5, true), (qd8, false), (qd26, true), (qd2, true), (qd29, true)], none),
  ([(qd34, false), (.app 114 [qd1], true), (qd35, true), (qd20, false), (qd25, true), (qd33, true), (qd32, true), (qd6, true), (qd5, true), (qd8, false), (qd26, true), (qd2, true), (qd29, true)], some [(.var 13, .var 13), (qd13, qd13), (qd7, qd7), (qd17, qd17), (qd18, qd18)]),
  ([(.app 114 [qd1], false), (qd35, true), (qd20, false), (qd25, true), (qd33, true), (qd32, true), (qd6, true), (qd5, true), (qd8, false), (qd26, true), (qd2, true), (qd29, true)], none),
  ([(qd35, false), (qd20, false), (qd25, true), (qd33, true), (qd32, true), (qd6, true), (qd5, true), (qd8, false), (qd26, true), (qd2, true), (qd29, true)], none),
  ([(qd34, true), (.app 114 [qd1], true), (qd35, true), (qd20, true), (qd25, false), (qd33, true), (qd32, true), (qd6, true), (qd5, true), (qd8, false), (qd26, true), (qd2, true), (qd29, true)], none),
  ([(qd34, false), (.app 114 [qd1], true), (qd35, true), (qd20, true), (qd25, false), (qd33, true), (qd32, true), (qd6, true), (qd5, true), (qd8, false), (qd26, true), (qd2, true), (qd29, true)], some [(.var 13, .var 13), (qd13, qd13), (qd7, qd7), (qd17, qd17), (qd18, qd18)]),
  ([(.app 114 [qd1], false), (qd35, true), (qd20, true), (qd25, false), (qd33, true), (qd32, true), (qd6, true), (qd5, true), (qd8, false), (qd26, true), (qd2, true), (qd29, true)], none),
  ([(qd35, false), (qd20, true), (qd25, false), (qd33, true), (qd32, true), (qd6, true), (qd5, true), (qd8, false), (qd26, true), (qd2, true), (qd29, true)], none),
  ([(qd34, true), (.app 114 [qd1], true), (qd35, true), (qd20, false), (qd25, false), (qd33, true), (qd32, true), (qd6, true), (qd5, true), (qd8, false), (qd26, true), (qd2, true), (qd29, true)], none),
  ([(qd34, false), (.app 114 [qd1], true), (qd35, true), (qd20, false), (qd25, false), (qd33, true), (qd32, true), (qd6, true), (qd5, true), (qd8, false), (qd26, true), (qd2, true), (qd29, true)], some [(.var 13, .var 13), (qd13, qd13), (qd7, qd7), (qd17, qd17), (qd18, qd18)]),
  ([(.app 114 [qd1], false), (qd35, true), (qd20, false), (qd25, false), (qd33, true), (qd32, true), (qd6, true), (qd5, true), (qd8, false), (qd26, true), (qd2, true), (qd29, true)], none),
  ([(qd35, false), (qd20, false), (qd25, false), (qd33, true), (qd32, true), (qd6, true), (qd5, true), (qd8, false), (qd26, true), (qd2, true), (qd29, true)], none),
  ([(qd33, false), (qd32, true), (qd6, true), (qd5, true), (qd8, false), (qd26, true), (qd2, true), (qd29, true)], none),
  ([(qd32, false), (qd6, true), (qd5, true), (qd8, false), (qd26, true), (qd2, true), (qd29, true)], none),
  ([(qd6, false), (qd5, true), (qd8, false), (qd26, true), (qd2, true), (qd29, true)], none),
  ([(qd5, false), (qd8, false), (qd26, true), (qd2, true), (qd29, true)], none)]
theorem cAw0_w (r : Rho) : cAw0_con.fn.ways cAw0_call E0 r cAw0_con.pre cAw0_t = some cAw0_l := by kernel_rfl
set_option maxHeartbeats 4000000 in
theorem cAw0_cok : cAw0_con.Ok Tryz.prog sy := by
  intro ρ σ w us hsy hρ hpre hrel hins
  obtain ⟨l, h19⟩ := whos_at hrel (i := 0) rfl
  obtain ⟨u0, us, rfl, g0, hi⟩ := ins_cons hins
  obtain ⟨u1, us, rfl, g1, hi⟩ := ins_cons hi
  obtain ⟨r, kr, rfl, hr⟩ := rat_agg (v := 0) g0
  obtain ⟨s, ks, rfl, hs⟩ := sal_agg (v := 9) g1
  rw [hρ] at h19 hr hs
  have h19 : ρ.val 19 = some (whosR l) := h19
  obtain ⟨r0, r1, r2, r3, r4, r5, r6, r7, r8, r9, r10, r11, r12, r13, r14, r15, r16, r17, r19⟩ := at_all hr hs h19
  have hp := hpre
  simp only [cAw0_con, FactsIn, X.bool, X.den, denL, dX, denSub, denIte, asB, dY, r0, r1, r2, r3, r4, r5, r6, r7, r8, r9, r10, r11, r12, r13, r14, r15, r16, r17, r19, hsy, sym20, sym102, sym130, sym131, sym146, sym147, sym140, sym141, sym142, sym143, sym144, sym117, sym115, sym10, sym100, sym113, sym114, Option.some.injEq, Value.bool.injEq, and_true, beq_iff_eq, beq_eq_false_iff_ne, ne_eq, decide_eq_false_iff_not] at hp
  obtain ⟨hgd, hsh, hg, hlp⟩ := hp
  have hg' : givesB r s l = true := hg
  obtain ⟨hrb, hsb, hro, hso, hfb⟩ := gives_all hg'
  have hrb1 : rateB ⟨r.id, r.known, r.from_, r.goods, r.num, r.den, r.cart, r.store, r.of_⟩ = true := hrb
  have hsb1 : saleB ⟨s.id, s.known, s.hour, s.parcel, s.price, s.carter, s.keeper, s.since, s.of_⟩ = true := hsb
  clear hrb hsb
  have hde : ¬ r.den = 0 := by have : 1 ≤ r.den := (gives_good hg').2.2.2.1.1; omega
  have hmax := (pay_all hg').2
  have hword := word_ok (pay_all hg').1
  obtain ⟨b1, hrb⟩ : ∃ b, rateB ⟨r.id, r.known, r.from_, r.goods, r.num, r.den, r.cart, r.store, r.of_⟩ = b := ⟨_, rfl⟩
  obtain ⟨b2, hsb⟩ : ∃ b, saleB ⟨s.id, s.known, s.hour, s.parcel, s.price, s.carter, s.keeper, s.since, s.of_⟩ = b := ⟨_, rfl⟩
  refine con_of (E := E0) E0_ok E0_glob (sy := sy) (fun F => LD_ok F hsy) (fun F => aw_H hr hs h19 hsy hg' hsh (by omega) F) (cAw0_w ρ) hρ hpre hrel hins ?_ ?_
  · cases b1 <;> cases b2 <;> simp only [cAw0_con, cAw0_t, qd56, qd55, qd54, qd53, qd52, qd51, qd50, qd49, qd48, qd47, qd46, qd45, qd44, qd43, qd42, qd41, qd40, qd39, qd38, qd37, qd36, qd35, qd34, qd33, qd32, qd31, qd30, qd29, qd28, qd27, qd26, qd25, qd24, qd23, qd22, qd21, qd20, qd19, qd18, qd17, qd16, qd15, qd14, qd13, qd12, qd11, qd10, qd9, qd8, qd7, qd6, qd5, qd4, qd3, qd2, qd1, qd0, AsksL, GTree.asks, FTree.asks, FactsIn, List.append_nil, List.nil_append, List.cons_append, Option.some.injEq, exists_eq', implies_true, and_self, X.bool, X.den, denL, dX, denSub, denIte, asB, dY, d_hasS, d_putS, d_delS, has_put, whos_snocN, whos_snoc0N, shrs_snocN, shrs_snoc0N, r0, r1, r2, r3, r4, r5, r6, r7, r8, r9, r10, r11, r12, r13, r14, r15, r16, r17, r19, hsy, sym20, sym102, sym130, sym131, sym146, sym147, sym140, sym141, sym142, sym143, sym144, sym117, sym115, sym10, sym100, sym113, sym114, hrb, hsb]
    all_goals (try simp)
  · cases b1 <;> cases b2 <;> simp only [cAw0_l, qd56, qd55, qd54, qd53, qd52, qd51, qd50, qd49, qd48, qd47, qd46, qd45, qd44, qd43, qd42, qd41, qd40, qd39, qd38, qd37, qd36, qd35, qd34, qd33, qd32, qd31, qd30, qd29, qd28, qd27, qd26, qd25, qd24, qd23, qd22, qd21, qd20, qd19, qd18, qd17, qd16, qd15, qd14, qd13, qd12, qd11, qd10, qd9, qd8, qd7, qd6, qd5, qd4, qd3, qd2, qd1, qd0, EndsOk, WaysOk, forall_cons, forall_nil, TgtOk, gpair, FactsIn, hold_cons, hold_nil, Option.some.injEq, dZ, X.bool, X.den, denL, dX, denSub, denIte, asB, dY, beq_iff_eq, beq_eq_false_iff_ne, ne_eq, d_hasS, d_putS, d_delS, has_put, whos_snocN, whos_snoc0N, shrs_snocN, shrs_snoc0N, beq_iff_eq, beq_eq_false_iff_ne, ne_eq, r0, r1, r2, r3, r4, r5, r6, r7, r8, r9, r10, r11, r12, r13, r14, r15, r16, r17, r19, hsy, sym20, sym102, sym130, sym131, sym146, sym147, sym140, sym141, sym142, sym143, sym144, sym117, sym115, sym10, sym100, sym113, sym114, hrb, hsb]
    all_goals (clear r0 r1 r2 r3 r4 r5 r6 r7 r8 r9 r10 r11 r12 r13 r14 r15 r16 r17 r19 hr hs h19 hsy hρ hpre hrel hins g0 g1)
    all_goals ((repeat' apply And.intro) <;> intros <;> first
      | trivial
      | contradiction
      | (exfalso; omega)
      | (simp_all; done)
      | (exfalso; simp_all; omega)
      | (exfalso; exact Bool.noConfusion (hword.symm.trans (by assumption))))
noncomputable def cAw1_con : Con := { f := 5, args := [.agg [.int .i64 0, .int .i64 1, .int .i64 2, .str 3, .int .i64 4, .int .i64 5, .int .i64 6, .int .i64 7, .int .i64 8], .agg [.int .i64 9, .int .i64 10, .int .i64 11, .int .i64 12, .int .i64 13, .int .i64 14, .int .i64 15, .int .i64 16, .int .i64 17], whosArg 0 18], N := 1, M := 2, pre := [(.op2 .lt (.num 100) (.op1 .slen (.var 3)), false), (.app 20 [.var 19], true), (.app 146 [.var 0, .var 1, .var 2, .var 3, .var 4, .var 5, .var 6, .var 7, .var 8, .var 9, .var 10, .var 11, .var 12, .var 13, .var 14, .var 15, .var 16, .var 17, .var 19], true), (.op2 .eq (.op1 .len (.app 117 [.app 144 [.var 6, .var 7, .var 4, .var 5, .var 13, .var 11, .var 14, .var 15, .var 16, .var 19]])) (.num 0), false)], out := .tuple [.agg [.sint .i64 (.var 13), .sint .i64 (.app 140 [.var 6, .var 7, .var 4, .var 5, .var 13, .var 11, .var 14, .var 15, .var 16]), .sint .i64 (.app 141 [.var 6, .var 7, .var 4, .var 5, .var 13, .var 11, .var 14, .var 15, .var 16]), .sint .i64 (.app 142 [.var 6, .var 7, .var 4, .var 5, .var 13, .var 11, .var 14, .var 15, .var 16]), .sint .i64 (.app 143 [.var 6, .var 7, .var 4, .var 5, .var 13, .var 11, .var 14, .var 15, .var 16]), .slo 1 2 (.op1 .len (.app 115 [.app 117 [.app 144 [.var 6, .var 7, .var 4, .var 5, .var 13, .var 11, .var 14, .var 15, .var 16, .var 19]]]))], .int .i64 0], news := [(1, .rows 2 shrSch (.num 0) (.app 115 [.app 117 [.app 144 [.var 6, .var 7, .var 4, .var 5, .var 13, .var 11, .var 14, .var 15, .var 16, .var 19]]]) true 57)] }
noncomputable def cAw1_call : Env → CallL := fun E => acallAll E (evH E (LD E) ((fun E => orLoop (oneH 5 (hooks [(8, lSt_D.hook E.facts st_vs)])) (oneH 24 (hooks [(3, lSh_D.hook E.facts sh_vs)]))) E) 8)
noncomputable def cAw1_t : GTree := (.fork qd5 (.fork qd6 (.fork qd32 (.fork qd33 (.fork qd25 (.fork qd20 (.fork qd35 (.fork (.app 114 [qd1]) (.fork qd34 .bad (.leaf [[(1, 302)]])) .bad) .bad) (.fork qd35 (.fork (.app 114 [qd1]) (.fork qd34 .bad (.leaf [[(1, 302)]])) .bad) .bad)) (.fork qd20 (.fork qd35 (.fork (.app 114 [qd1]) (.fork qd34 .bad (.leaf [[(1, 302)]])) .bad) .bad) (.fork qd35 (.fork (.app 114 [qd1]) (.fork qd34 .bad (.leaf [[(1, 302)]])) .bad) .bad))) .bad) .bad) .bad) .bad)
noncomputable def cAw1_l : List (List (X × Bool) × Option Pairs) := [([(qd34, true), (.app 114 [qd1], true), (qd35, true), (qd20, true), (qd25, true), (qd33, true), (qd32, true), (qd6, true), (qd5, true), (qd8, false), (qd26, true), (qd2, true), (qd29, false)], none),
  ([(qd34, false), (.app 114 [qd1], true), (qd35, true), (qd20, true), (qd25, true), (qd33, true), (qd32, true), (qd6, true), (qd5, true), (qd8, false), (qd26, true), (qd2, true), (qd29, false)], some [(.var 13, .var 13), (qd13, qd13), (qd7, qd7), (qd17, qd17), (qd18, qd18), (qd50, qd50), (.app 115 [qd1], .app 115 [qd1])]),
  ([(.app 114 [qd1], false), (qd35, true), (qd20, true), (qd25, true), (qd33, true), (qd32, true), (qd6, true), (qd5, true), (qd8, false), (qd26, true), (qd2, true), (qd29, false)], none),
  ([(qd35, false), (qd20, true), (qd25, true), (qd33, true), (qd32, true), (qd6, true), (qd5, true), (qd8, false), (qd26, true), (qd2, true), (qd29, false)], none),
  ([(qd34, true), (.app 114 [qd1], true), (qd35, true), (qd20, false), (qd25, true), (qd33, true), (qd32, true), (qd6, true), (qd5, true), (qd8, false), (qd26, true), (qd2, true), (qd29, false)], none),
  ([(qd34, false), (.app 114 [qd1], true), (qd35, true), (qd20, false), (qd25, true), (qd33, true), (qd32, true), (qd6, true), (qd5, true), (qd8, false), (qd26, true), (qd2, true), (qd29, false)], some [(.var 13, .var 13), (qd13, qd13), (qd7, qd7), (qd17, qd17), (qd18, qd18), (qd50, qd50), (.app 115 [qd1], .app 115 [qd1])]),
  ([(.app 114 [qd1], false), (qd35, true), (qd20, false), (qd25, true), (qd33, true), (qd32, true), (qd6, true), (qd5, true), (qd8, false), (qd26, true), (qd2, true), (qd29, false)], none),
  ([(qd35, false), (qd20, false), (qd25, true), (qd33, true), (qd32, true), (qd6, true), (qd5, true), (qd8, false), (qd26, true), (qd2, true), (qd29, false)], none),
  ([(qd34, true), (.app 114 [qd1], true), (qd35, true), (qd20, true), (qd25, false), (qd33, true), (qd32, true), (qd6, true), (qd5, true), (qd8, false), (qd26, true), (qd2, true), (qd29, false)], none),
  ([(qd34, false), (.app 114 [qd1], true), (qd35, true), (qd20, true), (qd25, false), (qd33, true), (qd32, true), (qd6, true), (qd5, true), (qd8, false), (qd26, true), (qd2, true), (qd29, false)], some [(.var 13, .var 13), (qd13, qd13), (qd7, qd7), (qd17, qd17), (qd18, qd18), (qd50, qd50), (.app 115 [qd1], .app 115 [qd1])]),
  ([(.app 114 [qd1], false), (qd35, true), (qd20, true), (qd25, false), (qd33, true), (qd32, true), (qd6, true), (qd5, true), (qd8, false), (qd26, true), (qd2, true), (qd29, false)], none),
  ([(qd35, false), (qd20, true), (qd25, false), (qd33, true), (qd32, true), (qd6, true), (qd5, true), (qd8, false), (qd26, true), (qd2, true), (qd29, false)], none),
  ([(qd34, true), (.app 114 [qd1], true), (qd35, true), (qd20, false), (qd25, false), (qd33, true), (qd32, true), (qd6, true), (qd5, true), (qd8, false), (qd26, true), (qd2, true), (qd29, false)], none),
  ([(qd34, false), (.app 114 [qd1], true), (qd35, true), (qd20, false), (qd25, false), (qd33, true), (qd32, true), (qd6, true), (qd5, true), (qd8, false), (qd26, true), (qd2, true), (qd29, false)], some [(.var 13, .var 13), (qd13, qd13), (qd7, qd7), (qd17, qd17), (qd18, qd18), (qd50, qd50), (.app 115 [qd1], .app 115 [qd1])]),
  ([(.app 114 [qd1], false), (qd35, true), (qd20, false), (qd25, false), (qd33, true), (qd32, true), (qd6, true), (qd5, true), (qd8, false), (qd26, true), (qd2, true), (qd29, false)], none),
  ([(qd35, false), (qd20, false), (qd25, false), (qd33, true), (qd32, true), (qd6, true), (qd5, true), (qd8, false), (qd26, true), (qd2, true), (qd29, false)], none),
  ([(qd33, false), (qd32, true), (qd6, true), (qd5, true), (qd8, false), (qd26, true), (qd2, true), (qd29, false)], none),
  ([(qd32, false), (qd6, true), (qd5, true), (qd8, false), (qd26, true), (qd2, true), (qd29, false)], none),
  ([(qd6, false), (qd5, true), (qd8, false), (qd26, true), (qd2, true), (qd29, false)], none),
  ([(qd5, false), (qd8, false), (qd26, true), (qd2, true), (qd29, false)], none)]
theorem cAw1_w (r : Rho) : cAw1_con.fn.ways cAw1_call E0 r cAw1_con.pre cAw1_t = some cAw1_l := by kernel_rfl
set_option maxHeartbeats 4000000 in
theorem cAw1_cok : cAw1_con.Ok Tryz.prog sy := by
  intro ρ σ w us hsy hρ hpre hrel hins
  obtain ⟨l, h19⟩ := whos_at hrel (i := 0) rfl
  obtain ⟨u0, us, rfl, g0, hi⟩ := ins_cons hins
  obtain ⟨u1, us, rfl, g1, hi⟩ := ins_cons hi
  obtain ⟨r, kr, rfl, hr⟩ := rat_agg (v := 0) g0
  obtain ⟨s, ks, rfl, hs⟩ := sal_agg (v := 9) g1
  rw [hρ] at h19 hr hs
  have h19 : ρ.val 19 = some (whosR l) := h19
  obtain ⟨r0, r1, r2, r3, r4, r5, r6, r7, r8, r9, r10, r11, r12, r13, r14, r15, r16, r17, r19⟩ := at_all hr hs h19
  have hp := hpre
  simp only [cAw1_con, FactsIn, X.bool, X.den, denL, dX, denSub, denIte, asB, dY, r0, r1, r2, r3, r4, r5, r6, r7, r8, r9, r10, r11, r12, r13, r14, r15, r16, r17, r19, hsy, sym20, sym102, sym130, sym131, sym146, sym147, sym140, sym141, sym142, sym143, sym144, sym117, sym115, sym10, sym100, sym113, sym114, Option.some.injEq, Value.bool.injEq, and_true, beq_iff_eq, beq_eq_false_iff_ne, ne_eq, decide_eq_false_iff_not] at hp
  obtain ⟨hgd, hsh, hg, hlp⟩ := hp
  have hg' : givesB r s l = true := hg
  obtain ⟨hrb, hsb, hro, hso, hfb⟩ := gives_all hg'
  have hrb1 : rateB ⟨r.id, r.known, r.from_, r.goods, r.num, r.den, r.cart, r.store, r.of_⟩ = true := hrb
  have hsb1 : saleB ⟨s.id, s.known, s.hour, s.parcel, s.price, s.carter, s.keeper, s.since, s.of_⟩ = true := hsb
  clear hrb hsb
  have hde : ¬ r.den = 0 := by have : 1 ≤ r.den := (gives_good hg').2.2.2.1.1; omega
  have hmax := (pay_all hg').2
  have hword := word_ok (pay_all hg').1
  obtain ⟨b1, hrb⟩ : ∃ b, rateB ⟨r.id, r.known, r.from_, r.goods, r.num, r.den, r.cart, r.store, r.of_⟩ = b := ⟨_, rfl⟩
  obtain ⟨b2, hsb⟩ : ∃ b, saleB ⟨s.id, s.known, s.hour, s.parcel, s.price, s.carter, s.keeper, s.since, s.of_⟩ = b := ⟨_, rfl⟩
  refine con_of (E := E0) E0_ok E0_glob (sy := sy) (fun F => LD_ok F hsy) (fun F => aw_H hr hs h19 hsy hg' hsh (by omega) F) (cAw1_w ρ) hρ hpre hrel hins ?_ ?_
  · cases b1 <;> cases b2 <;> simp only [cAw1_con, cAw1_t, qd56, qd55, qd54, qd53, qd52, qd51, qd50, qd49, qd48, qd47, qd46, qd45, qd44, qd43, qd42, qd41, qd40, qd39, qd38, qd37, qd36, qd35, qd34, qd33, qd32, qd31, qd30, qd29, qd28, qd27, qd26, qd25, qd24, qd23, qd22, qd21, qd20, qd19, qd18, qd17, qd16, qd15, qd14, qd13, qd12, qd11, qd10, qd9, qd8, qd7, qd6, qd5, qd4, qd3, qd2, qd1, qd0, AsksL, GTree.asks, FTree.asks, FactsIn, List.append_nil, List.nil_append, List.cons_append, Option.some.injEq, exists_eq', implies_true, and_self, X.bool, X.den, denL, dX, denSub, denIte, asB, dY, d_hasS, d_putS, d_delS, has_put, whos_snocN, whos_snoc0N, shrs_snocN, shrs_snoc0N, r0, r1, r2, r3, r4, r5, r6, r7, r8, r9, r10, r11, r12, r13, r14, r15, r16, r17, r19, hsy, sym20, sym102, sym130, sym131, sym146, sym147, sym140, sym141, sym142, sym143, sym144, sym117, sym115, sym10, sym100, sym113, sym114, hrb, hsb]
    all_goals (try simp)
  · cases b1 <;> cases b2 <;> simp only [cAw1_l, qd56, qd55, qd54, qd53, qd52, qd51, qd50, qd49, qd48, qd47, qd46, qd45, qd44, qd43, qd42, qd41, qd40, qd39, qd38, qd37, qd36, qd35, qd34, qd33, qd32, qd31, qd30, qd29, qd28, qd27, qd26, qd25, qd24, qd23, qd22, qd21, qd20, qd19, qd18, qd17, qd16, qd15, qd14, qd13, qd12, qd11, qd10, qd9, qd8, qd7, qd6, qd5, qd4, qd3, qd2, qd1, qd0, EndsOk, WaysOk, forall_cons, forall_nil, TgtOk, gpair, FactsIn, hold_cons, hold_nil, Option.some.injEq, dZ, X.bool, X.den, denL, dX, denSub, denIte, asB, dY, beq_iff_eq, beq_eq_false_iff_ne, ne_eq, d_hasS, d_putS, d_delS, has_put, whos_snocN, whos_snoc0N, shrs_snocN, shrs_snoc0N, beq_iff_eq, beq_eq_false_iff_ne, ne_eq, r0, r1, r2, r3, r4, r5, r6, r7, r8, r9, r10, r11, r12, r13, r14, r15, r16, r17, r19, hsy, sym20, sym102, sym130, sym131, sym146, sym147, sym140, sym141, sym142, sym143, sym144, sym117, sym115, sym10, sym100, sym113, sym114, hrb, hsb]
    all_goals (clear r0 r1 r2 r3 r4 r5 r6 r7 r8 r9 r10 r11 r12 r13 r14 r15 r16 r17 r19 hr hs h19 hsy hρ hpre hrel hins g0 g1)
    all_goals ((repeat' apply And.intro) <;> intros <;> first
      | trivial
      | contradiction
      | (exfalso; omega)
      | (simp_all; done)
      | (exfalso; simp_all; omega)
      | (exfalso; exact Bool.noConfusion (hword.symm.trans (by assumption))))
end Go.Proofs.YtcmbkcebbgigcaaGreatDoor.Zs
