/-
  The law AwardSold, for a list of sales and for nil.
-/
import Derived.Test.YtckefonlahokkaaGreatDoorSoConE
import Derived.Test.YtckefonlahokkaaGreatDoorSoAcc
import Derived.Test.YtckefonlahokkaaGreatDoorSoRunZ
import Derived.KernelRfl
set_option linter.unusedSimpArgs false
set_option linter.unusedVariables false
namespace Go.Proofs.YtckefonlahokkaaGreatDoor.Zs
open Go
noncomputable def LSL : Env → CallE := libs [cLib cCks_con, cLib cSdE_con, cLib cSdN_con, cLib cSdY_con, cLib cSoE_con, cLib cSoN_con, cLib cSoY_con, cLib cVaL_con, cLib cVaN_con, fun _ => aliveL]
theorem LSL_ok (F : List (X × Bool)) {r : Rho} (h : r.sym = sy) : CallsOk (E1.with F r) (LSL (E1.with F r)) := libs_ok fun c hc => by
  simp only [List.mem_cons, List.not_mem_nil, or_false] at hc
  rcases hc with rfl | rfl | rfl | rfl | rfl | rfl | rfl | rfl | rfl | rfl
  · exact lib_ok (E := E1) cCks_cok F h
  · exact lib_ok (E := E1) cSdE_cok F h
  · exact lib_ok (E := E1) cSdN_cok F h
  · exact lib_ok (E := E1) cSdY_cok F h
  · exact lib_ok (E := E1) cSoE_cok F h
  · exact lib_ok (E := E1) cSoN_cok F h
  · exact lib_ok (E := E1) cSoY_cok F h
  · exact lib_ok (E := E1) cVaL_cok F h
  · exact lib_ok (E := E1) cVaN_cok F h
  · exact alive_ok F r
def ot_vs : List X := []
noncomputable def LSN : Env → CallE := libs [fun _ => aliveL]
theorem LSN_ok (F : List (X × Bool)) {r : Rho} (h : r.sym = sy) : CallsOk (E1.with F r) (LSN (E1.with F r)) := libs_ok fun c hc => by
  simp only [List.mem_cons, List.not_mem_nil, or_false] at hc
  subst hc; exact alive_ok F r
noncomputable def lOt_D : LoopD := { N := 110, M := 121, size := sizeOfF 4, reads := [(60, .rows 9 salSch (.var 0) (.var 1) false 27), (100, .rows 1 [.int .i64] (.num 0) (.app 113 [.app 171 [.var 1, .var 4]]) true 3), (0, .cells [.int .i64 0, .int .i64 1] 143), (1, .cells [.int .i64 1, .int .i64 1] 143)], pats := [{ slots := [(0, .slx 60 9 (.var 0) (.num 0) (.op1 .len (.var 1)) (.var 2)), (1, .sint .i64 (.var 4)), (2, .sint .i64 (.var 6)), (9, .slo 100 1 (.op1 .len (.app 113 [.app 171 [.var 1, .var 4]]))), (10, .int .i64 0), (11, .nilslice), (12, .int .i64 0)], heap := [] }, { slots := [(0, .slx 60 9 (.var 0) (.num 0) (.op1 .len (.var 1)) (.var 2)), (1, .sint .i64 (.var 4)), (2, .sint .i64 (.var 6)), (9, .slo 100 1 (.op1 .len (.app 113 [.app 171 [.var 1, .var 4]]))), (10, .sint .i64 (.var 111)), (11, .slo 120 1 (.op1 .len (.var 112))), (12, .sint .i64 (.var 110))], heap := [(120, .rows 1 [.int .i64] (.num 0) (.var 112) true 3)] }], exits := [(.exit 0, { slots := [(0, .slx 60 9 (.var 0) (.num 0) (.op1 .len (.var 1)) (.var 2)), (1, .sint .i64 (.var 4)), (2, .sint .i64 (.var 6)), (9, .slo 100 1 (.op1 .len (.app 113 [.app 171 [.var 1, .var 4]]))), (10, .sint .i64 (.app 176 [.app 172 [.var 1, .var 4], .app 113 [.app 171 [.var 1, .var 4]]])), (11, .slo 120 1 (.op1 .len (.app 178 [.app 113 [.app 171 [.var 1, .var 4]], .var 6])))], heap := [(120, .rows 1 [.int .i64] (.num 0) (.app 178 [.app 113 [.app 171 [.var 1, .var 4]], .var 6]) true 3)] })], own := [], pre := [(.app 23 [.var 1], true), (.op2 .eq (.app 164 [.var 1]) (.num 0), true), (.op2 .lt (.num 30) (.op1 .len (.var 1)), false), (.op2 .eq (.op1 .len (.app 171 [.var 1, .var 4])) (.num 0), false)], dfs := [] }
noncomputable def lOt_run : Env → AF → ASt → Option (List Out) := bodyRun LSL 9 (fun _ => noLoop) (loopAt Tryz.prog 4 0)
def lOt0_F : List (X × Bool) := [(.op2 .lt (.num 0) (.op1 .len (.app 113 [.app 171 [.var 1, .var 4]])), true), (.app 23 [.var 1], true), (.op2 .eq (.app 164 [.var 1]) (.num 0), true)]
def lOt1_F : List (X × Bool) := [(.op2 .lt (.num 0) (.var 110), true), (.op2 .lt (.var 110) (.num 0), false), (.app 23 [.var 1], true), (.op2 .eq (.app 164 [.var 1]) (.num 0), true)]
noncomputable def lOt0_t : FTree := (.fork (.app 169 [(.var 1), (.cell 0 (.app 113 [(.app 171 [(.var 1), (.var 4)])]) (.num 0)), (.var 4)]) (.fork (.op2 .eq (.app 170 [(.var 1), (.cell 0 (.app 113 [(.app 171 [(.var 1), (.var 4)])]) (.num 0)), (.var 4), (.num 3)]) (.cell 0 (.app 113 [(.app 171 [(.var 1), (.var 4)])]) (.num 0))) (.fork (.op2 .eq (.op1 (.wrap .u64) (.op1 .len (.app 113 [(.app 171 [(.var 1), (.var 4)])]))) (.num 0)) .bad (.fork (.op2 .eq (.op1 .len (.app 113 [(.app 171 [(.var 1), (.var 4)])])) (.num 0)) .bad (.fork (.op2 .lt (.op1 (.kind .i64) (.op2 .mod (.op1 (.wrap .i64) (.op2 .add (.num 0) (.op1 (.wrap .i64) (.op1 (.kind .u64) (.op2 .mod (.op1 (.wrap .u64) (.var 6)) (.op1 (.wrap .u64) (.op1 .len (.app 113 [(.app 171 [(.var 1), (.var 4)])])))))))) (.op1 .len (.app 113 [(.app 171 [(.var 1), (.var 4)])])))) (.num 0)) .bad (.fork (.op2 .lt (.op1 (.kind .i64) (.op2 .mod (.op1 (.wrap .i64) (.op2 .add (.num 0) (.op1 (.wrap .i64) (.op1 (.kind .u64) (.op2 .mod (.op1 (.wrap .u64) (.var 6)) (.op1 (.wrap .u64) (.op1 .len (.app 113 [(.app 171 [(.var 1), (.var 4)])])))))))) (.op1 .len (.app 113 [(.app 171 [(.var 1), (.var 4)])])))) (.op1 .len (.app 113 [(.app 171 [(.var 1), (.var 4)])]))) (.leaf [(.again 1 [(120, 123)])]) .bad)))) .bad) .bad)
noncomputable def lOt0_l : List (List (X × Bool) × Option (List (Tgt × Pairs))) := [([((.op2 .eq (.op1 (.wrap .u64) (.op1 .len (.app 113 [(.app 171 [(.var 1), (.var 4)])]))) (.num 0)), true), ((.op2 .eq (.app 170 [(.var 1), (.cell 0 (.app 113 [(.app 171 [(.var 1), (.var 4)])]) (.num 0)), (.var 4), (.num 3)]) (.cell 0 (.app 113 [(.app 171 [(.var 1), (.var 4)])]) (.num 0))), true), ((.app 169 [(.var 1), (.cell 0 (.app 113 [(.app 171 [(.var 1), (.var 4)])]) (.num 0)), (.var 4)]), true), ((.op2 .lt (.num 0) (.op1 .len (.app 113 [(.app 171 [(.var 1), (.var 4)])]))), true), ((.app 23 [(.var 1)]), true), ((.op2 .eq (.app 164 [(.var 1)]) (.num 0)), true)], none),
  ([((.op2 .eq (.op1 .len (.app 113 [(.app 171 [(.var 1), (.var 4)])])) (.num 0)), true), ((.op2 .eq (.op1 (.wrap .u64) (.op1 .len (.app 113 [(.app 171 [(.var 1), (.var 4)])]))) (.num 0)), false), ((.op2 .eq (.app 170 [(.var 1), (.cell 0 (.app 113 [(.app 171 [(.var 1), (.var 4)])]) (.num 0)), (.var 4), (.num 3)]) (.cell 0 (.app 113 [(.app 171 [(.var 1), (.var 4)])]) (.num 0))), true), ((.app 169 [(.var 1), (.cell 0 (.app 113 [(.app 171 [(.var 1), (.var 4)])]) (.num 0)), (.var 4)]), true), ((.op2 .lt (.num 0) (.op1 .len (.app 113 [(.app 171 [(.var 1), (.var 4)])]))), true), ((.app 23 [(.var 1)]), true), ((.op2 .eq (.app 164 [(.var 1)]) (.num 0)), true)], none),
  ([((.op2 .lt (.op1 (.kind .i64) (.op2 .mod (.op1 (.wrap .i64) (.op2 .add (.num 0) (.op1 (.wrap .i64) (.op1 (.kind .u64) (.op2 .mod (.op1 (.wrap .u64) (.var 6)) (.op1 (.wrap .u64) (.op1 .len (.app 113 [(.app 171 [(.var 1), (.var 4)])])))))))) (.op1 .len (.app 113 [(.app 171 [(.var 1), (.var 4)])])))) (.num 0)), true), ((.op2 .eq (.op1 .len (.app 113 [(.app 171 [(.var 1), (.var 4)])])) (.num 0)), false), ((.op2 .eq (.op1 (.wrap .u64) (.op1 .len (.app 113 [(.app 171 [(.var 1), (.var 4)])]))) (.num 0)), false), ((.op2 .eq (.app 170 [(.var 1), (.cell 0 (.app 113 [(.app 171 [(.var 1), (.var 4)])]) (.num 0)), (.var 4), (.num 3)]) (.cell 0 (.app 113 [(.app 171 [(.var 1), (.var 4)])]) (.num 0))), true), ((.app 169 [(.var 1), (.cell 0 (.app 113 [(.app 171 [(.var 1), (.var 4)])]) (.num 0)), (.var 4)]), true), ((.op2 .lt (.num 0) (.op1 .len (.app 113 [(.app 171 [(.var 1), (.var 4)])]))), true), ((.app 23 [(.var 1)]), true), ((.op2 .eq (.app 164 [(.var 1)]) (.num 0)), true)], none),
  ([((.op2 .lt (.op1 (.kind .i64) (.op2 .mod (.op1 (.wrap .i64) (.op2 .add (.num 0) (.op1 (.wrap .i64) (.op1 (.kind .u64) (.op2 .mod (.op1 (.wrap .u64) (.var 6)) (.op1 (.wrap .u64) (.op1 .len (.app 113 [(.app 171 [(.var 1), (.var 4)])])))))))) (.op1 .len (.app 113 [(.app 171 [(.var 1), (.var 4)])])))) (.op1 .len (.app 113 [(.app 171 [(.var 1), (.var 4)])]))), true), ((.op2 .lt (.op1 (.kind .i64) (.op2 .mod (.op1 (.wrap .i64) (.op2 .add (.num 0) (.op1 (.wrap .i64) (.op1 (.kind .u64) (.op2 .mod (.op1 (.wrap .u64) (.var 6)) (.op1 (.wrap .u64) (.op1 .len (.app 113 [(.app 171 [(.var 1), (.var 4)])])))))))) (.op1 .len (.app 113 [(.app 171 [(.var 1), (.var 4)])])))) (.num 0)), false), ((.op2 .eq (.op1 .len (.app 113 [(.app 171 [(.var 1), (.var 4)])])) (.num 0)), false), ((.op2 .eq (.op1 (.wrap .u64) (.op1 .len (.app 113 [(.app 171 [(.var 1), (.var 4)])]))) (.num 0)), false), ((.op2 .eq (.app 170 [(.var 1), (.cell 0 (.app 113 [(.app 171 [(.var 1), (.var 4)])]) (.num 0)), (.var 4), (.num 3)]) (.cell 0 (.app 113 [(.app 171 [(.var 1), (.var 4)])]) (.num 0))), true), ((.app 169 [(.var 1), (.cell 0 (.app 113 [(.app 171 [(.var 1), (.var 4)])]) (.num 0)), (.var 4)]), true), ((.op2 .lt (.num 0) (.op1 .len (.app 113 [(.app 171 [(.var 1), (.var 4)])]))), true), ((.app 23 [(.var 1)]), true), ((.op2 .eq (.app 164 [(.var 1)]) (.num 0)), true)], some [((.again 1 [(120, 123)]), [((.var 111), (.op1 (.wrap .i64) (.op2 .add (.num 0) (.app 170 [(.var 1), (.cell 0 (.app 113 [(.app 171 [(.var 1), (.var 4)])]) (.num 0)), (.var 4), (.num 4)])))), ((.op1 .len (.var 112)), (.num 1)), ((.var 110), (.num 1)), ((.var 112), (.snoc .nil [(.op1 (.kind .i64) (.cell 0 (.app 113 [(.app 171 [(.var 1), (.var 4)])]) (.op1 (.kind .i64) (.op2 .mod (.op1 (.wrap .i64) (.op2 .add (.num 0) (.op1 (.wrap .i64) (.op1 (.kind .u64) (.op2 .mod (.op1 (.wrap .u64) (.var 6)) (.op1 (.wrap .u64) (.op1 .len (.app 113 [(.app 171 [(.var 1), (.var 4)])])))))))) (.op1 .len (.app 113 [(.app 171 [(.var 1), (.var 4)])]))))))]))])]),
  ([((.op2 .lt (.op1 (.kind .i64) (.op2 .mod (.op1 (.wrap .i64) (.op2 .add (.num 0) (.op1 (.wrap .i64) (.op1 (.kind .u64) (.op2 .mod (.op1 (.wrap .u64) (.var 6)) (.op1 (.wrap .u64) (.op1 .len (.app 113 [(.app 171 [(.var 1), (.var 4)])])))))))) (.op1 .len (.app 113 [(.app 171 [(.var 1), (.var 4)])])))) (.op1 .len (.app 113 [(.app 171 [(.var 1), (.var 4)])]))), false), ((.op2 .lt (.op1 (.kind .i64) (.op2 .mod (.op1 (.wrap .i64) (.op2 .add (.num 0) (.op1 (.wrap .i64) (.op1 (.kind .u64) (.op2 .mod (.op1 (.wrap .u64) (.var 6)) (.op1 (.wrap .u64) (.op1 .len (.app 113 [(.app 171 [(.var 1), (.var 4)])])))))))) (.op1 .len (.app 113 [(.app 171 [(.var 1), (.var 4)])])))) (.num 0)), false), ((.op2 .eq (.op1 .len (.app 113 [(.app 171 [(.var 1), (.var 4)])])) (.num 0)), false), ((.op2 .eq (.op1 (.wrap .u64) (.op1 .len (.app 113 [(.app 171 [(.var 1), (.var 4)])]))) (.num 0)), false), ((.op2 .eq (.app 170 [(.var 1), (.cell 0 (.app 113 [(.app 171 [(.var 1), (.var 4)])]) (.num 0)), (.var 4), (.num 3)]) (.cell 0 (.app 113 [(.app 171 [(.var 1), (.var 4)])]) (.num 0))), true), ((.app 169 [(.var 1), (.cell 0 (.app 113 [(.app 171 [(.var 1), (.var 4)])]) (.num 0)), (.var 4)]), true), ((.op2 .lt (.num 0) (.op1 .len (.app 113 [(.app 171 [(.var 1), (.var 4)])]))), true), ((.app 23 [(.var 1)]), true), ((.op2 .eq (.app 164 [(.var 1)]) (.num 0)), true)], none),
  ([((.op2 .eq (.app 170 [(.var 1), (.cell 0 (.app 113 [(.app 171 [(.var 1), (.var 4)])]) (.num 0)), (.var 4), (.num 3)]) (.cell 0 (.app 113 [(.app 171 [(.var 1), (.var 4)])]) (.num 0))), false), ((.app 169 [(.var 1), (.cell 0 (.app 113 [(.app 171 [(.var 1), (.var 4)])]) (.num 0)), (.var 4)]), true), ((.op2 .lt (.num 0) (.op1 .len (.app 113 [(.app 171 [(.var 1), (.var 4)])]))), true), ((.app 23 [(.var 1)]), true), ((.op2 .eq (.app 164 [(.var 1)]) (.num 0)), true)], none),
  ([((.app 169 [(.var 1), (.cell 0 (.app 113 [(.app 171 [(.var 1), (.var 4)])]) (.num 0)), (.var 4)]), false), ((.op2 .lt (.num 0) (.op1 .len (.app 113 [(.app 171 [(.var 1), (.var 4)])]))), true), ((.app 23 [(.var 1)]), true), ((.op2 .eq (.app 164 [(.var 1)]) (.num 0)), true)], none)]
theorem lOt0_w (r : Rho) : lOt_D.ways lOt_run E1 r 0 lOt0_F lOt0_t = some lOt0_l := by kernel_rfl
noncomputable def lOt1_t : FTree := (.fork (.op2 .lt (.var 110) (.op1 .len (.app 113 [(.app 171 [(.var 1), (.var 4)])]))) (.fork (.op2 .lt (.op1 (.wrap .i64) (.op2 .sub (.var 110) (.num 1))) (.num 0)) .bad (.fork (.op2 .lt (.op1 (.wrap .i64) (.op2 .sub (.var 110) (.num 1))) (.op1 .len (.app 113 [(.app 171 [(.var 1), (.var 4)])]))) (.fork (.op2 .lt (.cell 0 (.app 113 [(.app 171 [(.var 1), (.var 4)])]) (.op1 (.wrap .i64) (.op2 .sub (.var 110) (.num 1)))) (.cell 0 (.app 113 [(.app 171 [(.var 1), (.var 4)])]) (.var 110))) (.fork (.app 169 [(.var 1), (.cell 0 (.app 113 [(.app 171 [(.var 1), (.var 4)])]) (.var 110)), (.var 4)]) (.fork (.op2 .eq (.app 170 [(.var 1), (.cell 0 (.app 113 [(.app 171 [(.var 1), (.var 4)])]) (.var 110)), (.var 4), (.num 3)]) (.cell 0 (.app 113 [(.app 171 [(.var 1), (.var 4)])]) (.var 110))) (.fork (.op2 .eq (.op1 (.wrap .u64) (.op1 .len (.app 113 [(.app 171 [(.var 1), (.var 4)])]))) (.num 0)) .bad (.fork (.op2 .eq (.op1 .len (.app 113 [(.app 171 [(.var 1), (.var 4)])])) (.num 0)) .bad (.fork (.op2 .lt (.op1 (.kind .i64) (.op2 .mod (.op1 (.wrap .i64) (.op2 .add (.var 110) (.op1 (.wrap .i64) (.op1 (.kind .u64) (.op2 .mod (.op1 (.wrap .u64) (.var 6)) (.op1 (.wrap .u64) (.op1 .len (.app 113 [(.app 171 [(.var 1), (.var 4)])])))))))) (.op1 .len (.app 113 [(.app 171 [(.var 1), (.var 4)])])))) (.num 0)) .bad (.fork (.op2 .lt (.op1 (.kind .i64) (.op2 .mod (.op1 (.wrap .i64) (.op2 .add (.var 110) (.op1 (.wrap .i64) (.op1 (.kind .u64) (.op2 .mod (.op1 (.wrap .u64) (.var 6)) (.op1 (.wrap .u64) (.op1 .len (.app 113 [(.app 171 [(.var 1), (.var 4)])])))))))) (.op1 .len (.app 113 [(.app 171 [(.var 1), (.var 4)])])))) (.op1 .len (.app 113 [(.app 171 [(.var 1), (.var 4)])]))) (.fork (.op2 .lt (.num 1000000000) (.op2 .add (.op1 .len (.var 112)) (.num 1))) .bad (.leaf [(.again 1 [(120, 123)])])) .bad)))) .bad) .bad) .bad) .bad)) (.leaf [(.leave 0 [(120, 120)])]))
noncomputable def lOt1_l : List (List (X × Bool) × Option (List (Tgt × Pairs))) := [([((.op2 .lt (.op1 (.wrap .i64) (.op2 .sub (.var 110) (.num 1))) (.num 0)), true), ((.op2 .lt (.var 110) (.op1 .len (.app 113 [(.app 171 [(.var 1), (.var 4)])]))), true), ((.op2 .lt (.num 0) (.var 110)), true), ((.op2 .lt (.var 110) (.num 0)), false), ((.app 23 [(.var 1)]), true), ((.op2 .eq (.app 164 [(.var 1)]) (.num 0)), true)], none),
  ([((.op2 .eq (.op1 (.wrap .u64) (.op1 .len (.app 113 [(.app 171 [(.var 1), (.var 4)])]))) (.num 0)), true), ((.op2 .eq (.app 170 [(.var 1), (.cell 0 (.app 113 [(.app 171 [(.var 1), (.var 4)])]) (.var 110)), (.var 4), (.num 3)]) (.cell 0 (.app 113 [(.app 171 [(.var 1), (.var 4)])]) (.var 110))), true), ((.app 169 [(.var 1), (.cell 0 (.app 113 [(.app 171 [(.var 1), (.var 4)])]) (.var 110)), (.var 4)]), true), ((.op2 .lt (.cell 0 (.app 113 [(.app 171 [(.var 1), (.var 4)])]) (.op1 (.wrap .i64) (.op2 .sub (.var 110) (.num 1)))) (.cell 0 (.app 113 [(.app 171 [(.var 1), (.var 4)])]) (.var 110))), true), ((.op2 .lt (.op1 (.wrap .i64) (.op2 .sub (.var 110) (.num 1))) (.op1 .len (.app 113 [(.app 171 [(.var 1), (.var 4)])]))), true), ((.op2 .lt (.op1 (.wrap .i64) (.op2 .sub (.var 110) (.num 1))) (.num 0)), false), ((.op2 .lt (.var 110) (.op1 .len (.app 113 [(.app 171 [(.var 1), (.var 4)])]))), true), ((.op2 .lt (.num 0) (.var 110)), true), ((.op2 .lt (.var 110) (.num 0)), false), ((.app 23 [(.var 1)]), true), ((.op2 .eq (.app 164 [(.var 1)]) (.num 0)), true)], none),
  ([((.op2 .eq (.op1 .len (.app 113 [(.app 171 [(.var 1), (.var 4)])])) (.num 0)), true), ((.op2 .eq (.op1 (.wrap .u64) (.op1 .len (.app 113 [(.app 171 [(.var 1), (.var 4)])]))) (.num 0)), false), ((.op2 .eq (.app 170 [(.var 1), (.cell 0 (.app 113 [(.app 171 [(.var 1), (.var 4)])]) (.var 110)), (.var 4), (.num 3)]) (.cell 0 (.app 113 [(.app 171 [(.var 1), (.var 4)])]) (.var 110))), true), ((.app 169 [(.var 1), (.cell 0 (.app 113 [(.app 171 [(.var 1), (.var 4)])]) (.var 110)), (.var 4)]), true), ((.op2 .lt (.cell 0 (.app 113 [(.app 171 [(.var 1), (.var 4)])]) (.op1 (.wrap .i64) (.op2 .sub (.var 110) (.num 1)))) (.cell 0 (.app 113 [(.app 171 [(.var 1), (.var 4)])]) (.var 110))), true), ((.op2 .lt (.op1 (.wrap .i64) (.op2 .sub (.var 110) (.num 1))) (.op1 .len (.app 113 [(.app 171 [(.var 1), (.var 4)])]))), true), ((.op2 .lt (.op1 (.wrap .i64) (.op2 .sub (.var 110) (.num 1))) (.num 0)), false), ((.op2 .lt (.var 110) (.op1 .len (.app 113 [(.app 171 [(.var 1), (.var 4)])]))), true), ((.op2 .lt (.num 0) (.var 110)), true), ((.op2 .lt (.var 110) (.num 0)), false), ((.app 23 [(.var 1)]), true), ((.op2 .eq (.app 164 [(.var 1)]) (.num 0)), true)], none),
  ([((.op2 .lt (.op1 (.kind .i64) (.op2 .mod (.op1 (.wrap .i64) (.op2 .add (.var 110) (.op1 (.wrap .i64) (.op1 (.kind .u64) (.op2 .mod (.op1 (.wrap .u64) (.var 6)) (.op1 (.wrap .u64) (.op1 .len (.app 113 [(.app 171 [(.var 1), (.var 4)])])))))))) (.op1 .len (.app 113 [(.app 171 [(.var 1), (.var 4)])])))) (.num 0)), true), ((.op2 .eq (.op1 .len (.app 113 [(.app 171 [(.var 1), (.var 4)])])) (.num 0)), false), ((.op2 .eq (.op1 (.wrap .u64) (.op1 .len (.app 113 [(.app 171 [(.var 1), (.var 4)])]))) (.num 0)), false), ((.op2 .eq (.app 170 [(.var 1), (.cell 0 (.app 113 [(.app 171 [(.var 1), (.var 4)])]) (.var 110)), (.var 4), (.num 3)]) (.cell 0 (.app 113 [(.app 171 [(.var 1), (.var 4)])]) (.var 110))), true), ((.app 169 [(.var 1), (.cell 0 (.app 113 [(.app 171 [(.var 1), (.var 4)])]) (.var 110)), (.var 4)]), true), ((.op2 .lt (.cell 0 (.app 113 [(.app 171 [(.var 1), (.var 4)])]) (.op1 (.wrap .i64) (.op2 .sub (.var 110) (.num 1)))) (.cell 0 (.app 113 [(.app 171 [(.var 1), (.var 4)])]) (.var 110))), true), ((.op2 .lt (.op1 (.wrap .i64) (.op2 .sub (.var 110) (.num 1))) (.op1 .len (.app 113 [(.app 171 [(.var 1), (.var 4)])]))), true), ((.op2 .lt (.op1 (.wrap .i64) (.op2 .sub (.var 110) (.num 1))) (.num 0)), false), ((.op2 .lt (.var 110) (.op1 .len (.app 113 [(.app 171 [(.var 1), (.var 4)])]))), true), ((.op2 .lt (.num 0) (.var 110)), true), ((.op2 .lt (.var 110) (.num 0)), false), ((.app 23 [(.var 1)]), true), ((.op2 .eq (.app 164 [(.var 1)]) (.num 0)), true)], none),
  ([((.op2 .lt (.num 1000000000) (.op2 .add (.op1 .len (.var 112)) (.num 1))), true), ((.op2 .lt (.op1 (.kind .i64) (.op2 .mod (.op1 (.wrap .i64) (.op2 .add (.var 110) (.op1 (.wrap .i64) (.op1 (.kind .u64) (.op2 .mod (.op1 (.wrap .u64) (.var 6)) (.op1 (.wrap .u64) (.op1 .len (.app 113 [(.app 171 [(.var 1), (.var 4)])])))))))) (.op1 .len (.app 113 [(.app 171 [(.var 1), (.var 4)])])))) (.op1 .len (.app 113 [(.app 171 [(.var 1), (.var 4)])]))), true), ((.op2 .lt (.op1 (.kind .i64) (.op2 .mod (.op1 (.wrap .i64) (.op2 .add (.var 110) (.op1 (.wrap .i64) (.op1 (.kind .u64) (.op2 .mod (.op1 (.wrap .u64) (.var 6)) (.op1 (.wrap .u64) (.op1 .len (.app 113 [(.app 171 [(.var 1), (.var 4)])])))))))) (.op1 .len (.app 113 [(.app 171 [(.var 1), (.var 4)])])))) (.num 0)), false), ((.op2 .eq (.op1 .len (.app 113 [(.app 171 [(.var 1), (.var 4)])])) (.num 0)), false), ((.op2 .eq (.op1 (.wrap .u64) (.op1 .len (.app 113 [(.app 171 [(.var 1), (.var 4)])]))) (.num 0)), false), ((.op2 .eq (.app 170 [(.var 1), (.cell 0 (.app 113 [(.app 171 [(.var 1), (.var 4)])]) (.var 110)), (.var 4), (.num 3)]) (.cell 0 (.app 113 [(.app 171 [(.var 1), (.var 4)])]) (.var 110))), true), ((.app 169 [(.var 1), (.cell 0 (.app 113 [(.app 171 [(.var 1), (.var 4)])]) (.var 110)), (.var 4)]), true), ((.op2 .lt (.cell 0 (.app 113 [(.app 171 [(.var 1), (.var 4)])]) (.op1 (.wrap .i64) (.op2 .sub (.var 110) (.num 1)))) (.cell 0 (.app 113 [(.app 171 [(.var 1), (.var 4)])]) (.var 110))), true), ((.op2 .lt (.op1 (.wrap .i64) (.op2 .sub (.var 110) (.num 1))) (.op1 .len (.app 113 [(.app 171 [(.var 1), (.var 4)])]))), true), ((.op2 .lt (.op1 (.wrap .i64) (.op2 .sub (.var 110) (.num 1))) (.num 0)), false), ((.op2 .lt (.var 110) (.op1 .len (.app 113 [(.app 171 [(.var 1), (.var 4)])]))), true), ((.op2 .lt (.num 0) (.var 110)), true), ((.op2 .lt (.var 110) (.num 0)), false), ((.app 23 [(.var 1)]), true), ((.op2 .eq (.app 164 [(.var 1)]) (.num 0)), true)], none),
  ([((.op2 .lt (.num 1000000000) (.op2 .add (.op1 .len (.var 112)) (.num 1))), false), ((.op2 .lt (.op1 (.kind .i64) (.op2 .mod (.op1 (.wrap .i64) (.op2 .add (.var 110) (.op1 (.wrap .i64) (.op1 (.kind .u64) (.op2 .mod (.op1 (.wrap .u64) (.var 6)) (.op1 (.wrap .u64) (.op1 .len (.app 113 [(.app 171 [(.var 1), (.var 4)])])))))))) (.op1 .len (.app 113 [(.app 171 [(.var 1), (.var 4)])])))) (.op1 .len (.app 113 [(.app 171 [(.var 1), (.var 4)])]))), true), ((.op2 .lt (.op1 (.kind .i64) (.op2 .mod (.op1 (.wrap .i64) (.op2 .add (.var 110) (.op1 (.wrap .i64) (.op1 (.kind .u64) (.op2 .mod (.op1 (.wrap .u64) (.var 6)) (.op1 (.wrap .u64) (.op1 .len (.app 113 [(.app 171 [(.var 1), (.var 4)])])))))))) (.op1 .len (.app 113 [(.app 171 [(.var 1), (.var 4)])])))) (.num 0)), false), ((.op2 .eq (.op1 .len (.app 113 [(.app 171 [(.var 1), (.var 4)])])) (.num 0)), false), ((.op2 .eq (.op1 (.wrap .u64) (.op1 .len (.app 113 [(.app 171 [(.var 1), (.var 4)])]))) (.num 0)), false), ((.op2 .eq (.app 170 [(.var 1), (.cell 0 (.app 113 [(.app 171 [(.var 1), (.var 4)])]) (.var 110)), (.var 4), (.num 3)]) (.cell 0 (.app 113 [(.app 171 [(.var 1), (.var 4)])]) (.var 110))), true), ((.app 169 [(.var 1), (.cell 0 (.app 113 [(.app 171 [(.var 1), (.var 4)])]) (.var 110)), (.var 4)]), true), ((.op2 .lt (.cell 0 (.app 113 [(.app 171 [(.var 1), (.var 4)])]) (.op1 (.wrap .i64) (.op2 .sub (.var 110) (.num 1)))) (.cell 0 (.app 113 [(.app 171 [(.var 1), (.var 4)])]) (.var 110))), true), ((.op2 .lt (.op1 (.wrap .i64) (.op2 .sub (.var 110) (.num 1))) (.op1 .len (.app 113 [(.app 171 [(.var 1), (.var 4)])]))), true), ((.op2 .lt (.op1 (.wrap .i64) (.op2 .sub (.var 110) (.num 1))) (.num 0)), false), ((.op2 .lt (.var 110) (.op1 .len (.app 113 [(.app 171 [(.var 1), (.var 4)])]))), true), ((.op2 .lt (.num 0) (.var 110)), true), ((.op2 .lt (.var 110) (.num 0)), false), ((.app 23 [(.var 1)]), true), ((.op2 .eq (.app 164 [(.var 1)]) (.num 0)), true)], some [((.again 1 [(120, 123)]), [((.var 111), (.op1 (.wrap .i64) (.op2 .add (.var 111) (.app 170 [(.var 1), (.cell 0 (.app 113 [(.app 171 [(.var 1), (.var 4)])]) (.var 110)), (.var 4), (.num 4)])))), ((.op1 .len (.var 112)), (.op2 .add (.op1 .len (.var 112)) (.num 1))), ((.var 110), (.op1 (.wrap .i64) (.op2 .add (.var 110) (.num 1)))), ((.var 112), (.snoc (.var 112) [(.op1 (.kind .i64) (.cell 0 (.app 113 [(.app 171 [(.var 1), (.var 4)])]) (.op1 (.kind .i64) (.op2 .mod (.op1 (.wrap .i64) (.op2 .add (.var 110) (.op1 (.wrap .i64) (.op1 (.kind .u64) (.op2 .mod (.op1 (.wrap .u64) (.var 6)) (.op1 (.wrap .u64) (.op1 .len (.app 113 [(.app 171 [(.var 1), (.var 4)])])))))))) (.op1 .len (.app 113 [(.app 171 [(.var 1), (.var 4)])]))))))]))])]),
  ([((.op2 .lt (.op1 (.kind .i64) (.op2 .mod (.op1 (.wrap .i64) (.op2 .add (.var 110) (.op1 (.wrap .i64) (.op1 (.kind .u64) (.op2 .mod (.op1 (.wrap .u64) (.var 6)) (.op1 (.wrap .u64) (.op1 .len (.app 113 [(.app 171 [(.var 1), (.var 4)])])))))))) (.op1 .len (.app 113 [(.app 171 [(.var 1), (.var 4)])])))) (.op1 .len (.app 113 [(.app 171 [(.var 1), (.var 4)])]))), false), ((.op2 .lt (.op1 (.kind .i64) (.op2 .mod (.op1 (.wrap .i64) (.op2 .add (.var 110) (.op1 (.wrap .i64) (.op1 (.kind .u64) (.op2 .mod (.op1 (.wrap .u64) (.var 6)) (.op1 (.wrap .u64) (.op1 .len (.app 113 [(.app 171 [(.var 1), (.var 4)])])))))))) (.op1 .len (.app 113 [(.app 171 [(.var 1), (.var 4)])])))) (.num 0)), false), ((.op2 .eq (.op1 .len (.app 113 [(.app 171 [(.var 1), (.var 4)])])) (.num 0)), false), ((.op2 .eq (.op1 (.wrap .u64) (.op1 .len (.app 113 [(.app 171 [(.var 1), (.var 4)])]))) (.num 0)), false), ((.op2 .eq (.app 170 [(.var 1), (.cell 0 (.app 113 [(.app 171 [(.var 1), (.var 4)])]) (.var 110)), (.var 4), (.num 3)]) (.cell 0 (.app 113 [(.app 171 [(.var 1), (.var 4)])]) (.var 110))), true), ((.app 169 [(.var 1), (.cell 0 (.app 113 [(.app 171 [(.var 1), (.var 4)])]) (.var 110)), (.var 4)]), true), ((.op2 .lt (.cell 0 (.app 113 [(.app 171 [(.var 1), (.var 4)])]) (.op1 (.wrap .i64) (.op2 .sub (.var 110) (.num 1)))) (.cell 0 (.app 113 [(.app 171 [(.var 1), (.var 4)])]) (.var 110))), true), ((.op2 .lt (.op1 (.wrap .i64) (.op2 .sub (.var 110) (.num 1))) (.op1 .len (.app 113 [(.app 171 [(.var 1), (.var 4)])]))), true), ((.op2 .lt (.op1 (.wrap .i64) (.op2 .sub (.var 110) (.num 1))) (.num 0)), false), ((.op2 .lt (.var 110) (.op1 .len (.app 113 [(.app 171 [(.var 1), (.var 4)])]))), true), ((.op2 .lt (.num 0) (.var 110)), true), ((.op2 .lt (.var 110) (.num 0)), false), ((.app 23 [(.var 1)]), true), ((.op2 .eq (.app 164 [(.var 1)]) (.num 0)), true)], none),
  ([((.op2 .eq (.app 170 [(.var 1), (.cell 0 (.app 113 [(.app 171 [(.var 1), (.var 4)])]) (.var 110)), (.var 4), (.num 3)]) (.cell 0 (.app 113 [(.app 171 [(.var 1), (.var 4)])]) (.var 110))), false), ((.app 169 [(.var 1), (.cell 0 (.app 113 [(.app 171 [(.var 1), (.var 4)])]) (.var 110)), (.var 4)]), true), ((.op2 .lt (.cell 0 (.app 113 [(.app 171 [(.var 1), (.var 4)])]) (.op1 (.wrap .i64) (.op2 .sub (.var 110) (.num 1)))) (.cell 0 (.app 113 [(.app 171 [(.var 1), (.var 4)])]) (.var 110))), true), ((.op2 .lt (.op1 (.wrap .i64) (.op2 .sub (.var 110) (.num 1))) (.op1 .len (.app 113 [(.app 171 [(.var 1), (.var 4)])]))), true), ((.op2 .lt (.op1 (.wrap .i64) (.op2 .sub (.var 110) (.num 1))) (.num 0)), false), ((.op2 .lt (.var 110) (.op1 .len (.app 113 [(.app 171 [(.var 1), (.var 4)])]))), true), ((.op2 .lt (.num 0) (.var 110)), true), ((.op2 .lt (.var 110) (.num 0)), false), ((.app 23 [(.var 1)]), true), ((.op2 .eq (.app 164 [(.var 1)]) (.num 0)), true)], none),
  ([((.app 169 [(.var 1), (.cell 0 (.app 113 [(.app 171 [(.var 1), (.var 4)])]) (.var 110)), (.var 4)]), false), ((.op2 .lt (.cell 0 (.app 113 [(.app 171 [(.var 1), (.var 4)])]) (.op1 (.wrap .i64) (.op2 .sub (.var 110) (.num 1)))) (.cell 0 (.app 113 [(.app 171 [(.var 1), (.var 4)])]) (.var 110))), true), ((.op2 .lt (.op1 (.wrap .i64) (.op2 .sub (.var 110) (.num 1))) (.op1 .len (.app 113 [(.app 171 [(.var 1), (.var 4)])]))), true), ((.op2 .lt (.op1 (.wrap .i64) (.op2 .sub (.var 110) (.num 1))) (.num 0)), false), ((.op2 .lt (.var 110) (.op1 .len (.app 113 [(.app 171 [(.var 1), (.var 4)])]))), true), ((.op2 .lt (.num 0) (.var 110)), true), ((.op2 .lt (.var 110) (.num 0)), false), ((.app 23 [(.var 1)]), true), ((.op2 .eq (.app 164 [(.var 1)]) (.num 0)), true)], none),
  ([((.op2 .lt (.cell 0 (.app 113 [(.app 171 [(.var 1), (.var 4)])]) (.op1 (.wrap .i64) (.op2 .sub (.var 110) (.num 1)))) (.cell 0 (.app 113 [(.app 171 [(.var 1), (.var 4)])]) (.var 110))), false), ((.op2 .lt (.op1 (.wrap .i64) (.op2 .sub (.var 110) (.num 1))) (.op1 .len (.app 113 [(.app 171 [(.var 1), (.var 4)])]))), true), ((.op2 .lt (.op1 (.wrap .i64) (.op2 .sub (.var 110) (.num 1))) (.num 0)), false), ((.op2 .lt (.var 110) (.op1 .len (.app 113 [(.app 171 [(.var 1), (.var 4)])]))), true), ((.op2 .lt (.num 0) (.var 110)), true), ((.op2 .lt (.var 110) (.num 0)), false), ((.app 23 [(.var 1)]), true), ((.op2 .eq (.app 164 [(.var 1)]) (.num 0)), true)], none),
  ([((.op2 .lt (.op1 (.wrap .i64) (.op2 .sub (.var 110) (.num 1))) (.op1 .len (.app 113 [(.app 171 [(.var 1), (.var 4)])]))), false), ((.op2 .lt (.op1 (.wrap .i64) (.op2 .sub (.var 110) (.num 1))) (.num 0)), false), ((.op2 .lt (.var 110) (.op1 .len (.app 113 [(.app 171 [(.var 1), (.var 4)])]))), true), ((.op2 .lt (.num 0) (.var 110)), true), ((.op2 .lt (.var 110) (.num 0)), false), ((.app 23 [(.var 1)]), true), ((.op2 .eq (.app 164 [(.var 1)]) (.num 0)), true)], none),
  ([((.op2 .lt (.var 110) (.op1 .len (.app 113 [(.app 171 [(.var 1), (.var 4)])]))), false), ((.op2 .lt (.num 0) (.var 110)), true), ((.op2 .lt (.var 110) (.num 0)), false), ((.app 23 [(.var 1)]), true), ((.op2 .eq (.app 164 [(.var 1)]) (.num 0)), true)], some [((.leave 0 [(120, 120)]), [((.app 176 [(.app 172 [(.var 1), (.var 4)]), (.app 113 [(.app 171 [(.var 1), (.var 4)])])]), (.var 111)), ((.op1 .len (.app 178 [(.app 113 [(.app 171 [(.var 1), (.var 4)])]), (.var 6)])), (.op1 .len (.var 112))), ((.app 178 [(.app 113 [(.app 171 [(.var 1), (.var 4)])]), (.var 6)]), (.var 112))])])]
theorem lOt1_w (r : Rho) : lOt_D.ways lOt_run E1 r 1 lOt1_F lOt1_t = some lOt1_l := by kernel_rfl
theorem lOt_ok : lOt_D.ok = true := by kernel_rfl
theorem u64_wrap_nonneg (T : Int) : 0 ≤ IntKind.u64.wrap T := by
  rw [IntKind.wrap_u64]
  omega
theorem u64_small {n : Nat} (h : n ≤ 30) : IntKind.u64.wrap (n : Int) = (n : Int) := IntWalk.u64_in _ (by omega)
theorem s_len_ (l : List Sal9) (K : Int) : (sortedW (cntW l K)).length ≤ l.length := by
  have := cntW_len l K
  have := sorted_len (cntW l K)
  show (sortedW (cntW l K)).length ≤ _
  omega
theorem tOf_val {T : Int} {n : Nat} (h1 : 1 ≤ n) (h2 : n ≤ 30) : (IntKind.u64.wrap T).tmod (IntKind.u64.wrap (n : Int)) = ((tOf T n : Nat) : Int) ∧ tOf T n < n := by
  unfold tOf
  rw [u64_small h2]
  have h0 := u64_wrap_nonneg T
  generalize IntKind.u64.wrap T = t at h0 ⊢
  rw [Int.tmod_eq_emod_of_nonneg h0]
  have a := Int.emod_nonneg t (show (n : Int) ≠ 0 by omega)
  have b := Int.emod_lt_of_pos t (show (0 : Int) < n by omega)
  omega
theorem idx_val {T : Int} {n i : Nat} (h1 : 1 ≤ n) (h2 : n ≤ 30) (hi : i < n) : (IntKind.i64.wrap ((i : Int) + IntKind.i64.wrap ((IntKind.u64.wrap T).tmod (IntKind.u64.wrap (n : Int))))).tmod (n : Int) = (((i + tOf T n) % n : Nat) : Int) := by
  obtain ⟨a, b⟩ := tOf_val (T := T) h1 h2
  rw [a, IntWalk.i64_in ((tOf T n : Nat) : Int) (by omega), IntWalk.i64_in ((i : Int) + ((tOf T n : Nat) : Int)) (by omega), Int.tmod_eq_emod_of_nonneg (by omega)]
  rw [Int.natCast_emod, Int.natCast_add]
theorem so_val {l : List Sal9} (he : chkE l = 0) (hl : l.length ≤ 30) (K : Int) (t : Nat) : (valS l (sortedW (cntW l K)) K = sumP9 (prcM l K) (sortedW (cntW l K)) ∧ valE l (sortedW (cntW l K)) K = 0) ∧ (valS l (turnW (sortedW (cntW l K)) t) K = sumP9 (prcM l K) (sortedW (cntW l K)) ∧ valE l (turnW (sortedW (cntW l K)) t) K = 0) := by
  have g := sold_ok he K
  have h2 : ∀ w ∈ (sortedW (cntW l K)), 1 ≤ atP (prcM l K) w.n := fun w hw => by
    obtain ⟨x, _, _, hx, hx1, _⟩ := g.at_ w hw
    omega
  refine ⟨value_of he hl K (s_len_ l K) g.one h2, ?_⟩
  have := value_of he hl K (b := turnW (sortedW (cntW l K)) t) (by rw [turn_len]; exact s_len_ l K) (turn_one t g.one) fun w hw => h2 w (turn_mem.1 hw)
  rw [turn_sum] at this
  exact this
def lOt_Inv (l : List Sal9) (K T : Int) (j : Nat) (vals : List Value) : Prop :=
  (j = 0 ∧ vals = []) ∨ (j = 1 ∧ ∃ i : Nat, 1 ≤ i ∧ i ≤ (sortedW (cntW l K)).length ∧ vals = [.int .i64 ((i : Nat) : Int), .int .i64 (sumP9 (prcM l K) ((sortedW (cntW l K)).take (i))), whosR ((turnW (sortedW (cntW l K)) (tOf T (sortedW (cntW l K)).length)).take (i))])
def lOt_mu (n : Nat) (j : Nat) (vals : List Value) : Nat := if j = 0 then n + 1 else n - (vI (vals.getD 0 default)).toNat
set_option maxHeartbeats 4000000 in
theorem lOt_step0 {ρ : Rho} {l : List Sal9} {K T : Int} {k4 k6 : IntKind} (h1 : ρ.val 1 = some (salsR l)) (h4 : ρ.val 4 = some (.int k4 K)) (h6 : ρ.val 6 = some (.int k6 T)) (hsy : ρ.sym = sy) (hl : l.length ≤ 30) (he : chkE l = 0) (hne : 1 ≤ (sortedW (cntW l K)).length) : StepOk lOt_D lOt_run E1 ρ (lOt_Inv l K T) (lOt_mu (sortedW (cntW l K)).length) 0 [] := by
  have hN : lOt_D.N = 110 := rfl
  have v1 : (ρ.ext lOt_D.N []).val 1 = some (salsR l) := by rw [ext_low _ _ _ _ (by rw [hN]; omega)]; exact h1
  have v4 : (ρ.ext lOt_D.N []).val 4 = some (.int k4 K) := by rw [ext_low _ _ _ _ (by rw [hN]; omega)]; exact h4
  have v6 : (ρ.ext lOt_D.N []).val 6 = some (.int k6 T) := by rw [ext_low _ _ _ _ (by rw [hN]; omega)]; exact h6
  have vs : (ρ.ext lOt_D.N []).sym = sy := hsy
  have hsl := s_len_ l K
  have hsh : shortB l = true := len_short (by omega)
  have g := sold_ok he K
  have hF : FactsIn (ρ.ext lOt_D.N []) lOt0_F := by
    simp only [lOt0_F, FactsIn, X.bool, X.den, denL, dX, denSub, denIte, asB, dY, d_hasF, d_putF, d_delF, d_hasR5, d_putR5, whos_snocN, whos_snoc0N, recs_snoc0N, flgs_snoc0N, sals_len, sals_cell, v1, v4, v6, vs, sym23, sym164, sym169, sym170, sym171, sym172, sym113W, sym173, sym174, sym176, sym178, he, hsh, Option.some.injEq, Value.bool.injEq, decide_eq_false_iff_not, decide_eq_true_eq, and_true, beq_self_eq_true, true_and]
    omega
  suffices both : AsksL (ρ.ext lOt_D.N []) (lOt0_t.asks lOt0_F) ∧ WaysOk lOt_D ρ (lOt_Inv l K T) (lOt_mu (sortedW (cntW l K)).length) 0 [] lOt0_l from step_of_ways (lOt0_w _) hF both.1.ok both.2
  have hin : 0 < (sortedW (cntW l K)).length := by omega
  obtain ⟨w, hp⟩ : ∃ w, (sortedW (cntW l K))[0]? = some w := ⟨_, List.getElem?_eq_getElem hin⟩
  obtain ⟨x, hx, hxp, hxa, hx1, hx2⟩ := g.at_ w (List.mem_of_getElem? hp)
  have hse : (saleAt l w.n K).isSome = true := by rw [hx]; rfl
  have hc3 : saleCell l w.n K 3 = some (.int .i64 w.n) := by unfold saleCell; rw [hx, ← hxp]; rfl
  have hc4 : saleCell l w.n K 4 = some (.int .i64 (atP (prcM l K) w.n)) := by unfold saleCell; rw [hx, ← hxa]; rfl
  have hix := idx_val (T := T) (n := (sortedW (cntW l K)).length) (i := 0) (by omega) (by omega) hin
  have htl := (tOf_val (T := T) (n := (sortedW (cntW l K)).length) (by omega) (by omega)).2
  have htu := turn_at htl hin
  have hmod : (0 + tOf T (sortedW (cntW l K)).length) % (sortedW (cntW l K)).length < (sortedW (cntW l K)).length := Nat.mod_lt _ (by omega)
  have hmod1 : (((0 + tOf T (sortedW (cntW l K)).length) % (sortedW (cntW l K)).length : Nat) : Int) < (sortedW (cntW l K)).length := by omega
  have hmod0 : ¬ (((0 + tOf T (sortedW (cntW l K)).length) % (sortedW (cntW l K)).length : Nat) : Int) < 0 := by omega
  obtain ⟨v, hv⟩ : ∃ v, (sortedW (cntW l K))[(0 + tOf T (sortedW (cntW l K)).length) % (sortedW (cntW l K)).length]? = some v := ⟨_, List.getElem?_eq_getElem hmod⟩
  rw [hv] at htu
  have hu64 := u64_small (n := (sortedW (cntW l K)).length) (by omega)
  rw [hu64] at hix
  have hts : (turnW (sortedW (cntW l K)) (tOf T (sortedW (cntW l K)).length)).take (0 + 1) = (turnW (sortedW (cntW l K)) (tOf T (sortedW (cntW l K)).length)).take (0) ++ [v] := by rw [List.take_add_one, htu]; rfl
  have hss : sumP9 (prcM l K) ((sortedW (cntW l K)).take (0 + 1)) = sumP9 (prcM l K) ((sortedW (cntW l K)).take (0)) + atP (prcM l K) w.n := by rw [List.take_add_one, hp]; exact sumP9_snoc _ _ w
  have hsb := sumP9_le (prc_bound he K) ((sortedW (cntW l K)).take (0)) 0
  have htk : ((sortedW (cntW l K)).take (0)).length = 0 := by rw [List.length_take]; omega
  have htt : ((turnW (sortedW (cntW l K)) (tOf T (sortedW (cntW l K)).length)).take (0)).length = 0 := by rw [List.length_take, turn_len]; omega
  have hab := prc_bound he K w.n
  have hws : IntKind.i64.wrap (sumP9 (prcM l K) ((sortedW (cntW l K)).take (0)) + atP (prcM l K) w.n) = sumP9 (prcM l K) ((sortedW (cntW l K)).take (0 + 1)) := by
    rw [hss]
    refine IntWalk.i64_in _ ?_
    unfold sumP9
    omega
  have go : ∃ vals', ((ρ.ext lOt_D.N vals').val 111 = some (.int .i64 (sumP9 (prcM l K) ((sortedW (cntW l K)).take (0 + 1)))) ∧ (match (ρ.ext lOt_D.N vals').val 112 with | some v => den1 .len v | none => none) = some (.int .i64 ((0 + 1 : Nat) : Int)) ∧ (ρ.ext lOt_D.N vals').val 110 = some (.int .i64 ((0 + 1 : Nat) : Int)) ∧ (ρ.ext lOt_D.N vals').val 112 = some (whosR ((turnW (sortedW (cntW l K)) (tOf T (sortedW (cntW l K)).length)).take (0) ++ [v]))) ∧ lOt_Inv l K T 1 vals' ∧ lOt_mu (sortedW (cntW l K)).length 1 vals' < lOt_mu (sortedW (cntW l K)).length 0 [] := by
    have e112 : (ρ.ext lOt_D.N [.int .i64 ((0 + 1 : Nat) : Int), .int .i64 (sumP9 (prcM l K) ((sortedW (cntW l K)).take (0 + 1))), whosR ((turnW (sortedW (cntW l K)) (tOf T (sortedW (cntW l K)).length)).take (0 + 1))]).val 112 = some (whosR ((turnW (sortedW (cntW l K)) (tOf T (sortedW (cntW l K)).length)).take (0 + 1))) := by rw [ext_high _ _ _ _ (by rw [hN]; omega)]; rfl
    refine ⟨[.int .i64 ((0 + 1 : Nat) : Int), .int .i64 (sumP9 (prcM l K) ((sortedW (cntW l K)).take (0 + 1))), whosR ((turnW (sortedW (cntW l K)) (tOf T (sortedW (cntW l K)).length)).take (0 + 1))], ⟨?_, ?_, ?_, ?_⟩, .inr ⟨rfl, 0 + 1, by omega, by omega, rfl⟩, by simp [lOt_mu, vI]; omega⟩
    · rw [ext_high _ _ _ _ (by rw [hN]; omega)]; rfl
    · rw [e112, hts]
      refine (whos_len _).trans ?_
      rw [List.length_append, htt]; rfl
    · rw [ext_high _ _ _ _ (by rw [hN]; omega)]; rfl
    · rw [e112, hts]
  have hin1 : (0 : Int) < (sortedW (cntW l K)).length := by omega
  have hne0 : ¬ ((sortedW (cntW l K)).length : Int) = 0 := by omega
  have z0 : ((0 : Nat) : Int) = 0 := rfl
  have z1 : sumP9 (prcM l K) [] = 0 := rfl
  have z2 : ((1 : Nat) : Int) = 1 := rfl
  simp only [List.take_zero, List.nil_append, Nat.zero_add, z0, z1, z2, Int.zero_add] at hix hws go hv hmod0 hmod1
  refine ⟨?_, ?_⟩
  all_goals (simp only [lOt0_t, lOt0_F, lOt0_l, AsksL, GTree.asks, FTree.asks, FactsIn, List.append_nil, List.nil_append, List.cons_append, Option.some.injEq, exists_eq', implies_true, and_self, X.bool, X.den, denL, dX, denSub, denIte, asB, dY, d_hasF, d_putF, d_delF, d_hasR5, d_putR5, whos_snocN, whos_snoc0N, recs_snoc0N, flgs_snoc0N, sals_len, sals_cell, EndsOk, WaysOk, forall_cons, forall_nil, TgtOk, gpair, FactsIn, hold_cons, hold_nil, Option.some.injEq, dZ, X.bool, X.den, denL, dX, denSub, denIte, asB, dY, beq_iff_eq, beq_eq_false_iff_ne, ne_eq, d_hasF, d_putF, d_delF, d_hasR5, d_putR5, whos_snocN, whos_snoc0N, recs_snoc0N, flgs_snoc0N, sals_len, sals_cell, beq_iff_eq, beq_eq_false_iff_ne, ne_eq, v1, v4, v6, vs, h1, h4, h6, hsy, sym23, sym164, sym169, sym170, sym171, sym172, sym113W, sym173, sym174, sym176, sym178, Int.toNat_natCast, Int.toNat_zero, hin1, hp, Option.bind_some, who0, hse, hc3, hc4, hu64, Int.zero_add, hix, hmod0, hmod1, hv, hws, hne0, reduceCtorEq, Bool.false_eq_true, false_implies, implies_true, true_implies, and_self, and_true, true_and])
  all_goals (clear v1 v4 v6 vs h1 h4 h6 hsy hF)
  all_goals ((repeat' apply And.intro) <;> intros <;> first
    | trivial
    | contradiction
    | exact go
    | (exfalso; omega)
    | (simp_all; done))
set_option maxHeartbeats 4000000 in
theorem lOt_step1 {ρ : Rho} {l : List Sal9} {K T : Int} {k4 k6 : IntKind} (h1 : ρ.val 1 = some (salsR l)) (h4 : ρ.val 4 = some (.int k4 K)) (h6 : ρ.val 6 = some (.int k6 T)) (hsy : ρ.sym = sy) (hl : l.length ≤ 30) (he : chkE l = 0) (hne : 1 ≤ (sortedW (cntW l K)).length) {i : Nat} (hi0 : 1 ≤ i) (hi : i ≤ (sortedW (cntW l K)).length) : StepOk lOt_D lOt_run E1 ρ (lOt_Inv l K T) (lOt_mu (sortedW (cntW l K)).length) 1 [.int .i64 ((i : Nat) : Int), .int .i64 (sumP9 (prcM l K) ((sortedW (cntW l K)).take (i))), whosR ((turnW (sortedW (cntW l K)) (tOf T (sortedW (cntW l K)).length)).take (i))] := by
  have hN : lOt_D.N = 110 := rfl
  have v1 : (ρ.ext lOt_D.N [.int .i64 ((i : Nat) : Int), .int .i64 (sumP9 (prcM l K) ((sortedW (cntW l K)).take (i))), whosR ((turnW (sortedW (cntW l K)) (tOf T (sortedW (cntW l K)).length)).take (i))]).val 1 = some (salsR l) := by rw [ext_low _ _ _ _ (by rw [hN]; omega)]; exact h1
  have v4 : (ρ.ext lOt_D.N [.int .i64 ((i : Nat) : Int), .int .i64 (sumP9 (prcM l K) ((sortedW (cntW l K)).take (i))), whosR ((turnW (sortedW (cntW l K)) (tOf T (sortedW (cntW l K)).length)).take (i))]).val 4 = some (.int k4 K) := by rw [ext_low _ _ _ _ (by rw [hN]; omega)]; exact h4
  have v6 : (ρ.ext lOt_D.N [.int .i64 ((i : Nat) : Int), .int .i64 (sumP9 (prcM l K) ((sortedW (cntW l K)).take (i))), whosR ((turnW (sortedW (cntW l K)) (tOf T (sortedW (cntW l K)).length)).take (i))]).val 6 = some (.int k6 T) := by rw [ext_low _ _ _ _ (by rw [hN]; omega)]; exact h6
  have v110 : (ρ.ext lOt_D.N [.int .i64 ((i : Nat) : Int), .int .i64 (sumP9 (prcM l K) ((sortedW (cntW l K)).take (i))), whosR ((turnW (sortedW (cntW l K)) (tOf T (sortedW (cntW l K)).length)).take (i))]).val 110 = some (.int .i64 ((i : Nat) : Int)) := by rw [ext_high _ _ _ _ (by rw [hN]; omega)]; rfl
  have v111 : (ρ.ext lOt_D.N [.int .i64 ((i : Nat) : Int), .int .i64 (sumP9 (prcM l K) ((sortedW (cntW l K)).take (i))), whosR ((turnW (sortedW (cntW l K)) (tOf T (sortedW (cntW l K)).length)).take (i))]).val 111 = some (.int .i64 (sumP9 (prcM l K) ((sortedW (cntW l K)).take (i)))) := by rw [ext_high _ _ _ _ (by rw [hN]; omega)]; rfl
  have v112 : (ρ.ext lOt_D.N [.int .i64 ((i : Nat) : Int), .int .i64 (sumP9 (prcM l K) ((sortedW (cntW l K)).take (i))), whosR ((turnW (sortedW (cntW l K)) (tOf T (sortedW (cntW l K)).length)).take (i))]).val 112 = some (whosR ((turnW (sortedW (cntW l K)) (tOf T (sortedW (cntW l K)).length)).take (i))) := by rw [ext_high _ _ _ _ (by rw [hN]; omega)]; rfl
  have vs : (ρ.ext lOt_D.N [.int .i64 ((i : Nat) : Int), .int .i64 (sumP9 (prcM l K) ((sortedW (cntW l K)).take (i))), whosR ((turnW (sortedW (cntW l K)) (tOf T (sortedW (cntW l K)).length)).take (i))]).sym = sy := hsy
  have hsl := s_len_ l K
  have hsh : shortB l = true := len_short (by omega)
  have g := sold_ok he K
  have hF : FactsIn (ρ.ext lOt_D.N [.int .i64 ((i : Nat) : Int), .int .i64 (sumP9 (prcM l K) ((sortedW (cntW l K)).take (i))), whosR ((turnW (sortedW (cntW l K)) (tOf T (sortedW (cntW l K)).length)).take (i))]) lOt1_F := by
    simp only [lOt1_F, FactsIn, X.bool, X.den, denL, dX, denSub, denIte, asB, dY, d_hasF, d_putF, d_delF, d_hasR5, d_putR5, whos_snocN, whos_snoc0N, recs_snoc0N, flgs_snoc0N, sals_len, sals_cell, v1, v4, v6, v110, v111, v112, vs, sym23, sym164, sym169, sym170, sym171, sym172, sym113W, sym173, sym174, sym176, sym178, he, hsh, Option.some.injEq, Value.bool.injEq, decide_eq_false_iff_not, decide_eq_true_eq, and_true, beq_self_eq_true, true_and]
    omega
  suffices both : AsksL (ρ.ext lOt_D.N [.int .i64 ((i : Nat) : Int), .int .i64 (sumP9 (prcM l K) ((sortedW (cntW l K)).take (i))), whosR ((turnW (sortedW (cntW l K)) (tOf T (sortedW (cntW l K)).length)).take (i))]) (lOt1_t.asks lOt1_F) ∧ WaysOk lOt_D ρ (lOt_Inv l K T) (lOt_mu (sortedW (cntW l K)).length) 1 [.int .i64 ((i : Nat) : Int), .int .i64 (sumP9 (prcM l K) ((sortedW (cntW l K)).take (i))), whosR ((turnW (sortedW (cntW l K)) (tOf T (sortedW (cntW l K)).length)).take (i))] lOt1_l from step_of_ways (lOt1_w _) hF both.1.ok both.2
  by_cases hlast : i = (sortedW (cntW l K)).length
  · have hge' : ¬ (i : Int) < (sortedW (cntW l K)).length := by omega
    have e1 : (sortedW (cntW l K)).take i = (sortedW (cntW l K)) := List.take_of_length_le (by omega)
    have e2 : (turnW (sortedW (cntW l K)) (tOf T (sortedW (cntW l K)).length)).take i = turnW (sortedW (cntW l K)) (tOf T (sortedW (cntW l K)).length) := List.take_of_length_le (by rw [turn_len]; omega)
    refine ⟨?_, ?_⟩
    · simp only [lOt1_t, lOt1_F, AsksL, GTree.asks, FTree.asks, FactsIn, List.append_nil, List.nil_append, List.cons_append, Option.some.injEq, exists_eq', implies_true, and_self, X.bool, X.den, denL, dX, denSub, denIte, asB, dY, d_hasF, d_putF, d_delF, d_hasR5, d_putR5, whos_snocN, whos_snoc0N, recs_snoc0N, flgs_snoc0N, sals_len, sals_cell, v1, v4, v6, v110, v111, v112, vs, sym23, sym164, sym169, sym170, sym171, sym172, sym113W, sym173, sym174, sym176, sym178, Int.toNat_natCast, hge']
      try simp
    · simp only [lOt1_l, EndsOk, WaysOk, forall_cons, forall_nil, TgtOk, gpair, FactsIn, hold_cons, hold_nil, Option.some.injEq, dZ, X.bool, X.den, denL, dX, denSub, denIte, asB, dY, beq_iff_eq, beq_eq_false_iff_ne, ne_eq, d_hasF, d_putF, d_delF, d_hasR5, d_putR5, whos_snocN, whos_snoc0N, recs_snoc0N, flgs_snoc0N, sals_len, sals_cell, beq_iff_eq, beq_eq_false_iff_ne, ne_eq, v1, v4, v6, v110, v111, v112, vs, h1, h4, h6, hsy, sym23, sym164, sym169, sym170, sym171, sym172, sym113W, sym173, sym174, sym176, sym178, Int.toNat_natCast, hge', reduceCtorEq, Bool.false_eq_true, false_implies, implies_true, true_implies, and_self, and_true, true_and]
      try simp [e1, e2]
  have hin : i < (sortedW (cntW l K)).length := by omega
  obtain ⟨w, hp⟩ : ∃ w, (sortedW (cntW l K))[i]? = some w := ⟨_, List.getElem?_eq_getElem hin⟩
  obtain ⟨x, hx, hxp, hxa, hx1, hx2⟩ := g.at_ w (List.mem_of_getElem? hp)
  have hse : (saleAt l w.n K).isSome = true := by rw [hx]; rfl
  have hc3 : saleCell l w.n K 3 = some (.int .i64 w.n) := by unfold saleCell; rw [hx, ← hxp]; rfl
  have hc4 : saleCell l w.n K 4 = some (.int .i64 (atP (prcM l K) w.n)) := by unfold saleCell; rw [hx, ← hxa]; rfl
  have hix := idx_val (T := T) (n := (sortedW (cntW l K)).length) (i := i) (by omega) (by omega) hin
  have htl := (tOf_val (T := T) (n := (sortedW (cntW l K)).length) (by omega) (by omega)).2
  have htu := turn_at htl hin
  have hmod : (i + tOf T (sortedW (cntW l K)).length) % (sortedW (cntW l K)).length < (sortedW (cntW l K)).length := Nat.mod_lt _ (by omega)
  have hmod1 : (((i + tOf T (sortedW (cntW l K)).length) % (sortedW (cntW l K)).length : Nat) : Int) < (sortedW (cntW l K)).length := by omega
  have hmod0 : ¬ (((i + tOf T (sortedW (cntW l K)).length) % (sortedW (cntW l K)).length : Nat) : Int) < 0 := by omega
  obtain ⟨v, hv⟩ : ∃ v, (sortedW (cntW l K))[(i + tOf T (sortedW (cntW l K)).length) % (sortedW (cntW l K)).length]? = some v := ⟨_, List.getElem?_eq_getElem hmod⟩
  rw [hv] at htu
  have hu64 := u64_small (n := (sortedW (cntW l K)).length) (by omega)
  rw [hu64] at hix
  have hts : (turnW (sortedW (cntW l K)) (tOf T (sortedW (cntW l K)).length)).take (i + 1) = (turnW (sortedW (cntW l K)) (tOf T (sortedW (cntW l K)).length)).take (i) ++ [v] := by rw [List.take_add_one, htu]; rfl
  have hss : sumP9 (prcM l K) ((sortedW (cntW l K)).take (i + 1)) = sumP9 (prcM l K) ((sortedW (cntW l K)).take (i)) + atP (prcM l K) w.n := by rw [List.take_add_one, hp]; exact sumP9_snoc _ _ w
  have hsb := sumP9_le (prc_bound he K) ((sortedW (cntW l K)).take (i)) 0
  have htk : ((sortedW (cntW l K)).take (i)).length = i := by rw [List.length_take]; omega
  have htt : ((turnW (sortedW (cntW l K)) (tOf T (sortedW (cntW l K)).length)).take (i)).length = i := by rw [List.length_take, turn_len]; omega
  have hab := prc_bound he K w.n
  have hws : IntKind.i64.wrap (sumP9 (prcM l K) ((sortedW (cntW l K)).take (i)) + atP (prcM l K) w.n) = sumP9 (prcM l K) ((sortedW (cntW l K)).take (i + 1)) := by
    rw [hss]
    refine IntWalk.i64_in _ ?_
    unfold sumP9
    omega
  have hin1 : (i : Int) < (sortedW (cntW l K)).length := by omega
  have hw1 : IntKind.i64.wrap ((i : Int) + 1) = ((i + 1 : Nat) : Int) := by rw [IntWalk.i64_in _ (by omega)]; rfl
  have hwm : IntKind.i64.wrap ((i : Int) - 1) = ((i - 1 : Nat) : Int) := by rw [IntWalk.i64_in _ (by omega)]; omega
  have hm1 : ¬ ((i - 1 : Nat) : Int) < 0 := by omega
  have hm2 : ((i - 1 : Nat) : Int) < (sortedW (cntW l K)).length := by omega
  obtain ⟨w', hp'⟩ : ∃ w, (sortedW (cntW l K))[i - 1]? = some w := ⟨_, List.getElem?_eq_getElem (by omega)⟩
  have hup : w'.n < w.n := by
    have := g.up (i - 1) (by omega)
    rw [show i - 1 + 1 = i by omega] at this
    rw [List.getD_eq_getElem?_getD, List.getD_eq_getElem?_getD, show (sortedW (cntW l K))[i]? = some w from hp, show (sortedW (cntW l K))[i - 1]? = some w' from hp'] at this
    exact this
  have go : ∃ vals', ((ρ.ext lOt_D.N vals').val 111 = some (.int .i64 (sumP9 (prcM l K) ((sortedW (cntW l K)).take (i + 1)))) ∧ (match (ρ.ext lOt_D.N vals').val 112 with | some v => den1 .len v | none => none) = some (.int .i64 ((i + 1 : Nat) : Int)) ∧ (ρ.ext lOt_D.N vals').val 110 = some (.int .i64 ((i + 1 : Nat) : Int)) ∧ (ρ.ext lOt_D.N vals').val 112 = some (whosR ((turnW (sortedW (cntW l K)) (tOf T (sortedW (cntW l K)).length)).take (i) ++ [v]))) ∧ lOt_Inv l K T 1 vals' ∧ lOt_mu (sortedW (cntW l K)).length 1 vals' < lOt_mu (sortedW (cntW l K)).length 1 [.int .i64 ((i : Nat) : Int), .int .i64 (sumP9 (prcM l K) ((sortedW (cntW l K)).take (i))), whosR ((turnW (sortedW (cntW l K)) (tOf T (sortedW (cntW l K)).length)).take (i))] := by
    have e112 : (ρ.ext lOt_D.N [.int .i64 ((i + 1 : Nat) : Int), .int .i64 (sumP9 (prcM l K) ((sortedW (cntW l K)).take (i + 1))), whosR ((turnW (sortedW (cntW l K)) (tOf T (sortedW (cntW l K)).length)).take (i + 1))]).val 112 = some (whosR ((turnW (sortedW (cntW l K)) (tOf T (sortedW (cntW l K)).length)).take (i + 1))) := by rw [ext_high _ _ _ _ (by rw [hN]; omega)]; rfl
    refine ⟨[.int .i64 ((i + 1 : Nat) : Int), .int .i64 (sumP9 (prcM l K) ((sortedW (cntW l K)).take (i + 1))), whosR ((turnW (sortedW (cntW l K)) (tOf T (sortedW (cntW l K)).length)).take (i + 1))], ⟨?_, ?_, ?_, ?_⟩, .inr ⟨rfl, i + 1, by omega, by omega, rfl⟩, by simp [lOt_mu, vI]; omega⟩
    · rw [ext_high _ _ _ _ (by rw [hN]; omega)]; rfl
    · rw [e112, hts]
      refine (whos_len _).trans ?_
      rw [List.length_append, htt]; rfl
    · rw [ext_high _ _ _ _ (by rw [hN]; omega)]; rfl
    · rw [e112, hts]
  have hnl : ¬ (1000000000 : Int) < (((turnW (sortedW (cntW l K)) (tOf T (sortedW (cntW l K)).length)).take (i)).length : Int) + 1 := by omega
  have hne0 : ¬ ((sortedW (cntW l K)).length : Int) = 0 := by omega
  have hi1 : (((turnW (sortedW (cntW l K)) (tOf T (sortedW (cntW l K)).length)).take (i)).length : Int) + 1 = ((i + 1 : Nat) : Int) := by omega
  refine ⟨?_, ?_⟩
  all_goals (simp only [lOt1_t, lOt1_F, lOt1_l, AsksL, GTree.asks, FTree.asks, FactsIn, List.append_nil, List.nil_append, List.cons_append, Option.some.injEq, exists_eq', implies_true, and_self, X.bool, X.den, denL, dX, denSub, denIte, asB, dY, d_hasF, d_putF, d_delF, d_hasR5, d_putR5, whos_snocN, whos_snoc0N, recs_snoc0N, flgs_snoc0N, sals_len, sals_cell, EndsOk, WaysOk, forall_cons, forall_nil, TgtOk, gpair, FactsIn, hold_cons, hold_nil, Option.some.injEq, dZ, X.bool, X.den, denL, dX, denSub, denIte, asB, dY, beq_iff_eq, beq_eq_false_iff_ne, ne_eq, d_hasF, d_putF, d_delF, d_hasR5, d_putR5, whos_snocN, whos_snoc0N, recs_snoc0N, flgs_snoc0N, sals_len, sals_cell, beq_iff_eq, beq_eq_false_iff_ne, ne_eq, v1, v4, v6, v110, v111, v112, vs, h1, h4, h6, hsy, sym23, sym164, sym169, sym170, sym171, sym172, sym113W, sym173, sym174, sym176, sym178, Int.toNat_natCast, hin1, hwm, hm1, hm2, hp, hp', Option.bind_some, who0, hse, hc3, hc4, hu64, hix, hmod0, hmod1, hv, hws, hw1, hne0, hi1, reduceCtorEq, Bool.false_eq_true, false_implies, implies_true, true_implies, and_self, and_true, true_and])
  all_goals (clear v1 v4 v6 v110 v111 v112 vs h1 h4 h6 hsy hF)
  all_goals ((repeat' apply And.intro) <;> intros <;> first
    | trivial
    | contradiction
    | exact go
    | (exfalso; omega)
    | (simp_all; done))
noncomputable def so_fn : FnD := { f := 4, args := argsAV [salsArg 60 0, .one (.int .i64 4), .one (.int .i64 6)], heap := hRoot ++ argsBlk [salsArg 60 0, .one (.int .i64 4), .one (.int .i64 6)], N := 100, M := 100, out := .sbool (.boo true), news := [] }
noncomputable def so_call : Env → CallL := fun E => acallAll E (evH E (LSL E) ((fun E => oneH 4 (hooks [(10, lOt_D.hook E.facts ot_vs)])) E) 9)
noncomputable def so_pre : List (X × Bool) := []
noncomputable def so_t : GTree := (.fork (.op2 .lt (.num 30) (.op1 .len (.var 1))) (.leaf [[]]) (.fork (.app 23 [(.var 1)]) (.fork (.op2 .eq (.app 164 [(.var 1)]) (.num 0)) (.fork (.op2 .eq (.op1 .len (.app 171 [(.var 1), (.var 4)])) (.num 0)) (.leaf [[]]) (.fork (.op2 .eq (.app 173 [(.var 1), (.app 113 [(.app 171 [(.var 1), (.var 4)])]), (.var 4)]) (.num 0)) (.fork (.op2 .eq (.app 173 [(.var 1), (.app 178 [(.app 113 [(.app 171 [(.var 1), (.var 4)])]), (.var 6)]), (.var 4)]) (.num 0)) (.fork (.op2 .eq (.app 174 [(.var 1), (.app 113 [(.app 171 [(.var 1), (.var 4)])]), (.var 4)]) (.app 176 [(.app 172 [(.var 1), (.var 4)]), (.app 113 [(.app 171 [(.var 1), (.var 4)])])])) (.leaf [[]]) .bad) .bad) .bad)) (.leaf [[]])) .bad))
noncomputable def so_l : List (List (X × Bool) × Option Pairs) := [([((.op2 .lt (.num 30) (.op1 .len (.var 1))), true)], some []),
  ([((.op2 .eq (.op1 .len (.app 171 [(.var 1), (.var 4)])) (.num 0)), true), ((.op2 .eq (.app 164 [(.var 1)]) (.num 0)), true), ((.app 23 [(.var 1)]), true), ((.op2 .lt (.num 30) (.op1 .len (.var 1))), false)], some []),
  ([((.op2 .eq (.app 174 [(.var 1), (.app 113 [(.app 171 [(.var 1), (.var 4)])]), (.var 4)]) (.app 176 [(.app 172 [(.var 1), (.var 4)]), (.app 113 [(.app 171 [(.var 1), (.var 4)])])])), true), ((.op2 .eq (.app 173 [(.var 1), (.app 178 [(.app 113 [(.app 171 [(.var 1), (.var 4)])]), (.var 6)]), (.var 4)]) (.num 0)), true), ((.op2 .eq (.app 173 [(.var 1), (.app 113 [(.app 171 [(.var 1), (.var 4)])]), (.var 4)]) (.num 0)), true), ((.op2 .eq (.op1 .len (.app 171 [(.var 1), (.var 4)])) (.num 0)), false), ((.op2 .eq (.app 164 [(.var 1)]) (.num 0)), true), ((.app 23 [(.var 1)]), true), ((.op2 .lt (.num 30) (.op1 .len (.var 1))), false)], some [((.boo true), (.op2 .eq (.app 174 [(.var 1), (.app 178 [(.app 113 [(.app 171 [(.var 1), (.var 4)])]), (.var 6)]), (.var 4)]) (.app 176 [(.app 172 [(.var 1), (.var 4)]), (.app 113 [(.app 171 [(.var 1), (.var 4)])])])))]),
  ([((.op2 .eq (.app 174 [(.var 1), (.app 113 [(.app 171 [(.var 1), (.var 4)])]), (.var 4)]) (.app 176 [(.app 172 [(.var 1), (.var 4)]), (.app 113 [(.app 171 [(.var 1), (.var 4)])])])), false), ((.op2 .eq (.app 173 [(.var 1), (.app 178 [(.app 113 [(.app 171 [(.var 1), (.var 4)])]), (.var 6)]), (.var 4)]) (.num 0)), true), ((.op2 .eq (.app 173 [(.var 1), (.app 113 [(.app 171 [(.var 1), (.var 4)])]), (.var 4)]) (.num 0)), true), ((.op2 .eq (.op1 .len (.app 171 [(.var 1), (.var 4)])) (.num 0)), false), ((.op2 .eq (.app 164 [(.var 1)]) (.num 0)), true), ((.app 23 [(.var 1)]), true), ((.op2 .lt (.num 30) (.op1 .len (.var 1))), false)], none),
  ([((.op2 .eq (.app 173 [(.var 1), (.app 178 [(.app 113 [(.app 171 [(.var 1), (.var 4)])]), (.var 6)]), (.var 4)]) (.num 0)), false), ((.op2 .eq (.app 173 [(.var 1), (.app 113 [(.app 171 [(.var 1), (.var 4)])]), (.var 4)]) (.num 0)), true), ((.op2 .eq (.op1 .len (.app 171 [(.var 1), (.var 4)])) (.num 0)), false), ((.op2 .eq (.app 164 [(.var 1)]) (.num 0)), true), ((.app 23 [(.var 1)]), true), ((.op2 .lt (.num 30) (.op1 .len (.var 1))), false)], none),
  ([((.op2 .eq (.app 173 [(.var 1), (.app 113 [(.app 171 [(.var 1), (.var 4)])]), (.var 4)]) (.num 0)), false), ((.op2 .eq (.op1 .len (.app 171 [(.var 1), (.var 4)])) (.num 0)), false), ((.op2 .eq (.app 164 [(.var 1)]) (.num 0)), true), ((.app 23 [(.var 1)]), true), ((.op2 .lt (.num 30) (.op1 .len (.var 1))), false)], none),
  ([((.op2 .eq (.app 164 [(.var 1)]) (.num 0)), false), ((.app 23 [(.var 1)]), true), ((.op2 .lt (.num 30) (.op1 .len (.var 1))), false)], some []),
  ([((.app 23 [(.var 1)]), false), ((.op2 .lt (.num 30) (.op1 .len (.var 1))), false)], none)]
theorem so_w (r : Rho) : so_fn.ways so_call E1 r so_pre so_t = some so_l := by kernel_rfl
theorem asd_H {ρ : Rho} {l : List Sal9} {K T : Int} {k4 k6 : IntKind} (h1 : ρ.val 1 = some (salsR l)) (h4 : ρ.val 4 = some (.int k4 K)) (h6 : ρ.val 6 = some (.int k6 T)) (hsy : ρ.sym = sy) (F : List (X × Bool)) : LoopsOk (E1.with F ρ) ((fun E => oneH 4 (hooks [(10, lOt_D.hook E.facts ot_vs)])) (E1.with F ρ)) := by
  refine loops_all (n := 1) (fun f fn h => h) (by kernel_rfl) fun i hi => ?_
  obtain rfl : i = 0 := by omega
  rw [hooks_hit (show keyOf (loopAt (E1.with F ρ).P 4 0) = 10 by kernel_rfl)]
  refine hook_ok (E₀ := E1) (run := lOt_run) (ρ := ρ) (Inv := lOt_Inv l K T) (μ := lOt_mu (sortedW (cntW l K)).length) E1_ok lOt_ok (fun F r' h => ?_) (fun hp => ?_)
  · exact bodyRun_ok E1_ok (LSL_ok F (h.trans hsy)) fun _ _ => noLoop_ok
  · have hw := hp
    simp only [lOt_D, FactsIn, X.bool, X.den, denL, dX, denSub, denIte, asB, dY, d_hasF, d_putF, d_delF, d_hasR5, d_putR5, whos_snocN, whos_snoc0N, recs_snoc0N, flgs_snoc0N, sals_len, sals_cell, h1, h4, hsy, sym23, sym164, sym169, sym170, sym171, sym172, sym113W, sym173, sym174, sym176, sym178, Option.some.injEq, Value.bool.injEq, and_true, beq_iff_eq, beq_eq_false_iff_ne, ne_eq, decide_eq_false_iff_not] at hw
    obtain ⟨hsh, he, hl, hc⟩ := hw
    have hs := sorted_len (cntW l K)
    have hl' : l.length ≤ 30 := by omega
    have hne : 1 ≤ (sortedW (cntW l K)).length := by omega
    refine ⟨fun j vals hI => ?_, [], rfl, .inl ⟨rfl, rfl⟩⟩
    rcases hI with ⟨rfl, rfl⟩ | ⟨rfl, i, a, b, rfl⟩
    · exact lOt_step0 h1 h4 h6 hsy hl' he hne
    · exact lOt_step1 h1 h4 h6 hsy hl' he hne a b
theorem so_60 : (buildH so_fn.heap).get 60 = some (.rows 9 salSch (.var 0) (.var 1) false 27) := by kernel_rfl
theorem so_out (σ : Sig) : so_fn.out.inst σ = some (.bool true) := rfl
set_option maxHeartbeats 4000000 in
theorem so_true {ρ : Rho} {σ : Sig} {w : World} {us : List Value} (hsy : ρ.sym = sy) (hρ : σ.rho = ρ) (hA : ∀ g id, E1.glob g = some id → ∃ κ, σ id = some (g, κ)) (hrel : (memOf so_fn.heap 100).rel Tryz.prog σ w (fun b => w.heap.size ≤ b)) (hins : Ins σ so_fn.args us) :
    Calls Tryz.prog 4 us.toArray w fun e w' => e = .returned (.bool true) ∧ Kept (fun b => w.heap.size ≤ b) w w' := by
  obtain ⟨u0, us, rfl, g0, hi⟩ := ins_cons hins
  obtain ⟨u1, us, rfl, g1, hi⟩ := ins_cons hi
  obtain ⟨u2, us, rfl, g2, hi⟩ := ins_cons hi
  obtain ⟨K, k4, rfl, h4⟩ := one_int g1
  obtain ⟨T, k6, rfl, h6⟩ := one_int g2
  obtain ⟨l, h1⟩ := sals_at hrel (i := 60) so_60
  rw [hρ] at h1 h4 h6
  have h1 : ρ.val 1 = some (salsR l) := h1
  refine law_of (E := E1) (D := so_fn) E1_ok (fun F => LSL_ok F hsy) (fun F => asd_H h1 h4 h6 hsy F) (so_w ρ) hρ hA trivial hrel hins ?_ ?_ so_out
  · simp only [so_pre, so_t, AsksL, GTree.asks, FTree.asks, FactsIn, List.append_nil, List.nil_append, List.cons_append, Option.some.injEq, exists_eq', implies_true, and_self, X.bool, X.den, denL, dX, denSub, denIte, asB, dY, d_hasF, d_putF, d_delF, d_hasR5, d_putR5, whos_snocN, whos_snoc0N, recs_snoc0N, flgs_snoc0N, sals_len, sals_cell, h1, h4, h6, hsy, sym23, sym164, sym169, sym170, sym171, sym172, sym113W, sym173, sym174, sym176, sym178]
    try simp
  · simp only [so_l, EndsOk, WaysOk, forall_cons, forall_nil, TgtOk, gpair, FactsIn, hold_cons, hold_nil, Option.some.injEq, dZ, X.bool, X.den, denL, dX, denSub, denIte, asB, dY, beq_iff_eq, beq_eq_false_iff_ne, ne_eq, d_hasF, d_putF, d_delF, d_hasR5, d_putR5, whos_snocN, whos_snoc0N, recs_snoc0N, flgs_snoc0N, sals_len, sals_cell, beq_iff_eq, beq_eq_false_iff_ne, ne_eq, h1, h4, h6, hsy, sym23, sym164, sym169, sym170, sym171, sym172, sym113W, sym173, sym174, sym176, sym178]
    clear h1 h4 h6 hsy hρ hA hrel hins g0 g1 g2 hi
    (repeat' apply And.intro) <;> intros <;> first
      | trivial
      | contradiction
      | (exfalso; exact Bool.noConfusion ((len_short (l := l) (by omega)).symm.trans (by assumption)))
      | (have q := so_val (l := l) (by assumption) (by omega) K (tOf T (sortedW (cntW l K)).length)
         simp only [q.1.1, q.1.2, q.2.1, q.2.2] at *
         first | trivial | contradiction | (simp_all; done))
noncomputable def sn_fn : FnD := { f := 4, args := argsAV [.nils, .one (.int .i64 4), .one (.int .i64 6)], heap := hRoot ++ argsBlk [.nils, .one (.int .i64 4), .one (.int .i64 6)], N := 100, M := 100, out := .sbool (.boo true), news := [] }
noncomputable def sn_call : Env → CallL := fun E => acallAll E (evH E (LSN E) ((fun _ => noLoops) E) 14)
noncomputable def sn_pre : List (X × Bool) := []
noncomputable def sn_t : GTree := (.leaf [[]])
noncomputable def sn_l : List (List (X × Bool) × Option Pairs) := [([], some [])]
theorem sn_w (r : Rho) : sn_fn.ways sn_call E1 r sn_pre sn_t = some sn_l := by kernel_rfl
theorem sn_out (σ : Sig) : sn_fn.out.inst σ = some (.bool true) := rfl
theorem sn_true {ρ : Rho} {σ : Sig} {w : World} {us : List Value} (hsy : ρ.sym = sy) (hρ : σ.rho = ρ) (hA : ∀ g id, E1.glob g = some id → ∃ κ, σ id = some (g, κ)) (hrel : (memOf sn_fn.heap 100).rel Tryz.prog σ w (fun b => w.heap.size ≤ b)) (hins : Ins σ sn_fn.args us) :
    Calls Tryz.prog 4 us.toArray w fun e w' => e = .returned (.bool true) ∧ Kept (fun b => w.heap.size ≤ b) w w' := by
  refine law_of (E := E1) (D := sn_fn) E1_ok (fun F => LSN_ok F hsy) (fun F => noH_ok) (sn_w ρ) hρ hA trivial hrel hins ?_ ?_ sn_out
  · simp only [sn_pre, sn_t, AsksL, GTree.asks, FTree.asks, FactsIn, List.append_nil, List.nil_append, List.cons_append, Option.some.injEq, exists_eq', implies_true, and_self, X.bool, X.den, denL, dX, denSub, denIte, asB, dY, d_hasF, d_putF, d_delF, d_hasR5, d_putR5, whos_snocN, whos_snoc0N, recs_snoc0N, flgs_snoc0N, sals_len, sals_cell, hsy, sym23, sym164, sym169, sym170, sym171, sym172, sym113W, sym173, sym174, sym176, sym178]
    try simp
  · simp only [sn_l, EndsOk, WaysOk, forall_cons, forall_nil, TgtOk, gpair, FactsIn, hold_cons, hold_nil, Option.some.injEq, dZ, X.bool, X.den, denL, dX, denSub, denIte, asB, dY, beq_iff_eq, beq_eq_false_iff_ne, ne_eq, d_hasF, d_putF, d_delF, d_hasR5, d_putR5, whos_snocN, whos_snoc0N, recs_snoc0N, flgs_snoc0N, sals_len, sals_cell, beq_iff_eq, beq_eq_false_iff_ne, ne_eq, hsy, sym23, sym164, sym169, sym170, sym171, sym172, sym113W, sym173, sym174, sym176, sym178]
    try simp
end Go.Proofs.YtckefonlahokkaaGreatDoor.Zs
