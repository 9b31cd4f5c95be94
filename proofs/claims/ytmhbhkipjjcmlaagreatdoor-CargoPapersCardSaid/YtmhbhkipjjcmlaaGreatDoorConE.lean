/-
  Contracts of Append.
-/
import Derived.Test.YtmhbhkipjjcmlaaGreatDoorConD
import Derived.KernelRfl
set_option linter.unusedSimpArgs false
set_option linter.unusedVariables false
namespace Go.Proofs.YtmhbhkipjjcmlaaGreatDoor.Zs
open Go
set_option linter.unusedSimpArgs false
set_option linter.unusedVariables false

theorem snoc_R (l : List Pap) (x : Pap) : denSnoc (papsR l) [.int .i64 x.id, .int .i64 x.known, .int .u8 x.kind, .int .i64 x.loss, .int .i64 x.pack, .int .i64 x.inn, .string x.mark, .string x.goods, .int .i64 x.wlo, .int .i64 x.whi, .int .i64 x.pieces, .int .i64 x.owner, .int .i64 x.count, .int .i64 x.off] = some (papsR (l ++ [x])) := by
  simp [denSnoc, papsR, rowsV, Pap.row]
theorem chkGo_snoc (x : Pap) : ∀ (l pre : List Pap), (chkGo pre (l ++ [x])).2 = if (chkGo pre l).2 ≠ 0 then (chkGo pre l).2 else refusedE (pre ++ l) x
  | [], pre => by
    simp only [List.nil_append, chkGo, List.append_nil, ne_eq, not_true_eq_false, if_false]
    split
    · rename_i h; exact h.symm
    · rfl
  | p :: r, pre => by
    simp only [List.cons_append, chkGo]
    split
    · rw [chkGo_snoc x r (pre ++ [p])]; simp
    · rename_i h; simp [h]
theorem check_snoc (l : List Pap) (x : Pap) : (checkR (l ++ [x])).2 = appendE l x := by
  have := chkGo_snoc x l []
  rw [List.nil_append] at this
  exact this
theorem small_snoc (l : List Pap) (x : Pap) : smallB (l ++ [x]) = (smallB l && smallS x.mark x.goods) := by simp [smallB, smallP]
theorem len_snoc (l : List Pap) (x : Pap) (h : (l.length : Int) ≤ 1000000) : lenB (l ++ [x]) = true := by simp [lenB]; omega
noncomputable def L10 : Env → CallE := libs [cLib cCheck_con]
theorem L10_ok (F : List (X × Bool)) {r : Rho} (h : r.sym = sy) : CallsOk (E0.with F r) (L10 (E0.with F r)) := libs_ok fun c hc => by
  simp only [List.mem_cons, List.not_mem_nil, or_false] at hc
  subst hc; exact lib_ok (E := E0) cCheck_cok F h

noncomputable def cAppendNo_con : Con := { f := 19, args := [papsArg 0 0, .agg (papLeaves 3)], N := 1, M := 1, pre := [(.op2 .lt (.num 1000000) (.op1 .len (.var 1)), false), (.app 12 [.var 1], true), (.app 18 [.var 9, .var 10], true), (.op2 .eq (.app 11 [.var 1, .var 3, .var 4, .var 5, .var 6, .var 7, .var 8, .var 9, .var 10, .var 11, .var 12, .var 13, .var 14, .var 15, .var 16]) (.num 0), false)], out := .tuple [.nilslice, .sint .i64 (.app 11 [.var 1, .var 3, .var 4, .var 5, .var 6, .var 7, .var 8, .var 9, .var 10, .var 11, .var 12, .var 13, .var 14, .var 15, .var 16])], news := [] }
noncomputable def cAppendNo_call : Env → CallL := fun E => acallAll E (evH E (L10 E) ((fun _ => noLoops) E) 4)
noncomputable def cAppendNo_t : GTree := (.fork (.op2 .lt (.num 1000000000) (.op1 (.wrap .i64) (.op2 .add (.op1 .len (.var 1)) (.num 1)))) (.fork (.op2 .lt (.op1 (.wrap .i64) (.op2 .add (.op1 .len (.var 1)) (.num 1))) (.num 0)) .bad .bad) (.fork (.op2 .lt (.op1 (.wrap .i64) (.op2 .add (.op1 .len (.var 1)) (.num 1))) (.num 0)) .bad (.fork (.op2 .lt (.num 1000000000) (.op1 .len (.var 1))) .bad (.fork (.op2 .lt (.num 1000000000) (.op2 .add (.op1 .len (.var 1)) (.num 1))) .bad (.fork (.app 20 [(.snoc (.var 1) [(.op1 (.kind .i64) (.var 3)), (.op1 (.kind .i64) (.var 4)), (.op1 (.kind .u8) (.var 5)), (.op1 (.kind .i64) (.var 6)), (.op1 (.kind .i64) (.var 7)), (.op1 (.kind .i64) (.var 8)), (.var 9), (.var 10), (.op1 (.kind .i64) (.var 11)), (.op1 (.kind .i64) (.var 12)), (.op1 (.kind .i64) (.var 13)), (.op1 (.kind .i64) (.var 14)), (.op1 (.kind .i64) (.var 15)), (.op1 (.kind .i64) (.var 16))])]) (.fork (.app 12 [(.snoc (.var 1) [(.op1 (.kind .i64) (.var 3)), (.op1 (.kind .i64) (.var 4)), (.op1 (.kind .u8) (.var 5)), (.op1 (.kind .i64) (.var 6)), (.op1 (.kind .i64) (.var 7)), (.op1 (.kind .i64) (.var 8)), (.var 9), (.var 10), (.op1 (.kind .i64) (.var 11)), (.op1 (.kind .i64) (.var 12)), (.op1 (.kind .i64) (.var 13)), (.op1 (.kind .i64) (.var 14)), (.op1 (.kind .i64) (.var 15)), (.op1 (.kind .i64) (.var 16))])]) (.fork (.op2 .eq (.app 6 [(.snoc (.var 1) [(.op1 (.kind .i64) (.var 3)), (.op1 (.kind .i64) (.var 4)), (.op1 (.kind .u8) (.var 5)), (.op1 (.kind .i64) (.var 6)), (.op1 (.kind .i64) (.var 7)), (.op1 (.kind .i64) (.var 8)), (.var 9), (.var 10), (.op1 (.kind .i64) (.var 11)), (.op1 (.kind .i64) (.var 12)), (.op1 (.kind .i64) (.var 13)), (.op1 (.kind .i64) (.var 14)), (.op1 (.kind .i64) (.var 15)), (.op1 (.kind .i64) (.var 16))])]) (.num 0)) .bad (.leaf [[]])) .bad) .bad)))))
noncomputable def cAppendNo_l : List (List (X × Bool) × Option Pairs) := [([((.op2 .lt (.op1 (.wrap .i64) (.op2 .add (.op1 .len (.var 1)) (.num 1))) (.num 0)), true), ((.op2 .lt (.num 1000000000) (.op1 (.wrap .i64) (.op2 .add (.op1 .len (.var 1)) (.num 1)))), true), ((.op2 .lt (.num 1000000) (.op1 .len (.var 1))), false), ((.app 12 [(.var 1)]), true), ((.app 18 [(.var 9), (.var 10)]), true), ((.op2 .eq (.app 11 [(.var 1), (.var 3), (.var 4), (.var 5), (.var 6), (.var 7), (.var 8), (.var 9), (.var 10), (.var 11), (.var 12), (.var 13), (.var 14), (.var 15), (.var 16)]) (.num 0)), false)], none),
  ([((.op2 .lt (.op1 (.wrap .i64) (.op2 .add (.op1 .len (.var 1)) (.num 1))) (.num 0)), false), ((.op2 .lt (.num 1000000000) (.op1 (.wrap .i64) (.op2 .add (.op1 .len (.var 1)) (.num 1)))), true), ((.op2 .lt (.num 1000000) (.op1 .len (.var 1))), false), ((.app 12 [(.var 1)]), true), ((.app 18 [(.var 9), (.var 10)]), true), ((.op2 .eq (.app 11 [(.var 1), (.var 3), (.var 4), (.var 5), (.var 6), (.var 7), (.var 8), (.var 9), (.var 10), (.var 11), (.var 12), (.var 13), (.var 14), (.var 15), (.var 16)]) (.num 0)), false)], none),
  ([((.op2 .lt (.op1 (.wrap .i64) (.op2 .add (.op1 .len (.var 1)) (.num 1))) (.num 0)), true), ((.op2 .lt (.num 1000000000) (.op1 (.wrap .i64) (.op2 .add (.op1 .len (.var 1)) (.num 1)))), false), ((.op2 .lt (.num 1000000) (.op1 .len (.var 1))), false), ((.app 12 [(.var 1)]), true), ((.app 18 [(.var 9), (.var 10)]), true), ((.op2 .eq (.app 11 [(.var 1), (.var 3), (.var 4), (.var 5), (.var 6), (.var 7), (.var 8), (.var 9), (.var 10), (.var 11), (.var 12), (.var 13), (.var 14), (.var 15), (.var 16)]) (.num 0)), false)], none),
  ([((.op2 .lt (.num 1000000000) (.op1 .len (.var 1))), true), ((.op2 .lt (.op1 (.wrap .i64) (.op2 .add (.op1 .len (.var 1)) (.num 1))) (.num 0)), false), ((.op2 .lt (.num 1000000000) (.op1 (.wrap .i64) (.op2 .add (.op1 .len (.var 1)) (.num 1)))), false), ((.op2 .lt (.num 1000000) (.op1 .len (.var 1))), false), ((.app 12 [(.var 1)]), true), ((.app 18 [(.var 9), (.var 10)]), true), ((.op2 .eq (.app 11 [(.var 1), (.var 3), (.var 4), (.var 5), (.var 6), (.var 7), (.var 8), (.var 9), (.var 10), (.var 11), (.var 12), (.var 13), (.var 14), (.var 15), (.var 16)]) (.num 0)), false)], none),
  ([((.op2 .lt (.num 1000000000) (.op2 .add (.op1 .len (.var 1)) (.num 1))), true), ((.op2 .lt (.num 1000000000) (.op1 .len (.var 1))), false), ((.op2 .lt (.op1 (.wrap .i64) (.op2 .add (.op1 .len (.var 1)) (.num 1))) (.num 0)), false), ((.op2 .lt (.num 1000000000) (.op1 (.wrap .i64) (.op2 .add (.op1 .len (.var 1)) (.num 1)))), false), ((.op2 .lt (.num 1000000) (.op1 .len (.var 1))), false), ((.app 12 [(.var 1)]), true), ((.app 18 [(.var 9), (.var 10)]), true), ((.op2 .eq (.app 11 [(.var 1), (.var 3), (.var 4), (.var 5), (.var 6), (.var 7), (.var 8), (.var 9), (.var 10), (.var 11), (.var 12), (.var 13), (.var 14), (.var 15), (.var 16)]) (.num 0)), false)], none),
  ([((.op2 .eq (.app 6 [(.snoc (.var 1) [(.op1 (.kind .i64) (.var 3)), (.op1 (.kind .i64) (.var 4)), (.op1 (.kind .u8) (.var 5)), (.op1 (.kind .i64) (.var 6)), (.op1 (.kind .i64) (.var 7)), (.op1 (.kind .i64) (.var 8)), (.var 9), (.var 10), (.op1 (.kind .i64) (.var 11)), (.op1 (.kind .i64) (.var 12)), (.op1 (.kind .i64) (.var 13)), (.op1 (.kind .i64) (.var 14)), (.op1 (.kind .i64) (.var 15)), (.op1 (.kind .i64) (.var 16))])]) (.num 0)), true), ((.app 12 [(.snoc (.var 1) [(.op1 (.kind .i64) (.var 3)), (.op1 (.kind .i64) (.var 4)), (.op1 (.kind .u8) (.var 5)), (.op1 (.kind .i64) (.var 6)), (.op1 (.kind .i64) (.var 7)), (.op1 (.kind .i64) (.var 8)), (.var 9), (.var 10), (.op1 (.kind .i64) (.var 11)), (.op1 (.kind .i64) (.var 12)), (.op1 (.kind .i64) (.var 13)), (.op1 (.kind .i64) (.var 14)), (.op1 (.kind .i64) (.var 15)), (.op1 (.kind .i64) (.var 16))])]), true), ((.app 20 [(.snoc (.var 1) [(.op1 (.kind .i64) (.var 3)), (.op1 (.kind .i64) (.var 4)), (.op1 (.kind .u8) (.var 5)), (.op1 (.kind .i64) (.var 6)), (.op1 (.kind .i64) (.var 7)), (.op1 (.kind .i64) (.var 8)), (.var 9), (.var 10), (.op1 (.kind .i64) (.var 11)), (.op1 (.kind .i64) (.var 12)), (.op1 (.kind .i64) (.var 13)), (.op1 (.kind .i64) (.var 14)), (.op1 (.kind .i64) (.var 15)), (.op1 (.kind .i64) (.var 16))])]), true), ((.op2 .lt (.num 1000000000) (.op2 .add (.op1 .len (.var 1)) (.num 1))), false), ((.op2 .lt (.num 1000000000) (.op1 .len (.var 1))), false), ((.op2 .lt (.op1 (.wrap .i64) (.op2 .add (.op1 .len (.var 1)) (.num 1))) (.num 0)), false), ((.op2 .lt (.num 1000000000) (.op1 (.wrap .i64) (.op2 .add (.op1 .len (.var 1)) (.num 1)))), false), ((.op2 .lt (.num 1000000) (.op1 .len (.var 1))), false), ((.app 12 [(.var 1)]), true), ((.app 18 [(.var 9), (.var 10)]), true), ((.op2 .eq (.app 11 [(.var 1), (.var 3), (.var 4), (.var 5), (.var 6), (.var 7), (.var 8), (.var 9), (.var 10), (.var 11), (.var 12), (.var 13), (.var 14), (.var 15), (.var 16)]) (.num 0)), false)], none),
  ([((.op2 .eq (.app 6 [(.snoc (.var 1) [(.op1 (.kind .i64) (.var 3)), (.op1 (.kind .i64) (.var 4)), (.op1 (.kind .u8) (.var 5)), (.op1 (.kind .i64) (.var 6)), (.op1 (.kind .i64) (.var 7)), (.op1 (.kind .i64) (.var 8)), (.var 9), (.var 10), (.op1 (.kind .i64) (.var 11)), (.op1 (.kind .i64) (.var 12)), (.op1 (.kind .i64) (.var 13)), (.op1 (.kind .i64) (.var 14)), (.op1 (.kind .i64) (.var 15)), (.op1 (.kind .i64) (.var 16))])]) (.num 0)), false), ((.app 12 [(.snoc (.var 1) [(.op1 (.kind .i64) (.var 3)), (.op1 (.kind .i64) (.var 4)), (.op1 (.kind .u8) (.var 5)), (.op1 (.kind .i64) (.var 6)), (.op1 (.kind .i64) (.var 7)), (.op1 (.kind .i64) (.var 8)), (.var 9), (.var 10), (.op1 (.kind .i64) (.var 11)), (.op1 (.kind .i64) (.var 12)), (.op1 (.kind .i64) (.var 13)), (.op1 (.kind .i64) (.var 14)), (.op1 (.kind .i64) (.var 15)), (.op1 (.kind .i64) (.var 16))])]), true), ((.app 20 [(.snoc (.var 1) [(.op1 (.kind .i64) (.var 3)), (.op1 (.kind .i64) (.var 4)), (.op1 (.kind .u8) (.var 5)), (.op1 (.kind .i64) (.var 6)), (.op1 (.kind .i64) (.var 7)), (.op1 (.kind .i64) (.var 8)), (.var 9), (.var 10), (.op1 (.kind .i64) (.var 11)), (.op1 (.kind .i64) (.var 12)), (.op1 (.kind .i64) (.var 13)), (.op1 (.kind .i64) (.var 14)), (.op1 (.kind .i64) (.var 15)), (.op1 (.kind .i64) (.var 16))])]), true), ((.op2 .lt (.num 1000000000) (.op2 .add (.op1 .len (.var 1)) (.num 1))), false), ((.op2 .lt (.num 1000000000) (.op1 .len (.var 1))), false), ((.op2 .lt (.op1 (.wrap .i64) (.op2 .add (.op1 .len (.var 1)) (.num 1))) (.num 0)), false), ((.op2 .lt (.num 1000000000) (.op1 (.wrap .i64) (.op2 .add (.op1 .len (.var 1)) (.num 1)))), false), ((.op2 .lt (.num 1000000) (.op1 .len (.var 1))), false), ((.app 12 [(.var 1)]), true), ((.app 18 [(.var 9), (.var 10)]), true), ((.op2 .eq (.app 11 [(.var 1), (.var 3), (.var 4), (.var 5), (.var 6), (.var 7), (.var 8), (.var 9), (.var 10), (.var 11), (.var 12), (.var 13), (.var 14), (.var 15), (.var 16)]) (.num 0)), false)], some [((.app 11 [(.var 1), (.var 3), (.var 4), (.var 5), (.var 6), (.var 7), (.var 8), (.var 9), (.var 10), (.var 11), (.var 12), (.var 13), (.var 14), (.var 15), (.var 16)]), (.app 6 [(.snoc (.var 1) [(.op1 (.kind .i64) (.var 3)), (.op1 (.kind .i64) (.var 4)), (.op1 (.kind .u8) (.var 5)), (.op1 (.kind .i64) (.var 6)), (.op1 (.kind .i64) (.var 7)), (.op1 (.kind .i64) (.var 8)), (.var 9), (.var 10), (.op1 (.kind .i64) (.var 11)), (.op1 (.kind .i64) (.var 12)), (.op1 (.kind .i64) (.var 13)), (.op1 (.kind .i64) (.var 14)), (.op1 (.kind .i64) (.var 15)), (.op1 (.kind .i64) (.var 16))])]))]),
  ([((.app 12 [(.snoc (.var 1) [(.op1 (.kind .i64) (.var 3)), (.op1 (.kind .i64) (.var 4)), (.op1 (.kind .u8) (.var 5)), (.op1 (.kind .i64) (.var 6)), (.op1 (.kind .i64) (.var 7)), (.op1 (.kind .i64) (.var 8)), (.var 9), (.var 10), (.op1 (.kind .i64) (.var 11)), (.op1 (.kind .i64) (.var 12)), (.op1 (.kind .i64) (.var 13)), (.op1 (.kind .i64) (.var 14)), (.op1 (.kind .i64) (.var 15)), (.op1 (.kind .i64) (.var 16))])]), false), ((.app 20 [(.snoc (.var 1) [(.op1 (.kind .i64) (.var 3)), (.op1 (.kind .i64) (.var 4)), (.op1 (.kind .u8) (.var 5)), (.op1 (.kind .i64) (.var 6)), (.op1 (.kind .i64) (.var 7)), (.op1 (.kind .i64) (.var 8)), (.var 9), (.var 10), (.op1 (.kind .i64) (.var 11)), (.op1 (.kind .i64) (.var 12)), (.op1 (.kind .i64) (.var 13)), (.op1 (.kind .i64) (.var 14)), (.op1 (.kind .i64) (.var 15)), (.op1 (.kind .i64) (.var 16))])]), true), ((.op2 .lt (.num 1000000000) (.op2 .add (.op1 .len (.var 1)) (.num 1))), false), ((.op2 .lt (.num 1000000000) (.op1 .len (.var 1))), false), ((.op2 .lt (.op1 (.wrap .i64) (.op2 .add (.op1 .len (.var 1)) (.num 1))) (.num 0)), false), ((.op2 .lt (.num 1000000000) (.op1 (.wrap .i64) (.op2 .add (.op1 .len (.var 1)) (.num 1)))), false), ((.op2 .lt (.num 1000000) (.op1 .len (.var 1))), false), ((.app 12 [(.var 1)]), true), ((.app 18 [(.var 9), (.var 10)]), true), ((.op2 .eq (.app 11 [(.var 1), (.var 3), (.var 4), (.var 5), (.var 6), (.var 7), (.var 8), (.var 9), (.var 10), (.var 11), (.var 12), (.var 13), (.var 14), (.var 15), (.var 16)]) (.num 0)), false)], none),
  ([((.app 20 [(.snoc (.var 1) [(.op1 (.kind .i64) (.var 3)), (.op1 (.kind .i64) (.var 4)), (.op1 (.kind .u8) (.var 5)), (.op1 (.kind .i64) (.var 6)), (.op1 (.kind .i64) (.var 7)), (.op1 (.kind .i64) (.var 8)), (.var 9), (.var 10), (.op1 (.kind .i64) (.var 11)), (.op1 (.kind .i64) (.var 12)), (.op1 (.kind .i64) (.var 13)), (.op1 (.kind .i64) (.var 14)), (.op1 (.kind .i64) (.var 15)), (.op1 (.kind .i64) (.var 16))])]), false), ((.op2 .lt (.num 1000000000) (.op2 .add (.op1 .len (.var 1)) (.num 1))), false), ((.op2 .lt (.num 1000000000) (.op1 .len (.var 1))), false), ((.op2 .lt (.op1 (.wrap .i64) (.op2 .add (.op1 .len (.var 1)) (.num 1))) (.num 0)), false), ((.op2 .lt (.num 1000000000) (.op1 (.wrap .i64) (.op2 .add (.op1 .len (.var 1)) (.num 1)))), false), ((.op2 .lt (.num 1000000) (.op1 .len (.var 1))), false), ((.app 12 [(.var 1)]), true), ((.app 18 [(.var 9), (.var 10)]), true), ((.op2 .eq (.app 11 [(.var 1), (.var 3), (.var 4), (.var 5), (.var 6), (.var 7), (.var 8), (.var 9), (.var 10), (.var 11), (.var 12), (.var 13), (.var 14), (.var 15), (.var 16)]) (.num 0)), false)], none)]
theorem cAppendNo_w (r : Rho) : cAppendNo_con.fn.ways cAppendNo_call E0 r cAppendNo_con.pre cAppendNo_t = some cAppendNo_l := by kernel_rfl
set_option maxHeartbeats 1000000 in
theorem cAppendNo_cok : cAppendNo_con.Ok Tryz.prog sy := by
  intro r σ w us hsy hρ hpre hrel hins
  obtain ⟨u0, us, rfl, g0, hi⟩ := ins_cons hins
  obtain ⟨u1, us, rfl, g1, hi⟩ := ins_cons hi
  obtain ⟨x, k, rfl, hp⟩ := pap_agg g1
  obtain ⟨l, h1⟩ := paps_at hrel (i := 0) rfl
  rw [hρ] at hp h1
  have h1 : r.val 1 = some (papsR l) := h1
  have a0 := hp.h0
  have a1 := hp.h1
  have a2 := hp.h2
  have a3 := hp.h3
  have a4 := hp.h4
  have a5 := hp.h5
  have a6 := hp.h6
  have a7 := hp.h7
  have a8 := hp.h8
  have a9 := hp.h9
  have a10 := hp.h10
  have a11 := hp.h11
  have a12 := hp.h12
  have a13 := hp.h13
  simp only [Nat.reduceAdd] at a0 a1 a2 a3 a4 a5 a6 a7 a8 a9 a10 a11 a12 a13

  have hlen : (l.length : Int) ≤ 1000000 := by
    have := hpre.1
    simp only [X.bool, X.den, denL, d_wrap, d_kind, d_not, d_neg, d_slen, d_add, d_sub, d_mul, d_div, d_mod, d_lt, d_le, d_eq, d_eqb, d_eqs, d_lts, d_cat, d_sat, d_and, d_or, denSub, denIte, asB, len_R, cell_R, lsub_R, h1, Option.some.injEq, decide_eq_false_iff_not] at this
    omega
  have hw : IntKind.i64.wrap ((l.length : Int) + 1) = l.length + 1 := IntWalk.i64_in _ (by omega)
  have hle := len_snoc l x hlen
  refine con_of (E := E0) E0_ok E0_glob (sy := sy) (fun F => L10_ok F hsy) (fun F => noH_ok) (cAppendNo_w r) hρ hpre hrel hins ?_ ?_
  · simp only [cAppendNo_con, cAppendNo_t, AsksL, GTree.asks, FTree.asks, FactsIn, List.append_nil, List.nil_append, List.cons_append, Option.some.injEq, exists_eq', implies_true, and_self, X.bool, X.den, denL, d_wrap, d_kind, d_not, d_neg, d_slen, d_add, d_sub, d_mul, d_div, d_mod, d_lt, d_le, d_eq, d_eqb, d_eqs, d_lts, d_cat, d_sat, d_and, d_or, denSub, denIte, asB, len_R, cell_R, lsub_R, snoc_R, a0, a1, a2, a3, a4, a5, a6, a7, a8, a9, a10, a11, a12, a13, h1, hsy, sym4, sym5, sym6, sym11, sym12, sym18, sym20, hw, check_snoc, small_snoc, hle]
  · simp only [cAppendNo_l, EndsOk, WaysOk, forall_cons, forall_nil, TgtOk, gpair, FactsIn, hold_cons, hold_nil, Option.some.injEq, Value.bool.injEq, Value.int.injEq, decide_eq_true_eq, decide_eq_false_iff_not, and_true, true_and, and_imp, X.bool, X.den, denL, d_wrap, d_kind, d_not, d_neg, d_slen, d_add, d_sub, d_mul, d_div, d_mod, d_lt, d_le, d_eq, d_eqb, d_eqs, d_lts, d_cat, d_sat, d_and, d_or, denSub, denIte, asB, len_R, cell_R, lsub_R, snoc_R, a0, a1, a2, a3, a4, a5, a6, a7, a8, a9, a10, a11, a12, a13, h1, hsy, sym4, sym5, sym6, sym11, sym12, sym18, sym20, hw, check_snoc, small_snoc, hle]
    clear hρ hpre hrel hi hp hins g0 g1 h1 a0 a1 a2 a3 a4 a5 a6 a7 a8 a9 a10 a11 a12 a13 hw
    (repeat' apply And.intro) <;> intros <;> first
      | trivial
      | (exfalso; omega)
      | (simp_all; done)
      | (exfalso; simp_all; omega)
noncomputable def cAppendYes_con : Con := { f := 19, args := [papsArg 0 0, .agg (papLeaves 3)], N := 1, M := 2, pre := [(.op2 .lt (.num 1000000) (.op1 .len (.var 1)), false), (.app 12 [.var 1], true), (.app 18 [.var 9, .var 10], true), (.op2 .eq (.app 11 [.var 1, .var 3, .var 4, .var 5, .var 6, .var 7, .var 8, .var 9, .var 10, .var 11, .var 12, .var 13, .var 14, .var 15, .var 16]) (.num 0), true)], out := .tuple [.slo 1 14 (.op2 .add (.op1 .len (.var 1)) (.num 1)), .int .i64 0], news := [(1, .rows 14 papSch (.num 0) (.snoc (.var 1) [.op1 (.kind .i64) (.var 3), .op1 (.kind .i64) (.var 4), .op1 (.kind .u8) (.var 5), .op1 (.kind .i64) (.var 6), .op1 (.kind .i64) (.var 7), .op1 (.kind .i64) (.var 8), .var 9, .var 10, .op1 (.kind .i64) (.var 11), .op1 (.kind .i64) (.var 12), .op1 (.kind .i64) (.var 13), .op1 (.kind .i64) (.var 14), .op1 (.kind .i64) (.var 15), .op1 (.kind .i64) (.var 16)]) true 26)] }
noncomputable def cAppendYes_call : Env → CallL := fun E => acallAll E (evH E (L10 E) ((fun _ => noLoops) E) 4)
noncomputable def cAppendYes_t : GTree := (.fork (.op2 .lt (.num 1000000000) (.op1 (.wrap .i64) (.op2 .add (.op1 .len (.var 1)) (.num 1)))) (.fork (.op2 .lt (.op1 (.wrap .i64) (.op2 .add (.op1 .len (.var 1)) (.num 1))) (.num 0)) .bad .bad) (.fork (.op2 .lt (.op1 (.wrap .i64) (.op2 .add (.op1 .len (.var 1)) (.num 1))) (.num 0)) .bad (.fork (.op2 .lt (.num 1000000000) (.op1 .len (.var 1))) .bad (.fork (.op2 .lt (.num 1000000000) (.op2 .add (.op1 .len (.var 1)) (.num 1))) .bad (.fork (.app 20 [(.snoc (.var 1) [(.op1 (.kind .i64) (.var 3)), (.op1 (.kind .i64) (.var 4)), (.op1 (.kind .u8) (.var 5)), (.op1 (.kind .i64) (.var 6)), (.op1 (.kind .i64) (.var 7)), (.op1 (.kind .i64) (.var 8)), (.var 9), (.var 10), (.op1 (.kind .i64) (.var 11)), (.op1 (.kind .i64) (.var 12)), (.op1 (.kind .i64) (.var 13)), (.op1 (.kind .i64) (.var 14)), (.op1 (.kind .i64) (.var 15)), (.op1 (.kind .i64) (.var 16))])]) (.fork (.app 12 [(.snoc (.var 1) [(.op1 (.kind .i64) (.var 3)), (.op1 (.kind .i64) (.var 4)), (.op1 (.kind .u8) (.var 5)), (.op1 (.kind .i64) (.var 6)), (.op1 (.kind .i64) (.var 7)), (.op1 (.kind .i64) (.var 8)), (.var 9), (.var 10), (.op1 (.kind .i64) (.var 11)), (.op1 (.kind .i64) (.var 12)), (.op1 (.kind .i64) (.var 13)), (.op1 (.kind .i64) (.var 14)), (.op1 (.kind .i64) (.var 15)), (.op1 (.kind .i64) (.var 16))])]) (.fork (.op2 .eq (.app 6 [(.snoc (.var 1) [(.op1 (.kind .i64) (.var 3)), (.op1 (.kind .i64) (.var 4)), (.op1 (.kind .u8) (.var 5)), (.op1 (.kind .i64) (.var 6)), (.op1 (.kind .i64) (.var 7)), (.op1 (.kind .i64) (.var 8)), (.var 9), (.var 10), (.op1 (.kind .i64) (.var 11)), (.op1 (.kind .i64) (.var 12)), (.op1 (.kind .i64) (.var 13)), (.op1 (.kind .i64) (.var 14)), (.op1 (.kind .i64) (.var 15)), (.op1 (.kind .i64) (.var 16))])]) (.num 0)) (.leaf [[(1, 5)]]) .bad) .bad) .bad)))))
noncomputable def cAppendYes_l : List (List (X × Bool) × Option Pairs) := [([((.op2 .lt (.op1 (.wrap .i64) (.op2 .add (.op1 .len (.var 1)) (.num 1))) (.num 0)), true), ((.op2 .lt (.num 1000000000) (.op1 (.wrap .i64) (.op2 .add (.op1 .len (.var 1)) (.num 1)))), true), ((.op2 .lt (.num 1000000) (.op1 .len (.var 1))), false), ((.app 12 [(.var 1)]), true), ((.app 18 [(.var 9), (.var 10)]), true), ((.op2 .eq (.app 11 [(.var 1), (.var 3), (.var 4), (.var 5), (.var 6), (.var 7), (.var 8), (.var 9), (.var 10), (.var 11), (.var 12), (.var 13), (.var 14), (.var 15), (.var 16)]) (.num 0)), true)], none),
  ([((.op2 .lt (.op1 (.wrap .i64) (.op2 .add (.op1 .len (.var 1)) (.num 1))) (.num 0)), false), ((.op2 .lt (.num 1000000000) (.op1 (.wrap .i64) (.op2 .add (.op1 .len (.var 1)) (.num 1)))), true), ((.op2 .lt (.num 1000000) (.op1 .len (.var 1))), false), ((.app 12 [(.var 1)]), true), ((.app 18 [(.var 9), (.var 10)]), true), ((.op2 .eq (.app 11 [(.var 1), (.var 3), (.var 4), (.var 5), (.var 6), (.var 7), (.var 8), (.var 9), (.var 10), (.var 11), (.var 12), (.var 13), (.var 14), (.var 15), (.var 16)]) (.num 0)), true)], none),
  ([((.op2 .lt (.op1 (.wrap .i64) (.op2 .add (.op1 .len (.var 1)) (.num 1))) (.num 0)), true), ((.op2 .lt (.num 1000000000) (.op1 (.wrap .i64) (.op2 .add (.op1 .len (.var 1)) (.num 1)))), false), ((.op2 .lt (.num 1000000) (.op1 .len (.var 1))), false), ((.app 12 [(.var 1)]), true), ((.app 18 [(.var 9), (.var 10)]), true), ((.op2 .eq (.app 11 [(.var 1), (.var 3), (.var 4), (.var 5), (.var 6), (.var 7), (.var 8), (.var 9), (.var 10), (.var 11), (.var 12), (.var 13), (.var 14), (.var 15), (.var 16)]) (.num 0)), true)], none),
  ([((.op2 .lt (.num 1000000000) (.op1 .len (.var 1))), true), ((.op2 .lt (.op1 (.wrap .i64) (.op2 .add (.op1 .len (.var 1)) (.num 1))) (.num 0)), false), ((.op2 .lt (.num 1000000000) (.op1 (.wrap .i64) (.op2 .add (.op1 .len (.var 1)) (.num 1)))), false), ((.op2 .lt (.num 1000000) (.op1 .len (.var 1))), false), ((.app 12 [(.var 1)]), true), ((.app 18 [(.var 9), (.var 10)]), true), ((.op2 .eq (.app 11 [(.var 1), (.var 3), (.var 4), (.var 5), (.var 6), (.var 7), (.var 8), (.var 9), (.var 10), (.var 11), (.var 12), (.var 13), (.var 14), (.var 15), (.var 16)]) (.num 0)), true)], none),
  ([((.op2 .lt (.num 1000000000) (.op2 .add (.op1 .len (.var 1)) (.num 1))), true), ((.op2 .lt (.num 1000000000) (.op1 .len (.var 1))), false), ((.op2 .lt (.op1 (.wrap .i64) (.op2 .add (.op1 .len (.var 1)) (.num 1))) (.num 0)), false), ((.op2 .lt (.num 1000000000) (.op1 (.wrap .i64) (.op2 .add (.op1 .len (.var 1)) (.num 1)))), false), ((.op2 .lt (.num 1000000) (.op1 .len (.var 1))), false), ((.app 12 [(.var 1)]), true), ((.app 18 [(.var 9), (.var 10)]), true), ((.op2 .eq (.app 11 [(.var 1), (.var 3), (.var 4), (.var 5), (.var 6), (.var 7), (.var 8), (.var 9), (.var 10), (.var 11), (.var 12), (.var 13), (.var 14), (.var 15), (.var 16)]) (.num 0)), true)], none),
  ([((.op2 .eq (.app 6 [(.snoc (.var 1) [(.op1 (.kind .i64) (.var 3)), (.op1 (.kind .i64) (.var 4)), (.op1 (.kind .u8) (.var 5)), (.op1 (.kind .i64) (.var 6)), (.op1 (.kind .i64) (.var 7)), (.op1 (.kind .i64) (.var 8)), (.var 9), (.var 10), (.op1 (.kind .i64) (.var 11)), (.op1 (.kind .i64) (.var 12)), (.op1 (.kind .i64) (.var 13)), (.op1 (.kind .i64) (.var 14)), (.op1 (.kind .i64) (.var 15)), (.op1 (.kind .i64) (.var 16))])]) (.num 0)), true), ((.app 12 [(.snoc (.var 1) [(.op1 (.kind .i64) (.var 3)), (.op1 (.kind .i64) (.var 4)), (.op1 (.kind .u8) (.var 5)), (.op1 (.kind .i64) (.var 6)), (.op1 (.kind .i64) (.var 7)), (.op1 (.kind .i64) (.var 8)), (.var 9), (.var 10), (.op1 (.kind .i64) (.var 11)), (.op1 (.kind .i64) (.var 12)), (.op1 (.kind .i64) (.var 13)), (.op1 (.kind .i64) (.var 14)), (.op1 (.kind .i64) (.var 15)), (.op1 (.kind .i64) (.var 16))])]), true), ((.app 20 [(.snoc (.var 1) [(.op1 (.kind .i64) (.var 3)), (.op1 (.kind .i64) (.var 4)), (.op1 (.kind .u8) (.var 5)), (.op1 (.kind .i64) (.var 6)), (.op1 (.kind .i64) (.var 7)), (.op1 (.kind .i64) (.var 8)), (.var 9), (.var 10), (.op1 (.kind .i64) (.var 11)), (.op1 (.kind .i64) (.var 12)), (.op1 (.kind .i64) (.var 13)), (.op1 (.kind .i64) (.var 14)), (.op1 (.kind .i64) (.var 15)), (.op1 (.kind .i64) (.var 16))])]), true), ((.op2 .lt (.num 1000000000) (.op2 .add (.op1 .len (.var 1)) (.num 1))), false), ((.op2 .lt (.num 1000000000) (.op1 .len (.var 1))), false), ((.op2 .lt (.op1 (.wrap .i64) (.op2 .add (.op1 .len (.var 1)) (.num 1))) (.num 0)), false), ((.op2 .lt (.num 1000000000) (.op1 (.wrap .i64) (.op2 .add (.op1 .len (.var 1)) (.num 1)))), false), ((.op2 .lt (.num 1000000) (.op1 .len (.var 1))), false), ((.app 12 [(.var 1)]), true), ((.app 18 [(.var 9), (.var 10)]), true), ((.op2 .eq (.app 11 [(.var 1), (.var 3), (.var 4), (.var 5), (.var 6), (.var 7), (.var 8), (.var 9), (.var 10), (.var 11), (.var 12), (.var 13), (.var 14), (.var 15), (.var 16)]) (.num 0)), true)], some [((.op2 .add (.op1 .len (.var 1)) (.num 1)), (.op2 .add (.op1 .len (.var 1)) (.num 1))), ((.snoc (.var 1) [(.op1 (.kind .i64) (.var 3)), (.op1 (.kind .i64) (.var 4)), (.op1 (.kind .u8) (.var 5)), (.op1 (.kind .i64) (.var 6)), (.op1 (.kind .i64) (.var 7)), (.op1 (.kind .i64) (.var 8)), (.var 9), (.var 10), (.op1 (.kind .i64) (.var 11)), (.op1 (.kind .i64) (.var 12)), (.op1 (.kind .i64) (.var 13)), (.op1 (.kind .i64) (.var 14)), (.op1 (.kind .i64) (.var 15)), (.op1 (.kind .i64) (.var 16))]), (.snoc (.var 1) [(.op1 (.kind .i64) (.var 3)), (.op1 (.kind .i64) (.var 4)), (.op1 (.kind .u8) (.var 5)), (.op1 (.kind .i64) (.var 6)), (.op1 (.kind .i64) (.var 7)), (.op1 (.kind .i64) (.var 8)), (.var 9), (.var 10), (.op1 (.kind .i64) (.var 11)), (.op1 (.kind .i64) (.var 12)), (.op1 (.kind .i64) (.var 13)), (.op1 (.kind .i64) (.var 14)), (.op1 (.kind .i64) (.var 15)), (.op1 (.kind .i64) (.var 16))]))]),
  ([((.op2 .eq (.app 6 [(.snoc (.var 1) [(.op1 (.kind .i64) (.var 3)), (.op1 (.kind .i64) (.var 4)), (.op1 (.kind .u8) (.var 5)), (.op1 (.kind .i64) (.var 6)), (.op1 (.kind .i64) (.var 7)), (.op1 (.kind .i64) (.var 8)), (.var 9), (.var 10), (.op1 (.kind .i64) (.var 11)), (.op1 (.kind .i64) (.var 12)), (.op1 (.kind .i64) (.var 13)), (.op1 (.kind .i64) (.var 14)), (.op1 (.kind .i64) (.var 15)), (.op1 (.kind .i64) (.var 16))])]) (.num 0)), false), ((.app 12 [(.snoc (.var 1) [(.op1 (.kind .i64) (.var 3)), (.op1 (.kind .i64) (.var 4)), (.op1 (.kind .u8) (.var 5)), (.op1 (.kind .i64) (.var 6)), (.op1 (.kind .i64) (.var 7)), (.op1 (.kind .i64) (.var 8)), (.var 9), (.var 10), (.op1 (.kind .i64) (.var 11)), (.op1 (.kind .i64) (.var 12)), (.op1 (.kind .i64) (.var 13)), (.op1 (.kind .i64) (.var 14)), (.op1 (.kind .i64) (.var 15)), (.op1 (.kind .i64) (.var 16))])]), true), ((.app 20 [(.snoc (.var 1) [(.op1 (.kind .i64) (.var 3)), (.op1 (.kind .i64) (.var 4)), (.op1 (.kind .u8) (.var 5)), (.op1 (.kind .i64) (.var 6)), (.op1 (.kind .i64) (.var 7)), (.op1 (.kind .i64) (.var 8)), (.var 9), (.var 10), (.op1 (.kind .i64) (.var 11)), (.op1 (.kind .i64) (.var 12)), (.op1 (.kind .i64) (.var 13)), (.op1 (.kind .i64) (.var 14)), (.op1 (.kind .i64) (.var 15)), (.op1 (.kind .i64) (.var 16))])]), true), ((.op2 .lt (.num 1000000000) (.op2 .add (.op1 .len (.var 1)) (.num 1))), false), ((.op2 .lt (.num 1000000000) (.op1 .len (.var 1))), false), ((.op2 .lt (.op1 (.wrap .i64) (.op2 .add (.op1 .len (.var 1)) (.num 1))) (.num 0)), false), ((.op2 .lt (.num 1000000000) (.op1 (.wrap .i64) (.op2 .add (.op1 .len (.var 1)) (.num 1)))), false), ((.op2 .lt (.num 1000000) (.op1 .len (.var 1))), false), ((.app 12 [(.var 1)]), true), ((.app 18 [(.var 9), (.var 10)]), true), ((.op2 .eq (.app 11 [(.var 1), (.var 3), (.var 4), (.var 5), (.var 6), (.var 7), (.var 8), (.var 9), (.var 10), (.var 11), (.var 12), (.var 13), (.var 14), (.var 15), (.var 16)]) (.num 0)), true)], none),
  ([((.app 12 [(.snoc (.var 1) [(.op1 (.kind .i64) (.var 3)), (.op1 (.kind .i64) (.var 4)), (.op1 (.kind .u8) (.var 5)), (.op1 (.kind .i64) (.var 6)), (.op1 (.kind .i64) (.var 7)), (.op1 (.kind .i64) (.var 8)), (.var 9), (.var 10), (.op1 (.kind .i64) (.var 11)), (.op1 (.kind .i64) (.var 12)), (.op1 (.kind .i64) (.var 13)), (.op1 (.kind .i64) (.var 14)), (.op1 (.kind .i64) (.var 15)), (.op1 (.kind .i64) (.var 16))])]), false), ((.app 20 [(.snoc (.var 1) [(.op1 (.kind .i64) (.var 3)), (.op1 (.kind .i64) (.var 4)), (.op1 (.kind .u8) (.var 5)), (.op1 (.kind .i64) (.var 6)), (.op1 (.kind .i64) (.var 7)), (.op1 (.kind .i64) (.var 8)), (.var 9), (.var 10), (.op1 (.kind .i64) (.var 11)), (.op1 (.kind .i64) (.var 12)), (.op1 (.kind .i64) (.var 13)), (.op1 (.kind .i64) (.var 14)), (.op1 (.kind .i64) (.var 15)), (.op1 (.kind .i64) (.var 16))])]), true), ((.op2 .lt (.num 1000000000) (.op2 .add (.op1 .len (.var 1)) (.num 1))), false), ((.op2 .lt (.num 1000000000) (.op1 .len (.var 1))), false), ((.op2 .lt (.op1 (.wrap .i64) (.op2 .add (.op1 .len (.var 1)) (.num 1))) (.num 0)), false), ((.op2 .lt (.num 1000000000) (.op1 (.wrap .i64) (.op2 .add (.op1 .len (.var 1)) (.num 1)))), false), ((.op2 .lt (.num 1000000) (.op1 .len (.var 1))), false), ((.app 12 [(.var 1)]), true), ((.app 18 [(.var 9), (.var 10)]), true), ((.op2 .eq (.app 11 [(.var 1), (.var 3), (.var 4), (.var 5), (.var 6), (.var 7), (.var 8), (.var 9), (.var 10), (.var 11), (.var 12), (.var 13), (.var 14), (.var 15), (.var 16)]) (.num 0)), true)], none),
  ([((.app 20 [(.snoc (.var 1) [(.op1 (.kind .i64) (.var 3)), (.op1 (.kind .i64) (.var 4)), (.op1 (.kind .u8) (.var 5)), (.op1 (.kind .i64) (.var 6)), (.op1 (.kind .i64) (.var 7)), (.op1 (.kind .i64) (.var 8)), (.var 9), (.var 10), (.op1 (.kind .i64) (.var 11)), (.op1 (.kind .i64) (.var 12)), (.op1 (.kind .i64) (.var 13)), (.op1 (.kind .i64) (.var 14)), (.op1 (.kind .i64) (.var 15)), (.op1 (.kind .i64) (.var 16))])]), false), ((.op2 .lt (.num 1000000000) (.op2 .add (.op1 .len (.var 1)) (.num 1))), false), ((.op2 .lt (.num 1000000000) (.op1 .len (.var 1))), false), ((.op2 .lt (.op1 (.wrap .i64) (.op2 .add (.op1 .len (.var 1)) (.num 1))) (.num 0)), false), ((.op2 .lt (.num 1000000000) (.op1 (.wrap .i64) (.op2 .add (.op1 .len (.var 1)) (.num 1)))), false), ((.op2 .lt (.num 1000000) (.op1 .len (.var 1))), false), ((.app 12 [(.var 1)]), true), ((.app 18 [(.var 9), (.var 10)]), true), ((.op2 .eq (.app 11 [(.var 1), (.var 3), (.var 4), (.var 5), (.var 6), (.var 7), (.var 8), (.var 9), (.var 10), (.var 11), (.var 12), (.var 13), (.var 14), (.var 15), (.var 16)]) (.num 0)), true)], none)]
theorem cAppendYes_w (r : Rho) : cAppendYes_con.fn.ways cAppendYes_call E0 r cAppendYes_con.pre cAppendYes_t = some cAppendYes_l := by kernel_rfl
set_option maxHeartbeats 1000000 in
theorem cAppendYes_cok : cAppendYes_con.Ok Tryz.prog sy := by
  intro r σ w us hsy hρ hpre hrel hins
  obtain ⟨u0, us, rfl, g0, hi⟩ := ins_cons hins
  obtain ⟨u1, us, rfl, g1, hi⟩ := ins_cons hi
  obtain ⟨x, k, rfl, hp⟩ := pap_agg g1
  obtain ⟨l, h1⟩ := paps_at hrel (i := 0) rfl
  rw [hρ] at hp h1
  have h1 : r.val 1 = some (papsR l) := h1
  have a0 := hp.h0
  have a1 := hp.h1
  have a2 := hp.h2
  have a3 := hp.h3
  have a4 := hp.h4
  have a5 := hp.h5
  have a6 := hp.h6
  have a7 := hp.h7
  have a8 := hp.h8
  have a9 := hp.h9
  have a10 := hp.h10
  have a11 := hp.h11
  have a12 := hp.h12
  have a13 := hp.h13
  simp only [Nat.reduceAdd] at a0 a1 a2 a3 a4 a5 a6 a7 a8 a9 a10 a11 a12 a13

  have hlen : (l.length : Int) ≤ 1000000 := by
    have := hpre.1
    simp only [X.bool, X.den, denL, d_wrap, d_kind, d_not, d_neg, d_slen, d_add, d_sub, d_mul, d_div, d_mod, d_lt, d_le, d_eq, d_eqb, d_eqs, d_lts, d_cat, d_sat, d_and, d_or, denSub, denIte, asB, len_R, cell_R, lsub_R, h1, Option.some.injEq, decide_eq_false_iff_not] at this
    omega
  have hw : IntKind.i64.wrap ((l.length : Int) + 1) = l.length + 1 := IntWalk.i64_in _ (by omega)
  have hle := len_snoc l x hlen
  refine con_of (E := E0) E0_ok E0_glob (sy := sy) (fun F => L10_ok F hsy) (fun F => noH_ok) (cAppendYes_w r) hρ hpre hrel hins ?_ ?_
  · simp only [cAppendYes_con, cAppendYes_t, AsksL, GTree.asks, FTree.asks, FactsIn, List.append_nil, List.nil_append, List.cons_append, Option.some.injEq, exists_eq', implies_true, and_self, X.bool, X.den, denL, d_wrap, d_kind, d_not, d_neg, d_slen, d_add, d_sub, d_mul, d_div, d_mod, d_lt, d_le, d_eq, d_eqb, d_eqs, d_lts, d_cat, d_sat, d_and, d_or, denSub, denIte, asB, len_R, cell_R, lsub_R, snoc_R, a0, a1, a2, a3, a4, a5, a6, a7, a8, a9, a10, a11, a12, a13, h1, hsy, sym4, sym5, sym6, sym11, sym12, sym18, sym20, hw, check_snoc, small_snoc, hle]
  · simp only [cAppendYes_l, EndsOk, WaysOk, forall_cons, forall_nil, TgtOk, gpair, FactsIn, hold_cons, hold_nil, Option.some.injEq, Value.bool.injEq, Value.int.injEq, decide_eq_true_eq, decide_eq_false_iff_not, and_true, true_and, and_imp, X.bool, X.den, denL, d_wrap, d_kind, d_not, d_neg, d_slen, d_add, d_sub, d_mul, d_div, d_mod, d_lt, d_le, d_eq, d_eqb, d_eqs, d_lts, d_cat, d_sat, d_and, d_or, denSub, denIte, asB, len_R, cell_R, lsub_R, snoc_R, a0, a1, a2, a3, a4, a5, a6, a7, a8, a9, a10, a11, a12, a13, h1, hsy, sym4, sym5, sym6, sym11, sym12, sym18, sym20, hw, check_snoc, small_snoc, hle]
    clear hρ hpre hrel hi hp hins g0 g1 h1 a0 a1 a2 a3 a4 a5 a6 a7 a8 a9 a10 a11 a12 a13 hw
    (repeat' apply And.intro) <;> intros <;> first
      | trivial
      | (exfalso; omega)
      | (simp_all; done)
      | (exfalso; simp_all; omega)
end Go.Proofs.YtmhbhkipjjcmlaaGreatDoor.Zs

namespace Go.Proofs.YtmhbhkipjjcmlaaGreatDoor.Zs
open Go
set_option linter.unusedSimpArgs false
set_option linter.unusedVariables false

theorem snoc_R0 (x : Pap) : denSnoc (.tuple #[]) [.int .i64 x.id, .int .i64 x.known, .int .u8 x.kind, .int .i64 x.loss, .int .i64 x.pack, .int .i64 x.inn, .string x.mark, .string x.goods, .int .i64 x.wlo, .int .i64 x.whi, .int .i64 x.pieces, .int .i64 x.owner, .int .i64 x.count, .int .i64 x.off] = some (papsR [x]) := snoc_R [] x
theorem append_nil_E (x : Pap) : appendE [] x = if formedB x = true then (if x.kind = 3 then 5 else 0) else 1 := by
  cases hf : formedB x <;> by_cases hk : x.kind = 3 <;> simp [appendE, checkR, chkGo, refusedE, foundB, goneB, hf, hk]
theorem sym11n (x : Pap) (k0 k1 k2 k3 k4 k5 k8 k9 k10 k11 k12 k13 : IntKind) :
    sy 11 [.tuple #[], .int k0 x.id, .int k1 x.known, .int k2 x.kind, .int k3 x.loss, .int k4 x.pack, .int k5 x.inn, .string x.mark, .string x.goods, .int k8 x.wlo, .int k9 x.whi, .int k10 x.pieces, .int k11 x.owner, .int k12 x.count, .int k13 x.off] = some (.int .i64 (if formedB x = true then (if x.kind = 3 then 5 else 0) else 1)) := by
  rw [← append_nil_E]; exact sym11 [] x k0 k1 k2 k3 k4 k5 k8 k9 k10 k11 k12 k13
noncomputable def L11 : Env → CallE := libs [cLib Formed_con]
theorem L11_ok (F : List (X × Bool)) {r : Rho} (h : r.sym = sy) : CallsOk (E0.with F r) (L11 (E0.with F r)) := libs_ok fun c hc => by
  simp only [List.mem_cons, List.not_mem_nil, or_false] at hc
  subst hc; exact lib_ok (E := E0) Formed_cok F h

noncomputable def rAppNilNo_con : Con := { f := 20, args := [.nils, .agg (papLeaves 0)], N := 0, M := 0, pre := [(.app 18 [.var 6, .var 7], true), (.op2 .eq (.app 11 [.nil, .var 0, .var 1, .var 2, .var 3, .var 4, .var 5, .var 6, .var 7, .var 8, .var 9, .var 10, .var 11, .var 12, .var 13]) (.num 0), false)], out := .tuple [.nilslice, .sint .i64 (.app 11 [.nil, .var 0, .var 1, .var 2, .var 3, .var 4, .var 5, .var 6, .var 7, .var 8, .var 9, .var 10, .var 11, .var 12, .var 13])], news := [] }
noncomputable def rAppNilNo_call : Env → CallL := fun E => acallAll E (evH E (L11 E) ((fun _ => noLoops) E) 6)
noncomputable def rAppNilNo_t : GTree := (.fork (.app 3 [(.var 0), (.var 1), (.var 2), (.var 3), (.var 4), (.var 5), (.var 6), (.var 7), (.var 8), (.var 9), (.var 10), (.var 11), (.var 12), (.var 13)]) (.fork (.op2 .eq (.var 2) (.num 3)) (.leaf [[]]) .bad) (.leaf [[]]))
noncomputable def rAppNilNo_l : List (List (X × Bool) × Option Pairs) := [([((.op2 .eq (.var 2) (.num 3)), true), ((.app 3 [(.var 0), (.var 1), (.var 2), (.var 3), (.var 4), (.var 5), (.var 6), (.var 7), (.var 8), (.var 9), (.var 10), (.var 11), (.var 12), (.var 13)]), true), ((.app 18 [(.var 6), (.var 7)]), true), ((.op2 .eq (.app 11 [.nil, (.var 0), (.var 1), (.var 2), (.var 3), (.var 4), (.var 5), (.var 6), (.var 7), (.var 8), (.var 9), (.var 10), (.var 11), (.var 12), (.var 13)]) (.num 0)), false)], some [((.app 11 [.nil, (.var 0), (.var 1), (.var 2), (.var 3), (.var 4), (.var 5), (.var 6), (.var 7), (.var 8), (.var 9), (.var 10), (.var 11), (.var 12), (.var 13)]), (.num 5))]),
  ([((.op2 .eq (.var 2) (.num 3)), false), ((.app 3 [(.var 0), (.var 1), (.var 2), (.var 3), (.var 4), (.var 5), (.var 6), (.var 7), (.var 8), (.var 9), (.var 10), (.var 11), (.var 12), (.var 13)]), true), ((.app 18 [(.var 6), (.var 7)]), true), ((.op2 .eq (.app 11 [.nil, (.var 0), (.var 1), (.var 2), (.var 3), (.var 4), (.var 5), (.var 6), (.var 7), (.var 8), (.var 9), (.var 10), (.var 11), (.var 12), (.var 13)]) (.num 0)), false)], none),
  ([((.app 3 [(.var 0), (.var 1), (.var 2), (.var 3), (.var 4), (.var 5), (.var 6), (.var 7), (.var 8), (.var 9), (.var 10), (.var 11), (.var 12), (.var 13)]), false), ((.app 18 [(.var 6), (.var 7)]), true), ((.op2 .eq (.app 11 [.nil, (.var 0), (.var 1), (.var 2), (.var 3), (.var 4), (.var 5), (.var 6), (.var 7), (.var 8), (.var 9), (.var 10), (.var 11), (.var 12), (.var 13)]) (.num 0)), false)], some [((.app 11 [.nil, (.var 0), (.var 1), (.var 2), (.var 3), (.var 4), (.var 5), (.var 6), (.var 7), (.var 8), (.var 9), (.var 10), (.var 11), (.var 12), (.var 13)]), (.num 1))])]
theorem rAppNilNo_w (r : Rho) : rAppNilNo_con.fn.ways rAppNilNo_call E0 r rAppNilNo_con.pre rAppNilNo_t = some rAppNilNo_l := by kernel_rfl
theorem rAppNilNo_cok : rAppNilNo_con.Ok Tryz.prog sy := by
  intro r σ w us hsy hρ hpre hrel hins
  obtain ⟨u0, us, rfl, g0, hi⟩ := ins_cons hins
  obtain ⟨u1, us, rfl, g1, hi⟩ := ins_cons hi
  obtain ⟨x, k, rfl, hp⟩ := pap_agg g1
  rw [hρ] at hp
  have a0 := hp.h0
  have a1 := hp.h1
  have a2 := hp.h2
  have a3 := hp.h3
  have a4 := hp.h4
  have a5 := hp.h5
  have a6 := hp.h6
  have a7 := hp.h7
  have a8 := hp.h8
  have a9 := hp.h9
  have a10 := hp.h10
  have a11 := hp.h11
  have a12 := hp.h12
  have a13 := hp.h13
  simp only [Nat.zero_add] at a0 a1 a2 a3 a4 a5 a6 a7 a8 a9 a10 a11 a12 a13

  refine con_of (E := E0) E0_ok E0_glob (sy := sy) (fun F => L11_ok F hsy) (fun F => noH_ok) (rAppNilNo_w r) hρ hpre hrel hins ?_ ?_
  · simp only [rAppNilNo_con, rAppNilNo_t, AsksL, GTree.asks, FTree.asks, FactsIn, List.append_nil, List.nil_append, List.cons_append, Option.some.injEq, exists_eq', implies_true, and_self, X.bool, X.den, denL, d_wrap, d_kind, d_not, d_neg, d_slen, d_add, d_sub, d_mul, d_div, d_mod, d_lt, d_le, d_eq, d_eqb, d_eqs, d_lts, d_cat, d_sat, d_and, d_or, denSub, denIte, asB, len_R, cell_R, lsub_R, a0, a1, a2, a3, a4, a5, a6, a7, a8, a9, a10, a11, a12, a13, hsy, sym3, sym11n, sym18, snoc_R0]
  · simp only [rAppNilNo_l, EndsOk, WaysOk, forall_cons, forall_nil, TgtOk, gpair, FactsIn, hold_cons, hold_nil, Option.some.injEq, Value.bool.injEq, Value.int.injEq, decide_eq_true_eq, decide_eq_false_iff_not, and_true, true_and, and_imp, X.bool, X.den, denL, d_wrap, d_kind, d_not, d_neg, d_slen, d_add, d_sub, d_mul, d_div, d_mod, d_lt, d_le, d_eq, d_eqb, d_eqs, d_lts, d_cat, d_sat, d_and, d_or, denSub, denIte, asB, len_R, cell_R, lsub_R, a0, a1, a2, a3, a4, a5, a6, a7, a8, a9, a10, a11, a12, a13, hsy, sym3, sym11n, sym18, snoc_R0]
    clear hρ hpre hrel hi hp hins g0 g1 a0 a1 a2 a3 a4 a5 a6 a7 a8 a9 a10 a11 a12 a13
    (repeat' apply And.intro) <;> intros <;> first
      | trivial
      | (simp_all; done)
      | (exfalso; simp_all; omega)
noncomputable def rAppNilYes_con : Con := { f := 20, args := [.nils, .agg (papLeaves 0)], N := 0, M := 1, pre := [(.app 18 [.var 6, .var 7], true), (.op2 .eq (.app 11 [.nil, .var 0, .var 1, .var 2, .var 3, .var 4, .var 5, .var 6, .var 7, .var 8, .var 9, .var 10, .var 11, .var 12, .var 13]) (.num 0), true)], out := .tuple [.slo 0 14 (.num 1), .int .i64 0], news := [(0, .rows 14 papSch (.num 0) (.snoc .nil [.op1 (.kind .i64) (.var 0), .op1 (.kind .i64) (.var 1), .op1 (.kind .u8) (.var 2), .op1 (.kind .i64) (.var 3), .op1 (.kind .i64) (.var 4), .op1 (.kind .i64) (.var 5), .var 6, .var 7, .op1 (.kind .i64) (.var 8), .op1 (.kind .i64) (.var 9), .op1 (.kind .i64) (.var 10), .op1 (.kind .i64) (.var 11), .op1 (.kind .i64) (.var 12), .op1 (.kind .i64) (.var 13)]) true 26)] }
noncomputable def rAppNilYes_call : Env → CallL := fun E => acallAll E (evH E (L11 E) ((fun _ => noLoops) E) 6)
noncomputable def rAppNilYes_t : GTree := (.fork (.app 3 [(.var 0), (.var 1), (.var 2), (.var 3), (.var 4), (.var 5), (.var 6), (.var 7), (.var 8), (.var 9), (.var 10), (.var 11), (.var 12), (.var 13)]) (.fork (.op2 .eq (.var 2) (.num 3)) .bad (.leaf [[(0, 4)], [(0, 4)], [(0, 4)]])) .bad)
noncomputable def rAppNilYes_l : List (List (X × Bool) × Option Pairs) := [([((.op2 .eq (.var 2) (.num 3)), true), ((.app 3 [(.var 0), (.var 1), (.var 2), (.var 3), (.var 4), (.var 5), (.var 6), (.var 7), (.var 8), (.var 9), (.var 10), (.var 11), (.var 12), (.var 13)]), true), ((.app 18 [(.var 6), (.var 7)]), true), ((.op2 .eq (.app 11 [.nil, (.var 0), (.var 1), (.var 2), (.var 3), (.var 4), (.var 5), (.var 6), (.var 7), (.var 8), (.var 9), (.var 10), (.var 11), (.var 12), (.var 13)]) (.num 0)), true)], none),
  ([((.op2 .eq (.var 2) (.num 3)), false), ((.app 3 [(.var 0), (.var 1), (.var 2), (.var 3), (.var 4), (.var 5), (.var 6), (.var 7), (.var 8), (.var 9), (.var 10), (.var 11), (.var 12), (.var 13)]), true), ((.app 18 [(.var 6), (.var 7)]), true), ((.op2 .eq (.app 11 [.nil, (.var 0), (.var 1), (.var 2), (.var 3), (.var 4), (.var 5), (.var 6), (.var 7), (.var 8), (.var 9), (.var 10), (.var 11), (.var 12), (.var 13)]) (.num 0)), true)], some [((.snoc .nil [(.op1 (.kind .i64) (.var 0)), (.op1 (.kind .i64) (.var 1)), (.op1 (.kind .u8) (.var 2)), (.op1 (.kind .i64) (.var 3)), (.op1 (.kind .i64) (.var 4)), (.op1 (.kind .i64) (.var 5)), (.var 6), (.var 7), (.op1 (.kind .i64) (.var 8)), (.op1 (.kind .i64) (.var 9)), (.op1 (.kind .i64) (.var 10)), (.op1 (.kind .i64) (.var 11)), (.op1 (.kind .i64) (.var 12)), (.op1 (.kind .i64) (.var 13))]), (.snoc .nil [(.op1 (.kind .i64) (.var 0)), (.op1 (.kind .i64) (.var 1)), (.op1 (.kind .u8) (.var 2)), (.op1 (.kind .i64) (.var 3)), (.op1 (.kind .i64) (.var 4)), (.op1 (.kind .i64) (.var 5)), (.var 6), (.var 7), (.op1 (.kind .i64) (.var 8)), (.op1 (.kind .i64) (.var 9)), (.op1 (.kind .i64) (.var 10)), (.op1 (.kind .i64) (.var 11)), (.op1 (.kind .i64) (.var 12)), (.op1 (.kind .i64) (.var 13))])), ((.snoc .nil [(.op1 (.kind .i64) (.var 0)), (.op1 (.kind .i64) (.var 1)), (.op1 (.kind .u8) (.var 2)), (.op1 (.kind .i64) (.var 3)), (.op1 (.kind .i64) (.var 4)), (.op1 (.kind .i64) (.var 5)), (.var 6), (.var 7), (.op1 (.kind .i64) (.var 8)), (.op1 (.kind .i64) (.var 9)), (.op1 (.kind .i64) (.var 10)), (.op1 (.kind .i64) (.var 11)), (.op1 (.kind .i64) (.var 12)), (.op1 (.kind .i64) (.var 13))]), (.snoc .nil [(.op1 (.kind .i64) (.var 0)), (.op1 (.kind .i64) (.var 1)), (.op1 (.kind .u8) (.var 2)), (.op1 (.kind .i64) (.var 3)), (.op1 (.kind .i64) (.var 4)), (.op1 (.kind .i64) (.var 5)), (.var 6), (.var 7), (.op1 (.kind .i64) (.var 8)), (.op1 (.kind .i64) (.var 9)), (.op1 (.kind .i64) (.var 10)), (.op1 (.kind .i64) (.var 11)), (.op1 (.kind .i64) (.var 12)), (.op1 (.kind .i64) (.var 13))])), ((.snoc .nil [(.op1 (.kind .i64) (.var 0)), (.op1 (.kind .i64) (.var 1)), (.op1 (.kind .u8) (.var 2)), (.op1 (.kind .i64) (.var 3)), (.op1 (.kind .i64) (.var 4)), (.op1 (.kind .i64) (.var 5)), (.var 6), (.var 7), (.op1 (.kind .i64) (.var 8)), (.op1 (.kind .i64) (.var 9)), (.op1 (.kind .i64) (.var 10)), (.op1 (.kind .i64) (.var 11)), (.op1 (.kind .i64) (.var 12)), (.op1 (.kind .i64) (.var 13))]), (.snoc .nil [(.op1 (.kind .i64) (.var 0)), (.op1 (.kind .i64) (.var 1)), (.op1 (.kind .u8) (.var 2)), (.op1 (.kind .i64) (.var 3)), (.op1 (.kind .i64) (.var 4)), (.op1 (.kind .i64) (.var 5)), (.var 6), (.var 7), (.op1 (.kind .i64) (.var 8)), (.op1 (.kind .i64) (.var 9)), (.op1 (.kind .i64) (.var 10)), (.op1 (.kind .i64) (.var 11)), (.op1 (.kind .i64) (.var 12)), (.op1 (.kind .i64) (.var 13))]))]),
  ([((.app 3 [(.var 0), (.var 1), (.var 2), (.var 3), (.var 4), (.var 5), (.var 6), (.var 7), (.var 8), (.var 9), (.var 10), (.var 11), (.var 12), (.var 13)]), false), ((.app 18 [(.var 6), (.var 7)]), true), ((.op2 .eq (.app 11 [.nil, (.var 0), (.var 1), (.var 2), (.var 3), (.var 4), (.var 5), (.var 6), (.var 7), (.var 8), (.var 9), (.var 10), (.var 11), (.var 12), (.var 13)]) (.num 0)), true)], none)]
theorem rAppNilYes_w (r : Rho) : rAppNilYes_con.fn.ways rAppNilYes_call E0 r rAppNilYes_con.pre rAppNilYes_t = some rAppNilYes_l := by kernel_rfl
theorem rAppNilYes_cok : rAppNilYes_con.Ok Tryz.prog sy := by
  intro r σ w us hsy hρ hpre hrel hins
  obtain ⟨u0, us, rfl, g0, hi⟩ := ins_cons hins
  obtain ⟨u1, us, rfl, g1, hi⟩ := ins_cons hi
  obtain ⟨x, k, rfl, hp⟩ := pap_agg g1
  rw [hρ] at hp
  have a0 := hp.h0
  have a1 := hp.h1
  have a2 := hp.h2
  have a3 := hp.h3
  have a4 := hp.h4
  have a5 := hp.h5
  have a6 := hp.h6
  have a7 := hp.h7
  have a8 := hp.h8
  have a9 := hp.h9
  have a10 := hp.h10
  have a11 := hp.h11
  have a12 := hp.h12
  have a13 := hp.h13
  simp only [Nat.zero_add] at a0 a1 a2 a3 a4 a5 a6 a7 a8 a9 a10 a11 a12 a13

  refine con_of (E := E0) E0_ok E0_glob (sy := sy) (fun F => L11_ok F hsy) (fun F => noH_ok) (rAppNilYes_w r) hρ hpre hrel hins ?_ ?_
  · simp only [rAppNilYes_con, rAppNilYes_t, AsksL, GTree.asks, FTree.asks, FactsIn, List.append_nil, List.nil_append, List.cons_append, Option.some.injEq, exists_eq', implies_true, and_self, X.bool, X.den, denL, d_wrap, d_kind, d_not, d_neg, d_slen, d_add, d_sub, d_mul, d_div, d_mod, d_lt, d_le, d_eq, d_eqb, d_eqs, d_lts, d_cat, d_sat, d_and, d_or, denSub, denIte, asB, len_R, cell_R, lsub_R, a0, a1, a2, a3, a4, a5, a6, a7, a8, a9, a10, a11, a12, a13, hsy, sym3, sym11n, sym18, snoc_R0]
  · simp only [rAppNilYes_l, EndsOk, WaysOk, forall_cons, forall_nil, TgtOk, gpair, FactsIn, hold_cons, hold_nil, Option.some.injEq, Value.bool.injEq, Value.int.injEq, decide_eq_true_eq, decide_eq_false_iff_not, and_true, true_and, and_imp, X.bool, X.den, denL, d_wrap, d_kind, d_not, d_neg, d_slen, d_add, d_sub, d_mul, d_div, d_mod, d_lt, d_le, d_eq, d_eqb, d_eqs, d_lts, d_cat, d_sat, d_and, d_or, denSub, denIte, asB, len_R, cell_R, lsub_R, a0, a1, a2, a3, a4, a5, a6, a7, a8, a9, a10, a11, a12, a13, hsy, sym3, sym11n, sym18, snoc_R0]
    clear hρ hpre hrel hi hp hins g0 g1 a0 a1 a2 a3 a4 a5 a6 a7 a8 a9 a10 a11 a12 a13
    (repeat' apply And.intro) <;> intros <;> first
      | trivial
      | (simp_all; done)
      | (exfalso; simp_all; omega)
end Go.Proofs.YtmhbhkipjjcmlaaGreatDoor.Zs
