/-
  The law AwardMore, for a list of finders and for nil.
-/
import Derived.Test.YtcmbkcebbgigcaaGreatDoorMoLawI
import Derived.KernelRfl
set_option linter.unusedSimpArgs false
set_option linter.unusedVariables false
namespace Go.Proofs.YtcmbkcebbgigcaaGreatDoor.Zs
open Go
theorem orH_ok {E : Env} {ro : Option Nat} {c : Code} {h g : AF → ASt → Option (List Out)} (h1 : CodeOk E ro c h) (h2 : CodeOk E ro c g) : CodeOk E ro c (orH h g) := fun f S outs e => by
  unfold orH at e
  split at e
  · rename_i r hr
    cases e
    exact h1 f S _ hr
  · exact h2 f S outs e
theorem lPLLE_C {ρ : Rho} {r : Rat9} {s : Sal9} {l : List Who} {kr ks : Nat → IntKind} {P : Int} {kp : IntKind} (hr : Rat9At ρ 0 kr r) (hs : Sal9At ρ 9 ks s) (h19 : ρ.val 19 = some (whosR l)) (hsy : ρ.sym = sy) (h21 : ρ.val 21 = some (.int kp P)) (F : List (X × Bool)) : CodeOk (E1.with F ρ) none (.loop (loopAt Tryz.prog 3 0)) (lPLLE_D.hook (E1.with F ρ).facts p_vs) := by
  obtain ⟨r0, r1, r2, r3, r4, r5, r6, r7, r8, r9, r10, r11, r12, r13, r14, r15, r16, r17, r19⟩ := at_all hr hs h19
  refine hook_ok (E₀ := E1) (run := lPLLE_run) (ρ := ρ) (Inv := mo_Inv) (μ := mo_mu) E1_ok lPLLE_ok (fun F r' h => ?_) (fun hp => ?_)
  · exact bodyRun_ok E1_ok (MO0_ok F (h.trans hsy)) fun _ _ => noLoop_ok
  · have hw := hp
    simp only [lPLLE_D, FactsIn, X.bool, X.den, denL, dX, denSub, denIte, asB, dY, r0, r1, r2, r3, r4, r5, r6, r7, r8, r9, r10, r11, r12, r13, r14, r15, r16, r17, r19, h21, hsy, sym20, sym21, sym115, sym116, sym117, sym140, sym141, sym142, sym143, sym144, sym146, Option.some.injEq, Value.bool.injEq, and_true, beq_iff_eq, beq_eq_false_iff_ne, ne_eq, decide_eq_false_iff_not] at hw
    obtain ⟨ha, hb, hP, hla, hlb⟩ := hw
    exact ⟨lPLLE_step hr hs h19 hsy h21 ha hb hP hla hlb, [.int .i64 1], by simp only [p_vs, X.bool, X.den, denL, dX, denSub, denIte, asB, dY], rfl, 1, rfl, by omega, by omega⟩
theorem lPLLN_C {ρ : Rho} {r : Rat9} {s : Sal9} {l : List Who} {kr ks : Nat → IntKind} {P : Int} {kp : IntKind} (hr : Rat9At ρ 0 kr r) (hs : Sal9At ρ 9 ks s) (h19 : ρ.val 19 = some (whosR l)) (hsy : ρ.sym = sy) (h21 : ρ.val 21 = some (.int kp P)) (F : List (X × Bool)) : CodeOk (E1.with F ρ) none (.loop (loopAt Tryz.prog 3 0)) (lPLLN_D.hook (E1.with F ρ).facts p_vs) := by
  obtain ⟨r0, r1, r2, r3, r4, r5, r6, r7, r8, r9, r10, r11, r12, r13, r14, r15, r16, r17, r19⟩ := at_all hr hs h19
  refine hook_ok (E₀ := E1) (run := lPLLN_run) (ρ := ρ) (Inv := mo_Inv) (μ := mo_mu) E1_ok lPLLN_ok (fun F r' h => ?_) (fun hp => ?_)
  · exact bodyRun_ok E1_ok (MO0_ok F (h.trans hsy)) fun _ _ => noLoop_ok
  · have hw := hp
    simp only [lPLLN_D, FactsIn, X.bool, X.den, denL, dX, denSub, denIte, asB, dY, r0, r1, r2, r3, r4, r5, r6, r7, r8, r9, r10, r11, r12, r13, r14, r15, r16, r17, r19, h21, hsy, sym20, sym21, sym115, sym116, sym117, sym140, sym141, sym142, sym143, sym144, sym146, Option.some.injEq, Value.bool.injEq, and_true, beq_iff_eq, beq_eq_false_iff_ne, ne_eq, decide_eq_false_iff_not] at hw
    obtain ⟨ha, hb, hP, hla, hlb⟩ := hw
    exact ⟨lPLLN_step hr hs h19 hsy h21 ha hb hP hla hlb, [.int .i64 1], by simp only [p_vs, X.bool, X.den, denL, dX, denSub, denIte, asB, dY], rfl, 1, rfl, by omega, by omega⟩
theorem lPLLL_C {ρ : Rho} {r : Rat9} {s : Sal9} {l : List Who} {kr ks : Nat → IntKind} {P : Int} {kp : IntKind} (hr : Rat9At ρ 0 kr r) (hs : Sal9At ρ 9 ks s) (h19 : ρ.val 19 = some (whosR l)) (hsy : ρ.sym = sy) (h21 : ρ.val 21 = some (.int kp P)) (F : List (X × Bool)) : CodeOk (E1.with F ρ) none (.loop (loopAt Tryz.prog 3 0)) (lPLLL_D.hook (E1.with F ρ).facts p_vs) := by
  obtain ⟨r0, r1, r2, r3, r4, r5, r6, r7, r8, r9, r10, r11, r12, r13, r14, r15, r16, r17, r19⟩ := at_all hr hs h19
  refine hook_ok (E₀ := E1) (run := lPLLL_run) (ρ := ρ) (Inv := mo_Inv) (μ := mo_mu) E1_ok lPLLL_ok (fun F r' h => ?_) (fun hp => ?_)
  · exact bodyRun_ok E1_ok (MO0_ok F (h.trans hsy)) fun _ _ => noLoop_ok
  · have hw := hp
    simp only [lPLLL_D, FactsIn, X.bool, X.den, denL, dX, denSub, denIte, asB, dY, r0, r1, r2, r3, r4, r5, r6, r7, r8, r9, r10, r11, r12, r13, r14, r15, r16, r17, r19, h21, hsy, sym20, sym21, sym115, sym116, sym117, sym140, sym141, sym142, sym143, sym144, sym146, Option.some.injEq, Value.bool.injEq, and_true, beq_iff_eq, beq_eq_false_iff_ne, ne_eq, decide_eq_false_iff_not] at hw
    obtain ⟨ha, hb, hP, hla, hlb⟩ := hw
    exact ⟨lPLLL_step hr hs h19 hsy h21 ha hb hP hla hlb, [.int .i64 1], by simp only [p_vs, X.bool, X.den, denL, dX, denSub, denIte, asB, dY], rfl, 1, rfl, by omega, by omega⟩
theorem lPLNE_C {ρ : Rho} {r : Rat9} {s : Sal9} {l : List Who} {kr ks : Nat → IntKind} {P : Int} {kp : IntKind} (hr : Rat9At ρ 0 kr r) (hs : Sal9At ρ 9 ks s) (h19 : ρ.val 19 = some (whosR l)) (hsy : ρ.sym = sy) (h21 : ρ.val 21 = some (.int kp P)) (F : List (X × Bool)) : CodeOk (E1.with F ρ) none (.loop (loopAt Tryz.prog 3 0)) (lPLNE_D.hook (E1.with F ρ).facts p_vs) := by
  obtain ⟨r0, r1, r2, r3, r4, r5, r6, r7, r8, r9, r10, r11, r12, r13, r14, r15, r16, r17, r19⟩ := at_all hr hs h19
  refine hook_ok (E₀ := E1) (run := lPLNE_run) (ρ := ρ) (Inv := mo_Inv) (μ := mo_mu) E1_ok lPLNE_ok (fun F r' h => ?_) (fun hp => ?_)
  · exact bodyRun_ok E1_ok (MO0_ok F (h.trans hsy)) fun _ _ => noLoop_ok
  · have hw := hp
    simp only [lPLNE_D, FactsIn, X.bool, X.den, denL, dX, denSub, denIte, asB, dY, r0, r1, r2, r3, r4, r5, r6, r7, r8, r9, r10, r11, r12, r13, r14, r15, r16, r17, r19, h21, hsy, sym20, sym21, sym115, sym116, sym117, sym140, sym141, sym142, sym143, sym144, sym146, Option.some.injEq, Value.bool.injEq, and_true, beq_iff_eq, beq_eq_false_iff_ne, ne_eq, decide_eq_false_iff_not] at hw
    obtain ⟨ha, hb, hP, hla, hlb⟩ := hw
    exact ⟨lPLNE_step hr hs h19 hsy h21 ha hb hP hla hlb, [.int .i64 1], by simp only [p_vs, X.bool, X.den, denL, dX, denSub, denIte, asB, dY], rfl, 1, rfl, by omega, by omega⟩
theorem lPLNN_C {ρ : Rho} {r : Rat9} {s : Sal9} {l : List Who} {kr ks : Nat → IntKind} {P : Int} {kp : IntKind} (hr : Rat9At ρ 0 kr r) (hs : Sal9At ρ 9 ks s) (h19 : ρ.val 19 = some (whosR l)) (hsy : ρ.sym = sy) (h21 : ρ.val 21 = some (.int kp P)) (F : List (X × Bool)) : CodeOk (E1.with F ρ) none (.loop (loopAt Tryz.prog 3 0)) (lPLNN_D.hook (E1.with F ρ).facts p_vs) := by
  obtain ⟨r0, r1, r2, r3, r4, r5, r6, r7, r8, r9, r10, r11, r12, r13, r14, r15, r16, r17, r19⟩ := at_all hr hs h19
  refine hook_ok (E₀ := E1) (run := lPLNN_run) (ρ := ρ) (Inv := mo_Inv) (μ := mo_mu) E1_ok lPLNN_ok (fun F r' h => ?_) (fun hp => ?_)
  · exact bodyRun_ok E1_ok (MO0_ok F (h.trans hsy)) fun _ _ => noLoop_ok
  · have hw := hp
    simp only [lPLNN_D, FactsIn, X.bool, X.den, denL, dX, denSub, denIte, asB, dY, r0, r1, r2, r3, r4, r5, r6, r7, r8, r9, r10, r11, r12, r13, r14, r15, r16, r17, r19, h21, hsy, sym20, sym21, sym115, sym116, sym117, sym140, sym141, sym142, sym143, sym144, sym146, Option.some.injEq, Value.bool.injEq, and_true, beq_iff_eq, beq_eq_false_iff_ne, ne_eq, decide_eq_false_iff_not] at hw
    obtain ⟨ha, hb, hP, hla, hlb⟩ := hw
    exact ⟨lPLNN_step hr hs h19 hsy h21 ha hb hP hla hlb, [.int .i64 1], by simp only [p_vs, X.bool, X.den, denL, dX, denSub, denIte, asB, dY], rfl, 1, rfl, by omega, by omega⟩
theorem lPLNL_C {ρ : Rho} {r : Rat9} {s : Sal9} {l : List Who} {kr ks : Nat → IntKind} {P : Int} {kp : IntKind} (hr : Rat9At ρ 0 kr r) (hs : Sal9At ρ 9 ks s) (h19 : ρ.val 19 = some (whosR l)) (hsy : ρ.sym = sy) (h21 : ρ.val 21 = some (.int kp P)) (F : List (X × Bool)) : CodeOk (E1.with F ρ) none (.loop (loopAt Tryz.prog 3 0)) (lPLNL_D.hook (E1.with F ρ).facts p_vs) := by
  obtain ⟨r0, r1, r2, r3, r4, r5, r6, r7, r8, r9, r10, r11, r12, r13, r14, r15, r16, r17, r19⟩ := at_all hr hs h19
  refine hook_ok (E₀ := E1) (run := lPLNL_run) (ρ := ρ) (Inv := mo_Inv) (μ := mo_mu) E1_ok lPLNL_ok (fun F r' h => ?_) (fun hp => ?_)
  · exact bodyRun_ok E1_ok (MO0_ok F (h.trans hsy)) fun _ _ => noLoop_ok
  · have hw := hp
    simp only [lPLNL_D, FactsIn, X.bool, X.den, denL, dX, denSub, denIte, asB, dY, r0, r1, r2, r3, r4, r5, r6, r7, r8, r9, r10, r11, r12, r13, r14, r15, r16, r17, r19, h21, hsy, sym20, sym21, sym115, sym116, sym117, sym140, sym141, sym142, sym143, sym144, sym146, Option.some.injEq, Value.bool.injEq, and_true, beq_iff_eq, beq_eq_false_iff_ne, ne_eq, decide_eq_false_iff_not] at hw
    obtain ⟨ha, hb, hP, hla, hlb⟩ := hw
    exact ⟨lPLNL_step hr hs h19 hsy h21 ha hb hP hla hlb, [.int .i64 1], by simp only [p_vs, X.bool, X.den, denL, dX, denSub, denIte, asB, dY], rfl, 1, rfl, by omega, by omega⟩
theorem lPNLE_C {ρ : Rho} {r : Rat9} {s : Sal9} {l : List Who} {kr ks : Nat → IntKind} {P : Int} {kp : IntKind} (hr : Rat9At ρ 0 kr r) (hs : Sal9At ρ 9 ks s) (h19 : ρ.val 19 = some (whosR l)) (hsy : ρ.sym = sy) (h21 : ρ.val 21 = some (.int kp P)) (F : List (X × Bool)) : CodeOk (E1.with F ρ) none (.loop (loopAt Tryz.prog 3 0)) (lPNLE_D.hook (E1.with F ρ).facts p_vs) := by
  obtain ⟨r0, r1, r2, r3, r4, r5, r6, r7, r8, r9, r10, r11, r12, r13, r14, r15, r16, r17, r19⟩ := at_all hr hs h19
  refine hook_ok (E₀ := E1) (run := lPNLE_run) (ρ := ρ) (Inv := mo_Inv) (μ := mo_mu) E1_ok lPNLE_ok (fun F r' h => ?_) (fun hp => ?_)
  · exact bodyRun_ok E1_ok (MO0_ok F (h.trans hsy)) fun _ _ => noLoop_ok
  · have hw := hp
    simp only [lPNLE_D, FactsIn, X.bool, X.den, denL, dX, denSub, denIte, asB, dY, r0, r1, r2, r3, r4, r5, r6, r7, r8, r9, r10, r11, r12, r13, r14, r15, r16, r17, r19, h21, hsy, sym20, sym21, sym115, sym116, sym117, sym140, sym141, sym142, sym143, sym144, sym146, Option.some.injEq, Value.bool.injEq, and_true, beq_iff_eq, beq_eq_false_iff_ne, ne_eq, decide_eq_false_iff_not] at hw
    obtain ⟨ha, hb, hP, hla, hlb⟩ := hw
    exact ⟨lPNLE_step hr hs h19 hsy h21 ha hb hP hla hlb, [.int .i64 1], by simp only [p_vs, X.bool, X.den, denL, dX, denSub, denIte, asB, dY], rfl, 1, rfl, by omega, by omega⟩
theorem lPNLN_C {ρ : Rho} {r : Rat9} {s : Sal9} {l : List Who} {kr ks : Nat → IntKind} {P : Int} {kp : IntKind} (hr : Rat9At ρ 0 kr r) (hs : Sal9At ρ 9 ks s) (h19 : ρ.val 19 = some (whosR l)) (hsy : ρ.sym = sy) (h21 : ρ.val 21 = some (.int kp P)) (F : List (X × Bool)) : CodeOk (E1.with F ρ) none (.loop (loopAt Tryz.prog 3 0)) (lPNLN_D.hook (E1.with F ρ).facts p_vs) := by
  obtain ⟨r0, r1, r2, r3, r4, r5, r6, r7, r8, r9, r10, r11, r12, r13, r14, r15, r16, r17, r19⟩ := at_all hr hs h19
  refine hook_ok (E₀ := E1) (run := lPNLN_run) (ρ := ρ) (Inv := mo_Inv) (μ := mo_mu) E1_ok lPNLN_ok (fun F r' h => ?_) (fun hp => ?_)
  · exact bodyRun_ok E1_ok (MO0_ok F (h.trans hsy)) fun _ _ => noLoop_ok
  · have hw := hp
    simp only [lPNLN_D, FactsIn, X.bool, X.den, denL, dX, denSub, denIte, asB, dY, r0, r1, r2, r3, r4, r5, r6, r7, r8, r9, r10, r11, r12, r13, r14, r15, r16, r17, r19, h21, hsy, sym20, sym21, sym115, sym116, sym117, sym140, sym141, sym142, sym143, sym144, sym146, Option.some.injEq, Value.bool.injEq, and_true, beq_iff_eq, beq_eq_false_iff_ne, ne_eq, decide_eq_false_iff_not] at hw
    obtain ⟨ha, hb, hP, hla, hlb⟩ := hw
    exact ⟨lPNLN_step hr hs h19 hsy h21 ha hb hP hla hlb, [.int .i64 1], by simp only [p_vs, X.bool, X.den, denL, dX, denSub, denIte, asB, dY], rfl, 1, rfl, by omega, by omega⟩
theorem lPNLL_C {ρ : Rho} {r : Rat9} {s : Sal9} {l : List Who} {kr ks : Nat → IntKind} {P : Int} {kp : IntKind} (hr : Rat9At ρ 0 kr r) (hs : Sal9At ρ 9 ks s) (h19 : ρ.val 19 = some (whosR l)) (hsy : ρ.sym = sy) (h21 : ρ.val 21 = some (.int kp P)) (F : List (X × Bool)) : CodeOk (E1.with F ρ) none (.loop (loopAt Tryz.prog 3 0)) (lPNLL_D.hook (E1.with F ρ).facts p_vs) := by
  obtain ⟨r0, r1, r2, r3, r4, r5, r6, r7, r8, r9, r10, r11, r12, r13, r14, r15, r16, r17, r19⟩ := at_all hr hs h19
  refine hook_ok (E₀ := E1) (run := lPNLL_run) (ρ := ρ) (Inv := mo_Inv) (μ := mo_mu) E1_ok lPNLL_ok (fun F r' h => ?_) (fun hp => ?_)
  · exact bodyRun_ok E1_ok (MO0_ok F (h.trans hsy)) fun _ _ => noLoop_ok
  · have hw := hp
    simp only [lPNLL_D, FactsIn, X.bool, X.den, denL, dX, denSub, denIte, asB, dY, r0, r1, r2, r3, r4, r5, r6, r7, r8, r9, r10, r11, r12, r13, r14, r15, r16, r17, r19, h21, hsy, sym20, sym21, sym115, sym116, sym117, sym140, sym141, sym142, sym143, sym144, sym146, Option.some.injEq, Value.bool.injEq, and_true, beq_iff_eq, beq_eq_false_iff_ne, ne_eq, decide_eq_false_iff_not] at hw
    obtain ⟨ha, hb, hP, hla, hlb⟩ := hw
    exact ⟨lPNLL_step hr hs h19 hsy h21 ha hb hP hla hlb, [.int .i64 1], by simp only [p_vs, X.bool, X.den, denL, dX, denSub, denIte, asB, dY], rfl, 1, rfl, by omega, by omega⟩
theorem lPNNE_C {ρ : Rho} {r : Rat9} {s : Sal9} {l : List Who} {kr ks : Nat → IntKind} {P : Int} {kp : IntKind} (hr : Rat9At ρ 0 kr r) (hs : Sal9At ρ 9 ks s) (h19 : ρ.val 19 = some (whosR l)) (hsy : ρ.sym = sy) (h21 : ρ.val 21 = some (.int kp P)) (F : List (X × Bool)) : CodeOk (E1.with F ρ) none (.loop (loopAt Tryz.prog 3 0)) (lPNNE_D.hook (E1.with F ρ).facts p_vs) := by
  obtain ⟨r0, r1, r2, r3, r4, r5, r6, r7, r8, r9, r10, r11, r12, r13, r14, r15, r16, r17, r19⟩ := at_all hr hs h19
  refine hook_ok (E₀ := E1) (run := lPNNE_run) (ρ := ρ) (Inv := mo_Inv) (μ := mo_mu) E1_ok lPNNE_ok (fun F r' h => ?_) (fun hp => ?_)
  · exact bodyRun_ok E1_ok (MO0_ok F (h.trans hsy)) fun _ _ => noLoop_ok
  · have hw := hp
    simp only [lPNNE_D, FactsIn, X.bool, X.den, denL, dX, denSub, denIte, asB, dY, r0, r1, r2, r3, r4, r5, r6, r7, r8, r9, r10, r11, r12, r13, r14, r15, r16, r17, r19, h21, hsy, sym20, sym21, sym115, sym116, sym117, sym140, sym141, sym142, sym143, sym144, sym146, Option.some.injEq, Value.bool.injEq, and_true, beq_iff_eq, beq_eq_false_iff_ne, ne_eq, decide_eq_false_iff_not] at hw
    obtain ⟨ha, hb, hP, hla, hlb⟩ := hw
    exact ⟨lPNNE_step hr hs h19 hsy h21 ha hb hP hla hlb, [.int .i64 1], by simp only [p_vs, X.bool, X.den, denL, dX, denSub, denIte, asB, dY], rfl, 1, rfl, by omega, by omega⟩
theorem lPNNN_C {ρ : Rho} {r : Rat9} {s : Sal9} {l : List Who} {kr ks : Nat → IntKind} {P : Int} {kp : IntKind} (hr : Rat9At ρ 0 kr r) (hs : Sal9At ρ 9 ks s) (h19 : ρ.val 19 = some (whosR l)) (hsy : ρ.sym = sy) (h21 : ρ.val 21 = some (.int kp P)) (F : List (X × Bool)) : CodeOk (E1.with F ρ) none (.loop (loopAt Tryz.prog 3 0)) (lPNNN_D.hook (E1.with F ρ).facts p_vs) := by
  obtain ⟨r0, r1, r2, r3, r4, r5, r6, r7, r8, r9, r10, r11, r12, r13, r14, r15, r16, r17, r19⟩ := at_all hr hs h19
  refine hook_ok (E₀ := E1) (run := lPNNN_run) (ρ := ρ) (Inv := mo_Inv) (μ := mo_mu) E1_ok lPNNN_ok (fun F r' h => ?_) (fun hp => ?_)
  · exact bodyRun_ok E1_ok (MO0_ok F (h.trans hsy)) fun _ _ => noLoop_ok
  · have hw := hp
    simp only [lPNNN_D, FactsIn, X.bool, X.den, denL, dX, denSub, denIte, asB, dY, r0, r1, r2, r3, r4, r5, r6, r7, r8, r9, r10, r11, r12, r13, r14, r15, r16, r17, r19, h21, hsy, sym20, sym21, sym115, sym116, sym117, sym140, sym141, sym142, sym143, sym144, sym146, Option.some.injEq, Value.bool.injEq, and_true, beq_iff_eq, beq_eq_false_iff_ne, ne_eq, decide_eq_false_iff_not] at hw
    obtain ⟨ha, hb, hP, hla, hlb⟩ := hw
    exact ⟨lPNNN_step hr hs h19 hsy h21 ha hb hP hla hlb, [.int .i64 1], by simp only [p_vs, X.bool, X.den, denL, dX, denSub, denIte, asB, dY], rfl, 1, rfl, by omega, by omega⟩
theorem lPNNL_C {ρ : Rho} {r : Rat9} {s : Sal9} {l : List Who} {kr ks : Nat → IntKind} {P : Int} {kp : IntKind} (hr : Rat9At ρ 0 kr r) (hs : Sal9At ρ 9 ks s) (h19 : ρ.val 19 = some (whosR l)) (hsy : ρ.sym = sy) (h21 : ρ.val 21 = some (.int kp P)) (F : List (X × Bool)) : CodeOk (E1.with F ρ) none (.loop (loopAt Tryz.prog 3 0)) (lPNNL_D.hook (E1.with F ρ).facts p_vs) := by
  obtain ⟨r0, r1, r2, r3, r4, r5, r6, r7, r8, r9, r10, r11, r12, r13, r14, r15, r16, r17, r19⟩ := at_all hr hs h19
  refine hook_ok (E₀ := E1) (run := lPNNL_run) (ρ := ρ) (Inv := mo_Inv) (μ := mo_mu) E1_ok lPNNL_ok (fun F r' h => ?_) (fun hp => ?_)
  · exact bodyRun_ok E1_ok (MO0_ok F (h.trans hsy)) fun _ _ => noLoop_ok
  · have hw := hp
    simp only [lPNNL_D, FactsIn, X.bool, X.den, denL, dX, denSub, denIte, asB, dY, r0, r1, r2, r3, r4, r5, r6, r7, r8, r9, r10, r11, r12, r13, r14, r15, r16, r17, r19, h21, hsy, sym20, sym21, sym115, sym116, sym117, sym140, sym141, sym142, sym143, sym144, sym146, Option.some.injEq, Value.bool.injEq, and_true, beq_iff_eq, beq_eq_false_iff_ne, ne_eq, decide_eq_false_iff_not] at hw
    obtain ⟨ha, hb, hP, hla, hlb⟩ := hw
    exact ⟨lPNNL_step hr hs h19 hsy h21 ha hb hP hla hlb, [.int .i64 1], by simp only [p_vs, X.bool, X.den, denL, dX, denSub, denIte, asB, dY], rfl, 1, rfl, by omega, by omega⟩
theorem mo_H {ρ : Rho} {r : Rat9} {s : Sal9} {l : List Who} {kr ks : Nat → IntKind} {P : Int} {kp : IntKind} (hr : Rat9At ρ 0 kr r) (hs : Sal9At ρ 9 ks s) (h19 : ρ.val 19 = some (whosR l)) (hsy : ρ.sym = sy) (h21 : ρ.val 21 = some (.int kp P)) (F : List (X × Bool)) : LoopsOk (E1.with F ρ) ((fun E => oneH 3 (hooks [(14, orH (orH (orH (orH (orH (orH (orH (orH (orH (orH (orH (lPLLE_D.hook E.facts p_vs) (lPLLN_D.hook E.facts p_vs)) (lPLLL_D.hook E.facts p_vs)) (lPLNE_D.hook E.facts p_vs)) (lPLNN_D.hook E.facts p_vs)) (lPLNL_D.hook E.facts p_vs)) (lPNLE_D.hook E.facts p_vs)) (lPNLN_D.hook E.facts p_vs)) (lPNLL_D.hook E.facts p_vs)) (lPNNE_D.hook E.facts p_vs)) (lPNNN_D.hook E.facts p_vs)) (lPNNL_D.hook E.facts p_vs))])) (E1.with F ρ)) := by
  refine loops_all (n := 1) (fun f fn h => h) (by kernel_rfl) fun i hi => ?_
  obtain rfl : i = 0 := by omega
  rw [hooks_hit (show keyOf (loopAt (E1.with F ρ).P 3 0) = 14 by kernel_rfl)]
  exact orH_ok (orH_ok (orH_ok (orH_ok (orH_ok (orH_ok (orH_ok (orH_ok (orH_ok (orH_ok (orH_ok (lPLLE_C hr hs h19 hsy h21 F) (lPLLN_C hr hs h19 hsy h21 F)) (lPLLL_C hr hs h19 hsy h21 F)) (lPLNE_C hr hs h19 hsy h21 F)) (lPLNN_C hr hs h19 hsy h21 F)) (lPLNL_C hr hs h19 hsy h21 F)) (lPNLE_C hr hs h19 hsy h21 F)) (lPNLN_C hr hs h19 hsy h21 F)) (lPNLL_C hr hs h19 hsy h21 F)) (lPNNE_C hr hs h19 hsy h21 F)) (lPNNN_C hr hs h19 hsy h21 F)) (lPNNL_C hr hs h19 hsy h21 F)
noncomputable def mo_fn : FnD := { f := 3, args := argsAV [.agg [.int .i64 0, .int .i64 1, .int .i64 2, .str 3, .int .i64 4, .int .i64 5, .int .i64 6, .int .i64 7, .int .i64 8], .agg [.int .i64 9, .int .i64 10, .int .i64 11, .int .i64 12, .int .i64 13, .int .i64 14, .int .i64 15, .int .i64 16, .int .i64 17], whosArg 60 18, .one (.int .i64 21), .agg [.int .i64 22, .int .i64 23]], heap := hRoot ++ argsBlk [.agg [.int .i64 0, .int .i64 1, .int .i64 2, .str 3, .int .i64 4, .int .i64 5, .int .i64 6, .int .i64 7, .int .i64 8], .agg [.int .i64 9, .int .i64 10, .int .i64 11, .int .i64 12, .int .i64 13, .int .i64 14, .int .i64 15, .int .i64 16, .int .i64 17], whosArg 60 18, .one (.int .i64 21), .agg [.int .i64 22, .int .i64 23]], N := 100, M := 100, out := .sbool (.boo true), news := [] }
noncomputable def mo_call : Env → CallL := fun E => acallAll E (evH E (MO E) ((fun E => oneH 3 (hooks [(14, orH (orH (orH (orH (orH (orH (orH (orH (orH (orH (orH (lPLLE_D.hook E.facts p_vs) (lPLLN_D.hook E.facts p_vs)) (lPLLL_D.hook E.facts p_vs)) (lPLNE_D.hook E.facts p_vs)) (lPLNN_D.hook E.facts p_vs)) (lPLNL_D.hook E.facts p_vs)) (lPNLE_D.hook E.facts p_vs)) (lPNLN_D.hook E.facts p_vs)) (lPNLL_D.hook E.facts p_vs)) (lPNNE_D.hook E.facts p_vs)) (lPNNN_D.hook E.facts p_vs)) (lPNNL_D.hook E.facts p_vs))])) E) 9)
noncomputable def mo_pre : List (X × Bool) := []
def qg0 : X := .app 146 [(.var 0), (.var 1), (.var 2), (.var 3), (.var 22), (.var 23), (.var 6), (.var 7), (.var 8), (.var 9), (.var 10), (.var 11), (.var 12), (.var 13), (.var 14), (.var 15), (.var 16), (.var 17), (.var 19)]
def qg1 : X := .app 146 [(.var 0), (.var 1), (.var 2), (.var 3), (.var 4), (.var 5), (.var 6), (.var 7), (.var 8), (.var 9), (.var 10), (.var 11), (.var 12), (.var 21), (.var 14), (.var 15), (.var 16), (.var 17), (.var 19)]
def qg2 : X := .app 146 [(.var 0), (.var 1), (.var 2), (.var 3), (.var 4), (.var 5), (.var 6), (.var 7), (.var 8), (.var 9), (.var 10), (.var 11), (.var 12), (.var 13), (.var 14), (.var 15), (.var 16), (.var 17), (.var 19)]
def qg3 : X := .op2 .eq (.op1 .len (.app 117 [(.app 144 [(.var 6), (.var 7), (.var 4), (.var 5), (.var 13), (.var 11), (.var 14), (.var 15), (.var 16), (.var 19)])])) (.num 0)
def qg4 : X := .op2 .lt (.app 143 [(.var 6), (.var 7), (.var 4), (.var 5), (.var 21), (.var 11), (.var 14), (.var 15), (.var 16)]) (.app 143 [(.var 6), (.var 7), (.var 4), (.var 5), (.var 13), (.var 11), (.var 14), (.var 15), (.var 16)])
def qg5 : X := .op2 .eq (.op1 .len (.app 117 [(.app 144 [(.var 6), (.var 7), (.var 4), (.var 5), (.var 21), (.var 11), (.var 14), (.var 15), (.var 16), (.var 19)])])) (.num 0)
def qg6 : X := .op2 .eq (.op1 .len (.app 117 [(.app 144 [(.var 6), (.var 7), (.var 22), (.var 23), (.var 13), (.var 11), (.var 14), (.var 15), (.var 16), (.var 19)])])) (.num 0)
def qg7 : X := .op2 .lt (.app 140 [(.var 6), (.var 7), (.var 4), (.var 5), (.var 21), (.var 11), (.var 14), (.var 15), (.var 16)]) (.app 140 [(.var 6), (.var 7), (.var 4), (.var 5), (.var 13), (.var 11), (.var 14), (.var 15), (.var 16)])
def qg8 : X := .op2 .lt (.app 143 [(.var 6), (.var 7), (.var 4), (.var 5), (.var 13), (.var 11), (.var 14), (.var 15), (.var 16)]) (.app 143 [(.var 6), (.var 7), (.var 22), (.var 23), (.var 13), (.var 11), (.var 14), (.var 15), (.var 16)])
def qg9 : X := .op2 .lt (.app 141 [(.var 6), (.var 7), (.var 4), (.var 5), (.var 21), (.var 11), (.var 14), (.var 15), (.var 16)]) (.app 141 [(.var 6), (.var 7), (.var 4), (.var 5), (.var 13), (.var 11), (.var 14), (.var 15), (.var 16)])
def qg10 : X := .op2 .lt (.app 142 [(.var 6), (.var 7), (.var 22), (.var 23), (.var 13), (.var 11), (.var 14), (.var 15), (.var 16)]) (.app 142 [(.var 6), (.var 7), (.var 4), (.var 5), (.var 13), (.var 11), (.var 14), (.var 15), (.var 16)])
def qg11 : X := .op2 .lt (.app 142 [(.var 6), (.var 7), (.var 4), (.var 5), (.var 21), (.var 11), (.var 14), (.var 15), (.var 16)]) (.app 142 [(.var 6), (.var 7), (.var 4), (.var 5), (.var 13), (.var 11), (.var 14), (.var 15), (.var 16)])
def qg12 : X := .op2 .lt (.op1 (.wrap .i64) (.op2 .mul (.var 22) (.var 5))) (.op1 (.wrap .i64) (.op2 .mul (.var 4) (.var 23)))
def qg13 : X := .op2 .lt (.num 100) (.op1 .slen (.var 3))
def qg14 : X := .op2 .lt (.num 60) (.op1 .len (.var 19))
def qg15 : X := .op2 .lt (.var 21) (.var 13)
def qg16 : X := .app 20 [(.var 19)]
def qg17 : X := .op2 .eq (.ite (.app 130 [(.var 0), (.var 1), (.var 2), (.var 3), (.var 4), (.var 5), (.var 6), (.var 7), (.var 8)]) (.num 0) (.num 1)) (.num 0)
def qg18 : X := .op2 .eq (.ite (.app 131 [(.var 9), (.var 10), (.var 11), (.var 12), (.var 13), (.var 14), (.var 15), (.var 16), (.var 17)]) (.num 0) (.num 1)) (.num 0)
def qg19 : X := .op2 .eq (.var 8) (.num 0)
def qg20 : X := .op2 .eq (.var 17) (.num 0)
def qg21 : X := .op2 .eq (.var 15) (.num 0)
noncomputable def mo_t : GTree := (.fork qg13 (.leaf [[]]) (.fork qg14 (.leaf [[]]) (.fork qg16 (.fork qg2 (.fork qg3 (.fork qg1 (.fork qg5 (.fork qg0 (.fork qg6 (.fork qg15 (.fork qg12 (.leaf [[]]) (.fork qg8 .bad (.fork qg10 .bad (.leaf [[]])))) (.fork qg4 .bad (.fork qg7 .bad (.fork qg9 .bad (.fork qg11 .bad (.fork qg12 (.leaf [[]]) (.fork qg8 .bad (.fork qg10 .bad (.leaf [[]]))))))))) (.fork qg15 (.fork qg12 (.leaf [[]]) (.fork qg8 .bad (.fork qg10 .bad (.leaf [[]])))) (.fork qg4 .bad (.fork qg7 .bad (.fork qg9 .bad (.fork qg11 .bad (.fork qg12 (.leaf [[]]) (.fork qg8 .bad (.fork qg10 .bad (.leaf [[]])))))))))) (.fork qg15 (.leaf [[]]) (.fork qg4 .bad (.fork qg7 .bad (.fork qg9 .bad (.fork qg11 .bad (.leaf [[]]))))))) (.fork qg0 (.fork qg6 (.fork qg15 (.fork qg12 (.leaf [[]]) (.fork qg8 .bad (.fork qg10 .bad (.leaf [[]])))) (.fork qg4 .bad (.fork qg7 .bad (.fork qg9 .bad (.fork qg11 .bad (.fork qg12 (.leaf [[]]) (.fork qg8 .bad (.fork qg10 .bad (.leaf [[]]))))))))) (.fork qg15 (.fork qg12 (.leaf [[]]) (.fork qg8 .bad (.fork qg10 .bad (.leaf [[]])))) (.fork qg4 .bad (.fork qg7 .bad (.fork qg9 .bad (.fork qg11 .bad (.fork qg12 (.leaf [[]]) (.fork qg8 .bad (.fork qg10 .bad (.leaf [[]])))))))))) (.fork qg15 (.leaf [[]]) (.fork qg4 .bad (.fork qg7 .bad (.fork qg9 .bad (.fork qg11 .bad (.leaf [[]])))))))) (.fork qg0 (.fork qg6 (.fork qg12 (.leaf [[]]) (.fork qg8 .bad (.fork qg10 .bad (.leaf [[]])))) (.fork qg12 (.leaf [[]]) (.fork qg8 .bad (.fork qg10 .bad (.leaf [[]]))))) (.leaf [[]]))) (.fork qg1 (.fork qg5 (.fork qg0 (.fork qg6 (.fork qg15 (.fork qg12 (.leaf [[]]) (.fork qg8 .bad (.fork qg10 .bad (.leaf [[]])))) (.fork qg4 .bad (.fork qg7 .bad (.fork qg9 .bad (.fork qg11 .bad (.fork qg12 (.leaf [[]]) (.fork qg8 .bad (.fork qg10 .bad (.leaf [[]]))))))))) (.fork qg15 (.fork qg12 (.leaf [[]]) (.fork qg8 .bad (.fork qg10 .bad (.leaf [[]])))) (.fork qg4 .bad (.fork qg7 .bad (.fork qg9 .bad (.fork qg11 .bad (.fork qg12 (.leaf [[]]) (.fork qg8 .bad (.fork qg10 .bad (.leaf [[]])))))))))) (.fork qg15 (.leaf [[]]) (.fork qg4 .bad (.fork qg7 .bad (.fork qg9 .bad (.fork qg11 .bad (.leaf [[]]))))))) (.fork qg0 (.fork qg6 (.fork qg15 (.fork qg12 (.leaf [[]]) (.fork qg8 .bad (.fork qg10 .bad (.leaf [[]])))) (.fork qg4 .bad (.fork qg7 .bad (.fork qg9 .bad (.fork qg11 .bad (.fork qg12 (.leaf [[]]) (.fork qg8 .bad (.fork qg10 .bad (.leaf [[]]))))))))) (.fork qg15 (.fork qg12 (.leaf [[]]) (.fork qg8 .bad (.fork qg10 .bad (.leaf [[]])))) (.fork qg4 .bad (.fork qg7 .bad (.fork qg9 .bad (.fork qg11 .bad (.fork qg12 (.leaf [[]]) (.fork qg8 .bad (.fork qg10 .bad (.leaf [[]])))))))))) (.fork qg15 (.leaf [[]]) (.fork qg4 .bad (.fork qg7 .bad (.fork qg9 .bad (.fork qg11 .bad (.leaf [[]])))))))) (.fork qg0 (.fork qg6 (.fork qg12 (.leaf [[]]) (.fork qg8 .bad (.fork qg10 .bad (.leaf [[]])))) (.fork qg12 (.leaf [[]]) (.fork qg8 .bad (.fork qg10 .bad (.leaf [[]]))))) (.leaf [[]])))) (.fork qg1 (.fork qg5 (.fork qg0 (.fork qg6 (.leaf [[]]) (.leaf [[]])) (.leaf [[]])) (.fork qg0 (.fork qg6 (.leaf [[]]) (.leaf [[]])) (.leaf [[]]))) (.fork qg0 (.fork qg6 (.leaf [[]]) (.leaf [[]])) (.leaf [[]])))) .bad)))
noncomputable def mo_l : List (List (X × Bool) × Option Pairs) := [([(qg13, true)], some []),
  ([(qg14, true), (qg13, false)], some []),
  ([(qg12, true), (qg15, true), (qg6, true), (qg0, true), (qg5, true), (qg1, true), (qg3, true), (qg2, true), (qg16, true), (qg14, false), (qg13, false)], some []),
  ([(qg8, true), (qg12, false), (qg15, true), (qg6, true), (qg0, true), (qg5, true), (qg1, true), (qg3, true), (qg2, true), (qg16, true), (qg14, false), (qg13, false)], none),
  ([(qg10, true), (qg8, false), (qg12, false), (qg15, true), (qg6, true), (qg0, true), (qg5, true), (qg1, true), (qg3, true), (qg2, true), (qg16, true), (qg14, false), (qg13, false)], none),
  ([(qg10, false), (qg8, false), (qg12, false), (qg15, true), (qg6, true), (qg0, true), (qg5, true), (qg1, true), (qg3, true), (qg2, true), (qg16, true), (qg14, false), (qg13, false)], some []),
  ([(qg4, true), (qg15, false), (qg6, true), (qg0, true), (qg5, true), (qg1, true), (qg3, true), (qg2, true), (qg16, true), (qg14, false), (qg13, false)], none),
  ([(qg7, true), (qg4, false), (qg15, false), (qg6, true), (qg0, true), (qg5, true), (qg1, true), (qg3, true), (qg2, true), (qg16, true), (qg14, false), (qg13, false)], none),
  ([(qg9, true), (qg7, false), (qg4, false), (qg15, false), (qg6, true), (qg0, true), (qg5, true), (qg1, true), (qg3, true), (qg2, true), (qg16, true), (qg14, false), (qg13, false)], none),
  ([(qg11, true), (qg9, false), (qg7, false), (qg4, false), (qg15, false), (qg6, true), (qg0, true), (qg5, true), (qg1, true), (qg3, true), (qg2, true), (qg16, true), (qg14, false), (qg13, false)], none),
  ([(qg12, true), (qg11, false), (qg9, false), (qg7, false), (qg4, false), (qg15, false), (qg6, true), (qg0, true), (qg5, true), (qg1, true), (qg3, true), (qg2, true), (qg16, true), (qg14, false), (qg13, false)], some []),
  ([(qg8, true), (qg12, false), (qg11, false), (qg9, false), (qg7, false), (qg4, false), (qg15, false), (qg6, true), (qg0, true), (qg5, true), (qg1, true), (qg3, true), (qg2, true), (qg16, true), (qg14, false), (qg13, false)], none),
  ([(qg10, true), (qg8, false), (qg12, false), (qg11, false), (qg9, false), (qg7, false), (qg4, false), (qg15, false), (qg6, true), (qg0, true), (qg5, true), (qg1, true), (qg3, true), (qg2, true), (qg16, true), (qg14, false), (qg13, false)], none),
  ([(qg10, false), (qg8, false), (qg12, false), (qg11, false), (qg9, false), (qg7, false), (qg4, false), (qg15, false), (qg6, true), (qg0, true), (qg5, true), (qg1, true), (qg3, true), (qg2, true), (qg16, true), (qg14, false), (qg13, false)], some []),
  ([(qg12, true), (qg15, true), (qg6, false), (qg0, true), (qg5, true), (qg1, true), (qg3, true), (qg2, true), (qg16, true), (qg14, false), (qg13, false)], some []),
  ([(qg8, true), (qg12, false), (qg15, true), (qg6, false), (qg0, true), (qg5, true), (qg1, true), (qg3, true), (qg2, true), (qg16, true), (qg14, false), (qg13, false)], none),
  ([(qg10, true), (qg8, false), (qg12, false), (qg15, true), (qg6, false), (qg0, true), (qg5, true), (qg1, true), (qg3, true), (qg2, true), (qg16, true), (qg14, false), (qg13, false)], none),
  ([(qg10, false), (qg8, false), (qg12, false), (qg15, true), (qg6, false), (qg0, true), (qg5, true), (qg1, true), (qg3, true), (qg2, true), (qg16, true), (qg14, false), (qg13, false)], some []),
  ([(qg4, true), (qg15, false), (qg6, false), (qg0, true), (qg5, true), (qg1, true), (qg3, true), (qg2, true), (qg16, true), (qg14, false), (qg13, false)], none),
  ([(qg7, true), (qg4, false), (qg15, false), (qg6, false), (qg0, true), (qg5, true), (qg1, true), (qg3, true), (qg2, true), (qg16, true), (qg14, false), (qg13, false)], none),
  ([(qg9, true), (qg7, false), (qg4, false), (qg15, false), (qg6, false), (qg0, true), (qg5, true), (qg1, true), (qg3, true), (qg2, true), (qg16, true), (qg14, false), (qg13, false)], none),
  ([(qg11, true), (qg9, false), (qg7, false), (qg4, false), (qg15, false), (qg6, false), (qg0, true), (qg5, true), (qg1, true), (qg3, true), (qg2, true), (qg16, true), (qg14, false), (qg13, false)], none),
  ([(qg12, true), (qg11, false), (qg9, false), (qg7, false), (qg4, false), (qg15, false), (qg6, false), (qg0, true), (qg5, true), (qg1, true), (qg3, true), (qg2, true), (qg16, true), (qg14, false), (qg13, false)], some []),
  ([(qg8, true), (qg12, false), (qg11, false), (qg9, false), (qg7, false), (qg4, false), (qg15, false), (qg6, false), (qg0, true), (qg5, true), (qg1, true), (qg3, true), (qg2, true), (qg16, true), (qg14, false), (qg13, false)], none),
  ([(qg10, true), (qg8, false), (qg12, false), (qg11, false), (qg9, false), (qg7, false), (qg4, false), (qg15, false), (qg6, false), (qg0, true), (qg5, true), (qg1, true), (qg3, true), (qg2, true), (qg16, true), (qg14, false), (qg13, false)], none),
  ([(qg10, false), (qg8, false), (qg12, false), (qg11, false), (qg9, false), (qg7, false), (qg4, false), (qg15, false), (qg6, false), (qg0, true), (qg5, true), (qg1, true), (qg3, true), (qg2, true), (qg16, true), (qg14, false), (qg13, false)], some []),
  ([(qg15, true), (qg0, false), (qg5, true), (qg1, true), (qg3, true), (qg2, true), (qg16, true), (qg14, false), (qg13, false)], some []),
  ([(qg4, true), (qg15, false), (qg0, false), (qg5, true), (qg1, true), (qg3, true), (qg2, true), (qg16, true), (qg14, false), (qg13, false)], none),
  ([(qg7, true), (qg4, false), (qg15, false), (qg0, false), (qg5, true), (qg1, true), (qg3, true), (qg2, true), (qg16, true), (qg14, false), (qg13, false)], none),
  ([(qg9, true), (qg7, false), (qg4, false), (qg15, false), (qg0, false), (qg5, true), (qg1, true), (qg3, true), (qg2, true), (qg16, true), (qg14, false), (qg13, false)], none),
  ([(qg11, true), (qg9, false), (qg7, false), (qg4, false), (qg15, false), (qg0, false), (qg5, true), (qg1, true), (qg3, true), (qg2, true), (qg16, true), (qg14, false), (qg13, false)], none),
  ([(qg11, false), (qg9, false), (qg7, false), (qg4, false), (qg15, false), (qg0, false), (qg5, true), (qg1, true), (qg3, true), (qg2, true), (qg16, true), (qg14, false), (qg13, false)], some []),
  ([(qg12, true), (qg15, true), (qg6, true), (qg0, true), (qg5, false), (qg1, true), (qg3, true), (qg2, true), (qg16, true), (qg14, false), (qg13, false)], some []),
  ([(qg8, true), (qg12, false), (qg15, true), (qg6, true), (qg0, true), (qg5, false), (qg1, true), (qg3, true), (qg2, true), (qg16, true), (qg14, false), (qg13, false)], none),
  ([(qg10, true), (qg8, false), (qg12, false), (qg15, true), (qg6, true), (qg0, true), (qg5, false), (qg1, true), (qg3, true), (qg2, true), (qg16, true), (qg14, false), (qg13, false)], none),
  ([(qg10, false), (qg8, false), (qg12, false), (qg15, true), (qg6, true), (qg0, true), (qg5, false), (qg1, true), (qg3, true), (qg2, true), (qg16, true), (qg14, false), (qg13, false)], some []),
  ([(qg4, true), (qg15, false), (qg6, true), (qg0, true), (qg5, false), (qg1, true), (qg3, true), (qg2, true), (qg16, true), (qg14, false), (qg13, false)], none),
  ([(qg7, true), (qg4, false), (qg15, false), (qg6, true), (qg0, true), (qg5, false), (qg1, true), (qg3, true), (qg2, true), (qg16, true), (qg14, false), (qg13, false)], none),
  ([(qg9, true), (qg7, false), (qg4, false), (qg15, false), (qg6, true), (qg0, true), (qg5, false), (qg1, true), (qg3, true), (qg2, true), (qg16, true), (qg14, false), (qg13, false)], none),
  ([(qg11, true), (qg9, false), (qg7, false), (qg4, false), (qg15, false), (qg6, true), (qg0, true), (qg5, false), (qg1, true), (qg3, true), (qg2, true), (qg16, true), (qg14, false), (qg13, false)], none),
  ([(qg12, true), (qg11, false), (qg9, false), (qg7, false), (qg4, false), (qg15, false), (qg6, true), (qg0, true), (qg5, false), (qg1, true), (qg3, true), (qg2, true), (qg16, true), (qg14, false), (qg13, false)], some []),
  ([(qg8, true), (qg12, false), (qg11, false), (qg9, false), (qg7, false), (qg4, false), (qg15, false), (qg6, true), (qg0, true), (qg5, false), (qg1, true), (qg3, true), (qg2, true), (qg16, true), (qg14, false), (qg13, false)], none),
  ([(qg10, true), (qg8, false), (qg12, false), (qg11, false), (qg9, false), (qg7, false), (qg4, false), (qg15, false), (qg6, true), (qg0, true), (qg5, false), (qg1, true), (qg3, true), (qg2, true), (qg16, true), (qg14, false), (qg13, false)], none),
  ([(qg10, false), (qg8, false), (qg12, false), (qg11, false), (qg9, false), (qg7, false), (qg4, false), (qg15, false), (qg6, true), (qg0, true), (qg5, false), (qg1, true), (qg3, true), (qg2, true), (qg16, true), (qg14, false), (qg13, false)], some []),
  ([(qg12, true), (qg15, true), (qg6, false), (qg0, true), (qg5, false), (qg1, true), (qg3, true), (qg2, true), (qg16, true), (qg14, false), (qg13, false)], some []),
  ([(qg8, true), (qg12, false), (qg15, true), (qg6, false), (qg0, true), (qg5, false), (qg1, true), (qg3, true), (qg2, true), (qg16, true), (qg14, false), (qg13, false)], none),
  ([(qg10, true), (qg8, false), (qg12, false), (qg15, true), (qg6, false), (qg0, true), (qg5, false), (qg1, true), (qg3, true), (qg2, true), (qg16, true), (qg14, false), (qg13, false)], none),
  ([(qg10, false), (qg8, false), (qg12, false), (qg15, true), (qg6, false), (qg0, true), (qg5, false), (qg1, true), (qg3, true), (qg2, true), (qg16, true), (qg14, false), (qg13, false)], some []),
  ([(qg4, true), (qg15, false), (qg6, false), (qg0, true), (qg5, false), (qg1, true), (qg3, true), (qg2, true), (qg16, true), (qg14, false), (qg13, false)], none),
  ([(qg7, true), (qg4, false), (qg15, false), (qg6, false), (qg0, true), (qg5, false), (qg1, true), (qg3, true), (qg2, true), (qg16, true), (qg14, false), (qg13, false)], none),
  ([(qg9, true), (qg7, false), (qg4, false), (qg15, false), (qg6, false), (qg0, true), (qg5, false), (qg1, true), (qg3, true), (qg2, true), (qg16, true), (qg14, false), (qg13, false)], none),
  ([(qg11, true), (qg9, false), (qg7, false), (qg4, false), (qg15, false), (qg6, false), (qg0, true), (qg5, false), (qg1, true), (qg3, true), (qg2, true), (qg16, true), (qg14, false), (qg13, false)], none),
  ([(qg12, true), (qg11, false), (qg9, false), (qg7, false), (qg4, false), (qg15, false), (qg6, false), (qg0, true), (qg5, false), (qg1, true), (qg3, true), (qg2, true), (qg16, true), (qg14, false), (qg13, false)], some []),
  ([(qg8, true), (qg12, false), (qg11, false), (qg9, false), (qg7, false), (qg4, false), (qg15, false), (qg6, false), (qg0, true), (qg5, false), (qg1, true), (qg3, true), (qg2, true), (qg16, true), (qg14, false), (qg13, false)], none),
  ([(qg10, true), (qg8, false), (qg12, false), (qg11, false), (qg9, false), (qg7, false), (qg4, false), (qg15, false), (qg6, false), (qg0, true), (qg5, false), (qg1, true), (qg3, true), (qg2, true), (qg16, true), (qg14, false), (qg13, false)], none),
  ([(qg10, false), (qg8, false), (qg12, false), (qg11, false), (qg9, false), (qg7, false), (qg4, false), (qg15, false), (qg6, false), (qg0, true), (qg5, false), (qg1, true), (qg3, true), (qg2, true), (qg16, true), (qg14, false), (qg13, false)], some []),
  ([(qg15, true), (qg0, false), (qg5, false), (qg1, true), (qg3, true), (qg2, true), (qg16, true), (qg14, false), (qg13, false)], some []),
  ([(qg4, true), (qg15, false), (qg0, false), (qg5, false), (qg1, true), (qg3, true), (qg2, true), (qg16, true), (qg14, false), (qg13, false)], none),
  ([(qg7, true), (qg4, false), (qg15, false), (qg0, false), (qg5, false), (qg1, true), (qg3, true), (qg2, true), (qg16, true), (qg14, false), (qg13, false)], none),
  ([(qg9, true), (qg7, false), (qg4, false), (qg15, false), (qg0, false), (qg5, false), (qg1, true), (qg3, true), (qg2, true), (qg16, true), (qg14, false), (qg13, false)], none),
  ([(qg11, true), (qg9, false), (qg7, false), (qg4, false), (qg15, false), (qg0, false), (qg5, false), (qg1, true), (qg3, true), (qg2, true), (qg16, true), (qg14, false), (qg13, false)], none),
  ([(qg11, false), (qg9, false), (qg7, false), (qg4, false), (qg15, false), (qg0, false), (qg5, false), (qg1, true), (qg3, true), (qg2, true), (qg16, true), (qg14, false), (qg13, false)], some []),
  ([(qg12, true), (qg6, true), (qg0, true), (qg1, false), (qg3, true), (qg2, true), (qg16, true), (qg14, false), (qg13, false)], some []),
  ([(qg8, true), (qg12, false), (qg6, true), (qg0, true), (qg1, false), (qg3, true), (qg2, true), (qg16, true), (qg14, false), (qg13, false)], none),
  ([(qg10, true), (qg8, false), (qg12, false), (qg6, true), (qg0, true), (qg1, false), (qg3, true), (qg2, true), (qg16, true), (qg14, false), (qg13, false)], none),
  ([(qg10, false), (qg8, false), (qg12, false), (qg6, true), (qg0, true), (qg1, false), (qg3, true), (qg2, true), (qg16, true), (qg14, false), (qg13, false)], some []),
  ([(qg12, true), (qg6, false), (qg0, true), (qg1, false), (qg3, true), (qg2, true), (qg16, true), (qg14, false), (qg13, false)], some []),
  ([(qg8, true), (qg12, false), (qg6, false), (qg0, true), (qg1, false), (qg3, true), (qg2, true), (qg16, true), (qg14, false), (qg13, false)], none),
  ([(qg10, true), (qg8, false), (qg12, false), (qg6, false), (qg0, true), (qg1, false), (qg3, true), (qg2, true), (qg16, true), (qg14, false), (qg13, false)], none),
  ([(qg10, false), (qg8, false), (qg12, false), (qg6, false), (qg0, true), (qg1, false), (qg3, true), (qg2, true), (qg16, true), (qg14, false), (qg13, false)], some []),
  ([(qg0, false), (qg1, false), (qg3, true), (qg2, true), (qg16, true), (qg14, false), (qg13, false)], some []),
  ([(qg12, true), (qg15, true), (qg6, true), (qg0, true), (qg5, true), (qg1, true), (qg3, false), (qg2, true), (qg16, true), (qg14, false), (qg13, false)], some []),
  ([(qg8, true), (qg12, false), (qg15, true), (qg6, true), (qg0, true), (qg5, true), (qg1, true), (qg3, false), (qg2, true), (qg16, true), (qg14, false), (qg13, false)], none),
  ([(qg10, true), (qg8, false), (qg12, false), (qg15, true), (qg6, true), (qg0, true), (qg5, true), (qg1, true), (qg3, false), (qg2, true), (qg16, true), (qg14, false), (qg13, false)], none),
  ([(qg10, false), (qg8, false), (qg12, false), (qg15, true), (qg6, true), (qg0, true), (qg5, true), (qg1, true), (qg3, false), (qg2, true), (qg16, true), (qg14, false), (qg13, false)], some []),
  ([(qg4, true), (qg15, false), (qg6, true), (qg0, true), (qg5, true), (qg1, true), (qg3, false), (qg2, true), (qg16, true), (qg14, false), (qg13, false)], none),
  ([(qg7, true), (qg4, false), (qg15, false), (qg6, true), (qg0, true), (qg5, true), (qg1, true), (qg3, false), (qg2, true), (qg16, true), (qg14, false), (qg13, false)], none),
  ([(qg9, true), (qg7, false), (qg4, false), (qg15, false), (qg6, true), (qg0, true), (qg5, true), (qg1, true), (qg3, false), (qg2, true), (qg16, true), (qg14, false), (qg13, false)], none),
  ([(qg11, true), (qg9, false), (qg7, false), (qg4, false), (qg15, false), (qg6, true), (qg0, true), (qg5, true), (qg1, true), (qg3, false), (qg2, true), (qg16, true), (qg14, false), (qg13, false)], none),
  ([(qg12, true), (qg11, false), (qg9, false), (qg7, false), (qg4, false), (qg15, false), (qg6, true), (qg0, true), (qg5, true), (qg1, true), (qg3, false), (qg2, true), (qg16, true), (qg14, false), (qg13, false)], some []),
  ([(qg8, true), (qg12, false), (qg11, false), (qg9, false), (qg7, false), (qg4, false), (qg15, false), (qg6, true), (qg0, true), (qg5, true), (qg1, true), (qg3, false), (qg2, true), (qg16, true), (qg14, false), (qg13, false)], none),
  ([(qg10, true), (qg8, false), (qg12, false), (qg11, false), (qg9, false), (qg7, false), (qg4, false), (qg15, false), (qg6, true), (qg0, true), (qg5, true), (qg1, true), (qg3, false), (qg2, true), (qg16, true), (qg14, false), (qg13, false)], none),
  ([(qg10, false), (qg8, false), (qg12, false), (qg11, false), (qg9, false), (qg7, false), (qg4, false), (qg15, false), (qg6, true), (qg0, true), (qg5, true), (qg1, true), (qg3, false), (qg2, true), (qg16, true), (qg14, false), (qg13, false)], some []),
  ([(qg12, true), (qg15, true), (qg6, false), (qg0, true), (qg5, true), (qg1, true), (qg3, false), (qg2, true), (qg16, true), (qg14, false), (qg13, false)], some []),
  ([(qg8, true), (qg12, false), (qg15, true), (qg6, false), (qg0, true), (qg5, true), (qg1, true), (qg3, false), (qg2, true), (qg16, true), (qg14, false), (qg13, false)], none),
  ([(qg10, true), (qg8, false), (qg12, false), (qg15, true), (qg6, false), (qg0, true), (qg5, true), (qg1, true), (qg3, false), (qg2, true), (qg16, true), (qg14, false), (qg13, false)], none),
  ([(qg10, false), (qg8, false), (qg12, false), (qg15, true), (qg6, false), (qg0, true), (qg5, true), (qg1, true), (qg3, false), (qg2, true), (qg16, true), (qg14, false), (qg13, false)], some []),
  ([(qg4, true), (qg15, false), (qg6, false), (qg0, true), (qg5, true), (qg1, true), (qg3, false), (qg2, true), (qg16, true), (qg14, false), (qg13, false)], none),
  ([(qg7, true), (qg4, false), (qg15, false), (qg6, false), (qg0, true), (qg5, true), (qg1, true), (qg3, false), (qg2, true), (qg16, true), (qg14, false), (qg13, false)], none),
  ([(qg9, true), (qg7, false), (qg4, false), (qg15, false), (qg6, false), (qg0, true), (qg5, true), (qg1, true), (qg3, false), (qg2, true), (qg16, true), (qg14, false), (qg13, false)], none),
  ([(qg11, true), (qg9, false), (qg7, false), (qg4, false), (qg15, false), (qg6, false), (qg0, true), (qg5, true), (qg1, true), (qg3, false), (qg2, true), (qg16, true), (qg14, false), (qg13, false)], none),
  ([(qg12, true), (qg11, false), (qg9, false), (qg7, false), (qg4, false), (qg15, false), (qg6, false), (qg0, true), (qg5, true), (qg1, true), (qg3, false), (qg2, true), (qg16, true), (qg14, false), (qg13, false)], some []),
  ([(qg8, true), (qg12, false), (qg11, false), (qg9, false), (qg7, false), (qg4, false), (qg15, false), (qg6, false), (qg0, true), (qg5, true), (qg1, true), (qg3, false), (qg2, true), (qg16, true), (qg14, false), (qg13, false)], none),
  ([(qg10, true), (qg8, false), (qg12, false), (qg11, false), (qg9, false), (qg7, false), (qg4, false), (qg15, false), (qg6, false), (qg0, true), (qg5, true), (qg1, true), (qg3, false), (qg2, true), (qg16, true), (qg14, false), (qg13, false)], none),
  ([(qg10, false), (qg8, false), (qg12, false), (qg11, false), (qg9, false), (qg7, false), (qg4, false), (qg15, false), (qg6, false), (qg0, true), (qg5, true), (qg1, true), (qg3, false), (qg2, true), (qg16, true), (qg14, false), (qg13, false)], some []),
  ([(qg15, true), (qg0, false), (qg5, true), (qg1, true), (qg3, false), (qg2, true), (qg16, true), (qg14, false), (qg13, false)], some []),
  ([(qg4, true), (qg15, false), (qg0, false), (qg5, true), (qg1, true), (qg3, false), (qg2, true), (qg16, true), (qg14, false), (qg13, false)], none),
  ([(qg7, true), (qg4, false), (qg15, false), (qg0, false), (qg5, true), (qg1, true), (qg3, false), (qg2, true), (qg16, true), (qg14, false), (qg13, false)], none),
  ([(qg9, true), (qg7, false), (qg4, false), (qg15, false), (qg0, false), (qg5, true), (qg1, true), (qg3, false), (qg2, true), (qg16, true), (qg14, false), (qg13, false)], none),
  ([(qg11, true), (qg9, false), (qg7, false), (qg4, false), (qg15, false), (qg0, false), (qg5, true), (qg1, true), (qg3, false), (qg2, true), (qg16, true), (qg14, false), (qg13, false)], none),
  ([(qg11, false), (qg9, false), (qg7, false), (qg4, false), (qg15, false), (qg0, false), (qg5, true), (qg1, true), (qg3, false), (qg2, true), (qg16, true), (qg14, false), (qg13, false)], some []),
  ([(qg12, true), (qg15, true), (qg6, true), (qg0, true), (qg5, false), (qg1, true), (qg3, false), (qg2, true), (qg16, true), (qg14, false), (qg13, false)], some []),
  ([(qg8, true), (qg12, false), (qg15, true), (qg6, true), (qg0, true), (qg5, false), (qg1, true), (qg3, false), (qg2, true), (qg16, true), (qg14, false), (qg13, false)], none),
  ([(qg10, true), (qg8, false), (qg12, false), (qg15, true), (qg6, true), (qg0, true), (qg5, false), (qg1, true), (qg3, false), (qg2, true), (qg16, true), (qg14, false), (qg13, false)], none),
  ([(qg10, false), (qg8, false), (qg12, false), (qg15, true), (qg6, true), (qg0, true), (qg5, false), (qg1, true), (qg3, false), (qg2, true), (qg16, true), (qg14, false), (qg13, false)], some []),
  ([(qg4, true), (qg15, false), (qg6, true), (qg0, true), (qg5, false), (qg1, true), (qg3, false), (qg2, true), (qg16, true), (qg14, false), (qg13, false)], none),
  ([(qg7, true), (qg4, false), (qg15, false), (qg6, true), (qg0, true), (qg5, false), (qg1, true), (qg3, false), (qg2, true), (qg16, true), (qg14, false), (qg13, false)], none),
  ([(qg9, true), (qg7, false), (qg4, false), (qg15, false), (qg6, true), (qg0, true), (qg5, false), (qg1, true), (qg3, false), (qg2, true), (qg16, true), (qg14, false), (qg13, false)], none),
  ([(qg11, true), (qg9, false), (qg7, false), (qg4, false), (qg15, false), (qg6, true), (qg0, true), (qg5, false), (qg1, true), (qg3, false), (qg2, true), (qg16, true), (qg14, false), (qg13, false)], none),
  ([(qg12, true), (qg11, false), (qg9, false), (qg7, false), (qg4, false), (qg15, false), (qg6, true), (qg0, true), (qg5, false), (qg1, true), (qg3, false), (qg2, true), (qg16, true), (qg14, false), (qg13, false)], some []),
  ([(qg8, true), (qg12, false), (qg11, false), (qg9, false), (qg7, false), (qg4, false), (qg15, false), (qg6, true), (qg0, true), (qg5, false), (qg1, true), (qg3, false), (qg2, true), (qg16, true), (qg14, false), (qg13, false)], none),
  ([(qg10, true), (qg8, false), (qg12, false), (qg11, false), (qg9, false), (qg7, false), (qg4, false), (qg15, false), (qg6, true), (qg0, true), (qg5, false), (qg1, true), (qg3, false), (qg2, true), (qg16, true), (qg14, false), (qg13, false)], none),
  ([(qg10, false), (qg8, false), (qg12, false), (qg11, false), (qg9, false), (qg7, false), (qg4, false), (qg15, false), (qg6, true), (qg0, true), (qg5, false), (qg1, true), (qg3, false), (qg2, true), (qg16, true), (qg14, false), (qg13, false)], some []),
  ([(qg12, true), (qg15, true), (qg6, false), (qg0, true), (qg5, false), (qg1, true), (qg3, false), (qg2, true), (qg16, true), (qg14, false), (qg13, false)], some []),
  ([(qg8, true), (qg12, false), (qg15, true), (qg6, false), (qg0, true), (qg5, false), (qg1, true), (qg3, false), (qg2, true), (qg16, true), (qg14, false), (qg13, false)], none),
  ([(qg10, true), (qg8, false), (qg12, false), (qg15, true), (qg6, false), (qg0, true), (qg5, false), (qg1, true), (qg3, false), (qg2, true), (qg16, true), (qg14, false), (qg13, false)], none),
  ([(qg10, false), (qg8, false), (qg12, false), (qg15, true), (qg6, false), (qg0, true), (qg5, false), (qg1, true), (qg3, false), (qg2, true), (qg16, true), (qg14, false), (qg13, false)], some []),
  ([(qg4, true), (qg15, false), (qg6, false), (qg0, true), (qg5, false), (qg1, true), (qg3, false), (qg2, true), (qg16, true), (qg14, false), (qg13, false)], none),
  ([(qg7, true), (qg4, false), (qg15, false), (qg6, false), (qg0, true), (qg5, false), (qg1, true), (qg3, false), (qg2, true), (qg16, true), (qg14, false), (qg13, false)], none),
  ([(qg9, true), (qg7, false), (qg4, false), (qg15, false), (qg6, false), (qg0, true), (qg5, false), (qg1, true), (qg3, false), (qg2, true), (qg16, true), (qg14, false), (qg13, false)], none),
  ([(qg11, true), (qg9, false), (qg7, false), (qg4, false), (qg15, false), (qg6, false), (qg0, true), (qg5, false), (qg1, true), (qg3, false), (qg2, true), (qg16, true), (qg14, false), (qg13, false)], none),
  ([(qg12, true), (qg11, false), (qg9, false), (qg7, false), (qg4, false), (qg15, false), (qg6, false), (qg0, true), (qg5, false), (qg1, true), (qg3, false), (qg2, true), (qg16, true), (qg14, false), (qg13, false)], some []),
  ([(qg8, true), (qg12, false), (qg11, false), (qg9, false), (qg7, false), (qg4, false), (qg15, false), (qg6, false), (qg0, true), (qg5, false), (qg1, true), (qg3, false), (qg2, true), (qg16, true), (qg14, false), (qg13, false)], none),
  ([(qg10, true), (qg8, false), (qg12, false), (qg11, false), (qg9, false), (qg7, false), (qg4, false), (qg15, false), (qg6, false), (qg0, true), (qg5, false), (qg1, true), (qg3, false), (qg2, true), (qg16, true), (qg14, false), (qg13, false)], none),
  ([(qg10, false), (qg8, false), (qg12, false), (qg11, false), (qg9, false), (qg7, false), (qg4, false), (qg15, false), (qg6, false), (qg0, true), (qg5, false), (qg1, true), (qg3, false), (qg2, true), (qg16, true), (qg14, false), (qg13, false)], some []),
  ([(qg15, true), (qg0, false), (qg5, false), (qg1, true), (qg3, false), (qg2, true), (qg16, true), (qg14, false), (qg13, false)], some []),
  ([(qg4, true), (qg15, false), (qg0, false), (qg5, false), (qg1, true), (qg3, false), (qg2, true), (qg16, true), (qg14, false), (qg13, false)], none),
  ([(qg7, true), (qg4, false), (qg15, false), (qg0, false), (qg5, false), (qg1, true), (qg3, false), (qg2, true), (qg16, true), (qg14, false), (qg13, false)], none),
  ([(qg9, true), (qg7, false), (qg4, false), (qg15, false), (qg0, false), (qg5, false), (qg1, true), (qg3, false), (qg2, true), (qg16, true), (qg14, false), (qg13, false)], none),
  ([(qg11, true), (qg9, false), (qg7, false), (qg4, false), (qg15, false), (qg0, false), (qg5, false), (qg1, true), (qg3, false), (qg2, true), (qg16, true), (qg14, false), (qg13, false)], none),
  ([(qg11, false), (qg9, false), (qg7, false), (qg4, false), (qg15, false), (qg0, false), (qg5, false), (qg1, true), (qg3, false), (qg2, true), (qg16, true), (qg14, false), (qg13, false)], some []),
  ([(qg12, true), (qg6, true), (qg0, true), (qg1, false), (qg3, false), (qg2, true), (qg16, true), (qg14, false), (qg13, false)], some []),
  ([(qg8, true), (qg12, false), (qg6, true), (qg0, true), (qg1, false), (qg3, false), (qg2, true), (qg16, true), (qg14, false), (qg13, false)], none),
  ([(qg10, true), (qg8, false), (qg12, false), (qg6, true), (qg0, true), (qg1, false), (qg3, false), (qg2, true), (qg16, true), (qg14, false), (qg13, false)], none),
  ([(qg10, false), (qg8, false), (qg12, false), (qg6, true), (qg0, true), (qg1, false), (qg3, false), (qg2, true), (qg16, true), (qg14, false), (qg13, false)], some []),
  ([(qg12, true), (qg6, false), (qg0, true), (qg1, false), (qg3, false), (qg2, true), (qg16, true), (qg14, false), (qg13, false)], some []),
  ([(qg8, true), (qg12, false), (qg6, false), (qg0, true), (qg1, false), (qg3, false), (qg2, true), (qg16, true), (qg14, false), (qg13, false)], none),
  ([(qg10, true), (qg8, false), (qg12, false), (qg6, false), (qg0, true), (qg1, false), (qg3, false), (qg2, true), (qg16, true), (qg14, false), (qg13, false)], none),
  ([(qg10, false), (qg8, false), (qg12, false), (qg6, false), (qg0, true), (qg1, false), (qg3, false), (qg2, true), (qg16, true), (qg14, false), (qg13, false)], some []),
  ([(qg0, false), (qg1, false), (qg3, false), (qg2, true), (qg16, true), (qg14, false), (qg13, false)], some []),
  ([(qg6, true), (qg0, true), (qg5, true), (qg1, true), (qg2, false), (qg16, true), (qg14, false), (qg13, false)], some []),
  ([(qg6, false), (qg0, true), (qg5, true), (qg1, true), (qg2, false), (qg16, true), (qg14, false), (qg13, false)], some []),
  ([(qg0, false), (qg5, true), (qg1, true), (qg2, false), (qg16, true), (qg14, false), (qg13, false)], some []),
  ([(qg6, true), (qg0, true), (qg5, false), (qg1, true), (qg2, false), (qg16, true), (qg14, false), (qg13, false)], some []),
  ([(qg6, false), (qg0, true), (qg5, false), (qg1, true), (qg2, false), (qg16, true), (qg14, false), (qg13, false)], some []),
  ([(qg0, false), (qg5, false), (qg1, true), (qg2, false), (qg16, true), (qg14, false), (qg13, false)], some []),
  ([(qg6, true), (qg0, true), (qg1, false), (qg2, false), (qg16, true), (qg14, false), (qg13, false)], some []),
  ([(qg6, false), (qg0, true), (qg1, false), (qg2, false), (qg16, true), (qg14, false), (qg13, false)], some []),
  ([(qg0, false), (qg1, false), (qg2, false), (qg16, true), (qg14, false), (qg13, false)], some []),
  ([(qg16, false), (qg14, false), (qg13, false)], none)]
theorem mo_w (r : Rho) : mo_fn.ways mo_call E1 r mo_pre mo_t = some mo_l := by kernel_rfl
theorem mo_60 : (buildH mo_fn.heap).get 60 = some (.rows 1 whoSch (.var 18) (.var 19) false 3) := by kernel_rfl
theorem mo_out (σ : Sig) : mo_fn.out.inst σ = some (.bool true) := rfl
set_option maxHeartbeats 8000000 in
theorem mo_true {ρ : Rho} {σ : Sig} {w : World} {us : List Value} (hsy : ρ.sym = sy) (hρ : σ.rho = ρ) (hA : ∀ g id, E1.glob g = some id → ∃ κ, σ id = some (g, κ)) (hrel : (memOf mo_fn.heap 100).rel Tryz.prog σ w (fun b => w.heap.size ≤ b)) (hins : Ins σ mo_fn.args us) :
    Calls Tryz.prog 3 us.toArray w fun e w' => e = .returned (.bool true) ∧ Kept (fun b => w.heap.size ≤ b) w w' := by
  obtain ⟨u0, us, rfl, g0, hi⟩ := ins_cons hins
  obtain ⟨u1, us, rfl, g1, hi⟩ := ins_cons hi
  obtain ⟨u2, us, rfl, g2, hi⟩ := ins_cons hi
  obtain ⟨u3, us, rfl, g3, hi⟩ := ins_cons hi
  obtain ⟨u4, us, rfl, g4, hi⟩ := ins_cons hi
  obtain ⟨r, kr, rfl, hr⟩ := rat_agg (v := 0) g0
  obtain ⟨s, ks, rfl, hs⟩ := sal_agg (v := 9) g1
  obtain ⟨P, kp, rfl, h21⟩ := one_int g3
  obtain ⟨f, kf, rfl, hf⟩ := fra_agg (v := 22) g4
  obtain ⟨l, h19⟩ := whos_at hrel (i := 60) mo_60
  rw [hρ] at h19 hr hs h21 hf
  have h19 : ρ.val 19 = some (whosR l) := h19
  obtain ⟨nu, de⟩ := f
  have r22 : ρ.val 22 = some (.int (kf 0) nu) := hf.h0
  have r23 : ρ.val 23 = some (.int (kf 1) de) := hf.h1
  obtain ⟨r0, r1, r2, r3, r4, r5, r6, r7, r8, r9, r10, r11, r12, r13, r14, r15, r16, r17, r19⟩ := at_all hr hs h19
  refine law_of (E := E1) (D := mo_fn) E1_ok (fun F => MO_ok F hsy) (fun F => mo_H hr hs h19 hsy h21 F) (mo_w ρ) hρ hA trivial hrel hins ?_ ?_ mo_out
  · simp only [mo_pre, mo_t, qg21, qg20, qg19, qg18, qg17, qg16, qg15, qg14, qg13, qg12, qg11, qg10, qg9, qg8, qg7, qg6, qg5, qg4, qg3, qg2, qg1, qg0, AsksL, GTree.asks, FTree.asks, FactsIn, List.append_nil, List.nil_append, List.cons_append, Option.some.injEq, exists_eq', implies_true, and_self, X.bool, X.den, denL, dX, denSub, denIte, asB, dY, r0, r1, r2, r3, r4, r5, r6, r7, r8, r9, r10, r11, r12, r13, r14, r15, r16, r17, r19, h21, r22, r23, hsy, sym20, sym21, sym115, sym116, sym117, sym140, sym141, sym142, sym143, sym144, sym146, sym130, sym131, sym100]
    try simp
  · simp only [mo_l, qg21, qg20, qg19, qg18, qg17, qg16, qg15, qg14, qg13, qg12, qg11, qg10, qg9, qg8, qg7, qg6, qg5, qg4, qg3, qg2, qg1, qg0, EndsOk, WaysOk, forall_cons, forall_nil, TgtOk, gpair, FactsIn, hold_cons, hold_nil, Option.some.injEq, dZ, X.bool, X.den, denL, dX, denSub, denIte, asB, dY, beq_iff_eq, beq_eq_false_iff_ne, ne_eq, r0, r1, r2, r3, r4, r5, r6, r7, r8, r9, r10, r11, r12, r13, r14, r15, r16, r17, r19, h21, r22, r23, hsy, sym20, sym21, sym115, sym116, sym117, sym140, sym141, sym142, sym143, sym144, sym146, sym130, sym131, sym100, beq_iff_eq, beq_eq_false_iff_ne, ne_eq]
    clear r0 r1 r2 r3 r4 r5 r6 r7 r8 r9 r10 r11 r12 r13 r14 r15 r16 r17 r19 h21 r22 r23 hf hr hs h19 hsy hρ hA hrel hins g0 g1 g2 g3 g4 hi
    (repeat' apply And.intro) <;> intros <;> first
      | trivial
      | contradiction
      | (exfalso; omega)
      | (exfalso; have hq := mo_price (r := r) (s := s) (l := l) (P := P) (by assumption) (by assumption) (by assumption); omega)
      | (exfalso; have hq := mo_part (r := r) (s := s) (l := l) (nu := nu) (de := de) (by assumption) (by assumption) (by assumption); omega)
      | (exfalso; exact Bool.noConfusion ((len_short (l := l) (by omega)).symm.trans (by assumption)))
      | (simp_all; done)
noncomputable def LAN : Env → CallE := libs [cLib cRt_con, cLib cSl_con]
theorem LAN_ok (F : List (X × Bool)) {r : Rho} (h : r.sym = sy) : CallsOk (E0.with F r) (LAN (E0.with F r)) := libs_ok fun c hc => by
  simp only [List.mem_cons, List.not_mem_nil, or_false] at hc
  rcases hc with rfl | rfl
  · exact lib_ok (E := E0) cRt_cok F h
  · exact lib_ok (E := E0) cSl_cok F h
noncomputable def cAwEN_con : Con := { f := 5, args := [.agg [.int .i64 0, .int .i64 1, .int .i64 2, .str 3, .int .i64 4, .int .i64 5, .int .i64 6, .int .i64 7, .int .i64 8], .agg [.int .i64 9, .int .i64 10, .int .i64 11, .int .i64 12, .int .i64 13, .int .i64 14, .int .i64 15, .int .i64 16, .int .i64 17], .nils], N := 1, M := 1, pre := [(.op2 .lt (.num 100) (.op1 .slen (.var 3)), false)], out := .tuple [.agg [.int .i64 0, .int .i64 0, .int .i64 0, .int .i64 0, .int .i64 0, .nilslice], .int .i64 1], news := [] }
noncomputable def cAwEN_call : Env → CallL := fun E => acallAll E (evH E (LAN E) ((fun _ => noLoops) E) 8)
noncomputable def cAwEN_t : GTree := (.fork qg17 (.fork qg18 (.fork qg19 (.fork qg20 (.fork (.op2 .eq (.var 14) (.num 0)) (.fork qg21 (.leaf [[]]) (.leaf [[]])) (.fork qg21 (.leaf [[]]) (.leaf [[]]))) (.leaf [[]])) (.leaf [[]])) (.leaf [[]])) (.leaf [[]]))
noncomputable def cAwEN_l : List (List (X × Bool) × Option Pairs) := [([(qg21, true), (.op2 .eq (.var 14) (.num 0), true), (qg20, true), (qg19, true), (qg18, true), (qg17, true), (qg13, false)], some []),
  ([(qg21, false), (.op2 .eq (.var 14) (.num 0), true), (qg20, true), (qg19, true), (qg18, true), (qg17, true), (qg13, false)], some []),
  ([(qg21, true), (.op2 .eq (.var 14) (.num 0), false), (qg20, true), (qg19, true), (qg18, true), (qg17, true), (qg13, false)], some []),
  ([(qg21, false), (.op2 .eq (.var 14) (.num 0), false), (qg20, true), (qg19, true), (qg18, true), (qg17, true), (qg13, false)], some []),
  ([(qg20, false), (qg19, true), (qg18, true), (qg17, true), (qg13, false)], some []),
  ([(qg19, false), (qg18, true), (qg17, true), (qg13, false)], some []),
  ([(qg18, false), (qg17, true), (qg13, false)], some []),
  ([(qg17, false), (qg13, false)], some [])]
theorem cAwEN_w (r : Rho) : cAwEN_con.fn.ways cAwEN_call E0 r cAwEN_con.pre cAwEN_t = some cAwEN_l := by kernel_rfl
set_option maxHeartbeats 4000000 in
theorem cAwEN_cok : cAwEN_con.Ok Tryz.prog sy := by
  intro ρ σ w us hsy hρ hpre hrel hins
  obtain ⟨u0, us, rfl, g0, hi⟩ := ins_cons hins
  obtain ⟨u1, us, rfl, g1, hi⟩ := ins_cons hi
  obtain ⟨r, kr, rfl, hr⟩ := rat_agg (v := 0) g0
  obtain ⟨s, ks, rfl, hs⟩ := sal_agg (v := 9) g1
  rw [hρ] at hr hs
  have r0 : ρ.val 0 = some (.int (kr 0) r.id) := hr.h0
  have r1 : ρ.val 1 = some (.int (kr 1) r.known) := hr.h1
  have r2 : ρ.val 2 = some (.int (kr 2) r.from_) := hr.h2
  have r3 : ρ.val 3 = some (.string r.goods) := hr.h3
  have r4 : ρ.val 4 = some (.int (kr 4) r.num) := hr.h4
  have r5 : ρ.val 5 = some (.int (kr 5) r.den) := hr.h5
  have r6 : ρ.val 6 = some (.int (kr 6) r.cart) := hr.h6
  have r7 : ρ.val 7 = some (.int (kr 7) r.store) := hr.h7
  have r8 : ρ.val 8 = some (.int (kr 8) r.of_) := hr.h8
  have r9 : ρ.val 9 = some (.int (ks 0) s.id) := hs.h0
  have r10 : ρ.val 10 = some (.int (ks 1) s.known) := hs.h1
  have r11 : ρ.val 11 = some (.int (ks 2) s.hour) := hs.h2
  have r12 : ρ.val 12 = some (.int (ks 3) s.parcel) := hs.h3
  have r13 : ρ.val 13 = some (.int (ks 4) s.price) := hs.h4
  have r14 : ρ.val 14 = some (.int (ks 5) s.carter) := hs.h5
  have r15 : ρ.val 15 = some (.int (ks 6) s.keeper) := hs.h6
  have r16 : ρ.val 16 = some (.int (ks 7) s.since) := hs.h7
  have r17 : ρ.val 17 = some (.int (ks 8) s.of_) := hs.h8
  obtain ⟨b1, hrb⟩ : ∃ b, rateB ⟨r.id, r.known, r.from_, r.goods, r.num, r.den, r.cart, r.store, r.of_⟩ = b := ⟨_, rfl⟩
  obtain ⟨b2, hsb⟩ : ∃ b, saleB ⟨s.id, s.known, s.hour, s.parcel, s.price, s.carter, s.keeper, s.since, s.of_⟩ = b := ⟨_, rfl⟩
  refine con_of (E := E0) E0_ok E0_glob (sy := sy) (fun F => LAN_ok F hsy) (fun F => noH_ok) (cAwEN_w ρ) hρ hpre hrel hins ?_ ?_
  · cases b1 <;> cases b2 <;> simp only [cAwEN_con, cAwEN_t, qg21, qg20, qg19, qg18, qg17, qg16, qg15, qg14, qg13, qg12, qg11, qg10, qg9, qg8, qg7, qg6, qg5, qg4, qg3, qg2, qg1, qg0, AsksL, GTree.asks, FTree.asks, FactsIn, List.append_nil, List.nil_append, List.cons_append, Option.some.injEq, exists_eq', implies_true, and_self, X.bool, X.den, denL, dX, denSub, denIte, asB, dY, r0, r1, r2, r3, r4, r5, r6, r7, r8, r9, r10, r11, r12, r13, r14, r15, r16, r17, hsy, sym20, sym21, sym115, sym116, sym117, sym140, sym141, sym142, sym143, sym144, sym146, sym130, sym131, sym100, hrb, hsb]
    all_goals (try simp)
  · cases b1 <;> cases b2 <;> simp only [cAwEN_l, qg21, qg20, qg19, qg18, qg17, qg16, qg15, qg14, qg13, qg12, qg11, qg10, qg9, qg8, qg7, qg6, qg5, qg4, qg3, qg2, qg1, qg0, EndsOk, WaysOk, forall_cons, forall_nil, TgtOk, gpair, FactsIn, hold_cons, hold_nil, Option.some.injEq, dZ, X.bool, X.den, denL, dX, denSub, denIte, asB, dY, beq_iff_eq, beq_eq_false_iff_ne, ne_eq, r0, r1, r2, r3, r4, r5, r6, r7, r8, r9, r10, r11, r12, r13, r14, r15, r16, r17, hsy, sym20, sym21, sym115, sym116, sym117, sym140, sym141, sym142, sym143, sym144, sym146, sym130, sym131, sym100, hrb, hsb]
    all_goals (try simp)
noncomputable def MON : Env → CallE := libs [cLib cAwEN_con, fun _ => aliveL]
theorem MON_ok (F : List (X × Bool)) {r : Rho} (h : r.sym = sy) : CallsOk (E1.with F r) (MON (E1.with F r)) := libs_ok fun c hc => by
  simp only [List.mem_cons, List.not_mem_nil, or_false] at hc
  rcases hc with rfl | rfl
  · exact lib_ok (E := E1) cAwEN_cok F h
  · exact alive_ok F r
noncomputable def mn_fn : FnD := { f := 3, args := argsAV [.agg [.int .i64 0, .int .i64 1, .int .i64 2, .str 3, .int .i64 4, .int .i64 5, .int .i64 6, .int .i64 7, .int .i64 8], .agg [.int .i64 9, .int .i64 10, .int .i64 11, .int .i64 12, .int .i64 13, .int .i64 14, .int .i64 15, .int .i64 16, .int .i64 17], .nils, .one (.int .i64 21), .agg [.int .i64 22, .int .i64 23]], heap := hRoot ++ argsBlk [.agg [.int .i64 0, .int .i64 1, .int .i64 2, .str 3, .int .i64 4, .int .i64 5, .int .i64 6, .int .i64 7, .int .i64 8], .agg [.int .i64 9, .int .i64 10, .int .i64 11, .int .i64 12, .int .i64 13, .int .i64 14, .int .i64 15, .int .i64 16, .int .i64 17], .nils, .one (.int .i64 21), .agg [.int .i64 22, .int .i64 23]], N := 100, M := 100, out := .sbool (.boo true), news := [] }
noncomputable def mn_call : Env → CallL := fun E => acallAll E (evH E (MON E) ((fun _ => noLoops) E) 9)
noncomputable def mn_pre : List (X × Bool) := []
noncomputable def mn_t : GTree := (.fork qg13 (.leaf [[]]) (.leaf [[]]))
noncomputable def mn_l : List (List (X × Bool) × Option Pairs) := [([(qg13, true)], some []),
  ([(qg13, false)], some [])]
theorem mn_w (r : Rho) : mn_fn.ways mn_call E1 r mn_pre mn_t = some mn_l := by kernel_rfl
theorem mn_out (σ : Sig) : mn_fn.out.inst σ = some (.bool true) := rfl
theorem mn_true {ρ : Rho} {σ : Sig} {w : World} {us : List Value} (hsy : ρ.sym = sy) (hρ : σ.rho = ρ) (hA : ∀ g id, E1.glob g = some id → ∃ κ, σ id = some (g, κ)) (hrel : (memOf mn_fn.heap 100).rel Tryz.prog σ w (fun b => w.heap.size ≤ b)) (hins : Ins σ mn_fn.args us) :
    Calls Tryz.prog 3 us.toArray w fun e w' => e = .returned (.bool true) ∧ Kept (fun b => w.heap.size ≤ b) w w' := by
  obtain ⟨u0, us, rfl, g0, hi⟩ := ins_cons hins
  obtain ⟨r, kr, rfl, hr⟩ := rat_agg (v := 0) g0
  rw [hρ] at hr
  have r3 : ρ.val 3 = some (.string r.goods) := hr.h3
  refine law_of (E := E1) (D := mn_fn) E1_ok (fun F => MON_ok F hsy) (fun F => noH_ok) (mn_w ρ) hρ hA trivial hrel hins ?_ ?_ mn_out
  · simp only [mn_pre, mn_t, qg21, qg20, qg19, qg18, qg17, qg16, qg15, qg14, qg13, qg12, qg11, qg10, qg9, qg8, qg7, qg6, qg5, qg4, qg3, qg2, qg1, qg0, AsksL, GTree.asks, FTree.asks, FactsIn, List.append_nil, List.nil_append, List.cons_append, Option.some.injEq, exists_eq', implies_true, and_self, X.bool, X.den, denL, dX, denSub, denIte, asB, dY, r3, hsy, sym20, sym21, sym115, sym116, sym117, sym140, sym141, sym142, sym143, sym144, sym146, sym130, sym131, sym100]
    try simp
  · simp only [mn_l, qg21, qg20, qg19, qg18, qg17, qg16, qg15, qg14, qg13, qg12, qg11, qg10, qg9, qg8, qg7, qg6, qg5, qg4, qg3, qg2, qg1, qg0, EndsOk, WaysOk, forall_cons, forall_nil, TgtOk, gpair, FactsIn, hold_cons, hold_nil, Option.some.injEq, dZ, X.bool, X.den, denL, dX, denSub, denIte, asB, dY, beq_iff_eq, beq_eq_false_iff_ne, ne_eq, r3, hsy, sym20, sym21, sym115, sym116, sym117, sym140, sym141, sym142, sym143, sym144, sym146, sym130, sym131, sym100]
    try simp
end Go.Proofs.YtcmbkcebbgigcaaGreatDoor.Zs
