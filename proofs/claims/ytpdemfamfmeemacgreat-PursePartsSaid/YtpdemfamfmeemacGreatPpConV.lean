/-
  Contracts of package purse: what is held for all parcels together.
-/
import Derived.Test.YtpdemfamfmeemacGreatPpConE
import Derived.Test.YtpdemfamfmeemacGreatPpEvV
import Derived.KernelRfl
set_option linter.unusedSimpArgs false
set_option linter.unusedVariables false
namespace Go.Proofs.YtpdemfamfmeemacGreat.Zs
open Go
theorem zs_cell (l : List Int) (k : IntKind) (i : Int) : denCell 0 (rowsV (l.map fun n => [Value.int .i64 n])) (.int k i) = (l[i.toNat]?).bind fun n => some (.int .i64 n) := by
  simp only [denCell, rowsV, List.getElem?_toArray, List.getElem?_map]
  cases l[i.toNat]? <;> rfl
theorem zs_len (l : List Int) : den1 .len (rowsV (l.map fun n => [Value.int .i64 n])) = some (.int .i64 l.length) := by simp [den1, rowsV]
theorem wrap_add (a b : Int) : IntKind.i64.wrap (IntKind.i64.wrap a + b) = IntKind.i64.wrap (a + b) := by
  rw [IntKind.wrap_i64, IntKind.wrap_i64, IntKind.wrap_i64]; omega
theorem rows_ints : ∀ l : List (List Value), (∀ r ∈ l, RowFits [.int .i64] r) → ∃ m : List Int, l = m.map fun n => [.int .i64 n]
  | [], _ => ⟨[], rfl⟩
  | a :: l, h => by
    obtain ⟨m, rfl⟩ := rows_ints l fun r hr => h r (List.mem_cons_of_mem _ hr)
    have ha := h a List.mem_cons_self
    cases ha with
    | cons hc hl =>
      cases hl
      obtain ⟨n, rfl⟩ := hc
      exact ⟨n :: m, rfl⟩
theorem sum_snoc (l : List Int) (n : Int) : (l ++ [n]).sum = l.sum + n := by simp
def sumq_vs : List X := [.num 0, .num 0]
noncomputable def lSum_D : LoopD := { N := 100, M := 102, size := sizeOfF 29, reads := [(0, .rows 1 [.int .i64] (.var 0) (.var 1) false 3)], pats := [{ slots := [(3, .sint .i64 (.var 101)), (6, .slx 0 1 (.var 0) (.num 0) (.op1 .len (.var 1)) (.var 2)), (7, .sint .i64 (.op1 .len (.var 1))), (8, .sint .i64 (.var 100))], heap := [] }], exits := [(.exit 0, { slots := [(3, .sint .i64 (.app 33 [.var 1]))], heap := [] })], own := [], pre := [(.op2 .lt (.num 1000000000) (.op1 .len (.var 1)), false)] }
noncomputable def lSum_run : Env → AF → ASt → Option (List Out) := bodyRun noL 4 (fun _ => noLoop) (loopAt Tryz.prog 29 0)
def lSum0_F : List (X × Bool) := [(.op2 .lt (.var 100) (.num 0), false)]
def yPV_0 : X := .app 52 [(.var 1)]
noncomputable def lSum0_t : FTree := (.fork (.op2 .lt (.var 100) (.op1 .len (.var 1))) (.leaf [.again 0 []]) (.leaf [.leave 0 []]))
noncomputable def lSum0_l : List (List (X × Bool) × Option (List (Tgt × Pairs))) := [([(.op2 .lt (.var 100) (.op1 .len (.var 1)), true), (.op2 .lt (.var 100) (.num 0), false)], some [(.again 0 [], [(.var 101, .op1 (.wrap .i64) (.op2 .add (.var 101) (.cell 0 (.var 1) (.var 100)))), (.var 100, .op1 (.wrap .i64) (.op2 .add (.var 100) (.num 1)))])]),
  ([(.op2 .lt (.var 100) (.op1 .len (.var 1)), false), (.op2 .lt (.var 100) (.num 0), false)], some [(.leave 0 [], [(.app 33 [.var 1], .var 101)])])]
theorem lSum0_w (r : Rho) : lSum_D.ways lSum_run E0 r 0 lSum0_F lSum0_t = some lSum0_l := by kernel_rfl
theorem lSum_ok : lSum_D.ok = true := by kernel_rfl
def lSum_Inv (l : List Int) (j : Nat) (vals : List Value) : Prop :=
  j = 0 ∧ ∃ i : Nat, i ≤ l.length ∧ vals = [.int .i64 i, .int .i64 (IntKind.i64.wrap (l.take i).sum)]
def lSum_mu (l : List Int) (_ : Nat) (vals : List Value) : Nat := l.length - (vI (vals.getD 0 default)).toNat
theorem lSum_step {ρ : Rho} {l : List Int} (h1 : ρ.val 1 = some (rowsV (l.map fun n => [Value.int .i64 n]))) (hsy : ρ.sym = sy) (hmax : l.length ≤ 1000000000) (j : Nat) (vals : List Value) (hI : lSum_Inv l j vals) :
    StepOk lSum_D lSum_run E0 ρ (lSum_Inv l) (lSum_mu l) j vals := by
  obtain ⟨rfl, i, hi, rfl⟩ := hI
  have hN : lSum_D.N = 100 := rfl
  have v1 : (ρ.ext lSum_D.N [.int .i64 i, .int .i64 (IntKind.i64.wrap (l.take i).sum)]).val 1 = some (rowsV (l.map fun n => [Value.int .i64 n])) := by rw [ext_low _ _ _ _ (by rw [hN]; omega)]; exact h1
  have v100 : (ρ.ext lSum_D.N [.int .i64 i, .int .i64 (IntKind.i64.wrap (l.take i).sum)]).val 100 = some (.int .i64 i) := by rw [ext_high _ _ _ _ (by rw [hN]; omega)]; rfl
  have v101 : (ρ.ext lSum_D.N [.int .i64 i, .int .i64 (IntKind.i64.wrap (l.take i).sum)]).val 101 = some (.int .i64 (IntKind.i64.wrap (l.take i).sum)) := by rw [ext_high _ _ _ _ (by rw [hN]; omega)]; rfl
  have vs : (ρ.ext lSum_D.N [.int .i64 i, .int .i64 (IntKind.i64.wrap (l.take i).sum)]).sym = sy := hsy
  have hF : FactsIn (ρ.ext lSum_D.N [.int .i64 i, .int .i64 (IntKind.i64.wrap (l.take i).sum)]) lSum0_F := by
    simp only [lSum0_F, FactsIn, X.bool, X.den, denL, dX, denSub, denIte, asB, dY, zs_cell, zs_len, v100, Option.some.injEq, Value.bool.injEq, decide_eq_false_iff_not, and_true]
    omega
  suffices both : AsksL (ρ.ext lSum_D.N [.int .i64 i, .int .i64 (IntKind.i64.wrap (l.take i).sum)]) (lSum0_t.asks lSum0_F) ∧ WaysOk lSum_D ρ (lSum_Inv l) (lSum_mu l) 0 [.int .i64 i, .int .i64 (IntKind.i64.wrap (l.take i).sum)] lSum0_l from step_of_ways (lSum0_w _) hF both.1.ok both.2
  cases hp : l[i]? with
  | none =>
    have hge := List.getElem?_eq_none_iff.1 hp
    have hge' : ¬ (i : Int) < l.length := by omega
    have hl : l.take i = l := List.take_of_length_le hge
    refine ⟨?_, ?_⟩
    · simp only [lSum0_t, yPV_0, lSum0_F, AsksL, GTree.asks, FTree.asks, FactsIn, List.append_nil, List.nil_append, List.cons_append, Option.some.injEq, exists_eq', implies_true, and_self, X.bool, X.den, denL, dX, denSub, denIte, asB, dY, zs_cell, zs_len, v1, v100, v101, vs, sym33, Int.toNat_natCast, hp, hge']
      try simp
    · simp only [lSum0_l, yPV_0, EndsOk, WaysOk, forall_cons, forall_nil, TgtOk, gpair, FactsIn, hold_cons, hold_nil, Option.some.injEq, dZ, X.bool, X.den, denL, dX, denSub, denIte, asB, dY, beq_iff_eq, beq_eq_false_iff_ne, ne_eq, zs_cell, zs_len, v1, v100, v101, vs, h1, hsy, sym33, Int.toNat_natCast, hp, hge']
      simp [hl]
  | some p =>
    have hlt : i < l.length := (List.getElem?_eq_some_iff.1 hp).1
    have hlt1 : (i : Int) < l.length := by omega
    have hw : IntKind.i64.wrap ((i : Int) + 1) = ((i + 1 : Nat) : Int) := by rw [IntWalk.i64_in _ (by omega)]; rfl
    have hnext : (l.take (i + 1)).sum = (l.take i).sum + p := by
      rw [List.take_add_one, hp]; exact sum_snoc _ p
    have go : ∃ vals', ((ρ.ext lSum_D.N vals').val 101 = some (.int .i64 (IntKind.i64.wrap ((l.take i).sum + p))) ∧ (ρ.ext lSum_D.N vals').val 100 = some (.int .i64 ((i + 1 : Nat) : Int))) ∧ lSum_Inv l 0 vals' ∧ lSum_mu l 0 vals' < lSum_mu l 0 [.int .i64 i, .int .i64 (IntKind.i64.wrap (l.take i).sum)] := by
      refine ⟨[.int .i64 ((i + 1 : Nat) : Int), .int .i64 (IntKind.i64.wrap (l.take (i + 1)).sum)], ⟨?_, ?_⟩, ⟨rfl, i + 1, by omega, rfl⟩, ?_⟩
      · rw [ext_high _ _ _ _ (by rw [hN]; omega), hnext]; rfl
      · rw [ext_high _ _ _ _ (by rw [hN]; omega)]; rfl
      · simp [lSum_mu, vI]; omega
    refine ⟨?_, ?_⟩
    · simp only [lSum0_t, yPV_0, lSum0_F, AsksL, GTree.asks, FTree.asks, FactsIn, List.append_nil, List.nil_append, List.cons_append, Option.some.injEq, exists_eq', implies_true, and_self, X.bool, X.den, denL, dX, denSub, denIte, asB, dY, zs_cell, zs_len, v1, v100, v101, vs, sym33, Int.toNat_natCast, hp, Option.bind_some]
      try simp
    · simp only [lSum0_l, yPV_0, EndsOk, WaysOk, forall_cons, forall_nil, TgtOk, gpair, FactsIn, hold_cons, hold_nil, Option.some.injEq, dZ, X.bool, X.den, denL, dX, denSub, denIte, asB, dY, beq_iff_eq, beq_eq_false_iff_ne, ne_eq, zs_cell, zs_len, v1, v100, v101, vs, h1, hsy, sym33, Int.toNat_natCast, hp, Option.bind_some, hlt1, hw, wrap_add]
      clear v1 v100 v101 vs h1 hsy hp hF hnext
      (repeat' apply And.intro) <;> intros <;> first
        | trivial
        | (exfalso; omega)
        | (exact go)
        | contradiction
noncomputable def cSum_con : Con := { f := 29, args := [.list 0 1 [.int .i64] 3 0 1 2], N := 1, M := 1, pre := [(.op2 .lt (.num 1000000000) (.op1 .len (.var 1)), false)], out := .sint .i64 (.app 33 [.var 1]), news := [] }
noncomputable def cSum_call : Env → CallL := fun E => acallAll E (evH E (noL E) ((fun E => oneH 29 (hooks [(3, lSum_D.hook E.facts sumq_vs)])) E) 4)
noncomputable def cSum_t : GTree := (.leaf [[]])
noncomputable def cSum_l : List (List (X × Bool) × Option Pairs) := [([(.op2 .lt (.num 1000000000) (.op1 .len (.var 1)), false)], some [(.app 33 [.var 1], .app 33 [.var 1])])]
theorem cSum_w (r : Rho) : cSum_con.fn.ways cSum_call E0 r cSum_con.pre cSum_t = some cSum_l := by kernel_rfl
theorem lSum_H {r : Rho} {l : List Int} (h1 : r.val 1 = some (rowsV (l.map fun n => [Value.int .i64 n]))) (hmax : l.length ≤ 1000000000) (hsy : r.sym = sy) (F : List (X × Bool)) :
    LoopsOk (E0.with F r) (oneH 29 (hooks [(3, lSum_D.hook (E0.with F r).facts sumq_vs)])) := by
  refine loops_all (n := 1) (fun f fn h => h) (by kernel_rfl) fun i hi => ?_
  obtain rfl : i = 0 := by omega
  rw [hooks_hit (show keyOf (loopAt (E0.with F r).P 29 0) = 3 by kernel_rfl)]
  refine hook_ok (E₀ := E0) (run := lSum_run) (ρ := r) (Inv := lSum_Inv l) (μ := lSum_mu l) E0_ok lSum_ok (fun F r' h => ?_) (fun _ => ⟨lSum_step h1 hsy hmax, [.int .i64 0, .int .i64 0], ?_, rfl, 0, Nat.zero_le _, rfl⟩)
  · exact bodyRun_ok E0_ok (noL_ok F (h.trans hsy)) fun _ _ => noLoop_ok
  · simp only [sumq_vs, X.bool, X.den, denL, dX, denSub, denIte, asB, dY]
theorem cSum_cok : cSum_con.Ok Tryz.prog sy := by
  intro r σ w us hsy hρ hpre hrel hins
  obtain ⟨rows, h1, hfit⟩ := rows_at (i := 0) hrel rfl
  obtain ⟨l, rfl⟩ := rows_ints rows hfit
  rw [hρ] at h1
  have h1 : r.val 1 = some (rowsV (l.map fun n => [Value.int .i64 n])) := h1
  have hmax : l.length ≤ 1000000000 := by
    have := hpre.1
    simp only [X.bool, X.den, denL, dX, denSub, denIte, asB, dY, zs_cell, zs_len, h1, Option.some.injEq, Value.bool.injEq, decide_eq_false_iff_not] at this
    omega
  refine con_of (E := E0) E0_ok E0_glob (sy := sy) (fun F => noL_ok F hsy) (fun F => lSum_H h1 hmax hsy F) (cSum_w r) hρ hpre hrel hins ?_ ?_
  · simp only [cSum_con, cSum_t, yPV_0, AsksL, GTree.asks, FTree.asks, FactsIn, List.append_nil, List.nil_append, List.cons_append, Option.some.injEq, exists_eq', implies_true, and_self, X.bool, X.den, denL, dX, denSub, denIte, asB, dY, zs_len, h1, hsy, sym33]
    try simp
  · simp only [cSum_l, yPV_0, EndsOk, WaysOk, forall_cons, forall_nil, TgtOk, gpair, FactsIn, hold_cons, hold_nil, Option.some.injEq, dZ, X.bool, X.den, denL, dX, denSub, denIte, asB, dY, zs_len, h1, hsy, sym33]
    try simp
theorem sumSays : SumSays Tryz.prog 29 3 := fun b cap L rest fr W hb hL hc => by
  let r : Rho := ⟨fun i => if i = 0 then some (.int .i64 0) else if i = 1 then some (rowsV (L.map fun n => [Value.int .i64 n])) else if i = 2 then some (.int .i64 (cap : Int)) else none, sy⟩
  let σ : Sig := ⟨fun i => if i = 0 then some (b, 0) else none, r⟩
  have e1 : r.val 1 = some (rowsV (L.map fun n => [Value.int .i64 n])) := rfl
  have hget : ∀ i bk, (memOf cSum_con.fn.heap 1).heap.get i = some bk → i = 0 ∧ bk = .rows 1 [.int .i64] (.var 0) (.var 1) false 3 := fun i bk h => by
    have hm := buildH_get (l := cSum_con.fn.heap) rfl h
    have hm : (i, bk) ∈ [(0, ABlock.rows 1 [.int .i64] (.var 0) (.var 1) false 3)] := hm
    simp only [List.mem_singleton, Prod.mk.injEq] at hm
    exact hm
  have hrel : (memOf cSum_con.fn.heap 1).rel Tryz.prog σ W (fun b => W.heap.size ≤ b) := by
    refine ⟨fun i bk h => ?_, fun i j bi bj x y h h' hx hy hxy => ?_, fun i bk x h hlim hx => ?_, fun b h => h, fun i h => ?_, fun i h => fromN_high h⟩
    · obtain ⟨rfl, rfl⟩ := hget i bk h
      refine ⟨b, 0, _, rfl, hb, L.map (fun n => [Value.int .i64 n]), [], rest, fr, 3, e1, rfl, rfl, by decide, fun r hr => ?_, ?_, fun h => by cases h⟩
      · obtain ⟨n, _, rfl⟩ := List.mem_map.1 hr
        exact .cons ⟨n, rfl⟩ .nil
      · rw [List.nil_append]
        congr 2
        rw [show (L.map fun n => [Value.int .i64 n]).flatten = L.map fun n => Value.int .i64 n from oneRows_flat L]
    · obtain ⟨rfl, _⟩ := hget i bi h
      obtain ⟨rfl, _⟩ := hget j bj h'
      exact .inl rfl
    · obtain ⟨rfl, _⟩ := hget i bk h
      rw [show (memOf cSum_con.fn.heap 1).limit = fromN 1 [] from rfl, fromN_low (by omega)] at hlim
      cases hlim
    · have h : 1 ≤ i := h
      refine ⟨if_neg (by omega), ?_⟩
      cases hg : (memOf cSum_con.fn.heap 1).heap.get i with
      | none => rfl
      | some bk =>
        have := (hget i bk hg).1
        omega
  have hpre : FactsIn r cSum_con.pre := by
    simp only [cSum_con, FactsIn, X.bool, X.den, denL, dX, denSub, denIte, asB, dY, e1, zs_len, Option.some.injEq, Value.bool.injEq, decide_eq_false_iff_not, and_true]
    omega
  have hins : Ins σ cSum_con.fn.args [.slice (some ⟨b, 0, none⟩) L.length cap] := by
    refine .cons ?_ .nil
    have := slx_inst (σ := σ) (id := 0) (w := 1) (base := .var 0) (lo := .num 0) (len := .op1 .len (.var 1)) (cap := .var 2) (kb := 0) (kl := 0) (kn := L.length) (kc := cap) (b := b) (κ := 0) rfl (X.nat_iff.2 ⟨.i64, rfl⟩) (X.nat_iff.2 ⟨.i64, rfl⟩) (X.nat_iff.2 ⟨.i64, by simp only [X.bool, X.den, denL, dX, denSub, denIte, asB, dY]; rw [show σ.rho.val 1 = _ from e1]; exact zs_len L⟩) (X.nat_iff.2 ⟨.i64, rfl⟩) hc
    exact this
  refine (cSum_cok r σ W _ rfl rfl hpre hrel hins).mono ?_
  rintro e w' ⟨σ₂, u, rfl, hu, hk, hr2, _⟩
  refine ⟨?_, hk⟩
  have hd : (X.app 33 [.var 1]).den σ₂.rho = some (.int .i64 (IntKind.i64.wrap L.sum)) := by
    rw [hr2]
    simp only [X.den, denL]
    rw [show σ.rho.val 1 = _ from e1]
    exact sym33 L
  have hu : (AV.sint .i64 (.app 33 [.var 1])).inst σ₂ = some u := hu
  simp only [AV.inst, X.int, hd, asI, Option.some.injEq] at hu
  rw [← hu]
open Go.RowKit Go.Maps Go.Sort Go.Shelf in
theorem valsSays : ValsSays Tryz.prog 30 58 3 := fun Bm b nn D0 W hB hc hown hmax hbytes => by
  have hseq : SeqGives Fence.wide 3 Tryz.prog 58 #[.pointer (some ⟨Bm, 0, none⟩)] encZ (fun xs => ∃ ps, AllOfI D0 ps ∧ xs = ps.map (·.2)) (Maps.size D0) W :=
    vals_gives (ρ := Tryz.valsA_ren) Tryz.valsA Fence.wide _ trivial rfl (by omega) Bm b nn D0 W hB hc hown
  exact (callsIn_wide (n := 5)).1 (AnyZI.collect_in Tryz.collectA Fence.wide 5 trivial trivial rfl (by omega) 58 #[.pointer (some ⟨Bm, 0, none⟩)] trivial (enters_of Tryz.func58 (by kernel_rfl) rfl) _ _ hmax hbytes _ hseq)
theorem wordI_z (n : Int) : wordI n = wz n := by simp [wordI, Lit.wf, wz, IntKind.min, IntKind.max, IntKind.signed, IntKind.bits]
theorem valI_z : valI = valZ := by
  funext r
  unfold valI valZ
  rfl
theorem keyI_z : keyI = keyZ := by
  funext r
  unfold keyI keyZ
  rfl
theorem sy32 (rows : List (List Value)) : sy 32 [rowsV rows] = some (rowsV (oneRows (rows.map valI))) := by
  rw [sym32, valI_z]; rfl
theorem sy35 (rows : List (List Value)) : sy 35 [rowsV rows] = some (.bool (wordV rows)) := by
  rw [sym35]
  unfold wordsZ wordV
  simp only [keyI_z, valI_z, wordI_z]
theorem sy33 (l : List Int) : sy 33 [rowsV (oneRows l)] = some (.int .i64 (IntKind.i64.wrap l.sum)) := sym33 l
noncomputable def LQ : Env → CallE := libs [cLib cLedN_con, cLib cLedY_con, valsLib 30 58 3 32 35, sumLib 29 3 33]
theorem LQ_ok (F : List (X × Bool)) {r : Rho} (h : r.sym = sy) : CallsOk (E0.with F r) (LQ (E0.with F r)) := libs_ok fun c hc => by
  simp only [List.mem_cons, List.not_mem_nil, or_false] at hc
  rcases hc with rfl | rfl | rfl | rfl
  · exact lib_ok (E := E0) cLedN_cok F h
  · exact lib_ok (E := E0) cLedY_cok F h
  · exact valsLib_ok (Env.with_ok E0_ok F r) rfl (fun rows => by rw [h]; exact sy32 rows) (fun rows => by rw [h]; exact sy35 rows) valsSays Tryz.underlying3 (by kernel_rfl)
  · exact sumLib_ok (Env.with_ok E0_ok F r) rfl (fun l => by rw [h]; exact sy33 l) sumSays
theorem valRows_len (rows : List (List Value)) : (valRows rows).length = rows.length := by simp [valRows]
theorem sym33v (rows : List (List Value)) : sy 33 [rowsV (valRows rows)] = some (.int .i64 (IntKind.i64.wrap (rows.map valZ).sum)) := sym33 _
end Go.Proofs.YtpdemfamfmeemacGreat.Zs
