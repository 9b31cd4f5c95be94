/-
  Library entries: slices.Collect at maps.Values, and a sum of it.
-/
import Derived.Test.YtpdemfamfmeemacGreatPpEvS
import Derived.Test.YtpdemfamfmeemacGreatPpVals
set_option linter.unusedSimpArgs false
set_option linter.unusedVariables false
namespace Go.Proofs.YtpdemfamfmeemacGreat.Zs
open Go Go.RowKit Go.Maps Go.Sort Go.Shelf
def valI (r : List Value) : Int := match r with
  | _ :: .int _ n :: _ => n
  | _ => 0
def wordV (rows : List (List Value)) : Bool := rows.all fun r => wordI (keyI r) && wordI (valI r)
theorem sum_perm {l m : List Int} (h : l.Perm m) : l.sum = m.sum := by
  induction h with
  | nil => rfl
  | cons x _ ih => simp [ih]
  | swap x y l => simp only [List.sum_cons]; omega
  | trans _ _ h1 h2 => exact h1.trans h2
def ValsSays (P : Program) (fC fV kt : Nat) : Prop := ∀ (Bm b nn : Nat) (D0 : DataW Unit) (W : World), Bm < W.heap.size → W.cell? ⟨Bm, 0, none⟩ = some (.map (some b)) →
  W.ownsMap P kt (plainElem P kt) b nn D0 → Maps.size D0 ≤ maxLen → Maps.size D0 * 8 ≤ 140737488355328 →
  Calls P fC #[.func (.func fV) #[] #[.pointer (some ⟨Bm, 0, none⟩)]] W fun e w' => ∃ (v : Value) (ss : List Int), e = .returned v ∧ (∃ ps, Go.Proofs.AllOfI D0 ps ∧ ss = ps.map (·.2)) ∧
    w'.ownsRow W.heap.size kt 1 v ss.length (ss.map fun n => .int .i64 n) ∧ (v = .slice none 0 0 ↔ ss = []) ∧ Go.RowKit.Below W.heap.size W w'
def SumSays (P : Program) (fS kt : Nat) : Prop := ∀ (b cap : Nat) (L : List Int) (rest : List Value) (fr : Nat × Nat) (W : World), W.heap[b]? = some (.cells ((L.map fun n => Value.int .i64 n) ++ rest).toArray kt fr) →
  L.length ≤ 1000000000 → L.length ≤ cap → Calls P fS #[.slice (some ⟨b, 0, none⟩) L.length cap] W fun e w' => e = .returned (.int .i64 (IntKind.i64.wrap L.sum)) ∧ Kept (fun b => W.heap.size ≤ b) W w'
noncomputable def valsLib (fC fV kt sv sw : Nat) (E : Env) : CallE := fun f args S =>
  match Nat.beq f fC with
  | true => match args with
    | [.func (.func g) [] [.ptr B off]] => match andB (Nat.beq g fV) (Nat.beq off 0) with
      | true => match S.heap.get B with
        | some (.cells (.map id :: _) _) => match S.heap.get id with
          | some (.smap false ks false vs x) => match andB (sameSch ks [.int .i64]) (sameSch vs [.int .i64]) with
            | true => match andB (E.ltF maxLenX (.op1 .len x)) (match E.dec (.app sw [x]) with | some true => true | _ => false) with
              | true => match E.dec (.op2 .eq (.op1 .len x) (.num 0)) with
                | some true => some (.ret .nilslice, S)
                | some false => match anew S (.bag 1 [.int .i64] (.app sv [x]) kt) with
                  | some S' => some (.ret (.slo S.next 1 (.op1 .len (.app sv [x]))), S')
                  | none => none
                | none => none
              | false => none
            | false => none
          | _ => none
        | _ => none
      | false => none
    | _ => none
  | false => none
noncomputable def sumLib (fS kt sm : Nat) (E : Env) : CallE := fun f args S =>
  match Nat.beq f fS with
  | true => match args with
    | [.slo id w len] => match S.heap.get id with
      | some (.bag w' sch x t) => match andB (sameSch sch [.int .i64]) (andB (sameX len (.op1 .len x)) (andB (E.ltF maxLenX (.op1 .len x)) (Nat.beq t kt))) with
        | true => some (.ret (.sint .i64 (.app sm [x])), S)
        | false => none
      | _ => none
    | _ => none
  | false => none
section
variable {P : Program} {kt : Nat}
theorem rd_intV (hkt : P.underlying kt = some (.int .i64)) {e : MapEntry} {n m : Int} (hk : e.key = .int .i64 n) (hv : e.val = .int .i64 m) (hw : wordI n = true) (hw' : wordI m = true) :
    Go.WideElems.rd P kt (plainElem (H := Unit) P kt) e = some (.int .i64 n, .lit (.int .i64 m)) := by
  obtain ⟨k, v, b⟩ := e
  simp only at hk hv
  subst hk hv
  exact Go.WideElems.rd_mk (R := plainElem (H := Unit) P kt) (Go.Maps.keyOf_int_mk hkt hw) (plainElem_int hkt hw')
theorem entries_vals (hkt : P.underlying kt = some (.int .i64)) : ∀ {es : List MapEntry} {rows : List (List Value)}, EntRows false [.int .i64] false [.int .i64] es rows → wordV rows = true →
    (∀ e ∈ es, ∃ y, Go.WideElems.rd P kt (plainElem (H := Unit) P kt) e = some y) ∧ es.map (Go.WideElems.rg P kt (plainElem (H := Unit) P kt)) = rows.map fun r => (.int .i64 (keyI r), .lit (.int .i64 (valI r)))
  | [], [], _, _ => ⟨(fun e he => by cases he), rfl⟩
  | e :: es, r :: rows, h, hw => by
    obtain ⟨⟨kc, vc, rfl, f1, f2, e1, e2⟩, h⟩ := h
    simp only [wordV, List.all_cons, Bool.and_eq_true] at hw
    obtain ⟨⟨w1, w1'⟩, w2⟩ := hw
    obtain ⟨g1, g2⟩ := entries_vals hkt h w2
    cases f1 with
    | cons hc hl =>
      cases hl
      obtain ⟨n, rfl⟩ := hc
      cases f2 with
      | cons hc2 hl2 =>
        cases hl2
        obtain ⟨m, rfl⟩ := hc2
        have hk : e.key = .int .i64 n := e1
        have hv : e.val = .int .i64 m := e2
        have hr := rd_intV hkt hk hv w1 w1'
        refine ⟨fun e' he => ?_, ?_⟩
        · rcases List.mem_cons.1 he with rfl | he
          · exact ⟨_, hr⟩
          · exact g1 e' he
        · simp only [List.map_cons, g2, Go.WideElems.rg_of hr]
          rfl
  | [], _ :: _, h, _ => by cases h
  | _ :: _, [], h, _ => by cases h
def datumV (P : Program) (kt : Nat) (es : List MapEntry) : DataW Unit := .map ((es.map (Go.WideElems.rg P kt (plainElem (H := Unit) P kt))).foldr DataW.insert [])
def litI : DataW Unit → Int
  | .lit (.int _ n) => n
  | _ => 0
theorem datum_vals (hkt : P.underlying kt = some (.int .i64)) {es : List MapEntry} {rows : List (List Value)} (h : EntRows false [.int .i64] false [.int .i64] es rows) (hw : wordV rows = true) {W : World} {b n : Nat}
    (hown : W.ownsMap P kt (plainElem P kt) b n (datumV P kt es)) : Maps.size (datumV P kt es) = es.length ∧ ∀ ps : List (Int × Int), Go.Proofs.AllOfI (datumV P kt es) ps → (ps.map (·.2)).Perm (rows.map valI) := by
  obtain ⟨_, h2⟩ := entries_vals hkt h hw
  refine ⟨?_, fun ps hps => ?_⟩
  · unfold datumV
    show List.length _ = _
    rw [(Go.WideShapes.sorted_perm _).length_eq, List.length_map]
  · obtain ⟨es', hD, hpw, hkl⟩ := hown.entries (Go.Maps.int_keyed hkt)
    have hes : es' = (rows.map fun r => ((Lit.int .i64 (keyI r)), (DataW.lit (Lit.int .i64 (valI r)) : DataW Unit))).foldr DataW.insert [] := by
      unfold datumV at hD
      rw [h2] at hD
      injection hD with hD
      exact hD.symm
    have hperm := Go.WideShapes.sorted_perm (rows.map fun r => ((Lit.int .i64 (keyI r)), (DataW.lit (Lit.int .i64 (valI r)) : DataW Unit)))
    rw [← hes] at hperm
    have hat : ∀ r ∈ rows, (datumV P kt es).atKey (.int .i64 (keyI r)) .nil = .lit (.int .i64 (valI r)) := fun r hr => by
      rw [hD]
      have hm : ((Lit.int .i64 (keyI r)), (DataW.lit (Lit.int .i64 (valI r)) : DataW Unit)) ∈ es' := hperm.mem_iff.2 (List.mem_map.2 ⟨r, hr, rfl⟩)
      exact Go.WideAt.atKey_mem _ (hkl _ hm) hpw hm
    obtain ⟨p1, p2⟩ := hps
    have hf : ps.map (·.2) = (ps.map (·.1)).map fun k => litI ((datumV P kt es).atKey (.int .i64 k) .nil) := by
      rw [List.map_map]
      refine List.map_congr_left fun p hp => ?_
      show p.2 = litI ((datumV P kt es).atKey (.int .i64 p.1) .nil)
      rw [p2 p hp .nil]
      rfl
    have hk : (intKeys (datumV P kt es)).Perm (rows.map keyI) := by
      rw [hD]
      show (es'.map fun p => Go.intOf p.1).Perm _
      have := hperm.map fun p => Go.intOf p.1
      refine this.trans ?_
      rw [List.map_map]
      exact List.Perm.of_eq (List.map_congr_left fun r _ => rfl)
    rw [hf]
    refine ((p1.trans hk).map _).trans (List.Perm.of_eq ?_)
    rw [List.map_map]
    exact List.map_congr_left fun r hr => by
      show litI ((datumV P kt es).atKey (.int .i64 (keyI r)) .nil) = valI r
      rw [hat r hr]
      rfl
end
theorem valsLib_ok {E : Env} (hE : E.Ok) {r : Rho} (hr : E.rho = some r) {fC fV kt sv sw : Nat} (hsv : ∀ rows, r.sym sv [rowsV rows] = some (rowsV (oneRows (rows.map valI)))) (hsw : ∀ rows, r.sym sw [rowsV rows] = some (.bool (wordV rows)))
    (hk : ValsSays E.P fC fV kt) (hkt : E.P.underlying kt = some (.int .i64)) (hcs : cellSize E.P kt = 1) : CallsOk E (valsLib fC fV kt sv sw E) := by
  intro f args S rr S' h σ w Wr us hA hS hi
  unfold valsLib at h
  split at h
  · rename_i hf
    obtain rfl := Nat.eq_of_beq_eq_true hf
    split at h
    · rename_i g B off
      split at h
      · rename_i hg
        obtain ⟨g1, g2⟩ := andB_ok hg
        obtain rfl := Nat.eq_of_beq_eq_true g1
        obtain rfl := Nat.eq_of_beq_eq_true g2
        split at h
        · rename_i id tl tB hB
          split at h
          · rename_i ks vs x hM
            split at h
            · rename_i hks
              obtain ⟨k1, k2⟩ := andB_ok hks
              obtain rfl := sameSch_ok k1
              obtain rfl := sameSch_ok k2
              split at h
              · rename_i hc
                obtain ⟨c1, c2⟩ := andB_ok hc
                have hρ : σ.rho = r := hA.rho r hr
                obtain ⟨u, rfl, hu⟩ := hi.single
                obtain ⟨fs, cs, i1, i2, rfl⟩ := inst_func hu
                cases i1
                obtain ⟨p, rfl, hp⟩ := i2.single
                obtain ⟨bB, κB, s1, rfl⟩ := inst_ptr hp
                obtain ⟨bB', κB', vs', rest, fr, e1, e2, e3, _, _⟩ := get_cells hS hB
                rw [s1] at e1; cases e1
                cases e3 with
                | cons hm hrest =>
                  obtain ⟨bm, κm, s2, rfl⟩ := inst_map hm
                  have hcell : w.cell? ⟨bB, 0, none⟩ = some (.map (some bm)) := by
                    rw [cell_of e2 (by simp)]
                    rfl
                  obtain ⟨bm', κm', o, q1, q2, es, c, rows, q3, rfl, q4, q5⟩ := hS.at_ id _ hM
                  rw [s2] at q1; cases q1
                  have hlen := len_den q3
                  have hword : wordV rows = true := by
                    split at c2
                    · rename_i hd
                      have hden : (X.app sw [x]).den σ.rho = some (.bool (wordV rows)) := by
                        simp only [X.den, denL, q3]
                        rw [hρ]; exact hsw rows
                      exact Env.dec_ok hA hd hden
                    · cases c2
                  have h9 := Env.ltF_ok hA c1 (a := .num 1000000000) (k := .i64) rfl hlen
                  have hle := entRows_len q4
                  obtain ⟨d1, d2⟩ := entries_vals (P := E.P) hkt q4 hword
                  have hown : w.ownsMap E.P kt (plainElem E.P kt) bm es.length (datumV E.P kt es) :=
                    ⟨es.toArray, c, q2, ⟨by simp only [List.size_toArray]; unfold maxLen; omega, q5, by simpa using d1⟩, by simp, rfl⟩
                  obtain ⟨d4, d3⟩ := datum_vals (P := E.P) hkt q4 hword hown
                  have hcall := hk bB bm es.length _ w (Array.getElem?_eq_some_iff.1 e2).1 hcell hown (by rw [d4]; unfold maxLen; omega) (by rw [d4]; omega)
                  split at h
                  · rename_i hz
                    cases h
                    have h0 : rows.length = 0 := by
                      have hb := Env.dec_ok hA hz (show (X.op2 .eq (.op1 .len x) (.num 0)).den σ.rho = _ from eq_den (b := .num 0) (n := 0) (k' := .i64) hlen rfl)
                      have hb' : ((rows.length : Int) == 0) = true := hb
                      have := eq_of_beq hb'
                      omega
                    refine hcall.mono ?_
                    rintro e w' ⟨v, ss, rfl, ⟨ps, hps, rfl⟩, hrow, hnil, hbel⟩
                    have hs0 : ps.map (·.2) = [] := List.eq_nil_of_length_eq_zero (by rw [(d3 ps hps).length_eq, List.length_map, h0])
                    obtain rfl := hnil.2 hs0
                    have hkp : Kept (fun b => w.heap.size ≤ b) w w' := ⟨hbel.size, fun b hb => hbel.block b (by omega), hbel.os, hbel.output⟩
                    exact ⟨σ, ⟨_, rfl, rfl⟩, pure_post hS hkp⟩
                  · rename_i hz
                    have h0 : rows.length ≠ 0 := by
                      have hb := Env.dec_ok hA hz (show (X.op2 .eq (.op1 .len x) (.num 0)).den σ.rho = _ from eq_den (b := .num 0) (n := 0) (k' := .i64) hlen rfl)
                      have hb' : ((rows.length : Int) == 0) = false := hb
                      intro h0
                      rw [h0] at hb'
                      cases hb'
                    split at h
                    · rename_i S₁ hnw
                      cases h
                      refine hcall.mono ?_
                      rintro e w' ⟨v, ss, rfl, ⟨ps, hps, rfl⟩, hrow, hnil, hbel⟩
                      have hperm := d3 ps hps
                      generalize ps.map (·.2) = ss at hrow hnil hperm
                      have hlss : ss.length = rows.length := by rw [hperm.length_eq, List.length_map]
                      have hkp : Kept (fun b => w.heap.size ≤ b) w w' := ⟨hbel.size, fun b hb => hbel.block b (by omega), hbel.os, hbel.output⟩
                      obtain ⟨r1, r2⟩ := hrow
                      rcases r2 with ⟨hv, hn0⟩ | ⟨gb, cap, cur, rfl, hbase, hgb, hnc, hcm, hcz, htk⟩
                      · exact absurd hn0 (by omega)
                      · unfold anew at hnw
                        split at hnw
                        · rename_i hmx
                          cases hnw
                          have hden0 : (X.app sv [x]).den σ.rho = some (rowsV (oneRows (rows.map valI))) := by
                            simp only [X.den, denL]
                            rw [q3, hρ]
                            exact hsv rows
                          have hden : (X.app sv [x]).den (σ.add S.next (gb, cap)).rho = some (rowsV (oneRows (rows.map valI))) := hden0
                          have hcells : cur = ((oneRows ss).flatten ++ cur.toList.drop (ss.length * 1)).toArray := by
                            apply Array.ext'
                            rw [oneRows_flat, ← htk, List.take_append_drop]
                          have hcl : ((oneRows ss).flatten ++ cur.toList.drop (ss.length * 1)).length = cap := by
                            have := congrArg Array.size hcells
                            simp only [List.size_toArray] at this
                            omega
                          have hB' : BRel E.P (σ.add S.next (gb, cap)) cap (.bag 1 [.int .i64] (.app sv [x]) kt) (.cells cur kt (0, 0)) :=
                            ⟨oneRows (rows.map valI), oneRows ss, cur.toList.drop (ss.length * 1), (0, 0), hden, hperm.map _, rfl, by decide, oneRows_fit _, by rw [← hcells], by rw [hcs, hcl]; omega, hcs, .inl (Nat.le_refl _)⟩
                          have hxl : (X.op1 .len (.app sv [x])).nat σ.rho = some rows.length := by
                            refine X.nat_iff.2 ⟨.i64, ?_⟩
                            have := len_den hden0
                            rw [this]
                            simp [oneRows]
                          refine ⟨_, ⟨_, ?_, rfl⟩, post_name hS (lt_of_blt hmx) hkp hbase hgb hB'⟩
                          simp only [AV.inst, Sig.add_same]
                          rw [show (σ.add S.next (gb, cap)).rho = σ.rho from rfl, hxl]
                          simp only
                          rw [if_pos (by omega), hlss]
                        · cases hnw
                    · cases h
                  · cases h
              · cases h
            · cases h
          · cases h
        · cases h
      · cases h
    · cases h
  · cases h
theorem sumLib_ok {E : Env} (hE : E.Ok) {r : Rho} (hr : E.rho = some r) {fS kt sm : Nat} (hsm : ∀ l : List Int, r.sym sm [rowsV (oneRows l)] = some (.int .i64 (IntKind.i64.wrap l.sum))) (hk : SumSays E.P fS kt) : CallsOk E (sumLib fS kt sm E) := by
  intro f args S rr S' h σ w Wr us hA hS hi
  unfold sumLib at h
  split at h
  · rename_i hf
    obtain rfl := Nat.eq_of_beq_eq_true hf
    split at h
    · rename_i id wd len
      split at h
      · rename_i w' sch x t hB
        split at h
        · rename_i hc
          cases h
          obtain ⟨c1, c2⟩ := andB_ok hc
          obtain ⟨c5, c6⟩ := andB_ok c2
          obtain ⟨c7, c8⟩ := andB_ok c6
          obtain rfl := sameSch_ok c1
          obtain rfl := sameX_ok c5
          obtain rfl := Nat.eq_of_beq_eq_true c8
          have hρ : σ.rho = r := hA.rho r hr
          obtain ⟨u, rfl, hu⟩ := hi.single
          obtain ⟨b, κ, n, s1, s2, s3, rfl⟩ := inst_slo hu
          obtain ⟨b', κ', o, q1, q2, rows, L, rest, fr, q3, q4, q5, q6, q7, rfl, q8, q9, q10⟩ := hS.at_ id _ hB
          rw [s1] at q1; cases q1
          have one : ∀ l : List (List Value), (∀ r ∈ l, RowFits [.int .i64] r) → ∃ m : List Int, l = oneRows m := fun l => by
            induction l with
            | nil => exact fun _ => ⟨[], rfl⟩
            | cons a l ih =>
              intro h
              obtain ⟨m, rfl⟩ := ih fun r hr => h r (List.mem_cons_of_mem _ hr)
              have ha := h a List.mem_cons_self
              cases ha with
              | cons hc hl =>
                cases hl
                obtain ⟨n, rfl⟩ := hc
                exact ⟨n :: m, rfl⟩
          obtain ⟨m, rfl⟩ := one rows q7
          obtain ⟨mL, rfl⟩ := one L fun r hr => q7 r (q4.mem_iff.1 hr)
          have hlen := len_den q3
          have h9 := Env.ltF_ok hA c7 (a := .num 1000000000) (k := .i64) rfl hlen
          have hn : n = (oneRows m).length := by
            obtain ⟨k, hk'⟩ := X.nat_iff.1 s2
            rw [hlen] at hk'
            have := (Value.int.inj (Option.some.inj hk')).2
            omega
          have hll : (oneRows mL).length = (oneRows m).length := q4.length_eq
          have hmm : mL.length = m.length := by simpa [oneRows] using hll
          have hml : (oneRows m).length = m.length := by simp [oneRows]
          have hp : mL.Perm m := by
            have := q4.map keyI
            have e : ∀ l : List Int, (oneRows l).map keyI = l := fun l => by
              unfold oneRows
              rw [List.map_map]
              conv => rhs; rw [← List.map_id l]
              exact List.map_congr_left fun _ _ => rfl
            rwa [e, e] at this
          rw [oneRows_flat] at q2
          have hcall := hk b κ mL rest fr w q2 (by omega) (by omega)
          rw [hn, hml, ← hmm]
          refine hcall.mono ?_
          rintro e w' ⟨rfl, hkp⟩
          refine ⟨σ, ⟨_, ?_, rfl⟩, pure_post hS hkp⟩
          have hd : (X.app sm [x]).den σ.rho = some (.int .i64 (IntKind.i64.wrap m.sum)) := by
            simp only [X.den, denL, q3]
            rw [hρ]; exact hsm m
          rw [sum_perm hp]
          simp only [AV.inst, X.int, hd, asI]
        · cases h
      · cases h
    · cases h
  · cases h
end Go.Proofs.YtpdemfamfmeemacGreat.Zs
