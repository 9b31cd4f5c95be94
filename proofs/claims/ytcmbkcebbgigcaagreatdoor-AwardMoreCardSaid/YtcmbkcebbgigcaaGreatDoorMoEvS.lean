/-
  slices.Sorted at maps.Keys of a map over names: an entry of the library, whose premise is what the shelf says.
-/
import Derived.Test.YtcmbkcebbgigcaaGreatDoorMoEvK
import Derived.Test.YtcmbkcebbgigcaaGreatDoorMoEvP
import Derived.Maps.Own
import Derived.Lib.SlKeysI
import Derived.Laws.AppendOwn
set_option linter.unusedSimpArgs false
set_option linter.unusedVariables false
namespace Go.Proofs.YtcmbkcebbgigcaaGreatDoor.Zs
open Go
def keyI (r : List Value) : Int := match r with
  | .int _ n :: _ => n
  | _ => 0
def wordI (n : Int) : Bool := (Lit.int .i64 n).wf
def sortK (rows : List (List Value)) : List Int := (rows.map keyI).mergeSort fun x y => decide (x ≤ y)
def oneRows (l : List Int) : List (List Value) := l.map fun n => [.int .i64 n]
def wordK (rows : List (List Value)) : Bool := rows.all fun r => wordI (keyI r)
theorem oneRows_flat : ∀ l : List Int, (oneRows l).flatten = l.map fun n => .int .i64 n
  | [] => rfl
  | n :: l => by
    have := oneRows_flat l
    unfold oneRows at this ⊢
    simp [this]
theorem oneRows_fit (l : List Int) : ∀ r ∈ oneRows l, RowFits [.int .i64] r := fun r hr => by
  obtain ⟨n, _, rfl⟩ := List.mem_map.1 hr
  exact .cons ⟨n, rfl⟩ .nil
def KeysSays (P : Program) (fS fK kt : Nat) : Prop := ∀ (Bm b nn : Nat) (D0 : DataW Unit) (R : Value → Option (DataW Unit × List MemPlace)) (W : World), Bm < W.heap.size → W.cell? ⟨Bm, 0, none⟩ = some (.map (some b)) →
  W.ownsMap P kt R b nn D0 → Maps.size D0 ≤ maxLen → Maps.size D0 * 8 ≤ 140737488355328 →
  Calls P fS #[.func (.func fK) #[] #[.pointer (some ⟨Bm, 0, none⟩)]] W fun e w' => ∃ (v : Value) (ss : List Int), e = .returned v ∧ ss.Perm (intKeys D0) ∧
    w'.ownsRow W.heap.size kt 1 v ss.length ((ss.mergeSort fun x y => decide (x ≤ y)).map fun n => .int .i64 n) ∧ (v = .slice none 0 0 ↔ ss = []) ∧ Go.RowKit.Below W.heap.size W w'
noncomputable def skeysLib (fS fK kt sg sw : Nat) (E : Env) : CallE := fun f args S =>
  match Nat.beq f fS with
  | true => match args with
    | [.func (.func g) [] [.ptr B off]] => match andB (Nat.beq g fK) (Nat.beq off 0) with
      | true => match S.heap.get B with
        | some (.cells (.map id :: _) _) => match S.heap.get id with
          | some (.smap false ks vag vs x) => match sameSch ks [.int .i64] with
            | true => match andB (E.ltF maxLenX (.op1 .len x)) (match E.dec (.app sw [x]) with | some true => true | _ => false) with
              | true => match E.dec (.op2 .eq (.op1 .len x) (.num 0)) with
                | some true => some (.ret .nilslice, S)
                | some false => match anew S (.rows 1 [.int .i64] (.num 0) (.app sg [x]) true kt) with
                  | some S' => some (.ret (.slo S.next 1 (.op1 .len x)), S')
                  | none => none
                | none => none
              | false => none
            | false => none
          | _ => none
        | _ => none
      | false => none
    | _ => none
  | false => none
section
variable {P : Program} {kt : Nat} {vag : Bool} {vs : List CK}
def datumK (P : Program) (kt : Nat) (es : List MapEntry) : DataW Unit := .map ((es.map (Go.WideElems.rg P kt fun _ => some (DataW.nil, []))).foldr DataW.insert [])
theorem rd_int (hkt : P.underlying kt = some (.int .i64)) {e : MapEntry} {n : Int} (hk : e.key = .int .i64 n) (hw : wordI n = true) :
    Go.WideElems.rd P kt (fun _ => some ((DataW.nil : DataW Unit), [])) e = some (.int .i64 n, .nil) := by
  obtain ⟨k, v, b⟩ := e
  simp only at hk
  subst hk
  exact Go.WideElems.rd_mk (R := fun _ => some ((DataW.nil : DataW Unit), [])) (yv := ((DataW.nil : DataW Unit), [])) (Go.Maps.keyOf_int_mk hkt hw) rfl
theorem entries_keys (hkt : P.underlying kt = some (.int .i64)) : ∀ {es : List MapEntry} {rows : List (List Value)}, EntRows false [.int .i64] vag vs es rows → wordK rows = true →
    (∀ e ∈ es, ∃ y, Go.WideElems.rd P kt (fun _ => some ((DataW.nil : DataW Unit), [])) e = some y) ∧ es.map (Go.WideElems.rg P kt fun _ => some ((DataW.nil : DataW Unit), [])) = rows.map fun r => (.int .i64 (keyI r), .nil)
  | [], [], _, _ => ⟨(fun e he => by cases he), rfl⟩
  | e :: es, r :: rows, h, hw => by
    obtain ⟨⟨kc, vc, rfl, f1, f2, e1, e2⟩, h⟩ := h
    simp only [wordK, List.all_cons, Bool.and_eq_true] at hw
    obtain ⟨w1, w2⟩ := hw
    obtain ⟨g1, g2⟩ := entries_keys hkt h w2
    cases f1 with
    | cons hc hl =>
      cases hl
      obtain ⟨n, rfl⟩ := hc
      have hk : e.key = .int .i64 n := e1
      have hr := rd_int hkt hk w1
      refine ⟨fun e' he => ?_, ?_⟩
      · rcases List.mem_cons.1 he with rfl | he
        · exact ⟨_, hr⟩
        · exact g1 e' he
      · simp only [List.map_cons, g2, Go.WideElems.rg_of hr]
        rfl
  | [], _ :: _, h, _ => by cases h
  | _ :: _, [], h, _ => by cases h
theorem datum_keys (hkt : P.underlying kt = some (.int .i64)) {es : List MapEntry} {rows : List (List Value)} (h : EntRows false [.int .i64] vag vs es rows) (hw : wordK rows = true) :
    (intKeys (datumK P kt es)).Perm (rows.map keyI) ∧ Maps.size (datumK P kt es) = es.length := by
  obtain ⟨_, h2⟩ := entries_keys hkt h hw
  refine ⟨?_, ?_⟩
  · unfold datumK intKeys
    rw [h2]
    have := (Go.WideShapes.sorted_perm (rows.map fun r => ((Lit.int .i64 (keyI r)), (DataW.nil : DataW Unit)))).map fun p => intOf p.1
    refine this.trans ?_
    rw [List.map_map]
    exact List.Perm.of_eq (List.map_congr_left fun r _ => rfl)
  · unfold datumK
    show List.length _ = _
    rw [(Go.WideShapes.sorted_perm _).length_eq, List.length_map]
end
theorem skeysLib_ok {E : Env} (hE : E.Ok) {r : Rho} (hr : E.rho = some r) {fS fK kt sg sw : Nat} (hsg : ∀ rows, r.sym sg [rowsV rows] = some (rowsV (oneRows (sortK rows)))) (hsw : ∀ rows, r.sym sw [rowsV rows] = some (.bool (wordK rows)))
    (hk : KeysSays E.P fS fK kt) (hkt : E.P.underlying kt = some (.int .i64)) (hcs : cellSize E.P kt = 1) : CallsOk E (skeysLib fS fK kt sg sw E) := by
  intro f args S rr S' h σ w Wr us hA hS hi
  unfold skeysLib at h
  split at h
  · rename_i hf
    obtain rfl := Nat.eq_of_beq_eq_true hf
    split at h
    · rename_i g B off
      split at h
      · rename_i hg
        obtain ⟨g1, g2⟩ := andB_ok hg
        obtain rfl := Nat.eq_of_beq_eq_true g1
        obtain rfl := Nat.eq_of_beq_eq_true g2
        split at h
        · rename_i id tl tB hB
          split at h
          · rename_i ks vag vs x hM
            split at h
            · rename_i hks
              obtain rfl := sameSch_ok hks
              split at h
              · rename_i hc
                obtain ⟨c1, c2⟩ := andB_ok hc
                have hρ : σ.rho = r := hA.rho r hr
                -- the arguments
                obtain ⟨u, rfl, hu⟩ := hi.single
                obtain ⟨fs, cs, i1, i2, rfl⟩ := inst_func hu
                cases i1
                obtain ⟨p, rfl, hp⟩ := i2.single
                obtain ⟨bB, κB, s1, rfl⟩ := inst_ptr hp
                -- the box
                obtain ⟨bB', κB', vs', rest, fr, e1, e2, e3, _, _⟩ := get_cells hS hB
                rw [s1] at e1; cases e1
                cases e3 with
                | cons hm hrest =>
                  obtain ⟨bm, κm, s2, rfl⟩ := inst_map hm
                  have hcell : w.cell? ⟨bB, 0, none⟩ = some (.map (some bm)) := by
                    rw [cell_of e2 (by simp)]
                    rfl
                  -- the map
                  obtain ⟨bm', κm', o, q1, q2, es, c, rows, q3, rfl, q4, q5⟩ := hS.at_ id _ hM
                  rw [s2] at q1; cases q1
                  have hlen := len_den q3
                  have hword : wordK rows = true := by
                    split at c2
                    · rename_i hd
                      have hden : (X.app sw [x]).den σ.rho = some (.bool (wordK rows)) := by
                        simp only [X.den, denL, q3]
                        rw [hρ]; exact hsw rows
                      exact Env.dec_ok hA hd hden
                    · cases c2
                  have h9 := Env.ltF_ok hA c1 (a := .num 1000000000) (k := .i64) rfl hlen
                  have hle := entRows_len q4
                  obtain ⟨d1, d2⟩ := entries_keys (P := E.P) hkt q4 hword
                  obtain ⟨d3, d4⟩ := datum_keys (P := E.P) hkt q4 hword
                  have hown : w.ownsMap E.P kt (fun _ => some ((DataW.nil : DataW Unit), [])) bm es.length (datumK E.P kt es) :=
                    ⟨es.toArray, c, q2, ⟨by simp only [List.size_toArray]; unfold maxLen; omega, q5, by simpa using d1⟩, by simp, rfl⟩
                  have hcall := hk bB bm es.length _ _ w (Array.getElem?_eq_some_iff.1 e2).1 hcell hown (by rw [d4]; unfold maxLen; omega) (by rw [d4]; omega)
                  have hsort : ∀ ss : List Int, ss.Perm (intKeys (datumK E.P kt es)) → (ss.mergeSort fun x y => decide (x ≤ y)) = sortK rows := fun ss hss => mergeSort_of_perm_i (hss.trans d3)
                  have hsl : ∀ ss : List Int, ss.Perm (intKeys (datumK E.P kt es)) → ss.length = rows.length := fun ss hss => by rw [(hss.trans d3).length_eq, List.length_map]
                  have hxl : (X.op1 .len x).nat σ.rho = some rows.length := X.nat_iff.2 ⟨_, hlen⟩
                  split at h
                  · rename_i hz
                    cases h
                    have h0 : rows.length = 0 := by
                      have hb := Env.dec_ok hA hz (show (X.op2 .eq (.op1 .len x) (.num 0)).den σ.rho = _ from eq_den (b := .num 0) (n := 0) (k' := .i64) hlen rfl)
                      have hb' : ((rows.length : Int) == 0) = true := hb
                      have := eq_of_beq hb'
                      omega
                    refine hcall.mono ?_
                    rintro e w' ⟨v, ss, rfl, hss, hrow, hnil, hbel⟩
                    have hs0 : ss = [] := List.eq_nil_of_length_eq_zero (by rw [hsl ss hss, h0])
                    obtain rfl := hnil.2 hs0
                    have hkp : Kept (fun b => w.heap.size ≤ b) w w' := ⟨hbel.size, fun b hb => hbel.block b (by omega), hbel.os, hbel.output⟩
                    exact ⟨σ, ⟨_, rfl, rfl⟩, pure_post hS hkp⟩
                  · rename_i hz
                    have h0 : rows.length ≠ 0 := by
                      have hb := Env.dec_ok hA hz (show (X.op2 .eq (.op1 .len x) (.num 0)).den σ.rho = _ from eq_den (b := .num 0) (n := 0) (k' := .i64) hlen rfl)
                      have hb' : ((rows.length : Int) == 0) = false := hb
                      intro h0
                      rw [h0] at hb'
                      cases hb'
                    split at h
                    · rename_i S₁ hnw
                      cases h
                      refine hcall.mono ?_
                      rintro e w' ⟨v, ss, rfl, hss, hrow, hnil, hbel⟩
                      have hlss := hsl ss hss
                      have hkp : Kept (fun b => w.heap.size ≤ b) w w' := ⟨hbel.size, fun b hb => hbel.block b (by omega), hbel.os, hbel.output⟩
                      obtain ⟨r1, r2⟩ := hrow
                      rcases r2 with ⟨hv, hn0⟩ | ⟨gb, cap, cur, rfl, hbase, hgb, hnc, hcm, hcz, htk⟩
                      · exact absurd hn0 (by omega)
                      · unfold anew at hnw
                        split at hnw
                        · rename_i hmx
                          cases hnw
                          have hden : (X.app sg [x]).den (σ.add S.next (gb, cap)).rho = some (rowsV (oneRows (sortK rows))) := by
                            simp only [X.den, denL]
                            rw [show (σ.add S.next (gb, cap)).rho = σ.rho from rfl, q3, hρ]
                            exact hsg rows
                          have hcells : cur = ((oneRows (sortK rows)).flatten ++ cur.toList.drop (ss.length * 1)).toArray := by
                            apply Array.ext'
                            rw [oneRows_flat, ← hsort ss hss, ← htk, List.take_append_drop]
                          have hcl : ((oneRows (sortK rows)).flatten ++ cur.toList.drop (ss.length * 1)).length = cap := by
                            have := congrArg Array.size hcells
                            simp only [List.size_toArray] at this
                            omega
                          have hB' : BRel E.P (σ.add S.next (gb, cap)) cap (.rows 1 [.int .i64] (.num 0) (.app sg [x]) true kt) (.cells cur kt (0, 0)) := by
                            have := rows_brel (P := E.P) (κ := cap) (size := 1) (sch := [.int .i64]) (rest := cur.toList.drop (ss.length * 1)) (fr := (0, 0)) (elem := kt) hden rfl (by decide) (oneRows_fit _) (by rw [hcl]; omega) hcs (.inl (Nat.le_refl _))
                            rw [← hcells] at this
                            exact this
                          refine ⟨_, ⟨_, ?_, rfl⟩, post_name hS (lt_of_blt hmx) hkp hbase hgb hB'⟩
                          simp only [AV.inst, Sig.add_same]
                          rw [show (σ.add S.next (gb, cap)).rho = σ.rho from rfl, hxl]
                          simp only
                          rw [if_pos (by omega), hlss]
                        · cases hnw
                    · cases h
                  · cases h
              · cases h
            · cases h
          · cases h
        · cases h
      · cases h
    · cases h
  · cases h
end Go.Proofs.YtcmbkcebbgigcaaGreatDoor.Zs
