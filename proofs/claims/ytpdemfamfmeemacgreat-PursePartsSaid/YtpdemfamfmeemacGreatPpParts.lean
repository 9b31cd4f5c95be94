/-
  For every list of at most 24 postings, an hour, a parcel and a party, Upto, OfParcel, Sold, Has, Held and HeldOf of package purse return what the reference returns: the law PurseParts returns true for every list and three numbers and leaves the list as it was.
  Conditions: none.
-/
import Derived.Test.YtpdemfamfmeemacGreatPpRowR
import Derived.Test.YtpdemfamfmeemacGreatPpLawC
set_option linter.unusedSimpArgs false
set_option linter.unusedVariables false
namespace Go.Proofs.YtpdemfamfmeemacGreat
open Go.ChangeShapes Go.WideShapes Go.ChangeAt Go.RowKit Go.ChangeMaps
def pyVal (off cap : Nat) (l : List Zs.Ptg) (h c q : Int) : Nat → Option Value
  | 0 => some (.int .i64 (off : Int))
  | 1 => some (Zs.ptgsR l)
  | 2 => some (.int .i64 (cap : Int))
  | 3 => some (.int .i64 h)
  | 4 => some (.int .i64 c)
  | 5 => some (.int .i64 q)
  | _ => none
theorem int_ins {σ : Zs.Sig} {v : Nat} {n : Int} (h : σ.rho.val v = some (.int .i64 n)) : (Zs.Arg.one (.int .i64 v)).av.inst σ = some (.int .i64 n) := v_int h
set_option maxRecDepth 100000 in
theorem parts_any {W : World} {v : Value} (hv : v = .slice none 0 0 ∨ ∃ b off len cap l, ListIn W v b off len cap l) (h c q : Int) :
    Calls Tryz.prog 3 #[v, .int .i64 h, .int .i64 c, .int .i64 q] W fun e w' => e = .returned (.bool true) ∧ Zs.Kept (fun b => W.heap.size ≤ b) W w' := by
  rcases hv with rfl | ⟨b, off, len, cap, l, hl⟩
  · let r : Zs.Rho := ⟨pyVal 0 0 [] h c q, Zs.sy⟩
    refine Zs.pyNil_true (r := r) (σ := Zs.lawSig [] (fun _ => 0) r) (us := [.slice none 0 0, .int .i64 h, .int .i64 c, .int .i64 q]) rfl rfl (fun g id hg => Zs.law_globs hg) (no_list (laid_none W) r) ?_
    exact .cons rfl (.cons (int_ins rfl) (.cons (int_ins rfl) (.cons (int_ins rfl) .nil)))
  · let r : Zs.Rho := ⟨pyVal off cap l h c q, Zs.sy⟩
    refine Zs.py_true (r := r) (σ := Zs.lawSig [blk 60 0] (fun _ => b) r) (us := [v, .int .i64 h, .int .i64 c, .int .i64 q]) rfl rfl (fun g id hg => Zs.law_globs hg) (one_list hl rfl rfl) ?_
    exact .cons (one_arg hl rfl rfl rfl) (.cons (int_ins rfl) (.cons (int_ins rfl) (.cons (int_ins rfl) .nil)))
theorem py_readable : ([22, 3, 3, 3].all fun t => Tryz.prog.readableRec t && decide (t < Tryz.prog.types.size)) = true := by kernel_rfl
set_option maxRecDepth 100000 in
theorem py_lifted (os : Os) (started : os.Started) (H : Type) (enc : TypeId × Value → H) :
    ReturnsInHanded {} Tryz.checked os 3 .any (fun w args => Rows.pursePartsSpec.pre enc Tryz.prog Tryz.f3 [] false w args ∧ sizedMet enc Tryz.prog Tryz.f3 (OpenSpec.ofChange Rows.pursePartsSpec) false w args)
      (Rows.pursePartsSpec.post enc Tryz.prog Tryz.f3 false true false false) := by
  refine returns_plain (C := Tryz.checked) own started (by kernel_rfl) Tryz.func3
    (ChangeSpec.witness_shaped (enc := enc) (C := Tryz.checked) (os := os) (X := fun _ _ => True) false (World.laidAll Tryz.prog os []) #[.slice none 0 0, .int .i64 0, .int .i64 0, .int .i64 0] 8 (World.laidAll_os _ _ _)
      (World.shaped_of_ZipB (by kernel_rfl) (by kernel_rfl)) (by kernel_rfl) (by kernel_rfl) (by kernel_rfl)
      trivial) ?_
  intro W base args ds gs before hval0 hW
  have hval : ∀ (j : Nat) t v, Tryz.f3.params[j]? = some t → args[j]? = some v → Value.okWide Tryz.prog W .any base t v := hval0
  have hW' := hW
  obtain ⟨p, q, hA0, hV, rfl, _, _⟩ := hW
  have hA : DataW.TrodAll enc Tryz.prog W 0 (fun _ => true) true Tryz.f3.params.toList args.toList ds p := hA0
  rw [Tryz.params3] at hA hval
  have hAk := hA
  have hlt := DataW.TrodAll.lt hA
  obtain ⟨v0, v1, v2, v3, d0, d1, d2, d3, p0, p1, p2, p3, rfl, rfl, rfl, h0, h1, h2, h3⟩ := trodAll_four hA
  obtain ⟨rfl, rfl⟩ := trodVars_none hV
  obtain ⟨x1, rfl, rfl, _, _⟩ := open_int (by kernel_rfl : Tryz.prog.underlying 3 = some (.int .i64)) (hval 1 3 v1 rfl rfl) h1
  obtain ⟨x2, rfl, rfl, _, _⟩ := open_int (by kernel_rfl : Tryz.prog.underlying 3 = some (.int .i64)) (hval 2 3 v2 rfl rfl) h2
  obtain ⟨x3, rfl, rfl, _, _⟩ := open_int (by kernel_rfl : Tryz.prog.underlying 3 = some (.int .i64)) (hval 3 3 v3 rfl rfl) h3
  simp only [List.append_nil] at hW'
  refine (parts_any (list_in (hval 0 22 v0 rfl rfl) h0) x1 x2 x3).mono fun e W' ⟨he, hk⟩ => ?_
  subst he
  refine ⟨_, rfl, _, _, _, [], p0 ++ p1 ++ p2 ++ p3, [], hW', ?_, ?_, ?_, kept_but hk, fun h => by cases h⟩
  · exact trodAll_mk1 (shut_bool (by kernel_rfl : Tryz.prog.underlying 4 = some .bool) true)
  · exact trodAll_stays laidOut hk py_readable hAk hlt
  · rfl
theorem purseParts_said : Rows.PursePartsSaid :=
  OpenClaim.holds_of_wide 3 Tryz.f3 rfl rfl rfl rfl rfl rfl rfl ⟨rfl, rfl, rfl, rfl, rfl⟩ rfl rfl rfl rfl rfl (by kernel_rfl) Tryz.func3 (by kernel_rfl)
    (of_decide_eq_true (by kernel_rfl)) (by unfold Func.isWrapper; first | (rw [if_pos (by decide +kernel)]; kernel_rfl) | (rw [if_neg (by decide +kernel)]; exact ⟨rfl, rfl⟩))
    (fun os started H enc _ => py_lifted os started H enc)
end Go.Proofs.YtpdemfamfmeemacGreat
