/-
  For every list of at most 24 postings and a posting more, CheckPosting, Check and Append of package purse return what the reference returns: the law PurseChecks returns true for every list and posting and leaves its arguments as they were.
  Conditions: none.
-/
import Derived.Test.YtfmgfehjbedcmaaPcRowR
import Derived.Test.YtfmgfehjbedcmaaPcLawC
set_option linter.unusedSimpArgs false
set_option linter.unusedVariables false
namespace Go.Proofs.Ytfmgfehjbedcmaa
open Go.ChangeShapes Go.WideShapes Go.ChangeAt Go.RowKit Go.ChangeMaps

def plVal (off cap : Nat) (l : List Zs.Ptg) (p : Zs.Ptg) : Nat → Option Value
  | 0 => some (.int .i64 (off : Int))
  | 1 => some (Zs.ptgsR l)
  | 2 => some (.int .i64 (cap : Int))
  | n + 3 => p.row[n]?
theorem pl_row {off cap : Nat} {l : List Zs.Ptg} {p : Zs.Ptg} (j : Nat) (h : j < 8) : plVal off cap l p (3 + j) = p.row[j]? := by
  rcases j with _ | _ | _ | _ | _ | _ | _ | _ | j <;> first | rfl | omega
set_option maxRecDepth 100000 in
theorem checks_any {W : World} {v : Value} (hv : v = .slice none 0 0 ∨ ∃ b off len cap l, ListIn W v b off len cap l) (p : Zs.Ptg) :
    Calls Try.prog 3 #[v, .agg p.row.toArray] W fun e w' => e = .returned (.bool true) ∧ Zs.Kept (fun b => W.heap.size ≤ b) W w' := by
  rcases hv with rfl | ⟨b, off, len, cap, l, h⟩
  · let r : Zs.Rho := ⟨plVal 0 0 [] p, Zs.sy⟩
    refine Zs.plNil_true (r := r) (σ := Zs.lawSig [] (fun _ => 0) r) (us := [.slice none 0 0, .agg p.row.toArray]) rfl rfl (fun g id hg => Zs.law_globs hg) (no_list (laid_none W) r) ?_
    exact .cons rfl (.cons (ptg_ins pl_row) .nil)
  · let r : Zs.Rho := ⟨plVal off cap l p, Zs.sy⟩
    refine Zs.pl_true (r := r) (σ := Zs.lawSig [blk 60 0] (fun _ => b) r) (us := [v, .agg p.row.toArray]) rfl rfl (fun g id hg => Zs.law_globs hg) (one_list h rfl rfl) ?_
    exact .cons (one_arg h rfl rfl rfl) (.cons (ptg_ins pl_row) .nil)

theorem pl_readable : ([22, 24].all fun t => Try.prog.readableRec t && decide (t < Try.prog.types.size)) = true := by kernel_rfl
set_option maxRecDepth 100000 in
theorem pl_lifted (os : Os) (started : os.Started) (H : Type) (enc : TypeId × Value → H) :
    ReturnsInHanded {} Try.checked os 3 .any (fun w args => Rows.purseChecksSpec.pre enc Try.prog Try.f3 [] false w args ∧ sizedMet enc Try.prog Try.f3 (OpenSpec.ofChange Rows.purseChecksSpec) false w args)
      (Rows.purseChecksSpec.post enc Try.prog Try.f3 false true false false) := by
  refine returns_plain (C := Try.checked) own started (by kernel_rfl) Try.func3
    (ChangeSpec.witness_shaped (enc := enc) (C := Try.checked) (os := os) (X := fun _ _ => True) false (World.laidAll Try.prog os []) #[.slice none 0 0, .agg #[.int .i64 0, .int .i64 0, .int .u8 0, .int .i64 0, .int .i64 0, .int .i64 0, .int .i64 0, .int .i64 0]] 8 (World.laidAll_os _ _ _)
      (World.shaped_of_ZipB (by kernel_rfl) (by kernel_rfl)) (by kernel_rfl) (by kernel_rfl) (by kernel_rfl)
      trivial) ?_
  intro W base args ds gs before hval0 hW
  have hval : ∀ (j : Nat) t v, Try.f3.params[j]? = some t → args[j]? = some v → Value.okWide Try.prog W .any base t v := hval0
  have hW' := hW
  obtain ⟨p, q, hA0, hV, rfl, _, _⟩ := hW
  have hA : DataW.TrodAll enc Try.prog W 0 (fun _ => true) true Try.f3.params.toList args.toList ds p := hA0
  rw [Try.params3] at hA hval
  have hAk := hA
  have hlt := DataW.TrodAll.lt hA
  obtain ⟨v0, v1, d0, d1, p0, p1, rfl, rfl, rfl, h0, h1⟩ := trodAll_two hA
  obtain ⟨rfl, rfl⟩ := trodVars_none hV
  obtain ⟨x, rfl⟩ := post_in (hval 1 24 v1 rfl rfl) h1
  simp only [List.append_nil] at hW'
  refine (checks_any (list_in (hval 0 22 v0 rfl rfl) h0) x).mono fun e W' ⟨he, hk⟩ => ?_
  subst he
  refine ⟨_, rfl, _, _, _, [], p0 ++ p1, [], hW', ?_, ?_, ?_, kept_but hk, fun h => by cases h⟩
  · exact trodAll_mk1 (shut_bool (by kernel_rfl : Try.prog.underlying 4 = some .bool) true)
  · exact trodAll_stays laidOut hk pl_readable hAk hlt
  · rfl

theorem purseChecks_said : Rows.PurseChecksSaid :=
  OpenClaim.holds_of_wide 3 Try.f3 rfl rfl rfl rfl rfl rfl rfl ⟨rfl, rfl, rfl, rfl, rfl⟩ rfl rfl rfl rfl rfl (by kernel_rfl) Try.func3 (by kernel_rfl)
    (of_decide_eq_true (by kernel_rfl)) (by unfold Func.isWrapper; first | (rw [if_pos (by decide +kernel)]; kernel_rfl) | (rw [if_neg (by decide +kernel)]; exact ⟨rfl, rfl⟩))
    (fun os started H enc _ => pl_lifted os started H enc)
end Go.Proofs.Ytfmgfehjbedcmaa
