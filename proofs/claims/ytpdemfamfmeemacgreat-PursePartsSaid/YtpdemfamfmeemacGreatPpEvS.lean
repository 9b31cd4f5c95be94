/-
  Library entries: slices.Sorted at maps.Keys.
-/
import Derived.Test.YtpdemfamfmeemacGreatPpEvK
import Derived.Test.YtpdemfamfmeemacGreatPpEvP
import Derived.Maps.Own
import Derived.Lib.SlKeysI
import Derived.Laws.AppendOwn
set_option linter.unusedSimpArgs false
set_option linter.unusedVariables false
namespace Go.Proofs.YtpdemfamfmeemacGreat.Zs
open Go
def keyI (r : List Value) : Int := match r with
  | .int _ n :: _ => n
  | _ => 0
def wordI (n : Int) : Bool := (Lit.int .i64 n).wf
def oneRows (l : List Int) : List (List Value) := l.map fun n => [.int .i64 n]
theorem oneRows_flat : ∀ l : List Int, (oneRows l).flatten = l.map fun n => .int .i64 n
  | [] => rfl
  | n :: l => by
    have := oneRows_flat l
    unfold oneRows at this ⊢
    simp [this]
theorem oneRows_fit (l : List Int) : ∀ r ∈ oneRows l, RowFits [.int .i64] r := fun r hr => by
  obtain ⟨n, _, rfl⟩ := List.mem_map.1 hr
  exact .cons ⟨n, rfl⟩ .nil
section
variable {P : Program} {kt : Nat} {vag : Bool} {vs : List CK}
end
end Go.Proofs.YtpdemfamfmeemacGreat.Zs
