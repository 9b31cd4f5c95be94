/-
  NARROWER THAN 'FOR EVERY INPUT', by the rows' own cells (each row's printed sentence says how): AwardForce: laid · AwardAwards: laid · AwardTouched: laid · AwardLater: laid.
  DERIVED. THE GIVEN ROWS OF THIS SEAT. 4 by the template 'for every input the law returns true; each argument reads behind the call as it read before'; 0 by the template 'total and deterministic' (their statements: YtfddkbbjnghefaaGreatDoorTotals.lean).
  GIVEN WITH THE SEED: the statements are not yours to turn. If you find one false, say at which input.
  Laid BY PROGRAM, IN A SANDBOX (cutbox-rows.mjs): the forced cells as the released guide's own fill.sh prints them over the translation 6501bb6222bca7b3… (all of the seat's roots in one cut). By AI agents, Wed Nov 11 2026. No macro, syntax, notation, axiom, sorry.
-/
import Derived.Test.YtfddkbbjnghefaaGreatDoorChecked
import GoSem.Claim
import GoSem.ClaimJoined
import GoSem.ClaimMapViews
import Derived.JoinedTies
import Derived.KernelRfl
namespace Go.Proofs.YtfddkbbjnghefaaGreatDoor
/- THE CELL 'sum', in the pinned program and in every row, IS THE sha256 OF THE DUMP (.gsa) THAT YtfddkbbjnghefaaGreatDoorProg.lean LOADS. Nothing in Lean hashes anything: it is a label: what it is worth is what the hold of that sum in a sandbox is worth. -/
noncomputable def Tryz.pinned : Pinned := { name := "ytfddkbbjnghefaagreatdoor", sum := "6501bb6222bca7b3ac2ce8dc2f15751f2bc48365ec2369d9156c82a3ec4a23d7", checked := Tryz.checked }
namespace Rows
def none {H : Type} : Left H := { results := [], args := [] }

/- WHAT THE LISTED PACKAGE-LEVEL VARIABLES READ AS WHEN THE CALL BEGINS. Each datum BY PROGRAM (the guide's laid-datum.mjs) off the statement by which the dump's own 'gosem.cut.vars' lays the variable. In a bare row this is a premise. The card (YtfddkbbjnghefaaGreatDoorCards.lean) ties it to the program's text. -/
def laid_lagan_claim_nothing {H : Type} : DataW H := .agg [.lit (.int .i64 0), .lit (.int .i64 1)]
def laid_lagan_claim_whole {H : Type} : DataW H := .agg [.lit (.int .i64 1), .lit (.int .i64 1)]

/-- 'laganlaw06.AwardForce': WHATEVER THE INPUT: true; the input reads as it did. -/
def awardForceSpec : ChangeSpec := { name := "awardForce", fn := fun _ => fun
  | [d1, d2, d3, d4, d5] => { results := [.lit (.bool true)], args := [d1, d2, d3, d4, d5] }
  | _ => none }
def awardForceRow : OpenClaim := { program := "ytfddkbbjnghefaagreatdoor", sum := "6501bb6222bca7b3ac2ce8dc2f15751f2bc48365ec2369d9156c82a3ec4a23d7", func := "lagan/laganlaw06.AwardForce", spec := "awardForce", unfollowed := true, recurses := true, named := ["lagan/claim.nothing", "lagan/claim.whole"], apart := false, laid := [("lagan/claim.nothing", laid_lagan_claim_nothing), ("lagan/claim.whole", laid_lagan_claim_whole)] }
def AwardForceSaid : Prop := awardForceRow.holds Tryz.pinned (OpenSpec.ofChange awardForceSpec)

/-- ITS FALSE NEIGHBOUR: 'it returns false'. Refute it at one input. -/
def awardForceWrong : ChangeSpec := { name := "awardForce", fn := fun _ => fun
  | [d1, d2, d3, d4, d5] => { results := [.lit (.bool false)], args := [d1, d2, d3, d4, d5] }
  | _ => none }
def AwardForceWrongFalsely : Prop := awardForceRow.holds Tryz.pinned (OpenSpec.ofChange awardForceWrong)

/-- 'laganlaw06.AwardAwards': WHATEVER THE INPUT: true; the input reads as it did. -/
def awardAwardsSpec : ChangeSpec := { name := "awardAwards", fn := fun _ => fun
  | [d1, d2, d3, d4, d5, d6, d7, d8, d9, d10] => { results := [.lit (.bool true)], args := [d1, d2, d3, d4, d5, d6, d7, d8, d9, d10] }
  | _ => none }
def awardAwardsRow : OpenClaim := { program := "ytfddkbbjnghefaagreatdoor", sum := "6501bb6222bca7b3ac2ce8dc2f15751f2bc48365ec2369d9156c82a3ec4a23d7", func := "lagan/laganlaw06.AwardAwards", spec := "awardAwards", unfollowed := true, recurses := true, named := ["lagan/claim.nothing", "lagan/claim.whole"], apart := false, laid := [("lagan/claim.nothing", laid_lagan_claim_nothing), ("lagan/claim.whole", laid_lagan_claim_whole)] }
def AwardAwardsSaid : Prop := awardAwardsRow.holds Tryz.pinned (OpenSpec.ofChange awardAwardsSpec)

/-- ITS FALSE NEIGHBOUR: 'it returns false'. Refute it at one input. -/
def awardAwardsWrong : ChangeSpec := { name := "awardAwards", fn := fun _ => fun
  | [d1, d2, d3, d4, d5, d6, d7, d8, d9, d10] => { results := [.lit (.bool false)], args := [d1, d2, d3, d4, d5, d6, d7, d8, d9, d10] }
  | _ => none }
def AwardAwardsWrongFalsely : Prop := awardAwardsRow.holds Tryz.pinned (OpenSpec.ofChange awardAwardsWrong)

/-- 'laganlaw06.AwardTouched': WHATEVER THE INPUT: true; the input reads as it did. -/
def awardTouchedSpec : ChangeSpec := { name := "awardTouched", fn := fun _ => fun
  | [d1, d2, d3, d4] => { results := [.lit (.bool true)], args := [d1, d2, d3, d4] }
  | _ => none }
def awardTouchedRow : OpenClaim := { program := "ytfddkbbjnghefaagreatdoor", sum := "6501bb6222bca7b3ac2ce8dc2f15751f2bc48365ec2369d9156c82a3ec4a23d7", func := "lagan/laganlaw06.AwardTouched", spec := "awardTouched", unfollowed := true, recurses := true, named := ["lagan/claim.nothing", "lagan/claim.whole"], apart := false, laid := [("lagan/claim.nothing", laid_lagan_claim_nothing), ("lagan/claim.whole", laid_lagan_claim_whole)] }
def AwardTouchedSaid : Prop := awardTouchedRow.holds Tryz.pinned (OpenSpec.ofChange awardTouchedSpec)

/-- ITS FALSE NEIGHBOUR: 'it returns false'. Refute it at one input. -/
def awardTouchedWrong : ChangeSpec := { name := "awardTouched", fn := fun _ => fun
  | [d1, d2, d3, d4] => { results := [.lit (.bool false)], args := [d1, d2, d3, d4] }
  | _ => none }
def AwardTouchedWrongFalsely : Prop := awardTouchedRow.holds Tryz.pinned (OpenSpec.ofChange awardTouchedWrong)

/-- 'laganlaw06.AwardLater': WHATEVER THE INPUT: true; the input reads as it did. -/
def awardLaterSpec : ChangeSpec := { name := "awardLater", fn := fun _ => fun
  | [d1, d2, d3, d4, d5, d6, d7] => { results := [.lit (.bool true)], args := [d1, d2, d3, d4, d5, d6, d7] }
  | _ => none }
def awardLaterRow : OpenClaim := { program := "ytfddkbbjnghefaagreatdoor", sum := "6501bb6222bca7b3ac2ce8dc2f15751f2bc48365ec2369d9156c82a3ec4a23d7", func := "lagan/laganlaw06.AwardLater", spec := "awardLater", unfollowed := true, recurses := true, named := ["lagan/claim.nothing", "lagan/claim.whole"], apart := false, laid := [("lagan/claim.nothing", laid_lagan_claim_nothing), ("lagan/claim.whole", laid_lagan_claim_whole)] }
def AwardLaterSaid : Prop := awardLaterRow.holds Tryz.pinned (OpenSpec.ofChange awardLaterSpec)

/-- ITS FALSE NEIGHBOUR: 'it returns false'. Refute it at one input. -/
def awardLaterWrong : ChangeSpec := { name := "awardLater", fn := fun _ => fun
  | [d1, d2, d3, d4, d5, d6, d7] => { results := [.lit (.bool false)], args := [d1, d2, d3, d4, d5, d6, d7] }
  | _ => none }
def AwardLaterWrongFalsely : Prop := awardLaterRow.holds Tryz.pinned (OpenSpec.ofChange awardLaterWrong)

/- THE SECOND FORM. 'bulk': how many values and letters a reading holds, each counted each time it is reached (what is shared counts as often as it is met; a slice's spare places count too). A statement '..UptoSaid' is the law's where the arguments, and the package variables that the reading takes, are together of bulk at most 1048576: NARROWER than '..Said'. Prove '..Said' where nothing that the law and all that it calls make is longer than what came in: it says more and counts as full. Else prove '..UptoSaid'. A law counts once. -/
mutual
def uptoBulk {H : Type} : DataW H → Nat
  | .lit (.string bytes) => bytes.length + 1
  | .lit _ => 1
  | .nil => 1
  | .ptr d => uptoBulk d + 1
  | .slice elems spare => uptoBulkAll elems + uptoBulkAll spare + 1
  | .agg parts => uptoBulkAll parts + 1
  | .iface _ d => uptoBulk d + 1
  | .map entries => uptoBulkEntries entries + 1
  | .held _ => 1
def uptoBulkAll {H : Type} : List (DataW H) → Nat
  | [] => 0
  | d :: r => uptoBulk d + uptoBulkAll r
def uptoBulkEntries {H : Type} : List (Lit × DataW H) → Nat
  | [] => 0
  | x :: r => uptoBulkEntry x + uptoBulkEntries r
def uptoBulkEntry {H : Type} : Lit × DataW H → Nat
  | (.string bytes, d) => bytes.length + uptoBulk d + 1
  | (_, d) => uptoBulk d + 1
 end
def uptoSmall : (H : Type) → List (DataW H) → Bool := fun _ ds => decide (uptoBulkAll ds ≤ 1048576)
def OpenSpec.upto (s : _root_.Go.ChangeSpec) : _root_.Go.OpenSpec := { _root_.Go.OpenSpec.ofChange s with cond := some uptoSmall }

/-- 'laganlaw06.AwardForce', WHERE WHAT IT READS IS OF BULK AT MOST 1048576: true; the input reads as it did. -/
def awardForceUptoRow : OpenClaim := { program := "ytfddkbbjnghefaagreatdoor", sum := "6501bb6222bca7b3ac2ce8dc2f15751f2bc48365ec2369d9156c82a3ec4a23d7", func := "lagan/laganlaw06.AwardForce", spec := "awardForce", unfollowed := true, recurses := true, named := ["lagan/claim.nothing", "lagan/claim.whole"], apart := false, laid := [("lagan/claim.nothing", laid_lagan_claim_nothing), ("lagan/claim.whole", laid_lagan_claim_whole)], narrowed := true }
def AwardForceUptoSaid : Prop := awardForceUptoRow.holds Tryz.pinned (OpenSpec.upto awardForceSpec)

/-- 'laganlaw06.AwardAwards', WHERE WHAT IT READS IS OF BULK AT MOST 1048576: true; the input reads as it did. -/
def awardAwardsUptoRow : OpenClaim := { program := "ytfddkbbjnghefaagreatdoor", sum := "6501bb6222bca7b3ac2ce8dc2f15751f2bc48365ec2369d9156c82a3ec4a23d7", func := "lagan/laganlaw06.AwardAwards", spec := "awardAwards", unfollowed := true, recurses := true, named := ["lagan/claim.nothing", "lagan/claim.whole"], apart := false, laid := [("lagan/claim.nothing", laid_lagan_claim_nothing), ("lagan/claim.whole", laid_lagan_claim_whole)], narrowed := true }
def AwardAwardsUptoSaid : Prop := awardAwardsUptoRow.holds Tryz.pinned (OpenSpec.upto awardAwardsSpec)

/-- 'laganlaw06.AwardTouched', WHERE WHAT IT READS IS OF BULK AT MOST 1048576: true; the input reads as it did. -/
def awardTouchedUptoRow : OpenClaim := { program := "ytfddkbbjnghefaagreatdoor", sum := "6501bb6222bca7b3ac2ce8dc2f15751f2bc48365ec2369d9156c82a3ec4a23d7", func := "lagan/laganlaw06.AwardTouched", spec := "awardTouched", unfollowed := true, recurses := true, named := ["lagan/claim.nothing", "lagan/claim.whole"], apart := false, laid := [("lagan/claim.nothing", laid_lagan_claim_nothing), ("lagan/claim.whole", laid_lagan_claim_whole)], narrowed := true }
def AwardTouchedUptoSaid : Prop := awardTouchedUptoRow.holds Tryz.pinned (OpenSpec.upto awardTouchedSpec)

/-- 'laganlaw06.AwardLater', WHERE WHAT IT READS IS OF BULK AT MOST 1048576: true; the input reads as it did. -/
def awardLaterUptoRow : OpenClaim := { program := "ytfddkbbjnghefaagreatdoor", sum := "6501bb6222bca7b3ac2ce8dc2f15751f2bc48365ec2369d9156c82a3ec4a23d7", func := "lagan/laganlaw06.AwardLater", spec := "awardLater", unfollowed := true, recurses := true, named := ["lagan/claim.nothing", "lagan/claim.whole"], apart := false, laid := [("lagan/claim.nothing", laid_lagan_claim_nothing), ("lagan/claim.whole", laid_lagan_claim_whole)], narrowed := true }
def AwardLaterUptoSaid : Prop := awardLaterUptoRow.holds Tryz.pinned (OpenSpec.upto awardLaterSpec)

end Rows
end Go.Proofs.YtfddkbbjnghefaaGreatDoor
