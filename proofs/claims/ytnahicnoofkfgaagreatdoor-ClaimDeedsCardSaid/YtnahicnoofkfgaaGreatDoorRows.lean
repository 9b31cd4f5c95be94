/-
  NARROWER THAN 'FOR EVERY INPUT', by the rows' own cells (each row's printed sentence says how): ClaimFractions: laid · ClaimSums: laid · ClaimDeeds: laid · ClaimCommon: laid · ClaimSplits: laid · ClaimTexts: laid · ClaimRules: laid · ClaimParts: laid · ClaimSure: laid · ClaimPence: laid · ClaimMemory: laid.
  DERIVED. THE GIVEN ROWS OF THIS SEAT. 11 by the template 'for every input the law returns true; each argument reads behind the call as it read before'; 0 by the template 'total and deterministic' (their statements: YtnahicnoofkfgaaGreatDoorTotals.lean).
  GIVEN WITH THE SEED: the statements are not yours to turn. If you find one false, say at which input.
  Laid BY PROGRAM, IN A SANDBOX (cutbox-rows.mjs): the forced cells as the released guide's own fill.sh prints them over the translation 01fdacc10d212000… (all of the seat's roots in one cut). By AI agents, Wed Nov 11 2026. No macro, syntax, notation, axiom, sorry.
-/
import Derived.Test.YtnahicnoofkfgaaGreatDoorChecked
import GoSem.PinnedTables
import GoSem.Claim
import GoSem.ClaimJoined
import GoSem.ClaimMapViews
import Derived.JoinedTies
import Derived.KernelRfl
namespace Go.Proofs.YtnahicnoofkfgaaGreatDoor
/- THE CELL 'sum', in the pinned program and in every row, IS THE sha256 OF THE DUMP (.gsa) THAT YtnahicnoofkfgaaGreatDoorProg.lean LOADS. Nothing in Lean hashes anything: it is a label: what it is worth is what the hold of that sum in a sandbox is worth. -/
noncomputable def Tryz.pinned : Pinned := { name := "ytnahicnoofkfgaagreatdoor", sum := "01fdacc10d212000d69367564b3e52da2849efc490f8d53d6c93c9606f354b46", checked := Tryz.checked }
namespace Rows
def none {H : Type} : Left H := { results := [], args := [] }

/- WHAT THE LISTED PACKAGE-LEVEL VARIABLES READ AS WHEN THE CALL BEGINS. Each datum BY PROGRAM (the guide's laid-datum.mjs) off the statement by which the dump's own 'gosem.cut.vars' lays the variable. In a bare row this is a premise. The card (YtnahicnoofkfgaaGreatDoorCards.lean) ties it to the program's text. -/
def laid_math_bits_deBruijn32tab {H : Type} : DataW H := .agg [.lit (.int .u8 0), .lit (.int .u8 1), .lit (.int .u8 28), .lit (.int .u8 2), .lit (.int .u8 29), .lit (.int .u8 14), .lit (.int .u8 24), .lit (.int .u8 3), .lit (.int .u8 30), .lit (.int .u8 22), .lit (.int .u8 20), .lit (.int .u8 15), .lit (.int .u8 25), .lit (.int .u8 17), .lit (.int .u8 4), .lit (.int .u8 8), .lit (.int .u8 31), .lit (.int .u8 27), .lit (.int .u8 13), .lit (.int .u8 23), .lit (.int .u8 21), .lit (.int .u8 19), .lit (.int .u8 16), .lit (.int .u8 7), .lit (.int .u8 26), .lit (.int .u8 12), .lit (.int .u8 18), .lit (.int .u8 6), .lit (.int .u8 11), .lit (.int .u8 5), .lit (.int .u8 10), .lit (.int .u8 9)]
def laid_math_bits_deBruijn64tab {H : Type} : DataW H := .agg [.lit (.int .u8 0), .lit (.int .u8 1), .lit (.int .u8 56), .lit (.int .u8 2), .lit (.int .u8 57), .lit (.int .u8 49), .lit (.int .u8 28), .lit (.int .u8 3), .lit (.int .u8 61), .lit (.int .u8 58), .lit (.int .u8 42), .lit (.int .u8 50), .lit (.int .u8 38), .lit (.int .u8 29), .lit (.int .u8 17), .lit (.int .u8 4), .lit (.int .u8 62), .lit (.int .u8 47), .lit (.int .u8 59), .lit (.int .u8 36), .lit (.int .u8 45), .lit (.int .u8 43), .lit (.int .u8 51), .lit (.int .u8 22), .lit (.int .u8 53), .lit (.int .u8 39), .lit (.int .u8 33), .lit (.int .u8 30), .lit (.int .u8 24), .lit (.int .u8 18), .lit (.int .u8 12), .lit (.int .u8 5), .lit (.int .u8 63), .lit (.int .u8 55), .lit (.int .u8 48), .lit (.int .u8 27), .lit (.int .u8 60), .lit (.int .u8 41), .lit (.int .u8 37), .lit (.int .u8 16), .lit (.int .u8 46), .lit (.int .u8 35), .lit (.int .u8 44), .lit (.int .u8 21), .lit (.int .u8 52), .lit (.int .u8 32), .lit (.int .u8 23), .lit (.int .u8 11), .lit (.int .u8 54), .lit (.int .u8 26), .lit (.int .u8 40), .lit (.int .u8 15), .lit (.int .u8 34), .lit (.int .u8 20), .lit (.int .u8 31), .lit (.int .u8 10), .lit (.int .u8 25), .lit (.int .u8 14), .lit (.int .u8 19), .lit (.int .u8 9), .lit (.int .u8 13), .lit (.int .u8 8), .lit (.int .u8 7), .lit (.int .u8 6)]
def laid_internal_strconv_uint64pow10 {H : Type} : DataW H := .agg [.lit (.int .u64 1), .lit (.int .u64 10), .lit (.int .u64 100), .lit (.int .u64 1000), .lit (.int .u64 10000), .lit (.int .u64 100000), .lit (.int .u64 1000000), .lit (.int .u64 10000000), .lit (.int .u64 100000000), .lit (.int .u64 1000000000), .lit (.int .u64 10000000000), .lit (.int .u64 100000000000), .lit (.int .u64 1000000000000), .lit (.int .u64 10000000000000), .lit (.int .u64 100000000000000), .lit (.int .u64 1000000000000000), .lit (.int .u64 10000000000000000), .lit (.int .u64 100000000000000000), .lit (.int .u64 1000000000000000000), .lit (.int .u64 10000000000000000000)]
def laid_unicode_utf8_acceptRanges {H : Type} : DataW H := .agg [.agg [.lit (.int .u8 128), .lit (.int .u8 191)], .agg [.lit (.int .u8 160), .lit (.int .u8 191)], .agg [.lit (.int .u8 128), .lit (.int .u8 159)], .agg [.lit (.int .u8 144), .lit (.int .u8 191)], .agg [.lit (.int .u8 128), .lit (.int .u8 143)], .agg [.lit (.int .u8 0), .lit (.int .u8 0)], .agg [.lit (.int .u8 0), .lit (.int .u8 0)], .agg [.lit (.int .u8 0), .lit (.int .u8 0)], .agg [.lit (.int .u8 0), .lit (.int .u8 0)], .agg [.lit (.int .u8 0), .lit (.int .u8 0)], .agg [.lit (.int .u8 0), .lit (.int .u8 0)], .agg [.lit (.int .u8 0), .lit (.int .u8 0)], .agg [.lit (.int .u8 0), .lit (.int .u8 0)], .agg [.lit (.int .u8 0), .lit (.int .u8 0)], .agg [.lit (.int .u8 0), .lit (.int .u8 0)], .agg [.lit (.int .u8 0), .lit (.int .u8 0)]]
def laid_strconv_ErrRange {H : Type} : DataW H := .iface "*errors.errorString" (.ptr (.agg [.lit (.string [118, 97, 108, 117, 101, 32, 111, 117, 116, 32, 111, 102, 32, 114, 97, 110, 103, 101])]))
def laid_strconv_ErrSyntax {H : Type} : DataW H := .iface "*errors.errorString" (.ptr (.agg [.lit (.string [105, 110, 118, 97, 108, 105, 100, 32, 115, 121, 110, 116, 97, 120])]))
def laid_lagan_claim_nothing {H : Type} : DataW H := .agg [.lit (.int .i64 0), .lit (.int .i64 1)]
def laid_lagan_claim_whole {H : Type} : DataW H := .agg [.lit (.int .i64 1), .lit (.int .i64 1)]
def laid_lagan_claim_kindWords {H : Type} : DataW H := .agg [.lit (.string []), .lit (.string [112, 97, 105, 100]), .lit (.string [115, 111, 108, 100]), .lit (.string [108, 101, 102, 116]), .lit (.string [99, 108, 97, 105, 109]), .lit (.string [119, 105, 116, 104, 100, 114, 97, 119]), .lit (.string [118, 111, 105, 100])]
/-- One of Go's own tables, pinned by name: the form's constant. -/
def laid_unicode_utf8_first : DataW Unit := Go.Pinned.utf8First

/-- 'laganlaw05.ClaimFractions': WHATEVER THE INPUT: true; the input reads as it did. -/
def claimFractionsSpec : ChangeSpec := { name := "claimFractions", fn := fun _ => fun
  | [d1, d2, d3, d4] => { results := [.lit (.bool true)], args := [d1, d2, d3, d4] }
  | _ => none }
def claimFractionsRow : OpenClaim := { program := "ytnahicnoofkfgaagreatdoor", sum := "01fdacc10d212000d69367564b3e52da2849efc490f8d53d6c93c9606f354b46", func := "lagan/laganlaw05.ClaimFractions", spec := "claimFractions", inPlace := ["internal/bytealg.CountString", "internal/bytealg.IndexByteString", "internal/bytealg.IndexString", "internal/abi.NoEscape", "internal/bytealg.MakeNoZero"], unfollowed := true, recurses := true, named := ["unicode/utf8.first", "unicode/utf8.acceptRanges", "internal/bytealg.MaxLen", "lagan/claim.kindWords", "strconv.ErrSyntax", "strconv.ErrRange", "internal/strconv.uint64pow10", "math/bits.deBruijn32tab", "math/bits.deBruijn64tab", "lagan/claim.whole", "lagan/claim.nothing"], apart := false, laid := [("math/bits.deBruijn32tab", laid_math_bits_deBruijn32tab), ("math/bits.deBruijn64tab", laid_math_bits_deBruijn64tab), ("internal/strconv.uint64pow10", laid_internal_strconv_uint64pow10), ("unicode/utf8.acceptRanges", laid_unicode_utf8_acceptRanges), ("strconv.ErrRange", laid_strconv_ErrRange), ("strconv.ErrSyntax", laid_strconv_ErrSyntax), ("lagan/claim.nothing", laid_lagan_claim_nothing), ("lagan/claim.whole", laid_lagan_claim_whole), ("lagan/claim.kindWords", laid_lagan_claim_kindWords), ("unicode/utf8.first", laid_unicode_utf8_first)] }
def ClaimFractionsSaid : Prop := claimFractionsRow.holds Tryz.pinned (OpenSpec.ofChange claimFractionsSpec)

/-- ITS FALSE NEIGHBOUR: 'it returns false'. Refute it at one input. -/
def claimFractionsWrong : ChangeSpec := { name := "claimFractions", fn := fun _ => fun
  | [d1, d2, d3, d4] => { results := [.lit (.bool false)], args := [d1, d2, d3, d4] }
  | _ => none }
def ClaimFractionsWrongFalsely : Prop := claimFractionsRow.holds Tryz.pinned (OpenSpec.ofChange claimFractionsWrong)

/-- 'laganlaw05.ClaimSums': WHATEVER THE INPUT: true; the input reads as it did. -/
def claimSumsSpec : ChangeSpec := { name := "claimSums", fn := fun _ => fun
  | [d] => { results := [.lit (.bool true)], args := [d] }
  | _ => none }
def claimSumsRow : OpenClaim := { program := "ytnahicnoofkfgaagreatdoor", sum := "01fdacc10d212000d69367564b3e52da2849efc490f8d53d6c93c9606f354b46", func := "lagan/laganlaw05.ClaimSums", spec := "claimSums", inPlace := ["internal/bytealg.CountString", "internal/bytealg.IndexByteString", "internal/bytealg.IndexString", "internal/abi.NoEscape", "internal/bytealg.MakeNoZero"], unfollowed := true, recurses := true, named := ["unicode/utf8.first", "unicode/utf8.acceptRanges", "internal/bytealg.MaxLen", "lagan/claim.kindWords", "strconv.ErrSyntax", "strconv.ErrRange", "internal/strconv.uint64pow10", "math/bits.deBruijn32tab", "math/bits.deBruijn64tab", "lagan/claim.whole", "lagan/claim.nothing"], apart := false, laid := [("math/bits.deBruijn32tab", laid_math_bits_deBruijn32tab), ("math/bits.deBruijn64tab", laid_math_bits_deBruijn64tab), ("internal/strconv.uint64pow10", laid_internal_strconv_uint64pow10), ("unicode/utf8.acceptRanges", laid_unicode_utf8_acceptRanges), ("strconv.ErrRange", laid_strconv_ErrRange), ("strconv.ErrSyntax", laid_strconv_ErrSyntax), ("lagan/claim.nothing", laid_lagan_claim_nothing), ("lagan/claim.whole", laid_lagan_claim_whole), ("lagan/claim.kindWords", laid_lagan_claim_kindWords), ("unicode/utf8.first", laid_unicode_utf8_first)] }
def ClaimSumsSaid : Prop := claimSumsRow.holds Tryz.pinned (OpenSpec.ofChange claimSumsSpec)

/-- ITS FALSE NEIGHBOUR: 'it returns false'. Refute it at one input. -/
def claimSumsWrong : ChangeSpec := { name := "claimSums", fn := fun _ => fun
  | [d] => { results := [.lit (.bool false)], args := [d] }
  | _ => none }
def ClaimSumsWrongFalsely : Prop := claimSumsRow.holds Tryz.pinned (OpenSpec.ofChange claimSumsWrong)

/-- 'laganlaw05.ClaimDeeds': WHATEVER THE INPUT: true; the input reads as it did. -/
def claimDeedsSpec : ChangeSpec := { name := "claimDeeds", fn := fun _ => fun
  | [d1, d2] => { results := [.lit (.bool true)], args := [d1, d2] }
  | _ => none }
def claimDeedsRow : OpenClaim := { program := "ytnahicnoofkfgaagreatdoor", sum := "01fdacc10d212000d69367564b3e52da2849efc490f8d53d6c93c9606f354b46", func := "lagan/laganlaw05.ClaimDeeds", spec := "claimDeeds", inPlace := ["internal/bytealg.CountString", "internal/bytealg.IndexByteString", "internal/bytealg.IndexString", "internal/abi.NoEscape", "internal/bytealg.MakeNoZero"], unfollowed := true, recurses := true, named := ["unicode/utf8.first", "unicode/utf8.acceptRanges", "internal/bytealg.MaxLen", "lagan/claim.kindWords", "strconv.ErrSyntax", "strconv.ErrRange", "internal/strconv.uint64pow10", "math/bits.deBruijn32tab", "math/bits.deBruijn64tab", "lagan/claim.whole", "lagan/claim.nothing"], apart := false, laid := [("math/bits.deBruijn32tab", laid_math_bits_deBruijn32tab), ("math/bits.deBruijn64tab", laid_math_bits_deBruijn64tab), ("internal/strconv.uint64pow10", laid_internal_strconv_uint64pow10), ("unicode/utf8.acceptRanges", laid_unicode_utf8_acceptRanges), ("strconv.ErrRange", laid_strconv_ErrRange), ("strconv.ErrSyntax", laid_strconv_ErrSyntax), ("lagan/claim.nothing", laid_lagan_claim_nothing), ("lagan/claim.whole", laid_lagan_claim_whole), ("lagan/claim.kindWords", laid_lagan_claim_kindWords), ("unicode/utf8.first", laid_unicode_utf8_first)] }
def ClaimDeedsSaid : Prop := claimDeedsRow.holds Tryz.pinned (OpenSpec.ofChange claimDeedsSpec)

/-- ITS FALSE NEIGHBOUR: 'it returns false'. Refute it at one input. -/
def claimDeedsWrong : ChangeSpec := { name := "claimDeeds", fn := fun _ => fun
  | [d1, d2] => { results := [.lit (.bool false)], args := [d1, d2] }
  | _ => none }
def ClaimDeedsWrongFalsely : Prop := claimDeedsRow.holds Tryz.pinned (OpenSpec.ofChange claimDeedsWrong)

/-- 'laganlaw05.ClaimCommon': WHATEVER THE INPUT: true; the input reads as it did. -/
def claimCommonSpec : ChangeSpec := { name := "claimCommon", fn := fun _ => fun
  | [d] => { results := [.lit (.bool true)], args := [d] }
  | _ => none }
def claimCommonRow : OpenClaim := { program := "ytnahicnoofkfgaagreatdoor", sum := "01fdacc10d212000d69367564b3e52da2849efc490f8d53d6c93c9606f354b46", func := "lagan/laganlaw05.ClaimCommon", spec := "claimCommon", inPlace := ["internal/bytealg.CountString", "internal/bytealg.IndexByteString", "internal/bytealg.IndexString", "internal/abi.NoEscape", "internal/bytealg.MakeNoZero"], unfollowed := true, recurses := true, named := ["unicode/utf8.first", "unicode/utf8.acceptRanges", "internal/bytealg.MaxLen", "lagan/claim.kindWords", "strconv.ErrSyntax", "strconv.ErrRange", "internal/strconv.uint64pow10", "math/bits.deBruijn32tab", "math/bits.deBruijn64tab", "lagan/claim.whole", "lagan/claim.nothing"], apart := false, laid := [("math/bits.deBruijn32tab", laid_math_bits_deBruijn32tab), ("math/bits.deBruijn64tab", laid_math_bits_deBruijn64tab), ("internal/strconv.uint64pow10", laid_internal_strconv_uint64pow10), ("unicode/utf8.acceptRanges", laid_unicode_utf8_acceptRanges), ("strconv.ErrRange", laid_strconv_ErrRange), ("strconv.ErrSyntax", laid_strconv_ErrSyntax), ("lagan/claim.nothing", laid_lagan_claim_nothing), ("lagan/claim.whole", laid_lagan_claim_whole), ("lagan/claim.kindWords", laid_lagan_claim_kindWords), ("unicode/utf8.first", laid_unicode_utf8_first)] }
def ClaimCommonSaid : Prop := claimCommonRow.holds Tryz.pinned (OpenSpec.ofChange claimCommonSpec)

/-- ITS FALSE NEIGHBOUR: 'it returns false'. Refute it at one input. -/
def claimCommonWrong : ChangeSpec := { name := "claimCommon", fn := fun _ => fun
  | [d] => { results := [.lit (.bool false)], args := [d] }
  | _ => none }
def ClaimCommonWrongFalsely : Prop := claimCommonRow.holds Tryz.pinned (OpenSpec.ofChange claimCommonWrong)

/-- 'laganlaw05.ClaimSplits': WHATEVER THE INPUT: true; the input reads as it did. -/
def claimSplitsSpec : ChangeSpec := { name := "claimSplits", fn := fun _ => fun
  | [d1, d2] => { results := [.lit (.bool true)], args := [d1, d2] }
  | _ => none }
def claimSplitsRow : OpenClaim := { program := "ytnahicnoofkfgaagreatdoor", sum := "01fdacc10d212000d69367564b3e52da2849efc490f8d53d6c93c9606f354b46", func := "lagan/laganlaw05.ClaimSplits", spec := "claimSplits", inPlace := ["internal/bytealg.CountString", "internal/bytealg.IndexByteString", "internal/bytealg.IndexString", "internal/abi.NoEscape", "internal/bytealg.MakeNoZero"], unfollowed := true, recurses := true, named := ["unicode/utf8.first", "unicode/utf8.acceptRanges", "internal/bytealg.MaxLen", "lagan/claim.kindWords", "strconv.ErrSyntax", "strconv.ErrRange", "internal/strconv.uint64pow10", "math/bits.deBruijn32tab", "math/bits.deBruijn64tab", "lagan/claim.whole", "lagan/claim.nothing"], apart := false, laid := [("math/bits.deBruijn32tab", laid_math_bits_deBruijn32tab), ("math/bits.deBruijn64tab", laid_math_bits_deBruijn64tab), ("internal/strconv.uint64pow10", laid_internal_strconv_uint64pow10), ("unicode/utf8.acceptRanges", laid_unicode_utf8_acceptRanges), ("strconv.ErrRange", laid_strconv_ErrRange), ("strconv.ErrSyntax", laid_strconv_ErrSyntax), ("lagan/claim.nothing", laid_lagan_claim_nothing), ("lagan/claim.whole", laid_lagan_claim_whole), ("lagan/claim.kindWords", laid_lagan_claim_kindWords), ("unicode/utf8.first", laid_unicode_utf8_first)] }
def ClaimSplitsSaid : Prop := claimSplitsRow.holds Tryz.pinned (OpenSpec.ofChange claimSplitsSpec)

/-- ITS FALSE NEIGHBOUR: 'it returns false'. Refute it at one input. -/
def claimSplitsWrong : ChangeSpec := { name := "claimSplits", fn := fun _ => fun
  | [d1, d2] => { results := [.lit (.bool false)], args := [d1, d2] }
  | _ => none }
def ClaimSplitsWrongFalsely : Prop := claimSplitsRow.holds Tryz.pinned (OpenSpec.ofChange claimSplitsWrong)

/-- 'laganlaw05.ClaimTexts': WHATEVER THE INPUT: true; the input reads as it did. -/
def claimTextsSpec : ChangeSpec := { name := "claimTexts", fn := fun _ => fun
  | [d1, d2] => { results := [.lit (.bool true)], args := [d1, d2] }
  | _ => none }
def claimTextsRow : OpenClaim := { program := "ytnahicnoofkfgaagreatdoor", sum := "01fdacc10d212000d69367564b3e52da2849efc490f8d53d6c93c9606f354b46", func := "lagan/laganlaw05.ClaimTexts", spec := "claimTexts", inPlace := ["internal/bytealg.CountString", "internal/bytealg.IndexByteString", "internal/bytealg.IndexString", "internal/abi.NoEscape", "internal/bytealg.MakeNoZero"], unfollowed := true, recurses := true, named := ["unicode/utf8.first", "unicode/utf8.acceptRanges", "internal/bytealg.MaxLen", "lagan/claim.kindWords", "strconv.ErrSyntax", "strconv.ErrRange", "internal/strconv.uint64pow10", "math/bits.deBruijn32tab", "math/bits.deBruijn64tab", "lagan/claim.whole", "lagan/claim.nothing"], apart := false, laid := [("math/bits.deBruijn32tab", laid_math_bits_deBruijn32tab), ("math/bits.deBruijn64tab", laid_math_bits_deBruijn64tab), ("internal/strconv.uint64pow10", laid_internal_strconv_uint64pow10), ("unicode/utf8.acceptRanges", laid_unicode_utf8_acceptRanges), ("strconv.ErrRange", laid_strconv_ErrRange), ("strconv.ErrSyntax", laid_strconv_ErrSyntax), ("lagan/claim.nothing", laid_lagan_claim_nothing), ("lagan/claim.whole", laid_lagan_claim_whole), ("lagan/claim.kindWords", laid_lagan_claim_kindWords), ("unicode/utf8.first", laid_unicode_utf8_first)] }
def ClaimTextsSaid : Prop := claimTextsRow.holds Tryz.pinned (OpenSpec.ofChange claimTextsSpec)

/-- ITS FALSE NEIGHBOUR: 'it returns false'. Refute it at one input. -/
def claimTextsWrong : ChangeSpec := { name := "claimTexts", fn := fun _ => fun
  | [d1, d2] => { results := [.lit (.bool false)], args := [d1, d2] }
  | _ => none }
def ClaimTextsWrongFalsely : Prop := claimTextsRow.holds Tryz.pinned (OpenSpec.ofChange claimTextsWrong)

/-- 'laganlaw05.ClaimRules': WHATEVER THE INPUT: true; the input reads as it did. -/
def claimRulesSpec : ChangeSpec := { name := "claimRules", fn := fun _ => fun
  | [d1, d2, d3] => { results := [.lit (.bool true)], args := [d1, d2, d3] }
  | _ => none }
def claimRulesRow : OpenClaim := { program := "ytnahicnoofkfgaagreatdoor", sum := "01fdacc10d212000d69367564b3e52da2849efc490f8d53d6c93c9606f354b46", func := "lagan/laganlaw05.ClaimRules", spec := "claimRules", inPlace := ["internal/bytealg.CountString", "internal/bytealg.IndexByteString", "internal/bytealg.IndexString", "internal/abi.NoEscape", "internal/bytealg.MakeNoZero"], unfollowed := true, recurses := true, named := ["unicode/utf8.first", "unicode/utf8.acceptRanges", "internal/bytealg.MaxLen", "lagan/claim.kindWords", "strconv.ErrSyntax", "strconv.ErrRange", "internal/strconv.uint64pow10", "math/bits.deBruijn32tab", "math/bits.deBruijn64tab", "lagan/claim.whole", "lagan/claim.nothing"], apart := false, laid := [("math/bits.deBruijn32tab", laid_math_bits_deBruijn32tab), ("math/bits.deBruijn64tab", laid_math_bits_deBruijn64tab), ("internal/strconv.uint64pow10", laid_internal_strconv_uint64pow10), ("unicode/utf8.acceptRanges", laid_unicode_utf8_acceptRanges), ("strconv.ErrRange", laid_strconv_ErrRange), ("strconv.ErrSyntax", laid_strconv_ErrSyntax), ("lagan/claim.nothing", laid_lagan_claim_nothing), ("lagan/claim.whole", laid_lagan_claim_whole), ("lagan/claim.kindWords", laid_lagan_claim_kindWords), ("unicode/utf8.first", laid_unicode_utf8_first)] }
def ClaimRulesSaid : Prop := claimRulesRow.holds Tryz.pinned (OpenSpec.ofChange claimRulesSpec)

/-- ITS FALSE NEIGHBOUR: 'it returns false'. Refute it at one input. -/
def claimRulesWrong : ChangeSpec := { name := "claimRules", fn := fun _ => fun
  | [d1, d2, d3] => { results := [.lit (.bool false)], args := [d1, d2, d3] }
  | _ => none }
def ClaimRulesWrongFalsely : Prop := claimRulesRow.holds Tryz.pinned (OpenSpec.ofChange claimRulesWrong)

/-- 'laganlaw05.ClaimParts': WHATEVER THE INPUT: true; the input reads as it did. -/
def claimPartsSpec : ChangeSpec := { name := "claimParts", fn := fun _ => fun
  | [d1, d2, d3, d4] => { results := [.lit (.bool true)], args := [d1, d2, d3, d4] }
  | _ => none }
def claimPartsRow : OpenClaim := { program := "ytnahicnoofkfgaagreatdoor", sum := "01fdacc10d212000d69367564b3e52da2849efc490f8d53d6c93c9606f354b46", func := "lagan/laganlaw05.ClaimParts", spec := "claimParts", inPlace := ["internal/bytealg.CountString", "internal/bytealg.IndexByteString", "internal/bytealg.IndexString", "internal/abi.NoEscape", "internal/bytealg.MakeNoZero"], unfollowed := true, recurses := true, named := ["unicode/utf8.first", "unicode/utf8.acceptRanges", "internal/bytealg.MaxLen", "lagan/claim.kindWords", "strconv.ErrSyntax", "strconv.ErrRange", "internal/strconv.uint64pow10", "math/bits.deBruijn32tab", "math/bits.deBruijn64tab", "lagan/claim.whole", "lagan/claim.nothing"], apart := false, laid := [("math/bits.deBruijn32tab", laid_math_bits_deBruijn32tab), ("math/bits.deBruijn64tab", laid_math_bits_deBruijn64tab), ("internal/strconv.uint64pow10", laid_internal_strconv_uint64pow10), ("unicode/utf8.acceptRanges", laid_unicode_utf8_acceptRanges), ("strconv.ErrRange", laid_strconv_ErrRange), ("strconv.ErrSyntax", laid_strconv_ErrSyntax), ("lagan/claim.nothing", laid_lagan_claim_nothing), ("lagan/claim.whole", laid_lagan_claim_whole), ("lagan/claim.kindWords", laid_lagan_claim_kindWords), ("unicode/utf8.first", laid_unicode_utf8_first)] }
def ClaimPartsSaid : Prop := claimPartsRow.holds Tryz.pinned (OpenSpec.ofChange claimPartsSpec)

/-- ITS FALSE NEIGHBOUR: 'it returns false'. Refute it at one input. -/
def claimPartsWrong : ChangeSpec := { name := "claimParts", fn := fun _ => fun
  | [d1, d2, d3, d4] => { results := [.lit (.bool false)], args := [d1, d2, d3, d4] }
  | _ => none }
def ClaimPartsWrongFalsely : Prop := claimPartsRow.holds Tryz.pinned (OpenSpec.ofChange claimPartsWrong)

/-- 'laganlaw05.ClaimSure': WHATEVER THE INPUT: true; the input reads as it did. -/
def claimSureSpec : ChangeSpec := { name := "claimSure", fn := fun _ => fun
  | [d] => { results := [.lit (.bool true)], args := [d] }
  | _ => none }
def claimSureRow : OpenClaim := { program := "ytnahicnoofkfgaagreatdoor", sum := "01fdacc10d212000d69367564b3e52da2849efc490f8d53d6c93c9606f354b46", func := "lagan/laganlaw05.ClaimSure", spec := "claimSure", inPlace := ["internal/bytealg.CountString", "internal/bytealg.IndexByteString", "internal/bytealg.IndexString", "internal/abi.NoEscape", "internal/bytealg.MakeNoZero"], unfollowed := true, recurses := true, named := ["unicode/utf8.first", "unicode/utf8.acceptRanges", "internal/bytealg.MaxLen", "lagan/claim.kindWords", "strconv.ErrSyntax", "strconv.ErrRange", "internal/strconv.uint64pow10", "math/bits.deBruijn32tab", "math/bits.deBruijn64tab", "lagan/claim.whole", "lagan/claim.nothing"], apart := false, laid := [("math/bits.deBruijn32tab", laid_math_bits_deBruijn32tab), ("math/bits.deBruijn64tab", laid_math_bits_deBruijn64tab), ("internal/strconv.uint64pow10", laid_internal_strconv_uint64pow10), ("unicode/utf8.acceptRanges", laid_unicode_utf8_acceptRanges), ("strconv.ErrRange", laid_strconv_ErrRange), ("strconv.ErrSyntax", laid_strconv_ErrSyntax), ("lagan/claim.nothing", laid_lagan_claim_nothing), ("lagan/claim.whole", laid_lagan_claim_whole), ("lagan/claim.kindWords", laid_lagan_claim_kindWords), ("unicode/utf8.first", laid_unicode_utf8_first)] }
def ClaimSureSaid : Prop := claimSureRow.holds Tryz.pinned (OpenSpec.ofChange claimSureSpec)

/-- ITS FALSE NEIGHBOUR: 'it returns false'. Refute it at one input. -/
def claimSureWrong : ChangeSpec := { name := "claimSure", fn := fun _ => fun
  | [d] => { results := [.lit (.bool false)], args := [d] }
  | _ => none }
def ClaimSureWrongFalsely : Prop := claimSureRow.holds Tryz.pinned (OpenSpec.ofChange claimSureWrong)

/-- 'laganlaw05.ClaimPence': WHATEVER THE INPUT: true; the input reads as it did. -/
def claimPenceSpec : ChangeSpec := { name := "claimPence", fn := fun _ => fun
  | [d1, d2] => { results := [.lit (.bool true)], args := [d1, d2] }
  | _ => none }
def claimPenceRow : OpenClaim := { program := "ytnahicnoofkfgaagreatdoor", sum := "01fdacc10d212000d69367564b3e52da2849efc490f8d53d6c93c9606f354b46", func := "lagan/laganlaw05.ClaimPence", spec := "claimPence", inPlace := ["internal/bytealg.CountString", "internal/bytealg.IndexByteString", "internal/bytealg.IndexString", "internal/abi.NoEscape", "internal/bytealg.MakeNoZero"], unfollowed := true, recurses := true, named := ["unicode/utf8.first", "unicode/utf8.acceptRanges", "internal/bytealg.MaxLen", "lagan/claim.kindWords", "strconv.ErrSyntax", "strconv.ErrRange", "internal/strconv.uint64pow10", "math/bits.deBruijn32tab", "math/bits.deBruijn64tab", "lagan/claim.whole", "lagan/claim.nothing"], apart := false, laid := [("math/bits.deBruijn32tab", laid_math_bits_deBruijn32tab), ("math/bits.deBruijn64tab", laid_math_bits_deBruijn64tab), ("internal/strconv.uint64pow10", laid_internal_strconv_uint64pow10), ("unicode/utf8.acceptRanges", laid_unicode_utf8_acceptRanges), ("strconv.ErrRange", laid_strconv_ErrRange), ("strconv.ErrSyntax", laid_strconv_ErrSyntax), ("lagan/claim.nothing", laid_lagan_claim_nothing), ("lagan/claim.whole", laid_lagan_claim_whole), ("lagan/claim.kindWords", laid_lagan_claim_kindWords), ("unicode/utf8.first", laid_unicode_utf8_first)] }
def ClaimPenceSaid : Prop := claimPenceRow.holds Tryz.pinned (OpenSpec.ofChange claimPenceSpec)

/-- ITS FALSE NEIGHBOUR: 'it returns false'. Refute it at one input. -/
def claimPenceWrong : ChangeSpec := { name := "claimPence", fn := fun _ => fun
  | [d1, d2] => { results := [.lit (.bool false)], args := [d1, d2] }
  | _ => none }
def ClaimPenceWrongFalsely : Prop := claimPenceRow.holds Tryz.pinned (OpenSpec.ofChange claimPenceWrong)

/-- 'laganlaw05.ClaimMemory': WHATEVER THE INPUT: true; the input reads as it did. -/
def claimMemorySpec : ChangeSpec := { name := "claimMemory", fn := fun _ => fun
  | [d1, d2, d3, d4, d5] => { results := [.lit (.bool true)], args := [d1, d2, d3, d4, d5] }
  | _ => none }
def claimMemoryRow : OpenClaim := { program := "ytnahicnoofkfgaagreatdoor", sum := "01fdacc10d212000d69367564b3e52da2849efc490f8d53d6c93c9606f354b46", func := "lagan/laganlaw05.ClaimMemory", spec := "claimMemory", inPlace := ["internal/bytealg.CountString", "internal/bytealg.IndexByteString", "internal/bytealg.IndexString", "internal/abi.NoEscape", "internal/bytealg.MakeNoZero"], unfollowed := true, recurses := true, named := ["unicode/utf8.first", "unicode/utf8.acceptRanges", "internal/bytealg.MaxLen", "lagan/claim.kindWords", "strconv.ErrSyntax", "strconv.ErrRange", "internal/strconv.uint64pow10", "math/bits.deBruijn32tab", "math/bits.deBruijn64tab", "lagan/claim.whole", "lagan/claim.nothing"], apart := false, laid := [("math/bits.deBruijn32tab", laid_math_bits_deBruijn32tab), ("math/bits.deBruijn64tab", laid_math_bits_deBruijn64tab), ("internal/strconv.uint64pow10", laid_internal_strconv_uint64pow10), ("unicode/utf8.acceptRanges", laid_unicode_utf8_acceptRanges), ("strconv.ErrRange", laid_strconv_ErrRange), ("strconv.ErrSyntax", laid_strconv_ErrSyntax), ("lagan/claim.nothing", laid_lagan_claim_nothing), ("lagan/claim.whole", laid_lagan_claim_whole), ("lagan/claim.kindWords", laid_lagan_claim_kindWords), ("unicode/utf8.first", laid_unicode_utf8_first)] }
def ClaimMemorySaid : Prop := claimMemoryRow.holds Tryz.pinned (OpenSpec.ofChange claimMemorySpec)

/-- ITS FALSE NEIGHBOUR: 'it returns false'. Refute it at one input. -/
def claimMemoryWrong : ChangeSpec := { name := "claimMemory", fn := fun _ => fun
  | [d1, d2, d3, d4, d5] => { results := [.lit (.bool false)], args := [d1, d2, d3, d4, d5] }
  | _ => none }
def ClaimMemoryWrongFalsely : Prop := claimMemoryRow.holds Tryz.pinned (OpenSpec.ofChange claimMemoryWrong)

/- THE SECOND FORM. 'bulk': how many values and letters a reading holds, each counted each time it is reached (what is shared counts as often as it is met; a slice's spare places count too). A statement '..UptoSaid' is the law's where the arguments, and the package variables that the reading takes, are together of bulk at most 1048576: NARROWER than '..Said'. Prove '..Said' where nothing that the law and all that it calls make is longer than what came in: it says more and counts as full. Else prove '..UptoSaid'. A law counts once. -/
mutual
def uptoBulk {H : Type} : DataW H → Nat
  | .lit (.string bytes) => bytes.length + 1
  | .lit _ => 1
  | .nil => 1
  | .ptr d => uptoBulk d + 1
  | .slice elems spare => uptoBulkAll elems + uptoBulkAll spare + 1
  | .agg parts => uptoBulkAll parts + 1
  | .iface _ d => uptoBulk d + 1
  | .map entries => uptoBulkEntries entries + 1
  | .held _ => 1
def uptoBulkAll {H : Type} : List (DataW H) → Nat
  | [] => 0
  | d :: r => uptoBulk d + uptoBulkAll r
def uptoBulkEntries {H : Type} : List (Lit × DataW H) → Nat
  | [] => 0
  | x :: r => uptoBulkEntry x + uptoBulkEntries r
def uptoBulkEntry {H : Type} : Lit × DataW H → Nat
  | (.string bytes, d) => bytes.length + uptoBulk d + 1
  | (_, d) => uptoBulk d + 1
 end
def uptoSmall : (H : Type) → List (DataW H) → Bool := fun _ ds => decide (uptoBulkAll ds ≤ 1048576)
def OpenSpec.upto (s : _root_.Go.ChangeSpec) : _root_.Go.OpenSpec := { _root_.Go.OpenSpec.ofChange s with cond := some uptoSmall }

/-- 'laganlaw05.ClaimFractions', WHERE WHAT IT READS IS OF BULK AT MOST 1048576: true; the input reads as it did. -/
def claimFractionsUptoRow : OpenClaim := { program := "ytnahicnoofkfgaagreatdoor", sum := "01fdacc10d212000d69367564b3e52da2849efc490f8d53d6c93c9606f354b46", func := "lagan/laganlaw05.ClaimFractions", spec := "claimFractions", inPlace := ["internal/bytealg.CountString", "internal/bytealg.IndexByteString", "internal/bytealg.IndexString", "internal/abi.NoEscape", "internal/bytealg.MakeNoZero"], unfollowed := true, recurses := true, named := ["unicode/utf8.first", "unicode/utf8.acceptRanges", "internal/bytealg.MaxLen", "lagan/claim.kindWords", "strconv.ErrSyntax", "strconv.ErrRange", "internal/strconv.uint64pow10", "math/bits.deBruijn32tab", "math/bits.deBruijn64tab", "lagan/claim.whole", "lagan/claim.nothing"], apart := false, laid := [("math/bits.deBruijn32tab", laid_math_bits_deBruijn32tab), ("math/bits.deBruijn64tab", laid_math_bits_deBruijn64tab), ("internal/strconv.uint64pow10", laid_internal_strconv_uint64pow10), ("unicode/utf8.acceptRanges", laid_unicode_utf8_acceptRanges), ("strconv.ErrRange", laid_strconv_ErrRange), ("strconv.ErrSyntax", laid_strconv_ErrSyntax), ("lagan/claim.nothing", laid_lagan_claim_nothing), ("lagan/claim.whole", laid_lagan_claim_whole), ("lagan/claim.kindWords", laid_lagan_claim_kindWords), ("unicode/utf8.first", laid_unicode_utf8_first)], narrowed := true }
def ClaimFractionsUptoSaid : Prop := claimFractionsUptoRow.holds Tryz.pinned (OpenSpec.upto claimFractionsSpec)

/-- 'laganlaw05.ClaimSums', WHERE WHAT IT READS IS OF BULK AT MOST 1048576: true; the input reads as it did. -/
def claimSumsUptoRow : OpenClaim := { program := "ytnahicnoofkfgaagreatdoor", sum := "01fdacc10d212000d69367564b3e52da2849efc490f8d53d6c93c9606f354b46", func := "lagan/laganlaw05.ClaimSums", spec := "claimSums", inPlace := ["internal/bytealg.CountString", "internal/bytealg.IndexByteString", "internal/bytealg.IndexString", "internal/abi.NoEscape", "internal/bytealg.MakeNoZero"], unfollowed := true, recurses := true, named := ["unicode/utf8.first", "unicode/utf8.acceptRanges", "internal/bytealg.MaxLen", "lagan/claim.kindWords", "strconv.ErrSyntax", "strconv.ErrRange", "internal/strconv.uint64pow10", "math/bits.deBruijn32tab", "math/bits.deBruijn64tab", "lagan/claim.whole", "lagan/claim.nothing"], apart := false, laid := [("math/bits.deBruijn32tab", laid_math_bits_deBruijn32tab), ("math/bits.deBruijn64tab", laid_math_bits_deBruijn64tab), ("internal/strconv.uint64pow10", laid_internal_strconv_uint64pow10), ("unicode/utf8.acceptRanges", laid_unicode_utf8_acceptRanges), ("strconv.ErrRange", laid_strconv_ErrRange), ("strconv.ErrSyntax", laid_strconv_ErrSyntax), ("lagan/claim.nothing", laid_lagan_claim_nothing), ("lagan/claim.whole", laid_lagan_claim_whole), ("lagan/claim.kindWords", laid_lagan_claim_kindWords), ("unicode/utf8.first", laid_unicode_utf8_first)], narrowed := true }
def ClaimSumsUptoSaid : Prop := claimSumsUptoRow.holds Tryz.pinned (OpenSpec.upto claimSumsSpec)

/-- 'laganlaw05.ClaimDeeds', WHERE WHAT IT READS IS OF BULK AT MOST 1048576: true; the input reads as it did. -/
def claimDeedsUptoRow : OpenClaim := { program := "ytnahicnoofkfgaagreatdoor", sum := "01fdacc10d212000d69367564b3e52da2849efc490f8d53d6c93c9606f354b46", func := "lagan/laganlaw05.ClaimDeeds", spec := "claimDeeds", inPlace := ["internal/bytealg.CountString", "internal/bytealg.IndexByteString", "internal/bytealg.IndexString", "internal/abi.NoEscape", "internal/bytealg.MakeNoZero"], unfollowed := true, recurses := true, named := ["unicode/utf8.first", "unicode/utf8.acceptRanges", "internal/bytealg.MaxLen", "lagan/claim.kindWords", "strconv.ErrSyntax", "strconv.ErrRange", "internal/strconv.uint64pow10", "math/bits.deBruijn32tab", "math/bits.deBruijn64tab", "lagan/claim.whole", "lagan/claim.nothing"], apart := false, laid := [("math/bits.deBruijn32tab", laid_math_bits_deBruijn32tab), ("math/bits.deBruijn64tab", laid_math_bits_deBruijn64tab), ("internal/strconv.uint64pow10", laid_internal_strconv_uint64pow10), ("unicode/utf8.acceptRanges", laid_unicode_utf8_acceptRanges), ("strconv.ErrRange", laid_strconv_ErrRange), ("strconv.ErrSyntax", laid_strconv_ErrSyntax), ("lagan/claim.nothing", laid_lagan_claim_nothing), ("lagan/claim.whole", laid_lagan_claim_whole), ("lagan/claim.kindWords", laid_lagan_claim_kindWords), ("unicode/utf8.first", laid_unicode_utf8_first)], narrowed := true }
def ClaimDeedsUptoSaid : Prop := claimDeedsUptoRow.holds Tryz.pinned (OpenSpec.upto claimDeedsSpec)

/-- 'laganlaw05.ClaimCommon', WHERE WHAT IT READS IS OF BULK AT MOST 1048576: true; the input reads as it did. -/
def claimCommonUptoRow : OpenClaim := { program := "ytnahicnoofkfgaagreatdoor", sum := "01fdacc10d212000d69367564b3e52da2849efc490f8d53d6c93c9606f354b46", func := "lagan/laganlaw05.ClaimCommon", spec := "claimCommon", inPlace := ["internal/bytealg.CountString", "internal/bytealg.IndexByteString", "internal/bytealg.IndexString", "internal/abi.NoEscape", "internal/bytealg.MakeNoZero"], unfollowed := true, recurses := true, named := ["unicode/utf8.first", "unicode/utf8.acceptRanges", "internal/bytealg.MaxLen", "lagan/claim.kindWords", "strconv.ErrSyntax", "strconv.ErrRange", "internal/strconv.uint64pow10", "math/bits.deBruijn32tab", "math/bits.deBruijn64tab", "lagan/claim.whole", "lagan/claim.nothing"], apart := false, laid := [("math/bits.deBruijn32tab", laid_math_bits_deBruijn32tab), ("math/bits.deBruijn64tab", laid_math_bits_deBruijn64tab), ("internal/strconv.uint64pow10", laid_internal_strconv_uint64pow10), ("unicode/utf8.acceptRanges", laid_unicode_utf8_acceptRanges), ("strconv.ErrRange", laid_strconv_ErrRange), ("strconv.ErrSyntax", laid_strconv_ErrSyntax), ("lagan/claim.nothing", laid_lagan_claim_nothing), ("lagan/claim.whole", laid_lagan_claim_whole), ("lagan/claim.kindWords", laid_lagan_claim_kindWords), ("unicode/utf8.first", laid_unicode_utf8_first)], narrowed := true }
def ClaimCommonUptoSaid : Prop := claimCommonUptoRow.holds Tryz.pinned (OpenSpec.upto claimCommonSpec)

/-- 'laganlaw05.ClaimSplits', WHERE WHAT IT READS IS OF BULK AT MOST 1048576: true; the input reads as it did. -/
def claimSplitsUptoRow : OpenClaim := { program := "ytnahicnoofkfgaagreatdoor", sum := "01fdacc10d212000d69367564b3e52da2849efc490f8d53d6c93c9606f354b46", func := "lagan/laganlaw05.ClaimSplits", spec := "claimSplits", inPlace := ["internal/bytealg.CountString", "internal/bytealg.IndexByteString", "internal/bytealg.IndexString", "internal/abi.NoEscape", "internal/bytealg.MakeNoZero"], unfollowed := true, recurses := true, named := ["unicode/utf8.first", "unicode/utf8.acceptRanges", "internal/bytealg.MaxLen", "lagan/claim.kindWords", "strconv.ErrSyntax", "strconv.ErrRange", "internal/strconv.uint64pow10", "math/bits.deBruijn32tab", "math/bits.deBruijn64tab", "lagan/claim.whole", "lagan/claim.nothing"], apart := false, laid := [("math/bits.deBruijn32tab", laid_math_bits_deBruijn32tab), ("math/bits.deBruijn64tab", laid_math_bits_deBruijn64tab), ("internal/strconv.uint64pow10", laid_internal_strconv_uint64pow10), ("unicode/utf8.acceptRanges", laid_unicode_utf8_acceptRanges), ("strconv.ErrRange", laid_strconv_ErrRange), ("strconv.ErrSyntax", laid_strconv_ErrSyntax), ("lagan/claim.nothing", laid_lagan_claim_nothing), ("lagan/claim.whole", laid_lagan_claim_whole), ("lagan/claim.kindWords", laid_lagan_claim_kindWords), ("unicode/utf8.first", laid_unicode_utf8_first)], narrowed := true }
def ClaimSplitsUptoSaid : Prop := claimSplitsUptoRow.holds Tryz.pinned (OpenSpec.upto claimSplitsSpec)

/-- 'laganlaw05.ClaimTexts', WHERE WHAT IT READS IS OF BULK AT MOST 1048576: true; the input reads as it did. -/
def claimTextsUptoRow : OpenClaim := { program := "ytnahicnoofkfgaagreatdoor", sum := "01fdacc10d212000d69367564b3e52da2849efc490f8d53d6c93c9606f354b46", func := "lagan/laganlaw05.ClaimTexts", spec := "claimTexts", inPlace := ["internal/bytealg.CountString", "internal/bytealg.IndexByteString", "internal/bytealg.IndexString", "internal/abi.NoEscape", "internal/bytealg.MakeNoZero"], unfollowed := true, recurses := true, named := ["unicode/utf8.first", "unicode/utf8.acceptRanges", "internal/bytealg.MaxLen", "lagan/claim.kindWords", "strconv.ErrSyntax", "strconv.ErrRange", "internal/strconv.uint64pow10", "math/bits.deBruijn32tab", "math/bits.deBruijn64tab", "lagan/claim.whole", "lagan/claim.nothing"], apart := false, laid := [("math/bits.deBruijn32tab", laid_math_bits_deBruijn32tab), ("math/bits.deBruijn64tab", laid_math_bits_deBruijn64tab), ("internal/strconv.uint64pow10", laid_internal_strconv_uint64pow10), ("unicode/utf8.acceptRanges", laid_unicode_utf8_acceptRanges), ("strconv.ErrRange", laid_strconv_ErrRange), ("strconv.ErrSyntax", laid_strconv_ErrSyntax), ("lagan/claim.nothing", laid_lagan_claim_nothing), ("lagan/claim.whole", laid_lagan_claim_whole), ("lagan/claim.kindWords", laid_lagan_claim_kindWords), ("unicode/utf8.first", laid_unicode_utf8_first)], narrowed := true }
def ClaimTextsUptoSaid : Prop := claimTextsUptoRow.holds Tryz.pinned (OpenSpec.upto claimTextsSpec)

/-- 'laganlaw05.ClaimRules', WHERE WHAT IT READS IS OF BULK AT MOST 1048576: true; the input reads as it did. -/
def claimRulesUptoRow : OpenClaim := { program := "ytnahicnoofkfgaagreatdoor", sum := "01fdacc10d212000d69367564b3e52da2849efc490f8d53d6c93c9606f354b46", func := "lagan/laganlaw05.ClaimRules", spec := "claimRules", inPlace := ["internal/bytealg.CountString", "internal/bytealg.IndexByteString", "internal/bytealg.IndexString", "internal/abi.NoEscape", "internal/bytealg.MakeNoZero"], unfollowed := true, recurses := true, named := ["unicode/utf8.first", "unicode/utf8.acceptRanges", "internal/bytealg.MaxLen", "lagan/claim.kindWords", "strconv.ErrSyntax", "strconv.ErrRange", "internal/strconv.uint64pow10", "math/bits.deBruijn32tab", "math/bits.deBruijn64tab", "lagan/claim.whole", "lagan/claim.nothing"], apart := false, laid := [("math/bits.deBruijn32tab", laid_math_bits_deBruijn32tab), ("math/bits.deBruijn64tab", laid_math_bits_deBruijn64tab), ("internal/strconv.uint64pow10", laid_internal_strconv_uint64pow10), ("unicode/utf8.acceptRanges", laid_unicode_utf8_acceptRanges), ("strconv.ErrRange", laid_strconv_ErrRange), ("strconv.ErrSyntax", laid_strconv_ErrSyntax), ("lagan/claim.nothing", laid_lagan_claim_nothing), ("lagan/claim.whole", laid_lagan_claim_whole), ("lagan/claim.kindWords", laid_lagan_claim_kindWords), ("unicode/utf8.first", laid_unicode_utf8_first)], narrowed := true }
def ClaimRulesUptoSaid : Prop := claimRulesUptoRow.holds Tryz.pinned (OpenSpec.upto claimRulesSpec)

/-- 'laganlaw05.ClaimParts', WHERE WHAT IT READS IS OF BULK AT MOST 1048576: true; the input reads as it did. -/
def claimPartsUptoRow : OpenClaim := { program := "ytnahicnoofkfgaagreatdoor", sum := "01fdacc10d212000d69367564b3e52da2849efc490f8d53d6c93c9606f354b46", func := "lagan/laganlaw05.ClaimParts", spec := "claimParts", inPlace := ["internal/bytealg.CountString", "internal/bytealg.IndexByteString", "internal/bytealg.IndexString", "internal/abi.NoEscape", "internal/bytealg.MakeNoZero"], unfollowed := true, recurses := true, named := ["unicode/utf8.first", "unicode/utf8.acceptRanges", "internal/bytealg.MaxLen", "lagan/claim.kindWords", "strconv.ErrSyntax", "strconv.ErrRange", "internal/strconv.uint64pow10", "math/bits.deBruijn32tab", "math/bits.deBruijn64tab", "lagan/claim.whole", "lagan/claim.nothing"], apart := false, laid := [("math/bits.deBruijn32tab", laid_math_bits_deBruijn32tab), ("math/bits.deBruijn64tab", laid_math_bits_deBruijn64tab), ("internal/strconv.uint64pow10", laid_internal_strconv_uint64pow10), ("unicode/utf8.acceptRanges", laid_unicode_utf8_acceptRanges), ("strconv.ErrRange", laid_strconv_ErrRange), ("strconv.ErrSyntax", laid_strconv_ErrSyntax), ("lagan/claim.nothing", laid_lagan_claim_nothing), ("lagan/claim.whole", laid_lagan_claim_whole), ("lagan/claim.kindWords", laid_lagan_claim_kindWords), ("unicode/utf8.first", laid_unicode_utf8_first)], narrowed := true }
def ClaimPartsUptoSaid : Prop := claimPartsUptoRow.holds Tryz.pinned (OpenSpec.upto claimPartsSpec)

/-- 'laganlaw05.ClaimSure', WHERE WHAT IT READS IS OF BULK AT MOST 1048576: true; the input reads as it did. -/
def claimSureUptoRow : OpenClaim := { program := "ytnahicnoofkfgaagreatdoor", sum := "01fdacc10d212000d69367564b3e52da2849efc490f8d53d6c93c9606f354b46", func := "lagan/laganlaw05.ClaimSure", spec := "claimSure", inPlace := ["internal/bytealg.CountString", "internal/bytealg.IndexByteString", "internal/bytealg.IndexString", "internal/abi.NoEscape", "internal/bytealg.MakeNoZero"], unfollowed := true, recurses := true, named := ["unicode/utf8.first", "unicode/utf8.acceptRanges", "internal/bytealg.MaxLen", "lagan/claim.kindWords", "strconv.ErrSyntax", "strconv.ErrRange", "internal/strconv.uint64pow10", "math/bits.deBruijn32tab", "math/bits.deBruijn64tab", "lagan/claim.whole", "lagan/claim.nothing"], apart := false, laid := [("math/bits.deBruijn32tab", laid_math_bits_deBruijn32tab), ("math/bits.deBruijn64tab", laid_math_bits_deBruijn64tab), ("internal/strconv.uint64pow10", laid_internal_strconv_uint64pow10), ("unicode/utf8.acceptRanges", laid_unicode_utf8_acceptRanges), ("strconv.ErrRange", laid_strconv_ErrRange), ("strconv.ErrSyntax", laid_strconv_ErrSyntax), ("lagan/claim.nothing", laid_lagan_claim_nothing), ("lagan/claim.whole", laid_lagan_claim_whole), ("lagan/claim.kindWords", laid_lagan_claim_kindWords), ("unicode/utf8.first", laid_unicode_utf8_first)], narrowed := true }
def ClaimSureUptoSaid : Prop := claimSureUptoRow.holds Tryz.pinned (OpenSpec.upto claimSureSpec)

/-- 'laganlaw05.ClaimPence', WHERE WHAT IT READS IS OF BULK AT MOST 1048576: true; the input reads as it did. -/
def claimPenceUptoRow : OpenClaim := { program := "ytnahicnoofkfgaagreatdoor", sum := "01fdacc10d212000d69367564b3e52da2849efc490f8d53d6c93c9606f354b46", func := "lagan/laganlaw05.ClaimPence", spec := "claimPence", inPlace := ["internal/bytealg.CountString", "internal/bytealg.IndexByteString", "internal/bytealg.IndexString", "internal/abi.NoEscape", "internal/bytealg.MakeNoZero"], unfollowed := true, recurses := true, named := ["unicode/utf8.first", "unicode/utf8.acceptRanges", "internal/bytealg.MaxLen", "lagan/claim.kindWords", "strconv.ErrSyntax", "strconv.ErrRange", "internal/strconv.uint64pow10", "math/bits.deBruijn32tab", "math/bits.deBruijn64tab", "lagan/claim.whole", "lagan/claim.nothing"], apart := false, laid := [("math/bits.deBruijn32tab", laid_math_bits_deBruijn32tab), ("math/bits.deBruijn64tab", laid_math_bits_deBruijn64tab), ("internal/strconv.uint64pow10", laid_internal_strconv_uint64pow10), ("unicode/utf8.acceptRanges", laid_unicode_utf8_acceptRanges), ("strconv.ErrRange", laid_strconv_ErrRange), ("strconv.ErrSyntax", laid_strconv_ErrSyntax), ("lagan/claim.nothing", laid_lagan_claim_nothing), ("lagan/claim.whole", laid_lagan_claim_whole), ("lagan/claim.kindWords", laid_lagan_claim_kindWords), ("unicode/utf8.first", laid_unicode_utf8_first)], narrowed := true }
def ClaimPenceUptoSaid : Prop := claimPenceUptoRow.holds Tryz.pinned (OpenSpec.upto claimPenceSpec)

/-- 'laganlaw05.ClaimMemory', WHERE WHAT IT READS IS OF BULK AT MOST 1048576: true; the input reads as it did. -/
def claimMemoryUptoRow : OpenClaim := { program := "ytnahicnoofkfgaagreatdoor", sum := "01fdacc10d212000d69367564b3e52da2849efc490f8d53d6c93c9606f354b46", func := "lagan/laganlaw05.ClaimMemory", spec := "claimMemory", inPlace := ["internal/bytealg.CountString", "internal/bytealg.IndexByteString", "internal/bytealg.IndexString", "internal/abi.NoEscape", "internal/bytealg.MakeNoZero"], unfollowed := true, recurses := true, named := ["unicode/utf8.first", "unicode/utf8.acceptRanges", "internal/bytealg.MaxLen", "lagan/claim.kindWords", "strconv.ErrSyntax", "strconv.ErrRange", "internal/strconv.uint64pow10", "math/bits.deBruijn32tab", "math/bits.deBruijn64tab", "lagan/claim.whole", "lagan/claim.nothing"], apart := false, laid := [("math/bits.deBruijn32tab", laid_math_bits_deBruijn32tab), ("math/bits.deBruijn64tab", laid_math_bits_deBruijn64tab), ("internal/strconv.uint64pow10", laid_internal_strconv_uint64pow10), ("unicode/utf8.acceptRanges", laid_unicode_utf8_acceptRanges), ("strconv.ErrRange", laid_strconv_ErrRange), ("strconv.ErrSyntax", laid_strconv_ErrSyntax), ("lagan/claim.nothing", laid_lagan_claim_nothing), ("lagan/claim.whole", laid_lagan_claim_whole), ("lagan/claim.kindWords", laid_lagan_claim_kindWords), ("unicode/utf8.first", laid_unicode_utf8_first)], narrowed := true }
def ClaimMemoryUptoSaid : Prop := claimMemoryUptoRow.holds Tryz.pinned (OpenSpec.upto claimMemorySpec)

end Rows
end Go.Proofs.YtnahicnoofkfgaaGreatDoor
