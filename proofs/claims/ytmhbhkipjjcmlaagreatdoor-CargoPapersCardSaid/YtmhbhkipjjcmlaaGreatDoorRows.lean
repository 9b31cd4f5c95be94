/-
  NARROWER THAN 'FOR EVERY INPUT', by the rows' own cells (each row's printed sentence says how): CargoPapers: laid · CargoManifests: laid · CargoTrees: laid · CargoWeights: laid · CargoCompletions: laid · CargoLineages: laid · CargoDoubts: laid · CargoReached: laid · CargoTexts: laid · CargoSharp: laid · CargoEither: laid · CargoRests: laid.
  DERIVED. THE GIVEN ROWS OF THIS SEAT. 12 by the template 'for every input the law returns true; each argument reads behind the call as it read before'; 0 by the template 'total and deterministic' (their statements: YtmhbhkipjjcmlaaGreatDoorTotals.lean).
  GIVEN WITH THE SEED: the statements are not yours to turn. If you find one false, say at which input.
  Laid BY PROGRAM, IN A SANDBOX (cutbox-rows.mjs): the forced cells as the released guide's own fill.sh prints them over the translation 534623ccfac623a6… (all of the seat's roots in one cut). By AI agents, Wed Nov 11 2026. No macro, syntax, notation, axiom, sorry.
-/
import Derived.Test.YtmhbhkipjjcmlaaGreatDoorChecked
import GoSem.PinnedTables
import GoSem.Claim
import GoSem.ClaimJoined
import GoSem.ClaimMapViews
import Derived.JoinedTies
import Derived.KernelRfl
namespace Go.Proofs.YtmhbhkipjjcmlaaGreatDoor
/- THE CELL 'sum', in the pinned program and in every row, IS THE sha256 OF THE DUMP (.gsa) THAT YtmhbhkipjjcmlaaGreatDoorProg.lean LOADS. Nothing in Lean hashes anything: it is a label: what it is worth is what the hold of that sum in a sandbox is worth. -/
noncomputable def Tryz.pinned : Pinned := { name := "ytmhbhkipjjcmlaagreatdoor", sum := "534623ccfac623a695d1ce88e7a766353eb5ee3f80e4b8cec100d45bc8334009", checked := Tryz.checked }
namespace Rows
def none {H : Type} : Left H := { results := [], args := [] }

/- WHAT THE LISTED PACKAGE-LEVEL VARIABLES READ AS WHEN THE CALL BEGINS. Each datum BY PROGRAM (the guide's laid-datum.mjs) off the statement by which the dump's own 'gosem.cut.vars' lays the variable. In a bare row this is a premise. The card (YtmhbhkipjjcmlaaGreatDoorCards.lean) ties it to the program's text. -/
def laid_math_bits_deBruijn32tab {H : Type} : DataW H := .agg [.lit (.int .u8 0), .lit (.int .u8 1), .lit (.int .u8 28), .lit (.int .u8 2), .lit (.int .u8 29), .lit (.int .u8 14), .lit (.int .u8 24), .lit (.int .u8 3), .lit (.int .u8 30), .lit (.int .u8 22), .lit (.int .u8 20), .lit (.int .u8 15), .lit (.int .u8 25), .lit (.int .u8 17), .lit (.int .u8 4), .lit (.int .u8 8), .lit (.int .u8 31), .lit (.int .u8 27), .lit (.int .u8 13), .lit (.int .u8 23), .lit (.int .u8 21), .lit (.int .u8 19), .lit (.int .u8 16), .lit (.int .u8 7), .lit (.int .u8 26), .lit (.int .u8 12), .lit (.int .u8 18), .lit (.int .u8 6), .lit (.int .u8 11), .lit (.int .u8 5), .lit (.int .u8 10), .lit (.int .u8 9)]
def laid_math_bits_deBruijn64tab {H : Type} : DataW H := .agg [.lit (.int .u8 0), .lit (.int .u8 1), .lit (.int .u8 56), .lit (.int .u8 2), .lit (.int .u8 57), .lit (.int .u8 49), .lit (.int .u8 28), .lit (.int .u8 3), .lit (.int .u8 61), .lit (.int .u8 58), .lit (.int .u8 42), .lit (.int .u8 50), .lit (.int .u8 38), .lit (.int .u8 29), .lit (.int .u8 17), .lit (.int .u8 4), .lit (.int .u8 62), .lit (.int .u8 47), .lit (.int .u8 59), .lit (.int .u8 36), .lit (.int .u8 45), .lit (.int .u8 43), .lit (.int .u8 51), .lit (.int .u8 22), .lit (.int .u8 53), .lit (.int .u8 39), .lit (.int .u8 33), .lit (.int .u8 30), .lit (.int .u8 24), .lit (.int .u8 18), .lit (.int .u8 12), .lit (.int .u8 5), .lit (.int .u8 63), .lit (.int .u8 55), .lit (.int .u8 48), .lit (.int .u8 27), .lit (.int .u8 60), .lit (.int .u8 41), .lit (.int .u8 37), .lit (.int .u8 16), .lit (.int .u8 46), .lit (.int .u8 35), .lit (.int .u8 44), .lit (.int .u8 21), .lit (.int .u8 52), .lit (.int .u8 32), .lit (.int .u8 23), .lit (.int .u8 11), .lit (.int .u8 54), .lit (.int .u8 26), .lit (.int .u8 40), .lit (.int .u8 15), .lit (.int .u8 34), .lit (.int .u8 20), .lit (.int .u8 31), .lit (.int .u8 10), .lit (.int .u8 25), .lit (.int .u8 14), .lit (.int .u8 19), .lit (.int .u8 9), .lit (.int .u8 13), .lit (.int .u8 8), .lit (.int .u8 7), .lit (.int .u8 6)]
def laid_internal_strconv_uint64pow10 {H : Type} : DataW H := .agg [.lit (.int .u64 1), .lit (.int .u64 10), .lit (.int .u64 100), .lit (.int .u64 1000), .lit (.int .u64 10000), .lit (.int .u64 100000), .lit (.int .u64 1000000), .lit (.int .u64 10000000), .lit (.int .u64 100000000), .lit (.int .u64 1000000000), .lit (.int .u64 10000000000), .lit (.int .u64 100000000000), .lit (.int .u64 1000000000000), .lit (.int .u64 10000000000000), .lit (.int .u64 100000000000000), .lit (.int .u64 1000000000000000), .lit (.int .u64 10000000000000000), .lit (.int .u64 100000000000000000), .lit (.int .u64 1000000000000000000), .lit (.int .u64 10000000000000000000)]
def laid_unicode_utf8_acceptRanges {H : Type} : DataW H := .agg [.agg [.lit (.int .u8 128), .lit (.int .u8 191)], .agg [.lit (.int .u8 160), .lit (.int .u8 191)], .agg [.lit (.int .u8 128), .lit (.int .u8 159)], .agg [.lit (.int .u8 144), .lit (.int .u8 191)], .agg [.lit (.int .u8 128), .lit (.int .u8 143)], .agg [.lit (.int .u8 0), .lit (.int .u8 0)], .agg [.lit (.int .u8 0), .lit (.int .u8 0)], .agg [.lit (.int .u8 0), .lit (.int .u8 0)], .agg [.lit (.int .u8 0), .lit (.int .u8 0)], .agg [.lit (.int .u8 0), .lit (.int .u8 0)], .agg [.lit (.int .u8 0), .lit (.int .u8 0)], .agg [.lit (.int .u8 0), .lit (.int .u8 0)], .agg [.lit (.int .u8 0), .lit (.int .u8 0)], .agg [.lit (.int .u8 0), .lit (.int .u8 0)], .agg [.lit (.int .u8 0), .lit (.int .u8 0)], .agg [.lit (.int .u8 0), .lit (.int .u8 0)]]
def laid_strconv_ErrRange {H : Type} : DataW H := .iface "*errors.errorString" (.ptr (.agg [.lit (.string [118, 97, 108, 117, 101, 32, 111, 117, 116, 32, 111, 102, 32, 114, 97, 110, 103, 101])]))
def laid_strconv_ErrSyntax {H : Type} : DataW H := .iface "*errors.errorString" (.ptr (.agg [.lit (.string [105, 110, 118, 97, 108, 105, 100, 32, 115, 121, 110, 116, 97, 120])]))
def laid_lagan_cargo_kindWords {H : Type} : DataW H := .agg [.lit (.string []), .lit (.string [112, 97, 99, 107, 97, 103, 101]), .lit (.string [116, 111, 116, 97, 108]), .lit (.string [118, 111, 105, 100])]
/-- One of Go's own tables, pinned by name: the form's constant. -/
def laid_unicode_utf8_first : DataW Unit := Go.Pinned.utf8First

/-- 'laganlaw01.CargoPapers': WHATEVER THE INPUT: true; the input reads as it did. -/
def cargoPapersSpec : ChangeSpec := { name := "cargoPapers", fn := fun _ => fun
  | [d1, d2] => { results := [.lit (.bool true)], args := [d1, d2] }
  | _ => none }
def cargoPapersRow : OpenClaim := { program := "ytmhbhkipjjcmlaagreatdoor", sum := "534623ccfac623a695d1ce88e7a766353eb5ee3f80e4b8cec100d45bc8334009", func := "lagan/laganlaw01.CargoPapers", spec := "cargoPapers", inPlace := ["internal/bytealg.CountString", "internal/bytealg.IndexByteString", "internal/bytealg.IndexString", "internal/abi.NoEscape", "internal/bytealg.MakeNoZero"], unfollowed := true, recurses := true, named := ["unicode/utf8.first", "unicode/utf8.acceptRanges", "internal/bytealg.MaxLen", "lagan/cargo.kindWords", "strconv.ErrSyntax", "strconv.ErrRange", "internal/strconv.uint64pow10", "math/bits.deBruijn32tab", "math/bits.deBruijn64tab"], plainKeys := false, apart := false, laid := [("math/bits.deBruijn32tab", laid_math_bits_deBruijn32tab), ("math/bits.deBruijn64tab", laid_math_bits_deBruijn64tab), ("internal/strconv.uint64pow10", laid_internal_strconv_uint64pow10), ("unicode/utf8.acceptRanges", laid_unicode_utf8_acceptRanges), ("strconv.ErrRange", laid_strconv_ErrRange), ("strconv.ErrSyntax", laid_strconv_ErrSyntax), ("lagan/cargo.kindWords", laid_lagan_cargo_kindWords), ("unicode/utf8.first", laid_unicode_utf8_first)] }
def CargoPapersSaid : Prop := cargoPapersRow.holds Tryz.pinned (OpenSpec.ofChange cargoPapersSpec)

/-- ITS FALSE NEIGHBOUR: 'it returns false'. Refute it at one input. -/
def cargoPapersWrong : ChangeSpec := { name := "cargoPapers", fn := fun _ => fun
  | [d1, d2] => { results := [.lit (.bool false)], args := [d1, d2] }
  | _ => none }
def CargoPapersWrongFalsely : Prop := cargoPapersRow.holds Tryz.pinned (OpenSpec.ofChange cargoPapersWrong)

/-- 'laganlaw01.CargoManifests': WHATEVER THE INPUT: true; the input reads as it did. -/
def cargoManifestsSpec : ChangeSpec := { name := "cargoManifests", fn := fun _ => fun
  | [d1, d2, d3, d4] => { results := [.lit (.bool true)], args := [d1, d2, d3, d4] }
  | _ => none }
def cargoManifestsRow : OpenClaim := { program := "ytmhbhkipjjcmlaagreatdoor", sum := "534623ccfac623a695d1ce88e7a766353eb5ee3f80e4b8cec100d45bc8334009", func := "lagan/laganlaw01.CargoManifests", spec := "cargoManifests", inPlace := ["internal/bytealg.CountString", "internal/bytealg.IndexByteString", "internal/bytealg.IndexString", "internal/abi.NoEscape", "internal/bytealg.MakeNoZero"], unfollowed := true, recurses := true, named := ["unicode/utf8.first", "unicode/utf8.acceptRanges", "internal/bytealg.MaxLen", "lagan/cargo.kindWords", "strconv.ErrSyntax", "strconv.ErrRange", "internal/strconv.uint64pow10", "math/bits.deBruijn32tab", "math/bits.deBruijn64tab"], plainKeys := false, apart := false, laid := [("math/bits.deBruijn32tab", laid_math_bits_deBruijn32tab), ("math/bits.deBruijn64tab", laid_math_bits_deBruijn64tab), ("internal/strconv.uint64pow10", laid_internal_strconv_uint64pow10), ("unicode/utf8.acceptRanges", laid_unicode_utf8_acceptRanges), ("strconv.ErrRange", laid_strconv_ErrRange), ("strconv.ErrSyntax", laid_strconv_ErrSyntax), ("lagan/cargo.kindWords", laid_lagan_cargo_kindWords), ("unicode/utf8.first", laid_unicode_utf8_first)] }
def CargoManifestsSaid : Prop := cargoManifestsRow.holds Tryz.pinned (OpenSpec.ofChange cargoManifestsSpec)

/-- ITS FALSE NEIGHBOUR: 'it returns false'. Refute it at one input. -/
def cargoManifestsWrong : ChangeSpec := { name := "cargoManifests", fn := fun _ => fun
  | [d1, d2, d3, d4] => { results := [.lit (.bool false)], args := [d1, d2, d3, d4] }
  | _ => none }
def CargoManifestsWrongFalsely : Prop := cargoManifestsRow.holds Tryz.pinned (OpenSpec.ofChange cargoManifestsWrong)

/-- 'laganlaw01.CargoTrees': WHATEVER THE INPUT: true; the input reads as it did. -/
def cargoTreesSpec : ChangeSpec := { name := "cargoTrees", fn := fun _ => fun
  | [d1, d2, d3, d4] => { results := [.lit (.bool true)], args := [d1, d2, d3, d4] }
  | _ => none }
def cargoTreesRow : OpenClaim := { program := "ytmhbhkipjjcmlaagreatdoor", sum := "534623ccfac623a695d1ce88e7a766353eb5ee3f80e4b8cec100d45bc8334009", func := "lagan/laganlaw01.CargoTrees", spec := "cargoTrees", inPlace := ["internal/bytealg.CountString", "internal/bytealg.IndexByteString", "internal/bytealg.IndexString", "internal/abi.NoEscape", "internal/bytealg.MakeNoZero"], unfollowed := true, recurses := true, named := ["unicode/utf8.first", "unicode/utf8.acceptRanges", "internal/bytealg.MaxLen", "lagan/cargo.kindWords", "strconv.ErrSyntax", "strconv.ErrRange", "internal/strconv.uint64pow10", "math/bits.deBruijn32tab", "math/bits.deBruijn64tab"], plainKeys := false, apart := false, laid := [("math/bits.deBruijn32tab", laid_math_bits_deBruijn32tab), ("math/bits.deBruijn64tab", laid_math_bits_deBruijn64tab), ("internal/strconv.uint64pow10", laid_internal_strconv_uint64pow10), ("unicode/utf8.acceptRanges", laid_unicode_utf8_acceptRanges), ("strconv.ErrRange", laid_strconv_ErrRange), ("strconv.ErrSyntax", laid_strconv_ErrSyntax), ("lagan/cargo.kindWords", laid_lagan_cargo_kindWords), ("unicode/utf8.first", laid_unicode_utf8_first)] }
def CargoTreesSaid : Prop := cargoTreesRow.holds Tryz.pinned (OpenSpec.ofChange cargoTreesSpec)

/-- ITS FALSE NEIGHBOUR: 'it returns false'. Refute it at one input. -/
def cargoTreesWrong : ChangeSpec := { name := "cargoTrees", fn := fun _ => fun
  | [d1, d2, d3, d4] => { results := [.lit (.bool false)], args := [d1, d2, d3, d4] }
  | _ => none }
def CargoTreesWrongFalsely : Prop := cargoTreesRow.holds Tryz.pinned (OpenSpec.ofChange cargoTreesWrong)

/-- 'laganlaw01.CargoWeights': WHATEVER THE INPUT: true; the input reads as it did. -/
def cargoWeightsSpec : ChangeSpec := { name := "cargoWeights", fn := fun _ => fun
  | [d1, d2, d3, d4] => { results := [.lit (.bool true)], args := [d1, d2, d3, d4] }
  | _ => none }
def cargoWeightsRow : OpenClaim := { program := "ytmhbhkipjjcmlaagreatdoor", sum := "534623ccfac623a695d1ce88e7a766353eb5ee3f80e4b8cec100d45bc8334009", func := "lagan/laganlaw01.CargoWeights", spec := "cargoWeights", inPlace := ["internal/bytealg.CountString", "internal/bytealg.IndexByteString", "internal/bytealg.IndexString", "internal/abi.NoEscape", "internal/bytealg.MakeNoZero"], unfollowed := true, recurses := true, named := ["unicode/utf8.first", "unicode/utf8.acceptRanges", "internal/bytealg.MaxLen", "lagan/cargo.kindWords", "strconv.ErrSyntax", "strconv.ErrRange", "internal/strconv.uint64pow10", "math/bits.deBruijn32tab", "math/bits.deBruijn64tab"], plainKeys := false, apart := false, laid := [("math/bits.deBruijn32tab", laid_math_bits_deBruijn32tab), ("math/bits.deBruijn64tab", laid_math_bits_deBruijn64tab), ("internal/strconv.uint64pow10", laid_internal_strconv_uint64pow10), ("unicode/utf8.acceptRanges", laid_unicode_utf8_acceptRanges), ("strconv.ErrRange", laid_strconv_ErrRange), ("strconv.ErrSyntax", laid_strconv_ErrSyntax), ("lagan/cargo.kindWords", laid_lagan_cargo_kindWords), ("unicode/utf8.first", laid_unicode_utf8_first)] }
def CargoWeightsSaid : Prop := cargoWeightsRow.holds Tryz.pinned (OpenSpec.ofChange cargoWeightsSpec)

/-- ITS FALSE NEIGHBOUR: 'it returns false'. Refute it at one input. -/
def cargoWeightsWrong : ChangeSpec := { name := "cargoWeights", fn := fun _ => fun
  | [d1, d2, d3, d4] => { results := [.lit (.bool false)], args := [d1, d2, d3, d4] }
  | _ => none }
def CargoWeightsWrongFalsely : Prop := cargoWeightsRow.holds Tryz.pinned (OpenSpec.ofChange cargoWeightsWrong)

/-- 'laganlaw01.CargoCompletions': WHATEVER THE INPUT: true; the input reads as it did. -/
def cargoCompletionsSpec : ChangeSpec := { name := "cargoCompletions", fn := fun _ => fun
  | [d1, d2, d3, d4, d5, d6] => { results := [.lit (.bool true)], args := [d1, d2, d3, d4, d5, d6] }
  | _ => none }
def cargoCompletionsRow : OpenClaim := { program := "ytmhbhkipjjcmlaagreatdoor", sum := "534623ccfac623a695d1ce88e7a766353eb5ee3f80e4b8cec100d45bc8334009", func := "lagan/laganlaw01.CargoCompletions", spec := "cargoCompletions", inPlace := ["internal/bytealg.CountString", "internal/bytealg.IndexByteString", "internal/bytealg.IndexString", "internal/abi.NoEscape", "internal/bytealg.MakeNoZero"], unfollowed := true, recurses := true, named := ["unicode/utf8.first", "unicode/utf8.acceptRanges", "internal/bytealg.MaxLen", "lagan/cargo.kindWords", "strconv.ErrSyntax", "strconv.ErrRange", "internal/strconv.uint64pow10", "math/bits.deBruijn32tab", "math/bits.deBruijn64tab"], plainKeys := false, apart := false, laid := [("math/bits.deBruijn32tab", laid_math_bits_deBruijn32tab), ("math/bits.deBruijn64tab", laid_math_bits_deBruijn64tab), ("internal/strconv.uint64pow10", laid_internal_strconv_uint64pow10), ("unicode/utf8.acceptRanges", laid_unicode_utf8_acceptRanges), ("strconv.ErrRange", laid_strconv_ErrRange), ("strconv.ErrSyntax", laid_strconv_ErrSyntax), ("lagan/cargo.kindWords", laid_lagan_cargo_kindWords), ("unicode/utf8.first", laid_unicode_utf8_first)] }
def CargoCompletionsSaid : Prop := cargoCompletionsRow.holds Tryz.pinned (OpenSpec.ofChange cargoCompletionsSpec)

/-- ITS FALSE NEIGHBOUR: 'it returns false'. Refute it at one input. -/
def cargoCompletionsWrong : ChangeSpec := { name := "cargoCompletions", fn := fun _ => fun
  | [d1, d2, d3, d4, d5, d6] => { results := [.lit (.bool false)], args := [d1, d2, d3, d4, d5, d6] }
  | _ => none }
def CargoCompletionsWrongFalsely : Prop := cargoCompletionsRow.holds Tryz.pinned (OpenSpec.ofChange cargoCompletionsWrong)

/-- 'laganlaw01.CargoLineages': WHATEVER THE INPUT: true; the input reads as it did. -/
def cargoLineagesSpec : ChangeSpec := { name := "cargoLineages", fn := fun _ => fun
  | [d1, d2, d3, d4, d5, d6, d7] => { results := [.lit (.bool true)], args := [d1, d2, d3, d4, d5, d6, d7] }
  | _ => none }
def cargoLineagesRow : OpenClaim := { program := "ytmhbhkipjjcmlaagreatdoor", sum := "534623ccfac623a695d1ce88e7a766353eb5ee3f80e4b8cec100d45bc8334009", func := "lagan/laganlaw01.CargoLineages", spec := "cargoLineages", inPlace := ["internal/bytealg.CountString", "internal/bytealg.IndexByteString", "internal/bytealg.IndexString", "internal/abi.NoEscape", "internal/bytealg.MakeNoZero"], unfollowed := true, recurses := true, named := ["unicode/utf8.first", "unicode/utf8.acceptRanges", "internal/bytealg.MaxLen", "lagan/cargo.kindWords", "strconv.ErrSyntax", "strconv.ErrRange", "internal/strconv.uint64pow10", "math/bits.deBruijn32tab", "math/bits.deBruijn64tab"], plainKeys := false, apart := false, laid := [("math/bits.deBruijn32tab", laid_math_bits_deBruijn32tab), ("math/bits.deBruijn64tab", laid_math_bits_deBruijn64tab), ("internal/strconv.uint64pow10", laid_internal_strconv_uint64pow10), ("unicode/utf8.acceptRanges", laid_unicode_utf8_acceptRanges), ("strconv.ErrRange", laid_strconv_ErrRange), ("strconv.ErrSyntax", laid_strconv_ErrSyntax), ("lagan/cargo.kindWords", laid_lagan_cargo_kindWords), ("unicode/utf8.first", laid_unicode_utf8_first)] }
def CargoLineagesSaid : Prop := cargoLineagesRow.holds Tryz.pinned (OpenSpec.ofChange cargoLineagesSpec)

/-- ITS FALSE NEIGHBOUR: 'it returns false'. Refute it at one input. -/
def cargoLineagesWrong : ChangeSpec := { name := "cargoLineages", fn := fun _ => fun
  | [d1, d2, d3, d4, d5, d6, d7] => { results := [.lit (.bool false)], args := [d1, d2, d3, d4, d5, d6, d7] }
  | _ => none }
def CargoLineagesWrongFalsely : Prop := cargoLineagesRow.holds Tryz.pinned (OpenSpec.ofChange cargoLineagesWrong)

/-- 'laganlaw01.CargoDoubts': WHATEVER THE INPUT: true; the input reads as it did. -/
def cargoDoubtsSpec : ChangeSpec := { name := "cargoDoubts", fn := fun _ => fun
  | [d1, d2, d3, d4] => { results := [.lit (.bool true)], args := [d1, d2, d3, d4] }
  | _ => none }
def cargoDoubtsRow : OpenClaim := { program := "ytmhbhkipjjcmlaagreatdoor", sum := "534623ccfac623a695d1ce88e7a766353eb5ee3f80e4b8cec100d45bc8334009", func := "lagan/laganlaw01.CargoDoubts", spec := "cargoDoubts", inPlace := ["internal/bytealg.CountString", "internal/bytealg.IndexByteString", "internal/bytealg.IndexString", "internal/abi.NoEscape", "internal/bytealg.MakeNoZero"], unfollowed := true, recurses := true, named := ["unicode/utf8.first", "unicode/utf8.acceptRanges", "internal/bytealg.MaxLen", "lagan/cargo.kindWords", "strconv.ErrSyntax", "strconv.ErrRange", "internal/strconv.uint64pow10", "math/bits.deBruijn32tab", "math/bits.deBruijn64tab"], plainKeys := false, apart := false, laid := [("math/bits.deBruijn32tab", laid_math_bits_deBruijn32tab), ("math/bits.deBruijn64tab", laid_math_bits_deBruijn64tab), ("internal/strconv.uint64pow10", laid_internal_strconv_uint64pow10), ("unicode/utf8.acceptRanges", laid_unicode_utf8_acceptRanges), ("strconv.ErrRange", laid_strconv_ErrRange), ("strconv.ErrSyntax", laid_strconv_ErrSyntax), ("lagan/cargo.kindWords", laid_lagan_cargo_kindWords), ("unicode/utf8.first", laid_unicode_utf8_first)] }
def CargoDoubtsSaid : Prop := cargoDoubtsRow.holds Tryz.pinned (OpenSpec.ofChange cargoDoubtsSpec)

/-- ITS FALSE NEIGHBOUR: 'it returns false'. Refute it at one input. -/
def cargoDoubtsWrong : ChangeSpec := { name := "cargoDoubts", fn := fun _ => fun
  | [d1, d2, d3, d4] => { results := [.lit (.bool false)], args := [d1, d2, d3, d4] }
  | _ => none }
def CargoDoubtsWrongFalsely : Prop := cargoDoubtsRow.holds Tryz.pinned (OpenSpec.ofChange cargoDoubtsWrong)

/-- 'laganlaw01.CargoReached': WHATEVER THE INPUT: true; the input reads as it did. -/
def cargoReachedSpec : ChangeSpec := { name := "cargoReached", fn := fun _ => fun
  | [d1, d2, d3] => { results := [.lit (.bool true)], args := [d1, d2, d3] }
  | _ => none }
def cargoReachedRow : OpenClaim := { program := "ytmhbhkipjjcmlaagreatdoor", sum := "534623ccfac623a695d1ce88e7a766353eb5ee3f80e4b8cec100d45bc8334009", func := "lagan/laganlaw01.CargoReached", spec := "cargoReached", inPlace := ["internal/bytealg.CountString", "internal/bytealg.IndexByteString", "internal/bytealg.IndexString", "internal/abi.NoEscape", "internal/bytealg.MakeNoZero"], unfollowed := true, recurses := true, named := ["unicode/utf8.first", "unicode/utf8.acceptRanges", "internal/bytealg.MaxLen", "lagan/cargo.kindWords", "strconv.ErrSyntax", "strconv.ErrRange", "internal/strconv.uint64pow10", "math/bits.deBruijn32tab", "math/bits.deBruijn64tab"], plainKeys := false, apart := false, laid := [("math/bits.deBruijn32tab", laid_math_bits_deBruijn32tab), ("math/bits.deBruijn64tab", laid_math_bits_deBruijn64tab), ("internal/strconv.uint64pow10", laid_internal_strconv_uint64pow10), ("unicode/utf8.acceptRanges", laid_unicode_utf8_acceptRanges), ("strconv.ErrRange", laid_strconv_ErrRange), ("strconv.ErrSyntax", laid_strconv_ErrSyntax), ("lagan/cargo.kindWords", laid_lagan_cargo_kindWords), ("unicode/utf8.first", laid_unicode_utf8_first)] }
def CargoReachedSaid : Prop := cargoReachedRow.holds Tryz.pinned (OpenSpec.ofChange cargoReachedSpec)

/-- ITS FALSE NEIGHBOUR: 'it returns false'. Refute it at one input. -/
def cargoReachedWrong : ChangeSpec := { name := "cargoReached", fn := fun _ => fun
  | [d1, d2, d3] => { results := [.lit (.bool false)], args := [d1, d2, d3] }
  | _ => none }
def CargoReachedWrongFalsely : Prop := cargoReachedRow.holds Tryz.pinned (OpenSpec.ofChange cargoReachedWrong)

/-- 'laganlaw01.CargoTexts': WHATEVER THE INPUT: true; the input reads as it did. -/
def cargoTextsSpec : ChangeSpec := { name := "cargoTexts", fn := fun _ => fun
  | [d1, d2] => { results := [.lit (.bool true)], args := [d1, d2] }
  | _ => none }
def cargoTextsRow : OpenClaim := { program := "ytmhbhkipjjcmlaagreatdoor", sum := "534623ccfac623a695d1ce88e7a766353eb5ee3f80e4b8cec100d45bc8334009", func := "lagan/laganlaw01.CargoTexts", spec := "cargoTexts", inPlace := ["internal/bytealg.CountString", "internal/bytealg.IndexByteString", "internal/bytealg.IndexString", "internal/abi.NoEscape", "internal/bytealg.MakeNoZero"], unfollowed := true, recurses := true, named := ["unicode/utf8.first", "unicode/utf8.acceptRanges", "internal/bytealg.MaxLen", "lagan/cargo.kindWords", "strconv.ErrSyntax", "strconv.ErrRange", "internal/strconv.uint64pow10", "math/bits.deBruijn32tab", "math/bits.deBruijn64tab"], plainKeys := false, apart := false, laid := [("math/bits.deBruijn32tab", laid_math_bits_deBruijn32tab), ("math/bits.deBruijn64tab", laid_math_bits_deBruijn64tab), ("internal/strconv.uint64pow10", laid_internal_strconv_uint64pow10), ("unicode/utf8.acceptRanges", laid_unicode_utf8_acceptRanges), ("strconv.ErrRange", laid_strconv_ErrRange), ("strconv.ErrSyntax", laid_strconv_ErrSyntax), ("lagan/cargo.kindWords", laid_lagan_cargo_kindWords), ("unicode/utf8.first", laid_unicode_utf8_first)] }
def CargoTextsSaid : Prop := cargoTextsRow.holds Tryz.pinned (OpenSpec.ofChange cargoTextsSpec)

/-- ITS FALSE NEIGHBOUR: 'it returns false'. Refute it at one input. -/
def cargoTextsWrong : ChangeSpec := { name := "cargoTexts", fn := fun _ => fun
  | [d1, d2] => { results := [.lit (.bool false)], args := [d1, d2] }
  | _ => none }
def CargoTextsWrongFalsely : Prop := cargoTextsRow.holds Tryz.pinned (OpenSpec.ofChange cargoTextsWrong)

/-- 'laganlaw01.CargoSharp': WHATEVER THE INPUT: true; the input reads as it did. -/
def cargoSharpSpec : ChangeSpec := { name := "cargoSharp", fn := fun _ => fun
  | [d1, d2, d3, d4] => { results := [.lit (.bool true)], args := [d1, d2, d3, d4] }
  | _ => none }
def cargoSharpRow : OpenClaim := { program := "ytmhbhkipjjcmlaagreatdoor", sum := "534623ccfac623a695d1ce88e7a766353eb5ee3f80e4b8cec100d45bc8334009", func := "lagan/laganlaw01.CargoSharp", spec := "cargoSharp", inPlace := ["internal/bytealg.CountString", "internal/bytealg.IndexByteString", "internal/bytealg.IndexString", "internal/abi.NoEscape", "internal/bytealg.MakeNoZero"], unfollowed := true, recurses := true, named := ["unicode/utf8.first", "unicode/utf8.acceptRanges", "internal/bytealg.MaxLen", "lagan/cargo.kindWords", "strconv.ErrSyntax", "strconv.ErrRange", "internal/strconv.uint64pow10", "math/bits.deBruijn32tab", "math/bits.deBruijn64tab"], plainKeys := false, apart := false, laid := [("math/bits.deBruijn32tab", laid_math_bits_deBruijn32tab), ("math/bits.deBruijn64tab", laid_math_bits_deBruijn64tab), ("internal/strconv.uint64pow10", laid_internal_strconv_uint64pow10), ("unicode/utf8.acceptRanges", laid_unicode_utf8_acceptRanges), ("strconv.ErrRange", laid_strconv_ErrRange), ("strconv.ErrSyntax", laid_strconv_ErrSyntax), ("lagan/cargo.kindWords", laid_lagan_cargo_kindWords), ("unicode/utf8.first", laid_unicode_utf8_first)] }
def CargoSharpSaid : Prop := cargoSharpRow.holds Tryz.pinned (OpenSpec.ofChange cargoSharpSpec)

/-- ITS FALSE NEIGHBOUR: 'it returns false'. Refute it at one input. -/
def cargoSharpWrong : ChangeSpec := { name := "cargoSharp", fn := fun _ => fun
  | [d1, d2, d3, d4] => { results := [.lit (.bool false)], args := [d1, d2, d3, d4] }
  | _ => none }
def CargoSharpWrongFalsely : Prop := cargoSharpRow.holds Tryz.pinned (OpenSpec.ofChange cargoSharpWrong)

/-- 'laganlaw01.CargoEither': WHATEVER THE INPUT: true; the input reads as it did. -/
def cargoEitherSpec : ChangeSpec := { name := "cargoEither", fn := fun _ => fun
  | [d1, d2, d3, d4] => { results := [.lit (.bool true)], args := [d1, d2, d3, d4] }
  | _ => none }
def cargoEitherRow : OpenClaim := { program := "ytmhbhkipjjcmlaagreatdoor", sum := "534623ccfac623a695d1ce88e7a766353eb5ee3f80e4b8cec100d45bc8334009", func := "lagan/laganlaw01.CargoEither", spec := "cargoEither", inPlace := ["internal/bytealg.CountString", "internal/bytealg.IndexByteString", "internal/bytealg.IndexString", "internal/abi.NoEscape", "internal/bytealg.MakeNoZero"], unfollowed := true, recurses := true, named := ["unicode/utf8.first", "unicode/utf8.acceptRanges", "internal/bytealg.MaxLen", "lagan/cargo.kindWords", "strconv.ErrSyntax", "strconv.ErrRange", "internal/strconv.uint64pow10", "math/bits.deBruijn32tab", "math/bits.deBruijn64tab"], plainKeys := false, apart := false, laid := [("math/bits.deBruijn32tab", laid_math_bits_deBruijn32tab), ("math/bits.deBruijn64tab", laid_math_bits_deBruijn64tab), ("internal/strconv.uint64pow10", laid_internal_strconv_uint64pow10), ("unicode/utf8.acceptRanges", laid_unicode_utf8_acceptRanges), ("strconv.ErrRange", laid_strconv_ErrRange), ("strconv.ErrSyntax", laid_strconv_ErrSyntax), ("lagan/cargo.kindWords", laid_lagan_cargo_kindWords), ("unicode/utf8.first", laid_unicode_utf8_first)] }
def CargoEitherSaid : Prop := cargoEitherRow.holds Tryz.pinned (OpenSpec.ofChange cargoEitherSpec)

/-- ITS FALSE NEIGHBOUR: 'it returns false'. Refute it at one input. -/
def cargoEitherWrong : ChangeSpec := { name := "cargoEither", fn := fun _ => fun
  | [d1, d2, d3, d4] => { results := [.lit (.bool false)], args := [d1, d2, d3, d4] }
  | _ => none }
def CargoEitherWrongFalsely : Prop := cargoEitherRow.holds Tryz.pinned (OpenSpec.ofChange cargoEitherWrong)

/-- 'laganlaw01.CargoRests': WHATEVER THE INPUT: true; the input reads as it did. -/
def cargoRestsSpec : ChangeSpec := { name := "cargoRests", fn := fun _ => fun
  | [d1, d2, d3, d4, d5, d6, d7] => { results := [.lit (.bool true)], args := [d1, d2, d3, d4, d5, d6, d7] }
  | _ => none }
def cargoRestsRow : OpenClaim := { program := "ytmhbhkipjjcmlaagreatdoor", sum := "534623ccfac623a695d1ce88e7a766353eb5ee3f80e4b8cec100d45bc8334009", func := "lagan/laganlaw01.CargoRests", spec := "cargoRests", inPlace := ["internal/bytealg.CountString", "internal/bytealg.IndexByteString", "internal/bytealg.IndexString", "internal/abi.NoEscape", "internal/bytealg.MakeNoZero"], unfollowed := true, recurses := true, named := ["unicode/utf8.first", "unicode/utf8.acceptRanges", "internal/bytealg.MaxLen", "lagan/cargo.kindWords", "strconv.ErrSyntax", "strconv.ErrRange", "internal/strconv.uint64pow10", "math/bits.deBruijn32tab", "math/bits.deBruijn64tab"], plainKeys := false, apart := false, laid := [("math/bits.deBruijn32tab", laid_math_bits_deBruijn32tab), ("math/bits.deBruijn64tab", laid_math_bits_deBruijn64tab), ("internal/strconv.uint64pow10", laid_internal_strconv_uint64pow10), ("unicode/utf8.acceptRanges", laid_unicode_utf8_acceptRanges), ("strconv.ErrRange", laid_strconv_ErrRange), ("strconv.ErrSyntax", laid_strconv_ErrSyntax), ("lagan/cargo.kindWords", laid_lagan_cargo_kindWords), ("unicode/utf8.first", laid_unicode_utf8_first)] }
def CargoRestsSaid : Prop := cargoRestsRow.holds Tryz.pinned (OpenSpec.ofChange cargoRestsSpec)

/-- ITS FALSE NEIGHBOUR: 'it returns false'. Refute it at one input. -/
def cargoRestsWrong : ChangeSpec := { name := "cargoRests", fn := fun _ => fun
  | [d1, d2, d3, d4, d5, d6, d7] => { results := [.lit (.bool false)], args := [d1, d2, d3, d4, d5, d6, d7] }
  | _ => none }
def CargoRestsWrongFalsely : Prop := cargoRestsRow.holds Tryz.pinned (OpenSpec.ofChange cargoRestsWrong)

/- THE SECOND FORM. 'bulk': how many values and letters a reading holds, each counted each time it is reached (what is shared counts as often as it is met; a slice's spare places count too). A statement '..UptoSaid' is the law's where the arguments, and the package variables that the reading takes, are together of bulk at most 1048576: NARROWER than '..Said'. Prove '..Said' where nothing that the law and all that it calls make is longer than what came in: it says more and counts as full. Else prove '..UptoSaid'. A law counts once. -/
mutual
def uptoBulk {H : Type} : DataW H → Nat
  | .lit (.string bytes) => bytes.length + 1
  | .lit _ => 1
  | .nil => 1
  | .ptr d => uptoBulk d + 1
  | .slice elems spare => uptoBulkAll elems + uptoBulkAll spare + 1
  | .agg parts => uptoBulkAll parts + 1
  | .iface _ d => uptoBulk d + 1
  | .map entries => uptoBulkEntries entries + 1
  | .held _ => 1
def uptoBulkAll {H : Type} : List (DataW H) → Nat
  | [] => 0
  | d :: r => uptoBulk d + uptoBulkAll r
def uptoBulkEntries {H : Type} : List (Lit × DataW H) → Nat
  | [] => 0
  | x :: r => uptoBulkEntry x + uptoBulkEntries r
def uptoBulkEntry {H : Type} : Lit × DataW H → Nat
  | (.string bytes, d) => bytes.length + uptoBulk d + 1
  | (_, d) => uptoBulk d + 1
 end
def uptoSmall : (H : Type) → List (DataW H) → Bool := fun _ ds => decide (uptoBulkAll ds ≤ 1048576)
def OpenSpec.upto (s : _root_.Go.ChangeSpec) : _root_.Go.OpenSpec := { _root_.Go.OpenSpec.ofChange s with cond := some uptoSmall }

/-- 'laganlaw01.CargoPapers', WHERE WHAT IT READS IS OF BULK AT MOST 1048576: true; the input reads as it did. -/
def cargoPapersUptoRow : OpenClaim := { program := "ytmhbhkipjjcmlaagreatdoor", sum := "534623ccfac623a695d1ce88e7a766353eb5ee3f80e4b8cec100d45bc8334009", func := "lagan/laganlaw01.CargoPapers", spec := "cargoPapers", inPlace := ["internal/bytealg.CountString", "internal/bytealg.IndexByteString", "internal/bytealg.IndexString", "internal/abi.NoEscape", "internal/bytealg.MakeNoZero"], unfollowed := true, recurses := true, named := ["unicode/utf8.first", "unicode/utf8.acceptRanges", "internal/bytealg.MaxLen", "lagan/cargo.kindWords", "strconv.ErrSyntax", "strconv.ErrRange", "internal/strconv.uint64pow10", "math/bits.deBruijn32tab", "math/bits.deBruijn64tab"], plainKeys := false, apart := false, laid := [("math/bits.deBruijn32tab", laid_math_bits_deBruijn32tab), ("math/bits.deBruijn64tab", laid_math_bits_deBruijn64tab), ("internal/strconv.uint64pow10", laid_internal_strconv_uint64pow10), ("unicode/utf8.acceptRanges", laid_unicode_utf8_acceptRanges), ("strconv.ErrRange", laid_strconv_ErrRange), ("strconv.ErrSyntax", laid_strconv_ErrSyntax), ("lagan/cargo.kindWords", laid_lagan_cargo_kindWords), ("unicode/utf8.first", laid_unicode_utf8_first)], narrowed := true }
def CargoPapersUptoSaid : Prop := cargoPapersUptoRow.holds Tryz.pinned (OpenSpec.upto cargoPapersSpec)

/-- 'laganlaw01.CargoManifests', WHERE WHAT IT READS IS OF BULK AT MOST 1048576: true; the input reads as it did. -/
def cargoManifestsUptoRow : OpenClaim := { program := "ytmhbhkipjjcmlaagreatdoor", sum := "534623ccfac623a695d1ce88e7a766353eb5ee3f80e4b8cec100d45bc8334009", func := "lagan/laganlaw01.CargoManifests", spec := "cargoManifests", inPlace := ["internal/bytealg.CountString", "internal/bytealg.IndexByteString", "internal/bytealg.IndexString", "internal/abi.NoEscape", "internal/bytealg.MakeNoZero"], unfollowed := true, recurses := true, named := ["unicode/utf8.first", "unicode/utf8.acceptRanges", "internal/bytealg.MaxLen", "lagan/cargo.kindWords", "strconv.ErrSyntax", "strconv.ErrRange", "internal/strconv.uint64pow10", "math/bits.deBruijn32tab", "math/bits.deBruijn64tab"], plainKeys := false, apart := false, laid := [("math/bits.deBruijn32tab", laid_math_bits_deBruijn32tab), ("math/bits.deBruijn64tab", laid_math_bits_deBruijn64tab), ("internal/strconv.uint64pow10", laid_internal_strconv_uint64pow10), ("unicode/utf8.acceptRanges", laid_unicode_utf8_acceptRanges), ("strconv.ErrRange", laid_strconv_ErrRange), ("strconv.ErrSyntax", laid_strconv_ErrSyntax), ("lagan/cargo.kindWords", laid_lagan_cargo_kindWords), ("unicode/utf8.first", laid_unicode_utf8_first)], narrowed := true }
def CargoManifestsUptoSaid : Prop := cargoManifestsUptoRow.holds Tryz.pinned (OpenSpec.upto cargoManifestsSpec)

/-- 'laganlaw01.CargoTrees', WHERE WHAT IT READS IS OF BULK AT MOST 1048576: true; the input reads as it did. -/
def cargoTreesUptoRow : OpenClaim := { program := "ytmhbhkipjjcmlaagreatdoor", sum := "534623ccfac623a695d1ce88e7a766353eb5ee3f80e4b8cec100d45bc8334009", func := "lagan/laganlaw01.CargoTrees", spec := "cargoTrees", inPlace := ["internal/bytealg.CountString", "internal/bytealg.IndexByteString", "internal/bytealg.IndexString", "internal/abi.NoEscape", "internal/bytealg.MakeNoZero"], unfollowed := true, recurses := true, named := ["unicode/utf8.first", "unicode/utf8.acceptRanges", "internal/bytealg.MaxLen", "lagan/cargo.kindWords", "strconv.ErrSyntax", "strconv.ErrRange", "internal/strconv.uint64pow10", "math/bits.deBruijn32tab", "math/bits.deBruijn64tab"], plainKeys := false, apart := false, laid := [("math/bits.deBruijn32tab", laid_math_bits_deBruijn32tab), ("math/bits.deBruijn64tab", laid_math_bits_deBruijn64tab), ("internal/strconv.uint64pow10", laid_internal_strconv_uint64pow10), ("unicode/utf8.acceptRanges", laid_unicode_utf8_acceptRanges), ("strconv.ErrRange", laid_strconv_ErrRange), ("strconv.ErrSyntax", laid_strconv_ErrSyntax), ("lagan/cargo.kindWords", laid_lagan_cargo_kindWords), ("unicode/utf8.first", laid_unicode_utf8_first)], narrowed := true }
def CargoTreesUptoSaid : Prop := cargoTreesUptoRow.holds Tryz.pinned (OpenSpec.upto cargoTreesSpec)

/-- 'laganlaw01.CargoWeights', WHERE WHAT IT READS IS OF BULK AT MOST 1048576: true; the input reads as it did. -/
def cargoWeightsUptoRow : OpenClaim := { program := "ytmhbhkipjjcmlaagreatdoor", sum := "534623ccfac623a695d1ce88e7a766353eb5ee3f80e4b8cec100d45bc8334009", func := "lagan/laganlaw01.CargoWeights", spec := "cargoWeights", inPlace := ["internal/bytealg.CountString", "internal/bytealg.IndexByteString", "internal/bytealg.IndexString", "internal/abi.NoEscape", "internal/bytealg.MakeNoZero"], unfollowed := true, recurses := true, named := ["unicode/utf8.first", "unicode/utf8.acceptRanges", "internal/bytealg.MaxLen", "lagan/cargo.kindWords", "strconv.ErrSyntax", "strconv.ErrRange", "internal/strconv.uint64pow10", "math/bits.deBruijn32tab", "math/bits.deBruijn64tab"], plainKeys := false, apart := false, laid := [("math/bits.deBruijn32tab", laid_math_bits_deBruijn32tab), ("math/bits.deBruijn64tab", laid_math_bits_deBruijn64tab), ("internal/strconv.uint64pow10", laid_internal_strconv_uint64pow10), ("unicode/utf8.acceptRanges", laid_unicode_utf8_acceptRanges), ("strconv.ErrRange", laid_strconv_ErrRange), ("strconv.ErrSyntax", laid_strconv_ErrSyntax), ("lagan/cargo.kindWords", laid_lagan_cargo_kindWords), ("unicode/utf8.first", laid_unicode_utf8_first)], narrowed := true }
def CargoWeightsUptoSaid : Prop := cargoWeightsUptoRow.holds Tryz.pinned (OpenSpec.upto cargoWeightsSpec)

/-- 'laganlaw01.CargoCompletions', WHERE WHAT IT READS IS OF BULK AT MOST 1048576: true; the input reads as it did. -/
def cargoCompletionsUptoRow : OpenClaim := { program := "ytmhbhkipjjcmlaagreatdoor", sum := "534623ccfac623a695d1ce88e7a766353eb5ee3f80e4b8cec100d45bc8334009", func := "lagan/laganlaw01.CargoCompletions", spec := "cargoCompletions", inPlace := ["internal/bytealg.CountString", "internal/bytealg.IndexByteString", "internal/bytealg.IndexString", "internal/abi.NoEscape", "internal/bytealg.MakeNoZero"], unfollowed := true, recurses := true, named := ["unicode/utf8.first", "unicode/utf8.acceptRanges", "internal/bytealg.MaxLen", "lagan/cargo.kindWords", "strconv.ErrSyntax", "strconv.ErrRange", "internal/strconv.uint64pow10", "math/bits.deBruijn32tab", "math/bits.deBruijn64tab"], plainKeys := false, apart := false, laid := [("math/bits.deBruijn32tab", laid_math_bits_deBruijn32tab), ("math/bits.deBruijn64tab", laid_math_bits_deBruijn64tab), ("internal/strconv.uint64pow10", laid_internal_strconv_uint64pow10), ("unicode/utf8.acceptRanges", laid_unicode_utf8_acceptRanges), ("strconv.ErrRange", laid_strconv_ErrRange), ("strconv.ErrSyntax", laid_strconv_ErrSyntax), ("lagan/cargo.kindWords", laid_lagan_cargo_kindWords), ("unicode/utf8.first", laid_unicode_utf8_first)], narrowed := true }
def CargoCompletionsUptoSaid : Prop := cargoCompletionsUptoRow.holds Tryz.pinned (OpenSpec.upto cargoCompletionsSpec)

/-- 'laganlaw01.CargoLineages', WHERE WHAT IT READS IS OF BULK AT MOST 1048576: true; the input reads as it did. -/
def cargoLineagesUptoRow : OpenClaim := { program := "ytmhbhkipjjcmlaagreatdoor", sum := "534623ccfac623a695d1ce88e7a766353eb5ee3f80e4b8cec100d45bc8334009", func := "lagan/laganlaw01.CargoLineages", spec := "cargoLineages", inPlace := ["internal/bytealg.CountString", "internal/bytealg.IndexByteString", "internal/bytealg.IndexString", "internal/abi.NoEscape", "internal/bytealg.MakeNoZero"], unfollowed := true, recurses := true, named := ["unicode/utf8.first", "unicode/utf8.acceptRanges", "internal/bytealg.MaxLen", "lagan/cargo.kindWords", "strconv.ErrSyntax", "strconv.ErrRange", "internal/strconv.uint64pow10", "math/bits.deBruijn32tab", "math/bits.deBruijn64tab"], plainKeys := false, apart := false, laid := [("math/bits.deBruijn32tab", laid_math_bits_deBruijn32tab), ("math/bits.deBruijn64tab", laid_math_bits_deBruijn64tab), ("internal/strconv.uint64pow10", laid_internal_strconv_uint64pow10), ("unicode/utf8.acceptRanges", laid_unicode_utf8_acceptRanges), ("strconv.ErrRange", laid_strconv_ErrRange), ("strconv.ErrSyntax", laid_strconv_ErrSyntax), ("lagan/cargo.kindWords", laid_lagan_cargo_kindWords), ("unicode/utf8.first", laid_unicode_utf8_first)], narrowed := true }
def CargoLineagesUptoSaid : Prop := cargoLineagesUptoRow.holds Tryz.pinned (OpenSpec.upto cargoLineagesSpec)

/-- 'laganlaw01.CargoDoubts', WHERE WHAT IT READS IS OF BULK AT MOST 1048576: true; the input reads as it did. -/
def cargoDoubtsUptoRow : OpenClaim := { program := "ytmhbhkipjjcmlaagreatdoor", sum := "534623ccfac623a695d1ce88e7a766353eb5ee3f80e4b8cec100d45bc8334009", func := "lagan/laganlaw01.CargoDoubts", spec := "cargoDoubts", inPlace := ["internal/bytealg.CountString", "internal/bytealg.IndexByteString", "internal/bytealg.IndexString", "internal/abi.NoEscape", "internal/bytealg.MakeNoZero"], unfollowed := true, recurses := true, named := ["unicode/utf8.first", "unicode/utf8.acceptRanges", "internal/bytealg.MaxLen", "lagan/cargo.kindWords", "strconv.ErrSyntax", "strconv.ErrRange", "internal/strconv.uint64pow10", "math/bits.deBruijn32tab", "math/bits.deBruijn64tab"], plainKeys := false, apart := false, laid := [("math/bits.deBruijn32tab", laid_math_bits_deBruijn32tab), ("math/bits.deBruijn64tab", laid_math_bits_deBruijn64tab), ("internal/strconv.uint64pow10", laid_internal_strconv_uint64pow10), ("unicode/utf8.acceptRanges", laid_unicode_utf8_acceptRanges), ("strconv.ErrRange", laid_strconv_ErrRange), ("strconv.ErrSyntax", laid_strconv_ErrSyntax), ("lagan/cargo.kindWords", laid_lagan_cargo_kindWords), ("unicode/utf8.first", laid_unicode_utf8_first)], narrowed := true }
def CargoDoubtsUptoSaid : Prop := cargoDoubtsUptoRow.holds Tryz.pinned (OpenSpec.upto cargoDoubtsSpec)

/-- 'laganlaw01.CargoReached', WHERE WHAT IT READS IS OF BULK AT MOST 1048576: true; the input reads as it did. -/
def cargoReachedUptoRow : OpenClaim := { program := "ytmhbhkipjjcmlaagreatdoor", sum := "534623ccfac623a695d1ce88e7a766353eb5ee3f80e4b8cec100d45bc8334009", func := "lagan/laganlaw01.CargoReached", spec := "cargoReached", inPlace := ["internal/bytealg.CountString", "internal/bytealg.IndexByteString", "internal/bytealg.IndexString", "internal/abi.NoEscape", "internal/bytealg.MakeNoZero"], unfollowed := true, recurses := true, named := ["unicode/utf8.first", "unicode/utf8.acceptRanges", "internal/bytealg.MaxLen", "lagan/cargo.kindWords", "strconv.ErrSyntax", "strconv.ErrRange", "internal/strconv.uint64pow10", "math/bits.deBruijn32tab", "math/bits.deBruijn64tab"], plainKeys := false, apart := false, laid := [("math/bits.deBruijn32tab", laid_math_bits_deBruijn32tab), ("math/bits.deBruijn64tab", laid_math_bits_deBruijn64tab), ("internal/strconv.uint64pow10", laid_internal_strconv_uint64pow10), ("unicode/utf8.acceptRanges", laid_unicode_utf8_acceptRanges), ("strconv.ErrRange", laid_strconv_ErrRange), ("strconv.ErrSyntax", laid_strconv_ErrSyntax), ("lagan/cargo.kindWords", laid_lagan_cargo_kindWords), ("unicode/utf8.first", laid_unicode_utf8_first)], narrowed := true }
def CargoReachedUptoSaid : Prop := cargoReachedUptoRow.holds Tryz.pinned (OpenSpec.upto cargoReachedSpec)

/-- 'laganlaw01.CargoTexts', WHERE WHAT IT READS IS OF BULK AT MOST 1048576: true; the input reads as it did. -/
def cargoTextsUptoRow : OpenClaim := { program := "ytmhbhkipjjcmlaagreatdoor", sum := "534623ccfac623a695d1ce88e7a766353eb5ee3f80e4b8cec100d45bc8334009", func := "lagan/laganlaw01.CargoTexts", spec := "cargoTexts", inPlace := ["internal/bytealg.CountString", "internal/bytealg.IndexByteString", "internal/bytealg.IndexString", "internal/abi.NoEscape", "internal/bytealg.MakeNoZero"], unfollowed := true, recurses := true, named := ["unicode/utf8.first", "unicode/utf8.acceptRanges", "internal/bytealg.MaxLen", "lagan/cargo.kindWords", "strconv.ErrSyntax", "strconv.ErrRange", "internal/strconv.uint64pow10", "math/bits.deBruijn32tab", "math/bits.deBruijn64tab"], plainKeys := false, apart := false, laid := [("math/bits.deBruijn32tab", laid_math_bits_deBruijn32tab), ("math/bits.deBruijn64tab", laid_math_bits_deBruijn64tab), ("internal/strconv.uint64pow10", laid_internal_strconv_uint64pow10), ("unicode/utf8.acceptRanges", laid_unicode_utf8_acceptRanges), ("strconv.ErrRange", laid_strconv_ErrRange), ("strconv.ErrSyntax", laid_strconv_ErrSyntax), ("lagan/cargo.kindWords", laid_lagan_cargo_kindWords), ("unicode/utf8.first", laid_unicode_utf8_first)], narrowed := true }
def CargoTextsUptoSaid : Prop := cargoTextsUptoRow.holds Tryz.pinned (OpenSpec.upto cargoTextsSpec)

/-- 'laganlaw01.CargoSharp', WHERE WHAT IT READS IS OF BULK AT MOST 1048576: true; the input reads as it did. -/
def cargoSharpUptoRow : OpenClaim := { program := "ytmhbhkipjjcmlaagreatdoor", sum := "534623ccfac623a695d1ce88e7a766353eb5ee3f80e4b8cec100d45bc8334009", func := "lagan/laganlaw01.CargoSharp", spec := "cargoSharp", inPlace := ["internal/bytealg.CountString", "internal/bytealg.IndexByteString", "internal/bytealg.IndexString", "internal/abi.NoEscape", "internal/bytealg.MakeNoZero"], unfollowed := true, recurses := true, named := ["unicode/utf8.first", "unicode/utf8.acceptRanges", "internal/bytealg.MaxLen", "lagan/cargo.kindWords", "strconv.ErrSyntax", "strconv.ErrRange", "internal/strconv.uint64pow10", "math/bits.deBruijn32tab", "math/bits.deBruijn64tab"], plainKeys := false, apart := false, laid := [("math/bits.deBruijn32tab", laid_math_bits_deBruijn32tab), ("math/bits.deBruijn64tab", laid_math_bits_deBruijn64tab), ("internal/strconv.uint64pow10", laid_internal_strconv_uint64pow10), ("unicode/utf8.acceptRanges", laid_unicode_utf8_acceptRanges), ("strconv.ErrRange", laid_strconv_ErrRange), ("strconv.ErrSyntax", laid_strconv_ErrSyntax), ("lagan/cargo.kindWords", laid_lagan_cargo_kindWords), ("unicode/utf8.first", laid_unicode_utf8_first)], narrowed := true }
def CargoSharpUptoSaid : Prop := cargoSharpUptoRow.holds Tryz.pinned (OpenSpec.upto cargoSharpSpec)

/-- 'laganlaw01.CargoEither', WHERE WHAT IT READS IS OF BULK AT MOST 1048576: true; the input reads as it did. -/
def cargoEitherUptoRow : OpenClaim := { program := "ytmhbhkipjjcmlaagreatdoor", sum := "534623ccfac623a695d1ce88e7a766353eb5ee3f80e4b8cec100d45bc8334009", func := "lagan/laganlaw01.CargoEither", spec := "cargoEither", inPlace := ["internal/bytealg.CountString", "internal/bytealg.IndexByteString", "internal/bytealg.IndexString", "internal/abi.NoEscape", "internal/bytealg.MakeNoZero"], unfollowed := true, recurses := true, named := ["unicode/utf8.first", "unicode/utf8.acceptRanges", "internal/bytealg.MaxLen", "lagan/cargo.kindWords", "strconv.ErrSyntax", "strconv.ErrRange", "internal/strconv.uint64pow10", "math/bits.deBruijn32tab", "math/bits.deBruijn64tab"], plainKeys := false, apart := false, laid := [("math/bits.deBruijn32tab", laid_math_bits_deBruijn32tab), ("math/bits.deBruijn64tab", laid_math_bits_deBruijn64tab), ("internal/strconv.uint64pow10", laid_internal_strconv_uint64pow10), ("unicode/utf8.acceptRanges", laid_unicode_utf8_acceptRanges), ("strconv.ErrRange", laid_strconv_ErrRange), ("strconv.ErrSyntax", laid_strconv_ErrSyntax), ("lagan/cargo.kindWords", laid_lagan_cargo_kindWords), ("unicode/utf8.first", laid_unicode_utf8_first)], narrowed := true }
def CargoEitherUptoSaid : Prop := cargoEitherUptoRow.holds Tryz.pinned (OpenSpec.upto cargoEitherSpec)

/-- 'laganlaw01.CargoRests', WHERE WHAT IT READS IS OF BULK AT MOST 1048576: true; the input reads as it did. -/
def cargoRestsUptoRow : OpenClaim := { program := "ytmhbhkipjjcmlaagreatdoor", sum := "534623ccfac623a695d1ce88e7a766353eb5ee3f80e4b8cec100d45bc8334009", func := "lagan/laganlaw01.CargoRests", spec := "cargoRests", inPlace := ["internal/bytealg.CountString", "internal/bytealg.IndexByteString", "internal/bytealg.IndexString", "internal/abi.NoEscape", "internal/bytealg.MakeNoZero"], unfollowed := true, recurses := true, named := ["unicode/utf8.first", "unicode/utf8.acceptRanges", "internal/bytealg.MaxLen", "lagan/cargo.kindWords", "strconv.ErrSyntax", "strconv.ErrRange", "internal/strconv.uint64pow10", "math/bits.deBruijn32tab", "math/bits.deBruijn64tab"], plainKeys := false, apart := false, laid := [("math/bits.deBruijn32tab", laid_math_bits_deBruijn32tab), ("math/bits.deBruijn64tab", laid_math_bits_deBruijn64tab), ("internal/strconv.uint64pow10", laid_internal_strconv_uint64pow10), ("unicode/utf8.acceptRanges", laid_unicode_utf8_acceptRanges), ("strconv.ErrRange", laid_strconv_ErrRange), ("strconv.ErrSyntax", laid_strconv_ErrSyntax), ("lagan/cargo.kindWords", laid_lagan_cargo_kindWords), ("unicode/utf8.first", laid_unicode_utf8_first)], narrowed := true }
def CargoRestsUptoSaid : Prop := cargoRestsUptoRow.holds Tryz.pinned (OpenSpec.upto cargoRestsSpec)

end Rows
end Go.Proofs.YtmhbhkipjjcmlaaGreatDoor
