/-
  NARROWER THAN 'FOR EVERY INPUT', by the rows' own cells (each row's printed sentence says how): LangParses: laid · LangTypes: loops, laid · CodeCompiles: loops, laid · CodeBack: loops, laid · CodeRound: loops, laid · CodeMaps: loops, laid.
  DERIVED. THE GIVEN ROWS OF THIS SEAT. 6 by the template 'for every input the law returns true; each argument reads behind the call as it read before'; 0 by the template 'total and deterministic' (their statements: YtgicnopppgnjjaaGreatDoorTotals.lean).
  GIVEN WITH THE SEED: the statements are not yours to turn. If you find one false, say at which input.
  Laid BY PROGRAM, IN A SANDBOX (cutbox-rows.mjs): the forced cells as the released guide's own fill.sh prints them over the translation d83757ffb1d55eec… (all of the seat's roots in one cut). By AI agents, Wed Nov 11 2026. No macro, syntax, notation, axiom, sorry.
-/
import Derived.Test.YtgicnopppgnjjaaGreatDoorChecked
import GoSem.PinnedTables
import GoSem.Claim
import GoSem.ClaimJoined
import GoSem.ClaimMapViews
import Derived.JoinedTies
import Derived.KernelRfl
namespace Go.Proofs.YtgicnopppgnjjaaGreatDoor
/- THE CELL 'sum', in the pinned program and in every row, IS THE sha256 OF THE DUMP (.gsa) THAT YtgicnopppgnjjaaGreatDoorProg.lean LOADS. Nothing in Lean hashes anything: it is a label: what it is worth is what the hold of that sum in a sandbox is worth. -/
noncomputable def Tryz.pinned : Pinned := { name := "ytgicnopppgnjjaagreatdoor", sum := "d83757ffb1d55eec5deffdf73118706c70b56ba2b61122eab132b9c41c844d76", checked := Tryz.checked }
namespace Rows
def none {H : Type} : Left H := { results := [], args := [] }

/- WHAT THE LISTED PACKAGE-LEVEL VARIABLES READ AS WHEN THE CALL BEGINS. Each datum BY PROGRAM (the guide's laid-datum.mjs) off the statement by which the dump's own 'gosem.cut.vars' lays the variable. In a bare row this is a premise. The card (YtgicnopppgnjjaaGreatDoorCards.lean) ties it to the program's text. -/
def laid_math_bits_deBruijn32tab {H : Type} : DataW H := .agg [.lit (.int .u8 0), .lit (.int .u8 1), .lit (.int .u8 28), .lit (.int .u8 2), .lit (.int .u8 29), .lit (.int .u8 14), .lit (.int .u8 24), .lit (.int .u8 3), .lit (.int .u8 30), .lit (.int .u8 22), .lit (.int .u8 20), .lit (.int .u8 15), .lit (.int .u8 25), .lit (.int .u8 17), .lit (.int .u8 4), .lit (.int .u8 8), .lit (.int .u8 31), .lit (.int .u8 27), .lit (.int .u8 13), .lit (.int .u8 23), .lit (.int .u8 21), .lit (.int .u8 19), .lit (.int .u8 16), .lit (.int .u8 7), .lit (.int .u8 26), .lit (.int .u8 12), .lit (.int .u8 18), .lit (.int .u8 6), .lit (.int .u8 11), .lit (.int .u8 5), .lit (.int .u8 10), .lit (.int .u8 9)]
def laid_math_bits_deBruijn64tab {H : Type} : DataW H := .agg [.lit (.int .u8 0), .lit (.int .u8 1), .lit (.int .u8 56), .lit (.int .u8 2), .lit (.int .u8 57), .lit (.int .u8 49), .lit (.int .u8 28), .lit (.int .u8 3), .lit (.int .u8 61), .lit (.int .u8 58), .lit (.int .u8 42), .lit (.int .u8 50), .lit (.int .u8 38), .lit (.int .u8 29), .lit (.int .u8 17), .lit (.int .u8 4), .lit (.int .u8 62), .lit (.int .u8 47), .lit (.int .u8 59), .lit (.int .u8 36), .lit (.int .u8 45), .lit (.int .u8 43), .lit (.int .u8 51), .lit (.int .u8 22), .lit (.int .u8 53), .lit (.int .u8 39), .lit (.int .u8 33), .lit (.int .u8 30), .lit (.int .u8 24), .lit (.int .u8 18), .lit (.int .u8 12), .lit (.int .u8 5), .lit (.int .u8 63), .lit (.int .u8 55), .lit (.int .u8 48), .lit (.int .u8 27), .lit (.int .u8 60), .lit (.int .u8 41), .lit (.int .u8 37), .lit (.int .u8 16), .lit (.int .u8 46), .lit (.int .u8 35), .lit (.int .u8 44), .lit (.int .u8 21), .lit (.int .u8 52), .lit (.int .u8 32), .lit (.int .u8 23), .lit (.int .u8 11), .lit (.int .u8 54), .lit (.int .u8 26), .lit (.int .u8 40), .lit (.int .u8 15), .lit (.int .u8 34), .lit (.int .u8 20), .lit (.int .u8 31), .lit (.int .u8 10), .lit (.int .u8 25), .lit (.int .u8 14), .lit (.int .u8 19), .lit (.int .u8 9), .lit (.int .u8 13), .lit (.int .u8 8), .lit (.int .u8 7), .lit (.int .u8 6)]
def laid_internal_strconv_uint64pow10 {H : Type} : DataW H := .agg [.lit (.int .u64 1), .lit (.int .u64 10), .lit (.int .u64 100), .lit (.int .u64 1000), .lit (.int .u64 10000), .lit (.int .u64 100000), .lit (.int .u64 1000000), .lit (.int .u64 10000000), .lit (.int .u64 100000000), .lit (.int .u64 1000000000), .lit (.int .u64 10000000000), .lit (.int .u64 100000000000), .lit (.int .u64 1000000000000), .lit (.int .u64 10000000000000), .lit (.int .u64 100000000000000), .lit (.int .u64 1000000000000000), .lit (.int .u64 10000000000000000), .lit (.int .u64 100000000000000000), .lit (.int .u64 1000000000000000000), .lit (.int .u64 10000000000000000000)]
def laid_unicode_utf8_acceptRanges {H : Type} : DataW H := .agg [.agg [.lit (.int .u8 128), .lit (.int .u8 191)], .agg [.lit (.int .u8 160), .lit (.int .u8 191)], .agg [.lit (.int .u8 128), .lit (.int .u8 159)], .agg [.lit (.int .u8 144), .lit (.int .u8 191)], .agg [.lit (.int .u8 128), .lit (.int .u8 143)], .agg [.lit (.int .u8 0), .lit (.int .u8 0)], .agg [.lit (.int .u8 0), .lit (.int .u8 0)], .agg [.lit (.int .u8 0), .lit (.int .u8 0)], .agg [.lit (.int .u8 0), .lit (.int .u8 0)], .agg [.lit (.int .u8 0), .lit (.int .u8 0)], .agg [.lit (.int .u8 0), .lit (.int .u8 0)], .agg [.lit (.int .u8 0), .lit (.int .u8 0)], .agg [.lit (.int .u8 0), .lit (.int .u8 0)], .agg [.lit (.int .u8 0), .lit (.int .u8 0)], .agg [.lit (.int .u8 0), .lit (.int .u8 0)], .agg [.lit (.int .u8 0), .lit (.int .u8 0)]]
def laid_strconv_ErrRange {H : Type} : DataW H := .iface "*errors.errorString" (.ptr (.agg [.lit (.string [118, 97, 108, 117, 101, 32, 111, 117, 116, 32, 111, 102, 32, 114, 97, 110, 103, 101])]))
def laid_strconv_ErrSyntax {H : Type} : DataW H := .iface "*errors.errorString" (.ptr (.agg [.lit (.string [105, 110, 118, 97, 108, 105, 100, 32, 115, 121, 110, 116, 97, 120])]))
def laid_calamus_utf_between {H : Type} : DataW H := .agg [.agg [.lit (.int .u8 0), .lit (.int .u8 0)], .agg [.lit (.int .u8 0), .lit (.int .u8 0)], .agg [.lit (.int .u8 0), .lit (.int .u8 0)], .agg [.lit (.int .u8 0), .lit (.int .u8 0)]]
def laid_calamus_utf_longer {H : Type} : DataW H := .agg [.agg [.agg [.lit (.int .u8 194), .lit (.int .u8 223)], .agg [.lit (.int .u8 128), .lit (.int .u8 191)], .agg [.lit (.int .u8 0), .lit (.int .u8 0)], .agg [.lit (.int .u8 0), .lit (.int .u8 0)]], .agg [.agg [.lit (.int .u8 224), .lit (.int .u8 224)], .agg [.lit (.int .u8 160), .lit (.int .u8 191)], .agg [.lit (.int .u8 128), .lit (.int .u8 191)], .agg [.lit (.int .u8 0), .lit (.int .u8 0)]], .agg [.agg [.lit (.int .u8 225), .lit (.int .u8 236)], .agg [.lit (.int .u8 128), .lit (.int .u8 191)], .agg [.lit (.int .u8 128), .lit (.int .u8 191)], .agg [.lit (.int .u8 0), .lit (.int .u8 0)]], .agg [.agg [.lit (.int .u8 237), .lit (.int .u8 237)], .agg [.lit (.int .u8 128), .lit (.int .u8 159)], .agg [.lit (.int .u8 128), .lit (.int .u8 191)], .agg [.lit (.int .u8 0), .lit (.int .u8 0)]], .agg [.agg [.lit (.int .u8 238), .lit (.int .u8 239)], .agg [.lit (.int .u8 128), .lit (.int .u8 191)], .agg [.lit (.int .u8 128), .lit (.int .u8 191)], .agg [.lit (.int .u8 0), .lit (.int .u8 0)]], .agg [.agg [.lit (.int .u8 240), .lit (.int .u8 240)], .agg [.lit (.int .u8 144), .lit (.int .u8 191)], .agg [.lit (.int .u8 128), .lit (.int .u8 191)], .agg [.lit (.int .u8 128), .lit (.int .u8 191)]], .agg [.agg [.lit (.int .u8 241), .lit (.int .u8 243)], .agg [.lit (.int .u8 128), .lit (.int .u8 191)], .agg [.lit (.int .u8 128), .lit (.int .u8 191)], .agg [.lit (.int .u8 128), .lit (.int .u8 191)]], .agg [.agg [.lit (.int .u8 244), .lit (.int .u8 244)], .agg [.lit (.int .u8 128), .lit (.int .u8 143)], .agg [.lit (.int .u8 128), .lit (.int .u8 191)], .agg [.lit (.int .u8 128), .lit (.int .u8 191)]]]
def laid_calamus_lex_words {H : Type} : DataW H := .agg [.lit (.int .i64 0), .lit (.int .i64 1), .lit (.int .i64 3), .lit (.int .i64 2), .lit (.int .i64 4)]
def laid_calamus_lex_longest {H : Type} : DataW H := .agg [.lit (.int .i64 0), .lit (.int .i64 64), .lit (.int .i64 512), .lit (.int .i64 4096), .lit (.int .i64 1)]
def laid_calamus_types_plainKinds {H : Type} : DataW H := .agg [.agg [.lit (.int .i64 1), .lit (.int .i64 0)], .agg [.lit (.int .i64 2), .lit (.int .i64 1)], .agg [.lit (.int .i64 3), .lit (.int .i64 2)], .agg [.lit (.int .i64 4), .lit (.int .i64 3)], .agg [.lit (.int .i64 5), .lit (.int .i64 3)], .agg [.lit (.int .i64 6), .lit (.int .i64 4)], .agg [.lit (.int .i64 7), .lit (.int .i64 5)], .agg [.lit (.int .i64 8), .lit (.int .i64 6)]]
def laid_calamus_lang_plainSteps {H : Type} : DataW H := .agg [.lit (.string []), .lit (.string [105, 100]), .lit (.string []), .lit (.string []), .lit (.string []), .lit (.string []), .lit (.string []), .lit (.string []), .lit (.string [116, 111, 116, 101, 120, 116]), .lit (.string [116, 111, 110, 117, 109]), .lit (.string [115, 117, 109]), .lit (.string [99, 111, 117, 110, 116])]
def laid_calamus_lang_plainTypes {H : Type} : DataW H := .agg [.lit (.string []), .lit (.string [97, 110, 121]), .lit (.string [110, 117, 108, 108]), .lit (.string [98, 111, 111, 108]), .lit (.string [110, 117, 109]), .lit (.string [105, 110, 116]), .lit (.string [102, 108, 111, 97, 116]), .lit (.string [116, 101, 120, 116]), .lit (.string [98, 121, 116, 101, 115])]
/-- One of Go's own tables, pinned by name: the form's constant. -/
def laid_unicode_utf8_first : DataW Unit := Go.Pinned.utf8First

/-- 'calamuslaw14.LangParses': WHATEVER THE INPUT: true; the input reads as it did. -/
def langParsesSpec : ChangeSpec := { name := "langParses", fn := fun _ => fun
  | [d] => { results := [.lit (.bool true)], args := [d] }
  | _ => none }
def langParsesRow : OpenClaim := { program := "ytgicnopppgnjjaagreatdoor", sum := "d83757ffb1d55eec5deffdf73118706c70b56ba2b61122eab132b9c41c844d76", func := "calamus/calamuslaw14.LangParses", spec := "langParses", inPlace := ["internal/bytealg.IndexByteString"], unfollowed := true, recurses := true, named := ["calamus/lex.longest", "calamus/lex.words", "strconv.ErrSyntax", "strconv.ErrRange", "internal/strconv.uint64pow10", "math/bits.deBruijn32tab", "math/bits.deBruijn64tab", "calamus/utf.between", "unicode/utf8.first", "unicode/utf8.acceptRanges", "calamus/utf.longer", "calamus/lang.plainSteps", "calamus/lang.plainTypes", "calamus/types.plainKinds"], apart := false, laid := [("math/bits.deBruijn32tab", laid_math_bits_deBruijn32tab), ("math/bits.deBruijn64tab", laid_math_bits_deBruijn64tab), ("internal/strconv.uint64pow10", laid_internal_strconv_uint64pow10), ("unicode/utf8.acceptRanges", laid_unicode_utf8_acceptRanges), ("strconv.ErrRange", laid_strconv_ErrRange), ("strconv.ErrSyntax", laid_strconv_ErrSyntax), ("calamus/utf.between", laid_calamus_utf_between), ("calamus/utf.longer", laid_calamus_utf_longer), ("calamus/lex.words", laid_calamus_lex_words), ("calamus/lex.longest", laid_calamus_lex_longest), ("calamus/types.plainKinds", laid_calamus_types_plainKinds), ("calamus/lang.plainSteps", laid_calamus_lang_plainSteps), ("calamus/lang.plainTypes", laid_calamus_lang_plainTypes), ("unicode/utf8.first", laid_unicode_utf8_first)] }
def LangParsesSaid : Prop := langParsesRow.holds Tryz.pinned (OpenSpec.ofChange langParsesSpec)

/-- ITS FALSE NEIGHBOUR: 'it returns false'. Refute it at one input. -/
def langParsesWrong : ChangeSpec := { name := "langParses", fn := fun _ => fun
  | [d] => { results := [.lit (.bool false)], args := [d] }
  | _ => none }
def LangParsesWrongFalsely : Prop := langParsesRow.holds Tryz.pinned (OpenSpec.ofChange langParsesWrong)

/-- 'calamuslaw14.LangTypes': WHATEVER THE INPUT: true; the input reads as it did. -/
def langTypesSpec : ChangeSpec := { name := "langTypes", fn := fun _ => fun
  | [d1, d2] => { results := [.lit (.bool true)], args := [d1, d2] }
  | _ => none }
def langTypesRow : OpenClaim := { program := "ytgicnopppgnjjaagreatdoor", sum := "d83757ffb1d55eec5deffdf73118706c70b56ba2b61122eab132b9c41c844d76", func := "calamus/calamuslaw14.LangTypes", spec := "langTypes", inPlace := ["internal/bytealg.IndexByteString"], unfollowed := true, recurses := true, named := ["calamus/lex.longest", "calamus/lex.words", "strconv.ErrSyntax", "strconv.ErrRange", "internal/strconv.uint64pow10", "math/bits.deBruijn32tab", "math/bits.deBruijn64tab", "calamus/utf.between", "unicode/utf8.first", "unicode/utf8.acceptRanges", "calamus/utf.longer", "calamus/lang.plainTypes", "calamus/types.plainKinds", "calamus/lang.plainSteps"], loops := true, apart := false, laid := [("math/bits.deBruijn32tab", laid_math_bits_deBruijn32tab), ("math/bits.deBruijn64tab", laid_math_bits_deBruijn64tab), ("internal/strconv.uint64pow10", laid_internal_strconv_uint64pow10), ("unicode/utf8.acceptRanges", laid_unicode_utf8_acceptRanges), ("strconv.ErrRange", laid_strconv_ErrRange), ("strconv.ErrSyntax", laid_strconv_ErrSyntax), ("calamus/utf.between", laid_calamus_utf_between), ("calamus/utf.longer", laid_calamus_utf_longer), ("calamus/lex.words", laid_calamus_lex_words), ("calamus/lex.longest", laid_calamus_lex_longest), ("calamus/types.plainKinds", laid_calamus_types_plainKinds), ("calamus/lang.plainSteps", laid_calamus_lang_plainSteps), ("calamus/lang.plainTypes", laid_calamus_lang_plainTypes), ("unicode/utf8.first", laid_unicode_utf8_first)] }
def LangTypesSaid : Prop := langTypesRow.holds Tryz.pinned (OpenSpec.ofChange langTypesSpec)

/-- ITS FALSE NEIGHBOUR: 'it returns false'. Refute it at one input. -/
def langTypesWrong : ChangeSpec := { name := "langTypes", fn := fun _ => fun
  | [d1, d2] => { results := [.lit (.bool false)], args := [d1, d2] }
  | _ => none }
def LangTypesWrongFalsely : Prop := langTypesRow.holds Tryz.pinned (OpenSpec.ofChange langTypesWrong)

/-- 'calamuslaw18.CodeCompiles': WHATEVER THE INPUT: true; the input reads as it did. -/
def codeCompilesSpec : ChangeSpec := { name := "codeCompiles", fn := fun _ => fun
  | [d] => { results := [.lit (.bool true)], args := [d] }
  | _ => none }
def codeCompilesRow : OpenClaim := { program := "ytgicnopppgnjjaagreatdoor", sum := "d83757ffb1d55eec5deffdf73118706c70b56ba2b61122eab132b9c41c844d76", func := "calamus/calamuslaw18.CodeCompiles", spec := "codeCompiles", inPlace := ["internal/bytealg.IndexByteString"], unfollowed := true, recurses := true, named := ["calamus/utf.between", "calamus/utf.longer", "calamus/lex.longest", "calamus/lex.words", "strconv.ErrSyntax", "strconv.ErrRange", "internal/strconv.uint64pow10", "math/bits.deBruijn32tab", "math/bits.deBruijn64tab", "unicode/utf8.first", "unicode/utf8.acceptRanges", "calamus/lang.plainSteps"], loops := true, apart := false, laid := [("math/bits.deBruijn32tab", laid_math_bits_deBruijn32tab), ("math/bits.deBruijn64tab", laid_math_bits_deBruijn64tab), ("internal/strconv.uint64pow10", laid_internal_strconv_uint64pow10), ("unicode/utf8.acceptRanges", laid_unicode_utf8_acceptRanges), ("strconv.ErrRange", laid_strconv_ErrRange), ("strconv.ErrSyntax", laid_strconv_ErrSyntax), ("calamus/utf.between", laid_calamus_utf_between), ("calamus/utf.longer", laid_calamus_utf_longer), ("calamus/lex.words", laid_calamus_lex_words), ("calamus/lex.longest", laid_calamus_lex_longest), ("calamus/lang.plainSteps", laid_calamus_lang_plainSteps), ("unicode/utf8.first", laid_unicode_utf8_first)] }
def CodeCompilesSaid : Prop := codeCompilesRow.holds Tryz.pinned (OpenSpec.ofChange codeCompilesSpec)

/-- ITS FALSE NEIGHBOUR: 'it returns false'. Refute it at one input. -/
def codeCompilesWrong : ChangeSpec := { name := "codeCompiles", fn := fun _ => fun
  | [d] => { results := [.lit (.bool false)], args := [d] }
  | _ => none }
def CodeCompilesWrongFalsely : Prop := codeCompilesRow.holds Tryz.pinned (OpenSpec.ofChange codeCompilesWrong)

/-- 'calamuslaw18.CodeBack': WHATEVER THE INPUT: true; the input reads as it did. -/
def codeBackSpec : ChangeSpec := { name := "codeBack", fn := fun _ => fun
  | [d] => { results := [.lit (.bool true)], args := [d] }
  | _ => none }
def codeBackRow : OpenClaim := { program := "ytgicnopppgnjjaagreatdoor", sum := "d83757ffb1d55eec5deffdf73118706c70b56ba2b61122eab132b9c41c844d76", func := "calamus/calamuslaw18.CodeBack", spec := "codeBack", inPlace := ["internal/bytealg.IndexByteString"], unfollowed := true, recurses := true, named := ["calamus/utf.between", "calamus/utf.longer", "calamus/lex.longest", "calamus/lex.words", "strconv.ErrSyntax", "strconv.ErrRange", "internal/strconv.uint64pow10", "math/bits.deBruijn32tab", "math/bits.deBruijn64tab", "unicode/utf8.first", "unicode/utf8.acceptRanges", "calamus/lang.plainSteps"], loops := true, apart := false, laid := [("math/bits.deBruijn32tab", laid_math_bits_deBruijn32tab), ("math/bits.deBruijn64tab", laid_math_bits_deBruijn64tab), ("internal/strconv.uint64pow10", laid_internal_strconv_uint64pow10), ("unicode/utf8.acceptRanges", laid_unicode_utf8_acceptRanges), ("strconv.ErrRange", laid_strconv_ErrRange), ("strconv.ErrSyntax", laid_strconv_ErrSyntax), ("calamus/utf.between", laid_calamus_utf_between), ("calamus/utf.longer", laid_calamus_utf_longer), ("calamus/lex.words", laid_calamus_lex_words), ("calamus/lex.longest", laid_calamus_lex_longest), ("calamus/lang.plainSteps", laid_calamus_lang_plainSteps), ("unicode/utf8.first", laid_unicode_utf8_first)] }
def CodeBackSaid : Prop := codeBackRow.holds Tryz.pinned (OpenSpec.ofChange codeBackSpec)

/-- ITS FALSE NEIGHBOUR: 'it returns false'. Refute it at one input. -/
def codeBackWrong : ChangeSpec := { name := "codeBack", fn := fun _ => fun
  | [d] => { results := [.lit (.bool false)], args := [d] }
  | _ => none }
def CodeBackWrongFalsely : Prop := codeBackRow.holds Tryz.pinned (OpenSpec.ofChange codeBackWrong)

/-- 'calamuslaw18.CodeRound': WHATEVER THE INPUT: true; the input reads as it did. -/
def codeRoundSpec : ChangeSpec := { name := "codeRound", fn := fun _ => fun
  | [d1, d2] => { results := [.lit (.bool true)], args := [d1, d2] }
  | _ => none }
def codeRoundRow : OpenClaim := { program := "ytgicnopppgnjjaagreatdoor", sum := "d83757ffb1d55eec5deffdf73118706c70b56ba2b61122eab132b9c41c844d76", func := "calamus/calamuslaw18.CodeRound", spec := "codeRound", inPlace := ["internal/bytealg.IndexByteString"], unfollowed := true, recurses := true, named := ["calamus/utf.between", "calamus/utf.longer", "calamus/lex.longest", "calamus/lex.words", "strconv.ErrSyntax", "strconv.ErrRange", "internal/strconv.uint64pow10", "math/bits.deBruijn32tab", "math/bits.deBruijn64tab", "unicode/utf8.first", "unicode/utf8.acceptRanges", "calamus/lang.plainSteps"], loops := true, apart := false, laid := [("math/bits.deBruijn32tab", laid_math_bits_deBruijn32tab), ("math/bits.deBruijn64tab", laid_math_bits_deBruijn64tab), ("internal/strconv.uint64pow10", laid_internal_strconv_uint64pow10), ("unicode/utf8.acceptRanges", laid_unicode_utf8_acceptRanges), ("strconv.ErrRange", laid_strconv_ErrRange), ("strconv.ErrSyntax", laid_strconv_ErrSyntax), ("calamus/utf.between", laid_calamus_utf_between), ("calamus/utf.longer", laid_calamus_utf_longer), ("calamus/lex.words", laid_calamus_lex_words), ("calamus/lex.longest", laid_calamus_lex_longest), ("calamus/lang.plainSteps", laid_calamus_lang_plainSteps), ("unicode/utf8.first", laid_unicode_utf8_first)] }
def CodeRoundSaid : Prop := codeRoundRow.holds Tryz.pinned (OpenSpec.ofChange codeRoundSpec)

/-- ITS FALSE NEIGHBOUR: 'it returns false'. Refute it at one input. -/
def codeRoundWrong : ChangeSpec := { name := "codeRound", fn := fun _ => fun
  | [d1, d2] => { results := [.lit (.bool false)], args := [d1, d2] }
  | _ => none }
def CodeRoundWrongFalsely : Prop := codeRoundRow.holds Tryz.pinned (OpenSpec.ofChange codeRoundWrong)

/-- 'calamuslaw18.CodeMaps': WHATEVER THE INPUT: true; the input reads as it did. -/
def codeMapsSpec : ChangeSpec := { name := "codeMaps", fn := fun _ => fun
  | [d] => { results := [.lit (.bool true)], args := [d] }
  | _ => none }
def codeMapsRow : OpenClaim := { program := "ytgicnopppgnjjaagreatdoor", sum := "d83757ffb1d55eec5deffdf73118706c70b56ba2b61122eab132b9c41c844d76", func := "calamus/calamuslaw18.CodeMaps", spec := "codeMaps", inPlace := ["internal/bytealg.IndexByteString"], unfollowed := true, recurses := true, named := ["calamus/utf.between", "calamus/utf.longer", "calamus/lex.longest", "calamus/lex.words", "strconv.ErrSyntax", "strconv.ErrRange", "internal/strconv.uint64pow10", "math/bits.deBruijn32tab", "math/bits.deBruijn64tab", "unicode/utf8.first", "unicode/utf8.acceptRanges", "calamus/lang.plainSteps"], loops := true, apart := false, laid := [("math/bits.deBruijn32tab", laid_math_bits_deBruijn32tab), ("math/bits.deBruijn64tab", laid_math_bits_deBruijn64tab), ("internal/strconv.uint64pow10", laid_internal_strconv_uint64pow10), ("unicode/utf8.acceptRanges", laid_unicode_utf8_acceptRanges), ("strconv.ErrRange", laid_strconv_ErrRange), ("strconv.ErrSyntax", laid_strconv_ErrSyntax), ("calamus/utf.between", laid_calamus_utf_between), ("calamus/utf.longer", laid_calamus_utf_longer), ("calamus/lex.words", laid_calamus_lex_words), ("calamus/lex.longest", laid_calamus_lex_longest), ("calamus/lang.plainSteps", laid_calamus_lang_plainSteps), ("unicode/utf8.first", laid_unicode_utf8_first)] }
def CodeMapsSaid : Prop := codeMapsRow.holds Tryz.pinned (OpenSpec.ofChange codeMapsSpec)

/-- ITS FALSE NEIGHBOUR: 'it returns false'. Refute it at one input. -/
def codeMapsWrong : ChangeSpec := { name := "codeMaps", fn := fun _ => fun
  | [d] => { results := [.lit (.bool false)], args := [d] }
  | _ => none }
def CodeMapsWrongFalsely : Prop := codeMapsRow.holds Tryz.pinned (OpenSpec.ofChange codeMapsWrong)

/- THE SECOND FORM. 'bulk': how many values and letters a reading holds, each counted each time it is reached (what is shared counts as often as it is met; a slice's spare places count too). A statement '..UptoSaid' is the law's where the arguments, and the package variables that the reading takes, are together of bulk at most 1048576: NARROWER than '..Said'. Prove '..Said' where nothing that the law and all that it calls make is longer than what came in: it says more and counts as full. Else prove '..UptoSaid'. A law counts once. -/
mutual
def uptoBulk {H : Type} : DataW H → Nat
  | .lit (.string bytes) => bytes.length + 1
  | .lit _ => 1
  | .nil => 1
  | .ptr d => uptoBulk d + 1
  | .slice elems spare => uptoBulkAll elems + uptoBulkAll spare + 1
  | .agg parts => uptoBulkAll parts + 1
  | .iface _ d => uptoBulk d + 1
  | .map entries => uptoBulkEntries entries + 1
  | .held _ => 1
def uptoBulkAll {H : Type} : List (DataW H) → Nat
  | [] => 0
  | d :: r => uptoBulk d + uptoBulkAll r
def uptoBulkEntries {H : Type} : List (Lit × DataW H) → Nat
  | [] => 0
  | x :: r => uptoBulkEntry x + uptoBulkEntries r
def uptoBulkEntry {H : Type} : Lit × DataW H → Nat
  | (.string bytes, d) => bytes.length + uptoBulk d + 1
  | (_, d) => uptoBulk d + 1
 end
def uptoSmall : (H : Type) → List (DataW H) → Bool := fun _ ds => decide (uptoBulkAll ds ≤ 1048576)
def OpenSpec.upto (s : _root_.Go.ChangeSpec) : _root_.Go.OpenSpec := { _root_.Go.OpenSpec.ofChange s with cond := some uptoSmall }

/-- 'calamuslaw14.LangParses', WHERE WHAT IT READS IS OF BULK AT MOST 1048576: true; the input reads as it did. -/
def langParsesUptoRow : OpenClaim := { program := "ytgicnopppgnjjaagreatdoor", sum := "d83757ffb1d55eec5deffdf73118706c70b56ba2b61122eab132b9c41c844d76", func := "calamus/calamuslaw14.LangParses", spec := "langParses", inPlace := ["internal/bytealg.IndexByteString"], unfollowed := true, recurses := true, named := ["calamus/lex.longest", "calamus/lex.words", "strconv.ErrSyntax", "strconv.ErrRange", "internal/strconv.uint64pow10", "math/bits.deBruijn32tab", "math/bits.deBruijn64tab", "calamus/utf.between", "unicode/utf8.first", "unicode/utf8.acceptRanges", "calamus/utf.longer", "calamus/lang.plainSteps", "calamus/lang.plainTypes", "calamus/types.plainKinds"], apart := false, laid := [("math/bits.deBruijn32tab", laid_math_bits_deBruijn32tab), ("math/bits.deBruijn64tab", laid_math_bits_deBruijn64tab), ("internal/strconv.uint64pow10", laid_internal_strconv_uint64pow10), ("unicode/utf8.acceptRanges", laid_unicode_utf8_acceptRanges), ("strconv.ErrRange", laid_strconv_ErrRange), ("strconv.ErrSyntax", laid_strconv_ErrSyntax), ("calamus/utf.between", laid_calamus_utf_between), ("calamus/utf.longer", laid_calamus_utf_longer), ("calamus/lex.words", laid_calamus_lex_words), ("calamus/lex.longest", laid_calamus_lex_longest), ("calamus/types.plainKinds", laid_calamus_types_plainKinds), ("calamus/lang.plainSteps", laid_calamus_lang_plainSteps), ("calamus/lang.plainTypes", laid_calamus_lang_plainTypes), ("unicode/utf8.first", laid_unicode_utf8_first)], narrowed := true }
def LangParsesUptoSaid : Prop := langParsesUptoRow.holds Tryz.pinned (OpenSpec.upto langParsesSpec)

/-- 'calamuslaw14.LangTypes', WHERE WHAT IT READS IS OF BULK AT MOST 1048576: true; the input reads as it did. -/
def langTypesUptoRow : OpenClaim := { program := "ytgicnopppgnjjaagreatdoor", sum := "d83757ffb1d55eec5deffdf73118706c70b56ba2b61122eab132b9c41c844d76", func := "calamus/calamuslaw14.LangTypes", spec := "langTypes", inPlace := ["internal/bytealg.IndexByteString"], unfollowed := true, recurses := true, named := ["calamus/lex.longest", "calamus/lex.words", "strconv.ErrSyntax", "strconv.ErrRange", "internal/strconv.uint64pow10", "math/bits.deBruijn32tab", "math/bits.deBruijn64tab", "calamus/utf.between", "unicode/utf8.first", "unicode/utf8.acceptRanges", "calamus/utf.longer", "calamus/lang.plainTypes", "calamus/types.plainKinds", "calamus/lang.plainSteps"], loops := true, apart := false, laid := [("math/bits.deBruijn32tab", laid_math_bits_deBruijn32tab), ("math/bits.deBruijn64tab", laid_math_bits_deBruijn64tab), ("internal/strconv.uint64pow10", laid_internal_strconv_uint64pow10), ("unicode/utf8.acceptRanges", laid_unicode_utf8_acceptRanges), ("strconv.ErrRange", laid_strconv_ErrRange), ("strconv.ErrSyntax", laid_strconv_ErrSyntax), ("calamus/utf.between", laid_calamus_utf_between), ("calamus/utf.longer", laid_calamus_utf_longer), ("calamus/lex.words", laid_calamus_lex_words), ("calamus/lex.longest", laid_calamus_lex_longest), ("calamus/types.plainKinds", laid_calamus_types_plainKinds), ("calamus/lang.plainSteps", laid_calamus_lang_plainSteps), ("calamus/lang.plainTypes", laid_calamus_lang_plainTypes), ("unicode/utf8.first", laid_unicode_utf8_first)], narrowed := true }
def LangTypesUptoSaid : Prop := langTypesUptoRow.holds Tryz.pinned (OpenSpec.upto langTypesSpec)

/-- 'calamuslaw18.CodeCompiles', WHERE WHAT IT READS IS OF BULK AT MOST 1048576: true; the input reads as it did. -/
def codeCompilesUptoRow : OpenClaim := { program := "ytgicnopppgnjjaagreatdoor", sum := "d83757ffb1d55eec5deffdf73118706c70b56ba2b61122eab132b9c41c844d76", func := "calamus/calamuslaw18.CodeCompiles", spec := "codeCompiles", inPlace := ["internal/bytealg.IndexByteString"], unfollowed := true, recurses := true, named := ["calamus/utf.between", "calamus/utf.longer", "calamus/lex.longest", "calamus/lex.words", "strconv.ErrSyntax", "strconv.ErrRange", "internal/strconv.uint64pow10", "math/bits.deBruijn32tab", "math/bits.deBruijn64tab", "unicode/utf8.first", "unicode/utf8.acceptRanges", "calamus/lang.plainSteps"], loops := true, apart := false, laid := [("math/bits.deBruijn32tab", laid_math_bits_deBruijn32tab), ("math/bits.deBruijn64tab", laid_math_bits_deBruijn64tab), ("internal/strconv.uint64pow10", laid_internal_strconv_uint64pow10), ("unicode/utf8.acceptRanges", laid_unicode_utf8_acceptRanges), ("strconv.ErrRange", laid_strconv_ErrRange), ("strconv.ErrSyntax", laid_strconv_ErrSyntax), ("calamus/utf.between", laid_calamus_utf_between), ("calamus/utf.longer", laid_calamus_utf_longer), ("calamus/lex.words", laid_calamus_lex_words), ("calamus/lex.longest", laid_calamus_lex_longest), ("calamus/lang.plainSteps", laid_calamus_lang_plainSteps), ("unicode/utf8.first", laid_unicode_utf8_first)], narrowed := true }
def CodeCompilesUptoSaid : Prop := codeCompilesUptoRow.holds Tryz.pinned (OpenSpec.upto codeCompilesSpec)

/-- 'calamuslaw18.CodeBack', WHERE WHAT IT READS IS OF BULK AT MOST 1048576: true; the input reads as it did. -/
def codeBackUptoRow : OpenClaim := { program := "ytgicnopppgnjjaagreatdoor", sum := "d83757ffb1d55eec5deffdf73118706c70b56ba2b61122eab132b9c41c844d76", func := "calamus/calamuslaw18.CodeBack", spec := "codeBack", inPlace := ["internal/bytealg.IndexByteString"], unfollowed := true, recurses := true, named := ["calamus/utf.between", "calamus/utf.longer", "calamus/lex.longest", "calamus/lex.words", "strconv.ErrSyntax", "strconv.ErrRange", "internal/strconv.uint64pow10", "math/bits.deBruijn32tab", "math/bits.deBruijn64tab", "unicode/utf8.first", "unicode/utf8.acceptRanges", "calamus/lang.plainSteps"], loops := true, apart := false, laid := [("math/bits.deBruijn32tab", laid_math_bits_deBruijn32tab), ("math/bits.deBruijn64tab", laid_math_bits_deBruijn64tab), ("internal/strconv.uint64pow10", laid_internal_strconv_uint64pow10), ("unicode/utf8.acceptRanges", laid_unicode_utf8_acceptRanges), ("strconv.ErrRange", laid_strconv_ErrRange), ("strconv.ErrSyntax", laid_strconv_ErrSyntax), ("calamus/utf.between", laid_calamus_utf_between), ("calamus/utf.longer", laid_calamus_utf_longer), ("calamus/lex.words", laid_calamus_lex_words), ("calamus/lex.longest", laid_calamus_lex_longest), ("calamus/lang.plainSteps", laid_calamus_lang_plainSteps), ("unicode/utf8.first", laid_unicode_utf8_first)], narrowed := true }
def CodeBackUptoSaid : Prop := codeBackUptoRow.holds Tryz.pinned (OpenSpec.upto codeBackSpec)

/-- 'calamuslaw18.CodeRound', WHERE WHAT IT READS IS OF BULK AT MOST 1048576: true; the input reads as it did. -/
def codeRoundUptoRow : OpenClaim := { program := "ytgicnopppgnjjaagreatdoor", sum := "d83757ffb1d55eec5deffdf73118706c70b56ba2b61122eab132b9c41c844d76", func := "calamus/calamuslaw18.CodeRound", spec := "codeRound", inPlace := ["internal/bytealg.IndexByteString"], unfollowed := true, recurses := true, named := ["calamus/utf.between", "calamus/utf.longer", "calamus/lex.longest", "calamus/lex.words", "strconv.ErrSyntax", "strconv.ErrRange", "internal/strconv.uint64pow10", "math/bits.deBruijn32tab", "math/bits.deBruijn64tab", "unicode/utf8.first", "unicode/utf8.acceptRanges", "calamus/lang.plainSteps"], loops := true, apart := false, laid := [("math/bits.deBruijn32tab", laid_math_bits_deBruijn32tab), ("math/bits.deBruijn64tab", laid_math_bits_deBruijn64tab), ("internal/strconv.uint64pow10", laid_internal_strconv_uint64pow10), ("unicode/utf8.acceptRanges", laid_unicode_utf8_acceptRanges), ("strconv.ErrRange", laid_strconv_ErrRange), ("strconv.ErrSyntax", laid_strconv_ErrSyntax), ("calamus/utf.between", laid_calamus_utf_between), ("calamus/utf.longer", laid_calamus_utf_longer), ("calamus/lex.words", laid_calamus_lex_words), ("calamus/lex.longest", laid_calamus_lex_longest), ("calamus/lang.plainSteps", laid_calamus_lang_plainSteps), ("unicode/utf8.first", laid_unicode_utf8_first)], narrowed := true }
def CodeRoundUptoSaid : Prop := codeRoundUptoRow.holds Tryz.pinned (OpenSpec.upto codeRoundSpec)

/-- 'calamuslaw18.CodeMaps', WHERE WHAT IT READS IS OF BULK AT MOST 1048576: true; the input reads as it did. -/
def codeMapsUptoRow : OpenClaim := { program := "ytgicnopppgnjjaagreatdoor", sum := "d83757ffb1d55eec5deffdf73118706c70b56ba2b61122eab132b9c41c844d76", func := "calamus/calamuslaw18.CodeMaps", spec := "codeMaps", inPlace := ["internal/bytealg.IndexByteString"], unfollowed := true, recurses := true, named := ["calamus/utf.between", "calamus/utf.longer", "calamus/lex.longest", "calamus/lex.words", "strconv.ErrSyntax", "strconv.ErrRange", "internal/strconv.uint64pow10", "math/bits.deBruijn32tab", "math/bits.deBruijn64tab", "unicode/utf8.first", "unicode/utf8.acceptRanges", "calamus/lang.plainSteps"], loops := true, apart := false, laid := [("math/bits.deBruijn32tab", laid_math_bits_deBruijn32tab), ("math/bits.deBruijn64tab", laid_math_bits_deBruijn64tab), ("internal/strconv.uint64pow10", laid_internal_strconv_uint64pow10), ("unicode/utf8.acceptRanges", laid_unicode_utf8_acceptRanges), ("strconv.ErrRange", laid_strconv_ErrRange), ("strconv.ErrSyntax", laid_strconv_ErrSyntax), ("calamus/utf.between", laid_calamus_utf_between), ("calamus/utf.longer", laid_calamus_utf_longer), ("calamus/lex.words", laid_calamus_lex_words), ("calamus/lex.longest", laid_calamus_lex_longest), ("calamus/lang.plainSteps", laid_calamus_lang_plainSteps), ("unicode/utf8.first", laid_unicode_utf8_first)], narrowed := true }
def CodeMapsUptoSaid : Prop := codeMapsUptoRow.holds Tryz.pinned (OpenSpec.upto codeMapsSpec)

end Rows
end Go.Proofs.YtgicnopppgnjjaaGreatDoor
