/-
  NARROWER THAN 'FOR EVERY INPUT', by the rows' own cells (each row's printed sentence says how): FbitsWidens: laid · FbitsNarrows: laid · FbitsTexts: laid · FbitsRound: laid · FbitsKeeps: laid · FbitsSigns: laid.
  DERIVED. THE GIVEN ROWS OF THIS SEAT. 6 by the template 'for every input the law returns true; each argument reads behind the call as it read before'; 0 by the template 'total and deterministic' (their statements: YtjlhningaijneaaDoorTotals.lean).
  GIVEN WITH THE SEED: the statements are not yours to turn. If you find one false, say at which input.
  Laid BY PROGRAM, IN A SANDBOX (cutbox-rows.mjs): the forced cells as the released guide's own fill.sh prints them over the translation 73ca53aac5efafee… (all of the seat's roots in one cut). By AI agents, Wed Nov 11 2026. No macro, syntax, notation, axiom, sorry.
-/
import Derived.Test.YtjlhningaijneaaDoorChecked
import GoSem.Claim
import GoSem.ClaimJoined
import GoSem.ClaimMapViews
import Derived.JoinedTies
import Derived.KernelRfl
namespace Go.Proofs.YtjlhningaijneaaDoor
/- THE CELL 'sum', in the pinned program and in every row, IS THE sha256 OF THE DUMP (.gsa) THAT YtjlhningaijneaaDoorProg.lean LOADS. Nothing in Lean hashes anything: it is a label: what it is worth is what the hold of that sum in a sandbox is worth. -/
noncomputable def Tryd.pinned : Pinned := { name := "ytjlhningaijneaadoor", sum := "73ca53aac5efafeeec9af859785dce489a0701c8893558ab66b5324269eb8f31", checked := Tryd.checked }
namespace Rows
def none {H : Type} : Left H := { results := [], args := [] }

/- WHAT THE LISTED PACKAGE-LEVEL VARIABLES READ AS WHEN THE CALL BEGINS. Each datum BY PROGRAM (the guide's laid-datum.mjs) off the statement by which the dump's own 'gosem.cut.vars' lays the variable. In a bare row this is a premise. The card (YtjlhningaijneaaDoorCards.lean) ties it to the program's text. -/
def laid_calamus_fbits_half {H : Type} : DataW H := .agg [.lit (.int .i64 5), .lit (.int .i64 10)]
def laid_calamus_fbits_single {H : Type} : DataW H := .agg [.lit (.int .i64 8), .lit (.int .i64 23)]
def laid_calamus_fbits_double {H : Type} : DataW H := .agg [.lit (.int .i64 11), .lit (.int .i64 52)]

/-- 'calamuslaw02.FbitsWidens': WHATEVER THE INPUT: true; the input reads as it did. -/
def fbitsWidensSpec : ChangeSpec := { name := "fbitsWidens", fn := fun _ => fun
  | [d1, d2] => { results := [.lit (.bool true)], args := [d1, d2] }
  | _ => none }
def fbitsWidensRow : OpenClaim := { program := "ytjlhningaijneaadoor", sum := "73ca53aac5efafeeec9af859785dce489a0701c8893558ab66b5324269eb8f31", func := "calamus/calamuslaw02.FbitsWidens", spec := "fbitsWidens", inPlace := ["math.Float64frombits", "math.Float64bits"], named := ["calamus/fbits.half", "calamus/fbits.single", "calamus/fbits.double"], apart := false, laid := [("calamus/fbits.half", laid_calamus_fbits_half), ("calamus/fbits.single", laid_calamus_fbits_single), ("calamus/fbits.double", laid_calamus_fbits_double)] }
def FbitsWidensSaid : Prop := fbitsWidensRow.holds Tryd.pinned (OpenSpec.ofChange fbitsWidensSpec)

/-- ITS FALSE NEIGHBOUR: 'it returns false'. Refute it at one input. -/
def fbitsWidensWrong : ChangeSpec := { name := "fbitsWidens", fn := fun _ => fun
  | [d1, d2] => { results := [.lit (.bool false)], args := [d1, d2] }
  | _ => none }
def FbitsWidensWrongFalsely : Prop := fbitsWidensRow.holds Tryd.pinned (OpenSpec.ofChange fbitsWidensWrong)

/-- 'calamuslaw02.FbitsNarrows': WHATEVER THE INPUT: true; the input reads as it did. -/
def fbitsNarrowsSpec : ChangeSpec := { name := "fbitsNarrows", fn := fun _ => fun
  | [d] => { results := [.lit (.bool true)], args := [d] }
  | _ => none }
def fbitsNarrowsRow : OpenClaim := { program := "ytjlhningaijneaadoor", sum := "73ca53aac5efafeeec9af859785dce489a0701c8893558ab66b5324269eb8f31", func := "calamus/calamuslaw02.FbitsNarrows", spec := "fbitsNarrows", inPlace := ["math.Float64frombits", "math.Float64bits"], named := ["calamus/fbits.half", "calamus/fbits.single", "calamus/fbits.double"], apart := false, laid := [("calamus/fbits.half", laid_calamus_fbits_half), ("calamus/fbits.single", laid_calamus_fbits_single), ("calamus/fbits.double", laid_calamus_fbits_double)] }
def FbitsNarrowsSaid : Prop := fbitsNarrowsRow.holds Tryd.pinned (OpenSpec.ofChange fbitsNarrowsSpec)

/-- ITS FALSE NEIGHBOUR: 'it returns false'. Refute it at one input. -/
def fbitsNarrowsWrong : ChangeSpec := { name := "fbitsNarrows", fn := fun _ => fun
  | [d] => { results := [.lit (.bool false)], args := [d] }
  | _ => none }
def FbitsNarrowsWrongFalsely : Prop := fbitsNarrowsRow.holds Tryd.pinned (OpenSpec.ofChange fbitsNarrowsWrong)

/-- 'calamuslaw02.FbitsTexts': WHATEVER THE INPUT: true; the input reads as it did. -/
def fbitsTextsSpec : ChangeSpec := { name := "fbitsTexts", fn := fun _ => fun
  | [d1, d2] => { results := [.lit (.bool true)], args := [d1, d2] }
  | _ => none }
def fbitsTextsRow : OpenClaim := { program := "ytjlhningaijneaadoor", sum := "73ca53aac5efafeeec9af859785dce489a0701c8893558ab66b5324269eb8f31", func := "calamus/calamuslaw02.FbitsTexts", spec := "fbitsTexts", inPlace := ["math.Float64frombits", "math.Float64bits"], named := ["calamus/fbits.half", "calamus/fbits.single", "calamus/fbits.double"], apart := false, laid := [("calamus/fbits.half", laid_calamus_fbits_half), ("calamus/fbits.single", laid_calamus_fbits_single), ("calamus/fbits.double", laid_calamus_fbits_double)] }
def FbitsTextsSaid : Prop := fbitsTextsRow.holds Tryd.pinned (OpenSpec.ofChange fbitsTextsSpec)

/-- ITS FALSE NEIGHBOUR: 'it returns false'. Refute it at one input. -/
def fbitsTextsWrong : ChangeSpec := { name := "fbitsTexts", fn := fun _ => fun
  | [d1, d2] => { results := [.lit (.bool false)], args := [d1, d2] }
  | _ => none }
def FbitsTextsWrongFalsely : Prop := fbitsTextsRow.holds Tryd.pinned (OpenSpec.ofChange fbitsTextsWrong)

/-- 'calamuslaw02.FbitsRound': WHATEVER THE INPUT: true; the input reads as it did. -/
def fbitsRoundSpec : ChangeSpec := { name := "fbitsRound", fn := fun _ => fun
  | [d1, d2, d3] => { results := [.lit (.bool true)], args := [d1, d2, d3] }
  | _ => none }
def fbitsRoundRow : OpenClaim := { program := "ytjlhningaijneaadoor", sum := "73ca53aac5efafeeec9af859785dce489a0701c8893558ab66b5324269eb8f31", func := "calamus/calamuslaw02.FbitsRound", spec := "fbitsRound", inPlace := ["math.Float64frombits", "math.Float64bits"], named := ["calamus/fbits.half", "calamus/fbits.single", "calamus/fbits.double"], apart := false, laid := [("calamus/fbits.half", laid_calamus_fbits_half), ("calamus/fbits.single", laid_calamus_fbits_single), ("calamus/fbits.double", laid_calamus_fbits_double)] }
def FbitsRoundSaid : Prop := fbitsRoundRow.holds Tryd.pinned (OpenSpec.ofChange fbitsRoundSpec)

/-- ITS FALSE NEIGHBOUR: 'it returns false'. Refute it at one input. -/
def fbitsRoundWrong : ChangeSpec := { name := "fbitsRound", fn := fun _ => fun
  | [d1, d2, d3] => { results := [.lit (.bool false)], args := [d1, d2, d3] }
  | _ => none }
def FbitsRoundWrongFalsely : Prop := fbitsRoundRow.holds Tryd.pinned (OpenSpec.ofChange fbitsRoundWrong)

/-- 'calamuslaw02.FbitsKeeps': WHATEVER THE INPUT: true; the input reads as it did. -/
def fbitsKeepsSpec : ChangeSpec := { name := "fbitsKeeps", fn := fun _ => fun
  | [d1, d2, d3, d4] => { results := [.lit (.bool true)], args := [d1, d2, d3, d4] }
  | _ => none }
def fbitsKeepsRow : OpenClaim := { program := "ytjlhningaijneaadoor", sum := "73ca53aac5efafeeec9af859785dce489a0701c8893558ab66b5324269eb8f31", func := "calamus/calamuslaw02.FbitsKeeps", spec := "fbitsKeeps", inPlace := ["math.Float64frombits", "math.Float64bits"], named := ["calamus/fbits.half", "calamus/fbits.double", "calamus/fbits.single"], apart := false, laid := [("calamus/fbits.half", laid_calamus_fbits_half), ("calamus/fbits.single", laid_calamus_fbits_single), ("calamus/fbits.double", laid_calamus_fbits_double)] }
def FbitsKeepsSaid : Prop := fbitsKeepsRow.holds Tryd.pinned (OpenSpec.ofChange fbitsKeepsSpec)

/-- ITS FALSE NEIGHBOUR: 'it returns false'. Refute it at one input. -/
def fbitsKeepsWrong : ChangeSpec := { name := "fbitsKeeps", fn := fun _ => fun
  | [d1, d2, d3, d4] => { results := [.lit (.bool false)], args := [d1, d2, d3, d4] }
  | _ => none }
def FbitsKeepsWrongFalsely : Prop := fbitsKeepsRow.holds Tryd.pinned (OpenSpec.ofChange fbitsKeepsWrong)

/-- 'calamuslaw02.FbitsSigns': WHATEVER THE INPUT: true; the input reads as it did. -/
def fbitsSignsSpec : ChangeSpec := { name := "fbitsSigns", fn := fun _ => fun
  | [d] => { results := [.lit (.bool true)], args := [d] }
  | _ => none }
def fbitsSignsRow : OpenClaim := { program := "ytjlhningaijneaadoor", sum := "73ca53aac5efafeeec9af859785dce489a0701c8893558ab66b5324269eb8f31", func := "calamus/calamuslaw02.FbitsSigns", spec := "fbitsSigns", inPlace := ["math.Float64frombits", "math.Float64bits"], named := ["calamus/fbits.half", "calamus/fbits.single", "calamus/fbits.double"], apart := false, laid := [("calamus/fbits.half", laid_calamus_fbits_half), ("calamus/fbits.single", laid_calamus_fbits_single), ("calamus/fbits.double", laid_calamus_fbits_double)] }
def FbitsSignsSaid : Prop := fbitsSignsRow.holds Tryd.pinned (OpenSpec.ofChange fbitsSignsSpec)

/-- ITS FALSE NEIGHBOUR: 'it returns false'. Refute it at one input. -/
def fbitsSignsWrong : ChangeSpec := { name := "fbitsSigns", fn := fun _ => fun
  | [d] => { results := [.lit (.bool false)], args := [d] }
  | _ => none }
def FbitsSignsWrongFalsely : Prop := fbitsSignsRow.holds Tryd.pinned (OpenSpec.ofChange fbitsSignsWrong)

/- THE SECOND FORM. 'bulk': how many values and letters a reading holds, each counted each time it is reached (what is shared counts as often as it is met; a slice's spare places count too). A statement '..UptoSaid' is the law's where the arguments, and the package variables that the reading takes, are together of bulk at most 1048576: NARROWER than '..Said'. Prove '..Said' where nothing that the law and all that it calls make is longer than what came in: it says more and counts as full. Else prove '..UptoSaid'. A law counts once. -/
mutual
def uptoBulk {H : Type} : DataW H → Nat
  | .lit (.string bytes) => bytes.length + 1
  | .lit _ => 1
  | .nil => 1
  | .ptr d => uptoBulk d + 1
  | .slice elems spare => uptoBulkAll elems + uptoBulkAll spare + 1
  | .agg parts => uptoBulkAll parts + 1
  | .iface _ d => uptoBulk d + 1
  | .map entries => uptoBulkEntries entries + 1
  | .held _ => 1
def uptoBulkAll {H : Type} : List (DataW H) → Nat
  | [] => 0
  | d :: r => uptoBulk d + uptoBulkAll r
def uptoBulkEntries {H : Type} : List (Lit × DataW H) → Nat
  | [] => 0
  | x :: r => uptoBulkEntry x + uptoBulkEntries r
def uptoBulkEntry {H : Type} : Lit × DataW H → Nat
  | (.string bytes, d) => bytes.length + uptoBulk d + 1
  | (_, d) => uptoBulk d + 1
 end
def uptoSmall : (H : Type) → List (DataW H) → Bool := fun _ ds => decide (uptoBulkAll ds ≤ 1048576)
def OpenSpec.upto (s : _root_.Go.ChangeSpec) : _root_.Go.OpenSpec := { _root_.Go.OpenSpec.ofChange s with cond := some uptoSmall }

/-- 'calamuslaw02.FbitsWidens', WHERE WHAT IT READS IS OF BULK AT MOST 1048576: true; the input reads as it did. -/
def fbitsWidensUptoRow : OpenClaim := { program := "ytjlhningaijneaadoor", sum := "73ca53aac5efafeeec9af859785dce489a0701c8893558ab66b5324269eb8f31", func := "calamus/calamuslaw02.FbitsWidens", spec := "fbitsWidens", inPlace := ["math.Float64frombits", "math.Float64bits"], named := ["calamus/fbits.half", "calamus/fbits.single", "calamus/fbits.double"], apart := false, laid := [("calamus/fbits.half", laid_calamus_fbits_half), ("calamus/fbits.single", laid_calamus_fbits_single), ("calamus/fbits.double", laid_calamus_fbits_double)], narrowed := true }
def FbitsWidensUptoSaid : Prop := fbitsWidensUptoRow.holds Tryd.pinned (OpenSpec.upto fbitsWidensSpec)

/-- 'calamuslaw02.FbitsNarrows', WHERE WHAT IT READS IS OF BULK AT MOST 1048576: true; the input reads as it did. -/
def fbitsNarrowsUptoRow : OpenClaim := { program := "ytjlhningaijneaadoor", sum := "73ca53aac5efafeeec9af859785dce489a0701c8893558ab66b5324269eb8f31", func := "calamus/calamuslaw02.FbitsNarrows", spec := "fbitsNarrows", inPlace := ["math.Float64frombits", "math.Float64bits"], named := ["calamus/fbits.half", "calamus/fbits.single", "calamus/fbits.double"], apart := false, laid := [("calamus/fbits.half", laid_calamus_fbits_half), ("calamus/fbits.single", laid_calamus_fbits_single), ("calamus/fbits.double", laid_calamus_fbits_double)], narrowed := true }
def FbitsNarrowsUptoSaid : Prop := fbitsNarrowsUptoRow.holds Tryd.pinned (OpenSpec.upto fbitsNarrowsSpec)

/-- 'calamuslaw02.FbitsTexts', WHERE WHAT IT READS IS OF BULK AT MOST 1048576: true; the input reads as it did. -/
def fbitsTextsUptoRow : OpenClaim := { program := "ytjlhningaijneaadoor", sum := "73ca53aac5efafeeec9af859785dce489a0701c8893558ab66b5324269eb8f31", func := "calamus/calamuslaw02.FbitsTexts", spec := "fbitsTexts", inPlace := ["math.Float64frombits", "math.Float64bits"], named := ["calamus/fbits.half", "calamus/fbits.single", "calamus/fbits.double"], apart := false, laid := [("calamus/fbits.half", laid_calamus_fbits_half), ("calamus/fbits.single", laid_calamus_fbits_single), ("calamus/fbits.double", laid_calamus_fbits_double)], narrowed := true }
def FbitsTextsUptoSaid : Prop := fbitsTextsUptoRow.holds Tryd.pinned (OpenSpec.upto fbitsTextsSpec)

/-- 'calamuslaw02.FbitsRound', WHERE WHAT IT READS IS OF BULK AT MOST 1048576: true; the input reads as it did. -/
def fbitsRoundUptoRow : OpenClaim := { program := "ytjlhningaijneaadoor", sum := "73ca53aac5efafeeec9af859785dce489a0701c8893558ab66b5324269eb8f31", func := "calamus/calamuslaw02.FbitsRound", spec := "fbitsRound", inPlace := ["math.Float64frombits", "math.Float64bits"], named := ["calamus/fbits.half", "calamus/fbits.single", "calamus/fbits.double"], apart := false, laid := [("calamus/fbits.half", laid_calamus_fbits_half), ("calamus/fbits.single", laid_calamus_fbits_single), ("calamus/fbits.double", laid_calamus_fbits_double)], narrowed := true }
def FbitsRoundUptoSaid : Prop := fbitsRoundUptoRow.holds Tryd.pinned (OpenSpec.upto fbitsRoundSpec)

/-- 'calamuslaw02.FbitsKeeps', WHERE WHAT IT READS IS OF BULK AT MOST 1048576: true; the input reads as it did. -/
def fbitsKeepsUptoRow : OpenClaim := { program := "ytjlhningaijneaadoor", sum := "73ca53aac5efafeeec9af859785dce489a0701c8893558ab66b5324269eb8f31", func := "calamus/calamuslaw02.FbitsKeeps", spec := "fbitsKeeps", inPlace := ["math.Float64frombits", "math.Float64bits"], named := ["calamus/fbits.half", "calamus/fbits.double", "calamus/fbits.single"], apart := false, laid := [("calamus/fbits.half", laid_calamus_fbits_half), ("calamus/fbits.single", laid_calamus_fbits_single), ("calamus/fbits.double", laid_calamus_fbits_double)], narrowed := true }
def FbitsKeepsUptoSaid : Prop := fbitsKeepsUptoRow.holds Tryd.pinned (OpenSpec.upto fbitsKeepsSpec)

/-- 'calamuslaw02.FbitsSigns', WHERE WHAT IT READS IS OF BULK AT MOST 1048576: true; the input reads as it did. -/
def fbitsSignsUptoRow : OpenClaim := { program := "ytjlhningaijneaadoor", sum := "73ca53aac5efafeeec9af859785dce489a0701c8893558ab66b5324269eb8f31", func := "calamus/calamuslaw02.FbitsSigns", spec := "fbitsSigns", inPlace := ["math.Float64frombits", "math.Float64bits"], named := ["calamus/fbits.half", "calamus/fbits.single", "calamus/fbits.double"], apart := false, laid := [("calamus/fbits.half", laid_calamus_fbits_half), ("calamus/fbits.single", laid_calamus_fbits_single), ("calamus/fbits.double", laid_calamus_fbits_double)], narrowed := true }
def FbitsSignsUptoSaid : Prop := fbitsSignsUptoRow.holds Tryd.pinned (OpenSpec.upto fbitsSignsSpec)

end Rows
end Go.Proofs.YtjlhningaijneaaDoor
