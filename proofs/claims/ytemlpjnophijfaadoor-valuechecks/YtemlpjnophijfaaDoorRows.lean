/-
  NARROWER THAN 'FOR EVERY INPUT', by the rows' own cells (each row's printed sentence says how): ValueChecks: loops, laid · ValueOrders: loops, laid · ValueThree: loops, laid · ValueGrows: loops, laid · ValueLists: loops, laid.
  DERIVED. THE GIVEN ROWS OF THIS SEAT. 5 by the template 'for every input the law returns true; each argument reads behind the call as it read before'; 0 by the template 'total and deterministic' (their statements: YtemlpjnophijfaaDoorTotals.lean).
  GIVEN WITH THE SEED: the statements are not yours to turn. If you find one false, say at which input.
  Laid BY PROGRAM, IN A SANDBOX (cutbox-rows.mjs): the forced cells as the released guide's own fill.sh prints them over the translation 5a7a5d88e7761a0d… (all of the seat's roots in one cut). By AI agents, Wed Nov 11 2026. No macro, syntax, notation, axiom, sorry.
-/
import Derived.Test.YtemlpjnophijfaaDoorChecked
import GoSem.Claim
import GoSem.ClaimJoined
import GoSem.ClaimMapViews
import Derived.JoinedTies
import Derived.KernelRfl
namespace Go.Proofs.YtemlpjnophijfaaDoor
/- THE CELL 'sum', in the pinned program and in every row, IS THE sha256 OF THE DUMP (.gsa) THAT YtemlpjnophijfaaDoorProg.lean LOADS. Nothing in Lean hashes anything: it is a label: what it is worth is what the hold of that sum in a sandbox is worth. -/
noncomputable def Tryd.pinned : Pinned := { name := "ytemlpjnophijfaadoor", sum := "5a7a5d88e7761a0d83c3864b38e8fdf2e8787605b51a587f15a8d761cae95a90", checked := Tryd.checked }
namespace Rows
def none {H : Type} : Left H := { results := [], args := [] }

/- WHAT THE LISTED PACKAGE-LEVEL VARIABLES READ AS WHEN THE CALL BEGINS. Each datum BY PROGRAM (the guide's laid-datum.mjs) off the statement by which the dump's own 'gosem.cut.vars' lays the variable. In a bare row this is a premise. The card (YtemlpjnophijfaaDoorCards.lean) ties it to the program's text. -/
def laid_calamus_utf_between {H : Type} : DataW H := .agg [.agg [.lit (.int .u8 0), .lit (.int .u8 0)], .agg [.lit (.int .u8 0), .lit (.int .u8 0)], .agg [.lit (.int .u8 0), .lit (.int .u8 0)], .agg [.lit (.int .u8 0), .lit (.int .u8 0)]]
def laid_calamus_utf_longer {H : Type} : DataW H := .agg [.agg [.agg [.lit (.int .u8 194), .lit (.int .u8 223)], .agg [.lit (.int .u8 128), .lit (.int .u8 191)], .agg [.lit (.int .u8 0), .lit (.int .u8 0)], .agg [.lit (.int .u8 0), .lit (.int .u8 0)]], .agg [.agg [.lit (.int .u8 224), .lit (.int .u8 224)], .agg [.lit (.int .u8 160), .lit (.int .u8 191)], .agg [.lit (.int .u8 128), .lit (.int .u8 191)], .agg [.lit (.int .u8 0), .lit (.int .u8 0)]], .agg [.agg [.lit (.int .u8 225), .lit (.int .u8 236)], .agg [.lit (.int .u8 128), .lit (.int .u8 191)], .agg [.lit (.int .u8 128), .lit (.int .u8 191)], .agg [.lit (.int .u8 0), .lit (.int .u8 0)]], .agg [.agg [.lit (.int .u8 237), .lit (.int .u8 237)], .agg [.lit (.int .u8 128), .lit (.int .u8 159)], .agg [.lit (.int .u8 128), .lit (.int .u8 191)], .agg [.lit (.int .u8 0), .lit (.int .u8 0)]], .agg [.agg [.lit (.int .u8 238), .lit (.int .u8 239)], .agg [.lit (.int .u8 128), .lit (.int .u8 191)], .agg [.lit (.int .u8 128), .lit (.int .u8 191)], .agg [.lit (.int .u8 0), .lit (.int .u8 0)]], .agg [.agg [.lit (.int .u8 240), .lit (.int .u8 240)], .agg [.lit (.int .u8 144), .lit (.int .u8 191)], .agg [.lit (.int .u8 128), .lit (.int .u8 191)], .agg [.lit (.int .u8 128), .lit (.int .u8 191)]], .agg [.agg [.lit (.int .u8 241), .lit (.int .u8 243)], .agg [.lit (.int .u8 128), .lit (.int .u8 191)], .agg [.lit (.int .u8 128), .lit (.int .u8 191)], .agg [.lit (.int .u8 128), .lit (.int .u8 191)]], .agg [.agg [.lit (.int .u8 244), .lit (.int .u8 244)], .agg [.lit (.int .u8 128), .lit (.int .u8 143)], .agg [.lit (.int .u8 128), .lit (.int .u8 191)], .agg [.lit (.int .u8 128), .lit (.int .u8 191)]]]

/-- 'calamuslaw04.ValueChecks': WHATEVER THE INPUT: true; the input reads as it did. -/
def valueChecksSpec : ChangeSpec := { name := "valueChecks", fn := fun _ => fun
  | [d] => { results := [.lit (.bool true)], args := [d] }
  | _ => none }
def valueChecksRow : OpenClaim := { program := "ytemlpjnophijfaadoor", sum := "5a7a5d88e7761a0d83c3864b38e8fdf2e8787605b51a587f15a8d761cae95a90", func := "calamus/calamuslaw04.ValueChecks", spec := "valueChecks", unfollowed := true, recurses := true, named := ["calamus/utf.between", "calamus/utf.longer"], loops := true, apart := false, laid := [("calamus/utf.between", laid_calamus_utf_between), ("calamus/utf.longer", laid_calamus_utf_longer)] }
def ValueChecksSaid : Prop := valueChecksRow.holds Tryd.pinned (OpenSpec.ofChange valueChecksSpec)

/-- ITS FALSE NEIGHBOUR: 'it returns false'. Refute it at one input. -/
def valueChecksWrong : ChangeSpec := { name := "valueChecks", fn := fun _ => fun
  | [d] => { results := [.lit (.bool false)], args := [d] }
  | _ => none }
def ValueChecksWrongFalsely : Prop := valueChecksRow.holds Tryd.pinned (OpenSpec.ofChange valueChecksWrong)

/-- 'calamuslaw04.ValueOrders': WHATEVER THE INPUT: true; the input reads as it did. -/
def valueOrdersSpec : ChangeSpec := { name := "valueOrders", fn := fun _ => fun
  | [d1, d2] => { results := [.lit (.bool true)], args := [d1, d2] }
  | _ => none }
def valueOrdersRow : OpenClaim := { program := "ytemlpjnophijfaadoor", sum := "5a7a5d88e7761a0d83c3864b38e8fdf2e8787605b51a587f15a8d761cae95a90", func := "calamus/calamuslaw04.ValueOrders", spec := "valueOrders", unfollowed := true, recurses := true, named := ["calamus/utf.between", "calamus/utf.longer"], loops := true, apart := false, laid := [("calamus/utf.between", laid_calamus_utf_between), ("calamus/utf.longer", laid_calamus_utf_longer)] }
def ValueOrdersSaid : Prop := valueOrdersRow.holds Tryd.pinned (OpenSpec.ofChange valueOrdersSpec)

/-- ITS FALSE NEIGHBOUR: 'it returns false'. Refute it at one input. -/
def valueOrdersWrong : ChangeSpec := { name := "valueOrders", fn := fun _ => fun
  | [d1, d2] => { results := [.lit (.bool false)], args := [d1, d2] }
  | _ => none }
def ValueOrdersWrongFalsely : Prop := valueOrdersRow.holds Tryd.pinned (OpenSpec.ofChange valueOrdersWrong)

/-- 'calamuslaw04.ValueThree': WHATEVER THE INPUT: true; the input reads as it did. -/
def valueThreeSpec : ChangeSpec := { name := "valueThree", fn := fun _ => fun
  | [d1, d2, d3] => { results := [.lit (.bool true)], args := [d1, d2, d3] }
  | _ => none }
def valueThreeRow : OpenClaim := { program := "ytemlpjnophijfaadoor", sum := "5a7a5d88e7761a0d83c3864b38e8fdf2e8787605b51a587f15a8d761cae95a90", func := "calamus/calamuslaw04.ValueThree", spec := "valueThree", unfollowed := true, recurses := true, named := ["calamus/utf.between", "calamus/utf.longer"], loops := true, apart := false, laid := [("calamus/utf.between", laid_calamus_utf_between), ("calamus/utf.longer", laid_calamus_utf_longer)] }
def ValueThreeSaid : Prop := valueThreeRow.holds Tryd.pinned (OpenSpec.ofChange valueThreeSpec)

/-- ITS FALSE NEIGHBOUR: 'it returns false'. Refute it at one input. -/
def valueThreeWrong : ChangeSpec := { name := "valueThree", fn := fun _ => fun
  | [d1, d2, d3] => { results := [.lit (.bool false)], args := [d1, d2, d3] }
  | _ => none }
def ValueThreeWrongFalsely : Prop := valueThreeRow.holds Tryd.pinned (OpenSpec.ofChange valueThreeWrong)

/-- 'calamuslaw04.ValueGrows': WHATEVER THE INPUT: true; the input reads as it did. -/
def valueGrowsSpec : ChangeSpec := { name := "valueGrows", fn := fun _ => fun
  | [d] => { results := [.lit (.bool true)], args := [d] }
  | _ => none }
def valueGrowsRow : OpenClaim := { program := "ytemlpjnophijfaadoor", sum := "5a7a5d88e7761a0d83c3864b38e8fdf2e8787605b51a587f15a8d761cae95a90", func := "calamus/calamuslaw04.ValueGrows", spec := "valueGrows", unfollowed := true, recurses := true, named := ["calamus/utf.between", "calamus/utf.longer"], loops := true, apart := false, laid := [("calamus/utf.between", laid_calamus_utf_between), ("calamus/utf.longer", laid_calamus_utf_longer)] }
def ValueGrowsSaid : Prop := valueGrowsRow.holds Tryd.pinned (OpenSpec.ofChange valueGrowsSpec)

/-- ITS FALSE NEIGHBOUR: 'it returns false'. Refute it at one input. -/
def valueGrowsWrong : ChangeSpec := { name := "valueGrows", fn := fun _ => fun
  | [d] => { results := [.lit (.bool false)], args := [d] }
  | _ => none }
def ValueGrowsWrongFalsely : Prop := valueGrowsRow.holds Tryd.pinned (OpenSpec.ofChange valueGrowsWrong)

/-- 'calamuslaw04.ValueLists': WHATEVER THE INPUT: true; the input reads as it did. -/
def valueListsSpec : ChangeSpec := { name := "valueLists", fn := fun _ => fun
  | [d1, d2] => { results := [.lit (.bool true)], args := [d1, d2] }
  | _ => none }
def valueListsRow : OpenClaim := { program := "ytemlpjnophijfaadoor", sum := "5a7a5d88e7761a0d83c3864b38e8fdf2e8787605b51a587f15a8d761cae95a90", func := "calamus/calamuslaw04.ValueLists", spec := "valueLists", unfollowed := true, recurses := true, named := ["calamus/utf.between", "calamus/utf.longer"], loops := true, apart := false, laid := [("calamus/utf.between", laid_calamus_utf_between), ("calamus/utf.longer", laid_calamus_utf_longer)] }
def ValueListsSaid : Prop := valueListsRow.holds Tryd.pinned (OpenSpec.ofChange valueListsSpec)

/-- ITS FALSE NEIGHBOUR: 'it returns false'. Refute it at one input. -/
def valueListsWrong : ChangeSpec := { name := "valueLists", fn := fun _ => fun
  | [d1, d2] => { results := [.lit (.bool false)], args := [d1, d2] }
  | _ => none }
def ValueListsWrongFalsely : Prop := valueListsRow.holds Tryd.pinned (OpenSpec.ofChange valueListsWrong)

/- THE SECOND FORM. 'bulk': how many values and letters a reading holds, each counted each time it is reached (what is shared counts as often as it is met; a slice's spare places count too). A statement '..UptoSaid' is the law's where the arguments, and the package variables that the reading takes, are together of bulk at most 1048576: NARROWER than '..Said'. Prove '..Said' where nothing that the law and all that it calls make is longer than what came in: it says more and counts as full. Else prove '..UptoSaid'. A law counts once. -/
mutual
def uptoBulk {H : Type} : DataW H → Nat
  | .lit (.string bytes) => bytes.length + 1
  | .lit _ => 1
  | .nil => 1
  | .ptr d => uptoBulk d + 1
  | .slice elems spare => uptoBulkAll elems + uptoBulkAll spare + 1
  | .agg parts => uptoBulkAll parts + 1
  | .iface _ d => uptoBulk d + 1
  | .map entries => uptoBulkEntries entries + 1
  | .held _ => 1
def uptoBulkAll {H : Type} : List (DataW H) → Nat
  | [] => 0
  | d :: r => uptoBulk d + uptoBulkAll r
def uptoBulkEntries {H : Type} : List (Lit × DataW H) → Nat
  | [] => 0
  | x :: r => uptoBulkEntry x + uptoBulkEntries r
def uptoBulkEntry {H : Type} : Lit × DataW H → Nat
  | (.string bytes, d) => bytes.length + uptoBulk d + 1
  | (_, d) => uptoBulk d + 1
 end
def uptoSmall : (H : Type) → List (DataW H) → Bool := fun _ ds => decide (uptoBulkAll ds ≤ 1048576)
def OpenSpec.upto (s : _root_.Go.ChangeSpec) : _root_.Go.OpenSpec := { _root_.Go.OpenSpec.ofChange s with cond := some uptoSmall }

/-- 'calamuslaw04.ValueChecks', WHERE WHAT IT READS IS OF BULK AT MOST 1048576: true; the input reads as it did. -/
def valueChecksUptoRow : OpenClaim := { program := "ytemlpjnophijfaadoor", sum := "5a7a5d88e7761a0d83c3864b38e8fdf2e8787605b51a587f15a8d761cae95a90", func := "calamus/calamuslaw04.ValueChecks", spec := "valueChecks", unfollowed := true, recurses := true, named := ["calamus/utf.between", "calamus/utf.longer"], loops := true, apart := false, laid := [("calamus/utf.between", laid_calamus_utf_between), ("calamus/utf.longer", laid_calamus_utf_longer)], narrowed := true }
def ValueChecksUptoSaid : Prop := valueChecksUptoRow.holds Tryd.pinned (OpenSpec.upto valueChecksSpec)

/-- 'calamuslaw04.ValueOrders', WHERE WHAT IT READS IS OF BULK AT MOST 1048576: true; the input reads as it did. -/
def valueOrdersUptoRow : OpenClaim := { program := "ytemlpjnophijfaadoor", sum := "5a7a5d88e7761a0d83c3864b38e8fdf2e8787605b51a587f15a8d761cae95a90", func := "calamus/calamuslaw04.ValueOrders", spec := "valueOrders", unfollowed := true, recurses := true, named := ["calamus/utf.between", "calamus/utf.longer"], loops := true, apart := false, laid := [("calamus/utf.between", laid_calamus_utf_between), ("calamus/utf.longer", laid_calamus_utf_longer)], narrowed := true }
def ValueOrdersUptoSaid : Prop := valueOrdersUptoRow.holds Tryd.pinned (OpenSpec.upto valueOrdersSpec)

/-- 'calamuslaw04.ValueThree', WHERE WHAT IT READS IS OF BULK AT MOST 1048576: true; the input reads as it did. -/
def valueThreeUptoRow : OpenClaim := { program := "ytemlpjnophijfaadoor", sum := "5a7a5d88e7761a0d83c3864b38e8fdf2e8787605b51a587f15a8d761cae95a90", func := "calamus/calamuslaw04.ValueThree", spec := "valueThree", unfollowed := true, recurses := true, named := ["calamus/utf.between", "calamus/utf.longer"], loops := true, apart := false, laid := [("calamus/utf.between", laid_calamus_utf_between), ("calamus/utf.longer", laid_calamus_utf_longer)], narrowed := true }
def ValueThreeUptoSaid : Prop := valueThreeUptoRow.holds Tryd.pinned (OpenSpec.upto valueThreeSpec)

/-- 'calamuslaw04.ValueGrows', WHERE WHAT IT READS IS OF BULK AT MOST 1048576: true; the input reads as it did. -/
def valueGrowsUptoRow : OpenClaim := { program := "ytemlpjnophijfaadoor", sum := "5a7a5d88e7761a0d83c3864b38e8fdf2e8787605b51a587f15a8d761cae95a90", func := "calamus/calamuslaw04.ValueGrows", spec := "valueGrows", unfollowed := true, recurses := true, named := ["calamus/utf.between", "calamus/utf.longer"], loops := true, apart := false, laid := [("calamus/utf.between", laid_calamus_utf_between), ("calamus/utf.longer", laid_calamus_utf_longer)], narrowed := true }
def ValueGrowsUptoSaid : Prop := valueGrowsUptoRow.holds Tryd.pinned (OpenSpec.upto valueGrowsSpec)

/-- 'calamuslaw04.ValueLists', WHERE WHAT IT READS IS OF BULK AT MOST 1048576: true; the input reads as it did. -/
def valueListsUptoRow : OpenClaim := { program := "ytemlpjnophijfaadoor", sum := "5a7a5d88e7761a0d83c3864b38e8fdf2e8787605b51a587f15a8d761cae95a90", func := "calamus/calamuslaw04.ValueLists", spec := "valueLists", unfollowed := true, recurses := true, named := ["calamus/utf.between", "calamus/utf.longer"], loops := true, apart := false, laid := [("calamus/utf.between", laid_calamus_utf_between), ("calamus/utf.longer", laid_calamus_utf_longer)], narrowed := true }
def ValueListsUptoSaid : Prop := valueListsUptoRow.holds Tryd.pinned (OpenSpec.upto valueListsSpec)

end Rows
end Go.Proofs.YtemlpjnophijfaaDoor
