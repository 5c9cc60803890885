/-
  NARROWER THAN 'FOR EVERY INPUT', by the rows' own cells (each row's printed sentence says how): TypesChecks: loops, laid · TypesOrders: loops, laid · TypesParts: loops, laid · TypesThree: loops, laid · TypesAny: loops, laid.
  DERIVED. THE GIVEN ROWS OF THIS SEAT. 5 by the template 'for every input the law returns true; each argument reads behind the call as it read before'; 0 by the template 'total and deterministic' (their statements: YtolmbjeinilhlaaDoorTotals.lean).
  GIVEN WITH THE SEED: the statements are not yours to turn. If you find one false, say at which input.
  Laid BY PROGRAM, IN A SANDBOX (cutbox-rows.mjs): the forced cells as the released guide's own fill.sh prints them over the translation 4578a5360e94cf97… (all of the seat's roots in one cut). By AI agents, Wed Nov 11 2026. No macro, syntax, notation, axiom, sorry.
-/
import Derived.Test.YtolmbjeinilhlaaDoorChecked
import GoSem.Claim
import GoSem.ClaimJoined
import GoSem.ClaimMapViews
import Derived.JoinedTies
import Derived.KernelRfl
namespace Go.Proofs.YtolmbjeinilhlaaDoor
/- THE CELL 'sum', in the pinned program and in every row, IS THE sha256 OF THE DUMP (.gsa) THAT YtolmbjeinilhlaaDoorProg.lean LOADS. Nothing in Lean hashes anything: it is a label: what it is worth is what the hold of that sum in a sandbox is worth. -/
noncomputable def Tryd.pinned : Pinned := { name := "ytolmbjeinilhlaadoor", sum := "4578a5360e94cf97e399455ef65e364307d68866ebefb661c5855e7e8857087a", checked := Tryd.checked }
namespace Rows
def none {H : Type} : Left H := { results := [], args := [] }

/- WHAT THE LISTED PACKAGE-LEVEL VARIABLES READ AS WHEN THE CALL BEGINS. Each datum BY PROGRAM (the guide's laid-datum.mjs) off the statement by which the dump's own 'gosem.cut.vars' lays the variable. In a bare row this is a premise. The card (YtolmbjeinilhlaaDoorCards.lean) ties it to the program's text. -/
def laid_calamus_utf_between {H : Type} : DataW H := .agg [.agg [.lit (.int .u8 0), .lit (.int .u8 0)], .agg [.lit (.int .u8 0), .lit (.int .u8 0)], .agg [.lit (.int .u8 0), .lit (.int .u8 0)], .agg [.lit (.int .u8 0), .lit (.int .u8 0)]]
def laid_calamus_utf_longer {H : Type} : DataW H := .agg [.agg [.agg [.lit (.int .u8 194), .lit (.int .u8 223)], .agg [.lit (.int .u8 128), .lit (.int .u8 191)], .agg [.lit (.int .u8 0), .lit (.int .u8 0)], .agg [.lit (.int .u8 0), .lit (.int .u8 0)]], .agg [.agg [.lit (.int .u8 224), .lit (.int .u8 224)], .agg [.lit (.int .u8 160), .lit (.int .u8 191)], .agg [.lit (.int .u8 128), .lit (.int .u8 191)], .agg [.lit (.int .u8 0), .lit (.int .u8 0)]], .agg [.agg [.lit (.int .u8 225), .lit (.int .u8 236)], .agg [.lit (.int .u8 128), .lit (.int .u8 191)], .agg [.lit (.int .u8 128), .lit (.int .u8 191)], .agg [.lit (.int .u8 0), .lit (.int .u8 0)]], .agg [.agg [.lit (.int .u8 237), .lit (.int .u8 237)], .agg [.lit (.int .u8 128), .lit (.int .u8 159)], .agg [.lit (.int .u8 128), .lit (.int .u8 191)], .agg [.lit (.int .u8 0), .lit (.int .u8 0)]], .agg [.agg [.lit (.int .u8 238), .lit (.int .u8 239)], .agg [.lit (.int .u8 128), .lit (.int .u8 191)], .agg [.lit (.int .u8 128), .lit (.int .u8 191)], .agg [.lit (.int .u8 0), .lit (.int .u8 0)]], .agg [.agg [.lit (.int .u8 240), .lit (.int .u8 240)], .agg [.lit (.int .u8 144), .lit (.int .u8 191)], .agg [.lit (.int .u8 128), .lit (.int .u8 191)], .agg [.lit (.int .u8 128), .lit (.int .u8 191)]], .agg [.agg [.lit (.int .u8 241), .lit (.int .u8 243)], .agg [.lit (.int .u8 128), .lit (.int .u8 191)], .agg [.lit (.int .u8 128), .lit (.int .u8 191)], .agg [.lit (.int .u8 128), .lit (.int .u8 191)]], .agg [.agg [.lit (.int .u8 244), .lit (.int .u8 244)], .agg [.lit (.int .u8 128), .lit (.int .u8 143)], .agg [.lit (.int .u8 128), .lit (.int .u8 191)], .agg [.lit (.int .u8 128), .lit (.int .u8 191)]]]
def laid_calamus_types_plainKinds {H : Type} : DataW H := .agg [.agg [.lit (.int .i64 1), .lit (.int .i64 0)], .agg [.lit (.int .i64 2), .lit (.int .i64 1)], .agg [.lit (.int .i64 3), .lit (.int .i64 2)], .agg [.lit (.int .i64 4), .lit (.int .i64 3)], .agg [.lit (.int .i64 5), .lit (.int .i64 3)], .agg [.lit (.int .i64 6), .lit (.int .i64 4)], .agg [.lit (.int .i64 7), .lit (.int .i64 5)], .agg [.lit (.int .i64 8), .lit (.int .i64 6)]]

/-- 'calamuslaw11.TypesChecks': WHATEVER THE INPUT: true; the input reads as it did. -/
def typesChecksSpec : ChangeSpec := { name := "typesChecks", fn := fun _ => fun
  | [d1, d2] => { results := [.lit (.bool true)], args := [d1, d2] }
  | _ => none }
def typesChecksRow : OpenClaim := { program := "ytolmbjeinilhlaadoor", sum := "4578a5360e94cf97e399455ef65e364307d68866ebefb661c5855e7e8857087a", func := "calamus/calamuslaw11.TypesChecks", spec := "typesChecks", unfollowed := true, recurses := true, named := ["calamus/utf.between", "calamus/utf.longer", "calamus/types.plainKinds"], loops := true, apart := false, laid := [("calamus/utf.between", laid_calamus_utf_between), ("calamus/utf.longer", laid_calamus_utf_longer), ("calamus/types.plainKinds", laid_calamus_types_plainKinds)] }
def TypesChecksSaid : Prop := typesChecksRow.holds Tryd.pinned (OpenSpec.ofChange typesChecksSpec)

/-- ITS FALSE NEIGHBOUR: 'it returns false'. Refute it at one input. -/
def typesChecksWrong : ChangeSpec := { name := "typesChecks", fn := fun _ => fun
  | [d1, d2] => { results := [.lit (.bool false)], args := [d1, d2] }
  | _ => none }
def TypesChecksWrongFalsely : Prop := typesChecksRow.holds Tryd.pinned (OpenSpec.ofChange typesChecksWrong)

/-- 'calamuslaw11.TypesOrders': WHATEVER THE INPUT: true; the input reads as it did. -/
def typesOrdersSpec : ChangeSpec := { name := "typesOrders", fn := fun _ => fun
  | [d1, d2] => { results := [.lit (.bool true)], args := [d1, d2] }
  | _ => none }
def typesOrdersRow : OpenClaim := { program := "ytolmbjeinilhlaadoor", sum := "4578a5360e94cf97e399455ef65e364307d68866ebefb661c5855e7e8857087a", func := "calamus/calamuslaw11.TypesOrders", spec := "typesOrders", unfollowed := true, recurses := true, named := ["calamus/utf.between", "calamus/utf.longer", "calamus/types.plainKinds"], loops := true, apart := false, laid := [("calamus/utf.between", laid_calamus_utf_between), ("calamus/utf.longer", laid_calamus_utf_longer), ("calamus/types.plainKinds", laid_calamus_types_plainKinds)] }
def TypesOrdersSaid : Prop := typesOrdersRow.holds Tryd.pinned (OpenSpec.ofChange typesOrdersSpec)

/-- ITS FALSE NEIGHBOUR: 'it returns false'. Refute it at one input. -/
def typesOrdersWrong : ChangeSpec := { name := "typesOrders", fn := fun _ => fun
  | [d1, d2] => { results := [.lit (.bool false)], args := [d1, d2] }
  | _ => none }
def TypesOrdersWrongFalsely : Prop := typesOrdersRow.holds Tryd.pinned (OpenSpec.ofChange typesOrdersWrong)

/-- 'calamuslaw11.TypesParts': WHATEVER THE INPUT: true; the input reads as it did. -/
def typesPartsSpec : ChangeSpec := { name := "typesParts", fn := fun _ => fun
  | [d1, d2, d3] => { results := [.lit (.bool true)], args := [d1, d2, d3] }
  | _ => none }
def typesPartsRow : OpenClaim := { program := "ytolmbjeinilhlaadoor", sum := "4578a5360e94cf97e399455ef65e364307d68866ebefb661c5855e7e8857087a", func := "calamus/calamuslaw11.TypesParts", spec := "typesParts", unfollowed := true, recurses := true, named := ["calamus/utf.between", "calamus/utf.longer", "calamus/types.plainKinds"], loops := true, apart := false, laid := [("calamus/utf.between", laid_calamus_utf_between), ("calamus/utf.longer", laid_calamus_utf_longer), ("calamus/types.plainKinds", laid_calamus_types_plainKinds)] }
def TypesPartsSaid : Prop := typesPartsRow.holds Tryd.pinned (OpenSpec.ofChange typesPartsSpec)

/-- ITS FALSE NEIGHBOUR: 'it returns false'. Refute it at one input. -/
def typesPartsWrong : ChangeSpec := { name := "typesParts", fn := fun _ => fun
  | [d1, d2, d3] => { results := [.lit (.bool false)], args := [d1, d2, d3] }
  | _ => none }
def TypesPartsWrongFalsely : Prop := typesPartsRow.holds Tryd.pinned (OpenSpec.ofChange typesPartsWrong)

/-- 'calamuslaw11.TypesThree': WHATEVER THE INPUT: true; the input reads as it did. -/
def typesThreeSpec : ChangeSpec := { name := "typesThree", fn := fun _ => fun
  | [d1, d2, d3] => { results := [.lit (.bool true)], args := [d1, d2, d3] }
  | _ => none }
def typesThreeRow : OpenClaim := { program := "ytolmbjeinilhlaadoor", sum := "4578a5360e94cf97e399455ef65e364307d68866ebefb661c5855e7e8857087a", func := "calamus/calamuslaw11.TypesThree", spec := "typesThree", unfollowed := true, recurses := true, named := ["calamus/utf.between", "calamus/utf.longer", "calamus/types.plainKinds"], loops := true, apart := false, laid := [("calamus/utf.between", laid_calamus_utf_between), ("calamus/utf.longer", laid_calamus_utf_longer), ("calamus/types.plainKinds", laid_calamus_types_plainKinds)] }
def TypesThreeSaid : Prop := typesThreeRow.holds Tryd.pinned (OpenSpec.ofChange typesThreeSpec)

/-- ITS FALSE NEIGHBOUR: 'it returns false'. Refute it at one input. -/
def typesThreeWrong : ChangeSpec := { name := "typesThree", fn := fun _ => fun
  | [d1, d2, d3] => { results := [.lit (.bool false)], args := [d1, d2, d3] }
  | _ => none }
def TypesThreeWrongFalsely : Prop := typesThreeRow.holds Tryd.pinned (OpenSpec.ofChange typesThreeWrong)

/-- 'calamuslaw11.TypesAny': WHATEVER THE INPUT: true; the input reads as it did. -/
def typesAnySpec : ChangeSpec := { name := "typesAny", fn := fun _ => fun
  | [d1, d2] => { results := [.lit (.bool true)], args := [d1, d2] }
  | _ => none }
def typesAnyRow : OpenClaim := { program := "ytolmbjeinilhlaadoor", sum := "4578a5360e94cf97e399455ef65e364307d68866ebefb661c5855e7e8857087a", func := "calamus/calamuslaw11.TypesAny", spec := "typesAny", unfollowed := true, recurses := true, named := ["calamus/utf.between", "calamus/utf.longer", "calamus/types.plainKinds"], loops := true, apart := false, laid := [("calamus/utf.between", laid_calamus_utf_between), ("calamus/utf.longer", laid_calamus_utf_longer), ("calamus/types.plainKinds", laid_calamus_types_plainKinds)] }
def TypesAnySaid : Prop := typesAnyRow.holds Tryd.pinned (OpenSpec.ofChange typesAnySpec)

/-- ITS FALSE NEIGHBOUR: 'it returns false'. Refute it at one input. -/
def typesAnyWrong : ChangeSpec := { name := "typesAny", fn := fun _ => fun
  | [d1, d2] => { results := [.lit (.bool false)], args := [d1, d2] }
  | _ => none }
def TypesAnyWrongFalsely : Prop := typesAnyRow.holds Tryd.pinned (OpenSpec.ofChange typesAnyWrong)

/- THE SECOND FORM. 'bulk': how many values and letters a reading holds, each counted each time it is reached (what is shared counts as often as it is met; a slice's spare places count too). A statement '..UptoSaid' is the law's where the arguments, and the package variables that the reading takes, are together of bulk at most 1048576: NARROWER than '..Said'. Prove '..Said' where nothing that the law and all that it calls make is longer than what came in: it says more and counts as full. Else prove '..UptoSaid'. A law counts once. -/
mutual
def uptoBulk {H : Type} : DataW H → Nat
  | .lit (.string bytes) => bytes.length + 1
  | .lit _ => 1
  | .nil => 1
  | .ptr d => uptoBulk d + 1
  | .slice elems spare => uptoBulkAll elems + uptoBulkAll spare + 1
  | .agg parts => uptoBulkAll parts + 1
  | .iface _ d => uptoBulk d + 1
  | .map entries => uptoBulkEntries entries + 1
  | .held _ => 1
def uptoBulkAll {H : Type} : List (DataW H) → Nat
  | [] => 0
  | d :: r => uptoBulk d + uptoBulkAll r
def uptoBulkEntries {H : Type} : List (Lit × DataW H) → Nat
  | [] => 0
  | x :: r => uptoBulkEntry x + uptoBulkEntries r
def uptoBulkEntry {H : Type} : Lit × DataW H → Nat
  | (.string bytes, d) => bytes.length + uptoBulk d + 1
  | (_, d) => uptoBulk d + 1
 end
def uptoSmall : (H : Type) → List (DataW H) → Bool := fun _ ds => decide (uptoBulkAll ds ≤ 1048576)
def OpenSpec.upto (s : _root_.Go.ChangeSpec) : _root_.Go.OpenSpec := { _root_.Go.OpenSpec.ofChange s with cond := some uptoSmall }

/-- 'calamuslaw11.TypesChecks', WHERE WHAT IT READS IS OF BULK AT MOST 1048576: true; the input reads as it did. -/
def typesChecksUptoRow : OpenClaim := { program := "ytolmbjeinilhlaadoor", sum := "4578a5360e94cf97e399455ef65e364307d68866ebefb661c5855e7e8857087a", func := "calamus/calamuslaw11.TypesChecks", spec := "typesChecks", unfollowed := true, recurses := true, named := ["calamus/utf.between", "calamus/utf.longer", "calamus/types.plainKinds"], loops := true, apart := false, laid := [("calamus/utf.between", laid_calamus_utf_between), ("calamus/utf.longer", laid_calamus_utf_longer), ("calamus/types.plainKinds", laid_calamus_types_plainKinds)], narrowed := true }
def TypesChecksUptoSaid : Prop := typesChecksUptoRow.holds Tryd.pinned (OpenSpec.upto typesChecksSpec)

/-- 'calamuslaw11.TypesOrders', WHERE WHAT IT READS IS OF BULK AT MOST 1048576: true; the input reads as it did. -/
def typesOrdersUptoRow : OpenClaim := { program := "ytolmbjeinilhlaadoor", sum := "4578a5360e94cf97e399455ef65e364307d68866ebefb661c5855e7e8857087a", func := "calamus/calamuslaw11.TypesOrders", spec := "typesOrders", unfollowed := true, recurses := true, named := ["calamus/utf.between", "calamus/utf.longer", "calamus/types.plainKinds"], loops := true, apart := false, laid := [("calamus/utf.between", laid_calamus_utf_between), ("calamus/utf.longer", laid_calamus_utf_longer), ("calamus/types.plainKinds", laid_calamus_types_plainKinds)], narrowed := true }
def TypesOrdersUptoSaid : Prop := typesOrdersUptoRow.holds Tryd.pinned (OpenSpec.upto typesOrdersSpec)

/-- 'calamuslaw11.TypesParts', WHERE WHAT IT READS IS OF BULK AT MOST 1048576: true; the input reads as it did. -/
def typesPartsUptoRow : OpenClaim := { program := "ytolmbjeinilhlaadoor", sum := "4578a5360e94cf97e399455ef65e364307d68866ebefb661c5855e7e8857087a", func := "calamus/calamuslaw11.TypesParts", spec := "typesParts", unfollowed := true, recurses := true, named := ["calamus/utf.between", "calamus/utf.longer", "calamus/types.plainKinds"], loops := true, apart := false, laid := [("calamus/utf.between", laid_calamus_utf_between), ("calamus/utf.longer", laid_calamus_utf_longer), ("calamus/types.plainKinds", laid_calamus_types_plainKinds)], narrowed := true }
def TypesPartsUptoSaid : Prop := typesPartsUptoRow.holds Tryd.pinned (OpenSpec.upto typesPartsSpec)

/-- 'calamuslaw11.TypesThree', WHERE WHAT IT READS IS OF BULK AT MOST 1048576: true; the input reads as it did. -/
def typesThreeUptoRow : OpenClaim := { program := "ytolmbjeinilhlaadoor", sum := "4578a5360e94cf97e399455ef65e364307d68866ebefb661c5855e7e8857087a", func := "calamus/calamuslaw11.TypesThree", spec := "typesThree", unfollowed := true, recurses := true, named := ["calamus/utf.between", "calamus/utf.longer", "calamus/types.plainKinds"], loops := true, apart := false, laid := [("calamus/utf.between", laid_calamus_utf_between), ("calamus/utf.longer", laid_calamus_utf_longer), ("calamus/types.plainKinds", laid_calamus_types_plainKinds)], narrowed := true }
def TypesThreeUptoSaid : Prop := typesThreeUptoRow.holds Tryd.pinned (OpenSpec.upto typesThreeSpec)

/-- 'calamuslaw11.TypesAny', WHERE WHAT IT READS IS OF BULK AT MOST 1048576: true; the input reads as it did. -/
def typesAnyUptoRow : OpenClaim := { program := "ytolmbjeinilhlaadoor", sum := "4578a5360e94cf97e399455ef65e364307d68866ebefb661c5855e7e8857087a", func := "calamus/calamuslaw11.TypesAny", spec := "typesAny", unfollowed := true, recurses := true, named := ["calamus/utf.between", "calamus/utf.longer", "calamus/types.plainKinds"], loops := true, apart := false, laid := [("calamus/utf.between", laid_calamus_utf_between), ("calamus/utf.longer", laid_calamus_utf_longer), ("calamus/types.plainKinds", laid_calamus_types_plainKinds)], narrowed := true }
def TypesAnyUptoSaid : Prop := typesAnyUptoRow.holds Tryd.pinned (OpenSpec.upto typesAnySpec)

end Rows
end Go.Proofs.YtolmbjeinilhlaaDoor
