/- strconv.AppendInt at this program: the library's contract, laid. -/
import Derived.Shelf.Strconv.AppendIntPublic10
import Derived.Test.YtjpdlibncmldlaaDoorRfShelf
import Derived.Lib.AppendIntMem
import Derived.Lib.ItoaLen
import Derived.Test.YtjpdlibncmldlaaDoorReText
namespace Go.Proofs.YtjpdlibncmldlaaDoor
open Go.Shelf Go.RowKit
set_option linter.unusedSimpArgs false
set_option linter.unusedVariables false
/-- The table that AppendInt reads, whatever is done from block B on. -/
abbrev Tab (B : Nat) (w : World) : Prop := Lib.TabBelow Tryd.prog B w "internal/strconv.uint64pow10" .u64 Lib.pow10Tab
theorem appendInt_any (B : Nat) (v : Value) (l : List UInt8) (n : Int) (w : World) (hown : Own w B v l) (hB : B ≤ w.heap.size) (hl : l.length ≤ 1000) (h0 : -100000 ≤ n) (h1 : n ≤ 100000) (ht : Tab B w) :
    Calls Tryd.prog 59 #[v, .int .i64 n, .int .i64 10] w fun e w' => ∃ v', e = .returned v' ∧ Hid (Own w' B v' (l ++ Lib.itoa n)) ∧ Hid (Below B w w') := by
  refine (Any.strconv_AppendInt_10 laysAI B l.length n (by omega) (by omega) v (bcs l) w hown hB (by omega) ht).mono ?_
  rintro e w' ⟨v', rfl, h2, h3, _⟩
  refine ⟨v', rfl, ?_, h3⟩
  show Own _ _ _ _
  unfold Own
  rw [bcs_append, List.length_append]
  exact h2
end Go.Proofs.YtjpdlibncmldlaaDoor
