/- A number's struct as an argument: opened and shut; the start that meets what the rows list. -/
import Derived.Test.YtjpdlibncmldlaaDoorRows
import Derived.WalkKit
import Derived.ProofKit
import Derived.Lib.SmallJoins
import Derived.Lay
namespace Go.Proofs.YtjpdlibncmldlaaDoor
open Go.ChangeShapes Go.WideShapes Go.ChangeAt Go.RowKit Go.Joins
set_option linter.unusedVariables false
set_option maxRecDepth 100000
theorem own : ownKnob Tryd.prog.godebug = none := by kernel_rfl
theorem cells23 : Tryd.prog.cellsOf 23 = 3 := by kernel_rfl
section
variable {H : Type} {enc : TypeId × Value → H} {w : World} {base : Nat} {spare : Nat → Bool} {held : Bool}
theorem open_num {r : Reach} {b0 : Nat} {v : Value} {d : DataW H} {p : List MemPlace} (hv : Value.okWide Tryd.prog w r b0 23 v) (h : DataW.Trod enc Tryd.prog w base spare held 23 v d p) :
    ∃ (n : Bool) (s : ByteArray) (x : Int), v = .agg #[.bool n, .string s, .int .i64 x] ∧ d = .agg [.lit (.bool n), .lit (.string s.data.toList), .lit (.int .i64 x)] ∧ p = [] ∧ s.size ≤ maxLen ∧ (Lit.int .i64 x).wf = true := by
  obtain ⟨c0, c1, c2, y0, y1, y2, m, rfl, rfl, rfl, hy0, hy1, hy2⟩ := open_agg3 Tryd.underlying23 (by kernel_rfl) cells23 hv h
  obtain ⟨n, e0, rfl⟩ := DataW.trod_bool Tryd.underlying4 hy0
  obtain ⟨s, e1, rfl, hs⟩ := DataW.trod_string Tryd.underlying9 hy1
  obtain ⟨x, e2, rfl, hx⟩ := DataW.trod_int Tryd.underlying3 hy2
  simp at e0 e1 e2
  subst e0 e1 e2
  exact ⟨n, s, x, rfl, rfl, rfl, hs, hx⟩
theorem shut_num (n : Bool) (s : ByteArray) (x : Int) (hs : s.size ≤ maxLen) (hx : (Lit.int .i64 x).wf = true) :
    DataW.Trod enc Tryd.prog w base spare held 23 (.agg #[.bool n, .string s, .int .i64 x]) (.agg [.lit (.bool n), .lit (.string s.data.toList), .lit (.int .i64 x)]) [] :=
  shut_agg3 (y0 := (.lit (.bool n), [])) (y1 := (.lit (.string s.data.toList), [])) (y2 := (.lit (.int .i64 x), [])) Tryd.underlying23 (by kernel_rfl) cells23
    ⟨1, by simp [DataW.trod, Tryd.underlying4]⟩ ⟨1, by simp [DataW.trod, Tryd.underlying9, hs]⟩ ⟨1, by simp [DataW.trod, Tryd.underlying3, hx]⟩
end
end Go.Proofs.YtjpdlibncmldlaaDoor
