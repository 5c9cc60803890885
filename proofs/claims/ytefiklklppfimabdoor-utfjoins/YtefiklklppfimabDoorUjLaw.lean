/- calamuslaw03.UtfNil, UtfRound, UtfJoins: walked. -/
import Derived.Test.YtefiklklppfimabDoorUiAwake
namespace Go.Proofs.YtefiklklppfimabDoor
open Go.RowKit
set_option linter.unusedSimpArgs false
set_option linter.unusedVariables false
/-- A slice of bytes, whatever lies there. -/
def lenV : Value → Nat | .slice _ n _ => n | _ => 0
theorem SL.len {w : World} {v : Value} {l : List UInt8} (h : SL w v l) : ∃ a c, v = .slice a l.length c ∧ l.length ≤ c ∧ c ≤ maxLen := by
  rcases h with ⟨rfl, rfl⟩ | ⟨a, c, rfl, h1, h2, _⟩
  · exact ⟨none, 0, rfl, Nat.le_refl _, by decide⟩
  · exact ⟨some a, c, rfl, h1, h2⟩
end Go.Proofs.YtefiklklppfimabDoor
