/- bytes.TrimLeft at the cutset of one nought: walked. -/
import Derived.Test.YtemlpjnophijfaaDoorRows
import Derived.Test.YtemlpjnophijfaaDoorNaPlain
import Derived.Test.YtemlpjnophijfaaDoorNeArr
import Derived.WalkKit
import Derived.WalkSpells
import Derived.WalkLawsBesides
namespace Go.Proofs.YtemlpjnophijfaaDoor
open Go.RowKit
set_option linter.unusedSimpArgs false
set_option linter.unusedVariables false
/-- How many noughts a row begins with. -/
def lz (d : List Nat) : Nat := (d.takeWhile (· == 0)).length
theorem lz_of (d : List Nat) (k : Nat) (hk : k ≤ d.length) (h1 : ∀ i (h : i < d.length), i < k → d[i] = 0) (h2 : ∀ h : k < d.length, d[k] ≠ 0) : lz d = k :=
  takeWhile_of _ d k hk (fun j h hj => by simp [h1 j h hj]) (fun h => by simpa using h2 h)
def lenOf : Value → Nat | .slice _ m _ => m | _ => 0
end Go.Proofs.YtemlpjnophijfaaDoor
