/- calamuslaw03.UtfNil, UtfRound, UtfJoins: walked. -/
import Derived.Test.YtefiklklppfimaaDoorUiAwake
namespace Go.Proofs.YtefiklklppfimaaDoor
open Go.RowKit
set_option linter.unusedSimpArgs false
set_option linter.unusedVariables false
/-- A slice of bytes, whatever lies there. -/
def lenV : Value → Nat | .slice _ n _ => n | _ => 0
theorem SL.len {w : World} {v : Value} {l : List UInt8} (h : SL w v l) : ∃ a c, v = .slice a l.length c ∧ l.length ≤ c ∧ c ≤ maxLen := by
  rcases h with ⟨rfl, rfl⟩ | ⟨a, c, rfl, h1, h2, _⟩
  · exact ⟨none, 0, rfl, Nat.le_refl _, by decide⟩
  · exact ⟨some a, c, rfl, h1, h2⟩
set_option maxHeartbeats 1000000 in
theorem nil_law (v : Value) (l : List UInt8) (w : World) (g : Gx w) (sl : SL w v l) :
    Calls Tryd.prog 8 #[v] w fun r w' => r = .returned (.bool true) ∧ Below w.heap.size w w' := by
  have ml : maxLen = 2 ^ 63 - 1 := rfl
  obtain ⟨a, c, rfl, h1, h2⟩ := sl.len
  have ha := hide (awake_any w g)
  clear sl g
  by_cases hlong : (16384 : Int) < (l.length : Int)
  · go_enter Tryd.func8, Tryd.ntmps8
    go_wp2
    go_ret
    exact ⟨rfl, Below.refl _ _⟩
  · go_enter Tryd.func8, Tryd.ntmps8
    go_wp2_with (first | (go_at_call 11; refine ha.out.mono ?_; rintro e w1 ⟨rfl, hb1⟩) | (go_at_call 18; refine (feed_nil _ _).mono ?_; rintro e w2 ⟨rfl, hw2⟩; have hw2s := hw2.symm; clear hw2; subst hw2s) | (go_at_call 20; refine (end_nil _).mono ?_; rintro e w2 ⟨rfl, hw2⟩; have hw2s := hw2.symm; clear hw2; subst hw2s))
    go_ret
    exact ⟨rfl, hb1⟩
end Go.Proofs.YtefiklklppfimaaDoor
