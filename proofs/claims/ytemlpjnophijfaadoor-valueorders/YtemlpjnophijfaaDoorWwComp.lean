/- value.compare of all: walked. -/
import Derived.Test.YtemlpjnophijfaaDoorWvTag
import Derived.Test.YtemlpjnophijfaaDoorWvComp
namespace Go.Proofs.YtemlpjnophijfaaDoor
open Go.RowKit
set_option linter.unusedSimpArgs false
set_option linter.unusedVariables false
theorem compare_any : ∀ n, CmpOk n := by
  intro n
  induction n with
  | zero => intro x; exact Empty.elim x
  | succ n ih =>
    intro x y ns ls ns' ls' w hx hy vx vy
    obtain ⟨h, l⟩ := x
    obtain ⟨g, m⟩ := y
    obtain ⟨a1, m1, c1, a2, m2, c2, rfl, rfl⟩ := hx.shape
    obtain ⟨b1, n1, d1, b2, n2, d2, rfl, rfl⟩ := hy.shape
    by_cases hk : h.kind = g.kind
    · have k1 : 1 ≤ h.kind := vx.1.1.1
      have k2 : h.kind ≤ 9 := vx.1.1.2.1
      rcases (show h.kind = 1 ∨ h.kind = 2 ∨ h.kind = 3 ∨ h.kind = 4 ∨ h.kind = 5 ∨ h.kind = 6 ∨ h.kind = 7 ∨ h.kind = 8 ∨ h.kind = 9 by omega) with q | q | q | q | q | q | q | q | q
      · exact comp_1 n ih h g l m a1 a2 b1 b2 m1 m2 n1 n2 c1 c2 d1 d2 w hx hy vx vy q (by omega)
      · exact comp_2 n ih h g l m a1 a2 b1 b2 m1 m2 n1 n2 c1 c2 d1 d2 w hx hy vx vy q (by omega)
      · exact comp_3 n ih h g l m a1 a2 b1 b2 m1 m2 n1 n2 c1 c2 d1 d2 w hx hy vx vy q (by omega)
      · exact comp_4 n ih h g l m a1 a2 b1 b2 m1 m2 n1 n2 c1 c2 d1 d2 w hx hy vx vy q (by omega)
      · exact comp_5 n ih h g l m a1 a2 b1 b2 m1 m2 n1 n2 c1 c2 d1 d2 w hx hy vx vy q (by omega)
      · exact comp_6 n ih h g l m a1 a2 b1 b2 m1 m2 n1 n2 c1 c2 d1 d2 w hx hy vx vy q (by omega)
      · exact comp_7 n ih h g l m a1 a2 b1 b2 m1 m2 n1 n2 c1 c2 d1 d2 w hx hy vx vy q (by omega)
      · exact comp_8 n ih h g l m a1 a2 b1 b2 m1 m2 n1 n2 c1 c2 d1 d2 w hx hy vx vy q (by omega)
      · exact comp_9 n ih h g l m a1 a2 b1 b2 m1 m2 n1 n2 c1 c2 d1 d2 w hx hy vx vy q (by omega)
    · have hne : ¬ cmpI h.kind g.kind = 0 := by
        unfold cmpI
        rcases Int.lt_trichotomy h.kind g.kind with q | q | q
        · rw [if_pos q]; decide
        · exact absurd q hk
        · rw [if_neg (by omega), if_pos q]; decide
      have hV : cmpV (n + 1) ((h, l) : VT (n + 1)) (g, m) = cmpI h.kind g.kind := by
        simp only [cmpV]
        rw [if_neg hne]
      rw [hV]
      exact compare_kinds h g a1 a2 b1 b2 m1 m2 n1 n2 c1 c2 d1 d2 w hk
end Go.Proofs.YtemlpjnophijfaaDoor
