/- calamuslaw02.FbitsWidens: walked. -/
import Derived.Test.YtjlhningaijneaaDoorFvWiden
import Derived.Test.YtjlhningaijneaaDoorFnAwake
namespace Go.Proofs.YtjlhningaijneaaDoor
open Go.RowKit
set_option linter.unusedSimpArgs false
set_option linter.unusedVariables false
set_option maxHeartbeats 1000000 in
theorem widens_any (h s : Nat) (w : World) (g : Gl w) (hh : h < 65536) (hs : s < 4294967296) :
    Calls Tryd.prog 3 #[.int .u16 h, .int .u32 s] w fun e w' => e = .returned (.bool true) ∧ Below w.heap.size w w' := by
  have g := hide g
  go_enter Tryd.func3, Tryd.ntmps3
  go_wp2_with fail
  refine (awake_any _ g.out).mono ?_
  rintro e w1 ⟨rfl, hB1⟩
  have G1 := hide (g.out.below hB1)
  go_wp2_with fail
  refine (widen16_any h _ G1.out hh).mono ?_
  rintro e w2 ⟨rfl, hB2⟩
  have G2 := hide (G1.out.below hB2)
  go_wp2_with fail
  refine (rwiden16_any h _ hh).mono ?_
  rintro e w3 ⟨rfl, hB3⟩
  have G3 := hide (G2.out.below hB3)
  go_wp2_with fail
  refine (widen32_any s _ G3.out hs).mono ?_
  rintro e w4 ⟨rfl, hB4⟩
  go_wp2_with fail
  refine (rwiden32_any s _ hs).mono ?_
  rintro e w5 ⟨rfl, hB5⟩
  go_wp2
  go_ret
  exact ⟨rfl, below_then (below_then (below_then (below_then hB1 hB2) hB3) hB4) hB5⟩
end Go.Proofs.YtjlhningaijneaaDoor
