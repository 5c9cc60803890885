/- calamusref03.Valid: walked. -/
import Derived.Test.YtolmbjeinilhlaaDoorZtXiChk
import Derived.Test.YtolmbjeinilhlaaDoorUZtD
namespace Go.Proofs.YtolmbjeinilhlaaDoor
open Go.RowKit
set_option linter.unusedSimpArgs false
set_option linter.unusedVariables false
set_option maxHeartbeats 1000000 in
set_option maxRecDepth 100000 in
theorem rval : RVal := by
  intro s w hs
  have hC := hide (fun W => Ut.rcount_any s W hs)
  go_enter Tryd.func75, Tryd.ntmps75
  go_wp2_with fail
  refine (hC.out _).mono ?_
  rintro x w1 ⟨⟨m, e, hce, rfl⟩, hb1⟩
  have hce := hide hce
  rcases hce.out with ⟨h1, h2, rfl⟩ | ⟨h1, rfl, h3⟩
  · have hk := hide (show okT s = true from h1)
    clear h1 h2
    go_wp2_with fail
    go_ret
    exact ⟨by rw [hk.out]; first | rfl | simp, hb1⟩
  · have hk := hide (show okT s = false from h1)
    have he : ¬ (e : Int) = 0 := by omega
    clear h1 h3
    go_wp2_with fail
    go_ret
    exact ⟨by rw [hk.out]; first | rfl | (simp; omega), hb1⟩
end Go.Proofs.YtolmbjeinilhlaaDoor
