/- calamuslaw02.awake: walked. -/
import Derived.Test.YtjlhningaijneaaDoorFmHex
namespace Go.Proofs.YtjlhningaijneaaDoor
open Go.RowKit
set_option linter.unusedSimpArgs false
set_option linter.unusedVariables false
theorem wh1 : widh 15360 = 4607182418800017408 := by decide +kernel
theorem wh2 : widh 32257 = 9221124635087601664 := by decide +kernel
theorem ws1 : wids 2139095041 = 9218868437764276224 := by decide +kernel
theorem nr1 : nrw 4607182419336888320 = (32, 1065353217) := by decide +kernel
theorem cl1 : cls 1 = 2 := by decide +kernel
theorem hx1 : hexS 31 = ⟨#[48, 48, 48, 48, 48, 48, 48, 48, 48, 48, 48, 48, 48, 48, 49, 102]⟩ := by decide +kernel
theorem uh1 : unh ⟨#[48, 48, 48, 48, 48, 48, 48, 48, 48, 48, 48, 48, 48, 48, 49, 70]⟩ = (0, 20) := by decide +kernel
set_option maxHeartbeats 1000000 in
theorem awake_any (w : World) (g : Gl w) :
    Calls Tryd.prog 9 #[] w fun e w' => e = .returned (.bool true) ∧ Below w.heap.size w w' := by
  have g := hide g
  have c1 := wh1
  go_enter Tryd.func9, Tryd.ntmps9
  go_wp2_with fail
  refine (narrow_any 4607182419336888320 _ g.out (by omega)).mono ?_
  rintro e w1 ⟨rfl, hB1⟩
  rw [nr1]
  go_wp2_with fail
  refine (unhex_any _ _ (by decide)).mono ?_
  rintro e w2 ⟨rfl, rfl⟩
  rw [uh1]
  have G1 := hide (g.out.below hB1)
  go_wp2_with fail
  refine (widen16_any 15360 _ G1.out (by omega)).mono ?_
  rintro e w2 ⟨rfl, hB2⟩
  rw [wh1]
  have G2 := hide (G1.out.below hB2)
  go_wp2_with fail
  refine (widen16_any 32257 _ G2.out (by omega)).mono ?_
  rintro e w3 ⟨rfl, hB3⟩
  rw [wh2]
  have G3 := hide (G2.out.below hB3)
  go_wp2_with fail
  refine (widen32_any 2139095041 _ G3.out (by omega)).mono ?_
  rintro e w4 ⟨rfl, hB4⟩
  rw [ws1]
  have G4 := hide (G3.out.below hB4)
  go_wp2_with fail
  refine (class_any 1 _ G4.out (by omega)).mono ?_
  rintro e w5 ⟨rfl, hB5⟩
  rw [cl1]
  go_wp2_with fail
  refine (hex_any 31 _ (by omega)).mono ?_
  rintro e w6 ⟨rfl, hB6⟩
  rw [hx1]
  go_wp2
  go_ret
  exact ⟨rfl, below_then (below_then (below_then (below_then (below_then hB1 hB2) hB3) hB4) hB5) hB6⟩
end Go.Proofs.YtjlhningaijneaaDoor
