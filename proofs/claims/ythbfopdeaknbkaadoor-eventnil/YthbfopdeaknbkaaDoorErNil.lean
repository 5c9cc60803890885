/- calamuslaw05.EventNil: walked. -/
import Derived.Test.YthbfopdeaknbkaaDoorEqAwake
namespace Go.Proofs.YthbfopdeaknbkaaDoor
open Go.RowKit
set_option linter.unusedSimpArgs false
set_option linter.unusedVariables false
set_option maxHeartbeats 2000000 in
set_option maxRecDepth 100000 in
theorem nil_law (h : Hd) (w : World) (hz : EvZ h) (g : Ut.Gu w) : Calls Tryd.prog 7 #[.agg (evs h)] w fun e w' => e = .returned (.bool true) ∧ Below w.heap.size w w' := by
  have aw := hide (fun W (hb : Below w.heap.size w W) => awake_any W (g.below hb))
  have fd := hide (cfeed_nil h)
  have E0 := hide (EB.new w h)
  simp only [evs] at fd ⊢
  clear g
  go_enter Tryd.func7, Tryd.ntmps7
  go_wp2_with (go_at_call 13; refine Stop.out ?_)
  refine Stop.mk ((aw.out _ (below_al (Below.refl _ _))).mono ?_)
  rintro e w1 ⟨rfl, hb1⟩
  have E1 := hide (E0.out.below hb1)
  obtain ⟨d0, d1, d2, d3, d4, d5, d6⟩ := E1.out.cells
  have B1 := hide (below_then (below_al (Below.refl _ _)) hb1)
  clear hb1 aw E0
  have dn := hide cdone_nil
  have op := hide copen_nil
  go_wp2_with (first
    | (go_at_call 23; refine (fd.out _).mono ?_; rintro e w2 ⟨rfl, hb2⟩; have B2 := hide (below_then B1.out hb2); clear hb2)
    | (go_at_call 20; refine (dn.out _).mono ?_; rintro e w3 ⟨rfl, hw3⟩; subst hw3)
    | (go_at_call 21; refine (op.out _).mono ?_; rintro e w4 ⟨rfl, hw4⟩; subst hw4))
  go_ret
  exact ⟨rfl, B2.out⟩
end Go.Proofs.YthbfopdeaknbkaaDoor
