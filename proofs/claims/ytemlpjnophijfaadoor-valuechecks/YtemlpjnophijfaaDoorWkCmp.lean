/- value.Cmp; the laws' text and list: walked. -/
import Derived.Test.YtemlpjnophijfaaDoorWjComp
namespace Go.Proofs.YtemlpjnophijfaaDoor
open Go.RowKit
set_option linter.unusedSimpArgs false
set_option linter.unusedVariables false
/-- What Cmp answers: an error of the first, of the second, or their order. -/
def cmpE (E1 E2 C : Int) : Int × Int := if E1 = 0 then (if E2 = 0 then (C, 0) else (0, E2)) else (0, E1)
set_option maxHeartbeats 1000000 in
set_option maxRecDepth 100000 in
theorem vcmp_any (n m : Nat) (x : VT n) (y : VT m) (ns ls ns' ls' : Value) (w : World) (hx : Rdy n w x ns ls) (hy : Rdy m w y ns' ls') (g : Ut.Gu w) (E1 E2 C : Int) (h1 : Chk n x E1) (h2 : Chk m y E2)
    (hc : E1 = 0 → E2 = 0 → ∀ W, Below w.heap.size w W → Calls Tryd.prog 29 #[.agg (vals (vhd n x) ns ls), .agg (vals (vhd m y) ns' ls')] W fun e w' => e = .returned (.int .i64 C) ∧ Below W.heap.size W w') :
    Calls Tryd.prog 18 #[.agg (vals (vhd n x) ns ls), .agg (vals (vhd m y) ns' ls')] w fun e w' => e = .returned (.tuple #[.int .i64 (cmpE E1 E2 C).1, .int .i64 (cmpE E1 E2 C).2]) ∧ Below w.heap.size w w' := by
  obtain ⟨a1, m1, c1, a2, m2, c2, rfl, rfl⟩ := hx.rd.shape
  obtain ⟨b1, n1, d1, b2, n2, d2, rfl, rfl⟩ := hy.rd.shape
  obtain ⟨h, hh⟩ : ∃ h, vhd n x = h := ⟨_, rfl⟩
  obtain ⟨g', hg⟩ : ∃ g', vhd m y = g' := ⟨_, rfl⟩
  have hA := hide (fun W (hb : Below w.heap.size w W) => check_any n x _ _ W (hx.below hb) (g.below hb) E1 h1)
  have hB := hide (fun W (hb : Below w.heap.size w W) => check_any m y _ _ W (hy.below hb) (g.below hb) E2 h2)
  have hc := hide hc
  rw [hh] at hA hc ⊢
  rw [hg] at hB hc ⊢
  have hb0 : Hid (∀ o o', Below w.heap.size w ((w.alloc o).alloc o')) := fun o o' => below_al (below_al (Below.refl _ _))
  have hA0 := hide (fun o o' => hA.out _ (hb0.out o o'))
  clear hx hy g h1 h2 hh hg hA
  show Calls _ _ #[.agg #[.int .i64 h.kind, .bool h.flag, .bool h.neg, .string h.dig, .int .i64 h.exp, .int .u64 h.bits, .string h.text, .slice a1 m1 c1, .slice a2 m2 c2], .agg #[.int .i64 g'.kind, .bool g'.flag, .bool g'.neg, .string g'.dig, .int .i64 g'.exp, .int .u64 g'.bits, .string g'.text, .slice b1 n1 d1, .slice b2 n2 d2]] _ _
  by_cases e1 : E1 = 0
  · subst e1
    go_enter Tryd.func18, Tryd.ntmps18
    go_wp2_with fail
    refine (hA0.out _ _).mono ?_
    rintro e w1 ⟨rfl, hb1⟩
    have hw1 := hide (below_then (hb0.out _ _) hb1)
    obtain ⟨p0, q0⟩ := two_cells hb1 0
    obtain ⟨p1, q1⟩ := two_cells hb1 1
    obtain ⟨p2, q2⟩ := two_cells hb1 2
    obtain ⟨p3, q3⟩ := two_cells hb1 3
    obtain ⟨p4, q4⟩ := two_cells hb1 4
    obtain ⟨p5, q5⟩ := two_cells hb1 5
    obtain ⟨p6, q6⟩ := two_cells hb1 6
    obtain ⟨p7, q7⟩ := two_cells hb1 7
    obtain ⟨p8, q8⟩ := two_cells hb1 8
    simp at p0 p1 p2 p3 p4 p5 p6 p7 p8 q0 q1 q2 q3 q4 q5 q6 q7 q8
    have hB1 := hide (hB.out w1 hw1.out)
    by_cases e2 : E2 = 0
    · subst e2
      have hcc := hide (hc.out (by simp) (by simp))
      clear hc
      go_wp2_with fail
      refine hB1.out.mono ?_
      rintro e w2 ⟨rfl, hb2⟩
      have hw2 := hide (below_then hw1.out hb2)
      have hlt : Hid (w.heap.size < w1.heap.size ∧ w.heap.size + 1 < w1.heap.size) := by have := hb1.size; simp at this; exact ⟨by omega, by omega⟩
      have K : ∀ (i j : Nat) (v : Value), i < w1.heap.size → w1.cell? ⟨i, j, none⟩ = some v → w2.cell? ⟨i, j, none⟩ = some v := fun i j v hi hv => (hb2.cell (p := ⟨i, j, none⟩) hi).trans hv
      replace p0 := K _ _ _ hlt.out.1 p0
      replace p1 := K _ _ _ hlt.out.1 p1
      replace p2 := K _ _ _ hlt.out.1 p2
      replace p3 := K _ _ _ hlt.out.1 p3
      replace p4 := K _ _ _ hlt.out.1 p4
      replace p5 := K _ _ _ hlt.out.1 p5
      replace p6 := K _ _ _ hlt.out.1 p6
      replace p7 := K _ _ _ hlt.out.1 p7
      replace p8 := K _ _ _ hlt.out.1 p8
      replace q0 := K _ _ _ hlt.out.2 q0
      replace q1 := K _ _ _ hlt.out.2 q1
      replace q2 := K _ _ _ hlt.out.2 q2
      replace q3 := K _ _ _ hlt.out.2 q3
      replace q4 := K _ _ _ hlt.out.2 q4
      replace q5 := K _ _ _ hlt.out.2 q5
      replace q6 := K _ _ _ hlt.out.2 q6
      replace q7 := K _ _ _ hlt.out.2 q7
      replace q8 := K _ _ _ hlt.out.2 q8
      clear K
      have hc2 := hide (hcc.out w2 hw2.out)
      go_wp2_with (go_at_call 29; refine hc2.out.mono ?_; rintro e w3 ⟨rfl, hb3⟩)
      go_ret2
      exact ⟨rfl, below_then hw2.out hb3⟩
    · have hE := hide (show cmpE 0 E2 C = (0, E2) by unfold cmpE; rw [if_pos rfl, if_neg e2])
      go_wp2_with (go_at_call 10; refine hB1.out.mono ?_; rintro e w2 ⟨rfl, hb2⟩)
      go_ret2
      exact ⟨by rw [hE.out]; rfl, below_then hw1.out hb2⟩
  · have hE := hide (show cmpE E1 E2 C = (0, E1) by unfold cmpE; rw [if_neg e1])
    go_enter Tryd.func18, Tryd.ntmps18
    go_wp2_with (go_at_call 10; refine (hA0.out _ _).mono ?_; rintro e w1 ⟨rfl, hb1⟩)
    go_ret2
    exact ⟨by rw [hE.out]; rfl, below_then (hb0.out _ _) hb1⟩
end Go.Proofs.YtemlpjnophijfaaDoor
