/- calamuslaw01.NumTexts: walked. -/
import Derived.Test.YtjpdlibncmldlaaDoorRlTexts
import Derived.Deep.RegionHeld3
namespace Go.Proofs.YtjpdlibncmldlaaDoor
open Go.RowKit
set_option linter.unusedSimpArgs false
set_option linter.unusedVariables false
theorem keep9 {W w1 : World} (hB : Below W.heap.size W w1) (b c d : Nat) (hb : b < W.heap.size) (hc : c < W.heap.size) (hd : d < W.heap.size) {x0 x1 x2 y0 y1 y2 z0 z1 z2 : Value}
    (h : W.cell? ⟨b, 0, none⟩ = some x0 ∧ W.cell? ⟨b, 1, none⟩ = some x1 ∧ W.cell? ⟨b, 2, none⟩ = some x2 ∧ W.cell? ⟨c, 0, none⟩ = some y0 ∧ W.cell? ⟨c, 1, none⟩ = some y1 ∧ W.cell? ⟨c, 2, none⟩ = some y2 ∧ W.cell? ⟨d, 0, none⟩ = some z0 ∧ W.cell? ⟨d, 1, none⟩ = some z1 ∧ W.cell? ⟨d, 2, none⟩ = some z2) :
    w1.cell? ⟨b, 0, none⟩ = some x0 ∧ w1.cell? ⟨b, 1, none⟩ = some x1 ∧ w1.cell? ⟨b, 2, none⟩ = some x2 ∧ w1.cell? ⟨c, 0, none⟩ = some y0 ∧ w1.cell? ⟨c, 1, none⟩ = some y1 ∧ w1.cell? ⟨c, 2, none⟩ = some y2 ∧ w1.cell? ⟨d, 0, none⟩ = some z0 ∧ w1.cell? ⟨d, 1, none⟩ = some z1 ∧ w1.cell? ⟨d, 2, none⟩ = some z2 := by
  obtain ⟨h1, h2, h3, h4, h5, h6, h7, h8, h9⟩ := h
  have k : ∀ (g o : Nat) (v : Value), g < W.heap.size → W.cell? ⟨g, o, none⟩ = some v → w1.cell? ⟨g, o, none⟩ = some v := fun g o v hg hv => (hB.cell (p := ⟨g, o, none⟩) hg).trans hv
  exact ⟨k _ _ _ hb h1, k _ _ _ hb h2, k _ _ _ hb h3, k _ _ _ hc h4, k _ _ _ hc h5, k _ _ _ hc h6, k _ _ _ hd h7, k _ _ _ hd h8, k _ _ _ hd h9⟩
set_option maxHeartbeats 2000000 in
theorem texts_any (t : ByteArray) (n : Bool) (s : ByteArray) (x : Int) (w : World) (htl : t.size ≤ maxLen) (hs : s.size ≤ maxLen) (hT : Tab w.heap.size w) :
    Calls Tryd.prog 3 #[.string t, .agg #[.bool n, .string s, .int .i64 x]] w fun e w' => e = .returned (.bool true) ∧ Below w.heap.size w w' := by
  have hT := hide hT
  have U0 := hide (uno_new w n s x)
  by_cases hlong : (4096 : Int) < (t.size : Int)
  · go_enter Tryd.func3, Tryd.ntmps3
    go_wp2
    go_ret
    exact ⟨rfl, U0.out.below⟩
  · cases hA : decide (4096 < s.size)
    · have sa : s.size ≤ 4096 := by have := of_decide_eq_false hA; omega
      have st : t.size ≤ 4096 := by omega
      obtain ⟨pb, ps, px, pe, hp⟩ : ∃ pb ps px pe, parseF (bl t) = (pb, ps, px, pe) := ⟨_, _, _, _, rfl⟩
      obtain ⟨q1, q2, hq⟩ : ∃ q1 q2, prF n s x = (q1, q2) := ⟨_, _, rfl⟩
      obtain ⟨ib, hib⟩ : ∃ ib, isN n s x = ib := ⟨_, rfl⟩
      have HP := hide hp
      have HQ := hide hq
      have HI := hide hib
      clear hp hq hib
      go_enter Tryd.func3, Tryd.ntmps3
      go_wp2_with fail
      refine (big_any n s x _ _ hA hs).mono ?_
      rintro e w1 ⟨rfl, hb1⟩
      have U1 := hide (U0.out.then hb1)
      clear hb1
      go_wp2_with fail
      refine (parse_any t _ (by omega)).mono ?_
      rintro e w2 ⟨rfl, hb2⟩
      rw [HP.out]
      have U2 := hide (U1.out.then hb2)
      clear hb2
      simp only [retF]
      have U3 := hide (U2.out.then (below_al (o := .cells #[.bool pb, .string ps, .int .i64 px] 23) (Below.refl w2.heap.size w2)))
      have X3 := hide (box_new w2 pb ps px)
      go_wp2_with fail
      refine (rparse_same t _ (by omega)).mono ?_
      rintro e w4 ⟨rfl, hb4⟩
      rw [HP.out]
      have U4 := hide (U3.out.then hb4)
      have X4 := hide (X3.out.below hb4 X3.out.lt)
      clear hb4
      simp only [retF]
      have U5 := hide (U4.out.then (below_al (o := .cells #[.bool pb, .string ps, .int .i64 px] 23) (Below.refl w4.heap.size w4)))
      have X5 := hide (X4.out.alloc (.cells #[.bool pb, .string ps, .int .i64 px] 23))
      have Y5 := hide (box_new w4 pb ps px)
      obtain ⟨c0, c1, c2, f0, f1, f2⟩ := U5.out.box.cells
      have hT5 : Hid (Tab _ _) := Tab.up (Lib.TabBelow.on hT.out U5.out.below) U5.out.below.size
      go_wp2_with fail
      refine (printA_any n s x _ sa hT5.out).mono ?_
      rintro e w6 ⟨rfl, hb6⟩
      rw [HQ.out]
      have U6 := hide (U5.out.then hb6)
      have X6 := hide (X5.out.below hb6 X5.out.lt)
      have Y6 := hide (Y5.out.below hb6 Y5.out.lt)
      clear hb6 c0 c1 c2 f0 f1 f2
      obtain ⟨c0, c1, c2, f0, f1, f2⟩ := U6.out.box.cells
      go_wp2_with fail
      refine (rprintA_any n s x _ sa).mono ?_
      rintro e w7 ⟨rfl, hb7⟩
      rw [HQ.out]
      have U7 := hide (U6.out.then hb7)
      have X7 := hide (X6.out.below hb7 X6.out.lt)
      have Y7 := hide (Y6.out.below hb7 Y6.out.lt)
      clear hb7 c0 c1 c2 f0 f1 f2
      have l1 := U7.out.box.lt
      have l2 := X7.out.lt
      have l3 := Y7.out.lt
      obtain ⟨m0, m1, m2, _, _, _⟩ := U7.out.box.cells
      obtain ⟨c0, c1, c2, _, _, _⟩ := X7.out.cells
      obtain ⟨k0, k1, k2, _, _, _⟩ := Y7.out.cells
      go_wp2_with fail
      go_region_held3 (fun w' => w'.cell? ⟨w.heap.size, 0, none⟩ = some (.bool n) ∧ w'.cell? ⟨w.heap.size, 1, none⟩ = some (.string s) ∧ w'.cell? ⟨w.heap.size, 2, none⟩ = some (.int .i64 x) ∧ w'.cell? ⟨w2.heap.size, 0, none⟩ = some (.bool pb) ∧ w'.cell? ⟨w2.heap.size, 1, none⟩ = some (.string ps) ∧ w'.cell? ⟨w2.heap.size, 2, none⟩ = some (.int .i64 px) ∧ w'.cell? ⟨w4.heap.size, 0, none⟩ = some (.bool pb) ∧ w'.cell? ⟨w4.heap.size, 1, none⟩ = some (.string ps) ∧ w'.cell? ⟨w4.heap.size, 2, none⟩ = some (.int .i64 px)) (first | (simp [go_sem]; done) | go_keep) (first | (go_at_call 14; refine (awake_any _).mono ?_; rintro e v1 ⟨rfl, hB1⟩; obtain ⟨k1, k2, k3, k4, k5, k6, k7, k8, k9⟩ := keep9 hB1 w.heap.size w2.heap.size w4.heap.size (by first | assumption | (simp <;> omega)) (by first | assumption | (simp <;> omega)) (by first | assumption | (simp <;> omega)) (by first | assumption | simp [go_sem, *]); have l1 := Nat.lt_of_lt_of_le (show w.heap.size < _ by first | assumption | (simp <;> omega)) hB1.size; have l2 := Nat.lt_of_lt_of_le (show w2.heap.size < _ by first | assumption | (simp <;> omega)) hB1.size; have l3 := Nat.lt_of_lt_of_le (show w4.heap.size < _ by first | assumption | (simp <;> omega)) hB1.size) | (go_at_call 15; refine (checkA_any n s x _ hs ib HI.out).mono ?_; rintro e v2 ⟨rfl, hB2⟩; obtain ⟨k1, k2, k3, k4, k5, k6, k7, k8, k9⟩ := keep9 hB2 w.heap.size w2.heap.size w4.heap.size (by first | assumption | (simp <;> omega)) (by first | assumption | (simp <;> omega)) (by first | assumption | (simp <;> omega)) (by first | assumption | simp [go_sem, *]); have l1 := Nat.lt_of_lt_of_le (show w.heap.size < _ by first | assumption | (simp <;> omega)) hB2.size; have l2 := Nat.lt_of_lt_of_le (show w2.heap.size < _ by first | assumption | (simp <;> omega)) hB2.size; have l3 := Nat.lt_of_lt_of_le (show w4.heap.size < _ by first | assumption | (simp <;> omega)) hB2.size) | (go_at_call 16; refine (rcheck_any n s x _ hs ib HI.out).mono ?_; rintro e v3 ⟨rfl, hB3⟩; obtain ⟨k1, k2, k3, k4, k5, k6, k7, k8, k9⟩ := keep9 hB3 w.heap.size w2.heap.size w4.heap.size (by first | assumption | (simp <;> omega)) (by first | assumption | (simp <;> omega)) (by first | assumption | (simp <;> omega)) (by first | assumption | simp [go_sem, *]); have l1 := Nat.lt_of_lt_of_le (show w.heap.size < _ by first | assumption | (simp <;> omega)) hB3.size; have l2 := Nat.lt_of_lt_of_le (show w2.heap.size < _ by first | assumption | (simp <;> omega)) hB3.size; have l3 := Nat.lt_of_lt_of_le (show w4.heap.size < _ by first | assumption | (simp <;> omega)) hB3.size))
      have hF := hide (below_then (below_then (below_then U7.out.below.drew hB1) hB2) hB3)
      go_wp2
      go_ret
      exact ⟨rfl, hF.out⟩
    · go_enter Tryd.func3, Tryd.ntmps3
      go_wp2_with fail
      refine (big_any n s x _ _ hA hs).mono ?_
      rintro e w1 ⟨rfl, hb1⟩
      go_wp2
      go_ret
      exact ⟨rfl, (U0.out.then hb1).below⟩
end Go.Proofs.YtjpdlibncmldlaaDoor
