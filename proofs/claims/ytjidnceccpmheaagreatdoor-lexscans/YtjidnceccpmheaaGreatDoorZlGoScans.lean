/- calamuslaw13.LexScans: walked. -/
import Derived.Test.YtjidnceccpmheaaGreatDoorZlGnScan
import Derived.Test.YtjidnceccpmheaaGreatDoorZlAsAwake
namespace Go.Proofs.YtjidnceccpmheaaGreatDoor
namespace Lx
open Go.RowKit
set_option linter.unusedSimpArgs false
set_option linter.unusedVariables false
theorem scR_cnt (l : List UInt8) : (scR l).2.2.length ≤ 1024 := by
  unfold scR
  split
  · simp
  · cases h : scnA nok l 0 [] with
    | inl x => obtain ⟨e, q⟩ := x; simp
    | inr r =>
      obtain ⟨x, hx, h1, _⟩ := scn_len nok _ _ _ _ _ (Nat.le_refl _) h (by simp)
      exact h1
set_option maxHeartbeats 2000000 in
set_option maxRecDepth 100000 in
theorem scans_any (hP : ParseOk) (a : ByteArray) (w : World) (g : Gg w) (hza : a.size ≤ maxLen) : Calls Tryz.prog 3 #[.string a] w fun e w' => e = .returned (.bool true) ∧ Below w.heap.size w w' := by
  have ml : maxLen = 2 ^ 63 - 1 := rfl
  by_cases ha : 65536 < a.size
  · have i1 : (65536 : Int) < (a.size : Int) := by omega
    go_enter Tryz.func3, Tryz.ntmps3
    go_wp2
    go_ret
    exact ⟨rfl, Below.refl _ _⟩
  · have i1 : ¬ (65536 : Int) < (a.size : Int) := by omega
    have s1 := hide (scan_any hP a w g (by omega))
    have s2 := hide (fun w => rscan_any a w (by omega))
    have hc := scR_cnt (bl a)
    have AW := hide (fun w g => awake_any hP w g)
    obtain ⟨x, hx⟩ : ∃ x, scR (bl a) = x := ⟨_, rfl⟩
    rw [hx] at s1 s2 hc
    obtain ⟨e1, p1, l1⟩ := x
    simp only at hc
    have g0 := hide g
    have n1 : ((e1 : Int) == (e1 : Int)) = true := by simp
    have n2 : ((p1 : Int) == (p1 : Int)) = true := by simp
    clear hx g hP
    go_enter Tryz.func3, Tryz.ntmps3
    go_wp2_with (first | (go_at_call 5; refine s1.out.mono ?_; rintro e w1 ⟨v1, rfl, ho1, hb1⟩; have B1 := hide hb1; have T1 : Hid (TS w1 v1 l1) := OT.ts (l := l1) ho1 (by omega); clear hb1 ho1) | (go_at_call 6; refine (s2.out _).mono ?_; rintro e w2 ⟨v2, rfl, ho2, hb2⟩; have B2 := hide (below_then B1.out hb2); have T12 := hide (T1.out.below hb2); have T2 : Hid (TS w2 v2 l1) := OT.ts (l := l1) ho2 (by omega); clear hb2 ho2) | (go_at_call 7; refine (AW.out w2 (g0.out.below B2.out g0.out.sz)).mono ?_; rintro e w3 ⟨rfl, hb3⟩; have B3 := hide (below_then B2.out hb3); have EX := hide (exact_any v1 v2 l1 w3 (T12.out.below hb3) (T2.out.below hb3)); clear hb3) | (go_at_call 8; refine EX.out.mono ?_; rintro e w4 ⟨rfl, hb4⟩; have B4 := hide (below_then B3.out hb4); clear hb4))
    go_ret
    exact ⟨rfl, B4.out⟩
end Lx
end Go.Proofs.YtjidnceccpmheaaGreatDoor
