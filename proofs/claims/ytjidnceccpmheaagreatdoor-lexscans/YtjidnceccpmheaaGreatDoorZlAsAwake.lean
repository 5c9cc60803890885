/- calamuslaw13.awake: walked. -/
import Derived.Test.YtjidnceccpmheaaGreatDoorZlArPrint
namespace Go.Proofs.YtjidnceccpmheaaGreatDoor
namespace Lx
open Go.RowKit
set_option linter.unusedSimpArgs false
set_option linter.unusedVariables false
def exA : List Tk := [⟨4, [46], 0⟩, ⟨1, [97], 1⟩, ⟨4, [59], 3⟩, ⟨1, [116, 97, 103], 5⟩, ⟨2, [120, 65], 9⟩]
theorem ev_1 : scR (bl ⟨#[46, 97, 32, 59, 32, 116, 97, 103, 32, 34, 120, 92, 117, 48, 48, 52, 49, 34]⟩) = (0, 0, exA) := by kernel_rfl
theorem ev_2 : scR (bl ⟨#[97, 32, 36]⟩) = (130, 2, []) := by kernel_rfl
theorem ev_3 : scR (bl ⟨#[48, 49]⟩) = (130, 0, []) := by kernel_rfl
theorem ev_4 : prR exA = (0, [46, 32, 97, 32, 59, 32, 116, 97, 103, 32, 34, 120, 65, 34]) := by kernel_rfl
set_option maxHeartbeats 2000000 in
set_option maxRecDepth 100000 in
theorem awake_any (hP : ParseOk) (w : World) (g : Gg w) : Calls Tryz.prog 7 #[] w fun e w' => e = .returned (.bool true) ∧ Below w.heap.size w w' := by
  have g0 := hide g
  have hP0 := hide hP
  have s1 := hide (scan_any hP ⟨#[46, 97, 32, 59, 32, 116, 97, 103, 32, 34, 120, 92, 117, 48, 48, 52, 49, 34]⟩ w g (by decide))
  have s2 := hide (fun w g => scan_any hP ⟨#[97, 32, 36]⟩ w g (by decide))
  have s3 := hide (fun w g => scan_any hP ⟨#[48, 49]⟩ w g (by decide))
  rw [ev_1] at s1
  rw [ev_2] at s2
  rw [ev_3] at s3
  have p4 := hide (fun u w hu g => print_any hP u exA w hu g (by decide))
  rw [ev_4] at p4
  clear g hP
  go_enter Tryz.func7, Tryz.ntmps7
  go_wp2_with fail
  refine s1.out.mono ?_
  rintro e w1 ⟨v1, rfl, ho1, hb1⟩
  have T1 := hide (ho1.ts (by decide))
  have B1 := hide hb1
  obtain ⟨a1, c1, rfl, hc1, hc2⟩ := T1.out.shape
  clear ho1 hb1
  go_wp2_with fail
  refine (s2.out _ (g0.out.below B1.out g0.out.sz)).mono ?_
  rintro e w2 ⟨v2, rfl, ho2, hb2⟩
  have B2 := hide (below_then B1.out hb2)
  have T2 := hide (T1.out.below hb2)
  clear ho2 hb2
  go_wp2_with fail
  refine (s3.out _ (g0.out.below B2.out g0.out.sz)).mono ?_
  rintro e w3 ⟨v3, rfl, ho3, hb3⟩
  have B3 := hide (below_then B2.out hb3)
  have T3 := hide (T2.out.below hb3)
  clear ho3 hb3
  go_wp2_with fail
  refine (p4.out _ _ T3.out (g0.out.below B3.out g0.out.sz)).mono ?_
  rintro e w4 ⟨rfl, hb4⟩
  have B4 := hide (below_then B3.out hb4)
  obtain ⟨b, o, rfl, hb, q1, q2, q3⟩ := (T3.out.below hb4).at 4 (by decide)
  clear hb4
  replace q1 : w4.cell? ⟨b, o + 12, none⟩ = some (.int .i64 2) := q1
  replace q2 : w4.cell? ⟨b, o + 13, none⟩ = some (.string ⟨#[120, 65]⟩) := q2
  replace q3 : w4.cell? ⟨b, o + 14, none⟩ = some (.int .i64 9) := q3
  have hln : exA.length = 5 := rfl
  simp only [prE, hln] at hc1 ⊢
  go_wp2
  go_ret
  exact ⟨congrArg (fun b => Ending.returned (Value.bool b)) (show ((mkB [46, 32, 97, 32, 59, 32, 116, 97, 103, 32, 34, 120, 65, 34]).toList == [46, 32, 97, 32, 59, 32, 116, 97, 103, 32, 34, 120, 65, 34]) = true by kernel_rfl), B4.out⟩
end Lx
end Go.Proofs.YtjidnceccpmheaaGreatDoor
