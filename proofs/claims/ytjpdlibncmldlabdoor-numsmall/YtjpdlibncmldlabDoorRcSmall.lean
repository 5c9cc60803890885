/- calamuslaw01.NumSmall: walked. -/
import Derived.Test.YtjpdlibncmldlabDoorRbWhole
import Derived.Test.YtjpdlibncmldlabDoorNqAdd
import Derived.Test.YtjpdlibncmldlabDoorNdCmp
import Derived.Test.YtjpdlibncmldlabDoorNrSum
import Derived.Deep.RegionHeld3
namespace Go.Proofs.YtjpdlibncmldlabDoor
open Go.RowKit
set_option linter.unusedSimpArgs false
set_option linter.unusedVariables false
theorem sum_is {n m : Bool} {s t : ByteArray} {x y : Int} {a b : Int} {r : Bool × ByteArray × Int × Int} {u : Bool} {v : ByteArray} {z : Int} (e1 : Zv n s x = a * (K400 : Int)) (e2 : Zv m t y = b * (K400 : Int))
    (h : IsSum (Zv n s x + Zv m t y) r) (h3 : isN u v z = true) (e3 : Zv u v z = (a + b) * (K400 : Int)) : r = (u, v, z, 0) := by
  refine isSum_unique h (Or.inl ⟨rfl, h3, ?_⟩)
  show Zv u v z = _
  rw [e3, e1, e2, Int.add_mul]
theorem cmp_is {n m : Bool} {s t : ByteArray} {x y : Int} {a b : Int} (h1 : isN n s x = true) (h2 : isN m t y = true) (e1 : Zv n s x = a * (K400 : Int)) (e2 : Zv m t y = b * (K400 : Int)) : cmpN n s x m t y = cmpI a b := by
  rw [cmpN_spec h1 h2, e1, e2]
  have hk : (0 : Int) < K400 := by have := K400_pos; omega
  unfold cmpI
  have l1 : (a * (K400 : Int) < b * (K400 : Int)) = (a < b) := propext ⟨fun h => Int.lt_of_mul_lt_mul_right h (by omega), fun h => Int.mul_lt_mul_of_pos_right h hk⟩
  have l2 : (b * (K400 : Int) < a * (K400 : Int)) = (b < a) := propext ⟨fun h => Int.lt_of_mul_lt_mul_right h (by omega), fun h => Int.mul_lt_mul_of_pos_right h hk⟩
  simp only [l1, l2]
theorem keep3 {W w1 : World} (hB : Below W.heap.size W w1) (b : Nat) (hb : b < W.heap.size) {x0 x1 x2 : Value} (h : W.cell? ⟨b, 0, none⟩ = some x0 ∧ W.cell? ⟨b, 1, none⟩ = some x1 ∧ W.cell? ⟨b, 2, none⟩ = some x2) :
    w1.cell? ⟨b, 0, none⟩ = some x0 ∧ w1.cell? ⟨b, 1, none⟩ = some x1 ∧ w1.cell? ⟨b, 2, none⟩ = some x2 :=
  ⟨by rw [hB.cell (p := ⟨b, 0, none⟩) hb]; exact h.1, by rw [hB.cell (p := ⟨b, 1, none⟩) hb]; exact h.2.1, by rw [hB.cell (p := ⟨b, 2, none⟩) hb]; exact h.2.2⟩
set_option maxHeartbeats 4000000 in
theorem nsmall_core (hAw : ∀ w, Calls Tryd.prog 7 #[] w fun e w' => e = .returned (.bool true) ∧ Below w.heap.size w w')
    (hAdd : ∀ (na : Bool) (a : ByteArray) (xa : Int) (nb : Bool) (b : ByteArray) (xb : Int) (w : World), isN na a xa = true → isN nb b xb = true → Calls Tryd.prog 5 #[.agg #[.bool na, .string a, .int .i64 xa], .agg #[.bool nb, .string b, .int .i64 xb]] w fun e w' => ∃ r, e = retF r ∧ Hid (IsSum (Zv na a xa + Zv nb b xb) r) ∧ Below w.heap.size w w')
    (a b : Int) (w : World) (ha1 : -2147483648 ≤ a) (ha2 : a ≤ 2147483647) (hb1 : -2147483648 ≤ b) (hb2 : b ≤ 2147483647) :
    Calls Tryd.prog 3 #[.int .i32 a, .int .i32 b] w fun e w' => e = .returned (.bool true) ∧ Below w.heap.size w w' := by
  obtain ⟨u3, v3, z3, i3, j3⟩ := whole_is (a + b) (by omega) (by omega)
  have I3 := hide i3
  have J3 := hide j3
  have hW := hide (fun w => whole_any (a + b) w (by omega) (by omega))
  have hAw := hide hAw
  have hAdd := hide hAdd
  obtain ⟨c, hc⟩ : ∃ c, cmpI a b = c := ⟨_, rfl⟩
  have HC := hide hc
  have hcc : (a < b ∧ c = -1) ∨ (b < a ∧ c = 1) ∨ (a = b ∧ c = 0) := by
    rw [← hc]
    unfold cmpI
    by_cases q : a < b
    · left; rw [if_pos q]; exact ⟨q, rfl⟩
    · right
      by_cases q' : b < a
      · left; rw [if_neg q, if_pos q']; exact ⟨q', rfl⟩
      · right; rw [if_neg q, if_neg q']; exact ⟨by omega, rfl⟩
  clear hc i3 j3
  have uab : IntKind.i64.wrap (a + b) = a + b := by rw [IntKind.wrap_i64]; omega
  have ua : IntKind.i64.wrap a = a := by rw [IntKind.wrap_i64]; omega
  have ub : IntKind.i64.wrap b = b := by rw [IntKind.wrap_i64]; omega
  go_enter Tryd.func3, Tryd.ntmps3
  go_wp2_with fail
  go_fit (whole_any a _ (by omega) (by omega))
  rintro e w1 ⟨⟨n1, s1, x1, rfl, i1, j1⟩, hb1⟩
  have X1 := hide (box_new w1 n1 s1 x1)
  go_wp2_with fail
  go_fit (whole_any b _ (by omega) (by omega))
  rintro e w2 ⟨⟨n2, s2, x2, rfl, i2, j2⟩, hb2⟩
  have X2 := hide ((X1.out.below hb2 X1.out.lt).alloc (.cells #[.bool n2, .string s2, .int .i64 x2] 23))
  have Y2 := hide (box_new w2 n2 s2 x2)
  have l1 : s1.size ≤ 4096 := by have := (isN_all i1.out).2.2.1; omega
  have l2 : s2.size ≤ 4096 := by have := (isN_all i2.out).2.2.1; omega
  have B2 := hide (below_al (o := .cells #[.bool n2, .string s2, .int .i64 x2] 23) (below_then hb1 (below_alloc hb2)))
  clear hb1 hb2
  obtain ⟨c0, c1, c2, f0, f1, f2⟩ := X2.out.cells
  obtain ⟨q0, q1, q2, k0, k1, k2⟩ := Y2.out.cells
  go_wp2_with fail
  go_fit (hAdd.out n1 s1 x1 n2 s2 x2 _ i1.out i2.out)
  rintro e w3 ⟨⟨rn, rs, rx, re⟩, rfl, hr, hb3⟩
  have he := sum_is j1.out j2.out hr.out I3.out J3.out
  simp only [Prod.mk.injEq] at he
  obtain ⟨rfl, rfl, rfl, rfl⟩ := he
  have X3 := hide ((X2.out.below hb3 X2.out.lt).alloc (.cells #[.bool rn, .string rs, .int .i64 rx] 23))
  have Y3 := hide ((Y2.out.below hb3 Y2.out.lt).alloc (.cells #[.bool rn, .string rs, .int .i64 rx] 23))
  have Z3 := hide (box_new w3 rn rs rx)
  have B3 := hide (below_al (o := .cells #[.bool rn, .string rs, .int .i64 rx] 23) (below_then B2.out hb3))
  clear hb3 c0 c1 c2 f0 f1 f2 q0 q1 q2 k0 k1 k2
  obtain ⟨c0, c1, c2, f0, f1, f2⟩ := X3.out.cells
  obtain ⟨q0, q1, q2, k0, k1, k2⟩ := Y3.out.cells
  simp only [retF]
  go_wp2_with fail
  go_fit (cmp_any n1 s1 x1 n2 s2 x2 _ l1 l2 i1.out i2.out)
  rw [cmp_is i1.out i2.out j1.out j2.out, HC.out]
  rintro e w4 ⟨rfl, hb4⟩
  have Z4 := hide (Z3.out.below hb4 Z3.out.lt)
  have B4 := hide (below_then B3.out hb4)
  clear hb4 c0 c1 c2 f0 f1 f2 q0 q1 q2 k0 k1 k2
  obtain ⟨c0, c1, c2, f0, f1, f2⟩ := Z4.out.cells
  have hlt4 := Z4.out.lt
  rcases hcc with ⟨hlt, rfl⟩ | ⟨hlt, rfl⟩ | ⟨hlt, rfl⟩
  · have ng : ¬ b < a := by omega
    go_wp2
    go_region_held3 (fun w' => w'.cell? ⟨w3.heap.size, 0, none⟩ = some (.bool rn) ∧ w'.cell? ⟨w3.heap.size, 1, none⟩ = some (.string rs) ∧ w'.cell? ⟨w3.heap.size, 2, none⟩ = some (.int .i64 rx)) (first | (simp [go_sem, *]; done) | go_keep) (first | (go_at_call 7; go_fit (hAw.out _); rintro e w5 ⟨rfl, hb5⟩; obtain ⟨p0, p1, p2⟩ := keep3 hb5 w3.heap.size (by first | assumption | (simp <;> omega)) (by first | assumption | (simp [*]; done)); have hlt5 := Nat.lt_of_lt_of_le hlt4 hb5.size) | (go_at_call 4; go_fit (hW.out _); rintro e w6 ⟨⟨n3, s3, x3, rfl, i3, j3⟩, hb6⟩; obtain ⟨p0, p1, p2⟩ := keep3 hb6 w3.heap.size (by first | assumption | (simp <;> omega)) (by first | assumption | (simp [*]; done)); obtain ⟨rfl, rfl, rfl⟩ := num_inj I3.out i3.out (J3.out.trans j3.out.symm)))
    all_goals
      go_wp2
      go_ret
      refine ⟨rfl, ?_⟩
      repeat (first | exact B4.out | refine Below.drew ?_ | refine below_then ?_ hb6 | refine below_then ?_ hb5)
  · have ng : ¬ a < b := by omega
    go_wp2
    go_region_held3 (fun w' => w'.cell? ⟨w3.heap.size, 0, none⟩ = some (.bool rn) ∧ w'.cell? ⟨w3.heap.size, 1, none⟩ = some (.string rs) ∧ w'.cell? ⟨w3.heap.size, 2, none⟩ = some (.int .i64 rx)) (first | (simp [go_sem, *]; done) | go_keep) (first | (go_at_call 7; go_fit (hAw.out _); rintro e w5 ⟨rfl, hb5⟩; obtain ⟨p0, p1, p2⟩ := keep3 hb5 w3.heap.size (by first | assumption | (simp <;> omega)) (by first | assumption | (simp [*]; done)); have hlt5 := Nat.lt_of_lt_of_le hlt4 hb5.size) | (go_at_call 4; go_fit (hW.out _); rintro e w6 ⟨⟨n3, s3, x3, rfl, i3, j3⟩, hb6⟩; obtain ⟨p0, p1, p2⟩ := keep3 hb6 w3.heap.size (by first | assumption | (simp <;> omega)) (by first | assumption | (simp [*]; done)); obtain ⟨rfl, rfl, rfl⟩ := num_inj I3.out i3.out (J3.out.trans j3.out.symm)))
    all_goals
      go_wp2
      go_ret
      refine ⟨rfl, ?_⟩
      repeat (first | exact B4.out | refine Below.drew ?_ | refine below_then ?_ hb6 | refine below_then ?_ hb5)
  · have ng : ¬ a < b := by omega
    have ng2 : ¬ b < a := by omega
    clear hlt
    go_wp2
    go_region_held3 (fun w' => w'.cell? ⟨w3.heap.size, 0, none⟩ = some (.bool rn) ∧ w'.cell? ⟨w3.heap.size, 1, none⟩ = some (.string rs) ∧ w'.cell? ⟨w3.heap.size, 2, none⟩ = some (.int .i64 rx)) (first | (simp [go_sem, *]; done) | go_keep) (first | (go_at_call 7; go_fit (hAw.out _); rintro e w5 ⟨rfl, hb5⟩; obtain ⟨p0, p1, p2⟩ := keep3 hb5 w3.heap.size (by first | assumption | (simp <;> omega)) (by first | assumption | (simp [*]; done)); have hlt5 := Nat.lt_of_lt_of_le hlt4 hb5.size) | (go_at_call 4; go_fit (hW.out _); rintro e w6 ⟨⟨n3, s3, x3, rfl, i3, j3⟩, hb6⟩; obtain ⟨p0, p1, p2⟩ := keep3 hb6 w3.heap.size (by first | assumption | (simp <;> omega)) (by first | assumption | (simp [*]; done)); obtain ⟨rfl, rfl, rfl⟩ := num_inj I3.out i3.out (J3.out.trans j3.out.symm)))
    all_goals
      go_wp2
      go_ret
      refine ⟨rfl, ?_⟩
      repeat (first | exact B4.out | refine Below.drew ?_ | refine below_then ?_ hb6 | refine below_then ?_ hb5)
end Go.Proofs.YtjpdlibncmldlabDoor
