/- calamusref02's tries, Narrow, Class: walked. -/
import Derived.Test.YtjlhningaijneaaDoorFvWiden
namespace Go.Proofs.YtjlhningaijneaaDoor
open Go.RowKit
set_option linter.unusedSimpArgs false
set_option linter.unusedVariables false
set_option maxRecDepth 100000 in
set_option maxHeartbeats 2000000 in
theorem tries_s0 (x s E F : Nat) (n : Bool) (w : World) (hn : s = n.toNat) (hE : E < 2048) (hF : F < 4503599627370496) (hx : x = s * 9223372036854775808 + E * 4503599627370496 + F) (r : Nat) (hr : r = s * 2147483648) (hc : clsF 2047 E F = 1) : Calls Tryd.prog 27 #[.int .u64 x, .int .i64 8, .int .i64 23, .int .i64 127] w fun e w' => e = .returned (.int .u64 (r : Nat)) ∧ Below w.heap.size w w' := by
  have hOf : Hid (∀ w, Calls Tryd.prog 24 #[.int .u64 x, .int .i64 11, .int .i64 52] w fun e w' => e = .returned (.agg #[.bool n, .int .i64 E, .int .u64 F, .int .i64 11, .int .i64 52]) ∧ Below w.heap.size w w') := fun w => of_d x s E F n w hn hE hF hx
  have hCl : Hid (∀ w, Calls Tryd.prog 30 #[.agg #[.bool n, .int .i64 E, .int .u64 F, .int .i64 11, .int .i64 52]] w fun e w' => e = .returned (.int .i64 ((1 : Nat) : Int)) ∧ Below w.heap.size w w') := fun w => by rw [← hc]; exact fclass_d E F n w hE
  cases n
  · have hs0 := hn
    simp only [Bool.toNat_false, Bool.toNat_true] at hs0
    subst hs0
    have hr' := hide (show ((_ : Nat) : Int) = (r : Int) from congrArg Nat.cast hr.symm)
    clear hr hn hx hc
    go_enter Tryd.func27, Tryd.ntmps27
    go_wp2_with fail
    go_fit (hOf.out _)
    rintro e w1 ⟨rfl, hB1⟩
    go_wp2_with (first | (go_at_call 37; go_fit (power_29 _); rintro e w' ⟨rfl, rfl⟩) | (go_at_call 37; go_fit (power_31 _); rintro e w' ⟨rfl, rfl⟩))
    go_fit (hCl.out _)
    rintro e w2 ⟨rfl, hB2⟩
    have K2 := keep5 hB2 w1.heap.size (by simp) (.bool false) (.int .i64 E) (.int .u64 F) (.int .i64 11) (.int .i64 52) (by simp [go_sem]) (by simp [go_sem]) (by simp [go_sem]) (by simp [go_sem]) (by simp [go_sem])
    obtain ⟨k0, k1, k2, k3, k4⟩ := K2
    have l2 : w1.heap.size < w2.heap.size := by have := hB2.size; simp at this; omega
    go_wp2
    go_ret
    exact ⟨ret_int (by rw [← hr'.out]; rfl), below_then hB1 (below_alloc hB2)⟩
  · have hs0 := hn
    simp only [Bool.toNat_false, Bool.toNat_true] at hs0
    subst hs0
    have hr' := hide (show ((_ : Nat) : Int) = (r : Int) from congrArg Nat.cast hr.symm)
    clear hr hn hx hc
    go_enter Tryd.func27, Tryd.ntmps27
    go_wp2_with fail
    go_fit (hOf.out _)
    rintro e w1 ⟨rfl, hB1⟩
    go_wp2_with (first | (go_at_call 37; go_fit (power_29 _); rintro e w' ⟨rfl, rfl⟩) | (go_at_call 37; go_fit (power_31 _); rintro e w' ⟨rfl, rfl⟩))
    go_fit (hCl.out _)
    rintro e w2 ⟨rfl, hB2⟩
    have K2 := keep5 hB2 w1.heap.size (by simp) (.bool true) (.int .i64 E) (.int .u64 F) (.int .i64 11) (.int .i64 52) (by simp [go_sem]) (by simp [go_sem]) (by simp [go_sem]) (by simp [go_sem]) (by simp [go_sem])
    obtain ⟨k0, k1, k2, k3, k4⟩ := K2
    have l2 : w1.heap.size < w2.heap.size := by have := hB2.size; simp at this; omega
    go_wp2
    go_ret
    exact ⟨ret_int (by rw [← hr'.out]; rfl), below_then hB1 (below_alloc hB2)⟩
set_option maxRecDepth 100000 in
set_option maxHeartbeats 2000000 in
theorem tries_ssub (x s E F : Nat) (n : Bool) (w : World) (hn : s = n.toNat) (hE : E < 2048) (hF : F < 4503599627370496) (hx : x = s * 9223372036854775808 + E * 4503599627370496 + F) (r : Nat) (hr : r = s * 2147483648) (hc : clsF 2047 E F = 2) : Calls Tryd.prog 27 #[.int .u64 x, .int .i64 8, .int .i64 23, .int .i64 127] w fun e w' => e = .returned (.int .u64 (r : Nat)) ∧ Below w.heap.size w w' := by
  have hOf : Hid (∀ w, Calls Tryd.prog 24 #[.int .u64 x, .int .i64 11, .int .i64 52] w fun e w' => e = .returned (.agg #[.bool n, .int .i64 E, .int .u64 F, .int .i64 11, .int .i64 52]) ∧ Below w.heap.size w w') := fun w => of_d x s E F n w hn hE hF hx
  have hCl : Hid (∀ w, Calls Tryd.prog 30 #[.agg #[.bool n, .int .i64 E, .int .u64 F, .int .i64 11, .int .i64 52]] w fun e w' => e = .returned (.int .i64 ((2 : Nat) : Int)) ∧ Below w.heap.size w w') := fun w => by rw [← hc]; exact fclass_d E F n w hE
  cases n
  · have hs0 := hn
    simp only [Bool.toNat_false, Bool.toNat_true] at hs0
    subst hs0
    have hr' := hide (show ((_ : Nat) : Int) = (r : Int) from congrArg Nat.cast hr.symm)
    clear hr hn hx hc
    go_enter Tryd.func27, Tryd.ntmps27
    go_wp2_with fail
    go_fit (hOf.out _)
    rintro e w1 ⟨rfl, hB1⟩
    go_wp2_with (first | (go_at_call 37; go_fit (power_29 _); rintro e w' ⟨rfl, rfl⟩) | (go_at_call 37; go_fit (power_31 _); rintro e w' ⟨rfl, rfl⟩))
    go_fit (hCl.out _)
    rintro e w2 ⟨rfl, hB2⟩
    have K2 := keep5 hB2 w1.heap.size (by simp) (.bool false) (.int .i64 E) (.int .u64 F) (.int .i64 11) (.int .i64 52) (by simp [go_sem]) (by simp [go_sem]) (by simp [go_sem]) (by simp [go_sem]) (by simp [go_sem])
    obtain ⟨k0, k1, k2, k3, k4⟩ := K2
    have l2 : w1.heap.size < w2.heap.size := by have := hB2.size; simp at this; omega
    go_wp2_with (first | (go_at_call 37; go_fit (power_29 _); rintro e w' ⟨rfl, rfl⟩) | (go_at_call 37; go_fit (power_31 _); rintro e w' ⟨rfl, rfl⟩))
    go_fit (hCl.out _)
    rintro e w3 ⟨rfl, hB3⟩
    have K3 := keep5 hB3 w1.heap.size l2 (.bool false) (.int .i64 E) (.int .u64 F) (.int .i64 11) (.int .i64 52) k0 k1 k2 k3 k4
    clear k0 k1 k2 k3 k4
    obtain ⟨k0, k1, k2, k3, k4⟩ := K3
    have l3 : w1.heap.size < w3.heap.size := Nat.lt_of_lt_of_le l2 hB3.size
    go_wp2_with (first | (go_at_call 37; go_fit (power_29 _); rintro e w' ⟨rfl, rfl⟩) | (go_at_call 37; go_fit (power_31 _); rintro e w' ⟨rfl, rfl⟩))
    go_fit (hCl.out _)
    rintro e w4 ⟨rfl, hB4⟩
    have K4 := keep5 hB4 w1.heap.size l3 (.bool false) (.int .i64 E) (.int .u64 F) (.int .i64 11) (.int .i64 52) k0 k1 k2 k3 k4
    clear k0 k1 k2 k3 k4
    obtain ⟨k0, k1, k2, k3, k4⟩ := K4
    have l4 : w1.heap.size < w4.heap.size := Nat.lt_of_lt_of_le l3 hB4.size
    go_wp2
    go_ret
    exact ⟨ret_int (by rw [← hr'.out]; rfl), below_then (below_then (below_then hB1 (below_alloc hB2)) hB3) hB4⟩
  · have hs0 := hn
    simp only [Bool.toNat_false, Bool.toNat_true] at hs0
    subst hs0
    have hr' := hide (show ((_ : Nat) : Int) = (r : Int) from congrArg Nat.cast hr.symm)
    clear hr hn hx hc
    go_enter Tryd.func27, Tryd.ntmps27
    go_wp2_with fail
    go_fit (hOf.out _)
    rintro e w1 ⟨rfl, hB1⟩
    go_wp2_with (first | (go_at_call 37; go_fit (power_29 _); rintro e w' ⟨rfl, rfl⟩) | (go_at_call 37; go_fit (power_31 _); rintro e w' ⟨rfl, rfl⟩))
    go_fit (hCl.out _)
    rintro e w2 ⟨rfl, hB2⟩
    have K2 := keep5 hB2 w1.heap.size (by simp) (.bool true) (.int .i64 E) (.int .u64 F) (.int .i64 11) (.int .i64 52) (by simp [go_sem]) (by simp [go_sem]) (by simp [go_sem]) (by simp [go_sem]) (by simp [go_sem])
    obtain ⟨k0, k1, k2, k3, k4⟩ := K2
    have l2 : w1.heap.size < w2.heap.size := by have := hB2.size; simp at this; omega
    go_wp2_with (first | (go_at_call 37; go_fit (power_29 _); rintro e w' ⟨rfl, rfl⟩) | (go_at_call 37; go_fit (power_31 _); rintro e w' ⟨rfl, rfl⟩))
    go_fit (hCl.out _)
    rintro e w3 ⟨rfl, hB3⟩
    have K3 := keep5 hB3 w1.heap.size l2 (.bool true) (.int .i64 E) (.int .u64 F) (.int .i64 11) (.int .i64 52) k0 k1 k2 k3 k4
    clear k0 k1 k2 k3 k4
    obtain ⟨k0, k1, k2, k3, k4⟩ := K3
    have l3 : w1.heap.size < w3.heap.size := Nat.lt_of_lt_of_le l2 hB3.size
    go_wp2_with (first | (go_at_call 37; go_fit (power_29 _); rintro e w' ⟨rfl, rfl⟩) | (go_at_call 37; go_fit (power_31 _); rintro e w' ⟨rfl, rfl⟩))
    go_fit (hCl.out _)
    rintro e w4 ⟨rfl, hB4⟩
    have K4 := keep5 hB4 w1.heap.size l3 (.bool true) (.int .i64 E) (.int .u64 F) (.int .i64 11) (.int .i64 52) k0 k1 k2 k3 k4
    clear k0 k1 k2 k3 k4
    obtain ⟨k0, k1, k2, k3, k4⟩ := K4
    have l4 : w1.heap.size < w4.heap.size := Nat.lt_of_lt_of_le l3 hB4.size
    go_wp2
    go_ret
    exact ⟨ret_int (by rw [← hr'.out]; rfl), below_then (below_then (below_then hB1 (below_alloc hB2)) hB3) hB4⟩
set_option maxRecDepth 100000 in
set_option maxHeartbeats 2000000 in
theorem tries_sbig (x s E F : Nat) (n : Bool) (w : World) (hn : s = n.toNat) (hE : E < 2048) (hF : F < 4503599627370496) (hx : x = s * 9223372036854775808 + E * 4503599627370496 + F) (r : Nat) (hr : r = s * 2147483648) (hc : clsF 2047 E F = 3) (hb : 1151 ≤ E) : Calls Tryd.prog 27 #[.int .u64 x, .int .i64 8, .int .i64 23, .int .i64 127] w fun e w' => e = .returned (.int .u64 (r : Nat)) ∧ Below w.heap.size w w' := by
  have hOf : Hid (∀ w, Calls Tryd.prog 24 #[.int .u64 x, .int .i64 11, .int .i64 52] w fun e w' => e = .returned (.agg #[.bool n, .int .i64 E, .int .u64 F, .int .i64 11, .int .i64 52]) ∧ Below w.heap.size w w') := fun w => of_d x s E F n w hn hE hF hx
  have hCl : Hid (∀ w, Calls Tryd.prog 30 #[.agg #[.bool n, .int .i64 E, .int .u64 F, .int .i64 11, .int .i64 52]] w fun e w' => e = .returned (.int .i64 ((3 : Nat) : Int)) ∧ Below w.heap.size w w') := fun w => by rw [← hc]; exact fclass_d E F n w hE
  have hb' : (255 : Int) ≤ (E : Int) - 1023 + 127 := by omega
  cases n
  · have hs0 := hn
    simp only [Bool.toNat_false, Bool.toNat_true] at hs0
    subst hs0
    have hr' := hide (show ((_ : Nat) : Int) = (r : Int) from congrArg Nat.cast hr.symm)
    clear hr hn hx hc
    go_enter Tryd.func27, Tryd.ntmps27
    go_wp2_with fail
    go_fit (hOf.out _)
    rintro e w1 ⟨rfl, hB1⟩
    go_wp2_with (first | (go_at_call 37; go_fit (power_29 _); rintro e w' ⟨rfl, rfl⟩) | (go_at_call 37; go_fit (power_31 _); rintro e w' ⟨rfl, rfl⟩))
    go_fit (hCl.out _)
    rintro e w2 ⟨rfl, hB2⟩
    have K2 := keep5 hB2 w1.heap.size (by simp) (.bool false) (.int .i64 E) (.int .u64 F) (.int .i64 11) (.int .i64 52) (by simp [go_sem]) (by simp [go_sem]) (by simp [go_sem]) (by simp [go_sem]) (by simp [go_sem])
    obtain ⟨k0, k1, k2, k3, k4⟩ := K2
    have l2 : w1.heap.size < w2.heap.size := by have := hB2.size; simp at this; omega
    go_wp2_with (first | (go_at_call 37; go_fit (power_29 _); rintro e w' ⟨rfl, rfl⟩) | (go_at_call 37; go_fit (power_31 _); rintro e w' ⟨rfl, rfl⟩))
    go_fit (hCl.out _)
    rintro e w3 ⟨rfl, hB3⟩
    have K3 := keep5 hB3 w1.heap.size l2 (.bool false) (.int .i64 E) (.int .u64 F) (.int .i64 11) (.int .i64 52) k0 k1 k2 k3 k4
    clear k0 k1 k2 k3 k4
    obtain ⟨k0, k1, k2, k3, k4⟩ := K3
    have l3 : w1.heap.size < w3.heap.size := Nat.lt_of_lt_of_le l2 hB3.size
    go_wp2_with (first | (go_at_call 37; go_fit (power_29 _); rintro e w' ⟨rfl, rfl⟩) | (go_at_call 37; go_fit (power_31 _); rintro e w' ⟨rfl, rfl⟩))
    go_fit (hCl.out _)
    rintro e w4 ⟨rfl, hB4⟩
    have K4 := keep5 hB4 w1.heap.size l3 (.bool false) (.int .i64 E) (.int .u64 F) (.int .i64 11) (.int .i64 52) k0 k1 k2 k3 k4
    clear k0 k1 k2 k3 k4
    obtain ⟨k0, k1, k2, k3, k4⟩ := K4
    have l4 : w1.heap.size < w4.heap.size := Nat.lt_of_lt_of_le l3 hB4.size
    go_wp2_with (first | (go_at_call 37; go_fit (power_8 _); rintro e w' ⟨rfl, rfl⟩))
    go_ret
    exact ⟨ret_int (by rw [← hr'.out]; rfl), below_then (below_then (below_then hB1 (below_alloc hB2)) hB3) hB4⟩
  · have hs0 := hn
    simp only [Bool.toNat_false, Bool.toNat_true] at hs0
    subst hs0
    have hr' := hide (show ((_ : Nat) : Int) = (r : Int) from congrArg Nat.cast hr.symm)
    clear hr hn hx hc
    go_enter Tryd.func27, Tryd.ntmps27
    go_wp2_with fail
    go_fit (hOf.out _)
    rintro e w1 ⟨rfl, hB1⟩
    go_wp2_with (first | (go_at_call 37; go_fit (power_29 _); rintro e w' ⟨rfl, rfl⟩) | (go_at_call 37; go_fit (power_31 _); rintro e w' ⟨rfl, rfl⟩))
    go_fit (hCl.out _)
    rintro e w2 ⟨rfl, hB2⟩
    have K2 := keep5 hB2 w1.heap.size (by simp) (.bool true) (.int .i64 E) (.int .u64 F) (.int .i64 11) (.int .i64 52) (by simp [go_sem]) (by simp [go_sem]) (by simp [go_sem]) (by simp [go_sem]) (by simp [go_sem])
    obtain ⟨k0, k1, k2, k3, k4⟩ := K2
    have l2 : w1.heap.size < w2.heap.size := by have := hB2.size; simp at this; omega
    go_wp2_with (first | (go_at_call 37; go_fit (power_29 _); rintro e w' ⟨rfl, rfl⟩) | (go_at_call 37; go_fit (power_31 _); rintro e w' ⟨rfl, rfl⟩))
    go_fit (hCl.out _)
    rintro e w3 ⟨rfl, hB3⟩
    have K3 := keep5 hB3 w1.heap.size l2 (.bool true) (.int .i64 E) (.int .u64 F) (.int .i64 11) (.int .i64 52) k0 k1 k2 k3 k4
    clear k0 k1 k2 k3 k4
    obtain ⟨k0, k1, k2, k3, k4⟩ := K3
    have l3 : w1.heap.size < w3.heap.size := Nat.lt_of_lt_of_le l2 hB3.size
    go_wp2_with (first | (go_at_call 37; go_fit (power_29 _); rintro e w' ⟨rfl, rfl⟩) | (go_at_call 37; go_fit (power_31 _); rintro e w' ⟨rfl, rfl⟩))
    go_fit (hCl.out _)
    rintro e w4 ⟨rfl, hB4⟩
    have K4 := keep5 hB4 w1.heap.size l3 (.bool true) (.int .i64 E) (.int .u64 F) (.int .i64 11) (.int .i64 52) k0 k1 k2 k3 k4
    clear k0 k1 k2 k3 k4
    obtain ⟨k0, k1, k2, k3, k4⟩ := K4
    have l4 : w1.heap.size < w4.heap.size := Nat.lt_of_lt_of_le l3 hB4.size
    go_wp2_with (first | (go_at_call 37; go_fit (power_8 _); rintro e w' ⟨rfl, rfl⟩))
    go_ret
    exact ⟨ret_int (by rw [← hr'.out]; rfl), below_then (below_then (below_then hB1 (below_alloc hB2)) hB3) hB4⟩
set_option maxRecDepth 100000 in
set_option maxHeartbeats 2000000 in
theorem tries_sinf (x s E F : Nat) (n : Bool) (w : World) (hn : s = n.toNat) (hE : E < 2048) (hF : F < 4503599627370496) (hx : x = s * 9223372036854775808 + E * 4503599627370496 + F) (r : Nat) (c : Nat) (hr : r = s * 2147483648 + 255 * 8388608 + F / 536870912) (hc : clsF 2047 E F = c) (hc' : c = 4 ∨ c = 5) : Calls Tryd.prog 27 #[.int .u64 x, .int .i64 8, .int .i64 23, .int .i64 127] w fun e w' => e = .returned (.int .u64 (r : Nat)) ∧ Below w.heap.size w w' := by
  have hOf : Hid (∀ w, Calls Tryd.prog 24 #[.int .u64 x, .int .i64 11, .int .i64 52] w fun e w' => e = .returned (.agg #[.bool n, .int .i64 E, .int .u64 F, .int .i64 11, .int .i64 52]) ∧ Below w.heap.size w w') := fun w => of_d x s E F n w hn hE hF hx
  have hCl : Hid (∀ w, Calls Tryd.prog 30 #[.agg #[.bool n, .int .i64 E, .int .u64 F, .int .i64 11, .int .i64 52]] w fun e w' => e = .returned (.int .i64 ((c : Nat) : Int)) ∧ Below w.heap.size w w') := fun w => by rw [← hc]; exact fclass_d E F n w hE
  obtain ⟨G, hG⟩ : ∃ G, F / 536870912 = G := ⟨_, rfl⟩
  have hGl : G < 8388608 := by omega
  have v6 : IntKind.u64.wrap (G : Int) = (G : Int) := by rw [IntKind.wrap_u64]; omega
  have t1 : (F : Int).tdiv 536870912 = (G : Int) := by rw [Int.tdiv_eq_ediv_of_nonneg (by omega)]; omega
  have v1 : IntKind.u64.wrap 255 = 255 := by decide
  have v2 : IntKind.u64.wrap 2139095040 = 2139095040 := by decide
  have v3 : IntKind.u64.wrap 4286578688 = 4286578688 := by decide
  have v4 : IntKind.u64.wrap (2139095040 + (G : Int)) = 2139095040 + (G : Int) := by rw [IntKind.wrap_u64]; omega
  have v5 : IntKind.u64.wrap (4286578688 + (G : Int)) = 4286578688 + (G : Int) := by rw [IntKind.wrap_u64]; omega
  rw [hG] at hr
  rcases hc' with rfl | rfl
  all_goals
    cases n
    · have hs0 := hn
      simp only [Bool.toNat_false, Bool.toNat_true] at hs0
      subst hs0
      have hr' := hide hr
      clear hr hn hx hc hG
      go_enter Tryd.func27, Tryd.ntmps27
      go_wp2_with fail
      go_fit (hOf.out _)
      rintro e w1 ⟨rfl, hB1⟩
      go_wp2_with (first | (go_at_call 37; go_fit (power_29 _); rintro e w' ⟨rfl, rfl⟩) | (go_at_call 37; go_fit (power_31 _); rintro e w' ⟨rfl, rfl⟩))
      go_fit (hCl.out _)
      rintro e w2 ⟨rfl, hB2⟩
      have K2 := keep5 hB2 w1.heap.size (by simp) (.bool false) (.int .i64 E) (.int .u64 F) (.int .i64 11) (.int .i64 52) (by simp [go_sem]) (by simp [go_sem]) (by simp [go_sem]) (by simp [go_sem]) (by simp [go_sem])
      obtain ⟨k0, k1, k2, k3, k4⟩ := K2
      have l2 : w1.heap.size < w2.heap.size := by have := hB2.size; simp at this; omega
      go_wp2_with (first | (go_at_call 37; go_fit (power_29 _); rintro e w' ⟨rfl, rfl⟩) | (go_at_call 37; go_fit (power_31 _); rintro e w' ⟨rfl, rfl⟩))
      go_fit (hCl.out _)
      rintro e w3 ⟨rfl, hB3⟩
      have K3 := keep5 hB3 w1.heap.size l2 (.bool false) (.int .i64 E) (.int .u64 F) (.int .i64 11) (.int .i64 52) k0 k1 k2 k3 k4
      clear k0 k1 k2 k3 k4
      obtain ⟨k0, k1, k2, k3, k4⟩ := K3
      have l3 : w1.heap.size < w3.heap.size := Nat.lt_of_lt_of_le l2 hB3.size
      go_wp2
      go_region_held3 (fun w' => w'.cell? ⟨w1.heap.size, 2, none⟩ = some (.int .u64 F)) (first | (simp [go_sem, *]; done) | go_keep) (first | (go_at_call 37; go_fit (power_8 _); rintro e w' ⟨rfl, rfl⟩) | (go_at_call 37; go_fit (power_23 _); rintro e w' ⟨rfl, rfl⟩))
      all_goals
        go_wp2
        go_ret
        exact ⟨ret_int (by rw [hr'.out]; omega), (below_then (below_then hB1 (below_alloc hB2)) hB3).drew⟩
    · have hs0 := hn
      simp only [Bool.toNat_false, Bool.toNat_true] at hs0
      subst hs0
      have hr' := hide hr
      clear hr hn hx hc hG
      go_enter Tryd.func27, Tryd.ntmps27
      go_wp2_with fail
      go_fit (hOf.out _)
      rintro e w1 ⟨rfl, hB1⟩
      go_wp2_with (first | (go_at_call 37; go_fit (power_29 _); rintro e w' ⟨rfl, rfl⟩) | (go_at_call 37; go_fit (power_31 _); rintro e w' ⟨rfl, rfl⟩))
      go_fit (hCl.out _)
      rintro e w2 ⟨rfl, hB2⟩
      have K2 := keep5 hB2 w1.heap.size (by simp) (.bool true) (.int .i64 E) (.int .u64 F) (.int .i64 11) (.int .i64 52) (by simp [go_sem]) (by simp [go_sem]) (by simp [go_sem]) (by simp [go_sem]) (by simp [go_sem])
      obtain ⟨k0, k1, k2, k3, k4⟩ := K2
      have l2 : w1.heap.size < w2.heap.size := by have := hB2.size; simp at this; omega
      go_wp2_with (first | (go_at_call 37; go_fit (power_29 _); rintro e w' ⟨rfl, rfl⟩) | (go_at_call 37; go_fit (power_31 _); rintro e w' ⟨rfl, rfl⟩))
      go_fit (hCl.out _)
      rintro e w3 ⟨rfl, hB3⟩
      have K3 := keep5 hB3 w1.heap.size l2 (.bool true) (.int .i64 E) (.int .u64 F) (.int .i64 11) (.int .i64 52) k0 k1 k2 k3 k4
      clear k0 k1 k2 k3 k4
      obtain ⟨k0, k1, k2, k3, k4⟩ := K3
      have l3 : w1.heap.size < w3.heap.size := Nat.lt_of_lt_of_le l2 hB3.size
      go_wp2
      go_region_held3 (fun w' => w'.cell? ⟨w1.heap.size, 2, none⟩ = some (.int .u64 F)) (first | (simp [go_sem, *]; done) | go_keep) (first | (go_at_call 37; go_fit (power_8 _); rintro e w' ⟨rfl, rfl⟩) | (go_at_call 37; go_fit (power_23 _); rintro e w' ⟨rfl, rfl⟩))
      all_goals
        go_wp2
        go_ret
        exact ⟨ret_int (by rw [hr'.out]; omega), (below_then (below_then hB1 (below_alloc hB2)) hB3).drew⟩
set_option maxRecDepth 100000 in
set_option maxHeartbeats 2000000 in
theorem tries_smid (x s E F : Nat) (n : Bool) (w : World) (hn : s = n.toNat) (hE : E < 2048) (hF : F < 4503599627370496) (hx : x = s * 9223372036854775808 + E * 4503599627370496 + F) (r : Nat) (hr : r = s * 2147483648 + (E - 896) * 8388608 + F / 536870912) (hc : clsF 2047 E F = 3) (hb : 897 ≤ E) (hb2 : E < 1151) : Calls Tryd.prog 27 #[.int .u64 x, .int .i64 8, .int .i64 23, .int .i64 127] w fun e w' => e = .returned (.int .u64 (r : Nat)) ∧ Below w.heap.size w w' := by
  have hOf : Hid (∀ w, Calls Tryd.prog 24 #[.int .u64 x, .int .i64 11, .int .i64 52] w fun e w' => e = .returned (.agg #[.bool n, .int .i64 E, .int .u64 F, .int .i64 11, .int .i64 52]) ∧ Below w.heap.size w w') := fun w => of_d x s E F n w hn hE hF hx
  have hCl : Hid (∀ w, Calls Tryd.prog 30 #[.agg #[.bool n, .int .i64 E, .int .u64 F, .int .i64 11, .int .i64 52]] w fun e w' => e = .returned (.int .i64 ((3 : Nat) : Int)) ∧ Below w.heap.size w w') := fun w => by rw [← hc]; exact fclass_d E F n w hE
  obtain ⟨G, hG⟩ : ∃ G, F / 536870912 = G := ⟨_, rfl⟩
  have hGl : G < 8388608 := by omega
  obtain ⟨e', he'⟩ : ∃ e', E - 896 = e' := ⟨_, rfl⟩
  have he1 : 1 ≤ e' := by omega
  have he2 : e' < 255 := by omega
  have heq : (E : Int) - 1023 + 127 = (e' : Int) := by omega
  have v6 : IntKind.u64.wrap (G : Int) = (G : Int) := by rw [IntKind.wrap_u64]; omega
  have t1 : (F : Int).tdiv 536870912 = (G : Int) := by rw [Int.tdiv_eq_ediv_of_nonneg (by omega)]; omega
  have v1 : IntKind.u64.wrap (e' : Int) = e' := by rw [IntKind.wrap_u64]; omega
  have v2 : IntKind.u64.wrap ((e' : Int) * 8388608) = (e' : Int) * 8388608 := by rw [IntKind.wrap_u64]; omega
  have v3 : IntKind.u64.wrap (2147483648 + (e' : Int) * 8388608) = 2147483648 + (e' : Int) * 8388608 := by rw [IntKind.wrap_u64]; omega
  have v4 : IntKind.u64.wrap ((e' : Int) * 8388608 + (G : Int)) = (e' : Int) * 8388608 + (G : Int) := by rw [IntKind.wrap_u64]; omega
  have v5 : IntKind.u64.wrap (2147483648 + (e' : Int) * 8388608 + (G : Int)) = 2147483648 + (e' : Int) * 8388608 + (G : Int) := by rw [IntKind.wrap_u64]; omega
  rw [hG, he'] at hr
  cases n
  · have hs0 := hn
    simp only [Bool.toNat_false, Bool.toNat_true] at hs0
    subst hs0
    have hr' := hide hr
    clear hr hn hx hc hG he' hb hb2
    go_enter Tryd.func27, Tryd.ntmps27
    go_wp2_with fail
    go_fit (hOf.out _)
    rintro e w1 ⟨rfl, hB1⟩
    go_wp2_with (first | (go_at_call 37; go_fit (power_29 _); rintro e w' ⟨rfl, rfl⟩) | (go_at_call 37; go_fit (power_31 _); rintro e w' ⟨rfl, rfl⟩))
    go_fit (hCl.out _)
    rintro e w2 ⟨rfl, hB2⟩
    have K2 := keep5 hB2 w1.heap.size (by simp) (.bool false) (.int .i64 E) (.int .u64 F) (.int .i64 11) (.int .i64 52) (by simp [go_sem]) (by simp [go_sem]) (by simp [go_sem]) (by simp [go_sem]) (by simp [go_sem])
    obtain ⟨k0, k1, k2, k3, k4⟩ := K2
    have l2 : w1.heap.size < w2.heap.size := by have := hB2.size; simp at this; omega
    go_wp2_with (first | (go_at_call 37; go_fit (power_29 _); rintro e w' ⟨rfl, rfl⟩) | (go_at_call 37; go_fit (power_31 _); rintro e w' ⟨rfl, rfl⟩))
    go_fit (hCl.out _)
    rintro e w3 ⟨rfl, hB3⟩
    have K3 := keep5 hB3 w1.heap.size l2 (.bool false) (.int .i64 E) (.int .u64 F) (.int .i64 11) (.int .i64 52) k0 k1 k2 k3 k4
    clear k0 k1 k2 k3 k4
    obtain ⟨k0, k1, k2, k3, k4⟩ := K3
    have l3 : w1.heap.size < w3.heap.size := Nat.lt_of_lt_of_le l2 hB3.size
    go_wp2_with (first | (go_at_call 37; go_fit (power_29 _); rintro e w' ⟨rfl, rfl⟩) | (go_at_call 37; go_fit (power_31 _); rintro e w' ⟨rfl, rfl⟩))
    go_fit (hCl.out _)
    rintro e w4 ⟨rfl, hB4⟩
    have K4 := keep5 hB4 w1.heap.size l3 (.bool false) (.int .i64 E) (.int .u64 F) (.int .i64 11) (.int .i64 52) k0 k1 k2 k3 k4
    clear k0 k1 k2 k3 k4
    obtain ⟨k0, k1, k2, k3, k4⟩ := K4
    have l4 : w1.heap.size < w4.heap.size := Nat.lt_of_lt_of_le l3 hB4.size
    go_wp2_with (first | (go_at_call 37; go_fit (power_8 _); rintro e w' ⟨rfl, rfl⟩))
    go_region_held3 (fun w' => w'.cell? ⟨w1.heap.size, 2, none⟩ = some (.int .u64 F)) (first | (simp [go_sem, *]; done) | go_keep) (first | (go_at_call 37; go_fit (power_23 _); rintro e w' ⟨rfl, rfl⟩))
    all_goals
      go_wp2
      go_ret
      exact ⟨ret_int (by rw [hr'.out]; omega), (below_then (below_then (below_then hB1 (below_alloc hB2)) hB3) hB4).drew⟩
  · have hs0 := hn
    simp only [Bool.toNat_false, Bool.toNat_true] at hs0
    subst hs0
    have hr' := hide hr
    clear hr hn hx hc hG he' hb hb2
    go_enter Tryd.func27, Tryd.ntmps27
    go_wp2_with fail
    go_fit (hOf.out _)
    rintro e w1 ⟨rfl, hB1⟩
    go_wp2_with (first | (go_at_call 37; go_fit (power_29 _); rintro e w' ⟨rfl, rfl⟩) | (go_at_call 37; go_fit (power_31 _); rintro e w' ⟨rfl, rfl⟩))
    go_fit (hCl.out _)
    rintro e w2 ⟨rfl, hB2⟩
    have K2 := keep5 hB2 w1.heap.size (by simp) (.bool true) (.int .i64 E) (.int .u64 F) (.int .i64 11) (.int .i64 52) (by simp [go_sem]) (by simp [go_sem]) (by simp [go_sem]) (by simp [go_sem]) (by simp [go_sem])
    obtain ⟨k0, k1, k2, k3, k4⟩ := K2
    have l2 : w1.heap.size < w2.heap.size := by have := hB2.size; simp at this; omega
    go_wp2_with (first | (go_at_call 37; go_fit (power_29 _); rintro e w' ⟨rfl, rfl⟩) | (go_at_call 37; go_fit (power_31 _); rintro e w' ⟨rfl, rfl⟩))
    go_fit (hCl.out _)
    rintro e w3 ⟨rfl, hB3⟩
    have K3 := keep5 hB3 w1.heap.size l2 (.bool true) (.int .i64 E) (.int .u64 F) (.int .i64 11) (.int .i64 52) k0 k1 k2 k3 k4
    clear k0 k1 k2 k3 k4
    obtain ⟨k0, k1, k2, k3, k4⟩ := K3
    have l3 : w1.heap.size < w3.heap.size := Nat.lt_of_lt_of_le l2 hB3.size
    go_wp2_with (first | (go_at_call 37; go_fit (power_29 _); rintro e w' ⟨rfl, rfl⟩) | (go_at_call 37; go_fit (power_31 _); rintro e w' ⟨rfl, rfl⟩))
    go_fit (hCl.out _)
    rintro e w4 ⟨rfl, hB4⟩
    have K4 := keep5 hB4 w1.heap.size l3 (.bool true) (.int .i64 E) (.int .u64 F) (.int .i64 11) (.int .i64 52) k0 k1 k2 k3 k4
    clear k0 k1 k2 k3 k4
    obtain ⟨k0, k1, k2, k3, k4⟩ := K4
    have l4 : w1.heap.size < w4.heap.size := Nat.lt_of_lt_of_le l3 hB4.size
    go_wp2_with (first | (go_at_call 37; go_fit (power_8 _); rintro e w' ⟨rfl, rfl⟩))
    go_region_held3 (fun w' => w'.cell? ⟨w1.heap.size, 2, none⟩ = some (.int .u64 F)) (first | (simp [go_sem, *]; done) | go_keep) (first | (go_at_call 37; go_fit (power_23 _); rintro e w' ⟨rfl, rfl⟩))
    all_goals
      go_wp2
      go_ret
      exact ⟨ret_int (by rw [hr'.out]; omega), (below_then (below_then (below_then hB1 (below_alloc hB2)) hB3) hB4).drew⟩
set_option maxRecDepth 100000 in
set_option maxHeartbeats 2000000 in
theorem tries_slow (x s E F : Nat) (n : Bool) (w : World) (hn : s = n.toNat) (hE : E < 2048) (hF : F < 4503599627370496) (hx : x = s * 9223372036854775808 + E * 4503599627370496 + F) (r : Nat) (hr : r = s * 2147483648 + (4503599627370496 + F) / 2 ^ (926 - E)) (hc : clsF 2047 E F = 3) (hb2 : E < 897) : Calls Tryd.prog 27 #[.int .u64 x, .int .i64 8, .int .i64 23, .int .i64 127] w fun e w' => e = .returned (.int .u64 (r : Nat)) ∧ Below w.heap.size w w' := by
  have hOf : Hid (∀ w, Calls Tryd.prog 24 #[.int .u64 x, .int .i64 11, .int .i64 52] w fun e w' => e = .returned (.agg #[.bool n, .int .i64 E, .int .u64 F, .int .i64 11, .int .i64 52]) ∧ Below w.heap.size w w') := fun w => of_d x s E F n w hn hE hF hx
  have hCl : Hid (∀ w, Calls Tryd.prog 30 #[.agg #[.bool n, .int .i64 E, .int .u64 F, .int .i64 11, .int .i64 52]] w fun e w' => e = .returned (.int .i64 ((3 : Nat) : Int)) ∧ Below w.heap.size w w') := fun w => by rw [← hc]; exact fclass_d E F n w hE
  obtain ⟨X0, hX0⟩ : ∃ X0, (4503599627370496 + F) / 536870912 = X0 := ⟨_, rfl⟩
  have hX0l : X0 < 16777216 := by omega
  obtain ⟨ei, hei⟩ : ∃ ei : Int, (E : Int) - 1023 + 127 = ei := ⟨_, rfl⟩
  obtain ⟨J, hJ⟩ : ∃ J : Nat, 897 - E = J := ⟨_, rfl⟩
  have heJ : ei + J = 1 := by omega
  have hJ2 : J ≤ 2000 := by omega
  have hei1 : ei < 1 := by omega
  have hend := hide (show (4503599627370496 + F) / 2 ^ (926 - E) = X0 / 2 ^ J by
    rw [← hX0, Nat.div_div_eq_div_mul, show 926 - E = 29 + J by omega, Nat.pow_add])
  have v6 : IntKind.u64.wrap (X0 : Int) = (X0 : Int) := by rw [IntKind.wrap_u64]; omega
  have t1 : ((4503599627370496 : Int) + F).tdiv 536870912 = (X0 : Int) := by rw [Int.tdiv_eq_ediv_of_nonneg (by omega)]; omega
  have v1 : IntKind.u64.wrap (4503599627370496 + (F : Int)) = 4503599627370496 + (F : Int) := by rw [IntKind.wrap_u64]; omega
  rw [hend.out] at hr
  have hXe := hide (show X0 / 2 ^ J ≤ X0 from Nat.div_le_self _ _)
  cases n
  · have hs0 := hn
    simp only [Bool.toNat_false, Bool.toNat_true] at hs0
    subst hs0
    have hr' := hide hr
    clear hr hn hx hc hX0 hJ hb2
    go_enter Tryd.func27, Tryd.ntmps27
    go_wp2_with fail
    go_fit (hOf.out _)
    rintro e w1 ⟨rfl, hB1⟩
    go_wp2_with (first | (go_at_call 37; go_fit (power_29 _); rintro e w' ⟨rfl, rfl⟩) | (go_at_call 37; go_fit (power_31 _); rintro e w' ⟨rfl, rfl⟩))
    go_fit (hCl.out _)
    rintro e w2 ⟨rfl, hB2⟩
    have K2 := keep5 hB2 w1.heap.size (by simp) (.bool false) (.int .i64 E) (.int .u64 F) (.int .i64 11) (.int .i64 52) (by simp [go_sem]) (by simp [go_sem]) (by simp [go_sem]) (by simp [go_sem]) (by simp [go_sem])
    obtain ⟨k0, k1, k2, k3, k4⟩ := K2
    have l2 : w1.heap.size < w2.heap.size := by have := hB2.size; simp at this; omega
    go_wp2_with (first | (go_at_call 37; go_fit (power_29 _); rintro e w' ⟨rfl, rfl⟩) | (go_at_call 37; go_fit (power_31 _); rintro e w' ⟨rfl, rfl⟩))
    go_fit (hCl.out _)
    rintro e w3 ⟨rfl, hB3⟩
    have K3 := keep5 hB3 w1.heap.size l2 (.bool false) (.int .i64 E) (.int .u64 F) (.int .i64 11) (.int .i64 52) k0 k1 k2 k3 k4
    clear k0 k1 k2 k3 k4
    obtain ⟨k0, k1, k2, k3, k4⟩ := K3
    have l3 : w1.heap.size < w3.heap.size := Nat.lt_of_lt_of_le l2 hB3.size
    go_wp2_with (first | (go_at_call 37; go_fit (power_29 _); rintro e w' ⟨rfl, rfl⟩) | (go_at_call 37; go_fit (power_31 _); rintro e w' ⟨rfl, rfl⟩))
    go_fit (hCl.out _)
    rintro e w4 ⟨rfl, hB4⟩
    have K4 := keep5 hB4 w1.heap.size l3 (.bool false) (.int .i64 E) (.int .u64 F) (.int .i64 11) (.int .i64 52) k0 k1 k2 k3 k4
    clear k0 k1 k2 k3 k4
    obtain ⟨k0, k1, k2, k3, k4⟩ := K4
    have l4 : w1.heap.size < w4.heap.size := Nat.lt_of_lt_of_le l3 hB4.size
    go_wp2_with (first | (go_at_call 37; go_fit (power_8 _); rintro e w' ⟨rfl, rfl⟩))
    go_region_held3 (fun w' => w'.cell? ⟨w1.heap.size, 2, none⟩ = some (.int .u64 F)) (first | (simp [go_sem, *]; done) | go_keep) (first | (go_at_call 37; go_fit (power_52 _); rintro e w' ⟨rfl, rfl⟩))
    all_goals
      go_wp2
      go_loop [13, 14] (fun y i => ∃ j : Nat, j ≤ J ∧ y = .int .u64 (X0 / 2 ^ j : Nat) ∧ i = .int .i64 (ei + j)) (fun y i => (1 - intOf i).toNat)
      case atStart => exact ⟨0, Nat.zero_le _, by simp, by simp⟩
      case round =>
        obtain ⟨j, hj, rfl, rfl⟩ := hrel
        have hy1 := hide (show X0 / 2 ^ (j + 1) = X0 / 2 ^ j / 2 by rw [Nat.pow_succ, ← Nat.div_div_eq_div_mul])
        have hyle : X0 / 2 ^ j ≤ X0 := Nat.div_le_self _ _
        by_cases hz : X0 / 2 ^ j = 0
        · have hz2 := hide (show X0 / 2 ^ J = 0 by
            have h1 : X0 < 2 ^ j := by
              rcases Nat.div_eq_zero_iff.1 hz with h | h
              · have := Nat.two_pow_pos j; omega
              · exact h
            exact Nat.div_eq_of_lt (Nat.lt_of_lt_of_le h1 (Nat.pow_le_pow_right (by decide) hj)))
          rw [hz]
          go_wp2
          all_goals
            go_ret
            exact ⟨ret_int (by rw [hr'.out, hz2.out]; rfl), (below_then (below_then (below_then hB1 (below_alloc hB2)) hB3) hB4).drew⟩
        · by_cases hlt : j < J
          · obtain ⟨y, hy⟩ : ∃ y, X0 / 2 ^ j = y := ⟨_, rfl⟩
            rw [hy] at hz hy1 hyle ⊢
            have hy0 : 0 < y := by omega
            have t2 : (y : Int).tdiv 2 = ((y / 2 : Nat) : Int) := by rw [Int.tdiv_eq_ediv_of_nonneg (by omega)]; omega
            have hlt2 : ei + (j : Int) < 1 := by omega
            clear hy hz
            go_wp2
            refine ⟨⟨j + 1, hlt, by rw [hy1.out]; rfl, ?_⟩, ?_⟩
            · exact congrArg (Value.int IntKind.i64) (by omega)
            · simp only [intOf]; omega
          · have hje : j = J := by omega
            subst hje
            obtain ⟨y, hy⟩ : ∃ y, X0 / 2 ^ j = y := ⟨_, rfl⟩
            rw [hy] at hr' hyle ⊢
            have hge : ei + (j : Int) = 1 := by omega
            clear hy hz hend hXe heJ
            go_wp2
            go_ret
            exact ⟨ret_int (by rw [hr'.out]; omega), (below_then (below_then (below_then hB1 (below_alloc hB2)) hB3) hB4).drew⟩
  · have hs0 := hn
    simp only [Bool.toNat_false, Bool.toNat_true] at hs0
    subst hs0
    have hr' := hide hr
    clear hr hn hx hc hX0 hJ hb2
    go_enter Tryd.func27, Tryd.ntmps27
    go_wp2_with fail
    go_fit (hOf.out _)
    rintro e w1 ⟨rfl, hB1⟩
    go_wp2_with (first | (go_at_call 37; go_fit (power_29 _); rintro e w' ⟨rfl, rfl⟩) | (go_at_call 37; go_fit (power_31 _); rintro e w' ⟨rfl, rfl⟩))
    go_fit (hCl.out _)
    rintro e w2 ⟨rfl, hB2⟩
    have K2 := keep5 hB2 w1.heap.size (by simp) (.bool true) (.int .i64 E) (.int .u64 F) (.int .i64 11) (.int .i64 52) (by simp [go_sem]) (by simp [go_sem]) (by simp [go_sem]) (by simp [go_sem]) (by simp [go_sem])
    obtain ⟨k0, k1, k2, k3, k4⟩ := K2
    have l2 : w1.heap.size < w2.heap.size := by have := hB2.size; simp at this; omega
    go_wp2_with (first | (go_at_call 37; go_fit (power_29 _); rintro e w' ⟨rfl, rfl⟩) | (go_at_call 37; go_fit (power_31 _); rintro e w' ⟨rfl, rfl⟩))
    go_fit (hCl.out _)
    rintro e w3 ⟨rfl, hB3⟩
    have K3 := keep5 hB3 w1.heap.size l2 (.bool true) (.int .i64 E) (.int .u64 F) (.int .i64 11) (.int .i64 52) k0 k1 k2 k3 k4
    clear k0 k1 k2 k3 k4
    obtain ⟨k0, k1, k2, k3, k4⟩ := K3
    have l3 : w1.heap.size < w3.heap.size := Nat.lt_of_lt_of_le l2 hB3.size
    go_wp2_with (first | (go_at_call 37; go_fit (power_29 _); rintro e w' ⟨rfl, rfl⟩) | (go_at_call 37; go_fit (power_31 _); rintro e w' ⟨rfl, rfl⟩))
    go_fit (hCl.out _)
    rintro e w4 ⟨rfl, hB4⟩
    have K4 := keep5 hB4 w1.heap.size l3 (.bool true) (.int .i64 E) (.int .u64 F) (.int .i64 11) (.int .i64 52) k0 k1 k2 k3 k4
    clear k0 k1 k2 k3 k4
    obtain ⟨k0, k1, k2, k3, k4⟩ := K4
    have l4 : w1.heap.size < w4.heap.size := Nat.lt_of_lt_of_le l3 hB4.size
    go_wp2_with (first | (go_at_call 37; go_fit (power_8 _); rintro e w' ⟨rfl, rfl⟩))
    go_region_held3 (fun w' => w'.cell? ⟨w1.heap.size, 2, none⟩ = some (.int .u64 F)) (first | (simp [go_sem, *]; done) | go_keep) (first | (go_at_call 37; go_fit (power_52 _); rintro e w' ⟨rfl, rfl⟩))
    all_goals
      go_wp2
      go_loop [13, 14] (fun y i => ∃ j : Nat, j ≤ J ∧ y = .int .u64 (X0 / 2 ^ j : Nat) ∧ i = .int .i64 (ei + j)) (fun y i => (1 - intOf i).toNat)
      case atStart => exact ⟨0, Nat.zero_le _, by simp, by simp⟩
      case round =>
        obtain ⟨j, hj, rfl, rfl⟩ := hrel
        have hy1 := hide (show X0 / 2 ^ (j + 1) = X0 / 2 ^ j / 2 by rw [Nat.pow_succ, ← Nat.div_div_eq_div_mul])
        have hyle : X0 / 2 ^ j ≤ X0 := Nat.div_le_self _ _
        by_cases hz : X0 / 2 ^ j = 0
        · have hz2 := hide (show X0 / 2 ^ J = 0 by
            have h1 : X0 < 2 ^ j := by
              rcases Nat.div_eq_zero_iff.1 hz with h | h
              · have := Nat.two_pow_pos j; omega
              · exact h
            exact Nat.div_eq_of_lt (Nat.lt_of_lt_of_le h1 (Nat.pow_le_pow_right (by decide) hj)))
          rw [hz]
          go_wp2
          all_goals
            go_ret
            exact ⟨ret_int (by rw [hr'.out, hz2.out]; rfl), (below_then (below_then (below_then hB1 (below_alloc hB2)) hB3) hB4).drew⟩
        · by_cases hlt : j < J
          · obtain ⟨y, hy⟩ : ∃ y, X0 / 2 ^ j = y := ⟨_, rfl⟩
            rw [hy] at hz hy1 hyle ⊢
            have hy0 : 0 < y := by omega
            have t2 : (y : Int).tdiv 2 = ((y / 2 : Nat) : Int) := by rw [Int.tdiv_eq_ediv_of_nonneg (by omega)]; omega
            have hlt2 : ei + (j : Int) < 1 := by omega
            clear hy hz
            go_wp2
            refine ⟨⟨j + 1, hlt, by rw [hy1.out]; rfl, ?_⟩, ?_⟩
            · exact congrArg (Value.int IntKind.i64) (by omega)
            · simp only [intOf]; omega
          · have hje : j = J := by omega
            subst hje
            obtain ⟨y, hy⟩ : ∃ y, X0 / 2 ^ j = y := ⟨_, rfl⟩
            rw [hy] at hr' hyle ⊢
            have hge : ei + (j : Int) = 1 := by omega
            clear hy hz hend hXe heJ
            go_wp2
            go_ret
            exact ⟨ret_int (by rw [hr'.out]; omega), (below_then (below_then (below_then hB1 (below_alloc hB2)) hB3) hB4).drew⟩
theorem tries_s (x : Nat) (w : World) (hx : x < 18446744073709551616) :
    Calls Tryd.prog 27 #[.int .u64 x, .int .i64 8, .int .i64 23, .int .i64 127] w fun e w' => e = .returned (.int .u64 (nars x : Nat)) ∧ Below w.heap.size w w' := by
  obtain ⟨s, hs⟩ : ∃ s, x / 9223372036854775808 = s := ⟨_, rfl⟩
  obtain ⟨E, hE⟩ : ∃ E, x / 4503599627370496 % 2048 = E := ⟨_, rfl⟩
  obtain ⟨F, hF⟩ : ∃ F, x % 4503599627370496 = F := ⟨_, rfl⟩
  obtain ⟨n, hn⟩ : ∃ n : Bool, s = n.toNat := by
    by_cases e : s = 1
    · exact ⟨true, e⟩
    · exact ⟨false, by show s = 0; omega⟩
  have hEl : E < 2048 := by omega
  have hFl : F < 4503599627370496 := by omega
  have hx' : x = s * 9223372036854775808 + E * 4503599627370496 + F := by omega
  unfold nars
  rw [hs, hE, hF]
  by_cases c1 : E = 2047
  · rw [if_pos c1]
    by_cases c3 : F = 0
    · exact tries_sinf x s E F n w hn hEl hFl hx' _ 4 rfl (by unfold clsF; rw [if_neg (by omega), if_pos c1, if_pos c3]) (Or.inl rfl)
    · exact tries_sinf x s E F n w hn hEl hFl hx' _ 5 rfl (by unfold clsF; rw [if_neg (by omega), if_pos c1, if_neg c3]) (Or.inr rfl)
  rw [if_neg c1]
  by_cases c2 : E = 0
  · rw [if_pos c2]
    by_cases c3 : F = 0
    · exact tries_s0 x s E F n w hn hEl hFl hx' _ rfl (by unfold clsF; rw [if_pos c2, if_pos c3])
    · exact tries_ssub x s E F n w hn hEl hFl hx' _ rfl (by unfold clsF; rw [if_pos c2, if_neg c3])
  rw [if_neg c2]
  have hc : clsF 2047 E F = 3 := by unfold clsF; rw [if_neg c2, if_neg c1]
  by_cases c3 : 1151 ≤ E
  · rw [if_pos c3]
    exact tries_sbig x s E F n w hn hEl hFl hx' _ rfl hc c3
  rw [if_neg c3]
  by_cases c4 : 897 ≤ E
  · rw [if_pos c4]
    exact tries_smid x s E F n w hn hEl hFl hx' _ rfl hc c4 (by omega)
  · rw [if_neg c4]
    exact tries_slow x s E F n w hn hEl hFl hx' _ rfl hc (by omega)
end Go.Proofs.YtjlhningaijneaaDoor
