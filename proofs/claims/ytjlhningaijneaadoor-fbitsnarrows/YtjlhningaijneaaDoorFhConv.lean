/- fbits.convert: walked. -/
import Derived.Test.YtjlhningaijneaaDoorFgPart
namespace Go.Proofs.YtjlhningaijneaaDoor
open Go.RowKit
set_option linter.unusedSimpArgs false
set_option linter.unusedVariables false
theorem keepS {W w1 : World} (hB : Below W.heap.size W w1) (b c d : Nat) (hb : b < W.heap.size) (hc : c < W.heap.size) (hd : d < W.heap.size) {x0 x1 y0 y1 z0 z1 : Value}
    (h : W.cell? ⟨b, 0, none⟩ = some x0 ∧ W.cell? ⟨b, 1, none⟩ = some x1 ∧ W.cell? ⟨c, 0, none⟩ = some y0 ∧ W.cell? ⟨c, 1, none⟩ = some y1 ∧ W.cell? ⟨d, 0, none⟩ = some z0 ∧ W.cell? ⟨d, 1, none⟩ = some z1) :
    w1.cell? ⟨b, 0, none⟩ = some x0 ∧ w1.cell? ⟨b, 1, none⟩ = some x1 ∧ w1.cell? ⟨c, 0, none⟩ = some y0 ∧ w1.cell? ⟨c, 1, none⟩ = some y1 ∧ w1.cell? ⟨d, 0, none⟩ = some z0 ∧ w1.cell? ⟨d, 1, none⟩ = some z1 := by
  obtain ⟨h1, h2, h3, h4, h5, h6⟩ := h
  refine ⟨?_, ?_, ?_, ?_, ?_, ?_⟩
  · rw [hB.cell (p := ⟨b, 0, none⟩) hb]; exact h1
  · rw [hB.cell (p := ⟨b, 1, none⟩) hb]; exact h2
  · rw [hB.cell (p := ⟨c, 0, none⟩) hc]; exact h3
  · rw [hB.cell (p := ⟨c, 1, none⟩) hc]; exact h4
  · rw [hB.cell (p := ⟨d, 0, none⟩) hd]; exact h5
  · rw [hB.cell (p := ⟨d, 1, none⟩) hd]; exact h6
set_option maxRecDepth 100000 in
set_option maxHeartbeats 2000000 in
theorem conv_hdinf (x s q : Nat) (w : World) (hs : s ≤ 1) (hq : q < 1024) (hx : x = s * 32768 + 31 * 1024 + q) :
    Calls Tryd.prog 23 #[.int .u64 x, .agg #[.int .i64 5, .int .i64 10], .agg #[.int .i64 11, .int .i64 52]] w fun e w' => e = .returned (.int .u64 (s * 9223372036854775808 + 2047 * 4503599627370496 + (q * 4398046511104) : Nat)) ∧ Below w.heap.size w w' := by
  obtain ⟨p, hp⟩ : ∃ p, p = 31 := ⟨_, rfl⟩
  rw [← hp] at hx
  have hSp : Hid (∀ w, Calls Tryd.prog 28 #[.int .u64 x, .agg #[.int .i64 5, .int .i64 10]] w fun e w' => e = .returned (.tuple #[.int .u64 s, .agg #[.int .u64 p, .int .u64 q]]) ∧ w' = (((w.alloc (.cells #[.int .i64 5, .int .i64 10] 44)).alloc (.cells #[.int .u64 p, .int .u64 q] 53)).alloc (.cells #[.int .i64 5, .int .i64 10] 44)).drew) := fun w => split_h x s p q w hs (by omega) hq hx
  clear hx
  have hJ : Hid (∀ w, Calls Tryd.prog 33 #[.int .u64 s, .agg #[.int .u64 2047, .int .u64 ((q * 4398046511104) : Nat)], .agg #[.int .i64 11, .int .i64 52]] w fun e w' => e = .returned (.int .u64 (s * 9223372036854775808 + 2047 * 4503599627370496 + (q * 4398046511104) : Nat)) ∧ Below w.heap.size w w') := fun w => join_d s 2047 (q * 4398046511104) w hs (by omega) (by omega)
  have hA : Hid (∀ w, Calls Tryd.prog 34 #[.int .u64 q, .agg #[.int .i64 5, .int .i64 10], .agg #[.int .i64 11, .int .i64 52]] w fun e w' => e = .returned (.int .u64 ((q * 4398046511104) : Nat)) ∧ Below w.heap.size w w') := fun w => align_hd q w hq
  obtain ⟨r, hr⟩ : ∃ r, s * 9223372036854775808 + 2047 * 4503599627370496 + (q * 4398046511104) = r := ⟨_, rfl⟩
  obtain ⟨q2, hq2⟩ : ∃ q2, (q * 4398046511104) = q2 := ⟨_, rfl⟩
  rw [hq2] at hr hJ hA
  rw [hq2, hr]
  rw [hr] at hJ
  clear hr hq2
  have hpi : ((p : Int) == 31) = true := by simp [hp]
  clear hp
  go_enter Tryd.func23, Tryd.ntmps23
  go_wp2_with (go_at_call 28; refine (hSp.out _).mono ?_; rintro e w' ⟨rfl, rfl⟩)
  go_region_held3 (fun w' => w'.cell? ⟨w.heap.size, 0, none⟩ = some (.int .i64 5) ∧ w'.cell? ⟨w.heap.size, 1, none⟩ = some (.int .i64 10) ∧ w'.cell? ⟨w.heap.size + 1, 0, none⟩ = some (.int .i64 11) ∧ w'.cell? ⟨w.heap.size + 1, 1, none⟩ = some (.int .i64 52) ∧ w'.cell? ⟨w.heap.size + 1 + 1 + 1 + 1 + 1, 0, none⟩ = some (.int .u64 p) ∧ w'.cell? ⟨w.heap.size + 1 + 1 + 1 + 1 + 1, 1, none⟩ = some (.int .u64 q)) (first | (simp [go_sem]; done) | go_keep) (first | (go_at_call 29; refine (ones_h _).mono ?_; rintro e w' ⟨rfl, rfl⟩))
  all_goals
    go_wp2
    go_region_held3 (fun w' => w'.cell? ⟨w.heap.size, 0, none⟩ = some (.int .i64 5) ∧ w'.cell? ⟨w.heap.size, 1, none⟩ = some (.int .i64 10) ∧ w'.cell? ⟨w.heap.size + 1, 0, none⟩ = some (.int .i64 11) ∧ w'.cell? ⟨w.heap.size + 1, 1, none⟩ = some (.int .i64 52) ∧ w'.cell? ⟨w.heap.size + 1 + 1 + 1 + 1 + 1, 0, none⟩ = some (.int .u64 p) ∧ w'.cell? ⟨w.heap.size + 1 + 1 + 1 + 1 + 1, 1, none⟩ = some (.int .u64 q)) (first | (simp [go_sem]; done) | go_keep) (first | (go_at_call 29; refine (ones_d _).mono ?_; rintro e w' ⟨rfl, rfl⟩) | (go_at_call 34; refine (hA.out _).mono ?_; rintro e w1 ⟨rfl, hB1⟩; obtain ⟨k1, k2, k3, k4, k5, k6⟩ := keepS hB1 w.heap.size (w.heap.size + 1) (w.heap.size + 1 + 1 + 1 + 1 + 1) (by first | assumption | (simp <;> omega)) (by first | assumption | (simp <;> omega)) (by first | assumption | (simp <;> omega)) (by first | assumption | simp [go_sem, *]); have l1 := Nat.lt_of_lt_of_le (show w.heap.size < _ by first | assumption | (simp <;> omega)) hB1.size; have l2 := Nat.lt_of_lt_of_le (show w.heap.size + 1 < _ by first | assumption | (simp <;> omega)) hB1.size; have l3 := Nat.lt_of_lt_of_le (show w.heap.size + 1 + 1 + 1 + 1 + 1 < _ by first | assumption | (simp <;> omega)) hB1.size) | (go_at_call 33; refine (hJ.out _).mono ?_; rintro e w2 ⟨rfl, hB2⟩; obtain ⟨k1, k2, k3, k4, k5, k6⟩ := keepS hB2 w.heap.size (w.heap.size + 1) (w.heap.size + 1 + 1 + 1 + 1 + 1) (by first | assumption | (simp <;> omega)) (by first | assumption | (simp <;> omega)) (by first | assumption | (simp <;> omega)) (by first | assumption | simp [go_sem, *]); have l1 := Nat.lt_of_lt_of_le (show w.heap.size < _ by first | assumption | (simp <;> omega)) hB2.size; have l2 := Nat.lt_of_lt_of_le (show w.heap.size + 1 < _ by first | assumption | (simp <;> omega)) hB2.size; have l3 := Nat.lt_of_lt_of_le (show w.heap.size + 1 + 1 + 1 + 1 + 1 < _ by first | assumption | (simp <;> omega)) hB2.size))
    all_goals
      go_wp2
      go_ret
      refine ⟨rfl, ?_⟩
      repeat (first | exact Below.refl _ _ | refine below_al ?_ | refine Below.drew ?_ | refine below_then ?_ hB2 | refine below_then ?_ hB1)
set_option maxRecDepth 100000 in
set_option maxHeartbeats 2000000 in
theorem conv_hdnum (x s p q R E F : Nat) (w : World) (g : Gl w) (hs : s ≤ 1) (hp : p < 31) (hq : q < 1024) (hx : x = s * 32768 + p * 1024 + q) (hE : E < 2048) (hF : F < 4503599627370496)
    (hNu : ∀ w, Gl w → Calls Tryd.prog 36 #[.agg #[.int .u64 p, .int .u64 q], .agg #[.int .i64 5, .int .i64 10]] w fun e w' => e = .returned (.float .f64 R) ∧ Below w.heap.size w w')
    (hPa : ∀ w, Gl w → Calls Tryd.prog 35 #[.float .f64 R, .agg #[.int .i64 11, .int .i64 52]] w fun e w' => e = .returned (.agg #[.int .u64 E, .int .u64 F]) ∧ Below w.heap.size w w') :
    Calls Tryd.prog 23 #[.int .u64 x, .agg #[.int .i64 5, .int .i64 10], .agg #[.int .i64 11, .int .i64 52]] w fun e w' => e = .returned (.int .u64 (s * 9223372036854775808 + E * 4503599627370496 + F : Nat)) ∧ Below w.heap.size w w' := by
  have hSp : Hid (∀ w, Calls Tryd.prog 28 #[.int .u64 x, .agg #[.int .i64 5, .int .i64 10]] w fun e w' => e = .returned (.tuple #[.int .u64 s, .agg #[.int .u64 p, .int .u64 q]]) ∧ w' = (((w.alloc (.cells #[.int .i64 5, .int .i64 10] 44)).alloc (.cells #[.int .u64 p, .int .u64 q] 53)).alloc (.cells #[.int .i64 5, .int .i64 10] 44)).drew) := fun w => split_h x s p q w hs (by omega) hq hx
  clear hx
  have hJ : Hid (∀ w, Calls Tryd.prog 33 #[.int .u64 s, .agg #[.int .u64 E, .int .u64 F], .agg #[.int .i64 11, .int .i64 52]] w fun e w' => e = .returned (.int .u64 (s * 9223372036854775808 + E * 4503599627370496 + F : Nat)) ∧ Below w.heap.size w w') := fun w => join_d s E F w hs hE hF
  obtain ⟨r, hr⟩ : ∃ r, s * 9223372036854775808 + E * 4503599627370496 + F = r := ⟨_, rfl⟩
  rw [hr] at hJ ⊢
  clear hr
  have hpi : ((p : Int) == 31) = false := by simp; omega
  have hNu := hide hNu
  have hPa := hide hPa
  have g := hide g
  clear hp hq hE hF hs
  go_enter Tryd.func23, Tryd.ntmps23
  go_wp2_with (go_at_call 28; refine (hSp.out _).mono ?_; rintro e w' ⟨rfl, rfl⟩)
  go_region_held3 (fun w' => w'.cell? ⟨w.heap.size, 0, none⟩ = some (.int .i64 5) ∧ w'.cell? ⟨w.heap.size, 1, none⟩ = some (.int .i64 10) ∧ w'.cell? ⟨w.heap.size + 1, 0, none⟩ = some (.int .i64 11) ∧ w'.cell? ⟨w.heap.size + 1, 1, none⟩ = some (.int .i64 52) ∧ w'.cell? ⟨w.heap.size + 1 + 1 + 1 + 1 + 1, 0, none⟩ = some (.int .u64 p) ∧ w'.cell? ⟨w.heap.size + 1 + 1 + 1 + 1 + 1, 1, none⟩ = some (.int .u64 q)) (first | (simp [go_sem]; done) | go_keep) (first | (go_at_call 29; refine (ones_h _).mono ?_; rintro e w' ⟨rfl, rfl⟩))
  all_goals
    go_wp2
    go_region_held3 (fun w' => w'.cell? ⟨w.heap.size, 0, none⟩ = some (.int .i64 5) ∧ w'.cell? ⟨w.heap.size, 1, none⟩ = some (.int .i64 10) ∧ w'.cell? ⟨w.heap.size + 1, 0, none⟩ = some (.int .i64 11) ∧ w'.cell? ⟨w.heap.size + 1, 1, none⟩ = some (.int .i64 52) ∧ w'.cell? ⟨w.heap.size + 1 + 1 + 1 + 1 + 1, 0, none⟩ = some (.int .u64 p) ∧ w'.cell? ⟨w.heap.size + 1 + 1 + 1 + 1 + 1, 1, none⟩ = some (.int .u64 q)) (first | (simp [go_sem]; done) | go_keep) (first | (go_at_call 36; refine (hNu.out _ (g.out.below ?_)).mono ?_; (repeat (first | exact Below.refl _ _ | refine below_al ?_ | refine Below.drew ?_)); rintro e w1 ⟨rfl, hB1⟩; obtain ⟨k1, k2, k3, k4, k5, k6⟩ := keepS hB1 w.heap.size (w.heap.size + 1) (w.heap.size + 1 + 1 + 1 + 1 + 1) (by first | assumption | (simp <;> omega)) (by first | assumption | (simp <;> omega)) (by first | assumption | (simp <;> omega)) (by first | assumption | simp [go_sem, *]); have l1 := Nat.lt_of_lt_of_le (show w.heap.size < _ by first | assumption | (simp <;> omega)) hB1.size; have l2 := Nat.lt_of_lt_of_le (show w.heap.size + 1 < _ by first | assumption | (simp <;> omega)) hB1.size; have l3 := Nat.lt_of_lt_of_le (show w.heap.size + 1 + 1 + 1 + 1 + 1 < _ by first | assumption | (simp <;> omega)) hB1.size) | (go_at_call 35; refine (hPa.out _ (g.out.below ?_)).mono ?_; (repeat (first | exact Below.refl _ _ | refine below_al ?_ | refine Below.drew ?_ | refine below_then ?_ hB1)); rintro e w2 ⟨rfl, hB2⟩; obtain ⟨k1, k2, k3, k4, k5, k6⟩ := keepS hB2 w.heap.size (w.heap.size + 1) (w.heap.size + 1 + 1 + 1 + 1 + 1) (by first | assumption | (simp <;> omega)) (by first | assumption | (simp <;> omega)) (by first | assumption | (simp <;> omega)) (by first | assumption | simp [go_sem, *]); have l1 := Nat.lt_of_lt_of_le (show w.heap.size < _ by first | assumption | (simp <;> omega)) hB2.size; have l2 := Nat.lt_of_lt_of_le (show w.heap.size + 1 < _ by first | assumption | (simp <;> omega)) hB2.size; have l3 := Nat.lt_of_lt_of_le (show w.heap.size + 1 + 1 + 1 + 1 + 1 < _ by first | assumption | (simp <;> omega)) hB2.size) | (go_at_call 33; refine (hJ.out _).mono ?_; rintro e w3 ⟨rfl, hB3⟩; obtain ⟨k1, k2, k3, k4, k5, k6⟩ := keepS hB3 w.heap.size (w.heap.size + 1) (w.heap.size + 1 + 1 + 1 + 1 + 1) (by first | assumption | (simp <;> omega)) (by first | assumption | (simp <;> omega)) (by first | assumption | (simp <;> omega)) (by first | assumption | simp [go_sem, *]); have l1 := Nat.lt_of_lt_of_le (show w.heap.size < _ by first | assumption | (simp <;> omega)) hB3.size; have l2 := Nat.lt_of_lt_of_le (show w.heap.size + 1 < _ by first | assumption | (simp <;> omega)) hB3.size; have l3 := Nat.lt_of_lt_of_le (show w.heap.size + 1 + 1 + 1 + 1 + 1 < _ by first | assumption | (simp <;> omega)) hB3.size))
    all_goals
      go_wp2
      go_ret
      refine ⟨rfl, ?_⟩
      repeat (first | exact Below.refl _ _ | refine below_al ?_ | refine Below.drew ?_ | refine below_then ?_ hB3 | refine below_then ?_ hB2 | refine below_then ?_ hB1)
set_option maxRecDepth 100000 in
set_option maxHeartbeats 2000000 in
theorem conv_sdinf (x s q : Nat) (w : World) (hs : s ≤ 1) (hq : q < 8388608) (hx : x = s * 2147483648 + 255 * 8388608 + q) :
    Calls Tryd.prog 23 #[.int .u64 x, .agg #[.int .i64 8, .int .i64 23], .agg #[.int .i64 11, .int .i64 52]] w fun e w' => e = .returned (.int .u64 (s * 9223372036854775808 + 2047 * 4503599627370496 + (q * 536870912) : Nat)) ∧ Below w.heap.size w w' := by
  obtain ⟨p, hp⟩ : ∃ p, p = 255 := ⟨_, rfl⟩
  rw [← hp] at hx
  have hSp : Hid (∀ w, Calls Tryd.prog 28 #[.int .u64 x, .agg #[.int .i64 8, .int .i64 23]] w fun e w' => e = .returned (.tuple #[.int .u64 s, .agg #[.int .u64 p, .int .u64 q]]) ∧ w' = (((w.alloc (.cells #[.int .i64 8, .int .i64 23] 44)).alloc (.cells #[.int .u64 p, .int .u64 q] 53)).alloc (.cells #[.int .i64 8, .int .i64 23] 44)).drew) := fun w => split_s x s p q w hs (by omega) hq hx
  clear hx
  have hJ : Hid (∀ w, Calls Tryd.prog 33 #[.int .u64 s, .agg #[.int .u64 2047, .int .u64 ((q * 536870912) : Nat)], .agg #[.int .i64 11, .int .i64 52]] w fun e w' => e = .returned (.int .u64 (s * 9223372036854775808 + 2047 * 4503599627370496 + (q * 536870912) : Nat)) ∧ Below w.heap.size w w') := fun w => join_d s 2047 (q * 536870912) w hs (by omega) (by omega)
  have hA : Hid (∀ w, Calls Tryd.prog 34 #[.int .u64 q, .agg #[.int .i64 8, .int .i64 23], .agg #[.int .i64 11, .int .i64 52]] w fun e w' => e = .returned (.int .u64 ((q * 536870912) : Nat)) ∧ Below w.heap.size w w') := fun w => align_sd q w hq
  obtain ⟨r, hr⟩ : ∃ r, s * 9223372036854775808 + 2047 * 4503599627370496 + (q * 536870912) = r := ⟨_, rfl⟩
  obtain ⟨q2, hq2⟩ : ∃ q2, (q * 536870912) = q2 := ⟨_, rfl⟩
  rw [hq2] at hr hJ hA
  rw [hq2, hr]
  rw [hr] at hJ
  clear hr hq2
  have hpi : ((p : Int) == 255) = true := by simp [hp]
  clear hp
  go_enter Tryd.func23, Tryd.ntmps23
  go_wp2_with (go_at_call 28; refine (hSp.out _).mono ?_; rintro e w' ⟨rfl, rfl⟩)
  go_region_held3 (fun w' => w'.cell? ⟨w.heap.size, 0, none⟩ = some (.int .i64 8) ∧ w'.cell? ⟨w.heap.size, 1, none⟩ = some (.int .i64 23) ∧ w'.cell? ⟨w.heap.size + 1, 0, none⟩ = some (.int .i64 11) ∧ w'.cell? ⟨w.heap.size + 1, 1, none⟩ = some (.int .i64 52) ∧ w'.cell? ⟨w.heap.size + 1 + 1 + 1 + 1 + 1, 0, none⟩ = some (.int .u64 p) ∧ w'.cell? ⟨w.heap.size + 1 + 1 + 1 + 1 + 1, 1, none⟩ = some (.int .u64 q)) (first | (simp [go_sem]; done) | go_keep) (first | (go_at_call 29; refine (ones_s _).mono ?_; rintro e w' ⟨rfl, rfl⟩))
  all_goals
    go_wp2
    go_region_held3 (fun w' => w'.cell? ⟨w.heap.size, 0, none⟩ = some (.int .i64 8) ∧ w'.cell? ⟨w.heap.size, 1, none⟩ = some (.int .i64 23) ∧ w'.cell? ⟨w.heap.size + 1, 0, none⟩ = some (.int .i64 11) ∧ w'.cell? ⟨w.heap.size + 1, 1, none⟩ = some (.int .i64 52) ∧ w'.cell? ⟨w.heap.size + 1 + 1 + 1 + 1 + 1, 0, none⟩ = some (.int .u64 p) ∧ w'.cell? ⟨w.heap.size + 1 + 1 + 1 + 1 + 1, 1, none⟩ = some (.int .u64 q)) (first | (simp [go_sem]; done) | go_keep) (first | (go_at_call 29; refine (ones_d _).mono ?_; rintro e w' ⟨rfl, rfl⟩) | (go_at_call 34; refine (hA.out _).mono ?_; rintro e w1 ⟨rfl, hB1⟩; obtain ⟨k1, k2, k3, k4, k5, k6⟩ := keepS hB1 w.heap.size (w.heap.size + 1) (w.heap.size + 1 + 1 + 1 + 1 + 1) (by first | assumption | (simp <;> omega)) (by first | assumption | (simp <;> omega)) (by first | assumption | (simp <;> omega)) (by first | assumption | simp [go_sem, *]); have l1 := Nat.lt_of_lt_of_le (show w.heap.size < _ by first | assumption | (simp <;> omega)) hB1.size; have l2 := Nat.lt_of_lt_of_le (show w.heap.size + 1 < _ by first | assumption | (simp <;> omega)) hB1.size; have l3 := Nat.lt_of_lt_of_le (show w.heap.size + 1 + 1 + 1 + 1 + 1 < _ by first | assumption | (simp <;> omega)) hB1.size) | (go_at_call 33; refine (hJ.out _).mono ?_; rintro e w2 ⟨rfl, hB2⟩; obtain ⟨k1, k2, k3, k4, k5, k6⟩ := keepS hB2 w.heap.size (w.heap.size + 1) (w.heap.size + 1 + 1 + 1 + 1 + 1) (by first | assumption | (simp <;> omega)) (by first | assumption | (simp <;> omega)) (by first | assumption | (simp <;> omega)) (by first | assumption | simp [go_sem, *]); have l1 := Nat.lt_of_lt_of_le (show w.heap.size < _ by first | assumption | (simp <;> omega)) hB2.size; have l2 := Nat.lt_of_lt_of_le (show w.heap.size + 1 < _ by first | assumption | (simp <;> omega)) hB2.size; have l3 := Nat.lt_of_lt_of_le (show w.heap.size + 1 + 1 + 1 + 1 + 1 < _ by first | assumption | (simp <;> omega)) hB2.size))
    all_goals
      go_wp2
      go_ret
      refine ⟨rfl, ?_⟩
      repeat (first | exact Below.refl _ _ | refine below_al ?_ | refine Below.drew ?_ | refine below_then ?_ hB2 | refine below_then ?_ hB1)
set_option maxRecDepth 100000 in
set_option maxHeartbeats 2000000 in
theorem conv_sdnum (x s p q R E F : Nat) (w : World) (g : Gl w) (hs : s ≤ 1) (hp : p < 255) (hq : q < 8388608) (hx : x = s * 2147483648 + p * 8388608 + q) (hE : E < 2048) (hF : F < 4503599627370496)
    (hNu : ∀ w, Gl w → Calls Tryd.prog 36 #[.agg #[.int .u64 p, .int .u64 q], .agg #[.int .i64 8, .int .i64 23]] w fun e w' => e = .returned (.float .f64 R) ∧ Below w.heap.size w w')
    (hPa : ∀ w, Gl w → Calls Tryd.prog 35 #[.float .f64 R, .agg #[.int .i64 11, .int .i64 52]] w fun e w' => e = .returned (.agg #[.int .u64 E, .int .u64 F]) ∧ Below w.heap.size w w') :
    Calls Tryd.prog 23 #[.int .u64 x, .agg #[.int .i64 8, .int .i64 23], .agg #[.int .i64 11, .int .i64 52]] w fun e w' => e = .returned (.int .u64 (s * 9223372036854775808 + E * 4503599627370496 + F : Nat)) ∧ Below w.heap.size w w' := by
  have hSp : Hid (∀ w, Calls Tryd.prog 28 #[.int .u64 x, .agg #[.int .i64 8, .int .i64 23]] w fun e w' => e = .returned (.tuple #[.int .u64 s, .agg #[.int .u64 p, .int .u64 q]]) ∧ w' = (((w.alloc (.cells #[.int .i64 8, .int .i64 23] 44)).alloc (.cells #[.int .u64 p, .int .u64 q] 53)).alloc (.cells #[.int .i64 8, .int .i64 23] 44)).drew) := fun w => split_s x s p q w hs (by omega) hq hx
  clear hx
  have hJ : Hid (∀ w, Calls Tryd.prog 33 #[.int .u64 s, .agg #[.int .u64 E, .int .u64 F], .agg #[.int .i64 11, .int .i64 52]] w fun e w' => e = .returned (.int .u64 (s * 9223372036854775808 + E * 4503599627370496 + F : Nat)) ∧ Below w.heap.size w w') := fun w => join_d s E F w hs hE hF
  obtain ⟨r, hr⟩ : ∃ r, s * 9223372036854775808 + E * 4503599627370496 + F = r := ⟨_, rfl⟩
  rw [hr] at hJ ⊢
  clear hr
  have hpi : ((p : Int) == 255) = false := by simp; omega
  have hNu := hide hNu
  have hPa := hide hPa
  have g := hide g
  clear hp hq hE hF hs
  go_enter Tryd.func23, Tryd.ntmps23
  go_wp2_with (go_at_call 28; refine (hSp.out _).mono ?_; rintro e w' ⟨rfl, rfl⟩)
  go_region_held3 (fun w' => w'.cell? ⟨w.heap.size, 0, none⟩ = some (.int .i64 8) ∧ w'.cell? ⟨w.heap.size, 1, none⟩ = some (.int .i64 23) ∧ w'.cell? ⟨w.heap.size + 1, 0, none⟩ = some (.int .i64 11) ∧ w'.cell? ⟨w.heap.size + 1, 1, none⟩ = some (.int .i64 52) ∧ w'.cell? ⟨w.heap.size + 1 + 1 + 1 + 1 + 1, 0, none⟩ = some (.int .u64 p) ∧ w'.cell? ⟨w.heap.size + 1 + 1 + 1 + 1 + 1, 1, none⟩ = some (.int .u64 q)) (first | (simp [go_sem]; done) | go_keep) (first | (go_at_call 29; refine (ones_s _).mono ?_; rintro e w' ⟨rfl, rfl⟩))
  all_goals
    go_wp2
    go_region_held3 (fun w' => w'.cell? ⟨w.heap.size, 0, none⟩ = some (.int .i64 8) ∧ w'.cell? ⟨w.heap.size, 1, none⟩ = some (.int .i64 23) ∧ w'.cell? ⟨w.heap.size + 1, 0, none⟩ = some (.int .i64 11) ∧ w'.cell? ⟨w.heap.size + 1, 1, none⟩ = some (.int .i64 52) ∧ w'.cell? ⟨w.heap.size + 1 + 1 + 1 + 1 + 1, 0, none⟩ = some (.int .u64 p) ∧ w'.cell? ⟨w.heap.size + 1 + 1 + 1 + 1 + 1, 1, none⟩ = some (.int .u64 q)) (first | (simp [go_sem]; done) | go_keep) (first | (go_at_call 36; refine (hNu.out _ (g.out.below ?_)).mono ?_; (repeat (first | exact Below.refl _ _ | refine below_al ?_ | refine Below.drew ?_)); rintro e w1 ⟨rfl, hB1⟩; obtain ⟨k1, k2, k3, k4, k5, k6⟩ := keepS hB1 w.heap.size (w.heap.size + 1) (w.heap.size + 1 + 1 + 1 + 1 + 1) (by first | assumption | (simp <;> omega)) (by first | assumption | (simp <;> omega)) (by first | assumption | (simp <;> omega)) (by first | assumption | simp [go_sem, *]); have l1 := Nat.lt_of_lt_of_le (show w.heap.size < _ by first | assumption | (simp <;> omega)) hB1.size; have l2 := Nat.lt_of_lt_of_le (show w.heap.size + 1 < _ by first | assumption | (simp <;> omega)) hB1.size; have l3 := Nat.lt_of_lt_of_le (show w.heap.size + 1 + 1 + 1 + 1 + 1 < _ by first | assumption | (simp <;> omega)) hB1.size) | (go_at_call 35; refine (hPa.out _ (g.out.below ?_)).mono ?_; (repeat (first | exact Below.refl _ _ | refine below_al ?_ | refine Below.drew ?_ | refine below_then ?_ hB1)); rintro e w2 ⟨rfl, hB2⟩; obtain ⟨k1, k2, k3, k4, k5, k6⟩ := keepS hB2 w.heap.size (w.heap.size + 1) (w.heap.size + 1 + 1 + 1 + 1 + 1) (by first | assumption | (simp <;> omega)) (by first | assumption | (simp <;> omega)) (by first | assumption | (simp <;> omega)) (by first | assumption | simp [go_sem, *]); have l1 := Nat.lt_of_lt_of_le (show w.heap.size < _ by first | assumption | (simp <;> omega)) hB2.size; have l2 := Nat.lt_of_lt_of_le (show w.heap.size + 1 < _ by first | assumption | (simp <;> omega)) hB2.size; have l3 := Nat.lt_of_lt_of_le (show w.heap.size + 1 + 1 + 1 + 1 + 1 < _ by first | assumption | (simp <;> omega)) hB2.size) | (go_at_call 33; refine (hJ.out _).mono ?_; rintro e w3 ⟨rfl, hB3⟩; obtain ⟨k1, k2, k3, k4, k5, k6⟩ := keepS hB3 w.heap.size (w.heap.size + 1) (w.heap.size + 1 + 1 + 1 + 1 + 1) (by first | assumption | (simp <;> omega)) (by first | assumption | (simp <;> omega)) (by first | assumption | (simp <;> omega)) (by first | assumption | simp [go_sem, *]); have l1 := Nat.lt_of_lt_of_le (show w.heap.size < _ by first | assumption | (simp <;> omega)) hB3.size; have l2 := Nat.lt_of_lt_of_le (show w.heap.size + 1 < _ by first | assumption | (simp <;> omega)) hB3.size; have l3 := Nat.lt_of_lt_of_le (show w.heap.size + 1 + 1 + 1 + 1 + 1 < _ by first | assumption | (simp <;> omega)) hB3.size))
    all_goals
      go_wp2
      go_ret
      refine ⟨rfl, ?_⟩
      repeat (first | exact Below.refl _ _ | refine below_al ?_ | refine Below.drew ?_ | refine below_then ?_ hB3 | refine below_then ?_ hB2 | refine below_then ?_ hB1)
set_option maxRecDepth 100000 in
set_option maxHeartbeats 2000000 in
theorem conv_dhinf (x s q : Nat) (w : World) (hs : s ≤ 1) (hq : q < 4503599627370496) (hx : x = s * 9223372036854775808 + 2047 * 4503599627370496 + q) :
    Calls Tryd.prog 23 #[.int .u64 x, .agg #[.int .i64 11, .int .i64 52], .agg #[.int .i64 5, .int .i64 10]] w fun e w' => e = .returned (.int .u64 (s * 32768 + 31 * 1024 + (q / 4398046511104) : Nat)) ∧ Below w.heap.size w w' := by
  obtain ⟨p, hp⟩ : ∃ p, p = 2047 := ⟨_, rfl⟩
  rw [← hp] at hx
  have hSp : Hid (∀ w, Calls Tryd.prog 28 #[.int .u64 x, .agg #[.int .i64 11, .int .i64 52]] w fun e w' => e = .returned (.tuple #[.int .u64 s, .agg #[.int .u64 p, .int .u64 q]]) ∧ w' = (((w.alloc (.cells #[.int .i64 11, .int .i64 52] 44)).alloc (.cells #[.int .u64 p, .int .u64 q] 53)).alloc (.cells #[.int .i64 11, .int .i64 52] 44)).drew) := fun w => split_d x s p q w hs (by omega) hq hx
  clear hx
  have hJ : Hid (∀ w, Calls Tryd.prog 33 #[.int .u64 s, .agg #[.int .u64 31, .int .u64 ((q / 4398046511104) : Nat)], .agg #[.int .i64 5, .int .i64 10]] w fun e w' => e = .returned (.int .u64 (s * 32768 + 31 * 1024 + (q / 4398046511104) : Nat)) ∧ Below w.heap.size w w') := fun w => join_h s 31 (q / 4398046511104) w hs (by omega) (by omega)
  have hA : Hid (∀ w, Calls Tryd.prog 34 #[.int .u64 q, .agg #[.int .i64 11, .int .i64 52], .agg #[.int .i64 5, .int .i64 10]] w fun e w' => e = .returned (.int .u64 ((q / 4398046511104) : Nat)) ∧ Below w.heap.size w w') := fun w => align_dh q w hq
  obtain ⟨r, hr⟩ : ∃ r, s * 32768 + 31 * 1024 + (q / 4398046511104) = r := ⟨_, rfl⟩
  obtain ⟨q2, hq2⟩ : ∃ q2, (q / 4398046511104) = q2 := ⟨_, rfl⟩
  rw [hq2] at hr hJ hA
  rw [hq2, hr]
  rw [hr] at hJ
  clear hr hq2
  have hpi : ((p : Int) == 2047) = true := by simp [hp]
  clear hp
  go_enter Tryd.func23, Tryd.ntmps23
  go_wp2_with (go_at_call 28; refine (hSp.out _).mono ?_; rintro e w' ⟨rfl, rfl⟩)
  go_region_held3 (fun w' => w'.cell? ⟨w.heap.size, 0, none⟩ = some (.int .i64 11) ∧ w'.cell? ⟨w.heap.size, 1, none⟩ = some (.int .i64 52) ∧ w'.cell? ⟨w.heap.size + 1, 0, none⟩ = some (.int .i64 5) ∧ w'.cell? ⟨w.heap.size + 1, 1, none⟩ = some (.int .i64 10) ∧ w'.cell? ⟨w.heap.size + 1 + 1 + 1 + 1 + 1, 0, none⟩ = some (.int .u64 p) ∧ w'.cell? ⟨w.heap.size + 1 + 1 + 1 + 1 + 1, 1, none⟩ = some (.int .u64 q)) (first | (simp [go_sem]; done) | go_keep) (first | (go_at_call 29; refine (ones_d _).mono ?_; rintro e w' ⟨rfl, rfl⟩))
  all_goals
    go_wp2
    go_region_held3 (fun w' => w'.cell? ⟨w.heap.size, 0, none⟩ = some (.int .i64 11) ∧ w'.cell? ⟨w.heap.size, 1, none⟩ = some (.int .i64 52) ∧ w'.cell? ⟨w.heap.size + 1, 0, none⟩ = some (.int .i64 5) ∧ w'.cell? ⟨w.heap.size + 1, 1, none⟩ = some (.int .i64 10) ∧ w'.cell? ⟨w.heap.size + 1 + 1 + 1 + 1 + 1, 0, none⟩ = some (.int .u64 p) ∧ w'.cell? ⟨w.heap.size + 1 + 1 + 1 + 1 + 1, 1, none⟩ = some (.int .u64 q)) (first | (simp [go_sem]; done) | go_keep) (first | (go_at_call 29; refine (ones_h _).mono ?_; rintro e w' ⟨rfl, rfl⟩) | (go_at_call 34; refine (hA.out _).mono ?_; rintro e w1 ⟨rfl, hB1⟩; obtain ⟨k1, k2, k3, k4, k5, k6⟩ := keepS hB1 w.heap.size (w.heap.size + 1) (w.heap.size + 1 + 1 + 1 + 1 + 1) (by first | assumption | (simp <;> omega)) (by first | assumption | (simp <;> omega)) (by first | assumption | (simp <;> omega)) (by first | assumption | simp [go_sem, *]); have l1 := Nat.lt_of_lt_of_le (show w.heap.size < _ by first | assumption | (simp <;> omega)) hB1.size; have l2 := Nat.lt_of_lt_of_le (show w.heap.size + 1 < _ by first | assumption | (simp <;> omega)) hB1.size; have l3 := Nat.lt_of_lt_of_le (show w.heap.size + 1 + 1 + 1 + 1 + 1 < _ by first | assumption | (simp <;> omega)) hB1.size) | (go_at_call 33; refine (hJ.out _).mono ?_; rintro e w2 ⟨rfl, hB2⟩; obtain ⟨k1, k2, k3, k4, k5, k6⟩ := keepS hB2 w.heap.size (w.heap.size + 1) (w.heap.size + 1 + 1 + 1 + 1 + 1) (by first | assumption | (simp <;> omega)) (by first | assumption | (simp <;> omega)) (by first | assumption | (simp <;> omega)) (by first | assumption | simp [go_sem, *]); have l1 := Nat.lt_of_lt_of_le (show w.heap.size < _ by first | assumption | (simp <;> omega)) hB2.size; have l2 := Nat.lt_of_lt_of_le (show w.heap.size + 1 < _ by first | assumption | (simp <;> omega)) hB2.size; have l3 := Nat.lt_of_lt_of_le (show w.heap.size + 1 + 1 + 1 + 1 + 1 < _ by first | assumption | (simp <;> omega)) hB2.size))
    all_goals
      go_wp2
      go_ret
      refine ⟨rfl, ?_⟩
      repeat (first | exact Below.refl _ _ | refine below_al ?_ | refine Below.drew ?_ | refine below_then ?_ hB2 | refine below_then ?_ hB1)
set_option maxRecDepth 100000 in
set_option maxHeartbeats 2000000 in
theorem conv_dhnum (x s p q R E F : Nat) (w : World) (g : Gl w) (hs : s ≤ 1) (hp : p < 2047) (hq : q < 4503599627370496) (hx : x = s * 9223372036854775808 + p * 4503599627370496 + q) (hE : E < 32) (hF : F < 1024)
    (hNu : ∀ w, Gl w → Calls Tryd.prog 36 #[.agg #[.int .u64 p, .int .u64 q], .agg #[.int .i64 11, .int .i64 52]] w fun e w' => e = .returned (.float .f64 R) ∧ Below w.heap.size w w')
    (hPa : ∀ w, Gl w → Calls Tryd.prog 35 #[.float .f64 R, .agg #[.int .i64 5, .int .i64 10]] w fun e w' => e = .returned (.agg #[.int .u64 E, .int .u64 F]) ∧ Below w.heap.size w w') :
    Calls Tryd.prog 23 #[.int .u64 x, .agg #[.int .i64 11, .int .i64 52], .agg #[.int .i64 5, .int .i64 10]] w fun e w' => e = .returned (.int .u64 (s * 32768 + E * 1024 + F : Nat)) ∧ Below w.heap.size w w' := by
  have hSp : Hid (∀ w, Calls Tryd.prog 28 #[.int .u64 x, .agg #[.int .i64 11, .int .i64 52]] w fun e w' => e = .returned (.tuple #[.int .u64 s, .agg #[.int .u64 p, .int .u64 q]]) ∧ w' = (((w.alloc (.cells #[.int .i64 11, .int .i64 52] 44)).alloc (.cells #[.int .u64 p, .int .u64 q] 53)).alloc (.cells #[.int .i64 11, .int .i64 52] 44)).drew) := fun w => split_d x s p q w hs (by omega) hq hx
  clear hx
  have hJ : Hid (∀ w, Calls Tryd.prog 33 #[.int .u64 s, .agg #[.int .u64 E, .int .u64 F], .agg #[.int .i64 5, .int .i64 10]] w fun e w' => e = .returned (.int .u64 (s * 32768 + E * 1024 + F : Nat)) ∧ Below w.heap.size w w') := fun w => join_h s E F w hs hE hF
  obtain ⟨r, hr⟩ : ∃ r, s * 32768 + E * 1024 + F = r := ⟨_, rfl⟩
  rw [hr] at hJ ⊢
  clear hr
  have hpi : ((p : Int) == 2047) = false := by simp; omega
  have hNu := hide hNu
  have hPa := hide hPa
  have g := hide g
  clear hp hq hE hF hs
  go_enter Tryd.func23, Tryd.ntmps23
  go_wp2_with (go_at_call 28; refine (hSp.out _).mono ?_; rintro e w' ⟨rfl, rfl⟩)
  go_region_held3 (fun w' => w'.cell? ⟨w.heap.size, 0, none⟩ = some (.int .i64 11) ∧ w'.cell? ⟨w.heap.size, 1, none⟩ = some (.int .i64 52) ∧ w'.cell? ⟨w.heap.size + 1, 0, none⟩ = some (.int .i64 5) ∧ w'.cell? ⟨w.heap.size + 1, 1, none⟩ = some (.int .i64 10) ∧ w'.cell? ⟨w.heap.size + 1 + 1 + 1 + 1 + 1, 0, none⟩ = some (.int .u64 p) ∧ w'.cell? ⟨w.heap.size + 1 + 1 + 1 + 1 + 1, 1, none⟩ = some (.int .u64 q)) (first | (simp [go_sem]; done) | go_keep) (first | (go_at_call 29; refine (ones_d _).mono ?_; rintro e w' ⟨rfl, rfl⟩))
  all_goals
    go_wp2
    go_region_held3 (fun w' => w'.cell? ⟨w.heap.size, 0, none⟩ = some (.int .i64 11) ∧ w'.cell? ⟨w.heap.size, 1, none⟩ = some (.int .i64 52) ∧ w'.cell? ⟨w.heap.size + 1, 0, none⟩ = some (.int .i64 5) ∧ w'.cell? ⟨w.heap.size + 1, 1, none⟩ = some (.int .i64 10) ∧ w'.cell? ⟨w.heap.size + 1 + 1 + 1 + 1 + 1, 0, none⟩ = some (.int .u64 p) ∧ w'.cell? ⟨w.heap.size + 1 + 1 + 1 + 1 + 1, 1, none⟩ = some (.int .u64 q)) (first | (simp [go_sem]; done) | go_keep) (first | (go_at_call 36; refine (hNu.out _ (g.out.below ?_)).mono ?_; (repeat (first | exact Below.refl _ _ | refine below_al ?_ | refine Below.drew ?_)); rintro e w1 ⟨rfl, hB1⟩; obtain ⟨k1, k2, k3, k4, k5, k6⟩ := keepS hB1 w.heap.size (w.heap.size + 1) (w.heap.size + 1 + 1 + 1 + 1 + 1) (by first | assumption | (simp <;> omega)) (by first | assumption | (simp <;> omega)) (by first | assumption | (simp <;> omega)) (by first | assumption | simp [go_sem, *]); have l1 := Nat.lt_of_lt_of_le (show w.heap.size < _ by first | assumption | (simp <;> omega)) hB1.size; have l2 := Nat.lt_of_lt_of_le (show w.heap.size + 1 < _ by first | assumption | (simp <;> omega)) hB1.size; have l3 := Nat.lt_of_lt_of_le (show w.heap.size + 1 + 1 + 1 + 1 + 1 < _ by first | assumption | (simp <;> omega)) hB1.size) | (go_at_call 35; refine (hPa.out _ (g.out.below ?_)).mono ?_; (repeat (first | exact Below.refl _ _ | refine below_al ?_ | refine Below.drew ?_ | refine below_then ?_ hB1)); rintro e w2 ⟨rfl, hB2⟩; obtain ⟨k1, k2, k3, k4, k5, k6⟩ := keepS hB2 w.heap.size (w.heap.size + 1) (w.heap.size + 1 + 1 + 1 + 1 + 1) (by first | assumption | (simp <;> omega)) (by first | assumption | (simp <;> omega)) (by first | assumption | (simp <;> omega)) (by first | assumption | simp [go_sem, *]); have l1 := Nat.lt_of_lt_of_le (show w.heap.size < _ by first | assumption | (simp <;> omega)) hB2.size; have l2 := Nat.lt_of_lt_of_le (show w.heap.size + 1 < _ by first | assumption | (simp <;> omega)) hB2.size; have l3 := Nat.lt_of_lt_of_le (show w.heap.size + 1 + 1 + 1 + 1 + 1 < _ by first | assumption | (simp <;> omega)) hB2.size) | (go_at_call 33; refine (hJ.out _).mono ?_; rintro e w3 ⟨rfl, hB3⟩; obtain ⟨k1, k2, k3, k4, k5, k6⟩ := keepS hB3 w.heap.size (w.heap.size + 1) (w.heap.size + 1 + 1 + 1 + 1 + 1) (by first | assumption | (simp <;> omega)) (by first | assumption | (simp <;> omega)) (by first | assumption | (simp <;> omega)) (by first | assumption | simp [go_sem, *]); have l1 := Nat.lt_of_lt_of_le (show w.heap.size < _ by first | assumption | (simp <;> omega)) hB3.size; have l2 := Nat.lt_of_lt_of_le (show w.heap.size + 1 < _ by first | assumption | (simp <;> omega)) hB3.size; have l3 := Nat.lt_of_lt_of_le (show w.heap.size + 1 + 1 + 1 + 1 + 1 < _ by first | assumption | (simp <;> omega)) hB3.size))
    all_goals
      go_wp2
      go_ret
      refine ⟨rfl, ?_⟩
      repeat (first | exact Below.refl _ _ | refine below_al ?_ | refine Below.drew ?_ | refine below_then ?_ hB3 | refine below_then ?_ hB2 | refine below_then ?_ hB1)
set_option maxRecDepth 100000 in
set_option maxHeartbeats 2000000 in
theorem conv_dsinf (x s q : Nat) (w : World) (hs : s ≤ 1) (hq : q < 4503599627370496) (hx : x = s * 9223372036854775808 + 2047 * 4503599627370496 + q) :
    Calls Tryd.prog 23 #[.int .u64 x, .agg #[.int .i64 11, .int .i64 52], .agg #[.int .i64 8, .int .i64 23]] w fun e w' => e = .returned (.int .u64 (s * 2147483648 + 255 * 8388608 + (q / 536870912) : Nat)) ∧ Below w.heap.size w w' := by
  obtain ⟨p, hp⟩ : ∃ p, p = 2047 := ⟨_, rfl⟩
  rw [← hp] at hx
  have hSp : Hid (∀ w, Calls Tryd.prog 28 #[.int .u64 x, .agg #[.int .i64 11, .int .i64 52]] w fun e w' => e = .returned (.tuple #[.int .u64 s, .agg #[.int .u64 p, .int .u64 q]]) ∧ w' = (((w.alloc (.cells #[.int .i64 11, .int .i64 52] 44)).alloc (.cells #[.int .u64 p, .int .u64 q] 53)).alloc (.cells #[.int .i64 11, .int .i64 52] 44)).drew) := fun w => split_d x s p q w hs (by omega) hq hx
  clear hx
  have hJ : Hid (∀ w, Calls Tryd.prog 33 #[.int .u64 s, .agg #[.int .u64 255, .int .u64 ((q / 536870912) : Nat)], .agg #[.int .i64 8, .int .i64 23]] w fun e w' => e = .returned (.int .u64 (s * 2147483648 + 255 * 8388608 + (q / 536870912) : Nat)) ∧ Below w.heap.size w w') := fun w => join_s s 255 (q / 536870912) w hs (by omega) (by omega)
  have hA : Hid (∀ w, Calls Tryd.prog 34 #[.int .u64 q, .agg #[.int .i64 11, .int .i64 52], .agg #[.int .i64 8, .int .i64 23]] w fun e w' => e = .returned (.int .u64 ((q / 536870912) : Nat)) ∧ Below w.heap.size w w') := fun w => align_ds q w hq
  obtain ⟨r, hr⟩ : ∃ r, s * 2147483648 + 255 * 8388608 + (q / 536870912) = r := ⟨_, rfl⟩
  obtain ⟨q2, hq2⟩ : ∃ q2, (q / 536870912) = q2 := ⟨_, rfl⟩
  rw [hq2] at hr hJ hA
  rw [hq2, hr]
  rw [hr] at hJ
  clear hr hq2
  have hpi : ((p : Int) == 2047) = true := by simp [hp]
  clear hp
  go_enter Tryd.func23, Tryd.ntmps23
  go_wp2_with (go_at_call 28; refine (hSp.out _).mono ?_; rintro e w' ⟨rfl, rfl⟩)
  go_region_held3 (fun w' => w'.cell? ⟨w.heap.size, 0, none⟩ = some (.int .i64 11) ∧ w'.cell? ⟨w.heap.size, 1, none⟩ = some (.int .i64 52) ∧ w'.cell? ⟨w.heap.size + 1, 0, none⟩ = some (.int .i64 8) ∧ w'.cell? ⟨w.heap.size + 1, 1, none⟩ = some (.int .i64 23) ∧ w'.cell? ⟨w.heap.size + 1 + 1 + 1 + 1 + 1, 0, none⟩ = some (.int .u64 p) ∧ w'.cell? ⟨w.heap.size + 1 + 1 + 1 + 1 + 1, 1, none⟩ = some (.int .u64 q)) (first | (simp [go_sem]; done) | go_keep) (first | (go_at_call 29; refine (ones_d _).mono ?_; rintro e w' ⟨rfl, rfl⟩))
  all_goals
    go_wp2
    go_region_held3 (fun w' => w'.cell? ⟨w.heap.size, 0, none⟩ = some (.int .i64 11) ∧ w'.cell? ⟨w.heap.size, 1, none⟩ = some (.int .i64 52) ∧ w'.cell? ⟨w.heap.size + 1, 0, none⟩ = some (.int .i64 8) ∧ w'.cell? ⟨w.heap.size + 1, 1, none⟩ = some (.int .i64 23) ∧ w'.cell? ⟨w.heap.size + 1 + 1 + 1 + 1 + 1, 0, none⟩ = some (.int .u64 p) ∧ w'.cell? ⟨w.heap.size + 1 + 1 + 1 + 1 + 1, 1, none⟩ = some (.int .u64 q)) (first | (simp [go_sem]; done) | go_keep) (first | (go_at_call 29; refine (ones_s _).mono ?_; rintro e w' ⟨rfl, rfl⟩) | (go_at_call 34; refine (hA.out _).mono ?_; rintro e w1 ⟨rfl, hB1⟩; obtain ⟨k1, k2, k3, k4, k5, k6⟩ := keepS hB1 w.heap.size (w.heap.size + 1) (w.heap.size + 1 + 1 + 1 + 1 + 1) (by first | assumption | (simp <;> omega)) (by first | assumption | (simp <;> omega)) (by first | assumption | (simp <;> omega)) (by first | assumption | simp [go_sem, *]); have l1 := Nat.lt_of_lt_of_le (show w.heap.size < _ by first | assumption | (simp <;> omega)) hB1.size; have l2 := Nat.lt_of_lt_of_le (show w.heap.size + 1 < _ by first | assumption | (simp <;> omega)) hB1.size; have l3 := Nat.lt_of_lt_of_le (show w.heap.size + 1 + 1 + 1 + 1 + 1 < _ by first | assumption | (simp <;> omega)) hB1.size) | (go_at_call 33; refine (hJ.out _).mono ?_; rintro e w2 ⟨rfl, hB2⟩; obtain ⟨k1, k2, k3, k4, k5, k6⟩ := keepS hB2 w.heap.size (w.heap.size + 1) (w.heap.size + 1 + 1 + 1 + 1 + 1) (by first | assumption | (simp <;> omega)) (by first | assumption | (simp <;> omega)) (by first | assumption | (simp <;> omega)) (by first | assumption | simp [go_sem, *]); have l1 := Nat.lt_of_lt_of_le (show w.heap.size < _ by first | assumption | (simp <;> omega)) hB2.size; have l2 := Nat.lt_of_lt_of_le (show w.heap.size + 1 < _ by first | assumption | (simp <;> omega)) hB2.size; have l3 := Nat.lt_of_lt_of_le (show w.heap.size + 1 + 1 + 1 + 1 + 1 < _ by first | assumption | (simp <;> omega)) hB2.size))
    all_goals
      go_wp2
      go_ret
      refine ⟨rfl, ?_⟩
      repeat (first | exact Below.refl _ _ | refine below_al ?_ | refine Below.drew ?_ | refine below_then ?_ hB2 | refine below_then ?_ hB1)
set_option maxRecDepth 100000 in
set_option maxHeartbeats 2000000 in
theorem conv_dsnum (x s p q R E F : Nat) (w : World) (g : Gl w) (hs : s ≤ 1) (hp : p < 2047) (hq : q < 4503599627370496) (hx : x = s * 9223372036854775808 + p * 4503599627370496 + q) (hE : E < 256) (hF : F < 8388608)
    (hNu : ∀ w, Gl w → Calls Tryd.prog 36 #[.agg #[.int .u64 p, .int .u64 q], .agg #[.int .i64 11, .int .i64 52]] w fun e w' => e = .returned (.float .f64 R) ∧ Below w.heap.size w w')
    (hPa : ∀ w, Gl w → Calls Tryd.prog 35 #[.float .f64 R, .agg #[.int .i64 8, .int .i64 23]] w fun e w' => e = .returned (.agg #[.int .u64 E, .int .u64 F]) ∧ Below w.heap.size w w') :
    Calls Tryd.prog 23 #[.int .u64 x, .agg #[.int .i64 11, .int .i64 52], .agg #[.int .i64 8, .int .i64 23]] w fun e w' => e = .returned (.int .u64 (s * 2147483648 + E * 8388608 + F : Nat)) ∧ Below w.heap.size w w' := by
  have hSp : Hid (∀ w, Calls Tryd.prog 28 #[.int .u64 x, .agg #[.int .i64 11, .int .i64 52]] w fun e w' => e = .returned (.tuple #[.int .u64 s, .agg #[.int .u64 p, .int .u64 q]]) ∧ w' = (((w.alloc (.cells #[.int .i64 11, .int .i64 52] 44)).alloc (.cells #[.int .u64 p, .int .u64 q] 53)).alloc (.cells #[.int .i64 11, .int .i64 52] 44)).drew) := fun w => split_d x s p q w hs (by omega) hq hx
  clear hx
  have hJ : Hid (∀ w, Calls Tryd.prog 33 #[.int .u64 s, .agg #[.int .u64 E, .int .u64 F], .agg #[.int .i64 8, .int .i64 23]] w fun e w' => e = .returned (.int .u64 (s * 2147483648 + E * 8388608 + F : Nat)) ∧ Below w.heap.size w w') := fun w => join_s s E F w hs hE hF
  obtain ⟨r, hr⟩ : ∃ r, s * 2147483648 + E * 8388608 + F = r := ⟨_, rfl⟩
  rw [hr] at hJ ⊢
  clear hr
  have hpi : ((p : Int) == 2047) = false := by simp; omega
  have hNu := hide hNu
  have hPa := hide hPa
  have g := hide g
  clear hp hq hE hF hs
  go_enter Tryd.func23, Tryd.ntmps23
  go_wp2_with (go_at_call 28; refine (hSp.out _).mono ?_; rintro e w' ⟨rfl, rfl⟩)
  go_region_held3 (fun w' => w'.cell? ⟨w.heap.size, 0, none⟩ = some (.int .i64 11) ∧ w'.cell? ⟨w.heap.size, 1, none⟩ = some (.int .i64 52) ∧ w'.cell? ⟨w.heap.size + 1, 0, none⟩ = some (.int .i64 8) ∧ w'.cell? ⟨w.heap.size + 1, 1, none⟩ = some (.int .i64 23) ∧ w'.cell? ⟨w.heap.size + 1 + 1 + 1 + 1 + 1, 0, none⟩ = some (.int .u64 p) ∧ w'.cell? ⟨w.heap.size + 1 + 1 + 1 + 1 + 1, 1, none⟩ = some (.int .u64 q)) (first | (simp [go_sem]; done) | go_keep) (first | (go_at_call 29; refine (ones_d _).mono ?_; rintro e w' ⟨rfl, rfl⟩))
  all_goals
    go_wp2
    go_region_held3 (fun w' => w'.cell? ⟨w.heap.size, 0, none⟩ = some (.int .i64 11) ∧ w'.cell? ⟨w.heap.size, 1, none⟩ = some (.int .i64 52) ∧ w'.cell? ⟨w.heap.size + 1, 0, none⟩ = some (.int .i64 8) ∧ w'.cell? ⟨w.heap.size + 1, 1, none⟩ = some (.int .i64 23) ∧ w'.cell? ⟨w.heap.size + 1 + 1 + 1 + 1 + 1, 0, none⟩ = some (.int .u64 p) ∧ w'.cell? ⟨w.heap.size + 1 + 1 + 1 + 1 + 1, 1, none⟩ = some (.int .u64 q)) (first | (simp [go_sem]; done) | go_keep) (first | (go_at_call 36; refine (hNu.out _ (g.out.below ?_)).mono ?_; (repeat (first | exact Below.refl _ _ | refine below_al ?_ | refine Below.drew ?_)); rintro e w1 ⟨rfl, hB1⟩; obtain ⟨k1, k2, k3, k4, k5, k6⟩ := keepS hB1 w.heap.size (w.heap.size + 1) (w.heap.size + 1 + 1 + 1 + 1 + 1) (by first | assumption | (simp <;> omega)) (by first | assumption | (simp <;> omega)) (by first | assumption | (simp <;> omega)) (by first | assumption | simp [go_sem, *]); have l1 := Nat.lt_of_lt_of_le (show w.heap.size < _ by first | assumption | (simp <;> omega)) hB1.size; have l2 := Nat.lt_of_lt_of_le (show w.heap.size + 1 < _ by first | assumption | (simp <;> omega)) hB1.size; have l3 := Nat.lt_of_lt_of_le (show w.heap.size + 1 + 1 + 1 + 1 + 1 < _ by first | assumption | (simp <;> omega)) hB1.size) | (go_at_call 35; refine (hPa.out _ (g.out.below ?_)).mono ?_; (repeat (first | exact Below.refl _ _ | refine below_al ?_ | refine Below.drew ?_ | refine below_then ?_ hB1)); rintro e w2 ⟨rfl, hB2⟩; obtain ⟨k1, k2, k3, k4, k5, k6⟩ := keepS hB2 w.heap.size (w.heap.size + 1) (w.heap.size + 1 + 1 + 1 + 1 + 1) (by first | assumption | (simp <;> omega)) (by first | assumption | (simp <;> omega)) (by first | assumption | (simp <;> omega)) (by first | assumption | simp [go_sem, *]); have l1 := Nat.lt_of_lt_of_le (show w.heap.size < _ by first | assumption | (simp <;> omega)) hB2.size; have l2 := Nat.lt_of_lt_of_le (show w.heap.size + 1 < _ by first | assumption | (simp <;> omega)) hB2.size; have l3 := Nat.lt_of_lt_of_le (show w.heap.size + 1 + 1 + 1 + 1 + 1 < _ by first | assumption | (simp <;> omega)) hB2.size) | (go_at_call 33; refine (hJ.out _).mono ?_; rintro e w3 ⟨rfl, hB3⟩; obtain ⟨k1, k2, k3, k4, k5, k6⟩ := keepS hB3 w.heap.size (w.heap.size + 1) (w.heap.size + 1 + 1 + 1 + 1 + 1) (by first | assumption | (simp <;> omega)) (by first | assumption | (simp <;> omega)) (by first | assumption | (simp <;> omega)) (by first | assumption | simp [go_sem, *]); have l1 := Nat.lt_of_lt_of_le (show w.heap.size < _ by first | assumption | (simp <;> omega)) hB3.size; have l2 := Nat.lt_of_lt_of_le (show w.heap.size + 1 < _ by first | assumption | (simp <;> omega)) hB3.size; have l3 := Nat.lt_of_lt_of_le (show w.heap.size + 1 + 1 + 1 + 1 + 1 < _ by first | assumption | (simp <;> omega)) hB3.size))
    all_goals
      go_wp2
      go_ret
      refine ⟨rfl, ?_⟩
      repeat (first | exact Below.refl _ _ | refine below_al ?_ | refine Below.drew ?_ | refine below_then ?_ hB3 | refine below_then ?_ hB2 | refine below_then ?_ hB1)
end Go.Proofs.YtjlhningaijneaaDoor
