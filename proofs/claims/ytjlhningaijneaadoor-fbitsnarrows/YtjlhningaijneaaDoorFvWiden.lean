/- calamusref02's Widen, Widen16, Widen32: walked. -/
import Derived.Test.YtjlhningaijneaaDoorFuRef
namespace Go.Proofs.YtjlhningaijneaaDoor
open Go.RowKit
set_option linter.unusedSimpArgs false
set_option linter.unusedVariables false
theorem keep5 {W w1 : World} (hB : Below W.heap.size W w1) (b : Nat) (hb : b < W.heap.size) (x0 x1 x2 x3 x4 : Value) (h0 : W.cell? ⟨b, 0, none⟩ = some x0) (h1 : W.cell? ⟨b, 1, none⟩ = some x1) (h2 : W.cell? ⟨b, 2, none⟩ = some x2) (h3 : W.cell? ⟨b, 3, none⟩ = some x3) (h4 : W.cell? ⟨b, 4, none⟩ = some x4) :
    w1.cell? ⟨b, 0, none⟩ = some x0 ∧ w1.cell? ⟨b, 1, none⟩ = some x1 ∧ w1.cell? ⟨b, 2, none⟩ = some x2 ∧ w1.cell? ⟨b, 3, none⟩ = some x3 ∧ w1.cell? ⟨b, 4, none⟩ = some x4 :=
  ⟨by rw [hB.cell (p := ⟨b, 0, none⟩) hb]; exact h0, by rw [hB.cell (p := ⟨b, 1, none⟩) hb]; exact h1, by rw [hB.cell (p := ⟨b, 2, none⟩) hb]; exact h2, by rw [hB.cell (p := ⟨b, 3, none⟩) hb]; exact h3, by rw [hB.cell (p := ⟨b, 4, none⟩) hb]; exact h4⟩
set_option maxRecDepth 100000 in
set_option maxHeartbeats 1000000 in
theorem fwiden_h0 (n : Bool) (s p q : Nat) (w : World) (hn : s = n.toNat) (hp : p < 32) (hq : q < 1024) (hc : clsF 31 p q = 1) :
    Calls Tryd.prog 25 #[.agg #[.bool n, .int .i64 p, .int .u64 q, .int .i64 5, .int .i64 10], .int .i64 15] w fun e w' => e = .returned (.int .u64 (s * 9223372036854775808 : Nat)) ∧ Below w.heap.size w w' := by
  have hBt := hide (rbits_any n s 0 0 · hn (by omega) (by omega))
  rw [Nat.zero_mul, Nat.add_zero] at hBt
  obtain ⟨r, hr⟩ : ∃ r, s * 9223372036854775808 = r := ⟨_, rfl⟩
  rw [hr] at hBt ⊢
  clear hr hn
  go_enter Tryd.func25, Tryd.ntmps25
  go_wp2_with (first | (go_at_call 37; go_fit (power_42 _); rintro e w' ⟨rfl, rfl⟩))
  go_fit (fclass_h p q n _ hp)
  rw [hc]
  rintro e w1 ⟨rfl, hB1⟩
  obtain ⟨k0, k1, k2, k3, k4⟩ := keep5 hB1 w.heap.size (by simp) (.bool n) (.int .i64 p) (.int .u64 q) (.int .i64 5) (.int .i64 10) (by simp [go_sem]) (by simp [go_sem]) (by simp [go_sem]) (by simp [go_sem]) (by simp [go_sem])
  go_wp2_with (first | (go_at_call 38; go_fit (hBt.out _); rintro e w' ⟨rfl, rfl⟩))
  go_ret
  exact ⟨rfl, below_alloc hB1⟩
set_option maxRecDepth 100000 in
set_option maxHeartbeats 1000000 in
theorem fwiden_hinf (n : Bool) (s p q : Nat) (w : World) (hn : s = n.toNat) (hp : p < 32) (hq : q < 1024) (c : Nat) (hc : clsF 31 p q = c) (hc' : c = 4 ∨ c = 5) :
    Calls Tryd.prog 25 #[.agg #[.bool n, .int .i64 p, .int .u64 q, .int .i64 5, .int .i64 10], .int .i64 15] w fun e w' => e = .returned (.int .u64 (s * 9223372036854775808 + 2047 * 4503599627370496 + q * 4398046511104 : Nat)) ∧ Below w.heap.size w w' := by
  have hBt := hide (rbits_any n s 2047 (q * 4398046511104) · hn (by omega) (by omega))
  have hm : (q : Int) * 4398046511104 = ((q * 4398046511104 : Nat) : Int) := by omega
  obtain ⟨m, hm'⟩ : ∃ m, q * 4398046511104 = m := ⟨_, rfl⟩
  have hml : m < 4503599627370496 := by omega
  rw [hm'] at hm hBt ⊢
  obtain ⟨r, hr⟩ : ∃ r, s * 9223372036854775808 + 2047 * 4503599627370496 + m = r := ⟨_, rfl⟩
  rw [hr] at hBt ⊢
  clear hm' hr hn
  rcases hc' with rfl | rfl
  all_goals
    go_enter Tryd.func25, Tryd.ntmps25
    go_wp2_with (first | (go_at_call 37; go_fit (power_42 _); rintro e w' ⟨rfl, rfl⟩))
    go_fit (fclass_h p q n _ hp)
    rw [hc]
    rintro e w1 ⟨rfl, hB1⟩
    obtain ⟨k0, k1, k2, k3, k4⟩ := keep5 hB1 w.heap.size (by simp) (.bool n) (.int .i64 p) (.int .u64 q) (.int .i64 5) (.int .i64 10) (by simp [go_sem]) (by simp [go_sem]) (by simp [go_sem]) (by simp [go_sem]) (by simp [go_sem])
    go_wp2_with (first | (go_at_call 38; go_fit (hBt.out _); rintro e w' ⟨rfl, rfl⟩))
    go_ret
    exact ⟨rfl, below_alloc hB1⟩
set_option maxRecDepth 100000 in
set_option maxHeartbeats 1000000 in
theorem fwiden_hnorm (n : Bool) (s p q : Nat) (w : World) (hn : s = n.toNat) (hp : p < 32) (hq : q < 1024) (hp' : p ≠ 31) (hc : clsF 31 p q = 3) :
    Calls Tryd.prog 25 #[.agg #[.bool n, .int .i64 p, .int .u64 q, .int .i64 5, .int .i64 10], .int .i64 15] w fun e w' => e = .returned (.int .u64 (s * 9223372036854775808 + (p + 1008) * 4503599627370496 + q * 4398046511104 : Nat)) ∧ Below w.heap.size w w' := by
  have hBt := hide (rbits_any n s (p + 1008) (q * 4398046511104) · hn (by omega) (by omega))
  have hm : (q : Int) * 4398046511104 = ((q * 4398046511104 : Nat) : Int) := by omega
  have he : (p : Int) - 15 + 1023 = ((p + 1008 : Nat) : Int) := by omega
  obtain ⟨m, hm'⟩ : ∃ m, q * 4398046511104 = m := ⟨_, rfl⟩
  have hml : m < 4503599627370496 := by omega
  obtain ⟨E, hE⟩ : ∃ E, p + 1008 = E := ⟨_, rfl⟩
  rw [hm'] at hm hBt ⊢
  rw [hE] at he hBt ⊢
  obtain ⟨r, hr⟩ : ∃ r, s * 9223372036854775808 + E * 4503599627370496 + m = r := ⟨_, rfl⟩
  rw [hr] at hBt ⊢
  clear hm' hE hr hn
  go_enter Tryd.func25, Tryd.ntmps25
  go_wp2_with (first | (go_at_call 37; go_fit (power_42 _); rintro e w' ⟨rfl, rfl⟩))
  go_fit (fclass_h p q n _ hp)
  rw [hc]
  rintro e w1 ⟨rfl, hB1⟩
  obtain ⟨k0, k1, k2, k3, k4⟩ := keep5 hB1 w.heap.size (by simp) (.bool n) (.int .i64 p) (.int .u64 q) (.int .i64 5) (.int .i64 10) (by simp [go_sem]) (by simp [go_sem]) (by simp [go_sem]) (by simp [go_sem]) (by simp [go_sem])
  go_wp2_with (first | (go_at_call 38; go_fit (hBt.out _); rintro e w' ⟨rfl, rfl⟩))
  go_ret
  exact ⟨rfl, below_alloc hB1⟩
set_option maxRecDepth 100000 in
set_option maxHeartbeats 1000000 in
theorem fwiden_hsub (n : Bool) (s p q : Nat) (w : World) (hn : s = n.toNat) (hp : p < 32) (hq : q < 1024) (hq0 : q ≠ 0) (hc : clsF 31 p q = 2) (t : Nat) (ht1 : 42 < t) (ht2 : t ≤ 52) (h1 : 4503599627370496 ≤ q * 2 ^ t) (h2 : q * 2 ^ t < 9007199254740992) :
    Calls Tryd.prog 25 #[.agg #[.bool n, .int .i64 p, .int .u64 q, .int .i64 5, .int .i64 10], .int .i64 15] w fun e w' => e = .returned (.int .u64 (s * 9223372036854775808 + (1051 - t) * 4503599627370496 + (q * 2 ^ t - 4503599627370496) : Nat)) ∧ Below w.heap.size w w' := by
  have hBt := hide (rbits_any n s (1051 - t) (q * 2 ^ t - 4503599627370496) · hn (by omega) (by omega))
  obtain ⟨J, hJ⟩ : ∃ J, t = 42 + J := ⟨t - 42, by omega⟩
  have hqJ : q * 2 ^ t = q * 2 ^ J * 4398046511104 := by rw [hJ, Nat.pow_add, Nat.mul_assoc, Nat.mul_comm (2 ^ J)]
  rw [hqJ] at h1 h2
  have hEnd := hide (show q * 2 ^ t - 4503599627370496 = (q * 2 ^ J - 1024) * 4398046511104 by rw [hqJ]; omega)
  have hJ1 := hide (show 1024 ≤ q * 2 ^ J ∧ q * 2 ^ J < 2048 by omega)
  have hJ' := hide hJ
  have hJb : J ≤ 52 := by omega
  obtain ⟨E, hE⟩ : ∃ E, 1051 - t = E := ⟨_, rfl⟩
  obtain ⟨f, hf⟩ : ∃ f, q * 2 ^ t - 4503599627370496 = f := ⟨_, rfl⟩
  have he := hide (show (1009 : Int) - (J : Int) = E by omega)
  have hfl : f < 4503599627370496 := by rw [← hf, hqJ]; omega
  rw [hf] at hEnd hBt ⊢
  rw [hE] at hBt ⊢
  obtain ⟨r, hr⟩ : ∃ r, s * 9223372036854775808 + E * 4503599627370496 + f = r := ⟨_, rfl⟩
  rw [hr] at hBt ⊢
  clear hqJ h1 h2 hr hf hE hn hJ
  go_enter Tryd.func25, Tryd.ntmps25
  go_wp2_with (first | (go_at_call 37; go_fit (power_42 _); rintro e w' ⟨rfl, rfl⟩))
  go_fit (fclass_h p q n _ hp)
  rw [hc]
  rintro e w1 ⟨rfl, hB1⟩
  obtain ⟨k0, k1, k2, k3, k4⟩ := keep5 hB1 w.heap.size (by simp) (.bool n) (.int .i64 p) (.int .u64 q) (.int .i64 5) (.int .i64 10) (by simp [go_sem]) (by simp [go_sem]) (by simp [go_sem]) (by simp [go_sem]) (by simp [go_sem])
  go_wp2
  go_loop [6, 7] (fun x e => ∃ j : Nat, j ≤ J ∧ x = .int .u64 (q * 2 ^ j : Nat) ∧ e = .int .i64 (1009 - (j : Int))) (fun x e => (intOf e).toNat)
  case atStart => exact ⟨0, Nat.zero_le _, by simp, by simp⟩
  case round =>
    obtain ⟨j, hj, rfl, rfl⟩ := hrel
    by_cases hlt : j < J
    · have hy1 := hide (show q * 2 ^ (j + 1) = 2 * (q * 2 ^ j) by rw [Nat.pow_succ]; simp [Nat.mul_comm, Nat.mul_left_comm])
      have hsm : q * 2 ^ j < 1024 := by
        have h3 : q * 2 ^ (j + 1) ≤ q * 2 ^ J := Nat.mul_le_mul_left _ (Nat.pow_le_pow_right (by decide) hlt)
        have := hJ1.out.2
        have := hy1.out
        omega
      obtain ⟨y, hy⟩ : ∃ y, q * 2 ^ j = y := ⟨_, rfl⟩
      rw [hy] at hy1 hsm ⊢
      have hsm' : (y : Int) < 1024 := by omega
      have hsb : y < 4294967296 := by omega
      have hq' := hide hq
      clear hy hsm hq
      go_wp2_with (first | (go_at_call 37; go_fit (power_10 _); rintro e w' ⟨rfl, rfl⟩))
      refine ⟨⟨j + 1, hlt, ?_, ?_⟩, ?_⟩
      · rw [hy1.out]; rfl
      · exact congrArg (Value.int IntKind.i64) (by omega)
      · simp only [intOf]; omega
    · have hje : j = J := by omega
      subst hje
      obtain ⟨y, hy⟩ : ∃ y, q * 2 ^ j = y := ⟨_, rfl⟩
      rw [hy] at hEnd hJ1 ⊢
      obtain ⟨y1, y2⟩ := hJ1.out
      have he := he.out
      have hF : ((y : Int) - 1024) * 4398046511104 = f := by
        have := hEnd.out
        omega
      have u1 : IntKind.u64.wrap ((y : Int) - 1024) = (y : Int) - 1024 := by rw [IntKind.wrap_u64]; omega
      have u2 : IntKind.u64.wrap (((y : Int) - 1024) * 4398046511104) = f := by rw [hF, IntKind.wrap_u64]; omega
      have y1' : decide ((y : Int) < 1024) = false := decide_eq_false (by omega)
      clear hy hF y1 y2 hq hJ1 hEnd
      go_wp2_with (first | (go_at_call 37; go_fit (power_10 _); rintro e w' ⟨rfl, rfl⟩))
      go_region_held3 (fun w' => w'.cell? ⟨w.heap.size, 0, none⟩ = some (.bool n) ∧ w'.cell? ⟨w.heap.size, 4, none⟩ = some (.int .i64 10)) (first | (simp [go_sem, *]; done) | go_keep) (first | (go_at_call 37; go_fit (power_10 _); rintro e w' ⟨rfl, rfl⟩) | (go_at_call 38; go_fit (hBt.out _); rintro e w' ⟨rfl, rfl⟩))
      all_goals
        go_wp2
        go_ret
        exact ⟨rfl, (below_alloc hB1).drew⟩
/-- The document's Widen16. -/
theorem rwiden16_any (x : Nat) (w : World) (hx : x < 65536) :
    Calls Tryd.prog 11 #[.int .u16 x] w fun e w' => e = .returned (.int .u64 (widh x : Nat)) ∧ Below w.heap.size w w' := by
  obtain ⟨s, hs⟩ : ∃ s, x / 32768 = s := ⟨_, rfl⟩
  obtain ⟨p, hp⟩ : ∃ p, x / 1024 % 32 = p := ⟨_, rfl⟩
  obtain ⟨q, hq⟩ : ∃ q, x % 1024 = q := ⟨_, rfl⟩
  obtain ⟨n, hn⟩ : ∃ n : Bool, s = n.toNat := by
    by_cases e : s = 1
    · exact ⟨true, e⟩
    · exact ⟨false, by show s = 0; omega⟩
  have hpl : p < 32 := by omega
  have hql : q < 1024 := by omega
  have hOf : Hid (∀ w, Calls Tryd.prog 24 #[.int .u64 x, .int .i64 5, .int .i64 10] w fun e w' => e = .returned (.agg #[.bool n, .int .i64 p, .int .u64 q, .int .i64 5, .int .i64 10]) ∧ Below w.heap.size w w') := fun w => of_h x s p q n w hn hpl hql (by omega)
  have hWi : Hid (∀ w, Calls Tryd.prog 25 #[.agg #[.bool n, .int .i64 p, .int .u64 q, .int .i64 5, .int .i64 10], .int .i64 15] w fun e w' => e = .returned (.int .u64 (widh x : Nat)) ∧ Below w.heap.size w w') := fun w => by
    unfold widh
    rw [hs, hp, hq]
    by_cases c1 : p = 31
    · rw [if_pos c1]
      by_cases c3 : q = 0
      · exact fwiden_hinf n s p q w hn hpl hql 4 (by unfold clsF; rw [if_neg (by omega), if_pos c1, if_pos c3]) (Or.inl rfl)
      · exact fwiden_hinf n s p q w hn hpl hql 5 (by unfold clsF; rw [if_neg (by omega), if_pos c1, if_neg c3]) (Or.inr rfl)
    rw [if_neg c1]
    by_cases c2 : p = 0
    · rw [if_pos c2]
      by_cases c3 : q = 0
      · rw [if_pos c3]
        exact fwiden_h0 n s p q w hn hpl hql (by unfold clsF; rw [if_pos c2, if_pos c3])
      · rw [if_neg c3]
        obtain ⟨h1, h2, h3, h4⟩ := tp_spec q (by omega) (by omega)
        have ht : 42 < tp q := by
          have : q.log2 < 10 := (Nat.log2_lt c3).2 (by show q < 1024; omega)
          omega
        exact fwiden_hsub n s p q w hn hpl hql c3 (by unfold clsF; rw [if_pos c2, if_neg c3]) (tp q) ht h3 h1 h2
    · rw [if_neg c2]
      exact fwiden_hnorm n s p q w hn hpl hql c1 (by unfold clsF; rw [if_neg c2, if_neg c1])
  clear hs hp hq hn
  go_enter Tryd.func11, Tryd.ntmps11
  go_wp2_with (first | (go_at_call 24; go_fit (hOf.out _); rintro e w1 ⟨rfl, hB1⟩) | (go_at_call 25; go_fit (hWi.out _); rintro e w2 ⟨rfl, hB2⟩))
  go_ret
  exact ⟨rfl, below_then hB1 hB2⟩
set_option maxRecDepth 100000 in
set_option maxHeartbeats 1000000 in
theorem fwiden_s0 (n : Bool) (s p q : Nat) (w : World) (hn : s = n.toNat) (hp : p < 256) (hq : q < 8388608) (hc : clsF 255 p q = 1) :
    Calls Tryd.prog 25 #[.agg #[.bool n, .int .i64 p, .int .u64 q, .int .i64 8, .int .i64 23], .int .i64 127] w fun e w' => e = .returned (.int .u64 (s * 9223372036854775808 : Nat)) ∧ Below w.heap.size w w' := by
  have hBt := hide (rbits_any n s 0 0 · hn (by omega) (by omega))
  rw [Nat.zero_mul, Nat.add_zero] at hBt
  obtain ⟨r, hr⟩ : ∃ r, s * 9223372036854775808 = r := ⟨_, rfl⟩
  rw [hr] at hBt ⊢
  clear hr hn
  go_enter Tryd.func25, Tryd.ntmps25
  go_wp2_with (first | (go_at_call 37; go_fit (power_29 _); rintro e w' ⟨rfl, rfl⟩))
  go_fit (fclass_s p q n _ hp)
  rw [hc]
  rintro e w1 ⟨rfl, hB1⟩
  obtain ⟨k0, k1, k2, k3, k4⟩ := keep5 hB1 w.heap.size (by simp) (.bool n) (.int .i64 p) (.int .u64 q) (.int .i64 8) (.int .i64 23) (by simp [go_sem]) (by simp [go_sem]) (by simp [go_sem]) (by simp [go_sem]) (by simp [go_sem])
  go_wp2_with (first | (go_at_call 38; go_fit (hBt.out _); rintro e w' ⟨rfl, rfl⟩))
  go_ret
  exact ⟨rfl, below_alloc hB1⟩
set_option maxRecDepth 100000 in
set_option maxHeartbeats 1000000 in
theorem fwiden_sinf (n : Bool) (s p q : Nat) (w : World) (hn : s = n.toNat) (hp : p < 256) (hq : q < 8388608) (c : Nat) (hc : clsF 255 p q = c) (hc' : c = 4 ∨ c = 5) :
    Calls Tryd.prog 25 #[.agg #[.bool n, .int .i64 p, .int .u64 q, .int .i64 8, .int .i64 23], .int .i64 127] w fun e w' => e = .returned (.int .u64 (s * 9223372036854775808 + 2047 * 4503599627370496 + q * 536870912 : Nat)) ∧ Below w.heap.size w w' := by
  have hBt := hide (rbits_any n s 2047 (q * 536870912) · hn (by omega) (by omega))
  have hm : (q : Int) * 536870912 = ((q * 536870912 : Nat) : Int) := by omega
  obtain ⟨m, hm'⟩ : ∃ m, q * 536870912 = m := ⟨_, rfl⟩
  have hml : m < 4503599627370496 := by omega
  rw [hm'] at hm hBt ⊢
  obtain ⟨r, hr⟩ : ∃ r, s * 9223372036854775808 + 2047 * 4503599627370496 + m = r := ⟨_, rfl⟩
  rw [hr] at hBt ⊢
  clear hm' hr hn
  rcases hc' with rfl | rfl
  all_goals
    go_enter Tryd.func25, Tryd.ntmps25
    go_wp2_with (first | (go_at_call 37; go_fit (power_29 _); rintro e w' ⟨rfl, rfl⟩))
    go_fit (fclass_s p q n _ hp)
    rw [hc]
    rintro e w1 ⟨rfl, hB1⟩
    obtain ⟨k0, k1, k2, k3, k4⟩ := keep5 hB1 w.heap.size (by simp) (.bool n) (.int .i64 p) (.int .u64 q) (.int .i64 8) (.int .i64 23) (by simp [go_sem]) (by simp [go_sem]) (by simp [go_sem]) (by simp [go_sem]) (by simp [go_sem])
    go_wp2_with (first | (go_at_call 38; go_fit (hBt.out _); rintro e w' ⟨rfl, rfl⟩))
    go_ret
    exact ⟨rfl, below_alloc hB1⟩
set_option maxRecDepth 100000 in
set_option maxHeartbeats 1000000 in
theorem fwiden_snorm (n : Bool) (s p q : Nat) (w : World) (hn : s = n.toNat) (hp : p < 256) (hq : q < 8388608) (hp' : p ≠ 255) (hc : clsF 255 p q = 3) :
    Calls Tryd.prog 25 #[.agg #[.bool n, .int .i64 p, .int .u64 q, .int .i64 8, .int .i64 23], .int .i64 127] w fun e w' => e = .returned (.int .u64 (s * 9223372036854775808 + (p + 896) * 4503599627370496 + q * 536870912 : Nat)) ∧ Below w.heap.size w w' := by
  have hBt := hide (rbits_any n s (p + 896) (q * 536870912) · hn (by omega) (by omega))
  have hm : (q : Int) * 536870912 = ((q * 536870912 : Nat) : Int) := by omega
  have he : (p : Int) - 127 + 1023 = ((p + 896 : Nat) : Int) := by omega
  obtain ⟨m, hm'⟩ : ∃ m, q * 536870912 = m := ⟨_, rfl⟩
  have hml : m < 4503599627370496 := by omega
  obtain ⟨E, hE⟩ : ∃ E, p + 896 = E := ⟨_, rfl⟩
  rw [hm'] at hm hBt ⊢
  rw [hE] at he hBt ⊢
  obtain ⟨r, hr⟩ : ∃ r, s * 9223372036854775808 + E * 4503599627370496 + m = r := ⟨_, rfl⟩
  rw [hr] at hBt ⊢
  clear hm' hE hr hn
  go_enter Tryd.func25, Tryd.ntmps25
  go_wp2_with (first | (go_at_call 37; go_fit (power_29 _); rintro e w' ⟨rfl, rfl⟩))
  go_fit (fclass_s p q n _ hp)
  rw [hc]
  rintro e w1 ⟨rfl, hB1⟩
  obtain ⟨k0, k1, k2, k3, k4⟩ := keep5 hB1 w.heap.size (by simp) (.bool n) (.int .i64 p) (.int .u64 q) (.int .i64 8) (.int .i64 23) (by simp [go_sem]) (by simp [go_sem]) (by simp [go_sem]) (by simp [go_sem]) (by simp [go_sem])
  go_wp2_with (first | (go_at_call 38; go_fit (hBt.out _); rintro e w' ⟨rfl, rfl⟩))
  go_ret
  exact ⟨rfl, below_alloc hB1⟩
set_option maxRecDepth 100000 in
set_option maxHeartbeats 1000000 in
theorem fwiden_ssub (n : Bool) (s p q : Nat) (w : World) (hn : s = n.toNat) (hp : p < 256) (hq : q < 8388608) (hq0 : q ≠ 0) (hc : clsF 255 p q = 2) (t : Nat) (ht1 : 29 < t) (ht2 : t ≤ 52) (h1 : 4503599627370496 ≤ q * 2 ^ t) (h2 : q * 2 ^ t < 9007199254740992) :
    Calls Tryd.prog 25 #[.agg #[.bool n, .int .i64 p, .int .u64 q, .int .i64 8, .int .i64 23], .int .i64 127] w fun e w' => e = .returned (.int .u64 (s * 9223372036854775808 + (926 - t) * 4503599627370496 + (q * 2 ^ t - 4503599627370496) : Nat)) ∧ Below w.heap.size w w' := by
  have hBt := hide (rbits_any n s (926 - t) (q * 2 ^ t - 4503599627370496) · hn (by omega) (by omega))
  obtain ⟨J, hJ⟩ : ∃ J, t = 29 + J := ⟨t - 29, by omega⟩
  have hqJ : q * 2 ^ t = q * 2 ^ J * 536870912 := by rw [hJ, Nat.pow_add, Nat.mul_assoc, Nat.mul_comm (2 ^ J)]
  rw [hqJ] at h1 h2
  have hEnd := hide (show q * 2 ^ t - 4503599627370496 = (q * 2 ^ J - 8388608) * 536870912 by rw [hqJ]; omega)
  have hJ1 := hide (show 8388608 ≤ q * 2 ^ J ∧ q * 2 ^ J < 16777216 by omega)
  have hJ' := hide hJ
  have hJb : J ≤ 52 := by omega
  obtain ⟨E, hE⟩ : ∃ E, 926 - t = E := ⟨_, rfl⟩
  obtain ⟨f, hf⟩ : ∃ f, q * 2 ^ t - 4503599627370496 = f := ⟨_, rfl⟩
  have he := hide (show (897 : Int) - (J : Int) = E by omega)
  have hfl : f < 4503599627370496 := by rw [← hf, hqJ]; omega
  rw [hf] at hEnd hBt ⊢
  rw [hE] at hBt ⊢
  obtain ⟨r, hr⟩ : ∃ r, s * 9223372036854775808 + E * 4503599627370496 + f = r := ⟨_, rfl⟩
  rw [hr] at hBt ⊢
  clear hqJ h1 h2 hr hf hE hn hJ
  go_enter Tryd.func25, Tryd.ntmps25
  go_wp2_with (first | (go_at_call 37; go_fit (power_29 _); rintro e w' ⟨rfl, rfl⟩))
  go_fit (fclass_s p q n _ hp)
  rw [hc]
  rintro e w1 ⟨rfl, hB1⟩
  obtain ⟨k0, k1, k2, k3, k4⟩ := keep5 hB1 w.heap.size (by simp) (.bool n) (.int .i64 p) (.int .u64 q) (.int .i64 8) (.int .i64 23) (by simp [go_sem]) (by simp [go_sem]) (by simp [go_sem]) (by simp [go_sem]) (by simp [go_sem])
  go_wp2
  go_loop [6, 7] (fun x e => ∃ j : Nat, j ≤ J ∧ x = .int .u64 (q * 2 ^ j : Nat) ∧ e = .int .i64 (897 - (j : Int))) (fun x e => (intOf e).toNat)
  case atStart => exact ⟨0, Nat.zero_le _, by simp, by simp⟩
  case round =>
    obtain ⟨j, hj, rfl, rfl⟩ := hrel
    by_cases hlt : j < J
    · have hy1 := hide (show q * 2 ^ (j + 1) = 2 * (q * 2 ^ j) by rw [Nat.pow_succ]; simp [Nat.mul_comm, Nat.mul_left_comm])
      have hsm : q * 2 ^ j < 8388608 := by
        have h3 : q * 2 ^ (j + 1) ≤ q * 2 ^ J := Nat.mul_le_mul_left _ (Nat.pow_le_pow_right (by decide) hlt)
        have := hJ1.out.2
        have := hy1.out
        omega
      obtain ⟨y, hy⟩ : ∃ y, q * 2 ^ j = y := ⟨_, rfl⟩
      rw [hy] at hy1 hsm ⊢
      have hsm' : (y : Int) < 8388608 := by omega
      have hsb : y < 4294967296 := by omega
      have hq' := hide hq
      clear hy hsm hq
      go_wp2_with (first | (go_at_call 37; go_fit (power_23 _); rintro e w' ⟨rfl, rfl⟩))
      refine ⟨⟨j + 1, hlt, ?_, ?_⟩, ?_⟩
      · rw [hy1.out]; rfl
      · exact congrArg (Value.int IntKind.i64) (by omega)
      · simp only [intOf]; omega
    · have hje : j = J := by omega
      subst hje
      obtain ⟨y, hy⟩ : ∃ y, q * 2 ^ j = y := ⟨_, rfl⟩
      rw [hy] at hEnd hJ1 ⊢
      obtain ⟨y1, y2⟩ := hJ1.out
      have he := he.out
      have hF : ((y : Int) - 8388608) * 536870912 = f := by
        have := hEnd.out
        omega
      have u1 : IntKind.u64.wrap ((y : Int) - 8388608) = (y : Int) - 8388608 := by rw [IntKind.wrap_u64]; omega
      have u2 : IntKind.u64.wrap (((y : Int) - 8388608) * 536870912) = f := by rw [hF, IntKind.wrap_u64]; omega
      have y1' : decide ((y : Int) < 8388608) = false := decide_eq_false (by omega)
      clear hy hF y1 y2 hq hJ1 hEnd
      go_wp2_with (first | (go_at_call 37; go_fit (power_23 _); rintro e w' ⟨rfl, rfl⟩))
      go_region_held3 (fun w' => w'.cell? ⟨w.heap.size, 0, none⟩ = some (.bool n) ∧ w'.cell? ⟨w.heap.size, 4, none⟩ = some (.int .i64 23)) (first | (simp [go_sem, *]; done) | go_keep) (first | (go_at_call 37; go_fit (power_23 _); rintro e w' ⟨rfl, rfl⟩) | (go_at_call 38; go_fit (hBt.out _); rintro e w' ⟨rfl, rfl⟩))
      all_goals
        go_wp2
        go_ret
        exact ⟨rfl, (below_alloc hB1).drew⟩
/-- The document's Widen32. -/
theorem rwiden32_any (x : Nat) (w : World) (hx : x < 4294967296) :
    Calls Tryd.prog 13 #[.int .u32 x] w fun e w' => e = .returned (.int .u64 (wids x : Nat)) ∧ Below w.heap.size w w' := by
  obtain ⟨s, hs⟩ : ∃ s, x / 2147483648 = s := ⟨_, rfl⟩
  obtain ⟨p, hp⟩ : ∃ p, x / 8388608 % 256 = p := ⟨_, rfl⟩
  obtain ⟨q, hq⟩ : ∃ q, x % 8388608 = q := ⟨_, rfl⟩
  obtain ⟨n, hn⟩ : ∃ n : Bool, s = n.toNat := by
    by_cases e : s = 1
    · exact ⟨true, e⟩
    · exact ⟨false, by show s = 0; omega⟩
  have hpl : p < 256 := by omega
  have hql : q < 8388608 := by omega
  have hOf : Hid (∀ w, Calls Tryd.prog 24 #[.int .u64 x, .int .i64 8, .int .i64 23] w fun e w' => e = .returned (.agg #[.bool n, .int .i64 p, .int .u64 q, .int .i64 8, .int .i64 23]) ∧ Below w.heap.size w w') := fun w => of_s x s p q n w hn hpl hql (by omega)
  have hWi : Hid (∀ w, Calls Tryd.prog 25 #[.agg #[.bool n, .int .i64 p, .int .u64 q, .int .i64 8, .int .i64 23], .int .i64 127] w fun e w' => e = .returned (.int .u64 (wids x : Nat)) ∧ Below w.heap.size w w') := fun w => by
    unfold wids
    rw [hs, hp, hq]
    by_cases c1 : p = 255
    · rw [if_pos c1]
      by_cases c3 : q = 0
      · exact fwiden_sinf n s p q w hn hpl hql 4 (by unfold clsF; rw [if_neg (by omega), if_pos c1, if_pos c3]) (Or.inl rfl)
      · exact fwiden_sinf n s p q w hn hpl hql 5 (by unfold clsF; rw [if_neg (by omega), if_pos c1, if_neg c3]) (Or.inr rfl)
    rw [if_neg c1]
    by_cases c2 : p = 0
    · rw [if_pos c2]
      by_cases c3 : q = 0
      · rw [if_pos c3]
        exact fwiden_s0 n s p q w hn hpl hql (by unfold clsF; rw [if_pos c2, if_pos c3])
      · rw [if_neg c3]
        obtain ⟨h1, h2, h3, h4⟩ := tp_spec q (by omega) (by omega)
        have ht : 29 < tp q := by
          have : q.log2 < 23 := (Nat.log2_lt c3).2 (by show q < 8388608; omega)
          omega
        exact fwiden_ssub n s p q w hn hpl hql c3 (by unfold clsF; rw [if_pos c2, if_neg c3]) (tp q) ht h3 h1 h2
    · rw [if_neg c2]
      exact fwiden_snorm n s p q w hn hpl hql c1 (by unfold clsF; rw [if_neg c2, if_neg c1])
  clear hs hp hq hn
  go_enter Tryd.func13, Tryd.ntmps13
  go_wp2_with (first | (go_at_call 24; go_fit (hOf.out _); rintro e w1 ⟨rfl, hB1⟩) | (go_at_call 25; go_fit (hWi.out _); rintro e w2 ⟨rfl, hB2⟩))
  go_ret
  exact ⟨rfl, below_then hB1 hB2⟩
end Go.Proofs.YtjlhningaijneaaDoor
