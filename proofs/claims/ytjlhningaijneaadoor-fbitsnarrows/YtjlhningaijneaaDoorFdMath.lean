/- math's Frexp and Ldexp at numbers from 0 up: walked. -/
import Derived.Test.YtjlhningaijneaaDoorFcMath
namespace Go.Proofs.YtjlhningaijneaaDoor
open Go.RowKit
set_option linter.unusedSimpArgs false
set_option linter.unusedVariables false
/-- A word's fields, as the walk meets them. -/
structure Wd (X E F : Nat) : Prop where
  div : (X : Int) / 4503599627370496 = E
  andU : bits .and .u64 (E : Int) 2047 = E
  andI : bits .and .i64 (E : Int) 2047 = E
  strike : bits .andNot .u64 (X : Int) 9218868437227405312 = F
theorem and_i64 (E : Nat) (h : E < 2048) : bits .and .i64 (E : Int) 2047 = E := by
  have h3 := Nat.and_two_pow_sub_one_eq_mod E 11
  have h2 : E &&& 2047 = E := by rw [show (2047 : Nat) = 2 ^ 11 - 1 from rfl, h3]; exact Nat.mod_eq_of_lt h
  show IntKind.i64.wrap ((BitVec.ofInt 64 (E : Int) &&& BitVec.ofInt 64 ((2047 : Nat) : Int)).toNat : Int) = _
  rw [BitVec.toNat_and, ofInt_u64 E (by omega), ofInt_u64 2047 (by omega), h2, IntKind.wrap_i64]
  omega
theorem and_u64 (E : Nat) (h : E < 2048) : bits .and .u64 (E : Int) 2047 = E := by
  have := Nat.and_two_pow_sub_one_eq_mod E 11
  have h2 : E &&& 2047 = E := by rw [show (2047 : Nat) = 2 ^ 11 - 1 from rfl, this]; exact Nat.mod_eq_of_lt h
  have key := u64_and_nat E 2047 (by omega) (by omega)
  rw [show ((2047 : Nat) : Int) = 2047 from rfl] at key
  rw [key, h2]
theorem wd_of (X E F : Nat) (h : F < 4503599627370496) (hE : E < 2048) (hX : X = E * 4503599627370496 + F) : Wd X E F := by
  refine ⟨by omega, and_u64 E hE, and_i64 E hE, ?_⟩
  rw [hX]; exact strike_word E F h hE
theorem frexp_zero (w : World) :
    Calls Tryd.prog 46 #[.float .f64 0] w fun e w' => e = .returned (.tuple #[.float .f64 0, .int .i64 0]) ∧ w' = w := by
  have h0 := order_zero_zero
  go_enter Tryd.func46, Tryd.ntmps46
  go_wp2
  exact bodyPost_ret (v := .tuple #[.float .f64 0, .int .i64 0]) (by simp [results, Tryd.results46, go_sem]) rfl ⟨rfl, rfl⟩
set_option maxHeartbeats 400000 in
/-- X normalized is Y, of the fields E and F, with d behind it. -/
theorem frexp_any (X Y E F : Nat) (d : Int) (w : World) (hx : Fin64 X) (h0 : 0 < X) (hd : -52 ≤ d) (hd' : d ≤ 0) (hF : F < 4503599627370496) (hE1 : 1 ≤ E) (hE : E ≤ 2046) (hY : Y = E * 4503599627370496 + F)
    (hn : ∀ w, Calls Tryd.prog 51 #[.float .f64 X] w fun e w' => e = .returned (.tuple #[.float .f64 Y, .int .i64 d]) ∧ w' = w) :
    Calls Tryd.prog 46 #[.float .f64 X] w fun e w' => (∃ f, e = .returned (.tuple #[.float .f64 f, .int .i64 (d + E - 1022)])) ∧ w' = w := by
  have h0 := order_zero X hx h0
  obtain ⟨w1, w2, w3, w4⟩ := wd_of Y E F hF (by omega) hY
  have hn := hide hn
  have hx := hide hx
  clear hY
  go_enter Tryd.func46, Tryd.ntmps46
  go_wp2_with (first | rw [bits_run] | rw [frombits_run] | (go_at_call 49; go_fit (isInf_any X _ hx.out); rintro e w' ⟨rfl, rfl⟩) | (go_at_call 50; go_fit (isNaN_any X _ hx.out); rintro e w' ⟨rfl, rfl⟩) | (go_at_call 51; go_fit (hn.out _); rintro e w' ⟨rfl, rfl⟩))
  refine bodyPost_ret (v := .tuple #[.float .f64 _, .int .i64 (d + (E - 1023 + 1))]) (by simp [results, Tryd.results46, go_sem]; rfl) rfl ⟨⟨_, by rw [show d + ((E : Int) - 1023 + 1) = d + E - 1022 by omega]⟩, rfl⟩
theorem ldexp_zero (k : Int) (w : World) :
    Calls Tryd.prog 48 #[.float .f64 0, .int .i64 k] w fun e w' => e = .returned (.float .f64 0) ∧ w' = w := by
  have h0 := order_zero_zero
  go_enter Tryd.func48, Tryd.ntmps48
  go_wp2
  go_ret
  exact ⟨rfl, rfl⟩
open Ieee in
theorem mul_one (G F : Nat) (hF : F < 4503599627370496) (hG1 : 1 ≤ G) (hG : G ≤ 2046) : FloatKind.f64.format.mul 4607182418800017408 (G * 4503599627370496 + F) = some (G * 4503599627370496 + F) := by
  show double.mul 4607182418800017408 (G * 4503599627370496 + F) = _
  unfold Format.mul
  rw [show (4607182418800017408 : Nat) = 1023 * 4503599627370496 + 0 from rfl, read_norm 1023 0 (by omega) (by omega) (by omega), read_norm G F hF hG1 hG]
  show some (double.nearest false (4503599627370496 * (4503599627370496 + F)) _) = _
  rw [nearest_prod false (4503599627370496 + F) ((G : Int) - 1075) _ 52 _ ?_ ?_ (by omega) (by omega) (by omega) (by omega)]
  · refine congrArg some ?_
    unfold Format.word
    rw [if_neg (by decide), show ((G : Int) - 1075 + 1074).toNat = G - 1 by omega]
    omega
  · rw [Nat.mul_comm]
  · omega
set_option maxHeartbeats 400000 in
/-- X normalized is Y, of the fields E and F, with d behind it; G is what the exponent comes to. -/
theorem ldexp_any (X Y E F G : Nat) (d k : Int) (w : World) (hx : Fin64 X) (h0 : 0 < X) (hd : -52 ≤ d) (hd' : d ≤ 0) (hF : F < 4503599627370496) (hE1 : 1 ≤ E) (hE : E ≤ 2046) (hY : Y = E * 4503599627370496 + F) (hG1 : 1 ≤ G) (hG : G ≤ 2046) (hk : k = G - E - d)
    (hn : ∀ w, Calls Tryd.prog 51 #[.float .f64 X] w fun e w' => e = .returned (.tuple #[.float .f64 Y, .int .i64 d]) ∧ w' = w) :
    Calls Tryd.prog 48 #[.float .f64 X, .int .i64 k] w fun e w' => e = .returned (.float .f64 (G * 4503599627370496 + F)) ∧ w' = w := by
  have h0 := order_zero X hx h0
  obtain ⟨w1, w2, w3, w4⟩ := wd_of Y E F hF (by omega) hY
  have hn := hide hn
  have hx := hide hx
  have hr : Hid (∀ w (u : Int), u = G → (binOp .mul 64 (.float .f64 4607182418800017408) (.float .f64 (bits .or .u64 (F : Int) (u * 4503599627370496)).toNat)).run Tryd.prog w = .ok (.float .f64 (G * 4503599627370496 + F)) w) := fun w u hu => by
    rw [hu, or_word G F hF (by omega)]
    exact run_float_arith w .mul _ .f64 _ _ _ (mul_one G F hF hG1 hG)
  clear hY
  go_enter Tryd.func48, Tryd.ntmps48
  go_wp2_with (first | rw [bits_run] | rw [frombits_run] | (go_at_call 49; go_fit (isInf_any X _ hx.out); rintro e w' ⟨rfl, rfl⟩) | (go_at_call 50; go_fit (isNaN_any X _ hx.out); rintro e w' ⟨rfl, rfl⟩) | (go_at_call 51; go_fit (hn.out _); rintro e w' ⟨rfl, rfl⟩) | rw [hr.out _ _ ?_])
  · go_ret
    exact ⟨rfl, rfl⟩
  · omega
open Ieee in
theorem mul_low (x t : Nat) (hx0 : 0 < x) (ht : 25 ≤ t) (ht' : t ≤ 52) (h1 : 4503599627370496 ≤ x * 2 ^ t) (h2 : x * 2 ^ t < 9007199254740992) : FloatKind.f64.format.mul 4368491638549381120 ((78 - t) * 4503599627370496 + (x * 2 ^ t - 4503599627370496)) = some (x * 16777216) := by
  show double.mul 4368491638549381120 _ = _
  unfold Format.mul
  rw [show (4368491638549381120 : Nat) = 970 * 4503599627370496 + 0 from rfl, read_norm 970 0 (by omega) (by omega) (by omega), read_norm (78 - t) (x * 2 ^ t - 4503599627370496) (by omega) (by omega) (by omega)]
  show some (double.nearest false (4503599627370496 * (4503599627370496 + (x * 2 ^ t - 4503599627370496))) _) = _
  rw [show 4503599627370496 + (x * 2 ^ t - 4503599627370496) = x * 2 ^ t by omega]
  have hlt : x * 16777216 < 4503599627370496 := by
    have e : x * 2 ^ t = x * 16777216 * 2 ^ (t - 24) := by rw [Nat.mul_assoc, show (16777216 : Nat) = 2 ^ 24 from rfl, ← Nat.pow_add, show 24 + (t - 24) = t by omega]
    have h3 : 2 ≤ 2 ^ (t - 24) := by
      have := Nat.pow_le_pow_right (n := 2) (by decide) (show 1 ≤ t - 24 by omega)
      omega
    have h4 : x * 16777216 * 2 ≤ x * 16777216 * 2 ^ (t - 24) := Nat.mul_le_mul_left _ h3
    omega
  rw [nearest_low false (x * 16777216) (28 + t) _ _ ?_ ?_ (by omega) hlt]
  · rfl
  · rw [Nat.mul_comm, Nat.mul_assoc, Nat.mul_assoc, show (4503599627370496 : Nat) = 2 ^ 52 from rfl, show (16777216 : Nat) = 2 ^ 24 from rfl, ← Nat.pow_add, ← Nat.pow_add, show t + 52 = 24 + (28 + t) by omega]
  · omega
set_option maxHeartbeats 400000 in
theorem ldexp_low (x t : Nat) (w : World) (hx0 : 0 < x) (ht : 25 ≤ t) (ht' : t ≤ 52) (h1 : 4503599627370496 ≤ x * 2 ^ t) (h2 : x * 2 ^ t < 9007199254740992) (hx : x < 4503599627370496) :
    Calls Tryd.prog 48 #[.float .f64 x, .int .i64 24] w fun e w' => e = .returned (.float .f64 (x * 16777216)) ∧ w' = w := by
  obtain ⟨Y, hY⟩ : ∃ Y, Y = (53 - t) * 4503599627370496 + (x * 2 ^ t - 4503599627370496) := ⟨_, rfl⟩
  obtain ⟨F, hF⟩ : ∃ F, F = x * 2 ^ t - 4503599627370496 := ⟨_, rfl⟩
  obtain ⟨E, hE⟩ : ∃ E, E = 53 - t := ⟨_, rfl⟩
  have hn : Hid (∀ w, Calls Tryd.prog 51 #[.float .f64 x] w fun e w' => e = .returned (.tuple #[.float .f64 Y, .int .i64 (-52)]) ∧ w' = w) := fun w => by rw [hY]; exact normalize_sub x t w h1 h2 hx (by omega)
  have hf := hide (show Fin64 x by unfold Fin64; omega)
  have h0 := order_zero x hf.out hx0
  obtain ⟨w1, w2, w3, w4⟩ := wd_of Y E F (by omega) (by omega) (by rw [hY, hF, hE])
  have hr : Hid (∀ w (u : Int), u = ((78 - t : Nat) : Int) → (binOp .mul 64 (.float .f64 4368491638549381120) (.float .f64 (bits .or .u64 (F : Int) (u * 4503599627370496)).toNat)).run Tryd.prog w = .ok (.float .f64 (x * 16777216)) w) := fun w u hu => by
    rw [hu, or_word (78 - t) F (by omega) (by omega), hF]
    exact run_float_arith w .mul _ .f64 _ _ _ (mul_low x t hx0 ht ht' h1 h2)
  clear hY hF h1 h2 hx
  have hE' : E + t = 53 := by omega
  clear hE
  go_enter Tryd.func48, Tryd.ntmps48
  go_wp2_with (first | rw [bits_run] | rw [frombits_run] | (go_at_call 49; go_fit (isInf_any x _ hf.out); rintro e w' ⟨rfl, rfl⟩) | (go_at_call 50; go_fit (isNaN_any x _ hf.out); rintro e w' ⟨rfl, rfl⟩) | (go_at_call 51; go_fit (hn.out _); rintro e w' ⟨rfl, rfl⟩) | rw [hr.out _ _ ?_])
  · go_ret
    exact ⟨rfl, rfl⟩
  · omega
theorem Ldexp_of (X : Nat) (k : Int) (R : Nat) (w : World) (h : ∀ w, Calls Tryd.prog 48 #[.float .f64 X, .int .i64 k] w fun e w' => e = .returned (.float .f64 R) ∧ w' = w) :
    Calls Tryd.prog 43 #[.float .f64 X, .int .i64 k] w fun e w' => e = .returned (.float .f64 R) ∧ w' = w := by
  have h := hide h
  go_enter Tryd.func43, Tryd.ntmps43
  go_wp2_with (go_at_call 48; go_fit (h.out _); rintro e w' ⟨rfl, rfl⟩)
  go_ret
  exact ⟨rfl, rfl⟩
theorem Frexp_of (X : Nat) (k : Int) (w : World) (h : ∀ w, Calls Tryd.prog 46 #[.float .f64 X] w fun e w' => (∃ f, e = .returned (.tuple #[.float .f64 f, .int .i64 k])) ∧ w' = w) :
    Calls Tryd.prog 41 #[.float .f64 X] w fun e w' => (∃ f, e = .returned (.tuple #[.float .f64 f, .int .i64 k])) ∧ w' = w := by
  have h := hide h
  go_enter Tryd.func41, Tryd.ntmps41
  go_wp2_with (go_at_call 46; go_fit (h.out _); rintro e w' ⟨⟨f, rfl⟩, rfl⟩)
  exact bodyPost_ret (v := .tuple #[.float .f64 f, .int .i64 k]) (by simp [results, Tryd.results41, go_sem]) rfl ⟨⟨f, rfl⟩, rfl⟩
end Go.Proofs.YtjlhningaijneaaDoor
