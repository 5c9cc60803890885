/- What widening and narrowing keep: no program in sight. -/
import Derived.Test.YtjlhningaijneaaDoorFmHex
namespace Go.Proofs.YtjlhningaijneaaDoor
open Go.RowKit
set_option linter.unusedSimpArgs false
set_option linter.unusedVariables false
theorem or_xor (i r : Nat) (h : r < 2 ^ i) : 2 ^ i + r = 2 ^ i ^^^ r := by
  have h1 := Nat.two_pow_add_eq_or_of_lt h 1
  rw [Nat.mul_one] at h1
  rw [h1]
  apply Nat.eq_of_testBit_eq
  intro j
  rw [Nat.testBit_or, Nat.testBit_xor, Nat.testBit_two_pow]
  by_cases e : i = j
  · subst e
    rw [Nat.testBit_lt_two_pow h]; simp
  · simp [e]
theorem xor_top (i r : Nat) (h : r < 2 ^ i) : (2 ^ i + r) ^^^ r = 2 ^ i := by
  rw [or_xor i r h, Nat.xor_assoc, Nat.xor_self, Nat.xor_zero]
theorem xor_top' (i r : Nat) (h : r < 2 ^ i) : r ^^^ (2 ^ i + r) = 2 ^ i := by rw [Nat.xor_comm]; exact xor_top i r h
theorem xor_on (i r : Nat) (h : r < 2 ^ i) : r ^^^ 2 ^ i = 2 ^ i + r := by rw [Nat.xor_comm]; exact (or_xor i r h).symm
theorem xor_off (i r : Nat) (h : r < 2 ^ i) : (2 ^ i + r) ^^^ 2 ^ i = r := by
  rw [or_xor i r h, Nat.xor_comm (2 ^ i) r, Nat.xor_assoc, Nat.xor_self, Nat.xor_zero]
theorem tp_h (q : Nat) (h0 : q ≠ 0) (h : q < 1024) : 42 < tp q ∧ tp q ≤ 52 ∧ 4503599627370496 ≤ q * 2 ^ tp q ∧ q * 2 ^ tp q < 9007199254740992 := by
  obtain ⟨h1, h2, h3, h4⟩ := tp_spec q (by omega) (by omega)
  have : q.log2 < 10 := (Nat.log2_lt h0).2 (by show q < 1024; omega)
  exact ⟨by omega, h3, h1, h2⟩
/-- The fields of what is widened. -/
theorem widh_fields (x : Nat) (hx : x < 65536) : ∃ E F : Nat, F < 4503599627370496 ∧ widh x = x / 32768 * 9223372036854775808 + E * 4503599627370496 + F ∧
    ((x / 1024 % 32 = 31 ∧ E = 2047 ∧ F = x % 1024 * 4398046511104) ∨ (x / 1024 % 32 = 0 ∧ x % 1024 = 0 ∧ E = 0 ∧ F = 0) ∨
     (x / 1024 % 32 = 0 ∧ x % 1024 ≠ 0 ∧ E + tp (x % 1024) = 1051 ∧ 42 < tp (x % 1024) ∧ tp (x % 1024) ≤ 52 ∧ F + 4503599627370496 = x % 1024 * 2 ^ tp (x % 1024)) ∨
     (x / 1024 % 32 ≠ 31 ∧ x / 1024 % 32 ≠ 0 ∧ E = x / 1024 % 32 + 1008 ∧ F = x % 1024 * 4398046511104)) := by
  unfold widh
  by_cases c1 : x / 1024 % 32 = 31
  · rw [if_pos c1]
    exact ⟨2047, x % 1024 * 4398046511104, by omega, rfl, Or.inl ⟨c1, rfl, rfl⟩⟩
  rw [if_neg c1]
  by_cases c2 : x / 1024 % 32 = 0
  · rw [if_pos c2]
    by_cases c3 : x % 1024 = 0
    · rw [if_pos c3]
      exact ⟨0, 0, by omega, by omega, Or.inr (Or.inl ⟨c2, c3, rfl, rfl⟩)⟩
    · rw [if_neg c3]
      obtain ⟨h1, h2, h3, h4⟩ := tp_h (x % 1024) c3 (by omega)
      exact ⟨1051 - tp (x % 1024), x % 1024 * 2 ^ tp (x % 1024) - 4503599627370496, by omega, rfl, Or.inr (Or.inr (Or.inl ⟨c2, c3, by omega, h1, h2, by omega⟩))⟩
  · rw [if_neg c2]
    exact ⟨x / 1024 % 32 + 1008, x % 1024 * 4398046511104, by omega, rfl, Or.inr (Or.inr (Or.inr ⟨c1, c2, rfl, rfl⟩))⟩
theorem nar_widh (x : Nat) (hx : x < 65536) : narh (widh x) = x := by
  obtain ⟨E, F, hF, hw, h⟩ := widh_fields x hx
  have hE : E < 2048 := by omega
  have e1 : widh x / 9223372036854775808 = x / 32768 := by rw [hw]; omega
  have e2 : widh x / 4503599627370496 % 2048 = E := by rw [hw]; omega
  have e3 : widh x % 4503599627370496 = F := by rw [hw]; omega
  unfold narh
  rw [e1, e2, e3]
  rcases h with ⟨h1, h2, h3⟩ | ⟨h1, h2, h3, h4⟩ | ⟨h1, h2, h3, h4, h5, h6⟩ | ⟨h1, h2, h3, h4⟩
  · rw [if_pos h2]; omega
  · rw [if_neg (by omega), if_pos h3]; omega
  · rw [if_neg (by omega), if_neg (by omega), if_neg (by omega), if_neg (by omega), show 1051 - E = tp (x % 1024) by omega, Nat.add_comm 4503599627370496 F, h6, Nat.mul_div_cancel _ (Nat.two_pow_pos _)]
    omega
  · rw [if_neg (by omega), if_neg (by omega), if_neg (by omega), if_pos (by omega)]; omega
theorem widh_sign (s m : Nat) (hs : s ≤ 1) (hm : m < 32768) : widh (s * 32768 + m) = s * 9223372036854775808 + widh m ∧ widh m < 9223372036854775808 := by
  have e1 : (s * 32768 + m) / 32768 = s := by omega
  have e2 : (s * 32768 + m) / 1024 % 32 = m / 1024 % 32 := by omega
  have e3 : (s * 32768 + m) % 1024 = m % 1024 := by omega
  have e4 : m / 32768 = 0 := by omega
  obtain ⟨E, F, hF, hw, h⟩ := widh_fields m (by omega)
  constructor
  · unfold widh
    rw [e1, e2, e3, e4]
    split
    · omega
    · split
      · split <;> omega
      · omega
  · rw [hw, e4]
    omega
theorem narh_sign (s m : Nat) (hs : s ≤ 1) (hm : m < 9223372036854775808) : narh (s * 9223372036854775808 + m) = s * 32768 + narh m ∧ narh m < 32768 := by
  have e1 : (s * 9223372036854775808 + m) / 9223372036854775808 = s := by omega
  have e2 : (s * 9223372036854775808 + m) / 4503599627370496 % 2048 = m / 4503599627370496 % 2048 := by omega
  have e3 : (s * 9223372036854775808 + m) % 4503599627370496 = m % 4503599627370496 := by omega
  have e4 : m / 9223372036854775808 = 0 := by omega
  have hl : ¬ 1009 ≤ m / 4503599627370496 % 2048 → (4503599627370496 + m % 4503599627370496) / 2 ^ (1051 - m / 4503599627370496 % 2048) < 1024 := fun c4 => by
    rw [Nat.div_lt_iff_lt_mul (Nat.two_pow_pos _)]
    have : 2 ^ 43 ≤ 2 ^ (1051 - m / 4503599627370496 % 2048) := Nat.pow_le_pow_right (by decide) (by omega)
    have h2 : 1024 * 2 ^ 43 ≤ 1024 * 2 ^ (1051 - m / 4503599627370496 % 2048) := Nat.mul_le_mul_left _ this
    have h3 : 1024 * 2 ^ 43 = 9007199254740992 := rfl
    omega
  constructor
  · unfold narh
    rw [e1, e2, e3, e4]
    simp only [Nat.zero_mul, Nat.zero_add]
    split
    · omega
    · split
      · omega
      · split
        · omega
        · split <;> omega
  · unfold narh
    rw [e4]
    simp only [Nat.zero_mul, Nat.zero_add]
    split
    · omega
    · split
      · omega
      · split
        · omega
        · split
          · omega
          · rename_i c4
            have := hl c4
            omega
theorem tp_s (q : Nat) (h0 : q ≠ 0) (h : q < 8388608) : 29 < tp q ∧ tp q ≤ 52 ∧ 4503599627370496 ≤ q * 2 ^ tp q ∧ q * 2 ^ tp q < 9007199254740992 := by
  obtain ⟨h1, h2, h3, h4⟩ := tp_spec q (by omega) (by omega)
  have : q.log2 < 23 := (Nat.log2_lt h0).2 (by show q < 8388608; omega)
  exact ⟨by omega, h3, h1, h2⟩
/-- The fields of what is widened. -/
theorem wids_fields (x : Nat) (hx : x < 4294967296) : ∃ E F : Nat, F < 4503599627370496 ∧ wids x = x / 2147483648 * 9223372036854775808 + E * 4503599627370496 + F ∧
    ((x / 8388608 % 256 = 255 ∧ E = 2047 ∧ F = x % 8388608 * 536870912) ∨ (x / 8388608 % 256 = 0 ∧ x % 8388608 = 0 ∧ E = 0 ∧ F = 0) ∨
     (x / 8388608 % 256 = 0 ∧ x % 8388608 ≠ 0 ∧ E + tp (x % 8388608) = 926 ∧ 29 < tp (x % 8388608) ∧ tp (x % 8388608) ≤ 52 ∧ F + 4503599627370496 = x % 8388608 * 2 ^ tp (x % 8388608)) ∨
     (x / 8388608 % 256 ≠ 255 ∧ x / 8388608 % 256 ≠ 0 ∧ E = x / 8388608 % 256 + 896 ∧ F = x % 8388608 * 536870912)) := by
  unfold wids
  by_cases c1 : x / 8388608 % 256 = 255
  · rw [if_pos c1]
    exact ⟨2047, x % 8388608 * 536870912, by omega, rfl, Or.inl ⟨c1, rfl, rfl⟩⟩
  rw [if_neg c1]
  by_cases c2 : x / 8388608 % 256 = 0
  · rw [if_pos c2]
    by_cases c3 : x % 8388608 = 0
    · rw [if_pos c3]
      exact ⟨0, 0, by omega, by omega, Or.inr (Or.inl ⟨c2, c3, rfl, rfl⟩)⟩
    · rw [if_neg c3]
      obtain ⟨h1, h2, h3, h4⟩ := tp_s (x % 8388608) c3 (by omega)
      exact ⟨926 - tp (x % 8388608), x % 8388608 * 2 ^ tp (x % 8388608) - 4503599627370496, by omega, rfl, Or.inr (Or.inr (Or.inl ⟨c2, c3, by omega, h1, h2, by omega⟩))⟩
  · rw [if_neg c2]
    exact ⟨x / 8388608 % 256 + 896, x % 8388608 * 536870912, by omega, rfl, Or.inr (Or.inr (Or.inr ⟨c1, c2, rfl, rfl⟩))⟩
theorem nar_wids (x : Nat) (hx : x < 4294967296) : nars (wids x) = x := by
  obtain ⟨E, F, hF, hw, h⟩ := wids_fields x hx
  have hE : E < 2048 := by omega
  have e1 : wids x / 9223372036854775808 = x / 2147483648 := by rw [hw]; omega
  have e2 : wids x / 4503599627370496 % 2048 = E := by rw [hw]; omega
  have e3 : wids x % 4503599627370496 = F := by rw [hw]; omega
  unfold nars
  rw [e1, e2, e3]
  rcases h with ⟨h1, h2, h3⟩ | ⟨h1, h2, h3, h4⟩ | ⟨h1, h2, h3, h4, h5, h6⟩ | ⟨h1, h2, h3, h4⟩
  · rw [if_pos h2]; omega
  · rw [if_neg (by omega), if_pos h3]; omega
  · rw [if_neg (by omega), if_neg (by omega), if_neg (by omega), if_neg (by omega), show 926 - E = tp (x % 8388608) by omega, Nat.add_comm 4503599627370496 F, h6, Nat.mul_div_cancel _ (Nat.two_pow_pos _)]
    omega
  · rw [if_neg (by omega), if_neg (by omega), if_neg (by omega), if_pos (by omega)]; omega
theorem wids_sign (s m : Nat) (hs : s ≤ 1) (hm : m < 2147483648) : wids (s * 2147483648 + m) = s * 9223372036854775808 + wids m ∧ wids m < 9223372036854775808 := by
  have e1 : (s * 2147483648 + m) / 2147483648 = s := by omega
  have e2 : (s * 2147483648 + m) / 8388608 % 256 = m / 8388608 % 256 := by omega
  have e3 : (s * 2147483648 + m) % 8388608 = m % 8388608 := by omega
  have e4 : m / 2147483648 = 0 := by omega
  obtain ⟨E, F, hF, hw, h⟩ := wids_fields m (by omega)
  constructor
  · unfold wids
    rw [e1, e2, e3, e4]
    split
    · omega
    · split
      · split <;> omega
      · omega
  · rw [hw, e4]
    omega
theorem nars_sign (s m : Nat) (hs : s ≤ 1) (hm : m < 9223372036854775808) : nars (s * 9223372036854775808 + m) = s * 2147483648 + nars m ∧ nars m < 2147483648 := by
  have e1 : (s * 9223372036854775808 + m) / 9223372036854775808 = s := by omega
  have e2 : (s * 9223372036854775808 + m) / 4503599627370496 % 2048 = m / 4503599627370496 % 2048 := by omega
  have e3 : (s * 9223372036854775808 + m) % 4503599627370496 = m % 4503599627370496 := by omega
  have e4 : m / 9223372036854775808 = 0 := by omega
  have hl : ¬ 897 ≤ m / 4503599627370496 % 2048 → (4503599627370496 + m % 4503599627370496) / 2 ^ (926 - m / 4503599627370496 % 2048) < 8388608 := fun c4 => by
    rw [Nat.div_lt_iff_lt_mul (Nat.two_pow_pos _)]
    have : 2 ^ 30 ≤ 2 ^ (926 - m / 4503599627370496 % 2048) := Nat.pow_le_pow_right (by decide) (by omega)
    have h2 : 8388608 * 2 ^ 30 ≤ 8388608 * 2 ^ (926 - m / 4503599627370496 % 2048) := Nat.mul_le_mul_left _ this
    have h3 : 8388608 * 2 ^ 30 = 9007199254740992 := rfl
    omega
  constructor
  · unfold nars
    rw [e1, e2, e3, e4]
    simp only [Nat.zero_mul, Nat.zero_add]
    split
    · omega
    · split
      · omega
      · split
        · omega
        · split <;> omega
  · unfold nars
    rw [e4]
    simp only [Nat.zero_mul, Nat.zero_add]
    split
    · omega
    · split
      · omega
      · split
        · omega
        · split
          · omega
          · rename_i c4
            have := hl c4
            omega
theorem cls_sign (s m : Nat) (hs : s ≤ 1) (hm : m < 9223372036854775808) : cls (s * 9223372036854775808 + m) = cls m := by
  unfold cls
  rw [show (s * 9223372036854775808 + m) / 4503599627370496 % 2048 = m / 4503599627370496 % 2048 by omega, show (s * 9223372036854775808 + m) % 4503599627370496 = m % 4503599627370496 by omega]
/-- Narrow's answer, its sign apart. -/
theorem nrw_sign (s m : Nat) (hs : s ≤ 1) (hm : m < 9223372036854775808) : ∃ n r, nrw m = (n, r) ∧ nrw (s * 9223372036854775808 + m) = (n, s * 2 ^ (n - 1) + r) ∧ r < 2 ^ (n - 1) ∧ (n = 16 ∨ n = 32 ∨ n = 64) := by
  obtain ⟨h1, h2⟩ := narh_sign s m hs hm
  obtain ⟨s1, s2⟩ := nars_sign s m hs hm
  obtain ⟨g1, g2⟩ := widh_sign s (narh m) hs h2
  obtain ⟨t1, t2⟩ := wids_sign s (nars m) hs s2
  unfold nrw
  rw [h1, s1, g1, t1]
  by_cases c1 : widh (narh m) = m
  · rw [if_pos c1, if_pos (show s * 9223372036854775808 + widh (narh m) = s * 9223372036854775808 + m by omega)]
    exact ⟨16, narh m, rfl, rfl, h2, Or.inl rfl⟩
  rw [if_neg c1, if_neg (show ¬ s * 9223372036854775808 + widh (narh m) = s * 9223372036854775808 + m by omega)]
  by_cases c2 : wids (nars m) = m
  · rw [if_pos c2, if_pos (show s * 9223372036854775808 + wids (nars m) = s * 9223372036854775808 + m by omega)]
    exact ⟨32, nars m, rfl, rfl, s2, Or.inr (Or.inl rfl)⟩
  rw [if_neg c2, if_neg (show ¬ s * 9223372036854775808 + wids (nars m) = s * 9223372036854775808 + m by omega)]
  exact ⟨64, m, rfl, rfl, hm, Or.inr (Or.inr rfl)⟩
end Go.Proofs.YtjlhningaijneaaDoor
