/- Words of 64 bits after IEEE 754, as whole numbers: no program in sight. -/
import Derived.WalkKit
import Ieee.Arith
namespace Go.Proofs.YtjlhningaijneaaDoor
open Ieee
theorem cut_exact (neg : Bool) (m d : Nat) (hm : 0 < m) : Toward.even.cut neg (m * 2 ^ d) d = m := by
  have h0 : m * 2 ^ d ≠ 0 := Nat.ne_of_gt (Nat.mul_pos hm (Nat.two_pow_pos d))
  have hl : d ≤ (m * 2 ^ d).log2 := (Nat.le_log2 h0).2 (Nat.le_mul_of_pos_left _ hm)
  unfold Toward.cut
  rw [Nat.min_eq_left (by omega), Nat.one_shiftLeft]
  simp only [Nat.mul_div_cancel _ (Nat.two_pow_pos d), Nat.mul_mod_left]
  have hp := Nat.two_pow_pos d
  simp [show (2 ^ d == 0) = false from by simp]
theorem cut_zero (neg : Bool) (n d : Nat) : Toward.zero.cut neg n d = n / 2 ^ d := by
  unfold Toward.cut
  simp only [Bool.toNat_false, Nat.add_zero, Nat.one_shiftLeft]
  by_cases h : d ≤ n.log2 + 2
  · rw [Nat.min_eq_left h]
  · rw [Nat.min_eq_right (by omega)]
    have h1 : n < 2 ^ (n.log2 + 1) := Nat.lt_log2_self
    have h2 : 2 ^ (n.log2 + 1) ≤ 2 ^ (n.log2 + 2) := Nat.pow_le_pow_right (by decide) (by omega)
    have h3 : 2 ^ (n.log2 + 1) ≤ 2 ^ d := Nat.pow_le_pow_right (by decide) (by omega)
    rw [Nat.div_eq_of_lt (by omega), Nat.div_eq_of_lt (by omega)]
theorem log2_of {n k : Nat} (h1 : 2 ^ k ≤ n) (h2 : n < 2 ^ (k + 1)) : n.log2 = k := by
  have h0 : n ≠ 0 := by have := Nat.two_pow_pos k; omega
  have a := (Nat.le_log2 h0).2 h1
  have b := (Nat.log2_lt h0).2 h2
  omega
theorem lp : double.leastPlace = -1074 := rfl
theorem bin : double.binade = 4503599627370496 := rfl
theorem inf : double.infRung = 9218868437227405312 := rfl
theorem sw : double.signWeight = 9223372036854775808 := rfl
theorem fb : double.fractionBits = 52 := rfl
/-- A number whose digits, moved up t places, have 53: its word. -/
theorem nearest_norm (s : Bool) (m : Nat) (e : Int) (t : Nat) (h1 : 4503599627370496 ≤ m * 2 ^ t) (h2 : m * 2 ^ t < 9007199254740992) (he : -1074 ≤ e - t) (he' : e - t ≤ 971) :
    double.nearest s m e = double.word s ((e - t + 1074).toNat * 4503599627370496 + m * 2 ^ t) := by
  have hm : 0 < m := by
    rcases Nat.eq_zero_or_pos m with h | h
    · subst h; simp at h1
    · exact h
  have hl : (m * 2 ^ t).log2 = 52 := log2_of h1 h2
  have hl2 : m.log2 + t = 52 := by
    have h0 : m ≠ 0 := by omega
    have a : 2 ^ m.log2 ≤ m := Nat.log2_self_le h0
    have b : m < 2 ^ (m.log2 + 1) := Nat.lt_log2_self
    have a' : 2 ^ (m.log2 + t) ≤ m * 2 ^ t := by rw [Nat.pow_add]; exact Nat.mul_le_mul_right _ a
    have b' : m * 2 ^ t < 2 ^ (m.log2 + t + 1) := by
      rw [show m.log2 + t + 1 = (m.log2 + 1) + t by omega, Nat.pow_add]
      exact Nat.mul_lt_mul_of_pos_right b (Nat.two_pow_pos t)
    rw [← log2_of a' b', hl]
  unfold Format.nearest
  rw [if_neg (by omega), lp, bin, inf, fb]
  have e1 : max (e + (m.log2 : Int) - ((52 : Nat) : Int)) (-1074) = e - t := by omega
  simp only [e1]
  rw [show (e - (e - (t : Int))).toNat = t by omega, show (e - (t : Int) - e).toNat = 0 by omega, Nat.shiftLeft_eq]
  have c := cut_exact s (m * 2 ^ t) 0 (by omega)
  rw [Nat.pow_zero, Nat.mul_one] at c
  rw [c, show e - (t : Int) - -1074 = e - t + 1074 by omega, Nat.min_eq_left (by omega)]
/-- A product with a power of two: its word. -/
theorem nearest_prod (s : Bool) (m : Nat) (e p : Int) (d n : Nat) (hn : n = m * 2 ^ d) (hp : p = e - d) (h1 : 4503599627370496 ≤ m) (h2 : m < 9007199254740992) (he : -1074 ≤ e) (he' : e ≤ 971) :
    double.nearest s n p = double.word s ((e + 1074).toNat * 4503599627370496 + m) := by
  subst hn hp
  have hl : (m * 2 ^ d).log2 = 52 + d := log2_of (by rw [Nat.pow_add]; exact Nat.mul_le_mul_right _ h1) (by rw [show 52 + d + 1 = 53 + d by omega, Nat.pow_add]; exact Nat.mul_lt_mul_of_pos_right h2 (Nat.two_pow_pos d))
  have h0 : m * 2 ^ d ≠ 0 := Nat.ne_of_gt (Nat.mul_pos (by omega) (Nat.two_pow_pos d))
  unfold Format.nearest
  rw [if_neg h0, lp, bin, inf, fb, hl]
  have e1 : max (e - (d : Int) + ((52 + d : Nat) : Int) - ((52 : Nat) : Int)) (-1074) = e := by omega
  simp only [e1]
  rw [show (e - (d : Int) - e).toNat = 0 by omega, show (e - (e - (d : Int))).toNat = d by omega, Nat.shiftLeft_zero, cut_exact s m d (by omega), show e - -1074 = e + 1074 by omega, Nat.min_eq_left (by omega)]
/-- A product that is a subnormal one. -/
theorem nearest_low (s : Bool) (m d n : Nat) (p : Int) (hn : n = m * 2 ^ d) (hp : p = -1074 - d) (h1 : 0 < m) (h2 : m < 4503599627370496) :
    double.nearest s n p = double.word s m := by
  subst hn hp
  have h0 : m * 2 ^ d ≠ 0 := Nat.ne_of_gt (Nat.mul_pos (by omega) (Nat.two_pow_pos d))
  have hl : (m * 2 ^ d).log2 < 52 + d := (Nat.log2_lt h0).2 (by rw [Nat.pow_add]; exact Nat.mul_lt_mul_of_pos_right h2 (Nat.two_pow_pos d))
  unfold Format.nearest
  rw [if_neg h0, lp, bin, inf, fb]
  have e1 : max (-1074 - (d : Int) + ((m * 2 ^ d).log2 : Int) - ((52 : Nat) : Int)) (-1074) = -1074 := by omega
  simp only [e1]
  rw [show (-1074 - (d : Int) - -1074).toNat = 0 by omega, show (-1074 - (-1074 - (d : Int))).toNat = d by omega, Nat.shiftLeft_zero, cut_exact s m d (by omega), show ((-1074 : Int) - -1074).toNat = 0 by omega, Nat.zero_mul, Nat.zero_add, Nat.min_eq_left (by omega)]
theorem read_low (b : Nat) (h : b < 4503599627370496) : double.read b = .number false b (-1074) := by
  unfold Format.read
  rw [sw, bin, lp, show b / 9223372036854775808 = 0 by omega, show b % 9223372036854775808 = b by omega]
  exact if_pos h
theorem read_norm (E F : Nat) (h : F < 4503599627370496) (h1 : 1 ≤ E) (h2 : E ≤ 2046) : double.read (E * 4503599627370496 + F) = .number false (4503599627370496 + F) ((E : Int) - 1075) := by
  unfold Format.read
  rw [sw, bin, lp, inf, show (E * 4503599627370496 + F) / 9223372036854775808 = 0 by omega, show (E * 4503599627370496 + F) % 9223372036854775808 = E * 4503599627370496 + F by omega]
  show (if _ then _ else _) = _
  rw [if_neg (by omega), if_pos (by omega)]
  rw [show (E * 4503599627370496 + F) % 4503599627370496 = F by omega, show (E * 4503599627370496 + F) / 4503599627370496 = E by omega, show (-1074 : Int) + ((E - 1 : Nat) : Int) = E - 1075 by omega]
  rfl
end Go.Proofs.YtjlhningaijneaaDoor
