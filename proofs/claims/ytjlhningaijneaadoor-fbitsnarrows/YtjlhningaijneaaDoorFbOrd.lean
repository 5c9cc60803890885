/- How words of 64 bits stand to a few others: no program in sight. -/
import Derived.Test.YtjlhningaijneaaDoorFaIeee
import Derived.Laws.BitsAllLaws
namespace Go.Proofs.YtjlhningaijneaaDoor
open Ieee Go.RowKit
theorem hide {p : Prop} (h : p) : Hid p := h
/-- A number from 0 up, below infinity. -/
def Fin64 (x : Nat) : Prop := x < 9218868437227405312
theorem read_fin (x : Nat) (h : Fin64 x) : ∃ (m : Nat) (e : Int), double.read x = .number false m e ∧ m < 9007199254740992 ∧ -1074 ≤ e ∧ e ≤ 971 ∧ (x = 0 ↔ m = 0) ∧ (x < 4503599627370496 → e = -1074 ∧ m < 4503599627370496) ∧ (4503599627370496 ≤ x → 4503599627370496 ≤ m) := by
  unfold Fin64 at h
  by_cases hl : x < 4503599627370496
  · exact ⟨x, -1074, read_low x hl, by omega, by omega, by omega, Iff.rfl, fun _ => ⟨rfl, hl⟩, fun h => by omega⟩
  · have := read_norm (x / 4503599627370496) (x % 4503599627370496) (by omega) (by omega) (by omega)
    rw [show x / 4503599627370496 * 4503599627370496 + x % 4503599627370496 = x by omega] at this
    exact ⟨_, _, this, by omega, by omega, by omega, by omega, fun h => by omega, fun h => by omega⟩
theorem cmp_lt {a b : Int} (h : a < b) : compare a b = .lt := by
  simp [compare, compareOfLessAndEq, h]
theorem cmp_gt {a b : Int} (h : b < a) : compare a b = .gt := by
  simp [compare, compareOfLessAndEq, show ¬ a < b by omega, show ¬ a = b by omega]
theorem cmp_eq {a b : Int} (h : a = b) : compare a b = .eq := by
  simp [compare, compareOfLessAndEq, h]
theorem order_self (x : Nat) (h : Fin64 x) : FloatKind.f64.format.order x x = some .eq := by
  obtain ⟨m, e, hr, _⟩ := read_fin x h
  show double.order x x = _
  unfold Format.order
  rw [hr]
  show some (compare _ _) = _
  rw [cmp_eq rfl]
theorem order_zero (x : Nat) (h : Fin64 x) (h0 : 0 < x) : FloatKind.f64.format.order x 0 = some .gt := by
  obtain ⟨m, e, hr, _, _, _, hz, _⟩ := read_fin x h
  show double.order x 0 = _
  unfold Format.order
  rw [hr, read_low 0 (by omega)]
  show some (compare _ _) = _
  rw [cmp_gt]
  show ((0 <<< _ : Nat) : Int) < ((m <<< _ : Nat) : Int)
  rw [Nat.shiftLeft_eq, Nat.shiftLeft_eq, Nat.zero_mul]
  have : 0 < m * 2 ^ (e - min e (-1074)).toNat := Nat.mul_pos (by omega) (Nat.two_pow_pos _)
  omega
theorem order_zero_zero : FloatKind.f64.format.order 0 0 = some .eq := order_self 0 (by unfold Fin64; omega)
theorem order_max (x : Nat) (h : Fin64 x) : (FloatKind.f64.format.order x 9218868437227405311 == some .gt) = false := by
  obtain ⟨m, e, hr, hm, h1, h2, _⟩ := read_fin x h
  show (double.order x 9218868437227405311 == _) = _
  unfold Format.order
  rw [hr, show (9218868437227405311 : Nat) = 2046 * 4503599627370496 + 4503599627370495 from rfl, read_norm 2046 4503599627370495 (by omega) (by omega) (by omega)]
  show (some (compare ((m <<< _ : Nat) : Int) ((9007199254740991 <<< _ : Nat) : Int)) == _) = _
  rw [show (e - min e (((2046 : Nat) : Int) - 1075)).toNat = 0 by omega, Nat.shiftLeft_zero, Nat.shiftLeft_eq]
  have hp := Nat.two_pow_pos ((((2046 : Nat) : Int) - 1075 - min e (((2046 : Nat) : Int) - 1075)).toNat)
  have hle : m ≤ 9007199254740991 * 2 ^ ((((2046 : Nat) : Int) - 1075 - min e (((2046 : Nat) : Int) - 1075)).toNat) := Nat.le_trans (by omega) (Nat.le_mul_of_pos_right 9007199254740991 hp)
  rcases Nat.lt_or_eq_of_le hle with q | q
  · rw [cmp_lt (by omega)]; rfl
  · rw [cmp_eq (by omega)]; rfl
theorem order_sub (x : Nat) (h : x < 4503599627370496) : FloatKind.f64.format.order x 4503599627370496 = some .lt := by
  show double.order x 4503599627370496 = _
  unfold Format.order
  rw [read_low x h, show (4503599627370496 : Nat) = 1 * 4503599627370496 + 0 from rfl, read_norm 1 0 (by omega) (by omega) (by omega)]
  show some (compare ((x <<< 0 : Nat) : Int) ((4503599627370496 <<< 0 : Nat) : Int)) = _
  rw [Nat.shiftLeft_zero, Nat.shiftLeft_zero, cmp_lt (by omega)]
theorem order_norm (x : Nat) (h : Fin64 x) (hn : 4503599627370496 ≤ x) : (FloatKind.f64.format.order x 4503599627370496 == some .lt) = false := by
  obtain ⟨m, e, hr, hm, h1, h2, _, _, h3⟩ := read_fin x h
  have h3 := h3 hn
  show (double.order x 4503599627370496 == _) = _
  unfold Format.order
  rw [hr, show (4503599627370496 : Nat) = 1 * 4503599627370496 + 0 from rfl, read_norm 1 0 (by omega) (by omega) (by omega)]
  show (some (compare ((m <<< _ : Nat) : Int) ((4503599627370496 <<< _ : Nat) : Int)) == _) = _
  rw [show (((1 : Nat) : Int) - 1075 - min e (((1 : Nat) : Int) - 1075)).toNat = 0 by omega, Nat.shiftLeft_zero, Nat.shiftLeft_eq]
  have hp := Nat.two_pow_pos ((e - min e (((1 : Nat) : Int) - 1075)).toNat)
  have hle : 4503599627370496 ≤ m * 2 ^ ((e - min e (((1 : Nat) : Int) - 1075)).toNat) := Nat.le_trans h3 (Nat.le_mul_of_pos_right m hp)
  rcases Nat.lt_or_eq_of_le hle with q | q
  · rw [cmp_gt (by omega)]; rfl
  · rw [cmp_eq (by omega)]; rfl
/-- The sign struck out. -/
theorem abs_word (x : Nat) (h : x < 9223372036854775808) : bits .andNot .u64 (x : Int) 9223372036854775808 = (x : Int) := by
  have := u64_andNot_nat x 9223372036854775808 (by omega) (by omega)
  rw [show ((9223372036854775808 : Nat) : Int) = 9223372036854775808 from rfl] at this
  rw [this]
  congr 1
  have := Nat.and_two_pow_sub_one_eq_mod x 63
  rw [show (18446744073709551615 - 9223372036854775808 : Nat) = 2 ^ 63 - 1 from rfl, this]
  omega
/-- The exponent struck out. -/
theorem strike_word (E F : Nat) (h : F < 4503599627370496) (hE : E < 2048) : bits .andNot .u64 ((E * 4503599627370496 + F : Nat) : Int) 9218868437227405312 = (F : Int) := by
  have := u64_andNot_nat (E * 4503599627370496 + F) 9218868437227405312 (by omega) (by omega)
  rw [show ((9218868437227405312 : Nat) : Int) = 9218868437227405312 from rfl] at this
  rw [this]
  congr 1
  have e1 : E * 4503599627370496 + F = (E * 4503599627370496) ||| F := (nat_join 52 _ _ (Nat.mul_mod_left _ _) h).symm
  have e2 : (18446744073709551615 - 9218868437227405312 : Nat) = 2 ^ 63 ||| (2 ^ 52 - 1) := by
    rw [nat_join 63 (2 ^ 63) (2 ^ 52 - 1) (by simp) (by simp)]
  rw [e2, Nat.and_or_distrib_left, Nat.and_two_pow_sub_one_eq_mod, nat_bit]
  have q1 : (E * 4503599627370496 + F) / 2 ^ 63 = 0 := Nat.div_eq_of_lt (show _ < 9223372036854775808 by omega)
  have q2 : (E * 4503599627370496 + F) % 2 ^ 52 = F := show _ % 4503599627370496 = F by omega
  rw [q1, q2]
  simp
theorem or_word (E F : Nat) (h : F < 4503599627370496) (hE : E < 2048) : bits .or .u64 (F : Int) ((E : Int) * 4503599627370496) = ((E * 4503599627370496 + F : Nat) : Int) := by
  have := u64_or_nat F (E * 4503599627370496) (by omega) (by omega)
  rw [show (((E * 4503599627370496 : Nat)) : Int) = (E : Int) * 4503599627370496 by omega] at this
  rw [this, Nat.or_comm, nat_join 52 _ _ (Nat.mul_mod_left _ _) h]
end Go.Proofs.YtjlhningaijneaaDoor
