/- What convert makes, as functions of patterns; convert's contracts by them. -/
import Derived.Test.YtjlhningaijneaaDoorFhConv
namespace Go.Proofs.YtjlhningaijneaaDoor
open Go.RowKit
set_option linter.unusedSimpArgs false
set_option linter.unusedVariables false
open Ieee in
theorem toInt_read (G F : Nat) (hF : F < 4503599627370496) (h1 : 1 ≤ G) (h2 : G ≤ 1075) : (double.read (G * 4503599627370496 + F)).toInt .zero = some (signed false ((4503599627370496 + F) / 2 ^ (1075 - G)) 0) := by
  rw [read_norm G F hF h1 (by omega)]
  unfold Datum.toInt Datum.integral
  simp only []
  rw [show ((G : Int) - 1075).toNat = 0 by omega, show (-((G : Int) - 1075)).toNat = 1075 - G by omega, Nat.shiftLeft_zero, cut_zero]
open Ieee in
theorem toInt_fits (d : Datum) (N : Nat) (h : d.toInt .zero = some (signed false N 0)) (hN : N < 18446744073709551616) (w : Nat) (hw : FloatKind.f64.decode w = d) : floatToIntVal .f64 w .u64 = some (N : Int) := by
  have m1 : IntKind.u64.min = 0 := rfl
  have m2 : IntKind.u64.max = 18446744073709551615 := rfl
  have e2 : signed false N 0 = (N : Int) := by show ((N <<< 0 : Nat) : Int) = _; rw [Nat.shiftLeft_zero]
  unfold floatToIntVal
  rw [hw, h, e2]
  show (if _ then _ else _) = _
  rw [if_pos (by rw [m1, m2]; omega)]
theorem toInt_word (G F : Nat) (hF : F < 4503599627370496) (h1 : 1 ≤ G) (h2 : G ≤ 1075) : floatToIntVal .f64 (G * 4503599627370496 + F) .u64 = some (((4503599627370496 + F) / 2 ^ (1075 - G) : Nat) : Int) := by
  have hle : (4503599627370496 + F) / 2 ^ (1075 - G) ≤ 4503599627370496 + F := Nat.div_le_self _ _
  exact toInt_fits _ _ (toInt_read G F hF h1 h2) (by generalize (4503599627370496 + F) / 2 ^ (1075 - G) = N at hle; omega) _ rfl
open Ieee in
theorem toInt_low (x : Nat) (hx : x < 4503599627370496) : floatToIntVal .f64 x .u64 = some ((0 : Nat) : Int) := by
  unfold floatToIntVal
  have e : (FloatKind.f64.decode x).toInt .zero = some ((0 : Nat) : Int) := by
    show (double.read x).toInt .zero = _
    rw [read_low x hx]
    show some (signed false (Toward.zero.cut false (x <<< (-1074 : Int).toNat) (-(-1074 : Int)).toNat) 0) = _
    rw [show (-1074 : Int).toNat = 0 from rfl, show (-(-1074 : Int)).toNat = 1074 from rfl, Nat.shiftLeft_zero, cut_zero, Nat.div_eq_of_lt (Nat.lt_of_lt_of_le hx (Nat.pow_le_pow_right (n := 2) (by decide) (show 52 ≤ 1074 by decide)))]
    rfl
  rw [e]
  rfl
theorem ldexp_word (E F G : Nat) (k : Int) (w : World) (hF : F < 4503599627370496) (hE1 : 1 ≤ E) (hE : E ≤ 2046) (hG1 : 1 ≤ G) (hG : G ≤ 2046) (hk : k = G - E) :
    Calls Tryd.prog 43 #[.float .f64 (E * 4503599627370496 + F), .int .i64 k] w fun e w' => e = .returned (.float .f64 (G * 4503599627370496 + F)) ∧ w' = w := by
  have hf : Fin64 (E * 4503599627370496 + F) := by unfold Fin64; omega
  exact Ldexp_of _ _ _ w fun w => ldexp_any _ _ E F G 0 k w hf (by omega) (by omega) (by omega) hF hE1 hE rfl hG1 hG (by omega) (fun w => normalize_norm _ w hf (by omega))
theorem frexp_word (E F : Nat) (w : World) (hF : F < 4503599627370496) (hE1 : 1 ≤ E) (hE : E ≤ 2046) :
    Calls Tryd.prog 41 #[.float .f64 (E * 4503599627370496 + F)] w fun e w' => (∃ f, e = .returned (.tuple #[.float .f64 f, .int .i64 ((E : Int) - 1022)])) ∧ w' = w := by
  have hf : Fin64 (E * 4503599627370496 + F) := by unfold Fin64; omega
  refine Frexp_of _ _ w fun w => ?_
  have := frexp_any _ _ E F 0 w hf (by omega) (by omega) (by omega) hF hE1 hE rfl (fun w => normalize_norm _ w hf (by omega))
  rw [Int.zero_add] at this
  exact this
theorem ldexp_sub (x G : Nat) (k : Int) (w : World) (h0 : 0 < x) (hx : x < 4503599627370496) (hG1 : 1 ≤ G) (hG : G ≤ 2046) (hk : k = G + tp x - 1) :
    Calls Tryd.prog 43 #[.float .f64 x, .int .i64 k] w fun e w' => e = .returned (.float .f64 (G * 4503599627370496 + (x * 2 ^ tp x - 4503599627370496))) ∧ w' = w := by
  obtain ⟨h1, h2, h3, h4⟩ := tp_spec x h0 (by omega)
  have hf : Fin64 x := by unfold Fin64; omega
  exact Ldexp_of _ _ _ w fun w => ldexp_any x _ (53 - tp x) (x * 2 ^ tp x - 4503599627370496) G (-52) k w hf h0 (by omega) (by omega) (by omega) (by omega) (by omega) rfl hG1 hG (by omega) (fun w => normalize_sub x (tp x) w h1 h2 hx h3)
theorem frexp_sub (x : Nat) (w : World) (h0 : 0 < x) (hx : x < 4503599627370496) :
    Calls Tryd.prog 41 #[.float .f64 x] w fun e w' => (∃ f, e = .returned (.tuple #[.float .f64 f, .int .i64 (-1021 - (tp x : Int))])) ∧ w' = w := by
  obtain ⟨h1, h2, h3, h4⟩ := tp_spec x h0 (by omega)
  have hf : Fin64 x := by unfold Fin64; omega
  refine Frexp_of _ _ w fun w => ?_
  have := frexp_any x _ (53 - tp x) (x * 2 ^ tp x - 4503599627370496) (-52) w hf h0 (by omega) (by omega) (by omega) (by omega) (by omega) rfl (fun w => normalize_sub x (tp x) w h1 h2 hx h3)
  rw [show (-52 : Int) + ((53 - tp x : Nat) : Int) - 1022 = -1021 - (tp x : Int) by omega] at this
  exact this
/-- The pattern of 64 bits of one of 16 bits. -/
def widh (x : Nat) : Nat :=
  if x / 1024 % 32 = 31 then x / 32768 * 9223372036854775808 + 2047 * 4503599627370496 + x % 1024 * 4398046511104
  else if x / 1024 % 32 = 0 then (if x % 1024 = 0 then x / 32768 * 9223372036854775808 else x / 32768 * 9223372036854775808 + (1051 - tp (x % 1024)) * 4503599627370496 + (x % 1024 * 2 ^ tp (x % 1024) - 4503599627370496))
  else x / 32768 * 9223372036854775808 + (x / 1024 % 32 + 1008) * 4503599627370496 + x % 1024 * 4398046511104
/-- The pattern of 16 bits that may be the narrow one. -/
def narh (x : Nat) : Nat :=
  if x / 4503599627370496 % 2048 = 2047 then x / 9223372036854775808 * 32768 + 31 * 1024 + x % 4503599627370496 / 4398046511104
  else if x / 4503599627370496 % 2048 = 0 then x / 9223372036854775808 * 32768
  else if 1039 ≤ x / 4503599627370496 % 2048 then x / 9223372036854775808 * 32768
  else if 1009 ≤ x / 4503599627370496 % 2048 then x / 9223372036854775808 * 32768 + (x / 4503599627370496 % 2048 - 1008) * 1024 + x % 4503599627370496 / 4398046511104
  else x / 9223372036854775808 * 32768 + (4503599627370496 + x % 4503599627370496) / 2 ^ (1051 - x / 4503599627370496 % 2048)
theorem conv_hd (x : Nat) (w : World) (g : Gl w) (hx : x < 65536) :
    Calls Tryd.prog 23 #[.int .u64 x, .agg #[.int .i64 5, .int .i64 10], .agg #[.int .i64 11, .int .i64 52]] w fun e w' => e = .returned (.int .u64 (widh x : Nat)) ∧ Below w.heap.size w w' := by
  obtain ⟨s, hs⟩ : ∃ s, x / 32768 = s := ⟨_, rfl⟩
  obtain ⟨p, hp⟩ : ∃ p, x / 1024 % 32 = p := ⟨_, rfl⟩
  obtain ⟨q, hq⟩ : ∃ q, x % 1024 = q := ⟨_, rfl⟩
  have hx' : x = s * 32768 + p * 1024 + q := by omega
  unfold widh
  rw [hs, hp, hq]
  by_cases c1 : p = 31
  · rw [if_pos c1]
    exact conv_hdinf x s q w (by omega) (by omega) (by rw [hx', c1])
  rw [if_neg c1]
  by_cases c2 : p = 0
  · rw [if_pos c2]
    subst c2
    by_cases c3 : q = 0
    · rw [if_pos c3]
      subst c3
      have := conv_hdnum x s 0 0 0 0 0 w g (by omega) (by omega) (by omega) (by omega) (by omega) (by omega)
        (fun w g => number_h0 0 0 0 w (by omega) g ofInt_zero (fun w => Ldexp_of 0 _ 0 w (fun w => ldexp_zero _ w)))
        (fun w g => partsOf_d 0 0 0 w (by omega) (by omega) (by omega) g)
      simpa using this
    · rw [if_neg c3]
      obtain ⟨h1, h2, h3, h4⟩ := tp_spec q (by omega) (by omega)
      have ht : 42 < tp q := by
        have : q.log2 < 10 := (Nat.log2_lt c3).2 (by show q < 1024; omega)
        omega
      exact conv_hdnum x s 0 q _ (1051 - tp q) (q * 2 ^ tp q - 4503599627370496) w g (by omega) (by omega) (by omega) hx' (by omega) (by omega)
        (fun w g => number_h0 q _ _ w (by omega) g (ofInt_word q (tp q) h1 h2 h3) (fun w => ldexp_word (1075 - tp q) _ (1051 - tp q) _ w (by omega) (by omega) (by omega) (by omega) (by omega) (by omega)))
        (fun w g => partsOf_d _ _ _ w (by omega) (by omega) rfl g)
  rw [if_neg c2]
  have hm : (1024 + q) * 2 ^ 42 = 4503599627370496 + q * 4398046511104 := by rw [Nat.add_mul]
  have e := ofInt_word (1024 + q) 42 (by rw [hm]; omega) (by rw [hm]; omega) (by omega)
  rw [hm, show 4503599627370496 + q * 4398046511104 - 4503599627370496 = q * 4398046511104 by omega, show 1075 - 42 = 1033 by omega] at e
  exact conv_hdnum x s p q _ (p + 1008) (q * 4398046511104) w g (by omega) (by omega) (by omega) hx' (by omega) (by omega)
    (fun w g => number_h1 p q _ _ w (by omega) (by omega) (by omega) g e (fun w => ldexp_word 1033 (q * 4398046511104) (p + 1008) _ w (by omega) (by omega) (by omega) (by omega) (by omega) (by omega)))
    (fun w g => partsOf_d _ _ _ w (by omega) (by omega) rfl g)
theorem conv_dh (x : Nat) (w : World) (g : Gl w) (hx : x < 18446744073709551616) :
    Calls Tryd.prog 23 #[.int .u64 x, .agg #[.int .i64 11, .int .i64 52], .agg #[.int .i64 5, .int .i64 10]] w fun e w' => e = .returned (.int .u64 (narh x : Nat)) ∧ Below w.heap.size w w' := by
  obtain ⟨s, hs⟩ : ∃ s, x / 9223372036854775808 = s := ⟨_, rfl⟩
  obtain ⟨E, hE⟩ : ∃ E, x / 4503599627370496 % 2048 = E := ⟨_, rfl⟩
  obtain ⟨F, hF'⟩ : ∃ F, x % 4503599627370496 = F := ⟨_, rfl⟩
  have hx' : x = s * 9223372036854775808 + E * 4503599627370496 + F := by omega
  have hF : F < 4503599627370496 := by omega
  unfold narh
  rw [hs, hE, hF']
  by_cases c1 : E = 2047
  · rw [if_pos c1]
    exact conv_dhinf x s F w (by omega) hF (by rw [hx', c1])
  rw [if_neg c1]
  by_cases c2 : E = 0
  · rw [if_pos c2]
    subst c2
    by_cases c3 : F = 0
    · subst c3
      have := conv_dhnum x s 0 0 0 0 0 w g (by omega) (by omega) (by omega) hx' (by omega) (by omega)
        (fun w g => number_d 0 0 w (by omega) (by omega) g)
        (fun w g => partsOf_hzero w g)
      simpa using this
    · obtain ⟨h1, h2, h3, h4⟩ := tp_spec F (by omega) (by omega)
      by_cases ct : tp F ≤ 24
      · have := conv_dhnum x s 0 F F 0 0 w g (by omega) (by omega) hF hx' (by omega) (by omega)
          (fun w g => by have := number_d 0 F w (by omega) hF g; rw [Nat.zero_mul, Nat.zero_add] at this; exact this)
          (fun w g => partsOf_hlow F _ 0 (-1021 - (tp F : Int)) w g (by omega) (by omega) (fun w => frexp_sub F w (by omega) hF) (fun w => ldexp_sub F (25 - tp F) _ w (by omega) hF (by omega) (by omega) (by omega)) (by
            rw [toInt_word (25 - tp F) _ (by omega) (by omega) (by omega), Nat.div_eq_of_lt (Nat.lt_of_lt_of_le (show _ < 2 ^ 53 by show _ < 9007199254740992; omega) (Nat.pow_le_pow_right (by decide) (by omega)))]))
        simpa using this
      · have := conv_dhnum x s 0 F F 0 0 w g (by omega) (by omega) hF hx' (by omega) (by omega)
          (fun w g => by have := number_d 0 F w (by omega) hF g; rw [Nat.zero_mul, Nat.zero_add] at this; exact this)
          (fun w g => partsOf_hlow F _ 0 (-1021 - (tp F : Int)) w g (by omega) (by omega) (fun w => frexp_sub F w (by omega) hF) (fun w => Ldexp_of _ _ _ w (fun w => ldexp_low F (tp F) w (by omega) (by omega) h3 h1 h2 hF)) (toInt_low _ (by
            have e : F * 2 ^ tp F = F * 16777216 * 2 ^ (tp F - 24) := by rw [Nat.mul_assoc, show (16777216 : Nat) = 2 ^ 24 from rfl, ← Nat.pow_add, show 24 + (tp F - 24) = tp F by omega]
            have h5 : 2 ≤ 2 ^ (tp F - 24) := Nat.pow_le_pow_right (n := 2) (i := 1) (by decide) (by omega)
            have h6 : F * 16777216 * 2 ≤ F * 16777216 * 2 ^ (tp F - 24) := Nat.mul_le_mul_left _ h5
            omega)))
        simpa using this
  rw [if_neg c2]
  have hfin : Fin64 (E * 4503599627370496 + F) := by unfold Fin64; omega
  by_cases c3 : 1039 ≤ E
  · rw [if_pos c3]
    have := conv_dhnum x s E F _ 0 0 w g (by omega) (by omega) hF hx' (by omega) (by omega)
      (fun w g => number_d E F w (by omega) hF g)
      (fun w g => partsOf_hbig _ _ w g (by omega) (by omega) (fun w => frexp_word E F w hF (by omega) (by omega)))
    simpa using this
  rw [if_neg c3]
  by_cases c4 : 1009 ≤ E
  · rw [if_pos c4]
    have hN : (4503599627370496 + F) / 2 ^ (1075 - 1033) = 1024 + F / 4398046511104 := by show _ / 4398046511104 = _; omega
    have := conv_dhnum x s E F _ (E - 1008) (F / 4398046511104) w g (by omega) (by omega) hF hx' (by omega) (by omega)
      (fun w g => number_d E F w (by omega) hF g)
      (fun w g => by
        have := partsOf_hmid (E * 4503599627370496 + F) _ (1024 + F / 4398046511104) (E - 1008) _ w g (order_zero _ hfin (by omega)) (by omega) (by omega) (by omega) (fun w => frexp_word E F w hF (by omega) (by omega))
          (fun w => ldexp_word E F 1033 _ w hF (by omega) (by omega) (by omega) (by omega) (by omega)) (by rw [toInt_word 1033 F hF (by omega) (by omega), hN]) (by omega) (by omega)
        rw [show 1024 + F / 4398046511104 - 1024 = F / 4398046511104 by omega] at this
        exact this)
    exact this
  rw [if_neg c4]
  have hlow : (4503599627370496 + F) / 2 ^ (1051 - E) < 1024 := by
    rw [Nat.div_lt_iff_lt_mul (Nat.two_pow_pos _)]
    have : 2 ^ 43 ≤ 2 ^ (1051 - E) := Nat.pow_le_pow_right (by decide) (by omega)
    have h2 : 1024 * 2 ^ 43 ≤ 1024 * 2 ^ (1051 - E) := Nat.mul_le_mul_left _ this
    have h3 : 1024 * 2 ^ 43 = 9007199254740992 := rfl
    omega
  have := conv_dhnum x s E F _ 0 ((4503599627370496 + F) / 2 ^ (1051 - E)) w g (by omega) (by omega) hF hx' (by omega) hlow
    (fun w g => number_d E F w (by omega) hF g)
    (fun w g => partsOf_hlow _ _ _ _ w g (by omega) (by omega) (fun w => frexp_word E F w hF (by omega) (by omega))
      (fun w => ldexp_word E F (E + 24) _ w hF (by omega) (by omega) (by omega) (by omega) (by omega)) (by rw [toInt_word (E + 24) F hF (by omega) (by omega), show 1075 - (E + 24) = 1051 - E by omega]))
  simpa using this
/-- The pattern of 64 bits of one of 32 bits. -/
def wids (x : Nat) : Nat :=
  if x / 8388608 % 256 = 255 then x / 2147483648 * 9223372036854775808 + 2047 * 4503599627370496 + x % 8388608 * 536870912
  else if x / 8388608 % 256 = 0 then (if x % 8388608 = 0 then x / 2147483648 * 9223372036854775808 else x / 2147483648 * 9223372036854775808 + (926 - tp (x % 8388608)) * 4503599627370496 + (x % 8388608 * 2 ^ tp (x % 8388608) - 4503599627370496))
  else x / 2147483648 * 9223372036854775808 + (x / 8388608 % 256 + 896) * 4503599627370496 + x % 8388608 * 536870912
/-- The pattern of 32 bits that may be the narrow one. -/
def nars (x : Nat) : Nat :=
  if x / 4503599627370496 % 2048 = 2047 then x / 9223372036854775808 * 2147483648 + 255 * 8388608 + x % 4503599627370496 / 536870912
  else if x / 4503599627370496 % 2048 = 0 then x / 9223372036854775808 * 2147483648
  else if 1151 ≤ x / 4503599627370496 % 2048 then x / 9223372036854775808 * 2147483648
  else if 897 ≤ x / 4503599627370496 % 2048 then x / 9223372036854775808 * 2147483648 + (x / 4503599627370496 % 2048 - 896) * 8388608 + x % 4503599627370496 / 536870912
  else x / 9223372036854775808 * 2147483648 + (4503599627370496 + x % 4503599627370496) / 2 ^ (926 - x / 4503599627370496 % 2048)
theorem conv_sd (x : Nat) (w : World) (g : Gl w) (hx : x < 4294967296) :
    Calls Tryd.prog 23 #[.int .u64 x, .agg #[.int .i64 8, .int .i64 23], .agg #[.int .i64 11, .int .i64 52]] w fun e w' => e = .returned (.int .u64 (wids x : Nat)) ∧ Below w.heap.size w w' := by
  obtain ⟨s, hs⟩ : ∃ s, x / 2147483648 = s := ⟨_, rfl⟩
  obtain ⟨p, hp⟩ : ∃ p, x / 8388608 % 256 = p := ⟨_, rfl⟩
  obtain ⟨q, hq⟩ : ∃ q, x % 8388608 = q := ⟨_, rfl⟩
  have hx' : x = s * 2147483648 + p * 8388608 + q := by omega
  unfold wids
  rw [hs, hp, hq]
  by_cases c1 : p = 255
  · rw [if_pos c1]
    exact conv_sdinf x s q w (by omega) (by omega) (by rw [hx', c1])
  rw [if_neg c1]
  by_cases c2 : p = 0
  · rw [if_pos c2]
    subst c2
    by_cases c3 : q = 0
    · rw [if_pos c3]
      subst c3
      have := conv_sdnum x s 0 0 0 0 0 w g (by omega) (by omega) (by omega) (by omega) (by omega) (by omega)
        (fun w g => number_s0 0 0 0 w (by omega) g ofInt_zero (fun w => Ldexp_of 0 _ 0 w (fun w => ldexp_zero _ w)))
        (fun w g => partsOf_d 0 0 0 w (by omega) (by omega) (by omega) g)
      simpa using this
    · rw [if_neg c3]
      obtain ⟨h1, h2, h3, h4⟩ := tp_spec q (by omega) (by omega)
      have ht : 29 < tp q := by
        have : q.log2 < 23 := (Nat.log2_lt c3).2 (by show q < 8388608; omega)
        omega
      exact conv_sdnum x s 0 q _ (926 - tp q) (q * 2 ^ tp q - 4503599627370496) w g (by omega) (by omega) (by omega) hx' (by omega) (by omega)
        (fun w g => number_s0 q _ _ w (by omega) g (ofInt_word q (tp q) h1 h2 h3) (fun w => ldexp_word (1075 - tp q) _ (926 - tp q) _ w (by omega) (by omega) (by omega) (by omega) (by omega) (by omega)))
        (fun w g => partsOf_d _ _ _ w (by omega) (by omega) rfl g)
  rw [if_neg c2]
  have hm : (8388608 + q) * 2 ^ 29 = 4503599627370496 + q * 536870912 := by rw [Nat.add_mul]
  have e := ofInt_word (8388608 + q) 29 (by rw [hm]; omega) (by rw [hm]; omega) (by omega)
  rw [hm, show 4503599627370496 + q * 536870912 - 4503599627370496 = q * 536870912 by omega, show 1075 - 29 = 1046 by omega] at e
  exact conv_sdnum x s p q _ (p + 896) (q * 536870912) w g (by omega) (by omega) (by omega) hx' (by omega) (by omega)
    (fun w g => number_s1 p q _ _ w (by omega) (by omega) (by omega) g e (fun w => ldexp_word 1046 (q * 536870912) (p + 896) _ w (by omega) (by omega) (by omega) (by omega) (by omega) (by omega)))
    (fun w g => partsOf_d _ _ _ w (by omega) (by omega) rfl g)
theorem conv_ds (x : Nat) (w : World) (g : Gl w) (hx : x < 18446744073709551616) :
    Calls Tryd.prog 23 #[.int .u64 x, .agg #[.int .i64 11, .int .i64 52], .agg #[.int .i64 8, .int .i64 23]] w fun e w' => e = .returned (.int .u64 (nars x : Nat)) ∧ Below w.heap.size w w' := by
  obtain ⟨s, hs⟩ : ∃ s, x / 9223372036854775808 = s := ⟨_, rfl⟩
  obtain ⟨E, hE⟩ : ∃ E, x / 4503599627370496 % 2048 = E := ⟨_, rfl⟩
  obtain ⟨F, hF'⟩ : ∃ F, x % 4503599627370496 = F := ⟨_, rfl⟩
  have hx' : x = s * 9223372036854775808 + E * 4503599627370496 + F := by omega
  have hF : F < 4503599627370496 := by omega
  unfold nars
  rw [hs, hE, hF']
  by_cases c1 : E = 2047
  · rw [if_pos c1]
    exact conv_dsinf x s F w (by omega) hF (by rw [hx', c1])
  rw [if_neg c1]
  by_cases c2 : E = 0
  · rw [if_pos c2]
    subst c2
    by_cases c3 : F = 0
    · subst c3
      have := conv_dsnum x s 0 0 0 0 0 w g (by omega) (by omega) (by omega) hx' (by omega) (by omega)
        (fun w g => number_d 0 0 w (by omega) (by omega) g)
        (fun w g => partsOf_szero w g)
      simpa using this
    · obtain ⟨h1, h2, h3, h4⟩ := tp_spec F (by omega) (by omega)
      have := conv_dsnum x s 0 F F 0 0 w g (by omega) (by omega) hF hx' (by omega) (by omega)
        (fun w g => by have := number_d 0 F w (by omega) hF g; rw [Nat.zero_mul, Nat.zero_add] at this; exact this)
        (fun w g => partsOf_slow F _ 0 (-1021 - (tp F : Int)) w g (by omega) (by omega) (fun w => frexp_sub F w (by omega) hF) (fun w => ldexp_sub F (150 - tp F) _ w (by omega) hF (by omega) (by omega) (by omega)) (by
          rw [toInt_word (150 - tp F) _ (by omega) (by omega) (by omega), Nat.div_eq_of_lt (Nat.lt_of_lt_of_le (show _ < 2 ^ 53 by show _ < 9007199254740992; omega) (Nat.pow_le_pow_right (by decide) (by omega)))]))
      simpa using this
  rw [if_neg c2]
  have hfin : Fin64 (E * 4503599627370496 + F) := by unfold Fin64; omega
  by_cases c3 : 1151 ≤ E
  · rw [if_pos c3]
    have := conv_dsnum x s E F _ 0 0 w g (by omega) (by omega) hF hx' (by omega) (by omega)
      (fun w g => number_d E F w (by omega) hF g)
      (fun w g => partsOf_sbig _ _ w g (by omega) (by omega) (fun w => frexp_word E F w hF (by omega) (by omega)))
    simpa using this
  rw [if_neg c3]
  by_cases c4 : 897 ≤ E
  · rw [if_pos c4]
    have hN : (4503599627370496 + F) / 2 ^ (1075 - 1046) = 8388608 + F / 536870912 := by show _ / 536870912 = _; omega
    have := conv_dsnum x s E F _ (E - 896) (F / 536870912) w g (by omega) (by omega) hF hx' (by omega) (by omega)
      (fun w g => number_d E F w (by omega) hF g)
      (fun w g => by
        have := partsOf_smid (E * 4503599627370496 + F) _ (8388608 + F / 536870912) (E - 896) _ w g (order_zero _ hfin (by omega)) (by omega) (by omega) (by omega) (fun w => frexp_word E F w hF (by omega) (by omega))
          (fun w => ldexp_word E F 1046 _ w hF (by omega) (by omega) (by omega) (by omega) (by omega)) (by rw [toInt_word 1046 F hF (by omega) (by omega), hN]) (by omega) (by omega)
        rw [show 8388608 + F / 536870912 - 8388608 = F / 536870912 by omega] at this
        exact this)
    exact this
  rw [if_neg c4]
  have hlow : (4503599627370496 + F) / 2 ^ (926 - E) < 8388608 := by
    rw [Nat.div_lt_iff_lt_mul (Nat.two_pow_pos _)]
    have : 2 ^ 30 ≤ 2 ^ (926 - E) := Nat.pow_le_pow_right (by decide) (by omega)
    have h2 : 8388608 * 2 ^ 30 ≤ 8388608 * 2 ^ (926 - E) := Nat.mul_le_mul_left _ this
    have h3 : 8388608 * 2 ^ 30 = 9007199254740992 := rfl
    omega
  have := conv_dsnum x s E F _ 0 ((4503599627370496 + F) / 2 ^ (926 - E)) w g (by omega) (by omega) hF hx' (by omega) hlow
    (fun w g => number_d E F w (by omega) hF g)
    (fun w g => partsOf_slow _ _ _ _ w g (by omega) (by omega) (fun w => frexp_word E F w hF (by omega) (by omega))
      (fun w => ldexp_word E F (E + 149) _ w hF (by omega) (by omega) (by omega) (by omega) (by omega)) (by rw [toInt_word (E + 149) F hF (by omega) (by omega), show 1075 - (E + 149) = 926 - E by omega]))
  simpa using this
end Go.Proofs.YtjlhningaijneaaDoor
