/- calamusref02's power, Of, ones, Class, bits: walked. -/
import Derived.Test.YtjlhningaijneaaDoorFmHex
namespace Go.Proofs.YtjlhningaijneaaDoor
open Go.RowKit
set_option linter.unusedSimpArgs false
set_option linter.unusedVariables false
theorem power_any (n : Nat) (w : World) (hn : n ≤ 63) :
    Calls Tryd.prog 37 #[.int .i64 n] w fun e w' => e = .returned (.int .u64 (2 ^ n : Nat)) ∧ w' = w := by
  go_enter Tryd.func37, Tryd.ntmps37
  go_wp2
  go_loop [3, 4] (fun p i => ∃ k : Nat, k ≤ n ∧ i = .int .i64 k ∧ p = .int .u64 (2 ^ k : Nat)) (fun p i => n - (intOf i).toNat)
  case atStart => exact ⟨0, Nat.zero_le _, rfl, rfl⟩
  case round =>
    obtain ⟨k, hk, rfl, rfl⟩ := hrel
    by_cases hlt : k < n
    · have hp : 2 ^ k ≤ 2 ^ 62 := Nat.pow_le_pow_right (by decide) (by omega)
      have hp2 := hide (show 2 ^ (k + 1) = 2 ^ k * 2 from Nat.pow_succ ..)
      have h62 : (2 : Nat) ^ 62 = 4611686018427387904 := rfl
      rw [h62] at hp
      clear h62
      obtain ⟨y, hy⟩ : ∃ y, 2 ^ k = y := ⟨_, rfl⟩
      rw [hy] at hp hp2 ⊢
      clear hy
      go_wp2
      refine ⟨⟨k + 1, by omega, by go_num, ?_⟩, by simp [intOf]; omega⟩
      rw [hp2.out, Nat.mul_comm]
      rfl
    · have hke : k = n := by omega
      subst hke
      go_wp2
      go_ret
      exact ⟨rfl, rfl⟩
theorem power_of (n v : Nat) (w : World) (hn : n ≤ 63) (hv : 2 ^ n = v) :
    Calls Tryd.prog 37 #[.int .i64 n] w fun e w' => e = .returned (.int .u64 v) ∧ w' = w := by
  rw [← hv]; exact power_any n w hn
theorem power_5 (w : World) : Calls Tryd.prog 37 #[.int .i64 5] w fun e w' => e = .returned (.int .u64 32) ∧ w' = w := power_of 5 32 w (by omega) rfl
theorem power_8 (w : World) : Calls Tryd.prog 37 #[.int .i64 8] w fun e w' => e = .returned (.int .u64 256) ∧ w' = w := power_of 8 256 w (by omega) rfl
theorem power_10 (w : World) : Calls Tryd.prog 37 #[.int .i64 10] w fun e w' => e = .returned (.int .u64 1024) ∧ w' = w := power_of 10 1024 w (by omega) rfl
theorem power_11 (w : World) : Calls Tryd.prog 37 #[.int .i64 11] w fun e w' => e = .returned (.int .u64 2048) ∧ w' = w := power_of 11 2048 w (by omega) rfl
theorem power_15 (w : World) : Calls Tryd.prog 37 #[.int .i64 15] w fun e w' => e = .returned (.int .u64 32768) ∧ w' = w := power_of 15 32768 w (by omega) rfl
theorem power_23 (w : World) : Calls Tryd.prog 37 #[.int .i64 23] w fun e w' => e = .returned (.int .u64 8388608) ∧ w' = w := power_of 23 8388608 w (by omega) rfl
theorem power_29 (w : World) : Calls Tryd.prog 37 #[.int .i64 29] w fun e w' => e = .returned (.int .u64 536870912) ∧ w' = w := power_of 29 536870912 w (by omega) rfl
theorem power_31 (w : World) : Calls Tryd.prog 37 #[.int .i64 31] w fun e w' => e = .returned (.int .u64 2147483648) ∧ w' = w := power_of 31 2147483648 w (by omega) rfl
theorem power_42 (w : World) : Calls Tryd.prog 37 #[.int .i64 42] w fun e w' => e = .returned (.int .u64 4398046511104) ∧ w' = w := power_of 42 4398046511104 w (by omega) rfl
theorem power_52 (w : World) : Calls Tryd.prog 37 #[.int .i64 52] w fun e w' => e = .returned (.int .u64 4503599627370496) ∧ w' = w := power_of 52 4503599627370496 w (by omega) rfl
theorem power_63 (w : World) : Calls Tryd.prog 37 #[.int .i64 63] w fun e w' => e = .returned (.int .u64 9223372036854775808) ∧ w' = w := power_of 63 9223372036854775808 w (by omega) rfl
set_option maxHeartbeats 1000000 in
theorem of_h (x s p q : Nat) (n : Bool) (w : World) (hn : s = n.toNat) (hp : p < 32) (hq : q < 1024) (hx : x = s * 32768 + p * 1024 + q) :
    Calls Tryd.prog 24 #[.int .u64 x, .int .i64 5, .int .i64 10] w fun e w' => e = .returned (.agg #[.bool n, .int .i64 p, .int .u64 q, .int .i64 5, .int .i64 10]) ∧ Below w.heap.size w w' := by
  have hs : s ≤ 1 := by rw [hn]; cases n <;> decide
  have e1 : (x : Int) % 1024 = q := by omega
  have e2 : (x : Int) / 1024 = ((s * 32 + p : Nat) : Int) := by omega
  have e3 : ((s * 32 + p : Nat) : Int) % 32 = p := by omega
  have e4 : ((s * 32 + p : Nat) : Int) / 32 = s := by omega
  have e5 : (s : Int) % 2 = s := by omega
  have e6 : ((s : Int) == 1) = n := by rw [hn]; cases n <;> rfl
  have t1 : (x : Int).tmod 1024 = (x : Int) % 1024 := Int.tmod_eq_emod_of_nonneg (by omega)
  have t2 : (x : Int).tdiv 1024 = (x : Int) / 1024 := Int.tdiv_eq_ediv_of_nonneg (by omega)
  obtain ⟨y, hy⟩ : ∃ y, s * 32 + p = y := ⟨_, rfl⟩
  rw [hy] at e2 e3 e4
  have t3 : (y : Int).tmod 32 = (y : Int) % 32 := Int.tmod_eq_emod_of_nonneg (by omega)
  have t4 : (y : Int).tdiv 32 = (y : Int) / 32 := Int.tdiv_eq_ediv_of_nonneg (by omega)
  have t5 : (s : Int).tmod 2 = (s : Int) % 2 := Int.tmod_eq_emod_of_nonneg (by omega)
  clear hx hy hn
  go_enter Tryd.func24, Tryd.ntmps24
  go_wp2_with (first | (go_at_call 37; go_fit (power_10 _); rintro e w' ⟨rfl, rfl⟩) | (go_at_call 37; go_fit (power_5 _); rintro e w' ⟨rfl, rfl⟩))
  exact bodyPost_ret (v := .agg #[.bool n, .int .i64 p, .int .u64 q, .int .i64 5, .int .i64 10]) (by simp [results, Tryd.results24, go_sem]) rfl ⟨rfl, below_al (below_al (Below.refl _ _))⟩
set_option maxHeartbeats 1000000 in
theorem fones_h (p q : Nat) (n o : Bool) (w : World) (hp : p < 32) (ho : ((p : Int) == 31) = o) :
    Calls Tryd.prog 39 #[.agg #[.bool n, .int .i64 p, .int .u64 q, .int .i64 5, .int .i64 10]] w fun e w' => e = .returned (.bool o) ∧ w' = (w.alloc (.cells #[.bool n, .int .i64 p, .int .u64 q, .int .i64 5, .int .i64 10] 46)).drew := by
  have u1 : IntKind.u64.wrap (p : Int) = p := by rw [IntKind.wrap_u64]; omega
  have u2 : IntKind.u64.wrap 31 = 31 := by decide
  go_enter Tryd.func39, Tryd.ntmps39
  go_wp2
  go_region_held3 (fun w' => w'.cell? ⟨w.heap.size, 1, none⟩ = some (.int .i64 p) ∧ w'.cell? ⟨w.heap.size, 3, none⟩ = some (.int .i64 5)) (first | (simp [go_sem]; done) | go_keep) (first | (go_at_call 37; go_fit (power_5 _); rintro e w' ⟨rfl, rfl⟩))
  all_goals
    go_wp2
    go_ret
    exact ⟨rfl, rfl⟩
set_option maxHeartbeats 1000000 in
theorem of_s (x s p q : Nat) (n : Bool) (w : World) (hn : s = n.toNat) (hp : p < 256) (hq : q < 8388608) (hx : x = s * 2147483648 + p * 8388608 + q) :
    Calls Tryd.prog 24 #[.int .u64 x, .int .i64 8, .int .i64 23] w fun e w' => e = .returned (.agg #[.bool n, .int .i64 p, .int .u64 q, .int .i64 8, .int .i64 23]) ∧ Below w.heap.size w w' := by
  have hs : s ≤ 1 := by rw [hn]; cases n <;> decide
  have e1 : (x : Int) % 8388608 = q := by omega
  have e2 : (x : Int) / 8388608 = ((s * 256 + p : Nat) : Int) := by omega
  have e3 : ((s * 256 + p : Nat) : Int) % 256 = p := by omega
  have e4 : ((s * 256 + p : Nat) : Int) / 256 = s := by omega
  have e5 : (s : Int) % 2 = s := by omega
  have e6 : ((s : Int) == 1) = n := by rw [hn]; cases n <;> rfl
  have t1 : (x : Int).tmod 8388608 = (x : Int) % 8388608 := Int.tmod_eq_emod_of_nonneg (by omega)
  have t2 : (x : Int).tdiv 8388608 = (x : Int) / 8388608 := Int.tdiv_eq_ediv_of_nonneg (by omega)
  obtain ⟨y, hy⟩ : ∃ y, s * 256 + p = y := ⟨_, rfl⟩
  rw [hy] at e2 e3 e4
  have t3 : (y : Int).tmod 256 = (y : Int) % 256 := Int.tmod_eq_emod_of_nonneg (by omega)
  have t4 : (y : Int).tdiv 256 = (y : Int) / 256 := Int.tdiv_eq_ediv_of_nonneg (by omega)
  have t5 : (s : Int).tmod 2 = (s : Int) % 2 := Int.tmod_eq_emod_of_nonneg (by omega)
  clear hx hy hn
  go_enter Tryd.func24, Tryd.ntmps24
  go_wp2_with (first | (go_at_call 37; go_fit (power_23 _); rintro e w' ⟨rfl, rfl⟩) | (go_at_call 37; go_fit (power_8 _); rintro e w' ⟨rfl, rfl⟩))
  exact bodyPost_ret (v := .agg #[.bool n, .int .i64 p, .int .u64 q, .int .i64 8, .int .i64 23]) (by simp [results, Tryd.results24, go_sem]) rfl ⟨rfl, below_al (below_al (Below.refl _ _))⟩
set_option maxHeartbeats 1000000 in
theorem fones_s (p q : Nat) (n o : Bool) (w : World) (hp : p < 256) (ho : ((p : Int) == 255) = o) :
    Calls Tryd.prog 39 #[.agg #[.bool n, .int .i64 p, .int .u64 q, .int .i64 8, .int .i64 23]] w fun e w' => e = .returned (.bool o) ∧ w' = (w.alloc (.cells #[.bool n, .int .i64 p, .int .u64 q, .int .i64 8, .int .i64 23] 46)).drew := by
  have u1 : IntKind.u64.wrap (p : Int) = p := by rw [IntKind.wrap_u64]; omega
  have u2 : IntKind.u64.wrap 255 = 255 := by decide
  go_enter Tryd.func39, Tryd.ntmps39
  go_wp2
  go_region_held3 (fun w' => w'.cell? ⟨w.heap.size, 1, none⟩ = some (.int .i64 p) ∧ w'.cell? ⟨w.heap.size, 3, none⟩ = some (.int .i64 8)) (first | (simp [go_sem]; done) | go_keep) (first | (go_at_call 37; go_fit (power_8 _); rintro e w' ⟨rfl, rfl⟩))
  all_goals
    go_wp2
    go_ret
    exact ⟨rfl, rfl⟩
set_option maxHeartbeats 1000000 in
theorem of_d (x s p q : Nat) (n : Bool) (w : World) (hn : s = n.toNat) (hp : p < 2048) (hq : q < 4503599627370496) (hx : x = s * 9223372036854775808 + p * 4503599627370496 + q) :
    Calls Tryd.prog 24 #[.int .u64 x, .int .i64 11, .int .i64 52] w fun e w' => e = .returned (.agg #[.bool n, .int .i64 p, .int .u64 q, .int .i64 11, .int .i64 52]) ∧ Below w.heap.size w w' := by
  have hs : s ≤ 1 := by rw [hn]; cases n <;> decide
  have e1 : (x : Int) % 4503599627370496 = q := by omega
  have e2 : (x : Int) / 4503599627370496 = ((s * 2048 + p : Nat) : Int) := by omega
  have e3 : ((s * 2048 + p : Nat) : Int) % 2048 = p := by omega
  have e4 : ((s * 2048 + p : Nat) : Int) / 2048 = s := by omega
  have e5 : (s : Int) % 2 = s := by omega
  have e6 : ((s : Int) == 1) = n := by rw [hn]; cases n <;> rfl
  have t1 : (x : Int).tmod 4503599627370496 = (x : Int) % 4503599627370496 := Int.tmod_eq_emod_of_nonneg (by omega)
  have t2 : (x : Int).tdiv 4503599627370496 = (x : Int) / 4503599627370496 := Int.tdiv_eq_ediv_of_nonneg (by omega)
  obtain ⟨y, hy⟩ : ∃ y, s * 2048 + p = y := ⟨_, rfl⟩
  rw [hy] at e2 e3 e4
  have t3 : (y : Int).tmod 2048 = (y : Int) % 2048 := Int.tmod_eq_emod_of_nonneg (by omega)
  have t4 : (y : Int).tdiv 2048 = (y : Int) / 2048 := Int.tdiv_eq_ediv_of_nonneg (by omega)
  have t5 : (s : Int).tmod 2 = (s : Int) % 2 := Int.tmod_eq_emod_of_nonneg (by omega)
  clear hx hy hn
  go_enter Tryd.func24, Tryd.ntmps24
  go_wp2_with (first | (go_at_call 37; go_fit (power_52 _); rintro e w' ⟨rfl, rfl⟩) | (go_at_call 37; go_fit (power_11 _); rintro e w' ⟨rfl, rfl⟩))
  exact bodyPost_ret (v := .agg #[.bool n, .int .i64 p, .int .u64 q, .int .i64 11, .int .i64 52]) (by simp [results, Tryd.results24, go_sem]) rfl ⟨rfl, below_al (below_al (Below.refl _ _))⟩
set_option maxHeartbeats 1000000 in
theorem fones_d (p q : Nat) (n o : Bool) (w : World) (hp : p < 2048) (ho : ((p : Int) == 2047) = o) :
    Calls Tryd.prog 39 #[.agg #[.bool n, .int .i64 p, .int .u64 q, .int .i64 11, .int .i64 52]] w fun e w' => e = .returned (.bool o) ∧ w' = (w.alloc (.cells #[.bool n, .int .i64 p, .int .u64 q, .int .i64 11, .int .i64 52] 46)).drew := by
  have u1 : IntKind.u64.wrap (p : Int) = p := by rw [IntKind.wrap_u64]; omega
  have u2 : IntKind.u64.wrap 2047 = 2047 := by decide
  go_enter Tryd.func39, Tryd.ntmps39
  go_wp2
  go_region_held3 (fun w' => w'.cell? ⟨w.heap.size, 1, none⟩ = some (.int .i64 p) ∧ w'.cell? ⟨w.heap.size, 3, none⟩ = some (.int .i64 11)) (first | (simp [go_sem]; done) | go_keep) (first | (go_at_call 37; go_fit (power_11 _); rintro e w' ⟨rfl, rfl⟩))
  all_goals
    go_wp2
    go_ret
    exact ⟨rfl, rfl⟩
/-- A class, by exponent and fraction. -/
def clsF (on p q : Nat) : Nat := if p = 0 then (if q = 0 then 1 else 2) else if p = on then (if q = 0 then 4 else 5) else 3
set_option maxHeartbeats 1000000 in
theorem fclass_h (p q : Nat) (n : Bool) (w : World) (hp : p < 32) :
    Calls Tryd.prog 30 #[.agg #[.bool n, .int .i64 p, .int .u64 q, .int .i64 5, .int .i64 10]] w fun e w' => e = .returned (.int .i64 (clsF 31 p q : Nat)) ∧ Below w.heap.size w w' := by
  unfold clsF
  by_cases c1 : p = 31
  · have ho : ((p : Int) == 31) = true := by simp; omega
    rw [if_neg (by omega), if_pos c1]
    have n1 : ((p : Int) == 0) = false := by simp; omega
    clear c1
    by_cases c2 : q = 0
    · rw [if_pos c2]
      have n2 : ((q : Int) == 0) = true := by simp; omega
      clear c2
      go_enter Tryd.func30, Tryd.ntmps30
      go_wp2_with (first | (go_at_call 39; go_fit (fones_h p q n true _ hp ho); rintro e w' ⟨rfl, rfl⟩))
      go_ret
      refine ⟨rfl, ?_⟩
      repeat (first | exact Below.refl _ _ | refine below_al ?_ | refine Below.drew ?_)
    · rw [if_neg c2]
      have n2 : ((q : Int) == 0) = false := by simp; omega
      clear c2
      go_enter Tryd.func30, Tryd.ntmps30
      go_wp2_with (first | (go_at_call 39; go_fit (fones_h p q n true _ hp ho); rintro e w' ⟨rfl, rfl⟩))
      go_ret
      refine ⟨rfl, ?_⟩
      repeat (first | exact Below.refl _ _ | refine below_al ?_ | refine Below.drew ?_)
  · have ho : ((p : Int) == 31) = false := by simp; omega
    by_cases c3 : p = 0
    · rw [if_pos c3]
      have n1 : ((p : Int) == 0) = true := by simp; omega
      clear c1 c3
      by_cases c2 : q = 0
      · rw [if_pos c2]
        have n2 : ((q : Int) == 0) = true := by simp; omega
        clear c2
        go_enter Tryd.func30, Tryd.ntmps30
        go_wp2_with (first | (go_at_call 39; go_fit (fones_h p q n false _ hp ho); rintro e w' ⟨rfl, rfl⟩))
        go_ret
        refine ⟨rfl, ?_⟩
        repeat (first | exact Below.refl _ _ | refine below_al ?_ | refine Below.drew ?_)
      · rw [if_neg c2]
        have n2 : ((q : Int) == 0) = false := by simp; omega
        clear c2
        go_enter Tryd.func30, Tryd.ntmps30
        go_wp2_with (first | (go_at_call 39; go_fit (fones_h p q n false _ hp ho); rintro e w' ⟨rfl, rfl⟩))
        go_ret
        refine ⟨rfl, ?_⟩
        repeat (first | exact Below.refl _ _ | refine below_al ?_ | refine Below.drew ?_)
    · rw [if_neg c3, if_neg c1]
      have n1 : ((p : Int) == 0) = false := by simp; omega
      clear c1 c3
      go_enter Tryd.func30, Tryd.ntmps30
      go_wp2_with (first | (go_at_call 39; go_fit (fones_h p q n false _ hp ho); rintro e w' ⟨rfl, rfl⟩))
      go_ret
      refine ⟨rfl, ?_⟩
      repeat (first | exact Below.refl _ _ | refine below_al ?_ | refine Below.drew ?_)
set_option maxHeartbeats 1000000 in
theorem fclass_s (p q : Nat) (n : Bool) (w : World) (hp : p < 256) :
    Calls Tryd.prog 30 #[.agg #[.bool n, .int .i64 p, .int .u64 q, .int .i64 8, .int .i64 23]] w fun e w' => e = .returned (.int .i64 (clsF 255 p q : Nat)) ∧ Below w.heap.size w w' := by
  unfold clsF
  by_cases c1 : p = 255
  · have ho : ((p : Int) == 255) = true := by simp; omega
    rw [if_neg (by omega), if_pos c1]
    have n1 : ((p : Int) == 0) = false := by simp; omega
    clear c1
    by_cases c2 : q = 0
    · rw [if_pos c2]
      have n2 : ((q : Int) == 0) = true := by simp; omega
      clear c2
      go_enter Tryd.func30, Tryd.ntmps30
      go_wp2_with (first | (go_at_call 39; go_fit (fones_s p q n true _ hp ho); rintro e w' ⟨rfl, rfl⟩))
      go_ret
      refine ⟨rfl, ?_⟩
      repeat (first | exact Below.refl _ _ | refine below_al ?_ | refine Below.drew ?_)
    · rw [if_neg c2]
      have n2 : ((q : Int) == 0) = false := by simp; omega
      clear c2
      go_enter Tryd.func30, Tryd.ntmps30
      go_wp2_with (first | (go_at_call 39; go_fit (fones_s p q n true _ hp ho); rintro e w' ⟨rfl, rfl⟩))
      go_ret
      refine ⟨rfl, ?_⟩
      repeat (first | exact Below.refl _ _ | refine below_al ?_ | refine Below.drew ?_)
  · have ho : ((p : Int) == 255) = false := by simp; omega
    by_cases c3 : p = 0
    · rw [if_pos c3]
      have n1 : ((p : Int) == 0) = true := by simp; omega
      clear c1 c3
      by_cases c2 : q = 0
      · rw [if_pos c2]
        have n2 : ((q : Int) == 0) = true := by simp; omega
        clear c2
        go_enter Tryd.func30, Tryd.ntmps30
        go_wp2_with (first | (go_at_call 39; go_fit (fones_s p q n false _ hp ho); rintro e w' ⟨rfl, rfl⟩))
        go_ret
        refine ⟨rfl, ?_⟩
        repeat (first | exact Below.refl _ _ | refine below_al ?_ | refine Below.drew ?_)
      · rw [if_neg c2]
        have n2 : ((q : Int) == 0) = false := by simp; omega
        clear c2
        go_enter Tryd.func30, Tryd.ntmps30
        go_wp2_with (first | (go_at_call 39; go_fit (fones_s p q n false _ hp ho); rintro e w' ⟨rfl, rfl⟩))
        go_ret
        refine ⟨rfl, ?_⟩
        repeat (first | exact Below.refl _ _ | refine below_al ?_ | refine Below.drew ?_)
    · rw [if_neg c3, if_neg c1]
      have n1 : ((p : Int) == 0) = false := by simp; omega
      clear c1 c3
      go_enter Tryd.func30, Tryd.ntmps30
      go_wp2_with (first | (go_at_call 39; go_fit (fones_s p q n false _ hp ho); rintro e w' ⟨rfl, rfl⟩))
      go_ret
      refine ⟨rfl, ?_⟩
      repeat (first | exact Below.refl _ _ | refine below_al ?_ | refine Below.drew ?_)
set_option maxHeartbeats 1000000 in
theorem fclass_d (p q : Nat) (n : Bool) (w : World) (hp : p < 2048) :
    Calls Tryd.prog 30 #[.agg #[.bool n, .int .i64 p, .int .u64 q, .int .i64 11, .int .i64 52]] w fun e w' => e = .returned (.int .i64 (clsF 2047 p q : Nat)) ∧ Below w.heap.size w w' := by
  unfold clsF
  by_cases c1 : p = 2047
  · have ho : ((p : Int) == 2047) = true := by simp; omega
    rw [if_neg (by omega), if_pos c1]
    have n1 : ((p : Int) == 0) = false := by simp; omega
    clear c1
    by_cases c2 : q = 0
    · rw [if_pos c2]
      have n2 : ((q : Int) == 0) = true := by simp; omega
      clear c2
      go_enter Tryd.func30, Tryd.ntmps30
      go_wp2_with (first | (go_at_call 39; go_fit (fones_d p q n true _ hp ho); rintro e w' ⟨rfl, rfl⟩))
      go_ret
      refine ⟨rfl, ?_⟩
      repeat (first | exact Below.refl _ _ | refine below_al ?_ | refine Below.drew ?_)
    · rw [if_neg c2]
      have n2 : ((q : Int) == 0) = false := by simp; omega
      clear c2
      go_enter Tryd.func30, Tryd.ntmps30
      go_wp2_with (first | (go_at_call 39; go_fit (fones_d p q n true _ hp ho); rintro e w' ⟨rfl, rfl⟩))
      go_ret
      refine ⟨rfl, ?_⟩
      repeat (first | exact Below.refl _ _ | refine below_al ?_ | refine Below.drew ?_)
  · have ho : ((p : Int) == 2047) = false := by simp; omega
    by_cases c3 : p = 0
    · rw [if_pos c3]
      have n1 : ((p : Int) == 0) = true := by simp; omega
      clear c1 c3
      by_cases c2 : q = 0
      · rw [if_pos c2]
        have n2 : ((q : Int) == 0) = true := by simp; omega
        clear c2
        go_enter Tryd.func30, Tryd.ntmps30
        go_wp2_with (first | (go_at_call 39; go_fit (fones_d p q n false _ hp ho); rintro e w' ⟨rfl, rfl⟩))
        go_ret
        refine ⟨rfl, ?_⟩
        repeat (first | exact Below.refl _ _ | refine below_al ?_ | refine Below.drew ?_)
      · rw [if_neg c2]
        have n2 : ((q : Int) == 0) = false := by simp; omega
        clear c2
        go_enter Tryd.func30, Tryd.ntmps30
        go_wp2_with (first | (go_at_call 39; go_fit (fones_d p q n false _ hp ho); rintro e w' ⟨rfl, rfl⟩))
        go_ret
        refine ⟨rfl, ?_⟩
        repeat (first | exact Below.refl _ _ | refine below_al ?_ | refine Below.drew ?_)
    · rw [if_neg c3, if_neg c1]
      have n1 : ((p : Int) == 0) = false := by simp; omega
      clear c1 c3
      go_enter Tryd.func30, Tryd.ntmps30
      go_wp2_with (first | (go_at_call 39; go_fit (fones_d p q n false _ hp ho); rintro e w' ⟨rfl, rfl⟩))
      go_ret
      refine ⟨rfl, ?_⟩
      repeat (first | exact Below.refl _ _ | refine below_al ?_ | refine Below.drew ?_)
set_option maxHeartbeats 1000000 in
theorem rbits_any (n : Bool) (s E F : Nat) (w : World) (hn : s = n.toNat) (hE : E < 2048) (hF : F < 4503599627370496) :
    Calls Tryd.prog 38 #[.bool n, .int .i64 E, .int .u64 F] w fun e w' => e = .returned (.int .u64 (s * 9223372036854775808 + E * 4503599627370496 + F : Nat)) ∧ w' = w := by
  cases n
  · have hz : s = 0 := hn
    subst hz
    have hR := hide (show (E : Int) * 4503599627370496 + F = ((0 * 9223372036854775808 + E * 4503599627370496 + F : Nat) : Int) by rw [Nat.zero_mul]; omega)
    clear hn
    go_enter Tryd.func38, Tryd.ntmps38
    go_wp2_with (first | (go_at_call 37; go_fit (power_52 _); rintro e w' ⟨rfl, rfl⟩) | (go_at_call 37; go_fit (power_63 _); rintro e w' ⟨rfl, rfl⟩))
    go_ret
    exact ⟨ret_int hR.out, rfl⟩
  · have hz : s = 1 := hn
    subst hz
    have hR := hide (show (E : Int) * 4503599627370496 + F + 9223372036854775808 = ((1 * 9223372036854775808 + E * 4503599627370496 + F : Nat) : Int) by rw [Nat.one_mul]; omega)
    clear hn
    go_enter Tryd.func38, Tryd.ntmps38
    go_wp2_with (first | (go_at_call 37; go_fit (power_52 _); rintro e w' ⟨rfl, rfl⟩) | (go_at_call 37; go_fit (power_63 _); rintro e w' ⟨rfl, rfl⟩))
    go_ret
    exact ⟨ret_int hR.out, rfl⟩
end Go.Proofs.YtjlhningaijneaaDoor
