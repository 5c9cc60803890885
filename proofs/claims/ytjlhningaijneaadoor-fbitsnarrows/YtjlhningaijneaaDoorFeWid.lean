/- fbits' widths: their methods, split and join, at the three widths: walked. -/
import Derived.Test.YtjlhningaijneaaDoorFdMath
import Derived.Deep.RegionHeld3
import Derived.Deep.RegionWith
namespace Go.Proofs.YtjlhningaijneaaDoor
open Go.RowKit
set_option linter.unusedSimpArgs false
set_option linter.unusedVariables false
theorem below_alloc {w w1 : World} {o : Obj} (h : Below (w.alloc o).heap.size (w.alloc o) w1) : Below w.heap.size w w1 :=
  ((Below.refl _ w).alloc (Nat.le_refl _) o).trans (h.mono (by simp))
theorem below_then {w w1 w2 : World} (h : Below w.heap.size w w1) (h2 : Below w1.heap.size w1 w2) : Below w.heap.size w w2 := h.trans (h2.mono h.size)
theorem below_al {w w1 : World} {o : Obj} (h : Below w.heap.size w w1) : Below w.heap.size w (w1.alloc o) := h.alloc h.size o
theorem ret_int {k : IntKind} {a b : Int} (h : a = b) : Ending.returned (.int k a) = .returned (.int k b) := by rw [h]
theorem ret_bool {a b : Bool} (h : a = b) : Ending.returned (.bool a) = .returned (.bool b) := by rw [h]
/-- The widths of patterns of 16, 32, 64 bits. -/
def wh : Value := .agg #[.int .i64 5, .int .i64 10]
def ws : Value := .agg #[.int .i64 8, .int .i64 23]
def wd : Value := .agg #[.int .i64 11, .int .i64 52]
theorem ones_h (w : World) : Calls Tryd.prog 29 #[.agg #[.int .i64 5, .int .i64 10]] w fun e w' => e = .returned (.int .u64 31) ∧ w' = w.alloc (.cells #[.int .i64 5, .int .i64 10] 44) := by
  go_enter Tryd.func29, Tryd.ntmps29
  go_wp2
  go_ret
  exact ⟨rfl, rfl⟩
theorem excess_h (w : World) : Calls Tryd.prog 42 #[.agg #[.int .i64 5, .int .i64 10]] w fun e w' => e = .returned (.int .i64 25) ∧ w' = (w.alloc (.cells #[.int .i64 5, .int .i64 10] 44)).drew := by
  go_enter Tryd.func42, Tryd.ntmps42
  go_wp2
  go_region
  all_goals
    go_wp2
    go_ret
    exact ⟨rfl, rfl⟩
theorem all_h (w : World) : Calls Tryd.prog 26 #[.agg #[.int .i64 5, .int .i64 10]] w fun e w' => e = .returned (.int .i64 16) ∧ w' = w.alloc (.cells #[.int .i64 5, .int .i64 10] 44) := by
  go_enter Tryd.func26, Tryd.ntmps26
  go_wp2
  go_ret
  exact ⟨rfl, rfl⟩
theorem ones_s (w : World) : Calls Tryd.prog 29 #[.agg #[.int .i64 8, .int .i64 23]] w fun e w' => e = .returned (.int .u64 255) ∧ w' = w.alloc (.cells #[.int .i64 8, .int .i64 23] 44) := by
  go_enter Tryd.func29, Tryd.ntmps29
  go_wp2
  go_ret
  exact ⟨rfl, rfl⟩
theorem excess_s (w : World) : Calls Tryd.prog 42 #[.agg #[.int .i64 8, .int .i64 23]] w fun e w' => e = .returned (.int .i64 150) ∧ w' = (w.alloc (.cells #[.int .i64 8, .int .i64 23] 44)).drew := by
  go_enter Tryd.func42, Tryd.ntmps42
  go_wp2
  go_region
  all_goals
    go_wp2
    go_ret
    exact ⟨rfl, rfl⟩
theorem all_s (w : World) : Calls Tryd.prog 26 #[.agg #[.int .i64 8, .int .i64 23]] w fun e w' => e = .returned (.int .i64 32) ∧ w' = w.alloc (.cells #[.int .i64 8, .int .i64 23] 44) := by
  go_enter Tryd.func26, Tryd.ntmps26
  go_wp2
  go_ret
  exact ⟨rfl, rfl⟩
theorem ones_d (w : World) : Calls Tryd.prog 29 #[.agg #[.int .i64 11, .int .i64 52]] w fun e w' => e = .returned (.int .u64 2047) ∧ w' = w.alloc (.cells #[.int .i64 11, .int .i64 52] 44) := by
  go_enter Tryd.func29, Tryd.ntmps29
  go_wp2
  go_ret
  exact ⟨rfl, rfl⟩
theorem excess_d (w : World) : Calls Tryd.prog 42 #[.agg #[.int .i64 11, .int .i64 52]] w fun e w' => e = .returned (.int .i64 1075) ∧ w' = (w.alloc (.cells #[.int .i64 11, .int .i64 52] 44)).drew := by
  go_enter Tryd.func42, Tryd.ntmps42
  go_wp2
  go_region
  all_goals
    go_wp2
    go_ret
    exact ⟨rfl, rfl⟩
set_option maxHeartbeats 1000000 in
theorem split_h (x s p q : Nat) (w : World) (hs : s ≤ 1) (hp : p < 32) (hq : q < 1024) (hx : x = s * 32768 + p * 1024 + q) :
    Calls Tryd.prog 28 #[.int .u64 x, .agg #[.int .i64 5, .int .i64 10]] w fun e w' => e = .returned (.tuple #[.int .u64 s, .agg #[.int .u64 p, .int .u64 q]]) ∧ w' = (((w.alloc (.cells #[.int .i64 5, .int .i64 10] 44)).alloc (.cells #[.int .u64 p, .int .u64 q] 53)).alloc (.cells #[.int .i64 5, .int .i64 10] 44)).drew := by
  have h1 : bits .and .u64 ((x : Int) / 1024) 31 = p := by
    have := u64_and_nat (x / 1024) 31 (by omega) (by omega)
    rw [show (((31 : Nat)) : Int) = 31 from rfl, show ((x / 1024 : Nat) : Int) = (x : Int) / 1024 by omega, nat_mask5, show x / 1024 % 32 = p by omega] at this
    exact this
  have h2 : bits .and .u64 (x : Int) 1023 = q := by
    have := u64_and_nat x 1023 (by omega) (by omega)
    rw [show (((1023 : Nat)) : Int) = 1023 from rfl, nat_mask10, show x % 1024 = q by omega] at this
    exact this
  have h3 : (x : Int) / 32768 = s := by omega
  have u1 : IntKind.i64.wrap 15 = 15 := by decide
  have u2 : IntKind.u64.wrap 1024 = 1024 := by decide
  have u3 : IntKind.u64.wrap 1023 = 1023 := by decide
  clear hx
  go_enter Tryd.func28, Tryd.ntmps28
  go_wp2
  go_region_held3 (fun w' => w'.cell? ⟨w.heap.size, 0, none⟩ = some (.int .i64 5) ∧ w'.cell? ⟨w.heap.size, 1, none⟩ = some (.int .i64 10)) (go_keep) (first | (go_at_call 29; refine (ones_h _).mono ?_; rintro e w' ⟨rfl, rfl⟩))
  all_goals
    go_wp2
    refine bodyPost_ret (v := .tuple #[.int .u64 s, .agg #[.int .u64 p, .int .u64 q]]) (by simp [results, Tryd.results28, go_sem]) rfl ⟨rfl, rfl⟩
set_option maxHeartbeats 1000000 in
theorem join_h (s p q : Nat) (w : World) (hs : s ≤ 1) (hp : p < 32) (hq : q < 1024) :
    Calls Tryd.prog 33 #[.int .u64 s, .agg #[.int .u64 p, .int .u64 q], .agg #[.int .i64 5, .int .i64 10]] w fun e w' => e = .returned (.int .u64 (s * 32768 + p * 1024 + q : Nat)) ∧ Below w.heap.size w w' := by
  have hJ := hide (show bits .or .u64 (bits .or .u64 ((s : Int) * 32768) ((p : Int) * 1024)) (q : Int) = ((s * 32768 + p * 1024 + q : Nat) : Int) by
    rw [show (s : Int) * 32768 = ((s * 32768 : Nat) : Int) by omega, show (p : Int) * 1024 = ((p * 1024 : Nat) : Int) by omega]
    rw [u64_or_nat _ _ (by omega) (by omega), nat_join 15 _ _ (Nat.mul_mod_left _ _) (by show _ < 32768; omega)]
    rw [u64_or_nat _ _ (by omega) (by omega), nat_join 10 _ _ (by show _ % 1024 = 0; omega) (by show _ < 1024; omega)])
  have e1 : IntKind.u64.wrap ((s : Int) * 32768) = (s : Int) * 32768 := by rw [IntKind.wrap_u64]; omega
  have e2 : IntKind.u64.wrap ((p : Int) * 1024) = (p : Int) * 1024 := by rw [IntKind.wrap_u64]; omega
  have u1 : IntKind.i64.wrap 15 = 15 := by decide
  go_enter Tryd.func33, Tryd.ntmps33
  go_wp2
  go_region_held3 (fun w' => w'.cell? ⟨w.heap.size, 0, none⟩ = some (.int .u64 p) ∧ w'.cell? ⟨w.heap.size, 1, none⟩ = some (.int .u64 q) ∧ w'.cell? ⟨w.heap.size + 1, 0, none⟩ = some (.int .i64 5) ∧ w'.cell? ⟨w.heap.size + 1, 1, none⟩ = some (.int .i64 10)) (go_keep) (fail)
  all_goals
    go_wp2
    go_ret
    exact ⟨ret_int hJ.out, (below_al (below_al (Below.refl _ _))).drew⟩
set_option maxHeartbeats 1000000 in
theorem split_s (x s p q : Nat) (w : World) (hs : s ≤ 1) (hp : p < 256) (hq : q < 8388608) (hx : x = s * 2147483648 + p * 8388608 + q) :
    Calls Tryd.prog 28 #[.int .u64 x, .agg #[.int .i64 8, .int .i64 23]] w fun e w' => e = .returned (.tuple #[.int .u64 s, .agg #[.int .u64 p, .int .u64 q]]) ∧ w' = (((w.alloc (.cells #[.int .i64 8, .int .i64 23] 44)).alloc (.cells #[.int .u64 p, .int .u64 q] 53)).alloc (.cells #[.int .i64 8, .int .i64 23] 44)).drew := by
  have h1 : bits .and .u64 ((x : Int) / 8388608) 255 = p := by
    have := u64_and_nat (x / 8388608) 255 (by omega) (by omega)
    rw [show (((255 : Nat)) : Int) = 255 from rfl, show ((x / 8388608 : Nat) : Int) = (x : Int) / 8388608 by omega, nat_mask8, show x / 8388608 % 256 = p by omega] at this
    exact this
  have h2 : bits .and .u64 (x : Int) 8388607 = q := by
    have := u64_and_nat x 8388607 (by omega) (by omega)
    rw [show (((8388607 : Nat)) : Int) = 8388607 from rfl, nat_mask23, show x % 8388608 = q by omega] at this
    exact this
  have h3 : (x : Int) / 2147483648 = s := by omega
  have u1 : IntKind.i64.wrap 31 = 31 := by decide
  have u2 : IntKind.u64.wrap 8388608 = 8388608 := by decide
  have u3 : IntKind.u64.wrap 8388607 = 8388607 := by decide
  clear hx
  go_enter Tryd.func28, Tryd.ntmps28
  go_wp2
  go_region_held3 (fun w' => w'.cell? ⟨w.heap.size, 0, none⟩ = some (.int .i64 8) ∧ w'.cell? ⟨w.heap.size, 1, none⟩ = some (.int .i64 23)) (go_keep) (first | (go_at_call 29; refine (ones_s _).mono ?_; rintro e w' ⟨rfl, rfl⟩))
  all_goals
    go_wp2
    refine bodyPost_ret (v := .tuple #[.int .u64 s, .agg #[.int .u64 p, .int .u64 q]]) (by simp [results, Tryd.results28, go_sem]) rfl ⟨rfl, rfl⟩
set_option maxHeartbeats 1000000 in
theorem join_s (s p q : Nat) (w : World) (hs : s ≤ 1) (hp : p < 256) (hq : q < 8388608) :
    Calls Tryd.prog 33 #[.int .u64 s, .agg #[.int .u64 p, .int .u64 q], .agg #[.int .i64 8, .int .i64 23]] w fun e w' => e = .returned (.int .u64 (s * 2147483648 + p * 8388608 + q : Nat)) ∧ Below w.heap.size w w' := by
  have hJ := hide (show bits .or .u64 (bits .or .u64 ((s : Int) * 2147483648) ((p : Int) * 8388608)) (q : Int) = ((s * 2147483648 + p * 8388608 + q : Nat) : Int) by
    rw [show (s : Int) * 2147483648 = ((s * 2147483648 : Nat) : Int) by omega, show (p : Int) * 8388608 = ((p * 8388608 : Nat) : Int) by omega]
    rw [u64_or_nat _ _ (by omega) (by omega), nat_join 31 _ _ (Nat.mul_mod_left _ _) (by show _ < 2147483648; omega)]
    rw [u64_or_nat _ _ (by omega) (by omega), nat_join 23 _ _ (by show _ % 8388608 = 0; omega) (by show _ < 8388608; omega)])
  have e1 : IntKind.u64.wrap ((s : Int) * 2147483648) = (s : Int) * 2147483648 := by rw [IntKind.wrap_u64]; omega
  have e2 : IntKind.u64.wrap ((p : Int) * 8388608) = (p : Int) * 8388608 := by rw [IntKind.wrap_u64]; omega
  have u1 : IntKind.i64.wrap 31 = 31 := by decide
  go_enter Tryd.func33, Tryd.ntmps33
  go_wp2
  go_region_held3 (fun w' => w'.cell? ⟨w.heap.size, 0, none⟩ = some (.int .u64 p) ∧ w'.cell? ⟨w.heap.size, 1, none⟩ = some (.int .u64 q) ∧ w'.cell? ⟨w.heap.size + 1, 0, none⟩ = some (.int .i64 8) ∧ w'.cell? ⟨w.heap.size + 1, 1, none⟩ = some (.int .i64 23)) (go_keep) (fail)
  all_goals
    go_wp2
    go_ret
    exact ⟨ret_int hJ.out, (below_al (below_al (Below.refl _ _))).drew⟩
set_option maxHeartbeats 1000000 in
theorem split_d (x s p q : Nat) (w : World) (hs : s ≤ 1) (hp : p < 2048) (hq : q < 4503599627370496) (hx : x = s * 9223372036854775808 + p * 4503599627370496 + q) :
    Calls Tryd.prog 28 #[.int .u64 x, .agg #[.int .i64 11, .int .i64 52]] w fun e w' => e = .returned (.tuple #[.int .u64 s, .agg #[.int .u64 p, .int .u64 q]]) ∧ w' = (((w.alloc (.cells #[.int .i64 11, .int .i64 52] 44)).alloc (.cells #[.int .u64 p, .int .u64 q] 53)).alloc (.cells #[.int .i64 11, .int .i64 52] 44)).drew := by
  have h1 : bits .and .u64 ((x : Int) / 4503599627370496) 2047 = p := by
    have := u64_and_nat (x / 4503599627370496) 2047 (by omega) (by omega)
    rw [show (((2047 : Nat)) : Int) = 2047 from rfl, show ((x / 4503599627370496 : Nat) : Int) = (x : Int) / 4503599627370496 by omega, nat_mask11, show x / 4503599627370496 % 2048 = p by omega] at this
    exact this
  have h2 : bits .and .u64 (x : Int) 4503599627370495 = q := by
    have := u64_and_nat x 4503599627370495 (by omega) (by omega)
    rw [show (((4503599627370495 : Nat)) : Int) = 4503599627370495 from rfl, nat_mask52, show x % 4503599627370496 = q by omega] at this
    exact this
  have h3 : (x : Int) / 9223372036854775808 = s := by omega
  have u1 : IntKind.i64.wrap 63 = 63 := by decide
  have u2 : IntKind.u64.wrap 4503599627370496 = 4503599627370496 := by decide
  have u3 : IntKind.u64.wrap 4503599627370495 = 4503599627370495 := by decide
  clear hx
  go_enter Tryd.func28, Tryd.ntmps28
  go_wp2
  go_region_held3 (fun w' => w'.cell? ⟨w.heap.size, 0, none⟩ = some (.int .i64 11) ∧ w'.cell? ⟨w.heap.size, 1, none⟩ = some (.int .i64 52)) (go_keep) (first | (go_at_call 29; refine (ones_d _).mono ?_; rintro e w' ⟨rfl, rfl⟩))
  all_goals
    go_wp2
    refine bodyPost_ret (v := .tuple #[.int .u64 s, .agg #[.int .u64 p, .int .u64 q]]) (by simp [results, Tryd.results28, go_sem]) rfl ⟨rfl, rfl⟩
set_option maxHeartbeats 1000000 in
theorem join_d (s p q : Nat) (w : World) (hs : s ≤ 1) (hp : p < 2048) (hq : q < 4503599627370496) :
    Calls Tryd.prog 33 #[.int .u64 s, .agg #[.int .u64 p, .int .u64 q], .agg #[.int .i64 11, .int .i64 52]] w fun e w' => e = .returned (.int .u64 (s * 9223372036854775808 + p * 4503599627370496 + q : Nat)) ∧ Below w.heap.size w w' := by
  have hJ := hide (show bits .or .u64 (bits .or .u64 ((s : Int) * 9223372036854775808) ((p : Int) * 4503599627370496)) (q : Int) = ((s * 9223372036854775808 + p * 4503599627370496 + q : Nat) : Int) by
    rw [show (s : Int) * 9223372036854775808 = ((s * 9223372036854775808 : Nat) : Int) by omega, show (p : Int) * 4503599627370496 = ((p * 4503599627370496 : Nat) : Int) by omega]
    rw [u64_or_nat _ _ (by omega) (by omega), nat_join 63 _ _ (Nat.mul_mod_left _ _) (by show _ < 9223372036854775808; omega)]
    rw [u64_or_nat _ _ (by omega) (by omega), nat_join 52 _ _ (by show _ % 4503599627370496 = 0; omega) (by show _ < 4503599627370496; omega)])
  have e1 : IntKind.u64.wrap ((s : Int) * 9223372036854775808) = (s : Int) * 9223372036854775808 := by rw [IntKind.wrap_u64]; omega
  have e2 : IntKind.u64.wrap ((p : Int) * 4503599627370496) = (p : Int) * 4503599627370496 := by rw [IntKind.wrap_u64]; omega
  have u1 : IntKind.i64.wrap 63 = 63 := by decide
  go_enter Tryd.func33, Tryd.ntmps33
  go_wp2
  go_region_held3 (fun w' => w'.cell? ⟨w.heap.size, 0, none⟩ = some (.int .u64 p) ∧ w'.cell? ⟨w.heap.size, 1, none⟩ = some (.int .u64 q) ∧ w'.cell? ⟨w.heap.size + 1, 0, none⟩ = some (.int .i64 11) ∧ w'.cell? ⟨w.heap.size + 1, 1, none⟩ = some (.int .i64 52)) (go_keep) (fail)
  all_goals
    go_wp2
    go_ret
    exact ⟨ret_int hJ.out, (below_al (below_al (Below.refl _ _))).drew⟩
theorem align_hd (q : Nat) (w : World) (hq : q < 1024) :
    Calls Tryd.prog 34 #[.int .u64 q, .agg #[.int .i64 5, .int .i64 10], .agg #[.int .i64 11, .int .i64 52]] w fun e w' => e = .returned (.int .u64 (q * 4398046511104 : Nat)) ∧ Below w.heap.size w w' := by
  go_enter Tryd.func34, Tryd.ntmps34
  go_wp2
  go_ret
  exact ⟨rfl, (below_al (below_al (Below.refl _ _)))⟩
theorem align_dh (q : Nat) (w : World) (hq : q < 4503599627370496) :
    Calls Tryd.prog 34 #[.int .u64 q, .agg #[.int .i64 11, .int .i64 52], .agg #[.int .i64 5, .int .i64 10]] w fun e w' => e = .returned (.int .u64 (q / 4398046511104 : Nat)) ∧ Below w.heap.size w w' := by
  go_enter Tryd.func34, Tryd.ntmps34
  go_wp2
  go_ret
  exact ⟨rfl, (below_al (below_al (Below.refl _ _)))⟩
theorem align_sd (q : Nat) (w : World) (hq : q < 8388608) :
    Calls Tryd.prog 34 #[.int .u64 q, .agg #[.int .i64 8, .int .i64 23], .agg #[.int .i64 11, .int .i64 52]] w fun e w' => e = .returned (.int .u64 (q * 536870912 : Nat)) ∧ Below w.heap.size w w' := by
  go_enter Tryd.func34, Tryd.ntmps34
  go_wp2
  go_ret
  exact ⟨rfl, (below_al (below_al (Below.refl _ _)))⟩
theorem align_ds (q : Nat) (w : World) (hq : q < 4503599627370496) :
    Calls Tryd.prog 34 #[.int .u64 q, .agg #[.int .i64 11, .int .i64 52], .agg #[.int .i64 8, .int .i64 23]] w fun e w' => e = .returned (.int .u64 (q / 536870912 : Nat)) ∧ Below w.heap.size w w' := by
  go_enter Tryd.func34, Tryd.ntmps34
  go_wp2
  go_ret
  exact ⟨rfl, (below_al (below_al (Below.refl _ _)))⟩
end Go.Proofs.YtjlhningaijneaaDoor
