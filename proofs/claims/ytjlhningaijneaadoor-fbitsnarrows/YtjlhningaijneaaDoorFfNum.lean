/- fbits.number: walked; what the model holds in package variables. -/
import Derived.Test.YtjlhningaijneaaDoorFeWid
namespace Go.Proofs.YtjlhningaijneaaDoor
open Go.RowKit
set_option linter.unusedSimpArgs false
set_option linter.unusedVariables false
/-- What half, double and single hold. -/
structure Gl (w : World) : Prop where
  h0 : w.cell? ⟨0, 0, none⟩ = some (.int .i64 5)
  h1 : w.cell? ⟨0, 1, none⟩ = some (.int .i64 10)
  d0 : w.cell? ⟨1, 0, none⟩ = some (.int .i64 11)
  d1 : w.cell? ⟨1, 1, none⟩ = some (.int .i64 52)
  s0 : w.cell? ⟨2, 0, none⟩ = some (.int .i64 8)
  s1 : w.cell? ⟨2, 1, none⟩ = some (.int .i64 23)
  size : 2 < w.heap.size
theorem Gl.below {w w' : World} (g : Gl w) (h : Below w.heap.size w w') : Gl w' := by
  have := g.size
  have hs := h.size
  refine ⟨?_, ?_, ?_, ?_, ?_, ?_, by omega⟩
  · rw [h.cell (p := ⟨0, 0, none⟩) (by show 0 < _; omega)]; exact g.h0
  · rw [h.cell (p := ⟨0, 1, none⟩) (by show 0 < _; omega)]; exact g.h1
  · rw [h.cell (p := ⟨1, 0, none⟩) (by show 1 < _; omega)]; exact g.d0
  · rw [h.cell (p := ⟨1, 1, none⟩) (by show 1 < _; omega)]; exact g.d1
  · rw [h.cell (p := ⟨2, 0, none⟩) (by show 2 < _; omega)]; exact g.s0
  · rw [h.cell (p := ⟨2, 1, none⟩) (by show 2 < _; omega)]; exact g.s1
theorem Gl.two {w : World} (g : Gl w) (o o' : Obj) : Gl ((w.alloc o).alloc o') := g.below (below_al (below_al (Below.refl _ _)))
/-- double's cells behind two new blocks. -/
theorem Gl.dd {w : World} (g : Gl w) : (∀ o o', ((w.alloc o).alloc o').cell? ⟨1, 0, none⟩ = some (.int .i64 11)) ∧ (∀ o o', ((w.alloc o).alloc o').cell? ⟨1, 1, none⟩ = some (.int .i64 52)) :=
  ⟨fun o o' => (g.two o o').d0, fun o o' => (g.two o o').d1⟩
theorem eq_dd (w : World) : (Op.equalIn 10000 44 (.agg #[.int .i64 11, .int .i64 52]) (.agg #[.int .i64 11, .int .i64 52])).run Tryd.prog w = .ok true w := by kernel_rfl
theorem eq_hd (w : World) : (Op.equalIn 10000 44 (.agg #[.int .i64 5, .int .i64 10]) (.agg #[.int .i64 11, .int .i64 52])).run Tryd.prog w = .ok false w := by kernel_rfl
theorem eq_sd (w : World) : (Op.equalIn 10000 44 (.agg #[.int .i64 8, .int .i64 23]) (.agg #[.int .i64 11, .int .i64 52])).run Tryd.prog w = .ok false w := by kernel_rfl
/-- How far a number's digits are moved up till they have 53. -/
def tp (q : Nat) : Nat := 52 - q.log2
theorem tp_spec (q : Nat) (h0 : 0 < q) (h : q < 9007199254740992) : 4503599627370496 ≤ q * 2 ^ tp q ∧ q * 2 ^ tp q < 9007199254740992 ∧ tp q ≤ 52 ∧ q.log2 + tp q = 52 := by
  have h1 : q.log2 < 53 := (Nat.log2_lt (by omega)).2 h
  have a : 2 ^ q.log2 ≤ q := Nat.log2_self_le (by omega)
  have b : q < 2 ^ (q.log2 + 1) := Nat.lt_log2_self
  unfold tp
  have a' : 2 ^ (q.log2 + (52 - q.log2)) ≤ q * 2 ^ (52 - q.log2) := by rw [Nat.pow_add]; exact Nat.mul_le_mul_right _ a
  have b' : q * 2 ^ (52 - q.log2) < 2 ^ (q.log2 + 1 + (52 - q.log2)) := by rw [Nat.pow_add]; exact Nat.mul_lt_mul_of_pos_right b (Nat.two_pow_pos _)
  rw [show q.log2 + (52 - q.log2) = 52 by omega] at a'
  rw [show q.log2 + 1 + (52 - q.log2) = 53 by omega] at b'
  exact ⟨a', b', by omega, by omega⟩
open Ieee in
theorem ofInt_word (q t : Nat) (h1 : 4503599627370496 ≤ q * 2 ^ t) (h2 : q * 2 ^ t < 9007199254740992) (ht : t ≤ 52) : floatOfInt .f64 (q : Int) = (1075 - t) * 4503599627370496 + (q * 2 ^ t - 4503599627370496) := by
  show double.nearest (decide ((q : Int) < 0)) (q : Int).natAbs 0 = _
  rw [show decide ((q : Int) < 0) = false from decide_eq_false (by omega), Int.natAbs_natCast, nearest_norm false q 0 t h1 h2 (by omega) (by omega)]
  show _ * _ + _ = _
  rw [show ((0 : Int) - t + 1074).toNat = 1074 - t by omega]
  omega
theorem ofInt_zero : floatOfInt .f64 ((0 : Nat) : Int) = 0 := rfl
set_option maxHeartbeats 1000000 in
theorem number_d (p q : Nat) (w : World) (hp : p < 2048) (hq : q < 4503599627370496) (g : Gl w) :
    Calls Tryd.prog 36 #[.agg #[.int .u64 p, .int .u64 q], .agg #[.int .i64 11, .int .i64 52]] w fun e w' => e = .returned (.float .f64 (p * 4503599627370496 + q)) ∧ Below w.heap.size w w' := by
  obtain ⟨g1, g2⟩ := g.dd
  clear g
  have hq' := eq_dd
  go_enter Tryd.func36, Tryd.ntmps36
  go_wp2_with (first | rw [frombits_run] | (go_at_call 33; refine (join_d 0 p q _ (by omega) hp hq).mono ?_; rintro e w1 ⟨rfl, hB⟩))
  go_ret
  exact ⟨rfl, below_alloc (below_alloc hB)⟩
set_option maxHeartbeats 1000000 in
theorem number_h0 (q X R : Nat) (w : World) (hq : q < 1024) (g : Gl w) (hX : floatOfInt .f64 (q : Int) = X) (hL : ∀ w, Calls Tryd.prog 43 #[.float .f64 X, .int .i64 (-24)] w fun e w' => e = .returned (.float .f64 R) ∧ w' = w) :
    Calls Tryd.prog 36 #[.agg #[.int .u64 0, .int .u64 q], .agg #[.int .i64 5, .int .i64 10]] w fun e w' => e = .returned (.float .f64 R) ∧ Below w.heap.size w w' := by
  obtain ⟨g1, g2⟩ := g.dd
  clear g
  have u1 : IntKind.i64.wrap (-24) = -24 := by decide
  have hL := hide hL
  have hq' := eq_hd
  go_enter Tryd.func36, Tryd.ntmps36
  go_wp2
  go_region_held3 (fun w' => w'.cell? ⟨w.heap.size, 0, none⟩ = some (.int .u64 0) ∧ w'.cell? ⟨w.heap.size, 1, none⟩ = some (.int .u64 q) ∧ w'.cell? ⟨w.heap.size + 1, 0, none⟩ = some (.int .i64 5) ∧ w'.cell? ⟨w.heap.size + 1, 1, none⟩ = some (.int .i64 10)) (go_keep) (first | (go_at_call 42; refine (excess_h _).mono ?_; rintro e w' ⟨rfl, rfl⟩) | (go_at_call 43; refine (hL.out _).mono ?_; rintro e w' ⟨rfl, rfl⟩))
  all_goals
    go_wp2
    go_ret
    exact ⟨rfl, (below_al (below_al (below_al (Below.refl _ _)))).drew.drew⟩
set_option maxHeartbeats 1000000 in
theorem number_h1 (p q X R : Nat) (w : World) (hp1 : 1 ≤ p) (hp : p < 32) (hq : q < 1024) (g : Gl w) (hX : floatOfInt .f64 ((1024 + q : Nat) : Int) = X) (hL : ∀ w, Calls Tryd.prog 43 #[.float .f64 X, .int .i64 (p - 25)] w fun e w' => e = .returned (.float .f64 R) ∧ w' = w) :
    Calls Tryd.prog 36 #[.agg #[.int .u64 p, .int .u64 q], .agg #[.int .i64 5, .int .i64 10]] w fun e w' => e = .returned (.float .f64 R) ∧ Below w.heap.size w w' := by
  obtain ⟨g1, g2⟩ := g.dd
  clear g
  have hp0 : ((p : Int) == 0) = false := by simp; omega
  have o1 : bits .or .u64 1024 (q : Int) = ((1024 + q : Nat) : Int) := by
    have := u64_or_nat 1024 q (by omega) (by omega)
    rw [show (((1024 : Nat)) : Int) = 1024 from rfl, nat_join 10 1024 q (by simp) (by show q < 1024; omega)] at this
    exact this
  have u0 : IntKind.u64.wrap 1024 = 1024 := by decide
  have u1 : IntKind.i64.wrap ((p : Int) - 25) = (p : Int) - 25 := by rw [IntKind.wrap_i64]; omega
  have u2 : IntKind.i64.wrap (p : Int) = (p : Int) := by rw [IntKind.wrap_i64]; omega
  obtain ⟨m, hm⟩ : ∃ m, 1024 + q = m := ⟨_, rfl⟩
  rw [hm] at hX o1
  clear hm
  have hL := hide hL
  have hq' := eq_hd
  go_enter Tryd.func36, Tryd.ntmps36
  go_wp2
  go_region_held3 (fun w' => w'.cell? ⟨w.heap.size, 0, none⟩ = some (.int .u64 p) ∧ w'.cell? ⟨w.heap.size, 1, none⟩ = some (.int .u64 q) ∧ w'.cell? ⟨w.heap.size + 1, 0, none⟩ = some (.int .i64 5) ∧ w'.cell? ⟨w.heap.size + 1, 1, none⟩ = some (.int .i64 10)) (go_keep) (first | (go_at_call 42; refine (excess_h _).mono ?_; rintro e w' ⟨rfl, rfl⟩) | (go_at_call 43; refine (hL.out _).mono ?_; rintro e w' ⟨rfl, rfl⟩))
  all_goals
    go_wp2
    go_ret
    exact ⟨rfl, (below_al (below_al (below_al (Below.refl _ _)))).drew.drew⟩
set_option maxHeartbeats 1000000 in
theorem number_s0 (q X R : Nat) (w : World) (hq : q < 8388608) (g : Gl w) (hX : floatOfInt .f64 (q : Int) = X) (hL : ∀ w, Calls Tryd.prog 43 #[.float .f64 X, .int .i64 (-149)] w fun e w' => e = .returned (.float .f64 R) ∧ w' = w) :
    Calls Tryd.prog 36 #[.agg #[.int .u64 0, .int .u64 q], .agg #[.int .i64 8, .int .i64 23]] w fun e w' => e = .returned (.float .f64 R) ∧ Below w.heap.size w w' := by
  obtain ⟨g1, g2⟩ := g.dd
  clear g
  have u1 : IntKind.i64.wrap (-149) = -149 := by decide
  have hL := hide hL
  have hq' := eq_sd
  go_enter Tryd.func36, Tryd.ntmps36
  go_wp2
  go_region_held3 (fun w' => w'.cell? ⟨w.heap.size, 0, none⟩ = some (.int .u64 0) ∧ w'.cell? ⟨w.heap.size, 1, none⟩ = some (.int .u64 q) ∧ w'.cell? ⟨w.heap.size + 1, 0, none⟩ = some (.int .i64 8) ∧ w'.cell? ⟨w.heap.size + 1, 1, none⟩ = some (.int .i64 23)) (go_keep) (first | (go_at_call 42; refine (excess_s _).mono ?_; rintro e w' ⟨rfl, rfl⟩) | (go_at_call 43; refine (hL.out _).mono ?_; rintro e w' ⟨rfl, rfl⟩))
  all_goals
    go_wp2
    go_ret
    exact ⟨rfl, (below_al (below_al (below_al (Below.refl _ _)))).drew.drew⟩
set_option maxHeartbeats 1000000 in
theorem number_s1 (p q X R : Nat) (w : World) (hp1 : 1 ≤ p) (hp : p < 256) (hq : q < 8388608) (g : Gl w) (hX : floatOfInt .f64 ((8388608 + q : Nat) : Int) = X) (hL : ∀ w, Calls Tryd.prog 43 #[.float .f64 X, .int .i64 (p - 150)] w fun e w' => e = .returned (.float .f64 R) ∧ w' = w) :
    Calls Tryd.prog 36 #[.agg #[.int .u64 p, .int .u64 q], .agg #[.int .i64 8, .int .i64 23]] w fun e w' => e = .returned (.float .f64 R) ∧ Below w.heap.size w w' := by
  obtain ⟨g1, g2⟩ := g.dd
  clear g
  have hp0 : ((p : Int) == 0) = false := by simp; omega
  have o1 : bits .or .u64 8388608 (q : Int) = ((8388608 + q : Nat) : Int) := by
    have := u64_or_nat 8388608 q (by omega) (by omega)
    rw [show (((8388608 : Nat)) : Int) = 8388608 from rfl, nat_join 23 8388608 q (by simp) (by show q < 8388608; omega)] at this
    exact this
  have u0 : IntKind.u64.wrap 8388608 = 8388608 := by decide
  have u1 : IntKind.i64.wrap ((p : Int) - 150) = (p : Int) - 150 := by rw [IntKind.wrap_i64]; omega
  have u2 : IntKind.i64.wrap (p : Int) = (p : Int) := by rw [IntKind.wrap_i64]; omega
  obtain ⟨m, hm⟩ : ∃ m, 8388608 + q = m := ⟨_, rfl⟩
  rw [hm] at hX o1
  clear hm
  have hL := hide hL
  have hq' := eq_sd
  go_enter Tryd.func36, Tryd.ntmps36
  go_wp2
  go_region_held3 (fun w' => w'.cell? ⟨w.heap.size, 0, none⟩ = some (.int .u64 p) ∧ w'.cell? ⟨w.heap.size, 1, none⟩ = some (.int .u64 q) ∧ w'.cell? ⟨w.heap.size + 1, 0, none⟩ = some (.int .i64 8) ∧ w'.cell? ⟨w.heap.size + 1, 1, none⟩ = some (.int .i64 23)) (go_keep) (first | (go_at_call 42; refine (excess_s _).mono ?_; rintro e w' ⟨rfl, rfl⟩) | (go_at_call 43; refine (hL.out _).mono ?_; rintro e w' ⟨rfl, rfl⟩))
  all_goals
    go_wp2
    go_ret
    exact ⟨rfl, (below_al (below_al (below_al (Below.refl _ _)))).drew.drew⟩
end Go.Proofs.YtjlhningaijneaaDoor
