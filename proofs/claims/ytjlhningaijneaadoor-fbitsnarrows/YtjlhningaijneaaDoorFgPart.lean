/- fbits.partsOf: walked. -/
import Derived.Test.YtjlhningaijneaaDoorFfNum
namespace Go.Proofs.YtjlhningaijneaaDoor
open Go.RowKit
set_option linter.unusedSimpArgs false
set_option linter.unusedVariables false
theorem keep2 {W w1 : World} (hB : Below W.heap.size W w1) (b : Nat) (hb : b < W.heap.size) (x y : Value) (h0 : W.cell? ⟨b, 0, none⟩ = some x) (h1 : W.cell? ⟨b, 1, none⟩ = some y) : w1.cell? ⟨b, 0, none⟩ = some x ∧ w1.cell? ⟨b, 1, none⟩ = some y :=
  ⟨by rw [hB.cell (p := ⟨b, 0, none⟩) hb]; exact h0, by rw [hB.cell (p := ⟨b, 1, none⟩) hb]; exact h1⟩
theorem keepF {W w1 : World} (hB : Below W.heap.size W w1) (b : Nat) (hb : b < W.heap.size) (h0 : W.frozen? ⟨b, 0, none⟩ = false) (h1 : W.frozen? ⟨b, 1, none⟩ = false) : w1.frozen? ⟨b, 0, none⟩ = false ∧ w1.frozen? ⟨b, 1, none⟩ = false :=
  ⟨by rw [hB.frozen (p := ⟨b, 0, none⟩) hb]; exact h0, by rw [hB.frozen (p := ⟨b, 1, none⟩) hb]; exact h1⟩
set_option maxHeartbeats 1000000 in
theorem partsOf_d (X E F : Nat) (w : World) (hE : E < 2048) (hF : F < 4503599627370496) (hX : X = E * 4503599627370496 + F) (g : Gl w) :
    Calls Tryd.prog 35 #[.float .f64 X, .agg #[.int .i64 11, .int .i64 52]] w fun e w' => e = .returned (.agg #[.int .u64 E, .int .u64 F]) ∧ Below w.heap.size w w' := by
  obtain ⟨g1, g2⟩ := g.dd
  clear g
  have hS : Hid (∀ w, Calls Tryd.prog 28 #[.int .u64 X, .agg #[.int .i64 11, .int .i64 52]] w fun e w' => e = .returned (.tuple #[.int .u64 ((0 : Nat) : Int), .agg #[.int .u64 E, .int .u64 F]]) ∧ w' = (((w.alloc (.cells #[.int .i64 11, .int .i64 52] 44)).alloc (.cells #[.int .u64 E, .int .u64 F] 53)).alloc (.cells #[.int .i64 11, .int .i64 52] 44)).drew) := fun w => split_d X 0 E F w (by omega) hE hF (by rw [Nat.zero_mul, Nat.zero_add]; exact hX)
  have hq' := eq_dd
  clear hX
  go_enter Tryd.func35, Tryd.ntmps35
  go_wp2
  go_region_held3 (fun w' => w'.cell? ⟨w.heap.size, 0, none⟩ = some (.int .i64 11) ∧ w'.cell? ⟨w.heap.size, 1, none⟩ = some (.int .i64 52)) (first | (simp [go_sem]; done) | go_keep) (first | rw [bits_run] | (go_at_call 28; refine (hS.out _).mono ?_; rintro e w1 ⟨rfl, rfl⟩))
  all_goals
    go_wp2
    refine bodyPost_ret (v := .agg #[.int .u64 E, .int .u64 F]) (by simp [results, Tryd.results35, go_sem]) rfl ⟨rfl, ?_⟩
    repeat (first | exact Below.refl _ _ | refine below_al ?_ | refine Below.drew ?_)
set_option maxRecDepth 100000 in
set_option maxHeartbeats 1000000 in
theorem partsOf_hbig (X : Nat) (pw : Int) (w : World) (g : Gl w) (h1 : 31 ≤ pw - 1 - 10 + 25) (h2 : pw ≤ 2000) (hFr : ∀ w, Calls Tryd.prog 41 #[.float .f64 X] w fun e w' => (∃ f, e = .returned (.tuple #[.float .f64 f, .int .i64 pw])) ∧ w' = w) :
    Calls Tryd.prog 35 #[.float .f64 X, .agg #[.int .i64 5, .int .i64 10]] w fun e w' => e = .returned (.agg #[.int .u64 0, .int .u64 0]) ∧ Below w.heap.size w w' := by
  obtain ⟨g1, g2⟩ := g.dd
  clear g
  have u1 : IntKind.i64.wrap (pw - 1) = pw - 1 := by rw [IntKind.wrap_i64]; omega
  have u2 : IntKind.i64.wrap (pw - 1 - 10) = pw - 1 - 10 := by rw [IntKind.wrap_i64]; omega
  have u3 : IntKind.i64.wrap (pw - 1 - 10 + 25) = pw - 1 - 10 + 25 := by rw [IntKind.wrap_i64]; omega
  have hFr := hide hFr
  have hq' := eq_hd
  go_enter Tryd.func35, Tryd.ntmps35
  go_wp2_with (first | (go_at_call 42; refine (excess_h _).mono ?_; rintro e w' ⟨rfl, rfl⟩) | (go_at_call 29; refine (ones_h _).mono ?_; rintro e w' ⟨rfl, rfl⟩) | (go_at_call 41; refine (hFr.out _).mono ?_; rintro e w' ⟨⟨f, rfl⟩, rfl⟩))
  go_region_held3 (fun w' => w'.cell? ⟨w.heap.size, 0, none⟩ = some (.int .i64 5) ∧ w'.cell? ⟨w.heap.size, 1, none⟩ = some (.int .i64 10)) (first | (simp [go_sem]; done) | go_keep) (first | (go_at_call 42; refine (excess_h _).mono ?_; rintro e w' ⟨rfl, rfl⟩) | (go_at_call 29; refine (ones_h _).mono ?_; rintro e w' ⟨rfl, rfl⟩) | (go_at_call 41; refine (hFr.out _).mono ?_; rintro e w' ⟨⟨f, rfl⟩, rfl⟩))
  all_goals
    go_wp2_with (first | (go_at_call 42; refine (excess_h _).mono ?_; rintro e w' ⟨rfl, rfl⟩) | (go_at_call 29; refine (ones_h _).mono ?_; rintro e w' ⟨rfl, rfl⟩) | (go_at_call 41; refine (hFr.out _).mono ?_; rintro e w' ⟨⟨f, rfl⟩, rfl⟩))
    refine bodyPost_ret (v := .agg #[.int .u64 0, .int .u64 0]) (by simp [results, Tryd.results35, go_sem]) rfl ⟨rfl, ?_⟩
    repeat (first | exact Below.refl _ _ | refine below_al ?_ | refine Below.drew ?_)
set_option maxRecDepth 100000 in
set_option maxHeartbeats 1000000 in
theorem partsOf_hlow (X R N : Nat) (pw : Int) (w : World) (g : Gl w) (h1 : pw - 1 - 10 + 25 < 1) (h2 : -2000 ≤ pw) (hFr : ∀ w, Calls Tryd.prog 41 #[.float .f64 X] w fun e w' => (∃ f, e = .returned (.tuple #[.float .f64 f, .int .i64 pw])) ∧ w' = w) (hL : ∀ w, Calls Tryd.prog 43 #[.float .f64 X, .int .i64 24] w fun e w' => e = .returned (.float .f64 R) ∧ w' = w) (hN : floatToIntVal .f64 R .u64 = some (N : Int)) :
    Calls Tryd.prog 35 #[.float .f64 X, .agg #[.int .i64 5, .int .i64 10]] w fun e w' => e = .returned (.agg #[.int .u64 0, .int .u64 N]) ∧ Below w.heap.size w w' := by
  obtain ⟨g1, g2⟩ := g.dd
  clear g
  have u1 : IntKind.i64.wrap (pw - 1) = pw - 1 := by rw [IntKind.wrap_i64]; omega
  have u2 : IntKind.i64.wrap (pw - 1 - 10) = pw - 1 - 10 := by rw [IntKind.wrap_i64]; omega
  have u3 : IntKind.i64.wrap (pw - 1 - 10 + 25) = pw - 1 - 10 + 25 := by rw [IntKind.wrap_i64]; omega
  have hFr := hide hFr
  have hL := hide hL
  have hc : ∀ w, (convert 64 25 (.float .f64 R)).run Tryd.prog w = .ok (.int .u64 N) w := fun w => run_convert_float_int w _ _ .f64 .u64 R N (by rw [Tryd.underlying64]; rfl) Tryd.underlying25 hN
  have hq' := eq_hd
  go_enter Tryd.func35, Tryd.ntmps35
  go_wp2_with (first | (go_at_call 42; refine (excess_h _).mono ?_; rintro e w' ⟨rfl, rfl⟩) | (go_at_call 29; refine (ones_h _).mono ?_; rintro e w' ⟨rfl, rfl⟩) | (go_at_call 41; refine (hFr.out _).mono ?_; rintro e w' ⟨⟨f, rfl⟩, rfl⟩) | (go_at_call 43; refine (hL.out _).mono ?_; rintro e w' ⟨rfl, rfl⟩))
  go_region_held3 (fun w' => w'.cell? ⟨w.heap.size, 0, none⟩ = some (.int .i64 5) ∧ w'.cell? ⟨w.heap.size, 1, none⟩ = some (.int .i64 10)) (first | (simp [go_sem]; done) | go_keep) (first | (go_at_call 42; refine (excess_h _).mono ?_; rintro e w' ⟨rfl, rfl⟩) | (go_at_call 29; refine (ones_h _).mono ?_; rintro e w' ⟨rfl, rfl⟩) | (go_at_call 41; refine (hFr.out _).mono ?_; rintro e w' ⟨⟨f, rfl⟩, rfl⟩) | (go_at_call 43; refine (hL.out _).mono ?_; rintro e w' ⟨rfl, rfl⟩))
  all_goals
    go_wp2_with (first | (go_at_call 42; refine (excess_h _).mono ?_; rintro e w' ⟨rfl, rfl⟩) | (go_at_call 29; refine (ones_h _).mono ?_; rintro e w' ⟨rfl, rfl⟩) | (go_at_call 41; refine (hFr.out _).mono ?_; rintro e w' ⟨⟨f, rfl⟩, rfl⟩) | (go_at_call 43; refine (hL.out _).mono ?_; rintro e w' ⟨rfl, rfl⟩))
    refine bodyPost_ret (v := .agg #[.int .u64 0, .int .u64 N]) (by simp [results, Tryd.results35, go_sem]) rfl ⟨rfl, ?_⟩
    repeat (first | exact Below.refl _ _ | refine below_al ?_ | refine Below.drew ?_)
set_option maxRecDepth 100000 in
set_option maxHeartbeats 1000000 in
theorem partsOf_hzero (w : World) (g : Gl w) :
    Calls Tryd.prog 35 #[.float .f64 0, .agg #[.int .i64 5, .int .i64 10]] w fun e w' => e = .returned (.agg #[.int .u64 0, .int .u64 0]) ∧ Below w.heap.size w w' := by
  obtain ⟨g1, g2⟩ := g.dd
  clear g
  have u1 : IntKind.i64.wrap (-1) = -1 := by decide
  have u2 : IntKind.i64.wrap (-11) = -11 := by decide
  have u3 : IntKind.i64.wrap (14) = 14 := by decide
  have hFr : Hid (∀ w, Calls Tryd.prog 41 #[.float .f64 0] w fun e w' => (∃ f, e = .returned (.tuple #[.float .f64 f, .int .i64 0])) ∧ w' = w) := fun w => Frexp_of 0 0 w (fun w => (frexp_zero w).mono (by rintro e w' ⟨rfl, rfl⟩; exact ⟨⟨0, rfl⟩, rfl⟩))
  have hL : Hid (∀ w, Calls Tryd.prog 43 #[.float .f64 0, .int .i64 24] w fun e w' => e = .returned (.float .f64 0) ∧ w' = w) := fun w => Ldexp_of 0 _ 0 w (fun w => ldexp_zero _ w)
  have h0 := order_zero_zero
  have hc : ∀ w, (convert 64 25 (.float .f64 0)).run Tryd.prog w = .ok (.int .u64 0) w := fun w => run_convert_float_int w _ _ .f64 .u64 0 0 (by rw [Tryd.underlying64]; rfl) Tryd.underlying25 rfl
  have hq' := eq_hd
  go_enter Tryd.func35, Tryd.ntmps35
  go_wp2_with (first | (go_at_call 42; refine (excess_h _).mono ?_; rintro e w' ⟨rfl, rfl⟩) | (go_at_call 29; refine (ones_h _).mono ?_; rintro e w' ⟨rfl, rfl⟩) | (go_at_call 41; refine (hFr.out _).mono ?_; rintro e w' ⟨⟨f, rfl⟩, rfl⟩) | (go_at_call 43; refine (hL.out _).mono ?_; rintro e w' ⟨rfl, rfl⟩))
  go_region_held3 (fun w' => w'.cell? ⟨w.heap.size, 0, none⟩ = some (.int .i64 5) ∧ w'.cell? ⟨w.heap.size, 1, none⟩ = some (.int .i64 10)) (first | (simp [go_sem]; done) | go_keep) (first | (go_at_call 42; refine (excess_h _).mono ?_; rintro e w' ⟨rfl, rfl⟩) | (go_at_call 29; refine (ones_h _).mono ?_; rintro e w' ⟨rfl, rfl⟩) | (go_at_call 41; refine (hFr.out _).mono ?_; rintro e w' ⟨⟨f, rfl⟩, rfl⟩) | (go_at_call 43; refine (hL.out _).mono ?_; rintro e w' ⟨rfl, rfl⟩))
  all_goals
    go_wp2_with (first | (go_at_call 42; refine (excess_h _).mono ?_; rintro e w' ⟨rfl, rfl⟩) | (go_at_call 29; refine (ones_h _).mono ?_; rintro e w' ⟨rfl, rfl⟩) | (go_at_call 41; refine (hFr.out _).mono ?_; rintro e w' ⟨⟨f, rfl⟩, rfl⟩) | (go_at_call 43; refine (hL.out _).mono ?_; rintro e w' ⟨rfl, rfl⟩))
    refine bodyPost_ret (v := .agg #[.int .u64 0, .int .u64 0]) (by simp [results, Tryd.results35, go_sem]) rfl ⟨rfl, ?_⟩
    repeat (first | exact Below.refl _ _ | refine below_al ?_ | refine Below.drew ?_)
set_option maxRecDepth 100000 in
set_option maxHeartbeats 1000000 in
theorem partsOf_hmid (X R N e' : Nat) (pw : Int) (w : World) (g : Gl w) (h0 : FloatKind.f64.format.order X 0 = some .gt) (he : pw - 1 - 10 + 25 = e') (h1 : 1 ≤ e') (h2 : e' < 31) (hFr : ∀ w, Calls Tryd.prog 41 #[.float .f64 X] w fun e w' => (∃ f, e = .returned (.tuple #[.float .f64 f, .int .i64 pw])) ∧ w' = w) (hL : ∀ w, Calls Tryd.prog 43 #[.float .f64 X, .int .i64 (25 - e')] w fun e w' => e = .returned (.float .f64 R) ∧ w' = w) (hN : floatToIntVal .f64 R .u64 = some (N : Int)) (hNP : 1024 ≤ N) (hN' : N < 9007199254740992) :
    Calls Tryd.prog 35 #[.float .f64 X, .agg #[.int .i64 5, .int .i64 10]] w fun e w' => e = .returned (.agg #[.int .u64 e', .int .u64 (N - 1024 : Nat)]) ∧ Below w.heap.size w w' := by
  obtain ⟨g1, g2⟩ := g.dd
  clear g
  have u1 : IntKind.i64.wrap (pw - 1) = pw - 1 := by rw [IntKind.wrap_i64]; omega
  have u2 : IntKind.i64.wrap (pw - 1 - 10) = pw - 1 - 10 := by rw [IntKind.wrap_i64]; omega
  have u3 : IntKind.i64.wrap (pw - 1 - 10 + 25) = pw - 1 - 10 + 25 := by rw [IntKind.wrap_i64]; omega
  rw [he] at u3
  have u4 : IntKind.u64.wrap (e' : Int) = e' := by rw [IntKind.wrap_u64]; omega
  have u5 : IntKind.i64.wrap (25 - (e' : Int)) = 25 - (e' : Int) := by rw [IntKind.wrap_i64]; omega
  have u6 : IntKind.u64.wrap ((N : Int) - 1024) = (N : Int) - 1024 := by rw [IntKind.wrap_u64]; omega
  have u7 : IntKind.u64.wrap 1024 = 1024 := by decide
  have hFr := hide hFr
  have hL := hide hL
  have hc : ∀ w, (convert 64 25 (.float .f64 R)).run Tryd.prog w = .ok (.int .u64 N) w := fun w => run_convert_float_int w _ _ .f64 .u64 R N (by rw [Tryd.underlying64]; rfl) Tryd.underlying25 hN
  have hM := hide (show (N : Int) - 1024 = ((N - 1024 : Nat) : Int) by omega)
  have hq' := eq_hd
  go_enter Tryd.func35, Tryd.ntmps35
  go_wp2_with (first | (go_at_call 42; refine (excess_h _).mono ?_; rintro e w' ⟨rfl, rfl⟩) | (go_at_call 29; refine (ones_h _).mono ?_; rintro e w' ⟨rfl, rfl⟩) | (go_at_call 41; refine (hFr.out _).mono ?_; rintro e w' ⟨⟨f, rfl⟩, rfl⟩) | (go_at_call 43; refine (hL.out _).mono ?_; rintro e w' ⟨rfl, rfl⟩))
  go_region_held3 (fun w' => w'.cell? ⟨w.heap.size, 0, none⟩ = some (.int .i64 5) ∧ w'.cell? ⟨w.heap.size, 1, none⟩ = some (.int .i64 10)) (first | (simp [go_sem]; done) | go_keep) (first | (go_at_call 42; refine (excess_h _).mono ?_; rintro e w' ⟨rfl, rfl⟩) | (go_at_call 29; refine (ones_h _).mono ?_; rintro e w' ⟨rfl, rfl⟩) | (go_at_call 41; refine (hFr.out _).mono ?_; rintro e w' ⟨⟨f, rfl⟩, rfl⟩) | (go_at_call 43; refine (hL.out _).mono ?_; rintro e w' ⟨rfl, rfl⟩))
  all_goals
    go_wp2_with (first | (go_at_call 42; refine (excess_h _).mono ?_; rintro e w' ⟨rfl, rfl⟩) | (go_at_call 29; refine (ones_h _).mono ?_; rintro e w' ⟨rfl, rfl⟩) | (go_at_call 41; refine (hFr.out _).mono ?_; rintro e w' ⟨⟨f, rfl⟩, rfl⟩) | (go_at_call 43; refine (hL.out _).mono ?_; rintro e w' ⟨rfl, rfl⟩))
    go_region_held3 (fun w' => w'.cell? ⟨w.heap.size, 0, none⟩ = some (.int .i64 5) ∧ w'.cell? ⟨w.heap.size, 1, none⟩ = some (.int .i64 10)) (first | (simp [go_sem]; done) | go_keep) (first | (go_at_call 42; refine (excess_h _).mono ?_; rintro e w' ⟨rfl, rfl⟩) | (go_at_call 29; refine (ones_h _).mono ?_; rintro e w' ⟨rfl, rfl⟩) | (go_at_call 41; refine (hFr.out _).mono ?_; rintro e w' ⟨⟨f, rfl⟩, rfl⟩) | (go_at_call 43; refine (hL.out _).mono ?_; rintro e w' ⟨rfl, rfl⟩))
    all_goals
      go_wp2
      rw [← hM.out]
      refine bodyPost_ret (v := .agg #[.int .u64 e', .int .u64 (N - 1024)]) (by simp [results, Tryd.results35, go_sem]) rfl ⟨rfl, ?_⟩
      repeat (first | exact Below.refl _ _ | refine below_al ?_ | refine Below.drew ?_)
set_option maxRecDepth 100000 in
set_option maxHeartbeats 1000000 in
theorem partsOf_sbig (X : Nat) (pw : Int) (w : World) (g : Gl w) (h1 : 255 ≤ pw - 1 - 23 + 150) (h2 : pw ≤ 2000) (hFr : ∀ w, Calls Tryd.prog 41 #[.float .f64 X] w fun e w' => (∃ f, e = .returned (.tuple #[.float .f64 f, .int .i64 pw])) ∧ w' = w) :
    Calls Tryd.prog 35 #[.float .f64 X, .agg #[.int .i64 8, .int .i64 23]] w fun e w' => e = .returned (.agg #[.int .u64 0, .int .u64 0]) ∧ Below w.heap.size w w' := by
  obtain ⟨g1, g2⟩ := g.dd
  clear g
  have u1 : IntKind.i64.wrap (pw - 1) = pw - 1 := by rw [IntKind.wrap_i64]; omega
  have u2 : IntKind.i64.wrap (pw - 1 - 23) = pw - 1 - 23 := by rw [IntKind.wrap_i64]; omega
  have u3 : IntKind.i64.wrap (pw - 1 - 23 + 150) = pw - 1 - 23 + 150 := by rw [IntKind.wrap_i64]; omega
  have hFr := hide hFr
  have hq' := eq_sd
  go_enter Tryd.func35, Tryd.ntmps35
  go_wp2_with (first | (go_at_call 42; refine (excess_s _).mono ?_; rintro e w' ⟨rfl, rfl⟩) | (go_at_call 29; refine (ones_s _).mono ?_; rintro e w' ⟨rfl, rfl⟩) | (go_at_call 41; refine (hFr.out _).mono ?_; rintro e w' ⟨⟨f, rfl⟩, rfl⟩))
  go_region_held3 (fun w' => w'.cell? ⟨w.heap.size, 0, none⟩ = some (.int .i64 8) ∧ w'.cell? ⟨w.heap.size, 1, none⟩ = some (.int .i64 23)) (first | (simp [go_sem]; done) | go_keep) (first | (go_at_call 42; refine (excess_s _).mono ?_; rintro e w' ⟨rfl, rfl⟩) | (go_at_call 29; refine (ones_s _).mono ?_; rintro e w' ⟨rfl, rfl⟩) | (go_at_call 41; refine (hFr.out _).mono ?_; rintro e w' ⟨⟨f, rfl⟩, rfl⟩))
  all_goals
    go_wp2_with (first | (go_at_call 42; refine (excess_s _).mono ?_; rintro e w' ⟨rfl, rfl⟩) | (go_at_call 29; refine (ones_s _).mono ?_; rintro e w' ⟨rfl, rfl⟩) | (go_at_call 41; refine (hFr.out _).mono ?_; rintro e w' ⟨⟨f, rfl⟩, rfl⟩))
    refine bodyPost_ret (v := .agg #[.int .u64 0, .int .u64 0]) (by simp [results, Tryd.results35, go_sem]) rfl ⟨rfl, ?_⟩
    repeat (first | exact Below.refl _ _ | refine below_al ?_ | refine Below.drew ?_)
set_option maxRecDepth 100000 in
set_option maxHeartbeats 1000000 in
theorem partsOf_slow (X R N : Nat) (pw : Int) (w : World) (g : Gl w) (h1 : pw - 1 - 23 + 150 < 1) (h2 : -2000 ≤ pw) (hFr : ∀ w, Calls Tryd.prog 41 #[.float .f64 X] w fun e w' => (∃ f, e = .returned (.tuple #[.float .f64 f, .int .i64 pw])) ∧ w' = w) (hL : ∀ w, Calls Tryd.prog 43 #[.float .f64 X, .int .i64 149] w fun e w' => e = .returned (.float .f64 R) ∧ w' = w) (hN : floatToIntVal .f64 R .u64 = some (N : Int)) :
    Calls Tryd.prog 35 #[.float .f64 X, .agg #[.int .i64 8, .int .i64 23]] w fun e w' => e = .returned (.agg #[.int .u64 0, .int .u64 N]) ∧ Below w.heap.size w w' := by
  obtain ⟨g1, g2⟩ := g.dd
  clear g
  have u1 : IntKind.i64.wrap (pw - 1) = pw - 1 := by rw [IntKind.wrap_i64]; omega
  have u2 : IntKind.i64.wrap (pw - 1 - 23) = pw - 1 - 23 := by rw [IntKind.wrap_i64]; omega
  have u3 : IntKind.i64.wrap (pw - 1 - 23 + 150) = pw - 1 - 23 + 150 := by rw [IntKind.wrap_i64]; omega
  have hFr := hide hFr
  have hL := hide hL
  have hc : ∀ w, (convert 64 25 (.float .f64 R)).run Tryd.prog w = .ok (.int .u64 N) w := fun w => run_convert_float_int w _ _ .f64 .u64 R N (by rw [Tryd.underlying64]; rfl) Tryd.underlying25 hN
  have hq' := eq_sd
  go_enter Tryd.func35, Tryd.ntmps35
  go_wp2_with (first | (go_at_call 42; refine (excess_s _).mono ?_; rintro e w' ⟨rfl, rfl⟩) | (go_at_call 29; refine (ones_s _).mono ?_; rintro e w' ⟨rfl, rfl⟩) | (go_at_call 41; refine (hFr.out _).mono ?_; rintro e w' ⟨⟨f, rfl⟩, rfl⟩) | (go_at_call 43; refine (hL.out _).mono ?_; rintro e w' ⟨rfl, rfl⟩))
  go_region_held3 (fun w' => w'.cell? ⟨w.heap.size, 0, none⟩ = some (.int .i64 8) ∧ w'.cell? ⟨w.heap.size, 1, none⟩ = some (.int .i64 23)) (first | (simp [go_sem]; done) | go_keep) (first | (go_at_call 42; refine (excess_s _).mono ?_; rintro e w' ⟨rfl, rfl⟩) | (go_at_call 29; refine (ones_s _).mono ?_; rintro e w' ⟨rfl, rfl⟩) | (go_at_call 41; refine (hFr.out _).mono ?_; rintro e w' ⟨⟨f, rfl⟩, rfl⟩) | (go_at_call 43; refine (hL.out _).mono ?_; rintro e w' ⟨rfl, rfl⟩))
  all_goals
    go_wp2_with (first | (go_at_call 42; refine (excess_s _).mono ?_; rintro e w' ⟨rfl, rfl⟩) | (go_at_call 29; refine (ones_s _).mono ?_; rintro e w' ⟨rfl, rfl⟩) | (go_at_call 41; refine (hFr.out _).mono ?_; rintro e w' ⟨⟨f, rfl⟩, rfl⟩) | (go_at_call 43; refine (hL.out _).mono ?_; rintro e w' ⟨rfl, rfl⟩))
    refine bodyPost_ret (v := .agg #[.int .u64 0, .int .u64 N]) (by simp [results, Tryd.results35, go_sem]) rfl ⟨rfl, ?_⟩
    repeat (first | exact Below.refl _ _ | refine below_al ?_ | refine Below.drew ?_)
set_option maxRecDepth 100000 in
set_option maxHeartbeats 1000000 in
theorem partsOf_szero (w : World) (g : Gl w) :
    Calls Tryd.prog 35 #[.float .f64 0, .agg #[.int .i64 8, .int .i64 23]] w fun e w' => e = .returned (.agg #[.int .u64 0, .int .u64 0]) ∧ Below w.heap.size w w' := by
  obtain ⟨g1, g2⟩ := g.dd
  clear g
  have u1 : IntKind.i64.wrap (-1) = -1 := by decide
  have u2 : IntKind.i64.wrap (-24) = -24 := by decide
  have u3 : IntKind.i64.wrap (126) = 126 := by decide
  have hFr : Hid (∀ w, Calls Tryd.prog 41 #[.float .f64 0] w fun e w' => (∃ f, e = .returned (.tuple #[.float .f64 f, .int .i64 0])) ∧ w' = w) := fun w => Frexp_of 0 0 w (fun w => (frexp_zero w).mono (by rintro e w' ⟨rfl, rfl⟩; exact ⟨⟨0, rfl⟩, rfl⟩))
  have hL : Hid (∀ w, Calls Tryd.prog 43 #[.float .f64 0, .int .i64 149] w fun e w' => e = .returned (.float .f64 0) ∧ w' = w) := fun w => Ldexp_of 0 _ 0 w (fun w => ldexp_zero _ w)
  have h0 := order_zero_zero
  have hc : ∀ w, (convert 64 25 (.float .f64 0)).run Tryd.prog w = .ok (.int .u64 0) w := fun w => run_convert_float_int w _ _ .f64 .u64 0 0 (by rw [Tryd.underlying64]; rfl) Tryd.underlying25 rfl
  have hq' := eq_sd
  go_enter Tryd.func35, Tryd.ntmps35
  go_wp2_with (first | (go_at_call 42; refine (excess_s _).mono ?_; rintro e w' ⟨rfl, rfl⟩) | (go_at_call 29; refine (ones_s _).mono ?_; rintro e w' ⟨rfl, rfl⟩) | (go_at_call 41; refine (hFr.out _).mono ?_; rintro e w' ⟨⟨f, rfl⟩, rfl⟩) | (go_at_call 43; refine (hL.out _).mono ?_; rintro e w' ⟨rfl, rfl⟩))
  go_region_held3 (fun w' => w'.cell? ⟨w.heap.size, 0, none⟩ = some (.int .i64 8) ∧ w'.cell? ⟨w.heap.size, 1, none⟩ = some (.int .i64 23)) (first | (simp [go_sem]; done) | go_keep) (first | (go_at_call 42; refine (excess_s _).mono ?_; rintro e w' ⟨rfl, rfl⟩) | (go_at_call 29; refine (ones_s _).mono ?_; rintro e w' ⟨rfl, rfl⟩) | (go_at_call 41; refine (hFr.out _).mono ?_; rintro e w' ⟨⟨f, rfl⟩, rfl⟩) | (go_at_call 43; refine (hL.out _).mono ?_; rintro e w' ⟨rfl, rfl⟩))
  all_goals
    go_wp2_with (first | (go_at_call 42; refine (excess_s _).mono ?_; rintro e w' ⟨rfl, rfl⟩) | (go_at_call 29; refine (ones_s _).mono ?_; rintro e w' ⟨rfl, rfl⟩) | (go_at_call 41; refine (hFr.out _).mono ?_; rintro e w' ⟨⟨f, rfl⟩, rfl⟩) | (go_at_call 43; refine (hL.out _).mono ?_; rintro e w' ⟨rfl, rfl⟩))
    refine bodyPost_ret (v := .agg #[.int .u64 0, .int .u64 0]) (by simp [results, Tryd.results35, go_sem]) rfl ⟨rfl, ?_⟩
    repeat (first | exact Below.refl _ _ | refine below_al ?_ | refine Below.drew ?_)
set_option maxRecDepth 100000 in
set_option maxHeartbeats 1000000 in
theorem partsOf_smid (X R N e' : Nat) (pw : Int) (w : World) (g : Gl w) (h0 : FloatKind.f64.format.order X 0 = some .gt) (he : pw - 1 - 23 + 150 = e') (h1 : 1 ≤ e') (h2 : e' < 255) (hFr : ∀ w, Calls Tryd.prog 41 #[.float .f64 X] w fun e w' => (∃ f, e = .returned (.tuple #[.float .f64 f, .int .i64 pw])) ∧ w' = w) (hL : ∀ w, Calls Tryd.prog 43 #[.float .f64 X, .int .i64 (150 - e')] w fun e w' => e = .returned (.float .f64 R) ∧ w' = w) (hN : floatToIntVal .f64 R .u64 = some (N : Int)) (hNP : 8388608 ≤ N) (hN' : N < 9007199254740992) :
    Calls Tryd.prog 35 #[.float .f64 X, .agg #[.int .i64 8, .int .i64 23]] w fun e w' => e = .returned (.agg #[.int .u64 e', .int .u64 (N - 8388608 : Nat)]) ∧ Below w.heap.size w w' := by
  obtain ⟨g1, g2⟩ := g.dd
  clear g
  have u1 : IntKind.i64.wrap (pw - 1) = pw - 1 := by rw [IntKind.wrap_i64]; omega
  have u2 : IntKind.i64.wrap (pw - 1 - 23) = pw - 1 - 23 := by rw [IntKind.wrap_i64]; omega
  have u3 : IntKind.i64.wrap (pw - 1 - 23 + 150) = pw - 1 - 23 + 150 := by rw [IntKind.wrap_i64]; omega
  rw [he] at u3
  have u4 : IntKind.u64.wrap (e' : Int) = e' := by rw [IntKind.wrap_u64]; omega
  have u5 : IntKind.i64.wrap (150 - (e' : Int)) = 150 - (e' : Int) := by rw [IntKind.wrap_i64]; omega
  have u6 : IntKind.u64.wrap ((N : Int) - 8388608) = (N : Int) - 8388608 := by rw [IntKind.wrap_u64]; omega
  have u7 : IntKind.u64.wrap 8388608 = 8388608 := by decide
  have hFr := hide hFr
  have hL := hide hL
  have hc : ∀ w, (convert 64 25 (.float .f64 R)).run Tryd.prog w = .ok (.int .u64 N) w := fun w => run_convert_float_int w _ _ .f64 .u64 R N (by rw [Tryd.underlying64]; rfl) Tryd.underlying25 hN
  have hM := hide (show (N : Int) - 8388608 = ((N - 8388608 : Nat) : Int) by omega)
  have hq' := eq_sd
  go_enter Tryd.func35, Tryd.ntmps35
  go_wp2_with (first | (go_at_call 42; refine (excess_s _).mono ?_; rintro e w' ⟨rfl, rfl⟩) | (go_at_call 29; refine (ones_s _).mono ?_; rintro e w' ⟨rfl, rfl⟩) | (go_at_call 41; refine (hFr.out _).mono ?_; rintro e w' ⟨⟨f, rfl⟩, rfl⟩) | (go_at_call 43; refine (hL.out _).mono ?_; rintro e w' ⟨rfl, rfl⟩))
  go_region_held3 (fun w' => w'.cell? ⟨w.heap.size, 0, none⟩ = some (.int .i64 8) ∧ w'.cell? ⟨w.heap.size, 1, none⟩ = some (.int .i64 23)) (first | (simp [go_sem]; done) | go_keep) (first | (go_at_call 42; refine (excess_s _).mono ?_; rintro e w' ⟨rfl, rfl⟩) | (go_at_call 29; refine (ones_s _).mono ?_; rintro e w' ⟨rfl, rfl⟩) | (go_at_call 41; refine (hFr.out _).mono ?_; rintro e w' ⟨⟨f, rfl⟩, rfl⟩) | (go_at_call 43; refine (hL.out _).mono ?_; rintro e w' ⟨rfl, rfl⟩))
  all_goals
    go_wp2_with (first | (go_at_call 42; refine (excess_s _).mono ?_; rintro e w' ⟨rfl, rfl⟩) | (go_at_call 29; refine (ones_s _).mono ?_; rintro e w' ⟨rfl, rfl⟩) | (go_at_call 41; refine (hFr.out _).mono ?_; rintro e w' ⟨⟨f, rfl⟩, rfl⟩) | (go_at_call 43; refine (hL.out _).mono ?_; rintro e w' ⟨rfl, rfl⟩))
    go_region_held3 (fun w' => w'.cell? ⟨w.heap.size, 0, none⟩ = some (.int .i64 8) ∧ w'.cell? ⟨w.heap.size, 1, none⟩ = some (.int .i64 23)) (first | (simp [go_sem]; done) | go_keep) (first | (go_at_call 42; refine (excess_s _).mono ?_; rintro e w' ⟨rfl, rfl⟩) | (go_at_call 29; refine (ones_s _).mono ?_; rintro e w' ⟨rfl, rfl⟩) | (go_at_call 41; refine (hFr.out _).mono ?_; rintro e w' ⟨⟨f, rfl⟩, rfl⟩) | (go_at_call 43; refine (hL.out _).mono ?_; rintro e w' ⟨rfl, rfl⟩))
    all_goals
      go_wp2
      rw [← hM.out]
      refine bodyPost_ret (v := .agg #[.int .u64 e', .int .u64 (N - 8388608)]) (by simp [results, Tryd.results35, go_sem]) rfl ⟨rfl, ?_⟩
      repeat (first | exact Below.refl _ _ | refine below_al ?_ | refine Below.drew ?_)
end Go.Proofs.YtjlhningaijneaaDoor
