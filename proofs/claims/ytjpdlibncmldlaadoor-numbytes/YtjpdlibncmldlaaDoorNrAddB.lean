/- num.Add: walked. -/
import Derived.Test.YtjpdlibncmldlaaDoorNqAdd
import Derived.Test.YtjpdlibncmldlaaDoorNrSum
namespace Go.Proofs.YtjpdlibncmldlaaDoor
open Go.RowKit
set_option linter.unusedSimpArgs false
set_option linter.unusedVariables false
set_option maxHeartbeats 4000000 in
set_option maxRecDepth 100000 in
theorem add_sw_z (na : Bool) (a : ByteArray) (xa : Int) (nb : Bool) (b : ByteArray) (xb : Int) (w : World) (h1 : isN na a xa = true) (h2 : isN nb b xb = true) (hsw : mag a xa < mag b xb) (hz : isZ na a xa = true) :
    Calls Tryd.prog 19 #[.agg #[.bool na, .string a, .int .i64 xa], .agg #[.bool nb, .string b, .int .i64 xb]] w fun e w' => ∃ r, e = retF r ∧ Hid (IsSum (Zv na a xa + Zv nb b xb) r) ∧ Below w.heap.size w w' := by
  have ml : maxLen = 2 ^ 63 - 1 := rfl
  obtain ⟨la, la1, la2⟩ := isN_len h1
  obtain ⟨lb, lb1, lb2⟩ := isN_len h2
  have hA : isN nb b xb = true := by assumption
  have hB : isN na a xa = true := by assumption
  have HB := hide (boxes_new w na a xa nb b xb)
  have hlt' : decide (cmpI (mag a xa : Int) (mag b xb : Int) < 0) = true := by rw [cmpI_neg]; exact decide_eq_true (by omega)
  go_enter Tryd.func19, Tryd.ntmps19
  go_wp2_with fail
  refine (check_ok na a xa _ (by omega) h1).mono ?_
  rintro e w1 ⟨rfl, hb1⟩
  have HB1 := hide (HB.out.then hb1)
  obtain ⟨c00, c01, c02, f00, f01, f02⟩ := HB1.out.b0.cells
  obtain ⟨c10, c11, c12, f10, f11, f12⟩ := HB1.out.b1.cells
  clear hb1
  go_wp2_with fail
  refine (check_ok nb b xb _ (by omega) h2).mono ?_
  rintro e w2 ⟨rfl, hb2⟩
  have HB2 := hide (HB1.out.then hb2)
  clear c00 c01 c02 f00 f01 f02 c10 c11 c12 f10 f11 f12 hb2 HB HB1
  obtain ⟨c00, c01, c02, f00, f01, f02⟩ := HB2.out.b0.cells
  obtain ⟨c10, c11, c12, f10, f11, f12⟩ := HB2.out.b1.cells
  go_wp2_with fail
  refine (compareSizes_any na a xa nb b xb _ (by omega) (by omega) (by omega) (by omega) (by omega) (by omega)).mono ?_
  rw [cmpSz_spec h1 h2]
  rintro e w3 ⟨rfl, hb3⟩
  have HB3 := hide (HB2.out.then hb3)
  clear c00 c01 c02 f00 f01 f02 c10 c11 c12 f10 f11 f12 hb3 HB2
  obtain ⟨c00, c01, c02, f00, f01, f02⟩ := HB3.out.b0.cells
  obtain ⟨c10, c11, c12, f10, f11, f12⟩ := HB3.out.b1.cells
  go_wp2_with fail
  refine (isZero_any na a xa _).mono ?_
  rw [hz]
  rintro e w4 ⟨rfl, hb4⟩
  have HB4 := hide (HB3.out.swap.then hb4)
  clear c00 c01 c02 f00 f01 f02 c10 c11 c12 f10 f11 f12 hb4 HB3
  obtain ⟨c00, c01, c02, f00, f01, f02⟩ := HB4.out.b0.cells
  obtain ⟨c10, c11, c12, f10, f11, f12⟩ := HB4.out.b1.cells
  have TT : Hid (Two nb b xb na a xa xb xb) := ⟨hA, hB, by omega, fun h => by first | rfl | (rw [hz] at h; cases h), fun h => by first | rfl | (rw [hz] at h; cases h), by omega⟩
  have hlow := TT.out.low_bounds
  obtain ⟨hlow1, hlow2, hlow3, hlow4⟩ := hlow
  have htb := topN_bounds hA
  obtain ⟨htb1, htb2⟩ := htb
  go_wp2_with fail
  refine (top_any nb b xb _ (by omega) (by omega) (by omega)).mono ?_
  rintro e w5 ⟨rfl, hb5⟩
  have HB5 := hide ((HB4.out.exp).then hb5)
  clear c00 c01 c02 f00 f01 f02 c10 c11 c12 f10 f11 f12 hb5 HB4
  obtain ⟨c00, c01, c02, f00, f01, f02⟩ := HB5.out.b0.cells
  obtain ⟨c10, c11, c12, f10, f11, f12⟩ := HB5.out.b1.cells
  obtain ⟨c20, c21, c22, f20, f21, f22⟩ := HB5.out.b2.cells
  by_cases hsp : 41 < topN nb b xb - xb
  · go_wp2
    refine bodyPost_ret (v := .tuple #[.agg #[.bool false, .string ⟨#[]⟩, .int .i64 0], .int .i64 2]) (by simp [results, Tryd.results19, go_sem, c20, c21, c22]) rfl ⟨(false, ⟨#[]⟩, 0, 2), rfl, ?_, ?_⟩
    · show IsSum _ _; rw [Int.add_comm]; exact TT.out.none hsp
    · exact ((HB5.out.below.setCell (by show w.heap.size ≤ w.heap.size + 1 + 1; omega) _).setCell (by show w.heap.size ≤ w.heap.size + 1 + 1; omega) _).setCell (by show w.heap.size ≤ w.heap.size + 1 + 1; omega) _
  · have hfit := TT.out.fits (by omega)
    have hbnd := TT.out.bounds (by omega)
    have hleat := hide TT.out.le_at
    obtain ⟨hfit1, hfit2⟩ := hfit
    have hbnd1 := hide hbnd.1
    have hbnd2 := hide hbnd.2
    have hlt5 := HB5.out.b2.lt
    clear hbnd
    have HAr := hide (arr42 w5 65)
    have hl0 := HB5.out.b0.lt
    have hl1 := HB5.out.b1.lt
    go_wp2_with fail
    refine (merge_int w5.heap.size 65 (List.replicate 42 0) b _ (xb - xb).toNat false _ ?_ (by simp) (fun d hd => by rw [List.eq_of_mem_replicate hd]; omega) HAr.out (isN_all hA).1 (by omega) (fun _ => hbnd1.out) (fun h => by cases h)).mono ?_
    · omega
    rintro e w6 ⟨rfl, P, hP1, hP2, hP3, _, hP5, hP6⟩
    have hvP := hide (hP3 rfl)
    rw [val_zeros, Nat.zero_add] at hvP
    have HB6 := hide ((HB5.out.thenB ((Below.refl w5.heap.size w5).alloc (Nat.le_refl _) _) (by omega)).thenB (hP6.below (Nat.le_refl _)) (by omega))
    have hP5 := hide hP5
    have hP2 := hide hP2
    have hP1 := hide hP1
    have hs6 : w5.heap.size < w6.heap.size := by have := hP6.size; simp at this; omega
    clear c00 c01 c02 f00 f01 f02 c10 c11 c12 f10 f11 f12 c20 c21 c22 f20 f21 f22 hP3 hP6 HAr
    obtain ⟨c00, c01, c02, f00, f01, f02⟩ := HB6.out.b0.cells
    obtain ⟨c10, c11, c12, f10, f11, f12⟩ := HB6.out.b1.cells
    go_wp2_with fail
    refine (merge_int w5.heap.size 65 P a _ (xb - xb).toNat _ _ ?_ hP1.out hP2.out hP5.out (isN_all hB).1 (by omega) (fun _ => by rw [hvP.out]; exact hbnd2.out) (fun _ => by rw [hvP.out]; exact hleat.out)).mono ?_
    · omega
    rintro e w7 ⟨rfl, Q, hQ1, hQ2, hQ3, hQ4, hQ5, hQ6⟩
    have HB7 := hide (HB6.out.thenB (hQ6.below (Nat.le_refl _)) (by omega))
    have hs7 : w5.heap.size < w7.heap.size := by have := hQ6.size; omega
    rw [hvP.out] at hQ3 hQ4
    have hSum := hide (TT.out.sum Q hQ2 hQ3 hQ4)
    have hQ5 := hide hQ5
    have hQ2 := hide hQ2
    clear c00 c01 c02 f00 f01 f02 c10 c11 c12 f10 f11 f12 hQ3 hQ4 hQ6
    obtain ⟨c00, c01, c02, f00, f01, f02⟩ := HB7.out.b0.cells
    obtain ⟨c20, c21, c22, f20, f21, f22⟩ := HB7.out.b2.cells
    go_wp2_with fail
    go_region_with (go_at_call 30; refine (form_any nb w5.heap.size 0 42 42 Q xb w7.drew hQ1 (by omega) (by omega) (by omega) (by omega) hs7 (fun i hi => by rw [Nat.zero_add]; exact hQ5.out.drew.cell i hi) (by omega) (by omega) hQ2.out).mono ?_; rintro e w8 ⟨rfl, hb8⟩; obtain ⟨fb, fs, fx, fe, hfe⟩ : ∃ fb fs fx fe, formF nb Q xb = (fb, fs, fx, fe) := ⟨_, _, _, _, rfl⟩; rw [hfe]; have hfe := hide hfe; have HB8 := hide (HB7.out.drew.then hb8); clear hb8; obtain ⟨d20, d21, d22, g20, g21, g22⟩ := HB8.out.b2.cells; simp only [retF])
    all_goals
      go_wp2
      refine bodyPost_ret (v := .tuple #[.agg #[.bool fb, .string fs, .int .i64 fx], .int .i64 fe]) (by simp [results, Tryd.results19, go_sem, d20, d21, d22]) rfl ⟨(fb, fs, fx, fe), rfl, ?_, ?_⟩
      · show IsSum _ _; rw [Int.add_comm]; rw [← hfe.out]; exact hSum.out
      · exact ((HB8.out.below.setCell (by show w.heap.size ≤ w.heap.size + 1 + 1; omega) _).setCell (by show w.heap.size ≤ w.heap.size + 1 + 1; omega) _).setCell (by show w.heap.size ≤ w.heap.size + 1 + 1; omega) _
set_option maxHeartbeats 4000000 in
set_option maxRecDepth 100000 in
theorem add_sw_le (na : Bool) (a : ByteArray) (xa : Int) (nb : Bool) (b : ByteArray) (xb : Int) (w : World) (h1 : isN na a xa = true) (h2 : isN nb b xb = true) (hsw : mag a xa < mag b xb) (hz : isZ na a xa = false) (hmin : xb ≤ xa) :
    Calls Tryd.prog 19 #[.agg #[.bool na, .string a, .int .i64 xa], .agg #[.bool nb, .string b, .int .i64 xb]] w fun e w' => ∃ r, e = retF r ∧ Hid (IsSum (Zv na a xa + Zv nb b xb) r) ∧ Below w.heap.size w w' := by
  have ml : maxLen = 2 ^ 63 - 1 := rfl
  obtain ⟨la, la1, la2⟩ := isN_len h1
  obtain ⟨lb, lb1, lb2⟩ := isN_len h2
  have hA : isN nb b xb = true := by assumption
  have hB : isN na a xa = true := by assumption
  have HB := hide (boxes_new w na a xa nb b xb)
  have hlt' : decide (cmpI (mag a xa : Int) (mag b xb : Int) < 0) = true := by rw [cmpI_neg]; exact decide_eq_true (by omega)
  go_enter Tryd.func19, Tryd.ntmps19
  go_wp2_with fail
  refine (check_ok na a xa _ (by omega) h1).mono ?_
  rintro e w1 ⟨rfl, hb1⟩
  have HB1 := hide (HB.out.then hb1)
  obtain ⟨c00, c01, c02, f00, f01, f02⟩ := HB1.out.b0.cells
  obtain ⟨c10, c11, c12, f10, f11, f12⟩ := HB1.out.b1.cells
  clear hb1
  go_wp2_with fail
  refine (check_ok nb b xb _ (by omega) h2).mono ?_
  rintro e w2 ⟨rfl, hb2⟩
  have HB2 := hide (HB1.out.then hb2)
  clear c00 c01 c02 f00 f01 f02 c10 c11 c12 f10 f11 f12 hb2 HB HB1
  obtain ⟨c00, c01, c02, f00, f01, f02⟩ := HB2.out.b0.cells
  obtain ⟨c10, c11, c12, f10, f11, f12⟩ := HB2.out.b1.cells
  go_wp2_with fail
  refine (compareSizes_any na a xa nb b xb _ (by omega) (by omega) (by omega) (by omega) (by omega) (by omega)).mono ?_
  rw [cmpSz_spec h1 h2]
  rintro e w3 ⟨rfl, hb3⟩
  have HB3 := hide (HB2.out.then hb3)
  clear c00 c01 c02 f00 f01 f02 c10 c11 c12 f10 f11 f12 hb3 HB2
  obtain ⟨c00, c01, c02, f00, f01, f02⟩ := HB3.out.b0.cells
  obtain ⟨c10, c11, c12, f10, f11, f12⟩ := HB3.out.b1.cells
  go_wp2_with fail
  refine (isZero_any na a xa _).mono ?_
  rw [hz]
  rintro e w4 ⟨rfl, hb4⟩
  have HB4 := hide (HB3.out.swap.then hb4)
  clear c00 c01 c02 f00 f01 f02 c10 c11 c12 f10 f11 f12 hb4 HB3
  obtain ⟨c00, c01, c02, f00, f01, f02⟩ := HB4.out.b0.cells
  obtain ⟨c10, c11, c12, f10, f11, f12⟩ := HB4.out.b1.cells
  have TT : Hid (Two nb b xb na a xa xa xb) := ⟨hA, hB, by omega, fun h => by first | rfl | (rw [hz] at h; cases h), fun h => by first | rfl | (rw [hz] at h; cases h), by omega⟩
  have hlow := TT.out.low_bounds
  obtain ⟨hlow1, hlow2, hlow3, hlow4⟩ := hlow
  have htb := topN_bounds hA
  obtain ⟨htb1, htb2⟩ := htb
  go_wp2_with fail
  refine (top_any nb b xb _ (by omega) (by omega) (by omega)).mono ?_
  rintro e w5 ⟨rfl, hb5⟩
  have HB5 := hide (HB4.out.then hb5)
  clear c00 c01 c02 f00 f01 f02 c10 c11 c12 f10 f11 f12 hb5 HB4
  obtain ⟨c00, c01, c02, f00, f01, f02⟩ := HB5.out.b0.cells
  obtain ⟨c10, c11, c12, f10, f11, f12⟩ := HB5.out.b1.cells
  obtain ⟨c20, c21, c22, f20, f21, f22⟩ := HB5.out.b2.cells
  by_cases hsp : 41 < topN nb b xb - xb
  · go_wp2
    refine bodyPost_ret (v := .tuple #[.agg #[.bool false, .string ⟨#[]⟩, .int .i64 0], .int .i64 2]) (by simp [results, Tryd.results19, go_sem, c20, c21, c22]) rfl ⟨(false, ⟨#[]⟩, 0, 2), rfl, ?_, ?_⟩
    · show IsSum _ _; rw [Int.add_comm]; exact TT.out.none hsp
    · exact ((HB5.out.below.setCell (by show w.heap.size ≤ w.heap.size + 1 + 1; omega) _).setCell (by show w.heap.size ≤ w.heap.size + 1 + 1; omega) _).setCell (by show w.heap.size ≤ w.heap.size + 1 + 1; omega) _
  · have hfit := TT.out.fits (by omega)
    have hbnd := TT.out.bounds (by omega)
    have hleat := hide TT.out.le_at
    obtain ⟨hfit1, hfit2⟩ := hfit
    have hbnd1 := hide hbnd.1
    have hbnd2 := hide hbnd.2
    have hlt5 := HB5.out.b2.lt
    clear hbnd
    have HAr := hide (arr42 w5 65)
    have hl0 := HB5.out.b0.lt
    have hl1 := HB5.out.b1.lt
    go_wp2_with fail
    refine (merge_int w5.heap.size 65 (List.replicate 42 0) b _ (xb - xb).toNat false _ ?_ (by simp) (fun d hd => by rw [List.eq_of_mem_replicate hd]; omega) HAr.out (isN_all hA).1 (by omega) (fun _ => hbnd1.out) (fun h => by cases h)).mono ?_
    · omega
    rintro e w6 ⟨rfl, P, hP1, hP2, hP3, _, hP5, hP6⟩
    have hvP := hide (hP3 rfl)
    rw [val_zeros, Nat.zero_add] at hvP
    have HB6 := hide ((HB5.out.thenB ((Below.refl w5.heap.size w5).alloc (Nat.le_refl _) _) (by omega)).thenB (hP6.below (Nat.le_refl _)) (by omega))
    have hP5 := hide hP5
    have hP2 := hide hP2
    have hP1 := hide hP1
    have hs6 : w5.heap.size < w6.heap.size := by have := hP6.size; simp at this; omega
    clear c00 c01 c02 f00 f01 f02 c10 c11 c12 f10 f11 f12 c20 c21 c22 f20 f21 f22 hP3 hP6 HAr
    obtain ⟨c00, c01, c02, f00, f01, f02⟩ := HB6.out.b0.cells
    obtain ⟨c10, c11, c12, f10, f11, f12⟩ := HB6.out.b1.cells
    go_wp2_with fail
    refine (merge_int w5.heap.size 65 P a _ (xa - xb).toNat _ _ ?_ hP1.out hP2.out hP5.out (isN_all hB).1 (by omega) (fun _ => by rw [hvP.out]; exact hbnd2.out) (fun _ => by rw [hvP.out]; exact hleat.out)).mono ?_
    · omega
    rintro e w7 ⟨rfl, Q, hQ1, hQ2, hQ3, hQ4, hQ5, hQ6⟩
    have HB7 := hide (HB6.out.thenB (hQ6.below (Nat.le_refl _)) (by omega))
    have hs7 : w5.heap.size < w7.heap.size := by have := hQ6.size; omega
    rw [hvP.out] at hQ3 hQ4
    have hSum := hide (TT.out.sum Q hQ2 hQ3 hQ4)
    have hQ5 := hide hQ5
    have hQ2 := hide hQ2
    clear c00 c01 c02 f00 f01 f02 c10 c11 c12 f10 f11 f12 hQ3 hQ4 hQ6
    obtain ⟨c00, c01, c02, f00, f01, f02⟩ := HB7.out.b0.cells
    obtain ⟨c20, c21, c22, f20, f21, f22⟩ := HB7.out.b2.cells
    go_wp2_with fail
    go_region_with (go_at_call 30; refine (form_any nb w5.heap.size 0 42 42 Q xb w7.drew hQ1 (by omega) (by omega) (by omega) (by omega) hs7 (fun i hi => by rw [Nat.zero_add]; exact hQ5.out.drew.cell i hi) (by omega) (by omega) hQ2.out).mono ?_; rintro e w8 ⟨rfl, hb8⟩; obtain ⟨fb, fs, fx, fe, hfe⟩ : ∃ fb fs fx fe, formF nb Q xb = (fb, fs, fx, fe) := ⟨_, _, _, _, rfl⟩; rw [hfe]; have hfe := hide hfe; have HB8 := hide (HB7.out.drew.then hb8); clear hb8; obtain ⟨d20, d21, d22, g20, g21, g22⟩ := HB8.out.b2.cells; simp only [retF])
    all_goals
      go_wp2
      refine bodyPost_ret (v := .tuple #[.agg #[.bool fb, .string fs, .int .i64 fx], .int .i64 fe]) (by simp [results, Tryd.results19, go_sem, d20, d21, d22]) rfl ⟨(fb, fs, fx, fe), rfl, ?_, ?_⟩
      · show IsSum _ _; rw [Int.add_comm]; rw [← hfe.out]; exact hSum.out
      · exact ((HB8.out.below.setCell (by show w.heap.size ≤ w.heap.size + 1 + 1; omega) _).setCell (by show w.heap.size ≤ w.heap.size + 1 + 1; omega) _).setCell (by show w.heap.size ≤ w.heap.size + 1 + 1; omega) _
set_option maxHeartbeats 4000000 in
set_option maxRecDepth 100000 in
theorem add_sw_gt (na : Bool) (a : ByteArray) (xa : Int) (nb : Bool) (b : ByteArray) (xb : Int) (w : World) (h1 : isN na a xa = true) (h2 : isN nb b xb = true) (hsw : mag a xa < mag b xb) (hz : isZ na a xa = false) (hmin : ¬ xb ≤ xa) :
    Calls Tryd.prog 19 #[.agg #[.bool na, .string a, .int .i64 xa], .agg #[.bool nb, .string b, .int .i64 xb]] w fun e w' => ∃ r, e = retF r ∧ Hid (IsSum (Zv na a xa + Zv nb b xb) r) ∧ Below w.heap.size w w' := by
  have ml : maxLen = 2 ^ 63 - 1 := rfl
  obtain ⟨la, la1, la2⟩ := isN_len h1
  obtain ⟨lb, lb1, lb2⟩ := isN_len h2
  have hA : isN nb b xb = true := by assumption
  have hB : isN na a xa = true := by assumption
  have HB := hide (boxes_new w na a xa nb b xb)
  have hlt' : decide (cmpI (mag a xa : Int) (mag b xb : Int) < 0) = true := by rw [cmpI_neg]; exact decide_eq_true (by omega)
  go_enter Tryd.func19, Tryd.ntmps19
  go_wp2_with fail
  refine (check_ok na a xa _ (by omega) h1).mono ?_
  rintro e w1 ⟨rfl, hb1⟩
  have HB1 := hide (HB.out.then hb1)
  obtain ⟨c00, c01, c02, f00, f01, f02⟩ := HB1.out.b0.cells
  obtain ⟨c10, c11, c12, f10, f11, f12⟩ := HB1.out.b1.cells
  clear hb1
  go_wp2_with fail
  refine (check_ok nb b xb _ (by omega) h2).mono ?_
  rintro e w2 ⟨rfl, hb2⟩
  have HB2 := hide (HB1.out.then hb2)
  clear c00 c01 c02 f00 f01 f02 c10 c11 c12 f10 f11 f12 hb2 HB HB1
  obtain ⟨c00, c01, c02, f00, f01, f02⟩ := HB2.out.b0.cells
  obtain ⟨c10, c11, c12, f10, f11, f12⟩ := HB2.out.b1.cells
  go_wp2_with fail
  refine (compareSizes_any na a xa nb b xb _ (by omega) (by omega) (by omega) (by omega) (by omega) (by omega)).mono ?_
  rw [cmpSz_spec h1 h2]
  rintro e w3 ⟨rfl, hb3⟩
  have HB3 := hide (HB2.out.then hb3)
  clear c00 c01 c02 f00 f01 f02 c10 c11 c12 f10 f11 f12 hb3 HB2
  obtain ⟨c00, c01, c02, f00, f01, f02⟩ := HB3.out.b0.cells
  obtain ⟨c10, c11, c12, f10, f11, f12⟩ := HB3.out.b1.cells
  go_wp2_with fail
  refine (isZero_any na a xa _).mono ?_
  rw [hz]
  rintro e w4 ⟨rfl, hb4⟩
  have HB4 := hide (HB3.out.swap.then hb4)
  clear c00 c01 c02 f00 f01 f02 c10 c11 c12 f10 f11 f12 hb4 HB3
  obtain ⟨c00, c01, c02, f00, f01, f02⟩ := HB4.out.b0.cells
  obtain ⟨c10, c11, c12, f10, f11, f12⟩ := HB4.out.b1.cells
  have TT : Hid (Two nb b xb na a xa xa xa) := ⟨hA, hB, by omega, fun h => by first | rfl | (rw [hz] at h; cases h), fun h => by first | rfl | (rw [hz] at h; cases h), by omega⟩
  have hlow := TT.out.low_bounds
  obtain ⟨hlow1, hlow2, hlow3, hlow4⟩ := hlow
  have htb := topN_bounds hA
  obtain ⟨htb1, htb2⟩ := htb
  go_wp2_with fail
  refine (top_any nb b xb _ (by omega) (by omega) (by omega)).mono ?_
  rintro e w5 ⟨rfl, hb5⟩
  have HB5 := hide (HB4.out.then hb5)
  clear c00 c01 c02 f00 f01 f02 c10 c11 c12 f10 f11 f12 hb5 HB4
  obtain ⟨c00, c01, c02, f00, f01, f02⟩ := HB5.out.b0.cells
  obtain ⟨c10, c11, c12, f10, f11, f12⟩ := HB5.out.b1.cells
  obtain ⟨c20, c21, c22, f20, f21, f22⟩ := HB5.out.b2.cells
  by_cases hsp : 41 < topN nb b xb - xa
  · go_wp2
    refine bodyPost_ret (v := .tuple #[.agg #[.bool false, .string ⟨#[]⟩, .int .i64 0], .int .i64 2]) (by simp [results, Tryd.results19, go_sem, c20, c21, c22]) rfl ⟨(false, ⟨#[]⟩, 0, 2), rfl, ?_, ?_⟩
    · show IsSum _ _; rw [Int.add_comm]; exact TT.out.none hsp
    · exact ((HB5.out.below.setCell (by show w.heap.size ≤ w.heap.size + 1 + 1; omega) _).setCell (by show w.heap.size ≤ w.heap.size + 1 + 1; omega) _).setCell (by show w.heap.size ≤ w.heap.size + 1 + 1; omega) _
  · have hfit := TT.out.fits (by omega)
    have hbnd := TT.out.bounds (by omega)
    have hleat := hide TT.out.le_at
    obtain ⟨hfit1, hfit2⟩ := hfit
    have hbnd1 := hide hbnd.1
    have hbnd2 := hide hbnd.2
    have hlt5 := HB5.out.b2.lt
    clear hbnd
    have HAr := hide (arr42 w5 65)
    have hl0 := HB5.out.b0.lt
    have hl1 := HB5.out.b1.lt
    go_wp2_with fail
    refine (merge_int w5.heap.size 65 (List.replicate 42 0) b _ (xb - xa).toNat false _ ?_ (by simp) (fun d hd => by rw [List.eq_of_mem_replicate hd]; omega) HAr.out (isN_all hA).1 (by omega) (fun _ => hbnd1.out) (fun h => by cases h)).mono ?_
    · omega
    rintro e w6 ⟨rfl, P, hP1, hP2, hP3, _, hP5, hP6⟩
    have hvP := hide (hP3 rfl)
    rw [val_zeros, Nat.zero_add] at hvP
    have HB6 := hide ((HB5.out.thenB ((Below.refl w5.heap.size w5).alloc (Nat.le_refl _) _) (by omega)).thenB (hP6.below (Nat.le_refl _)) (by omega))
    have hP5 := hide hP5
    have hP2 := hide hP2
    have hP1 := hide hP1
    have hs6 : w5.heap.size < w6.heap.size := by have := hP6.size; simp at this; omega
    clear c00 c01 c02 f00 f01 f02 c10 c11 c12 f10 f11 f12 c20 c21 c22 f20 f21 f22 hP3 hP6 HAr
    obtain ⟨c00, c01, c02, f00, f01, f02⟩ := HB6.out.b0.cells
    obtain ⟨c10, c11, c12, f10, f11, f12⟩ := HB6.out.b1.cells
    go_wp2_with fail
    refine (merge_int w5.heap.size 65 P a _ (xa - xa).toNat _ _ ?_ hP1.out hP2.out hP5.out (isN_all hB).1 (by omega) (fun _ => by rw [hvP.out]; exact hbnd2.out) (fun _ => by rw [hvP.out]; exact hleat.out)).mono ?_
    · omega
    rintro e w7 ⟨rfl, Q, hQ1, hQ2, hQ3, hQ4, hQ5, hQ6⟩
    have HB7 := hide (HB6.out.thenB (hQ6.below (Nat.le_refl _)) (by omega))
    have hs7 : w5.heap.size < w7.heap.size := by have := hQ6.size; omega
    rw [hvP.out] at hQ3 hQ4
    have hSum := hide (TT.out.sum Q hQ2 hQ3 hQ4)
    have hQ5 := hide hQ5
    have hQ2 := hide hQ2
    clear c00 c01 c02 f00 f01 f02 c10 c11 c12 f10 f11 f12 hQ3 hQ4 hQ6
    obtain ⟨c00, c01, c02, f00, f01, f02⟩ := HB7.out.b0.cells
    obtain ⟨c20, c21, c22, f20, f21, f22⟩ := HB7.out.b2.cells
    go_wp2_with fail
    go_region_with (go_at_call 30; refine (form_any nb w5.heap.size 0 42 42 Q xa w7.drew hQ1 (by omega) (by omega) (by omega) (by omega) hs7 (fun i hi => by rw [Nat.zero_add]; exact hQ5.out.drew.cell i hi) (by omega) (by omega) hQ2.out).mono ?_; rintro e w8 ⟨rfl, hb8⟩; obtain ⟨fb, fs, fx, fe, hfe⟩ : ∃ fb fs fx fe, formF nb Q xa = (fb, fs, fx, fe) := ⟨_, _, _, _, rfl⟩; rw [hfe]; have hfe := hide hfe; have HB8 := hide (HB7.out.drew.then hb8); clear hb8; obtain ⟨d20, d21, d22, g20, g21, g22⟩ := HB8.out.b2.cells; simp only [retF])
    all_goals
      go_wp2
      refine bodyPost_ret (v := .tuple #[.agg #[.bool fb, .string fs, .int .i64 fx], .int .i64 fe]) (by simp [results, Tryd.results19, go_sem, d20, d21, d22]) rfl ⟨(fb, fs, fx, fe), rfl, ?_, ?_⟩
      · show IsSum _ _; rw [Int.add_comm]; rw [← hfe.out]; exact hSum.out
      · exact ((HB8.out.below.setCell (by show w.heap.size ≤ w.heap.size + 1 + 1; omega) _).setCell (by show w.heap.size ≤ w.heap.size + 1 + 1; omega) _).setCell (by show w.heap.size ≤ w.heap.size + 1 + 1; omega) _
end Go.Proofs.YtjpdlibncmldlaaDoor
