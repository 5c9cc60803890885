/- fbits.Widen16, Widen32, Narrow, Class: walked. -/
import Derived.Test.YtjlhningaijneaaDoorFiFun
namespace Go.Proofs.YtjlhningaijneaaDoor
open Go.RowKit
set_option linter.unusedSimpArgs false
set_option linter.unusedVariables false
theorem all_dd (w : World) : Calls Tryd.prog 26 #[.agg #[.int .i64 11, .int .i64 52]] w fun e w' => e = .returned (.int .i64 64) ∧ w' = w.alloc (.cells #[.int .i64 11, .int .i64 52] 44) := by
  go_enter Tryd.func26, Tryd.ntmps26
  go_wp2
  go_ret
  exact ⟨rfl, rfl⟩
theorem widen16_any (h : Nat) (w : World) (g : Gl w) (hh : h < 65536) :
    Calls Tryd.prog 10 #[.int .u16 h] w fun e w' => e = .returned (.int .u64 (widh h : Nat)) ∧ Below w.heap.size w w' := by
  obtain ⟨g1, g2, g3, g4, g5, g6, g7⟩ := g
  have g := hide (show Gl w from ⟨g1, g2, g3, g4, g5, g6, g7⟩)
  go_enter Tryd.func10, Tryd.ntmps10
  go_wp2_with (go_at_call 23; refine (conv_hd h _ g.out hh).mono ?_; rintro e w1 ⟨rfl, hB⟩)
  go_ret
  exact ⟨rfl, hB⟩
theorem widen32_any (h : Nat) (w : World) (g : Gl w) (hh : h < 4294967296) :
    Calls Tryd.prog 12 #[.int .u32 h] w fun e w' => e = .returned (.int .u64 (wids h : Nat)) ∧ Below w.heap.size w w' := by
  obtain ⟨g1, g2, g3, g4, g5, g6, g7⟩ := g
  have g := hide (show Gl w from ⟨g1, g2, g3, g4, g5, g6, g7⟩)
  go_enter Tryd.func12, Tryd.ntmps12
  go_wp2_with (go_at_call 23; refine (conv_sd h _ g.out hh).mono ?_; rintro e w1 ⟨rfl, hB⟩)
  go_ret
  exact ⟨rfl, hB⟩
theorem narh_lt (x : Nat) (hx : x < 18446744073709551616) : narh x < 65536 := by
  unfold narh
  have h1 : x / 9223372036854775808 ≤ 1 := by omega
  have hl : ¬ 1009 ≤ x / 4503599627370496 % 2048 → (4503599627370496 + x % 4503599627370496) / 2 ^ (1051 - x / 4503599627370496 % 2048) < 1024 := fun c4 => by
    rw [Nat.div_lt_iff_lt_mul (Nat.two_pow_pos _)]
    have : 2 ^ 43 ≤ 2 ^ (1051 - x / 4503599627370496 % 2048) := Nat.pow_le_pow_right (by decide) (by omega)
    have h2 : 1024 * 2 ^ 43 ≤ 1024 * 2 ^ (1051 - x / 4503599627370496 % 2048) := Nat.mul_le_mul_left _ this
    have h3 : 1024 * 2 ^ 43 = 9007199254740992 := rfl
    omega
  split
  · omega
  · split
    · omega
    · split
      · omega
      · split
        · omega
        · rename_i c4
          have := hl c4
          omega
theorem nars_lt (x : Nat) (hx : x < 18446744073709551616) : nars x < 4294967296 := by
  unfold nars
  have h1 : x / 9223372036854775808 ≤ 1 := by omega
  have hl : ¬ 897 ≤ x / 4503599627370496 % 2048 → (4503599627370496 + x % 4503599627370496) / 2 ^ (926 - x / 4503599627370496 % 2048) < 8388608 := fun c4 => by
    rw [Nat.div_lt_iff_lt_mul (Nat.two_pow_pos _)]
    have : 2 ^ 30 ≤ 2 ^ (926 - x / 4503599627370496 % 2048) := Nat.pow_le_pow_right (by decide) (by omega)
    have h2 : 8388608 * 2 ^ 30 ≤ 8388608 * 2 ^ (926 - x / 4503599627370496 % 2048) := Nat.mul_le_mul_left _ this
    have h3 : 8388608 * 2 ^ 30 = 9007199254740992 := rfl
    omega
  split
  · omega
  · split
    · omega
    · split
      · omega
      · split
        · omega
        · rename_i c4
          have := hl c4
          omega
theorem Gl.one {w : World} (g : Gl w) : (∀ o, (w.alloc o).cell? ⟨1, 0, none⟩ = some (.int .i64 11)) ∧ (∀ o, (w.alloc o).cell? ⟨1, 1, none⟩ = some (.int .i64 52)) :=
  ⟨fun o => (g.below (below_al (Below.refl _ _))).d0, fun o => (g.below (below_al (Below.refl _ _))).d1⟩
theorem Gl.dz {w : World} (g : Gl w) : w.cell? ⟨1, 0, none⟩ = some (.int .i64 11) ∧ w.cell? ⟨1, 1, none⟩ = some (.int .i64 52) := ⟨g.d0, g.d1⟩
theorem ix_0 (w : World) : (Instr.index 49 (.agg #[.int .i64 5, .int .i64 10, .int .i64 8, .int .i64 23]) (.int .i64 0)).run Tryd.prog w = .ok (.agg #[.int .i64 5, .int .i64 10]) w := by kernel_rfl
theorem ix_1 (w : World) : (Instr.index 49 (.agg #[.int .i64 5, .int .i64 10, .int .i64 8, .int .i64 23]) (.int .i64 1)).run Tryd.prog w = .ok (.agg #[.int .i64 8, .int .i64 23]) w := by kernel_rfl
/-- Narrow's answer. -/
def nrw (x : Nat) : Nat × Nat := if widh (narh x) = x then (16, narh x) else if wids (nars x) = x then (32, nars x) else (64, x)
set_option maxHeartbeats 1000000 in
theorem narrow_any (x : Nat) (w : World) (g : Gl w) (hx : x < 18446744073709551616) :
    Calls Tryd.prog 14 #[.int .u64 x] w fun e w' => e = .returned (.tuple #[.int .i64 (nrw x).1, .int .u64 (nrw x).2]) ∧ Below w.heap.size w w' := by
  obtain ⟨g1, g2, g3, g4, g5, g6, g7⟩ := g
  have g := hide (show Gl w from ⟨g1, g2, g3, g4, g5, g6, g7⟩)
  have hn1 := hide (narh_lt x hx)
  have hn2 := hide (nars_lt x hx)
  have i0 := ix_0
  have i1 := ix_1
  go_enter Tryd.func14, Tryd.ntmps14
  go_wp2
  clear g1 g2 g3 g4 g5 g6
  go_loopw [10] (fun i wr => (i = .int .i64 0 ∨ i = .int .i64 1 ∧ Hid (widh (narh x) ≠ x) ∨ i = .int .i64 2 ∧ Hid (widh (narh x) ≠ x) ∧ Hid (wids (nars x) ≠ x)) ∧ Hid (Below w.heap.size w wr)) (fun i _ => 2 - (intOf i).toNat)
  case atStart => exact ⟨Or.inl rfl, Below.refl _ _⟩
  case round =>
    obtain ⟨hi, hB⟩ := hrel
    have G := hide (g.out.below hB.out)
    obtain ⟨d0, d1⟩ := G.out.one
    have hsz := G.out.size
    rcases hi with rfl | ⟨rfl, hh⟩ | ⟨rfl, hh, hs⟩
    · go_wp2_with fail
      refine (conv_dh x _ (G.out.below (below_al (Below.refl _ _))) hx).mono ?_
      rintro e w1 ⟨rfl, hB1⟩
      obtain ⟨k0, k1⟩ := keep2 hB1 wr.heap.size (by simp) (.int .i64 5) (.int .i64 10) (by simp [go_sem]) (by simp [go_sem])
      have G1 := hide (G.out.below (below_alloc hB1))
      have e0 := G1.out.d0
      have e1 := G1.out.d1
      go_wp2_with fail
      refine (conv_hd (narh x) _ G1.out hn1.out).mono ?_
      rintro e w2 ⟨rfl, hB2⟩
      have hl : wr.heap.size < w1.heap.size := by have := hB1.size; simp at this; omega
      obtain ⟨k2, k3⟩ := keep2 hB2 wr.heap.size hl (.int .i64 5) (.int .i64 10) k0 k1
      by_cases q : widh (narh x) = x
      · have hr := hide (show nrw x = (16, narh x) by unfold nrw; rw [if_pos q])
        have hq : (((widh (narh x) : Nat) : Int) == (x : Int)) = true := by rw [q]; simp
        clear q
        go_wp2_with (go_at_call 26; refine (all_h _).mono ?_; rintro e w' ⟨rfl, rfl⟩)
        refine bodyPost_ret (v := .tuple #[.int .i64 16, .int .u64 (narh x)]) (by simp [results, Tryd.results14, go_sem]) rfl ⟨by rw [hr.out]; rfl, below_al (below_then hB.out (below_then (below_alloc hB1) hB2))⟩
      · have hq : (((widh (narh x) : Nat) : Int) == (x : Int)) = false := by simp; omega
        go_wp2
        exact ⟨⟨Or.inr (Or.inl ⟨by go_num, q⟩), below_then hB.out (below_then (below_alloc hB1) hB2)⟩, by simp [intOf]⟩
    · go_wp2_with fail
      refine (conv_ds x _ (G.out.below (below_al (Below.refl _ _))) hx).mono ?_
      rintro e w1 ⟨rfl, hB1⟩
      obtain ⟨k0, k1⟩ := keep2 hB1 wr.heap.size (by simp) (.int .i64 8) (.int .i64 23) (by simp [go_sem]) (by simp [go_sem])
      have G1 := hide (G.out.below (below_alloc hB1))
      have e0 := G1.out.d0
      have e1 := G1.out.d1
      go_wp2_with fail
      refine (conv_sd (nars x) _ G1.out hn2.out).mono ?_
      rintro e w2 ⟨rfl, hB2⟩
      have hl : wr.heap.size < w1.heap.size := by have := hB1.size; simp at this; omega
      obtain ⟨k2, k3⟩ := keep2 hB2 wr.heap.size hl (.int .i64 8) (.int .i64 23) k0 k1
      by_cases q : wids (nars x) = x
      · have hr := hide (show nrw x = (32, nars x) by unfold nrw; rw [if_neg hh.out, if_pos q])
        have hq : (((wids (nars x) : Nat) : Int) == (x : Int)) = true := by rw [q]; simp
        clear q
        go_wp2_with (go_at_call 26; refine (all_s _).mono ?_; rintro e w' ⟨rfl, rfl⟩)
        refine bodyPost_ret (v := .tuple #[.int .i64 32, .int .u64 (nars x)]) (by simp [results, Tryd.results14, go_sem]) rfl ⟨by rw [hr.out]; rfl, below_al (below_then hB.out (below_then (below_alloc hB1) hB2))⟩
      · have hq : (((wids (nars x) : Nat) : Int) == (x : Int)) = false := by simp; omega
        go_wp2
        exact ⟨⟨Or.inr (Or.inr ⟨by go_num, hh.out, q⟩), below_then hB.out (below_then (below_alloc hB1) hB2)⟩, by simp [intOf]⟩
    · obtain ⟨d0, d1⟩ := G.out.dz
      have hr := hide (show nrw x = (64, x) by unfold nrw; rw [if_neg hh.out, if_neg hs.out])
      go_wp2_with (go_at_call 26; refine (all_dd _).mono ?_; rintro e w' ⟨rfl, rfl⟩)
      refine bodyPost_ret (v := .tuple #[.int .i64 64, .int .u64 x]) (by simp [results, Tryd.results14, go_sem]) rfl ⟨by rw [hr.out]; rfl, below_al hB.out⟩
end Go.Proofs.YtjlhningaijneaaDoor
