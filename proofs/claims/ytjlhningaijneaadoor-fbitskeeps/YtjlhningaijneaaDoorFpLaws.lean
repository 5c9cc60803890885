/- calamuslaw02.FbitsSigns, back, FbitsRound: walked. -/
import Derived.Test.YtjlhningaijneaaDoorFoMath
import Derived.Test.YtjlhningaijneaaDoorFnAwake
namespace Go.Proofs.YtjlhningaijneaaDoor
open Go.RowKit
set_option linter.unusedSimpArgs false
set_option linter.unusedVariables false
/-- What turning the sign comes to. -/
theorem signs_math (x : Nat) (hx : x < 18446744073709551616) : ∃ x' n a c : Nat, x' < 18446744073709551616 ∧ bits .xor .u64 (x : Int) 9223372036854775808 = (x' : Int) ∧ nrw x = (n, a) ∧ nrw x' = (n, c) ∧ bits .xor .u64 (a : Int) (c : Int) = ((2 ^ (n - 1) : Nat) : Int) ∧ cls x = cls x' ∧ (n = 16 ∨ n = 32 ∨ n = 64) := by
  obtain ⟨s, hs⟩ : ∃ s, x / 9223372036854775808 = s := ⟨_, rfl⟩
  obtain ⟨m, hm⟩ : ∃ m, x % 9223372036854775808 = m := ⟨_, rfl⟩
  have hm63 : m < 9223372036854775808 := by omega
  obtain ⟨n, r, h1, h2, h3, h4⟩ := nrw_sign 1 m (by omega) hm63
  have hp : 2 ^ (n - 1) ≤ 9223372036854775808 := by rcases h4 with rfl | rfl | rfl <;> decide
  rw [Nat.one_mul, Nat.one_mul] at h2
  have hc := cls_sign 1 m (by omega) hm63
  rw [Nat.one_mul] at hc
  have k63 : (9223372036854775808 : Nat) = 2 ^ 63 := rfl
  have hs2 : s = 0 ∨ s = 1 := by omega
  rcases hs2 with rfl | rfl
  · have hxm : x = m := by omega
    subst hxm
    refine ⟨9223372036854775808 + x, n, r, 2 ^ (n - 1) + r, by omega, ?_, h1, h2, ?_, hc.symm, h4⟩
    · have := u64_xor_nat x 9223372036854775808 hx (by omega)
      rw [show ((9223372036854775808 : Nat) : Int) = 9223372036854775808 from rfl] at this
      rw [this, k63, xor_on 63 x hm63]
    · rw [u64_xor_nat _ _ (by omega) (by omega), xor_top' _ _ h3]
  · have hxm : x = 9223372036854775808 + m := by omega
    refine ⟨m, n, 2 ^ (n - 1) + r, r, by omega, ?_, by rw [hxm]; exact h2, h1, ?_, by rw [hxm]; exact hc, h4⟩
    · have := u64_xor_nat x 9223372036854775808 hx (by omega)
      rw [show ((9223372036854775808 : Nat) : Int) = 9223372036854775808 from rfl] at this
      rw [this, hxm, k63, xor_off 63 m hm63]
    · rw [u64_xor_nat _ _ (by omega) (by omega), xor_top _ _ h3]
set_option maxHeartbeats 1000000 in
theorem signs_any (x : Nat) (w : World) (g : Gl w) (hx : x < 18446744073709551616) :
    Calls Tryd.prog 8 #[.int .u64 x] w fun e w' => e = .returned (.bool true) ∧ Below w.heap.size w w' := by
  obtain ⟨x', n, a, c, hx', hxor, h1, h2, h3, hc, hn⟩ := signs_math x hx
  have g := hide g
  have h1 := hide h1
  have h2 := hide h2
  rcases hn with rfl | rfl | rfl
  all_goals
    simp only [Nat.reducePow, Nat.reduceSub] at h3
    go_enter Tryd.func8, Tryd.ntmps8
    go_wp2_with fail
    refine (narrow_any x _ g.out hx).mono ?_
    rintro e w1 ⟨rfl, hB1⟩
    rw [h1.out]
    go_wp2_with fail
    have G1 := hide (g.out.below hB1)
    refine (narrow_any x' _ G1.out hx').mono ?_
    rintro e w2 ⟨rfl, hB2⟩
    rw [h2.out]
    have G2 := hide (G1.out.below hB2)
    go_wp2_with fail
    refine (awake_any _ G2.out).mono ?_
    rintro e w3 ⟨rfl, hB3⟩
    have G3 := hide (G2.out.below hB3)
    go_wp2_with fail
    refine (class_any x _ G3.out hx).mono ?_
    rintro e w4 ⟨rfl, hB4⟩
    have G4 := hide (G3.out.below hB4)
    go_wp2_with fail
    refine (class_any x' _ G4.out hx').mono ?_
    rintro e w5 ⟨rfl, hB5⟩
    go_wp2
    go_ret
    exact ⟨rfl, below_then (below_then (below_then (below_then hB1 hB2) hB3) hB4) hB5⟩
theorem back16 (x : Nat) (w : World) (g : Gl w) (hx : x < 65536) :
    Calls Tryd.prog 22 #[.int .i64 16, .int .u64 x] w fun e w' => e = .returned (.int .u64 (widh x : Nat)) ∧ Below w.heap.size w w' := by
  have g := hide g
  go_enter Tryd.func22, Tryd.ntmps22
  go_wp2_with (go_at_call 10; refine (widen16_any x _ g.out hx).mono ?_; rintro e w1 ⟨rfl, hB1⟩)
  go_ret
  exact ⟨rfl, hB1⟩
theorem back32 (x : Nat) (w : World) (g : Gl w) (hx : x < 4294967296) :
    Calls Tryd.prog 22 #[.int .i64 32, .int .u64 x] w fun e w' => e = .returned (.int .u64 (wids x : Nat)) ∧ Below w.heap.size w w' := by
  have g := hide g
  go_enter Tryd.func22, Tryd.ntmps22
  go_wp2_with (go_at_call 12; refine (widen32_any x _ g.out hx).mono ?_; rintro e w1 ⟨rfl, hB1⟩)
  go_ret
  exact ⟨rfl, hB1⟩
theorem back64 (x : Nat) (w : World) :
    Calls Tryd.prog 22 #[.int .i64 64, .int .u64 x] w fun e w' => e = .returned (.int .u64 (x : Nat)) ∧ Below w.heap.size w w' := by
  go_enter Tryd.func22, Tryd.ntmps22
  go_wp2
  go_ret
  exact ⟨rfl, Below.refl _ _⟩
/-- Narrow's answer, widened again, is what it was. -/
theorem nrw_back (x : Nat) (hx : x < 18446744073709551616) : ∃ n a : Nat, nrw x = (n, a) ∧ (n = 16 ∨ n = 32 ∨ n = 64) ∧ ∀ w, Gl w → Calls Tryd.prog 22 #[.int .i64 n, .int .u64 a] w fun e w' => e = .returned (.int .u64 (x : Nat)) ∧ Below w.heap.size w w' := by
  by_cases c1 : widh (narh x) = x
  · refine ⟨16, narh x, by unfold nrw; rw [if_pos c1], Or.inl rfl, fun w g => ?_⟩
    have := back16 (narh x) w g (narh_lt x hx)
    rw [c1] at this
    exact this
  by_cases c2 : wids (nars x) = x
  · refine ⟨32, nars x, by unfold nrw; rw [if_neg c1, if_pos c2], Or.inr (Or.inl rfl), fun w g => ?_⟩
    have := back32 (nars x) w g (nars_lt x hx)
    rw [c2] at this
    exact this
  · exact ⟨64, x, by unfold nrw; rw [if_neg c1, if_neg c2], Or.inr (Or.inr rfl), fun w g => back64 x w⟩
theorem nrw_widh (h : Nat) (hh : h < 65536) : nrw (widh h) = (16, h) := by
  unfold nrw
  rw [nar_widh h hh, if_pos rfl]
theorem nrw_wids (s : Nat) (hs : s < 4294967296) : (∃ a, nrw (wids s) = (16, a)) ∨ nrw (wids s) = (32, s) := by
  unfold nrw
  rw [nar_wids s hs]
  by_cases c : widh (narh (wids s)) = wids s
  · rw [if_pos c]; exact Or.inl ⟨_, rfl⟩
  · rw [if_neg c, if_pos rfl]; exact Or.inr rfl
theorem widh_lt (h : Nat) (hh : h < 65536) : widh h < 18446744073709551616 := by
  obtain ⟨E, F, h1, h2, h3⟩ := widh_fields h hh
  rw [h2]; omega
theorem wids_lt (h : Nat) (hh : h < 4294967296) : wids h < 18446744073709551616 := by
  obtain ⟨E, F, h1, h2, h3⟩ := wids_fields h hh
  rw [h2]; omega
set_option maxHeartbeats 1000000 in
theorem round_any (x h s : Nat) (w : World) (g : Gl w) (hx : x < 18446744073709551616) (hh : h < 65536) (hs : s < 4294967296) :
    Calls Tryd.prog 6 #[.int .u64 x, .int .u16 h, .int .u32 s] w fun e w' => e = .returned (.bool true) ∧ Below w.heap.size w w' := by
  obtain ⟨n, a, h1, hn, hb⟩ := nrw_back x hx
  obtain ⟨k, z, h2, hk, hz⟩ := nrw_back (wids s) (wids_lt s hs)
  have hzs : Hid (k = 16 ∨ (k = 32 ∧ z = s)) := by
    show k = 16 ∨ (k = 32 ∧ z = s)
    rcases nrw_wids s hs with ⟨a', e⟩ | e
    · rw [e] at h2
      exact Or.inl (congrArg Prod.fst h2).symm
    · rw [e] at h2
      exact Or.inr ⟨(congrArg Prod.fst h2).symm, (congrArg Prod.snd h2).symm⟩
  have g := hide g
  have H1 := hide h1
  have H2 := hide h2
  have H3 := hide (nrw_widh h hh)
  have hwl := hide (widh_lt h hh)
  have hsl := hide (wids_lt s hs)
  have Hb := hide hb
  have Hz := hide hz
  clear h1 h2 hb hz hk
  rcases hn with rfl | rfl | rfl
  all_goals
    rcases hzs.out with rfl | ⟨rfl, rfl⟩
    all_goals
      clear hzs
      go_enter Tryd.func6, Tryd.ntmps6
      go_wp2_with fail
      refine (narrow_any x _ g.out hx).mono ?_
      rintro e w1 ⟨rfl, hB1⟩
      rw [H1.out]
      have G1 := hide (g.out.below hB1)
      go_wp2_with fail
      refine (Hb.out _ G1.out).mono ?_
      rintro e w2 ⟨rfl, hB2⟩
      have G2 := hide (G1.out.below hB2)
      go_wp2_with fail
      refine (widen16_any h _ G2.out hh).mono ?_
      rintro e w3 ⟨rfl, hB3⟩
      have G3 := hide (G2.out.below hB3)
      go_wp2_with fail
      refine (narrow_any (widh h) _ G3.out hwl.out).mono ?_
      rintro e w4 ⟨rfl, hB4⟩
      rw [H3.out]
      have G4 := hide (G3.out.below hB4)
      go_wp2_with fail
      refine (widen32_any _ _ G4.out hs).mono ?_
      rintro e w5 ⟨rfl, hB5⟩
      have G5 := hide (G4.out.below hB5)
      go_wp2_with fail
      refine (narrow_any _ _ G5.out hsl.out).mono ?_
      rintro e w6 ⟨rfl, hB6⟩
      rw [H2.out]
      have G6 := hide (G5.out.below hB6)
      go_wp2_with fail
      refine (awake_any _ G6.out).mono ?_
      rintro e w7 ⟨rfl, hB7⟩
      have G7 := hide (G6.out.below hB7)
      go_wp2_with fail
      refine (Hz.out _ G7.out).mono ?_
      rintro e w8 ⟨rfl, hB8⟩
      have G8 := hide (G7.out.below hB8)
      go_wp2_with fail
      refine (widen32_any _ _ G8.out hs).mono ?_
      rintro e w9 ⟨rfl, hB9⟩
      go_wp2
      go_ret
      exact ⟨rfl, below_then (below_then (below_then (below_then (below_then (below_then (below_then (below_then hB1 hB2) hB3) hB4) hB5) hB6) hB7) hB8) hB9⟩
end Go.Proofs.YtjlhningaijneaaDoor
