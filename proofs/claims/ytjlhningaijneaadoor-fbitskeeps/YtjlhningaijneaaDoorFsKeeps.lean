/- calamuslaw02.FbitsKeeps: walked. -/
import Derived.Test.YtjlhningaijneaaDoorFpLaws
namespace Go.Proofs.YtjlhningaijneaaDoor
open Go.RowKit
set_option linter.unusedSimpArgs false
set_option linter.unusedVariables false
theorem widh_inj {h g : Nat} (hh : h < 65536) (hg : g < 65536) (e : widh h = widh g) : h = g := by rw [← nar_widh h hh, e, nar_widh g hg]
theorem wids_inj {h g : Nat} (hh : h < 4294967296) (hg : g < 4294967296) (e : wids h = wids g) : h = g := by rw [← nar_wids h hh, e, nar_wids g hg]
theorem widh_cls (h : Nat) (hh : h < 65536) : widh h / 9223372036854775808 = h / 32768 ∧ decide (4 ≤ cls (widh h)) = decide (h / 1024 % 32 = 31) ∧ decide (cls (widh h) = 1) = decide (h % 32768 = 0) := by
  obtain ⟨E, F, hF, hw, hc⟩ := widh_fields h hh
  have hE : E < 2048 := by omega
  have e1 : widh h / 9223372036854775808 = h / 32768 := by rw [hw]; omega
  have e2 : widh h / 4503599627370496 % 2048 = E := by rw [hw]; omega
  have e3 : widh h % 4503599627370496 = F := by rw [hw]; omega
  refine ⟨e1, ?_, ?_⟩
  · unfold cls
    rw [e2, e3]
    rcases hc with ⟨h1, h2, h3⟩ | ⟨h1, h2, h3, h4⟩ | ⟨h1, h2, h3, h4, h5, h6⟩ | ⟨h1, h2, h3, h4⟩
    · rw [if_neg (by omega), if_pos h2]
      apply decide_eq_decide.2
      split <;> omega
    · rw [if_pos h3]
      apply decide_eq_decide.2
      split <;> omega
    · rw [if_neg (by omega), if_neg (by omega)]
      apply decide_eq_decide.2
      omega
    · rw [if_neg (by omega), if_neg (by omega)]
      apply decide_eq_decide.2
      omega
  · unfold cls
    rw [e2, e3]
    rcases hc with ⟨h1, h2, h3⟩ | ⟨h1, h2, h3, h4⟩ | ⟨h1, h2, h3, h4, h5, h6⟩ | ⟨h1, h2, h3, h4⟩
    · rw [if_neg (by omega), if_pos h2]
      apply decide_eq_decide.2
      split <;> omega
    · rw [if_pos h3, if_pos h4]
      apply decide_eq_decide.2
      omega
    · rw [if_neg (by omega), if_neg (by omega)]
      apply decide_eq_decide.2
      omega
    · rw [if_neg (by omega), if_neg (by omega)]
      apply decide_eq_decide.2
      omega
theorem wids_cls (h : Nat) (hh : h < 4294967296) : wids h / 9223372036854775808 = h / 2147483648 ∧ decide (4 ≤ cls (wids h)) = decide (h / 8388608 % 256 = 255) ∧ decide (cls (wids h) = 1) = decide (h % 2147483648 = 0) := by
  obtain ⟨E, F, hF, hw, hc⟩ := wids_fields h hh
  have hE : E < 2048 := by omega
  have e1 : wids h / 9223372036854775808 = h / 2147483648 := by rw [hw]; omega
  have e2 : wids h / 4503599627370496 % 2048 = E := by rw [hw]; omega
  have e3 : wids h % 4503599627370496 = F := by rw [hw]; omega
  refine ⟨e1, ?_, ?_⟩
  · unfold cls
    rw [e2, e3]
    rcases hc with ⟨h1, h2, h3⟩ | ⟨h1, h2, h3, h4⟩ | ⟨h1, h2, h3, h4, h5, h6⟩ | ⟨h1, h2, h3, h4⟩
    · rw [if_neg (by omega), if_pos h2]
      apply decide_eq_decide.2
      split <;> omega
    · rw [if_pos h3]
      apply decide_eq_decide.2
      split <;> omega
    · rw [if_neg (by omega), if_neg (by omega)]
      apply decide_eq_decide.2
      omega
    · rw [if_neg (by omega), if_neg (by omega)]
      apply decide_eq_decide.2
      omega
  · unfold cls
    rw [e2, e3]
    rcases hc with ⟨h1, h2, h3⟩ | ⟨h1, h2, h3, h4⟩ | ⟨h1, h2, h3, h4, h5, h6⟩ | ⟨h1, h2, h3, h4⟩
    · rw [if_neg (by omega), if_pos h2]
      apply decide_eq_decide.2
      split <;> omega
    · rw [if_pos h3, if_pos h4]
      apply decide_eq_decide.2
      omega
    · rw [if_neg (by omega), if_neg (by omega)]
      apply decide_eq_decide.2
      omega
    · rw [if_neg (by omega), if_neg (by omega)]
      apply decide_eq_decide.2
      omega
set_option maxHeartbeats 1000000 in
theorem keeps_any (h k s t : Nat) (w : World) (g : Gl w) (hh : h < 65536) (hk : k < 65536) (hs : s < 4294967296) (ht : t < 4294967296) :
    Calls Tryd.prog 7 #[.int .u16 h, .int .u16 k, .int .u32 s, .int .u32 t] w fun e w' => e = .returned (.bool true) ∧ Below w.heap.size w w' := by
  have g := hide g
  obtain ⟨a1, a2, a3⟩ := widh_cls h hh
  obtain ⟨b1, b2, b3⟩ := wids_cls s hs
  have x1 : ((widh h : Nat) : Int) / 9223372036854775808 = (h : Int) / 32768 := by omega
  have y1 : ((wids s : Nat) : Int) / 9223372036854775808 = (s : Int) / 2147483648 := by omega
  have i1 : (((widh h : Nat) : Int) == ((widh k : Nat) : Int)) = ((h : Int) == (k : Int)) := by
    by_cases e : h = k
    · subst e; simp
    · have : widh h ≠ widh k := fun q => e (widh_inj hh hk q)
      rw [show (((widh h : Nat) : Int) == ((widh k : Nat) : Int)) = false by simp; omega, show ((h : Int) == (k : Int)) = false by simp; omega]
  have i2 : (((wids s : Nat) : Int) == ((wids t : Nat) : Int)) = ((s : Int) == (t : Int)) := by
    by_cases e : s = t
    · subst e; simp
    · have : wids s ≠ wids t := fun q => e (wids_inj hs ht q)
      rw [show (((wids s : Nat) : Int) == ((wids t : Nat) : Int)) = false by simp; omega, show ((s : Int) == (t : Int)) = false by simp; omega]
  have m1 : bits .and .u16 ((h : Int) / 1024) 31 = ((h / 1024 % 32 : Nat) : Int) := by
    have := u16_and_nat (h / 1024) 31 (by omega) (by omega)
    rw [nat_mask5] at this
    exact this
  have m2 : bits .and .u32 ((s : Int) / 8388608) 255 = ((s / 8388608 % 256 : Nat) : Int) := by
    have := u32_and_nat (s / 8388608) 255 (by omega) (by omega)
    rw [nat_mask8] at this
    exact this
  have dq : ∀ (a b : Prop) [Decidable a] [Decidable b] (c d : Bool), decide a = decide b → c = decide a → d = decide b → c = d := fun a b _ _ c d h1 h2 h3 => by rw [h2, h3]; exact h1
  have C1 : decide ((4 : Int) ≤ ((cls (widh h) : Nat) : Int)) = ((h : Int) / 1024 % 32 == 31) := dq _ _ _ _ a2 (by apply decide_eq_decide.2; omega) (by rw [Bool.eq_iff_iff]; simp; omega)
  have C2 : decide ((4 : Int) ≤ ((cls (wids s) : Nat) : Int)) = ((s : Int) / 8388608 % 256 == 255) := dq _ _ _ _ b2 (by apply decide_eq_decide.2; omega) (by rw [Bool.eq_iff_iff]; simp; omega)
  have C3 : (IntKind.u16.wrap ((h : Int) * 2) == 0) = (((cls (widh h) : Nat) : Int) == 1) := (dq _ _ _ _ a3 (by rw [Bool.eq_iff_iff]; simp; omega) (by rw [IntKind.wrap_u16, Bool.eq_iff_iff]; simp; omega)).symm
  have C4 : (IntKind.u32.wrap ((s : Int) * 2) == 0) = (((cls (wids s) : Nat) : Int) == 1) := (dq _ _ _ _ b3 (by rw [Bool.eq_iff_iff]; simp; omega) (by rw [IntKind.wrap_u32', Bool.eq_iff_iff]; simp; omega)).symm
  clear dq
  have WL := hide (widh_lt h hh)
  have SL := hide (wids_lt s hs)
  clear a1 a2 a3 b1 b2 b3
  go_enter Tryd.func7, Tryd.ntmps7
  go_wp2_with fail
  refine (widen16_any h _ g.out hh).mono ?_
  rintro e w1 ⟨rfl, hB1⟩
  have G1 := hide (g.out.below hB1)
  go_wp2_with fail
  refine (widen32_any s _ G1.out hs).mono ?_
  rintro e w2 ⟨rfl, hB2⟩
  have G2 := hide (G1.out.below hB2)
  go_wp2_with fail
  refine (widen16_any k _ G2.out hk).mono ?_
  rintro e w3 ⟨rfl, hB3⟩
  have G3 := hide (G2.out.below hB3)
  go_wp2_with fail
  refine (widen32_any t _ G3.out ht).mono ?_
  rintro e w4 ⟨rfl, hB4⟩
  have G4 := hide (G3.out.below hB4)
  go_wp2_with fail
  refine (awake_any _ G4.out).mono ?_
  rintro e w5 ⟨rfl, hB5⟩
  have G5 := hide (G4.out.below hB5)
  go_wp2_with fail
  refine (class_any (widh h) _ G5.out WL.out).mono ?_
  rintro e w6 ⟨rfl, hB6⟩
  have G6 := hide (G5.out.below hB6)
  go_wp2_with fail
  refine (class_any (wids s) _ G6.out SL.out).mono ?_
  rintro e w7 ⟨rfl, hB7⟩
  have G7 := hide (G6.out.below hB7)
  go_wp2_with fail
  refine (class_any (widh h) _ G7.out WL.out).mono ?_
  rintro e w8 ⟨rfl, hB8⟩
  have G8 := hide (G7.out.below hB8)
  go_wp2_with fail
  refine (class_any (wids s) _ G8.out SL.out).mono ?_
  rintro e w9 ⟨rfl, hB9⟩
  go_wp2
  go_ret
  exact ⟨ret_bool (by rw [IntKind.wrap_u32'] at C4; simp [C4]), below_then (below_then (below_then (below_then (below_then (below_then (below_then (below_then hB1 hB2) hB3) hB4) hB5) hB6) hB7) hB8) hB9⟩
end Go.Proofs.YtjlhningaijneaaDoor
