/- num.scaleUp, num.Of: walked. -/
import Derived.Test.YtjpdlibncmldlaaDoorOfBytes
import Derived.Test.YtjpdlibncmldlaaDoorRoRound
namespace Go.Proofs.YtjpdlibncmldlaaDoor
open Go.RowKit
set_option linter.unusedSimpArgs false
set_option linter.unusedVariables false
/-- Ahead of round k of scaleUp's first loop: the last k digits are done. -/
def UInv (P0 : List Nat) (c0 : Nat) (P : List Nat) (c k : Nat) : Prop :=
  P.length = 441 ∧ Dgs P ∧ c ≤ 255 ∧ P.take (441 - k) = P0.take (441 - k) ∧ val (P.drop (441 - k)) + c * 10 ^ k = val (P0.drop (441 - k)) * 256 + c0
theorem UInv.start {P0 : List Nat} (c0 : Nat) (h : P0.length = 441) (hb : Dgs P0) (hc : c0 ≤ 255) : UInv P0 c0 P0 c0 0 := by
  refine ⟨h, hb, hc, rfl, ?_⟩
  rw [Nat.sub_zero, List.drop_of_length_le (by omega)]; simp [val]
theorem UInv.step {P0 P : List Nat} {c0 c k : Nat} (h0 : P0.length = 441) (h : UInv P0 c0 P c k) (hk : k < 441) (q : Nat) (hq : P[440 - k]'(by have := h.1; omega) = q) :
    UInv P0 c0 (P.set (440 - k) ((c + q * 256) % 10)) ((c + q * 256) / 10) (k + 1) := by
  obtain ⟨h1, h2, h3, h4, h5⟩ := h
  have hq9 : q ≤ 9 := by rw [← hq]; exact h2 _ (List.getElem_mem _)
  have hq0 : P0[440 - k]'(by omega) = q := by rw [← hq]; exact (take_get h4 (by omega) (by omega) (by omega)).symm
  have hdrop : (P.set (440 - k) ((c + q * 256) % 10)).drop (441 - (k + 1)) = (c + q * 256) % 10 :: P.drop (441 - k) := by
    rw [show 441 - (k + 1) = 440 - k by omega, List.drop_eq_getElem_cons (by simp; omega), List.getElem_set_self, List.drop_set_of_lt (by omega), show 440 - k + 1 = 441 - k by omega]
  have hl : (P.drop (441 - k)).length = k := by rw [List.length_drop]; omega
  have hP0 : val (P0.drop (441 - (k + 1))) = P0[440 - k]'(by omega) * 10 ^ k + val (P0.drop (441 - k)) := val_drop_succ P0 441 k h0 hk
  refine ⟨by simpa using h1, ?_, by omega, ?_, ?_⟩
  · intro d hd
    rcases List.mem_or_eq_of_mem_set hd with h | h
    · exact h2 d h
    · omega
  · rw [show 441 - (k + 1) = 440 - k by omega, List.take_set_of_le (by omega)]
    exact take_less h4 (by omega)
  · rw [hdrop, val, hl, hP0, hq0, Nat.pow_succ]
    have e : (c + q * 256) % 10 + 10 * ((c + q * 256) / 10) = c + q * 256 := Nat.mod_add_div _ _
    have e' := congrArg (· * 10 ^ k) e
    simp only [Nat.add_mul, Nat.mul_assoc] at e'
    rw [show (c + q * 256) / 10 * (10 ^ k * 10) = 10 * ((c + q * 256) / 10 * 10 ^ k) by rw [← Nat.mul_assoc, Nat.mul_comm]]
    rw [show q * (256 * 10 ^ k) = 256 * (q * 10 ^ k) by rw [← Nat.mul_assoc, Nat.mul_comm q 256, Nat.mul_assoc]] at e'
    rw [Nat.add_mul]
    rw [show q * 10 ^ k * 256 = 256 * (q * 10 ^ k) by rw [Nat.mul_comm]]
    omega
/-- Ahead of a round of scaleUp's second loop. -/
def WInv (P0 : List Nat) (V : Nat) (P : List Nat) (c f : Nat) : Prop :=
  P.length = 441 ∧ Dgs P ∧ c ≤ 255 ∧ f ≤ 441 ∧ P.take f = P0.take f ∧ val (P.drop f) + c * 10 ^ (441 - f) = V
theorem WInv.step {P0 P : List Nat} {V c f : Nat} (h : WInv P0 V P c f) (hf : 0 < f) : WInv P0 V (P.set (f - 1) (c % 10)) (c / 10) (f - 1) := by
  obtain ⟨h1, h2, h3, h4, h5, h6⟩ := h
  have hdrop : (P.set (f - 1) (c % 10)).drop (f - 1) = c % 10 :: P.drop f := by
    rw [List.drop_eq_getElem_cons (by simp; omega), List.getElem_set_self, List.drop_set_of_lt (by omega), show f - 1 + 1 = f by omega]
  have hl : (P.drop f).length = 441 - f := by rw [List.length_drop]; omega
  refine ⟨by simpa using h1, ?_, by omega, by omega, ?_, ?_⟩
  · intro d hd
    rcases List.mem_or_eq_of_mem_set hd with h | h
    · exact h2 d h
    · omega
  · rw [List.take_set_of_le (by omega)]
    exact take_less h5 (by omega)
  · rw [hdrop, val, hl, show 441 - (f - 1) = (441 - f) + 1 by omega, Nat.pow_succ, ← h6]
    have e : c % 10 + 10 * (c / 10) = c := Nat.mod_add_div _ _
    have e' := congrArg (· * 10 ^ (441 - f)) e
    simp only [Nat.add_mul, Nat.mul_assoc] at e'
    rw [show c / 10 * (10 ^ (441 - f) * 10) = 10 * (c / 10 * 10 ^ (441 - f)) by rw [← Nat.mul_assoc, Nat.mul_comm]]
    omega
/-- A number of at most 441 digits. -/
def Fits (V : Nat) : Prop := ∀ m, m = 441 → V < 10 ^ m
theorem Fits.le {V U : Nat} (h : Fits V) (hU : U ≤ V) : Fits U := fun m hm => Nat.lt_of_le_of_lt hU (h m hm)
theorem fits_aux (x y z : Nat) (hx : x = 61) (hy : y = 147) (hz : z = 3) : 256 ^ (x * z) < 10 ^ (y * z) := by
  rw [Nat.pow_mul, Nat.pow_mul]
  exact Nat.pow_lt_pow_left (by subst hx hy; decide) (by omega)
theorem fits_bytes {V k : Nat} (hk : k ≤ 183) (h : V < 256 ^ k) : Fits V := by
  intro m hm
  obtain ⟨x, hx⟩ : ∃ x, x = 61 := ⟨_, rfl⟩
  obtain ⟨y, hy⟩ : ∃ y, y = 147 := ⟨_, rfl⟩
  obtain ⟨z, hz⟩ : ∃ z, z = 3 := ⟨_, rfl⟩
  have h2 := fits_aux x y z hx hy hz
  have h1 : (256 : Nat) ^ k ≤ 256 ^ (x * z) := Nat.pow_le_pow_right (by decide) (by subst hx hz; omega)
  have hmy : m = y * z := by subst hy hz; exact hm
  rw [hmy]
  exact Nat.lt_of_lt_of_le h (Nat.le_trans h1 (Nat.le_of_lt h2))
theorem WInv.more {P0 P : List Nat} {V c f : Nat} (h : WInv P0 V P c f) (hV : Fits V) (hc : 0 < c) : 0 < f := by
  obtain ⟨h1, h2, h3, h4, h5, h6⟩ := h
  rcases Nat.eq_zero_or_pos f with e | e
  · subst e
    obtain ⟨m, hm⟩ : ∃ m, m = 441 := ⟨_, rfl⟩
    have hV := hV m hm
    rw [show 441 - 0 = m by omega] at h6
    have : 1 * 10 ^ m ≤ c * 10 ^ m := Nat.mul_le_mul_right _ hc
    omega
  · exact e
theorem UInv.done {P0 P : List Nat} {c0 c f : Nat} (h : UInv P0 c0 P c (441 - f)) (hf : f ≤ 441) : WInv P0 (val (P0.drop f) * 256 + c0) P c f := by
  obtain ⟨h1, h2, h3, h4, h5⟩ := h
  rw [show 441 - (441 - f) = f by omega] at h4 h5
  exact ⟨h1, h2, h3, hf, h4, h5⟩
set_option maxHeartbeats 1000000 in
set_option maxRecDepth 100000 in
theorem scaleUp_any (b : Nat) (T : TypeId) (P0 : List Nat) (f0 c0 : Nat) (w : World) (hA : Arr w b T P0) (h0 : P0.length = 441) (hb0 : Dgs P0) (hf0 : f0 ≤ 441) (hc0 : c0 ≤ 255) (hV : Fits (val (P0.drop f0) * 256 + c0)) :
    Calls Tryd.prog 52 #[.slice (some ⟨b, 0, none⟩) 441 441, .int .i64 f0, .int .i64 c0] w fun e w' => ∃ (P : List Nat) (f : Nat), e = .returned (.int .i64 f) ∧ Hid (WInv P0 (val (P0.drop f0) * 256 + c0) P 0 f) ∧ Hid (Arr w' b T P) ∧ Hid (Only b w w') := by
  have hA := hide hA
  have hb0 := hide hb0
  have hV := hide hV
  have h0 := hide h0
  go_enter Tryd.func52, Tryd.ntmps52
  go_wp2
  go_loopw [2, 7] (fun c i w' => ∃ (P : List Nat) (ci k : Nat), c = .int .i64 ci ∧ i = .int .i64 (440 - (k : Int)) ∧ k ≤ 441 - f0 ∧ Hid (UInv P0 c0 P ci k) ∧ Hid (Arr w' b T P) ∧ Hid (Only b w w')) (fun _ i _ => (intOf i + 1).toNat)
  case atStart => exact ⟨P0, c0, 0, rfl, rfl, by omega, UInv.start c0 h0.out hb0.out hc0, hA.out, Only.refl _ _⟩
  case round =>
    obtain ⟨P, ci, k, rfl, rfl, hk, hM, hAr, hO⟩ := hrel
    have hPl := hide hM.out.1
    have hc1 := hM.out.2.2.1
    by_cases hk7 : k < 441 - f0
    · have hcell := hAr.out.cell (440 - k) (by have := hPl.out; omega)
      have hfz := hAr.out.frozen (440 - k)
      have hq9 : P[440 - k]'(by have := hPl.out; omega) ≤ 9 := hM.out.2.1 _ (List.getElem_mem _)
      obtain ⟨q, hq⟩ : ∃ q, P[440 - k]'(by have := hPl.out; omega) = q := ⟨_, rfl⟩
      rw [hq] at hcell hq9
      have hst := hide (UInv.step h0.out hM.out (by omega) q hq)
      clear hq
      have ei : (440 - (k : Int)).toNat = 440 - k := by omega
      have hi0 : (f0 : Int) ≤ 440 - (k : Int) := by omega
      go_wp2
      refine ⟨⟨P.set (440 - k) ((ci + q * 256) % 10), (ci + q * 256) / 10, k + 1, ?_, ?_, by omega, hst.out, ?_, ?_⟩, by simp [intOf]; omega⟩
      · show Value.int _ _ = Value.int _ _
        first | (congr 1; done) | (congr 1; omega)
      · show Value.int _ _ = Value.int _ _
        first | (congr 1; done) | (congr 1; omega)
      · show Arr _ _ _ _
        first
          | exact hAr.out.set _ _
          | (rw [show ((ci : Int) + (q : Int) * 256) % 10 = (((ci + q * 256) % 10 : Nat) : Int) by omega]; exact hAr.out.set _ _)
      · exact hO.out.set _ _
    · have hkf : k = 441 - f0 := by omega
      subst hkf
      have hW := hide (UInv.done hM.out hf0)
      have hno : ¬ ((f0 : Int) ≤ 440 - ((441 - f0 : Nat) : Int)) := by omega
      clear hM
      go_wp2
      go_loopw [1, 2] (fun f c w' => ∃ (P : List Nat) (fi ci : Nat), f = .int .i64 fi ∧ c = .int .i64 ci ∧ fi ≤ 441 ∧ ci ≤ 255 ∧ Hid (WInv P0 (val (P0.drop f0) * 256 + c0) P ci fi) ∧ Hid (Arr w' b T P) ∧ Hid (Only b w w')) (fun f _ _ => (intOf f).toNat)
      case atStart => exact ⟨P, f0, ci, rfl, rfl, hf0, hc1, hW.out, hAr.out, hO.out⟩
      case round =>
        obtain ⟨P, fi, ci, rfl, rfl, hf1, hc2, hM, hAr, hO⟩ := hrel
        by_cases hcp : 0 < ci
        · have hfp := WInv.more hM.out hV.out hcp
          have hst := hide (WInv.step hM.out hfp)
          have hPl := hide hM.out.1
          have hcell := hAr.out.cell (fi - 1) (by have := hPl.out; omega)
          have hfz := hAr.out.frozen (fi - 1)
          have ei : ((fi : Int) - 1).toNat = fi - 1 := by omega
          go_wp2
          refine ⟨⟨P.set (fi - 1) (ci % 10), fi - 1, ci / 10, ?_, ?_, by omega, by omega, hst.out, ?_, ?_⟩, by simp [intOf]; omega⟩
          · show Value.int _ _ = Value.int _ _
            congr 1; omega
          · show Value.int _ _ = Value.int _ _
            first | (congr 1; done) | (congr 1; omega)
          · show Arr _ _ _ _
            first
              | exact hAr.out.set _ _
              | (rw [show (ci : Int) % 10 = ((ci % 10 : Nat) : Int) by omega]; exact hAr.out.set _ _)
          · exact hO.out.set _ _
        · have hc0' : ci = 0 := by omega
          subst hc0'
          go_wp2
          go_ret
          exact ⟨P, fi, rfl, hM.out, hAr.out, hO.out⟩
end Go.Proofs.YtjpdlibncmldlaaDoor
