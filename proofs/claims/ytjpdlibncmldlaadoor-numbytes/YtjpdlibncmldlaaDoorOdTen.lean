/- num.tenfold: walked. -/
import Derived.Test.YtjpdlibncmldlaaDoorNmMath
import Derived.Test.YtjpdlibncmldlaaDoorNeArr
import Derived.Test.YtjpdlibncmldlaaDoorRows
import Derived.WalkKit
import Derived.WalkSpells
import Derived.WalkLawsBesides
import Derived.Outline
namespace Go.Proofs.YtjpdlibncmldlaaDoor
open Go.RowKit
set_option linter.unusedSimpArgs false
set_option linter.unusedVariables false
/-- What a row of bytes, the highest first, is worth. -/
def v256 : List Nat → Nat
  | [] => 0
  | d :: l => d * 256 ^ l.length + v256 l
/-- All are bytes. -/
def Bts (l : List Nat) : Prop := ∀ d ∈ l, d ≤ 255
theorem v256_lt (l : List Nat) (h : Bts l) : v256 l < 256 ^ l.length := by
  induction l with
  | nil => simp [v256]
  | cons d l ih =>
    have h1 : d ≤ 255 := h d (by simp)
    have := ih (fun x hx => h x (by simp [hx]))
    simp only [v256, List.length_cons, Nat.pow_succ]
    have h3 : d * 256 ^ l.length ≤ 255 * 256 ^ l.length := Nat.mul_le_mul_right _ h1
    omega
theorem v256_drop_succ (p : List Nat) (n i : Nat) (hn : p.length = n) (hi : i < n) : v256 (p.drop (n - (i + 1))) = p[n - 1 - i]'(by omega) * 256 ^ i + v256 (p.drop (n - i)) := by
  have h1 : n - (i + 1) < p.length := by omega
  rw [List.drop_eq_getElem_cons h1]
  simp only [v256]
  rw [show n - (i + 1) + 1 = n - i by omega, List.length_drop, show p.length - (n - i) = i by omega]
  congr 2
  congr 1
  omega
theorem v256_zeros (n : Nat) : v256 (List.replicate n 0) = 0 := by
  induction n with
  | zero => rfl
  | succ n ih => simp [List.replicate_succ, v256, ih]
/-- Ahead of round k of tenfold. -/
def TInv (P0 : List Nat) (c0 : Nat) (P : List Nat) (c k : Nat) : Prop :=
  P.length = 17 ∧ Bts P ∧ c ≤ 9 ∧ P.take (17 - k) = P0.take (17 - k) ∧ v256 (P.drop (17 - k)) + c * 256 ^ k = v256 (P0.drop (17 - k)) * 10 + c0
theorem TInv.start {P0 : List Nat} (c0 : Nat) (h : P0.length = 17) (hb : Bts P0) (hc : c0 ≤ 9) : TInv P0 c0 P0 c0 0 := by
  refine ⟨h, hb, hc, rfl, ?_⟩
  rw [Nat.sub_zero, List.drop_of_length_le (by omega)]; simp [v256]
theorem TInv.step {P0 P : List Nat} {c0 c k : Nat} (h0 : P0.length = 17) (h : TInv P0 c0 P c k) (hk : k < 17) (q : Nat) (hq : P[16 - k]'(by have := h.1; omega) = q) :
    TInv P0 c0 (P.set (16 - k) ((c + q * 10) % 256)) ((c + q * 10) / 256) (k + 1) := by
  obtain ⟨h1, h2, h3, h4, h5⟩ := h
  have hq9 : q ≤ 255 := by rw [← hq]; exact h2 _ (List.getElem_mem _)
  have hq0 : P0[16 - k]'(by omega) = q := by rw [← hq]; exact (take_get h4 (by omega) (by omega) (by omega)).symm
  have hdrop : (P.set (16 - k) ((c + q * 10) % 256)).drop (17 - (k + 1)) = (c + q * 10) % 256 :: P.drop (17 - k) := by
    rw [show 17 - (k + 1) = 16 - k by omega, List.drop_eq_getElem_cons (by simp; omega), List.getElem_set_self, List.drop_set_of_lt (by omega), show 16 - k + 1 = 17 - k by omega]
  have hl : (P.drop (17 - k)).length = k := by rw [List.length_drop]; omega
  have hP0 : v256 (P0.drop (17 - (k + 1))) = P0[16 - k]'(by omega) * 256 ^ k + v256 (P0.drop (17 - k)) := v256_drop_succ P0 17 k h0 hk
  refine ⟨by simpa using h1, ?_, by omega, ?_, ?_⟩
  · intro d hd
    rcases List.mem_or_eq_of_mem_set hd with h | h
    · exact h2 d h
    · omega
  · rw [show 17 - (k + 1) = 16 - k by omega, List.take_set_of_le (by omega)]
    exact take_less h4 (by omega)
  · rw [hdrop, v256, hl, hP0, hq0, Nat.pow_succ]
    have e : (c + q * 10) % 256 + 256 * ((c + q * 10) / 256) = c + q * 10 := Nat.mod_add_div _ _
    have e' := congrArg (· * 256 ^ k) e
    simp only [Nat.add_mul, Nat.mul_assoc] at e'
    rw [show (c + q * 10) / 256 * (256 ^ k * 256) = 256 * ((c + q * 10) / 256 * 256 ^ k) by rw [← Nat.mul_assoc, Nat.mul_comm]]
    rw [show q * (10 * 256 ^ k) = 10 * (q * 256 ^ k) by rw [← Nat.mul_assoc, Nat.mul_comm q 10, Nat.mul_assoc]] at e'
    rw [Nat.add_mul]
    rw [show q * 256 ^ k * 10 = 10 * (q * 256 ^ k) by rw [Nat.mul_comm]]
    omega
theorem TInv.done {P0 P : List Nat} {c0 c : Nat} (h : TInv P0 c0 P c 17) (hb : v256 P0 * 10 + c0 < 256 ^ 17) : P.length = 17 ∧ Bts P ∧ v256 P = v256 P0 * 10 + c0 := by
  obtain ⟨h1, h2, h3, h4, h5⟩ := h
  rw [Nat.sub_self, List.drop_zero, List.drop_zero] at h5
  refine ⟨h1, h2, ?_⟩
  rcases Nat.eq_zero_or_pos c with hc | hc
  · subst hc; omega
  · have : 1 * 256 ^ 17 ≤ c * 256 ^ 17 := Nat.mul_le_mul_right _ hc
    omega
set_option maxHeartbeats 1000000 in
theorem tenfold_any (b : Nat) (T : TypeId) (P0 : List Nat) (c0 : Int) (w : World) (hA : Arr w b T P0) (h0 : P0.length = 17) (hb0 : Bts P0) (hc0 : 0 ≤ c0) (hc9 : c0 ≤ 9) (hlt : v256 P0 * 10 + c0.toNat < 256 ^ 17) :
    Calls Tryd.prog 53 #[.pointer (some ⟨b, 0, none⟩), .int .i64 c0] w fun e w' => e = .returned (.tuple #[]) ∧ ∃ P, P.length = 17 ∧ Bts P ∧ v256 P = v256 P0 * 10 + c0.toNat ∧ Arr w' b T P ∧ Only b w w' := by
  obtain ⟨c0, rfl⟩ := Int.eq_ofNat_of_zero_le hc0
  rw [Int.toNat_natCast] at hlt ⊢
  have hA := hide hA
  have hb0 := hide hb0
  have hlt := hide hlt
  have h0 := hide h0
  go_enter Tryd.func53, Tryd.ntmps53
  go_wp2
  go_loopw [1, 4] (fun c i w' => ∃ (P : List Nat) (ci k : Nat), c = .int .i64 ci ∧ i = .int .i64 (16 - (k : Int)) ∧ k ≤ 17 ∧ Hid (TInv P0 c0 P ci k) ∧ Hid (Arr w' b T P) ∧ Hid (Only b w w')) (fun _ i _ => (intOf i + 1).toNat)
  case atStart => exact ⟨P0, c0, 0, rfl, rfl, by omega, TInv.start c0 h0.out hb0.out (by omega), hA.out, Only.refl _ _⟩
  case round =>
    obtain ⟨P, ci, k, rfl, rfl, hk, hM, hAr, hO⟩ := hrel
    have hPl := hide hM.out.1
    have hc1 := hM.out.2.2.1
    by_cases hk7 : k < 17
    · have hcell := hAr.out.cell (16 - k) (by have := hPl.out; omega)
      have hfz := hAr.out.frozen (16 - k)
      have hq9 : P[16 - k]'(by have := hPl.out; omega) ≤ 255 := hM.out.2.1 _ (List.getElem_mem _)
      obtain ⟨q, hq⟩ : ∃ q, P[16 - k]'(by have := hPl.out; omega) = q := ⟨_, rfl⟩
      rw [hq] at hcell hq9
      have hst := hide (TInv.step h0.out hM.out hk7 q hq)
      clear hq
      have ei : (16 - (k : Int)).toNat = 16 - k := by omega
      have hi0 : (0 : Int) ≤ 16 - (k : Int) := by omega
      go_wp2
      refine ⟨⟨P.set (16 - k) ((ci + q * 10) % 256), (ci + q * 10) / 256, k + 1, ?_, ?_, by omega, hst.out, ?_, ?_⟩, by simp [intOf]; omega⟩
      · show Value.int _ _ = Value.int _ _
        first | (congr 1; done) | (congr 1; omega)
      · show Value.int _ _ = Value.int _ _
        first | (congr 1; done) | (congr 1; omega)
      · show Arr _ _ _ _
        rw [show ((ci : Int) + (q : Int) * 10) % 256 = (((ci + q * 10) % 256 : Nat) : Int) by omega]
        exact hAr.out.set _ _
      · exact hO.out.set _ _
    · have hk17 : k = 17 := by omega
      subst hk17
      have hfin := hide (TInv.done hM.out hlt.out)
      go_wp2
      go_end0
      exact ⟨rfl, P, hfin.out.1, hfin.out.2.1, hfin.out.2.2, hAr.out, hO.out⟩
end Go.Proofs.YtjpdlibncmldlaaDoor
