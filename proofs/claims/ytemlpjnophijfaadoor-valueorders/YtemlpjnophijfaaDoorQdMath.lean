/- Sums and differences of rows of digits, one by one: no program in sight. -/
import Derived.Test.YtemlpjnophijfaaDoorQbZeros
namespace Go.Proofs.YtemlpjnophijfaaDoor
open Go.RowKit
set_option linter.unusedSimpArgs false
set_option linter.unusedVariables false
/-- What plus knows behind k digits. -/
structure PInv (a b : List Nat) (n k : Nat) (l : List Nat) (c : Nat) : Prop where
  len : l.length = k
  dgs : Dgs l
  le : c ≤ 1
  eq : val l + c * 10 ^ k = val (a.drop (n - k)) + val (b.drop (n - k))
theorem Dgs.put {d : Nat} {l : List Nat} (h : d ≤ 9) (hl : Dgs l) : Dgs (d :: l) := by
  intro x hx
  rcases List.mem_cons.1 hx with e | e
  · rw [e]; exact h
  · exact hl x e
theorem PInv.start (a b : List Nat) (n : Nat) (ha : a.length = n) (hb : b.length = n) : PInv a b n 0 [] 0 := by
  refine ⟨rfl, fun x hx => by simp at hx, by omega, ?_⟩
  rw [List.drop_of_length_le (by omega), List.drop_of_length_le (by omega)]
  simp [val]
theorem PInv.step {a b : List Nat} {n k : Nat} {l : List Nat} {c : Nat} (h : PInv a b n k l c) (hda : Dgs a) (hdb : Dgs b) (ha : a.length = n) (hb : b.length = n) (hk : k < n) (x y : Nat) (hx : a[n - 1 - k]'(by omega) = x) (hy : b[n - 1 - k]'(by omega) = y) (v : Nat) (hv : v = x + y + c) :
    PInv a b n (k + 1) ((v % 10) :: l) (v / 10) := by
  have h1 := val_drop_succ a n k ha hk
  have h2 := val_drop_succ b n k hb hk
  rw [hx] at h1
  rw [hy] at h2
  have hx9 : x ≤ 9 := by rw [← hx]; exact hda _ (List.getElem_mem _)
  have hy9 : y ≤ 9 := by rw [← hy]; exact hdb _ (List.getElem_mem _)
  have hc := h.le
  refine ⟨by simp [h.len], h.dgs.put (by omega), by omega, ?_⟩
  have e := h.eq
  rw [h1, h2]
  show (v % 10) * 10 ^ l.length + val l + _ = _
  rw [h.len]
  have e3 : (10 * (v / 10) + v % 10) * 10 ^ k = (x + y + c) * 10 ^ k := by rw [Nat.div_add_mod, hv]
  rw [Nat.add_mul, Nat.add_mul, Nat.add_mul, Nat.mul_right_comm] at e3
  have e4 : v / 10 * 10 ^ (k + 1) = 10 * 10 ^ k * (v / 10) := by rw [Nat.pow_succ, Nat.mul_comm, Nat.mul_comm (10 ^ k)]
  rw [e4]
  omega
theorem PInv.done {a b : List Nat} {n : Nat} {l : List Nat} {c : Nat} (h : PInv a b n n l c) : val (if 0 < c then 1 :: l else l) = val a + val b ∧ Dgs (if 0 < c then 1 :: l else l) ∧ (if 0 < c then 1 :: l else l).length ≤ n + 1 := by
  have e := h.eq
  rw [Nat.sub_self, List.drop_zero, List.drop_zero] at e
  have hc := h.le
  by_cases h0 : 0 < c
  · rw [if_pos h0]
    have : c = 1 := by omega
    subst this
    refine ⟨?_, h.dgs.put (by omega), by simp [h.len]⟩
    show 1 * 10 ^ l.length + val l = _
    rw [h.len]; omega
  · rw [if_neg h0]
    have : c = 0 := by omega
    subst this
    exact ⟨by omega, h.dgs, by rw [h.len]; omega⟩
/-- What minus knows behind k digits. -/
structure SInv (a b : List Nat) (n k : Nat) (l : List Nat) (o : Nat) : Prop where
  len : l.length = k
  dgs : Dgs l
  le : o ≤ 1
  eq : val l + val (b.drop (n - k)) = val (a.drop (n - k)) + o * 10 ^ k
theorem SInv.start (a b : List Nat) (n : Nat) (ha : a.length = n) (hb : b.length = n) : SInv a b n 0 [] 0 := by
  refine ⟨rfl, fun x hx => by simp at hx, by omega, ?_⟩
  rw [List.drop_of_length_le (by omega), List.drop_of_length_le (by omega)]
  simp [val]
theorem SInv.step {a b : List Nat} {n k : Nat} {l : List Nat} {o : Nat} (h : SInv a b n k l o) (hda : Dgs a) (hdb : Dgs b) (ha : a.length = n) (hb : b.length = n) (hk : k < n) (x y : Nat) (hx : a[n - 1 - k]'(by omega) = x) (hy : b[n - 1 - k]'(by omega) = y) (v : Nat) (hv : v + y + o = x + 10) :
    SInv a b n (k + 1) ((v % 10) :: l) (1 - v / 10) := by
  have h1 := val_drop_succ a n k ha hk
  have h2 := val_drop_succ b n k hb hk
  rw [hx] at h1
  rw [hy] at h2
  have hx9 : x ≤ 9 := by rw [← hx]; exact hda _ (List.getElem_mem _)
  have hy9 : y ≤ 9 := by rw [← hy]; exact hdb _ (List.getElem_mem _)
  have hc := h.le
  refine ⟨by simp [h.len], h.dgs.put (by omega), by omega, ?_⟩
  have e := h.eq
  rw [h1, h2]
  show (v % 10) * 10 ^ l.length + val l + _ = _
  rw [h.len]
  have e3 : (10 * (v / 10) + v % 10) * 10 ^ k + y * 10 ^ k + o * 10 ^ k = (x + 10) * 10 ^ k := by rw [Nat.div_add_mod, ← Nat.add_mul, ← Nat.add_mul, hv]
  rw [Nat.add_mul, Nat.add_mul] at e3
  have e4 : (1 - v / 10) * 10 ^ (k + 1) + 10 * (v / 10) * 10 ^ k = 10 * 10 ^ k := by
    have : 10 ^ (k + 1) = 10 * 10 ^ k := by rw [Nat.pow_succ, Nat.mul_comm]
    rw [this, ← Nat.mul_assoc, ← Nat.add_mul]
    congr 1
    omega
  omega
theorem SInv.done {a b : List Nat} {n : Nat} {l : List Nat} {o : Nat} (h : SInv a b n n l o) (hle : val b ≤ val a) : val l + val b = val a := by
  have e := h.eq
  rw [Nat.sub_self, List.drop_zero, List.drop_zero] at e
  have hc := h.le
  have hlt := val_lt l h.dgs
  rw [h.len] at hlt
  by_cases h0 : o = 0
  · subst h0; omega
  · have : o = 1 := by omega
    subst this; omega
/-- A piece of the ten digits. -/
theorem dig_piece (r : Nat) (h : r ≤ 9) : (⟨#[48, 49, 50, 51, 52, 53, 54, 55, 56, 57]⟩ : ByteArray).extract r (r + 1) = mkS [r] := by
  have : r = 0 ∨ r = 1 ∨ r = 2 ∨ r = 3 ∨ r = 4 ∨ r = 5 ∨ r = 6 ∨ r = 7 ∨ r = 8 ∨ r = 9 := by omega
  rcases this with rfl | rfl | rfl | rfl | rfl | rfl | rfl | rfl | rfl | rfl <;> rfl
end Go.Proofs.YtemlpjnophijfaaDoor
