/- Digits and what they are worth: no program in sight. -/
import Derived.Test.YtjidnceccpmheaaDoorNaPlain
namespace Go.Proofs.YtjidnceccpmheaaDoor
set_option linter.unusedSimpArgs false
set_option linter.unusedVariables false
/-- What a row of digits, the highest first, is worth. -/
def val : List Nat → Nat
  | [] => 0
  | d :: l => d * 10 ^ l.length + val l
theorem val_append (a b : List Nat) : val (a ++ b) = val a * 10 ^ b.length + val b := by
  induction a with
  | nil => simp [val]
  | cons d a ih =>
    simp only [List.cons_append, val, ih, List.length_append, Nat.add_mul, Nat.pow_add, Nat.mul_assoc]
    omega
/-- All are digits. -/
def Dgs (l : List Nat) : Prop := ∀ d ∈ l, d ≤ 9
theorem Dgs.cons {d : Nat} {l : List Nat} (h : Dgs (d :: l)) : d ≤ 9 ∧ Dgs l := ⟨h d (by simp), fun x hx => h x (by simp [hx])⟩
theorem Dgs.app {a b : List Nat} (h : Dgs (a ++ b)) : Dgs a ∧ Dgs b := ⟨fun x hx => h x (by simp [hx]), fun x hx => h x (by simp [hx])⟩
theorem val_lt (l : List Nat) (h : Dgs l) : val l < 10 ^ l.length := by
  induction l with
  | nil => simp [val]
  | cons d l ih =>
    obtain ⟨h1, h2⟩ := h.cons
    have := ih h2
    simp only [val, List.length_cons, Nat.pow_succ]
    have h3 : d * 10 ^ l.length ≤ 9 * 10 ^ l.length := Nat.mul_le_mul_right _ h1
    omega
theorem val_zeros (n : Nat) : val (List.replicate n 0) = 0 := by
  induction n with
  | zero => rfl
  | succ n ih => simp [List.replicate_succ, val, ih]
theorem val_zero_left (n : Nat) (l : List Nat) : val (List.replicate n 0 ++ l) = val l := by rw [val_append, val_zeros]; simp
theorem val_zero_right (n : Nat) (l : List Nat) : val (l ++ List.replicate n 0) = val l * 10 ^ n := by rw [val_append, val_zeros]; simp
/-- The lowest i digits, one more. -/
theorem val_drop_succ (p : List Nat) (n i : Nat) (hn : p.length = n) (hi : i < n) : val (p.drop (n - (i + 1))) = p[n - 1 - i]'(by omega) * 10 ^ i + val (p.drop (n - i)) := by
  have h1 : n - (i + 1) < p.length := by omega
  rw [List.drop_eq_getElem_cons h1]
  simp only [val]
  rw [show n - (i + 1) + 1 = n - i by omega, List.length_drop, show p.length - (n - i) = i by omega]
  congr 2
  congr 1
  omega
/-- The bytes of a text of digits, as digits. -/
def dg (s : ByteArray) : List Nat := (bl s).map fun c => c.toNat - 48
theorem dg_length (s : ByteArray) : (dg s).length = s.size := by simp [dg, bl_length]
theorem dg_get (s : ByteArray) (k : Nat) (h : k < s.size) : (dg s)[k]'(by rw [dg_length]; exact h) = s[k].toNat - 48 := by
  simp only [dg, List.getElem_map]
  rw [bl_get s k h]
theorem dg_dgs (s : ByteArray) (h : allD (bl s) = true) : Dgs (dg s) := by
  intro d hd
  simp only [dg, List.mem_map] at hd
  obtain ⟨c, hc, rfl⟩ := hd
  have := (isDig_iff c).1 ((List.all_eq_true.1 h) c hc)
  omega
theorem allD_get (s : ByteArray) (h : allD (bl s) = true) (k : Nat) (hk : k < s.size) : 48 ≤ s[k].toNat ∧ s[k].toNat ≤ 57 := by
  have h1 : s[k] ∈ bl s := by rw [← bl_get s k hk]; exact List.getElem_mem _
  have := (isDig_iff s[k]).1 ((List.all_eq_true.1 h) _ h1)
  omega
theorem take_get {P Q : List Nat} {m j : Nat} (h : P.take m = Q.take m) (hj : j < m) (hP : j < P.length) (hQ : j < Q.length) : P[j] = Q[j] := by
  have h1 : (P.take m)[j]? = (Q.take m)[j]? := by rw [h]
  rw [List.getElem?_take_of_lt hj, List.getElem?_take_of_lt hj, List.getElem?_eq_getElem hP, List.getElem?_eq_getElem hQ] at h1
  exact Option.some.inj h1
theorem take_less {P Q : List Nat} {m j : Nat} (h : P.take m = Q.take m) (hj : j ≤ m) : P.take j = Q.take j := by
  have := congrArg (List.take j) h
  rwa [List.take_take, List.take_take, Nat.min_eq_left hj] at this
/-- What holds ahead of round i of merge: P of what was P0, sd the digits that are merged, c what is carried. -/
def MInv (P0 sd : List Nat) (at_ : Nat) (less : Bool) (P : List Nat) (c i : Nat) : Prop :=
  P.length = 42 ∧ Dgs P ∧ c ≤ 1 ∧ P.take (42 - i) = P0.take (42 - i) ∧
  (less = false → val (P.drop (42 - i)) + c * 10 ^ i = val (P0.drop (42 - i)) + val (sd.drop (sd.length - (i - at_))) * 10 ^ at_) ∧
  (less = true → val (P.drop (42 - i)) + val (sd.drop (sd.length - (i - at_))) * 10 ^ at_ = val (P0.drop (42 - i)) + c * 10 ^ i)
/-- The digit that round i merges. -/
def mdig (sd : List Nat) (k : Nat) : Nat := if h : k < sd.length then sd[sd.length - 1 - k]'(by omega) else 0
theorem val_mdig (sd : List Nat) (k : Nat) : val (sd.drop (sd.length - (k + 1))) = mdig sd k * 10 ^ k + val (sd.drop (sd.length - k)) := by
  unfold mdig
  by_cases h : k < sd.length
  · rw [dif_pos h]; exact val_drop_succ sd sd.length k rfl h
  · rw [dif_neg h, show sd.length - (k + 1) = sd.length - k by omega]; simp
theorem MInv.start {P0 : List Nat} (sd : List Nat) (at_ : Nat) (less : Bool) (h : P0.length = 42) (hd : Dgs P0) : MInv P0 sd at_ less P0 0 at_ := by
  refine ⟨h, hd, by omega, rfl, fun _ => ?_, fun _ => ?_⟩ <;> simp [val]
theorem MInv.step {P0 sd P : List Nat} {at_ c i v c' : Nat} {less : Bool} (h0 : P0.length = 42) (h : MInv P0 sd at_ less P c i) (ha : at_ ≤ i) (hi : i < 42) (hv : v ≤ 9) (hc : c' ≤ 1)
    (e1 : less = false → v + 10 * c' = P[41 - i]'(by have := h.1; omega) + (c + mdig sd (i - at_))) (e2 : less = true → v + (c + mdig sd (i - at_)) = P[41 - i]'(by have := h.1; omega) + 10 * c') :
    MInv P0 sd at_ less (P.set (41 - i) v) c' (i + 1) := by
  obtain ⟨h1, h2, h3, h4, h5, h6⟩ := h
  have hq : P[41 - i]'(by omega) = P0[41 - i]'(by omega) := take_get h4 (by omega) (by omega) (by omega)
  have hdrop : (P.set (41 - i) v).drop (42 - (i + 1)) = v :: P.drop (42 - i) := by
    rw [show 42 - (i + 1) = 41 - i by omega, List.drop_eq_getElem_cons (by simp; omega), List.getElem_set_self, List.drop_set_of_lt (by omega), show 41 - i + 1 = 42 - i by omega]
  have hl : (P.drop (42 - i)).length = i := by rw [List.length_drop]; omega
  have hP0 : val (P0.drop (42 - (i + 1))) = P0[41 - i]'(by omega) * 10 ^ i + val (P0.drop (42 - i)) := val_drop_succ P0 42 i h0 hi
  have hS := val_mdig sd (i - at_)
  have hk : i + 1 - at_ = i - at_ + 1 := by omega
  have hpow : 10 ^ (i - at_) * 10 ^ at_ = 10 ^ i := by rw [← Nat.pow_add]; congr 1; omega
  refine ⟨by simpa using h1, ?_, hc, ?_, fun hl0 => ?_, fun hl0 => ?_⟩
  · intro d hd
    rcases List.mem_or_eq_of_mem_set hd with h | h
    · exact h2 d h
    · omega
  · rw [show 42 - (i + 1) = 41 - i by omega, List.take_set_of_le (by omega)]
    exact take_less h4 (by omega)
  · have e := e1 hl0
    have g := h5 hl0
    rw [hdrop, val, hl, hP0, hk, hS, Nat.add_mul, Nat.mul_assoc, hpow, Nat.pow_succ]
    have e' := congrArg (· * 10 ^ i) e
    simp only [Nat.add_mul, Nat.mul_assoc] at e'
    rw [hq] at e'
    rw [show c' * (10 ^ i * 10) = 10 * (c' * 10 ^ i) by rw [← Nat.mul_assoc, Nat.mul_comm]]
    omega
  · have e := e2 hl0
    have g := h6 hl0
    rw [hdrop, val, hl, hP0, hk, hS, Nat.add_mul, Nat.mul_assoc, hpow, Nat.pow_succ]
    have e' := congrArg (· * 10 ^ i) e
    simp only [Nat.add_mul, Nat.mul_assoc] at e'
    rw [hq] at e'
    rw [show c' * (10 ^ i * 10) = 10 * (c' * 10 ^ i) by rw [← Nat.mul_assoc, Nat.mul_comm]]
    omega
theorem val_split (P : List Nat) (m : Nat) : val P = val (P.take m) * 10 ^ (P.length - m) + val (P.drop m) := by
  have := val_append (P.take m) (P.drop m)
  rw [List.take_append_drop, List.length_drop] at this
  exact this
/-- When merge ends. -/
theorem MInv.done {P0 sd P : List Nat} {at_ i c : Nat} {less : Bool} (h0 : P0.length = 42) (hd0 : Dgs P0) (h : MInv P0 sd at_ less P c i) (hk : sd.length ≤ i - at_) (hi : i ≤ 42) (hc : c = 0 ∨ i = 42)
    (b1 : less = false → val P0 + val sd * 10 ^ at_ < 10 ^ 42) (b2 : less = true → val sd * 10 ^ at_ ≤ val P0) :
    P.length = 42 ∧ Dgs P ∧ (less = false → val P = val P0 + val sd * 10 ^ at_) ∧ (less = true → val P + val sd * 10 ^ at_ = val P0) := by
  obtain ⟨h1, h2, h3, h4, h5, h6⟩ := h
  have hs : sd.drop (sd.length - (i - at_)) = sd := by rw [show sd.length - (i - at_) = 0 by omega]; rfl
  rw [hs] at h5 h6
  have q := val_split P (42 - i)
  have q0 := val_split P0 (42 - i)
  rw [h1, show 42 - (42 - i) = i by omega] at q
  rw [h0, show 42 - (42 - i) = i by omega, ← h4] at q0
  have hlt := val_lt P h2
  rw [h1] at hlt
  have hc0 : c = 0 := by
    rcases hc with h | h
    · exact h
    · subst h
      rcases Nat.lt_or_ge 0 c with hp | hp
      · have hc1 : c = 1 := by omega
        subst hc1
        have z : P.take (42 - 42) = [] := rfl
        rw [z] at q q0
        simp only [val, Nat.zero_mul, Nat.zero_add] at q q0
        rw [← q, ← q0] at h5 h6
        cases less
        · have g1 := h5 rfl; have g2 := b1 rfl; omega
        · have g1 := h6 rfl; have g2 := b2 rfl; omega
      · omega
  subst hc0
  refine ⟨h1, h2, fun e => ?_, fun e => ?_⟩
  · have := h5 e; omega
  · have := h6 e; omega
end Go.Proofs.YtjidnceccpmheaaDoor
