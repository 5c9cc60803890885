/- What numbers are worth, and that each stands in one way: no program in sight. -/
import Derived.Test.YtjidnceccpmheaaDoorNmMath
import Derived.Test.YtjidnceccpmheaaDoorNdCmp
import Derived.Test.YtjidnceccpmheaaDoorNhForm
namespace Go.Proofs.YtjidnceccpmheaaDoor
open Go.RowKit
set_option linter.unusedSimpArgs false
set_option linter.unusedVariables false
/-- A number's size, in units of ten to the power of -400. -/
def mag (s : ByteArray) (x : Int) : Nat := val (dg s) * 10 ^ (x + 400).toNat
/-- What a number is worth, in these units. -/
def Zv (n : Bool) (s : ByteArray) (x : Int) : Int := if n then -(mag s x : Int) else mag s x
/-- Digits of which neither the first nor the last is a nought. -/
structure Can (l : List Nat) : Prop where
  dgs : Dgs l
  first : ∀ c, l.head? = some c → c ≠ 0
  last : ∀ c, l.getLast? = some c → c ≠ 0
theorem val_pos_of_last : ∀ (l : List Nat), l ≠ [] → (∀ c, l.getLast? = some c → c ≠ 0) → 0 < val l
  | [], h, _ => absurd rfl h
  | [a], _, h => by have := h a rfl; simp [val]; omega
  | a :: b :: l, _, h => by
    have := val_pos_of_last (b :: l) (by simp) (fun c hc => h c (by simpa using hc))
    simp only [val] at this ⊢
    omega
theorem val_mod (l : List Nat) (h : Dgs l) : ∀ c, l.getLast? = some c → val l % 10 = c := by
  intro c hc
  obtain ⟨l', rfl⟩ : ∃ l', l = l' ++ [c] := ⟨l.dropLast, by
    have hne : l ≠ [] := by intro e; rw [e] at hc; cases hc
    rw [List.getLast?_eq_some_getLast hne] at hc
    rw [← Option.some.inj hc]; exact (List.dropLast_concat_getLast hne).symm⟩
  have := h c (by simp)
  rw [val_append]
  simp [val]
  omega
theorem val_ge (l : List Nat) (hne : l ≠ []) (h : ∀ c, l.head? = some c → c ≠ 0) : 10 ^ (l.length - 1) ≤ val l := by
  cases l with
  | nil => exact absurd rfl hne
  | cons a l =>
    have := h a rfl
    simp only [val, List.length_cons, Nat.add_sub_cancel]
    have h1 : 1 * 10 ^ l.length ≤ a * 10 ^ l.length := Nat.mul_le_mul_right _ (by omega)
    omega
theorem val_inj : ∀ (a b : List Nat), Dgs a → Dgs b → a.length = b.length → val a = val b → a = b
  | [], [], _, _, _, _ => rfl
  | [], _ :: _, _, _, h, _ => by simp at h
  | _ :: _, [], _, _, h, _ => by simp at h
  | d :: a, e :: b, ha, hb, hl, hv => by
    obtain ⟨h1, h2⟩ := ha.cons
    obtain ⟨h3, h4⟩ := hb.cons
    have hl' : a.length = b.length := by simpa using hl
    simp only [val] at hv
    have la := val_lt a h2
    have lb := val_lt b h4
    rw [hl'] at hv la
    have hp : 0 < 10 ^ b.length := Nat.pow_pos (by decide)
    have e1 := Nat.div_eq_of_lt_le (k := d) (m := d * 10 ^ b.length + val a) (n := 10 ^ b.length) (by omega) (by rw [Nat.add_mul]; omega)
    have e2 := Nat.div_eq_of_lt_le (k := e) (m := e * 10 ^ b.length + val b) (n := 10 ^ b.length) (by omega) (by rw [Nat.add_mul]; omega)
    have hde : d = e := by rw [← e1, ← e2, hv]
    subst hde
    rw [val_inj a b h2 h4 hl' (by omega)]
theorem pow_lt_of {a b n : Nat} (h : n < 10 ^ b) (h' : 10 ^ a ≤ n) : a < b := (Nat.pow_lt_pow_iff_right (by decide : 1 < 10)).1 (Nat.lt_of_le_of_lt h' h)
/-- Two rows of digits without noughts at the ends that are worth the same are the same, and stand at the same place. -/
theorem can_inj {a b : List Nat} (ha : Can a) (hb : Can b) (hna : a ≠ []) (hnb : b ≠ []) {p q : Nat} (h : val a * 10 ^ p = val b * 10 ^ q) : a = b ∧ p = q := by
  have key : ∀ {a b : List Nat} {p q : Nat}, Can a → Can b → a ≠ [] → b ≠ [] → val a * 10 ^ p = val b * 10 ^ q → ¬ p < q := by
    intro a b p q ha hb hna hnb h hlt
    have e : val a = val b * 10 ^ (q - p) := by
      have hp : 0 < 10 ^ p := Nat.pow_pos (by decide)
      apply Nat.eq_of_mul_eq_mul_right hp
      rw [h, Nat.mul_assoc, ← Nat.pow_add]; congr 2; omega
    have hl := val_mod a ha.dgs (a.getLast hna) (List.getLast?_eq_some_getLast hna)
    have hc := ha.last _ (List.getLast?_eq_some_getLast hna)
    rw [e, show q - p = (q - p - 1) + 1 by omega, Nat.pow_succ, ← Nat.mul_assoc, Nat.mul_mod_left] at hl
    omega
  have hpq : p = q := by
    have h1 := key ha hb hna hnb h
    have h2 := key hb ha hnb hna h.symm
    omega
  subst hpq
  have hv : val a = val b := Nat.eq_of_mul_eq_mul_right (Nat.pow_pos (by decide)) h
  have a1 := val_ge a hna ha.first
  have b1 := val_ge b hnb hb.first
  have a2 := val_lt a ha.dgs
  have b2 := val_lt b hb.dgs
  have hla : 0 < a.length := List.length_pos_iff.2 hna
  have hlb : 0 < b.length := List.length_pos_iff.2 hnb
  have h1 : a.length - 1 < b.length := pow_lt_of b2 (by omega)
  have h2 : b.length - 1 < a.length := pow_lt_of a2 (by omega)
  exact ⟨val_inj a b ha.dgs hb.dgs (by omega) hv, rfl⟩
/-- What 'a number other than 0' comes to. -/
theorem isO_facts {s : ByteArray} {x : Int} (h : isO (bl s) x = true) : 1 ≤ s.size ∧ s.size ≤ 40 ∧ -400 ≤ x ∧ x ≤ 400 ∧ allD (bl s) = true ∧ Can (dg s) ∧ dg s ≠ [] := by
  simp only [isO, Bool.and_eq_true, decide_eq_true_eq, bne_iff_ne, ne_eq, bl_length] at h
  obtain ⟨⟨⟨⟨⟨h1, h2⟩, h3, h4⟩, h5⟩, h6⟩, h7⟩ := h
  refine ⟨h1, h2, h3, h4, h5, ⟨dg_dgs s h5, ?_, ?_⟩, ?_⟩
  · intro c hc
    have : (dg s).head? = (bl s).head?.map fun c => c.toNat - 48 := by simp [dg]
    rw [this, head_bl s h1] at hc
    rw [head_bl s h1] at h6
    simp at hc
    have hd := allD_get s h5 0 h1
    have : s[0].toNat ≠ 48 := fun e => h6 (by congr 1; exact UInt8.toNat_inj.1 e)
    omega
  · intro c hc
    have : (dg s).getLast? = (bl s).getLast?.map fun c => c.toNat - 48 := by simp [dg]
    rw [this, last_bl s h1] at hc
    rw [last_bl s h1] at h7
    simp at hc
    have hd := allD_get s h5 (s.size - 1) (by omega)
    have : (s[s.size - 1]'(by omega)).toNat ≠ 48 := fun e => h7 (by congr 1; exact UInt8.toNat_inj.1 e)
    omega
  · intro e
    have := dg_length s
    rw [e] at this; simp at this; omega
theorem isZ_facts {n : Bool} {s : ByteArray} {x : Int} (h : isZ n s x = true) : n = false ∧ bl s = [48] ∧ x = 0 := by
  simp [isZ] at h; exact ⟨h.1.1, h.1.2, h.2⟩
theorem isZ_mag {n : Bool} {s : ByteArray} {x : Int} (h : isZ n s x = true) : dg s = [0] ∧ s.size = 1 ∧ mag s x = 0 ∧ Zv n s x = 0 := by
  obtain ⟨rfl, h2, rfl⟩ := isZ_facts h
  have h3 : dg s = [0] := by simp [dg, h2]
  have h4 : s.size = 1 := by rw [← bl_length, h2]; rfl
  have h5 : mag s 0 = 0 := by unfold mag; rw [h3, show val [0] = 0 from rfl, Nat.zero_mul]
  exact ⟨h3, h4, h5, by simp [Zv, h5]⟩
theorem isO_pos {s : ByteArray} {x : Int} (h : isO (bl s) x = true) : 0 < mag s x := by
  obtain ⟨_, _, _, _, _, h6, h7⟩ := isO_facts h
  exact Nat.mul_pos (val_pos_of_last _ h7 h6.last) (Nat.pow_pos (by decide))
theorem bl_inj {s t : ByteArray} (h : bl s = bl t) : s = t := by
  cases s with | mk a => cases t with | mk b => simp [bl] at h; rw [h]
theorem dg_inj {s t : ByteArray} (hs : allD (bl s) = true) (ht : allD (bl t) = true) (h : dg s = dg t) : s = t := by
  apply bl_inj
  have hl : s.size = t.size := by rw [← dg_length, ← dg_length, h]
  apply List.ext_getElem
  · rw [bl_length, bl_length, hl]
  · intro i h1 h2
    rw [bl_length] at h1 h2
    have e : (dg s)[i]'(by rw [dg_length]; exact h1) = (dg t)[i]'(by rw [dg_length]; exact h2) := by simp only [h]
    rw [dg_get s i h1, dg_get t i h2] at e
    rw [bl_get s i h1, bl_get t i h2]
    have := allD_get s hs i h1
    have := allD_get t ht i h2
    exact UInt8.toNat_inj.1 (by omega)
/-- Each number stands in one way. -/
theorem num_inj {n m : Bool} {s t : ByteArray} {x y : Int} (h1 : isN n s x = true) (h2 : isN m t y = true) (h : Zv n s x = Zv m t y) : n = m ∧ s = t ∧ x = y := by
  simp only [isN, Bool.or_eq_true] at h1 h2
  rcases h1 with h1 | h1 <;> rcases h2 with h2 | h2
  · obtain ⟨rfl, a2, rfl⟩ := isZ_facts h1
    obtain ⟨rfl, b2, rfl⟩ := isZ_facts h2
    exact ⟨rfl, bl_inj (a2.trans b2.symm), rfl⟩
  · have := (isZ_mag h1).2.2.2
    have := isO_pos h2
    simp only [Zv] at *
    split at h <;> split at h <;> omega
  · have := (isZ_mag h2).2.2.2
    have := isO_pos h1
    simp only [Zv] at *
    split at h <;> split at h <;> omega
  · have p1 := isO_pos h1
    have p2 := isO_pos h2
    obtain ⟨a1, a2, a3, a4, a5, a6, a7⟩ := isO_facts h1
    obtain ⟨b1, b2, b3, b4, b5, b6, b7⟩ := isO_facts h2
    have hm : mag s x = mag t y ∧ n = m := by
      cases n <;> cases m <;> simp [Zv] at h <;> first | exact ⟨by omega, rfl⟩ | (exfalso; omega)
    obtain ⟨e1, e2⟩ := can_inj a6 b6 a7 b7 hm.1
    exact ⟨hm.2, dg_inj a5 b5 e1, by omega⟩
end Go.Proofs.YtjidnceccpmheaaDoor
