/- What Add's steps are worth: no program in sight. -/
import Derived.Test.YtemlpjnophijfaaDoorNoOrd
import Derived.Test.YtemlpjnophijfaaDoorNpFormF
namespace Go.Proofs.YtemlpjnophijfaaDoor
open Go.RowKit
set_option linter.unusedSimpArgs false
set_option linter.unusedVariables false
theorem isN_all {n : Bool} {s : ByteArray} {x : Int} (h : isN n s x = true) : allD (bl s) = true ∧ 1 ≤ s.size ∧ s.size ≤ 40 ∧ -400 ≤ x ∧ x ≤ 400 ∧ Dgs (dg s) := by
  cases hz : isZ n s x
  · have ho : isO (bl s) x = true := by simpa [isN, hz] using h
    obtain ⟨a1, a2, a3, a4, a5, a6, a7⟩ := isO_facts ho
    exact ⟨a5, a1, a2, a3, a4, a6.dgs⟩
  · obtain ⟨_, h2, h3⟩ := isZ_facts hz
    have h4 := (isZ_mag hz).2.1
    have h5 : allD (bl s) = true := by rw [h2]; rfl
    exact ⟨h5, by omega, by omega, by omega, by omega, dg_dgs s h5⟩
/-- Two numbers, the second not greater in size; y the second's power (the first's, if the second is 0), low the lower one of both. -/
structure Two (na : Bool) (a : ByteArray) (xa : Int) (nb : Bool) (b : ByteArray) (xb y low : Int) : Prop where
  n1 : isN na a xa = true
  n2 : isN nb b xb = true
  le : mag b xb ≤ mag a xa
  y0 : isZ nb b xb = true → y = xa
  y1 : isZ nb b xb = false → y = xb
  l0 : low = min xa y
theorem mag_at (s : ByteArray) (x low : Int) (h : low ≤ x) (hl : -400 ≤ low) : mag s x = val (dg s) * 10 ^ (x - low).toNat * 10 ^ (low + 400).toNat := by
  unfold mag
  rw [Nat.mul_assoc, ← Nat.pow_add]
  congr 2
  omega
theorem Two.low_bounds {na nb : Bool} {a b : ByteArray} {xa xb y low : Int} (h : Two na a xa nb b xb y low) : -400 ≤ low ∧ low ≤ 400 ∧ low ≤ xa ∧ low ≤ y := by
  obtain ⟨_, _, _, a4, a5, _⟩ := isN_all h.n1
  obtain ⟨_, _, _, b4, b5, _⟩ := isN_all h.n2
  have := h.l0
  cases hz : isZ nb b xb
  · have := h.y1 hz; omega
  · have := h.y0 hz; omega
theorem Two.magb {na nb : Bool} {a b : ByteArray} {xa xb y low : Int} (h : Two na a xa nb b xb y low) : mag b xb = val (dg b) * 10 ^ (y - low).toNat * 10 ^ (low + 400).toNat := by
  obtain ⟨l1, l2, l3, l4⟩ := h.low_bounds
  cases hz : isZ nb b xb
  · rw [← h.y1 hz]; exact mag_at b y low l4 l1
  · rw [(isZ_mag hz).2.2.1, (isZ_mag hz).1, show val [0] = 0 from rfl, Nat.zero_mul, Nat.zero_mul]
theorem Two.le_at {na nb : Bool} {a b : ByteArray} {xa xb y low : Int} (h : Two na a xa nb b xb y low) : val (dg b) * 10 ^ (y - low).toNat ≤ val (dg a) * 10 ^ (xa - low).toNat := by
  obtain ⟨l1, l2, l3, l4⟩ := h.low_bounds
  have := h.le
  rw [h.magb, mag_at a xa low l3 l1] at this
  exact Nat.le_of_mul_le_mul_right this (Nat.pow_pos (by decide))
/-- Within maxSpan both fit. -/
theorem Two.fits {na nb : Bool} {a b : ByteArray} {xa xb y low : Int} (h : Two na a xa nb b xb y low) (hs : topN na a xa - low ≤ 41) : (xa - low).toNat + a.size ≤ 41 ∧ (y - low).toNat + b.size ≤ 41 := by
  obtain ⟨l1, l2, l3, l4⟩ := h.low_bounds
  obtain ⟨a1, a2, a3, a4, a5, a6⟩ := isN_all h.n1
  obtain ⟨b1, b2, b3, b4, b5, b6⟩ := isN_all h.n2
  have h0 := h.l0
  cases za : isZ na a xa
  · have oa : isO (bl a) xa = true := by have := h.n1; simpa [isN, za] using this
    have ta : topN na a xa = xa + a.size := by simp [topN, za]
    rw [ta] at hs
    cases zb : isZ nb b xb
    · have ob : isO (bl b) xb = true := by have := h.n2; simpa [isN, zb] using this
      have hy := h.y1 zb
      have ma := mag_bounds oa
      have mb := mag_bounds ob
      have hlt : (xb + 400).toNat + b.size - 1 < (xa + 400).toNat + a.size := pow_lt_of ma.2 (Nat.le_trans mb.1 h.le)
      constructor <;> omega
    · have hy := h.y0 zb
      have := (isZ_mag zb).2.1
      constructor <;> omega
  · have hm := (isZ_mag za).2.2.1
    have hx := (isZ_facts za).2.2
    have hs1 := (isZ_mag za).2.1
    cases zb : isZ nb b xb
    · have ob : isO (bl b) xb = true := by have := h.n2; simpa [isN, zb] using this
      have := isO_pos ob
      have := h.le
      omega
    · have hy := h.y0 zb
      have := (isZ_mag zb).2.1
      constructor <;> omega
theorem lt_pow {l : List Nat} (h : Dgs l) {t m : Nat} (hl : t + l.length ≤ m) : val l * 10 ^ t < 10 ^ m := by
  have h1 := val_lt l h
  have h2 : val l * 10 ^ t < 10 ^ l.length * 10 ^ t := Nat.mul_lt_mul_of_pos_right h1 (Nat.pow_pos (by decide))
  rw [← Nat.pow_add] at h2
  exact Nat.lt_of_lt_of_le h2 (Nat.pow_le_pow_right (by decide) (by omega))
theorem Two.bounds {na nb : Bool} {a b : ByteArray} {xa xb y low : Int} (h : Two na a xa nb b xb y low) (hs : topN na a xa - low ≤ 41) :
    val (List.replicate 42 0) + val (dg a) * 10 ^ (xa - low).toNat < 10 ^ 42 ∧ val (dg a) * 10 ^ (xa - low).toNat + val (dg b) * 10 ^ (y - low).toNat < 10 ^ 42 := by
  obtain ⟨f1, f2⟩ := h.fits hs
  obtain ⟨a1, a2, a3, a4, a5, a6⟩ := isN_all h.n1
  obtain ⟨b1, b2, b3, b4, b5, b6⟩ := isN_all h.n2
  have e1 := lt_pow a6 (t := (xa - low).toNat) (m := 41) (by rw [dg_length]; exact f1)
  have e2 := lt_pow b6 (t := (y - low).toNat) (m := 41) (by rw [dg_length]; exact f2)
  have e3 : (10 : Nat) ^ 42 = 10 * 10 ^ 41 := by rw [Nat.pow_succ, Nat.mul_comm]
  rw [val_zeros]
  omega
/-- The sum, of like signs or not. -/
theorem Two.sum {na nb : Bool} {a b : ByteArray} {xa xb y low : Int} (h : Two na a xa nb b xb y low) (P : List Nat) (hP : Dgs P)
    (e1 : (na != nb) = false → val P = val (dg a) * 10 ^ (xa - low).toNat + val (dg b) * 10 ^ (y - low).toNat)
    (e2 : (na != nb) = true → val P + val (dg b) * 10 ^ (y - low).toNat = val (dg a) * 10 ^ (xa - low).toNat) :
    IsSum (Zv na a xa + Zv nb b xb) (formF na P low) := by
  obtain ⟨l1, l2, l3, l4⟩ := h.low_bounds
  have hf := formF_sum na P low hP l1
  have ma := mag_at a xa low l3 l1
  have mb := h.magb
  have key : (if na then -((val P * 10 ^ (low + 400).toNat : Nat) : Int) else (val P * 10 ^ (low + 400).toNat : Nat)) = Zv na a xa + Zv nb b xb := by
    unfold Zv
    rw [ma, mb]
    cases hn : (na != nb)
    · have e := congrArg (· * 10 ^ (low + 400).toNat) (e1 hn)
      simp only [Nat.add_mul] at e
      cases na <;> cases nb <;> simp at hn <;> simp only [if_true, Bool.false_eq_true, if_false] <;> omega
    · have e := congrArg (· * 10 ^ (low + 400).toNat) (e2 hn)
      simp only [Nat.add_mul] at e
      cases na <;> cases nb <;> simp at hn <;> simp only [if_true, Bool.false_eq_true, if_false] <;> omega
  rw [key] at hf
  exact hf
/-- Beyond maxSpan there is no sum. -/
theorem Two.none {na nb : Bool} {a b : ByteArray} {xa xb y low : Int} (h : Two na a xa nb b xb y low) (hs : 41 < topN na a xa - low) : IsSum (Zv na a xa + Zv nb b xb) (false, ⟨#[]⟩, 0, 2) := by
  right
  refine ⟨rfl, ?_⟩
  obtain ⟨l1, l2, l3, l4⟩ := h.low_bounds
  obtain ⟨a1, a2, a3, a4, a5, a6⟩ := isN_all h.n1
  have h0 := h.l0
  cases za : isZ na a xa
  · have oa : isO (bl a) xa = true := by have := h.n1; simpa [isN, za] using this
    have ta : topN na a xa = xa + a.size := by simp [topN, za]
    rw [ta] at hs
    cases zb : isZ nb b xb
    · have ob : isO (bl b) xb = true := by have := h.n2; simpa [isN, zb] using this
      have hy := h.y1 zb
      obtain ⟨b1, b2, b3, b4, b5, b6, b7⟩ := isO_facts ob
      have hlow : low = xb := by omega
      have ma := mag_at a xa low l3 l1
      have mb := h.magb
      have ba := mag_bounds oa
      have bb := mag_bounds ob
      rw [hy, hlow, Int.sub_self] at mb
      rw [hlow] at ma
      simp only [Int.toNat_zero, Nat.pow_zero, Nat.mul_one] at mb
      -- the sum's last digit stands at b's place
      intro n s x hn e
      have hmod := val_mod (dg b) b6.dgs ((dg b).getLast b7) (List.getLast?_eq_some_getLast b7)
      have hlast := b6.last _ (List.getLast?_eq_some_getLast b7)
      have h9 := b6.dgs _ (List.getLast_mem b7)
      obtain ⟨p, hp⟩ : ∃ p, (xa - xb).toNat = p + 1 := ⟨(xa - xb).toNat - 1, by omega⟩
      obtain ⟨q, hq⟩ : ∃ q, q = (xb + 400).toNat := ⟨_, rfl⟩
      rw [hp, Nat.pow_succ, ← hq] at ma
      rw [← hq] at mb
      -- S: the sum's size in units of b's place
      obtain ⟨S, hS, hS1⟩ : ∃ S : Nat, mag s x = S * 10 ^ q ∧ (S = val (dg a) * 10 ^ p * 10 + val (dg b) ∨ S + val (dg b) = val (dg a) * 10 ^ p * 10) := by
        have hle := h.le
        rw [mb, ma, show val (dg a) * (10 ^ p * 10) = val (dg a) * 10 ^ p * 10 by rw [Nat.mul_assoc]] at hle
        have hle' := Nat.le_of_mul_le_mul_right hle (Nat.pow_pos (by decide))
        rw [show val (dg a) * (10 ^ p * 10) = val (dg a) * 10 ^ p * 10 by rw [Nat.mul_assoc]] at ma
        have pz := Nat.zero_le (mag s x)
        have hpos1 := isO_pos oa
        have hpos2 := isO_pos ob
        cases hnn : (na != nb)
        · refine ⟨val (dg a) * 10 ^ p * 10 + val (dg b), ?_, Or.inl rfl⟩
          rw [Nat.add_mul, ← ma, ← mb]
          unfold Zv at e
          cases na <;> cases nb <;> simp at hnn <;> cases n <;> simp only [if_true, Bool.false_eq_true, if_false] at e <;> omega
        · refine ⟨val (dg a) * 10 ^ p * 10 - val (dg b), ?_, Or.inr (by omega)⟩
          rw [Nat.sub_mul, ← ma, ← mb]
          unfold Zv at e
          have := h.le
          cases na <;> cases nb <;> simp at hnn <;> cases n <;> simp only [if_true, Bool.false_eq_true, if_false] at e <;> omega
      have hSm : S % 10 ≠ 0 := by
        rcases hS1 with h | h <;> omega
      -- S is at least 10 to the power of 40
      have hSg : 10 ^ 40 ≤ S := by
        have va := val_ge (dg a) (isO_facts oa).2.2.2.2.2.2 (isO_facts oa).2.2.2.2.2.1.first
        rw [dg_length] at va
        have v1 : 10 ^ 41 ≤ val (dg a) * 10 ^ p * 10 := by
          rw [Nat.mul_assoc, ← Nat.pow_succ]
          refine Nat.le_trans ?_ (Nat.mul_le_mul_right _ va)
          rw [← Nat.pow_add]
          exact Nat.pow_le_pow_right (by decide) (by omega)
        have v2 := val_lt (dg b) b6.dgs
        rw [dg_length] at v2
        have v3 : 10 ^ b.size ≤ 10 ^ 40 := Nat.pow_le_pow_right (by decide) b2
        have v4 : (10 : Nat) ^ 41 = 10 * 10 ^ 40 := by rw [Nat.pow_succ, Nat.mul_comm]
        rcases hS1 with h | h <;> omega
      have hno : isZ n s x = false := by
        cases hz : isZ n s x
        · rfl
        · have := (isZ_mag hz).2.2.1
          rw [this] at hS
          have : 0 < S * 10 ^ q := Nat.mul_pos (by omega) (Nat.pow_pos (by decide))
          omega
      have os : isO (bl s) x = true := by simpa [isN, hno] using hn
      obtain ⟨c1, c2, c3, c4, c5, c6, c7⟩ := isO_facts os
      have hx : (x + 400).toNat ≤ q := by
        rcases Nat.lt_or_ge q (x + 400).toNat with hlt | hge
        · exfalso
          unfold mag at hS
          have e1 : S = val (dg s) * 10 ^ ((x + 400).toNat - q) := by
            apply Nat.eq_of_mul_eq_mul_right (Nat.pow_pos (by decide) : 0 < 10 ^ q)
            rw [← hS, Nat.mul_assoc, ← Nat.pow_add]; congr 2; omega
          rw [show (x + 400).toNat - q = ((x + 400).toNat - q - 1) + 1 by omega, Nat.pow_succ, ← Nat.mul_assoc] at e1
          omega
        · exact hge
      have hv := val_lt (dg s) c6.dgs
      rw [dg_length] at hv
      have hv2 : 10 ^ s.size ≤ 10 ^ 40 := Nat.pow_le_pow_right (by decide) c2
      have hv3 : val (dg s) * 10 ^ (x + 400).toNat ≤ val (dg s) * 10 ^ q := Nat.mul_le_mul_left _ (Nat.pow_le_pow_right (by decide) hx)
      unfold mag at hS
      rw [hS] at hv3
      have := Nat.le_of_mul_le_mul_right hv3 (Nat.pow_pos (by decide))
      omega
    · have hy := h.y0 zb
      omega
  · have hx := (isZ_facts za).2.2
    have : topN na a xa = -400 := by simp [topN, za]
    omega
end Go.Proofs.YtemlpjnophijfaaDoor
