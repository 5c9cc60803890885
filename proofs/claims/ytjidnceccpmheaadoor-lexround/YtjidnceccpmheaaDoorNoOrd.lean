/- The order of numbers: no program in sight. -/
import Derived.Test.YtjidnceccpmheaaDoorNnSem
namespace Go.Proofs.YtjidnceccpmheaaDoor
open Go.RowKit
set_option linter.unusedSimpArgs false
set_option linter.unusedVariables false
/-- Bytes of digits, as digits. -/
def dl (l : List UInt8) : List Nat := l.map fun c => c.toNat - 48
theorem dl_dgs (l : List UInt8) (h : allD l = true) : Dgs (dl l) := by
  intro d hd
  simp only [dl, List.mem_map] at hd
  obtain ⟨c, hc, rfl⟩ := hd
  have := (isDig_iff c).1 ((List.all_eq_true.1 h) c hc)
  omega
/-- A row of digits as a part of n places. -/
def fv (n : Nat) (l : List Nat) : Nat := val l * 10 ^ (n - l.length)
theorem fv_cons (n d : Nat) (l : List Nat) (h : l.length ≤ n) : fv (n + 1) (d :: l) = d * 10 ^ n + fv n l := by
  unfold fv
  simp only [val, List.length_cons, Nat.add_sub_add_right, Nat.add_mul, Nat.mul_assoc, ← Nat.pow_add]
  rw [show l.length + (n - l.length) = n by omega]
theorem fv_lt (n : Nat) (l : List Nat) (h : l.length ≤ n) (hd : Dgs l) : fv n l < 10 ^ n := by
  unfold fv
  have := val_lt l hd
  calc val l * 10 ^ (n - l.length) < 10 ^ l.length * 10 ^ (n - l.length) := Nat.mul_lt_mul_of_pos_right this (Nat.pow_pos (by decide))
    _ = 10 ^ n := by rw [← Nat.pow_add]; congr 1; omega
/-- No last byte is a nought. -/
def noEnd (l : List UInt8) : Prop := ∀ c, l.getLast? = some c → c ≠ 48
theorem noEnd.tail {a : UInt8} {l : List UInt8} (h : noEnd (a :: l)) : noEnd l := by
  intro c hc
  apply h c
  cases l with
  | nil => cases hc
  | cons b l => simpa using hc
theorem dl_pos (l : List UInt8) (hne : l ≠ []) (ha : allD l = true) (h : noEnd l) : 0 < val (dl l) := by
  refine val_pos_of_last _ (by simpa [dl] using hne) (fun c hc => ?_)
  simp only [dl, List.getLast?_map] at hc
  rw [List.getLast?_eq_some_getLast hne] at hc
  simp at hc
  have h1 := h _ (List.getLast?_eq_some_getLast hne)
  have h2 := (isDig_iff (l.getLast hne)).1 ((List.all_eq_true.1 ha) _ (List.getLast_mem hne))
  have : (l.getLast hne).toNat ≠ 48 := fun e => h1 (UInt8.toNat_inj.1 e)
  omega
theorem less_fv : ∀ (x y : List UInt8) (n : Nat), x.length ≤ n → y.length ≤ n → allD x = true → allD y = true → noEnd x → noEnd y → Op.bytesLess x y = decide (fv n (dl x) < fv n (dl y))
  | x, [], n, _, _, _, _, _, _ => by cases x <;> simp [Op.bytesLess, dl, fv, val]
  | [], b :: y, n, _, _, _, hy, _, ey => by
    have := dl_pos (b :: y) (by simp) hy ey
    have h2 : 0 < fv n (dl (b :: y)) := Nat.mul_pos this (Nat.pow_pos (by decide))
    have h3 : fv n (dl []) = 0 := by simp [dl, fv, val]
    simp only [Op.bytesLess, h3]
    exact (decide_eq_true h2).symm
  | a :: x, b :: y, n, hx, hy, dx, dy, ex, ey => by
    obtain ⟨m, rfl⟩ : ∃ m, n = m + 1 := ⟨n - 1, by simp at hx; omega⟩
    simp only [allD, List.all_cons, Bool.and_eq_true] at dx dy
    have ih := less_fv x y m (by simpa using hx) (by simpa using hy) dx.2 dy.2 ex.tail ey.tail
    have lx := fv_lt m (dl x) (by simpa [dl] using hx) (dl_dgs x dx.2)
    have ly := fv_lt m (dl y) (by simpa [dl] using hy) (dl_dgs y dy.2)
    have ea : dl (a :: x) = (a.toNat - 48) :: dl x := rfl
    have eb : dl (b :: y) = (b.toNat - 48) :: dl y := rfl
    have ra := (isDig_iff a).1 dx.1
    have rb := (isDig_iff b).1 dy.1
    rw [ea, eb, fv_cons m _ _ (by simpa [dl] using hx), fv_cons m _ _ (by simpa [dl] using hy)]
    simp only [Op.bytesLess]
    rcases Nat.lt_trichotomy a.toNat b.toNat with h | h | h
    · have h1 : (a < b) := UInt8.lt_iff_toNat_lt.2 h
      have h2 : (a.toNat - 48 + 1) * 10 ^ m ≤ (b.toNat - 48) * 10 ^ m := Nat.mul_le_mul_right _ (by omega)
      rw [Nat.add_mul] at h2
      rw [decide_eq_true h1, decide_eq_true (by omega)]; rfl
    · have h1 : a = b := UInt8.toNat_inj.1 h
      subst h1
      rw [ih]
      simp
    · have h1 : ¬ a < b := fun e => by have := UInt8.lt_iff_toNat_lt.1 e; omega
      have h1' : (a == b) = false := by
        rw [beq_eq_false_iff_ne]; intro e; subst e; omega
      have h2 : (b.toNat - 48 + 1) * 10 ^ m ≤ (a.toNat - 48) * 10 ^ m := Nat.mul_le_mul_right _ (by omega)
      rw [Nat.add_mul] at h2
      rw [decide_eq_false h1, h1', decide_eq_false (by omega)]; rfl
theorem less_total : ∀ (x y : List UInt8), Op.bytesLess x y = false → x ≠ y → Op.bytesLess y x = true
  | [], [], _, h => absurd rfl h
  | [], _ :: _, h, _ => by simp [Op.bytesLess] at h
  | _ :: _, [], _, _ => by simp [Op.bytesLess]
  | a :: x, b :: y, h, hne => by
    simp only [Op.bytesLess, Bool.or_eq_false_iff, decide_eq_false_iff_not] at h ⊢
    by_cases e : a = b
    · subst e
      simp at h
      have := less_total x y h (fun e => hne (by rw [e]))
      simp [this]
    · have : b < a := by
        have h1 := h.1
        have h2 : ¬ a.toNat < b.toNat := fun q => h1 (UInt8.lt_iff_toNat_lt.2 q)
        have h3 : a.toNat ≠ b.toNat := fun q => e (UInt8.toNat_inj.1 q)
        exact UInt8.lt_iff_toNat_lt.2 (by omega)
      simp [this]
theorem cmpI_scale (a b : Nat) (k : Nat) (hk : 0 < k) : cmpI (a : Int) b = cmpI ((a * k : Nat) : Int) ((b * k : Nat) : Int) := by
  unfold cmpI
  have h1 : (a * k < b * k) ↔ a < b := Nat.mul_lt_mul_right hk
  have h2 : (b * k < a * k) ↔ b < a := Nat.mul_lt_mul_right hk
  simp only [Int.ofNat_lt, h1, h2]
theorem mag_bounds {s : ByteArray} {x : Int} (h : isO (bl s) x = true) : 10 ^ ((x + 400).toNat + s.size - 1) ≤ mag s x ∧ mag s x < 10 ^ ((x + 400).toNat + s.size) := by
  obtain ⟨a1, a2, a3, a4, a5, a6, a7⟩ := isO_facts h
  have h1 := val_ge _ a7 a6.first
  have h2 := val_lt _ a6.dgs
  rw [dg_length] at h1 h2
  unfold mag
  constructor
  · rw [show (x + 400).toNat + s.size - 1 = (s.size - 1) + (x + 400).toNat by omega, Nat.pow_add]
    exact Nat.mul_le_mul_right _ h1
  · rw [Nat.add_comm, Nat.pow_add]
    exact Nat.mul_lt_mul_of_pos_right h2 (Nat.pow_pos (by decide))
theorem noEnd_of {s : ByteArray} {x : Int} (h : isO (bl s) x = true) : noEnd (bl s) := by
  simp only [isO, Bool.and_eq_true, bne_iff_ne, ne_eq] at h
  intro c hc e
  exact h.2 (by rw [hc, e])
/-- compareSizes tells the order of the sizes. -/
theorem cmpSz_spec {na nb : Bool} {a b : ByteArray} {xa xb : Int} (h1 : isN na a xa = true) (h2 : isN nb b xb = true) : cmpSz na a xa nb b xb = cmpI (mag a xa : Int) (mag b xb : Int) := by
  unfold cmpSz
  cases za : isZ na a xa <;> cases zb : isZ nb b xb
  · have oa : isO (bl a) xa = true := by simpa [isN, za] using h1
    have ob : isO (bl b) xb = true := by simpa [isN, zb] using h2
    obtain ⟨a1, a2, a3, a4, a5, a6, a7⟩ := isO_facts oa
    obtain ⟨b1, b2, b3, b4, b5, b6, b7⟩ := isO_facts ob
    have ma := mag_bounds oa
    have mb := mag_bounds ob
    have ta : topN na a xa = xa + a.size := by simp [topN, za]
    have tb : topN nb b xb = xb + b.size := by simp [topN, zb]
    rw [ta, tb]
    rcases Int.lt_trichotomy (xa + a.size) (xb + b.size) with h | h | h
    · have e1 : cmpI (xa + a.size) (xb + b.size) = -1 := by unfold cmpI; rw [if_pos h]
      have h3 : 10 ^ ((xa + 400).toNat + a.size) ≤ 10 ^ ((xb + 400).toNat + b.size - 1) := Nat.pow_le_pow_right (by decide) (by omega)
      have e2 : cmpI (mag a xa : Int) (mag b xb : Int) = -1 := by unfold cmpI; rw [if_pos (by omega)]
      rw [e1, e2]; rfl
    · have e1 : cmpI (xa + a.size) (xb + b.size) = 0 := by unfold cmpI; rw [if_neg (by omega), if_neg (by omega)]
      rw [e1]
      simp only [beq_self_eq_true, if_true]
      have hN : ∃ N, a.size ≤ N ∧ b.size ≤ N := ⟨max a.size b.size, by omega, by omega⟩
      obtain ⟨N, n1, n2⟩ := hN
      have sc : ∀ (s : ByteArray) (x : Int), isO (bl s) x = true → s.size ≤ N → x + s.size = xb + b.size → mag s x * 10 ^ N = fv N (dl (bl s)) * 10 ^ (xb + b.size + 400).toNat := by
        intro s x o hs he
        obtain ⟨c1, c2, c3, c4, _, _, _⟩ := isO_facts o
        unfold mag fv
        rw [show dl (bl s) = dg s from rfl, dg_length, Nat.mul_assoc, Nat.mul_assoc, ← Nat.pow_add, ← Nat.pow_add]
        congr 2
        omega
      have sa := sc a xa oa n1 h
      have sb := sc b xb ob n2 rfl
      have lt1 := less_fv (bl a) (bl b) N (by rw [bl_length]; exact n1) (by rw [bl_length]; exact n2) a5 b5 (noEnd_of oa) (noEnd_of ob)
      have lt2 := less_fv (bl b) (bl a) N (by rw [bl_length]; exact n2) (by rw [bl_length]; exact n1) b5 a5 (noEnd_of ob) (noEnd_of oa)
      rw [cmpI_scale (mag a xa) (mag b xb) (10 ^ N) (Nat.pow_pos (by decide)), sa, sb, ← cmpI_scale _ _ _ (Nat.pow_pos (by decide))]
      unfold cmpB cmpI
      rw [bl_toList, bl_toList, lt1]
      by_cases g : fv N (dl (bl a)) < fv N (dl (bl b))
      · have g' : (fv N (dl (bl a)) : Int) < fv N (dl (bl b)) := by omega
        simp [g, g']
      · have g' : ¬ (fv N (dl (bl a)) : Int) < fv N (dl (bl b)) := by omega
        by_cases e : bl a = bl b
        · rw [e]; simp
        · have := less_total (bl a) (bl b) (by rw [lt1]; simpa using g) e
          rw [lt2] at this
          have g2 := of_decide_eq_true this
          have g3 : (fv N (dl (bl b)) : Int) < fv N (dl (bl a)) := by omega
          simp [g, g', e, g3]
    · have e1 : cmpI (xa + a.size) (xb + b.size) = 1 := by unfold cmpI; rw [if_neg (by omega), if_pos h]
      have h3 : 10 ^ ((xb + 400).toNat + b.size) ≤ 10 ^ ((xa + 400).toNat + a.size - 1) := Nat.pow_le_pow_right (by decide) (by omega)
      have e2 : cmpI (mag a xa : Int) (mag b xb : Int) = 1 := by unfold cmpI; rw [if_neg (by omega), if_pos (by omega)]
      rw [e1, e2]; rfl
  · have oa : isO (bl a) xa = true := by simpa [isN, za] using h1
    obtain ⟨a1, a2, a3, a4, a5, a6, a7⟩ := isO_facts oa
    have p := isO_pos oa
    have q := (isZ_mag zb).2.2.1
    have e1 : cmpI (topN na a xa) (topN nb b xb) = 1 := by
      unfold cmpI topN; rw [za, zb]; simp only [if_true, Bool.false_eq_true, if_false]; rw [if_neg (by omega), if_pos (by omega)]
    have e2 : cmpI (mag a xa : Int) (mag b xb : Int) = 1 := by unfold cmpI; rw [if_neg (by omega), if_pos (by omega)]
    rw [e1, e2]; rfl
  · have ob : isO (bl b) xb = true := by simpa [isN, zb] using h2
    obtain ⟨b1, b2, b3, b4, b5, b6, b7⟩ := isO_facts ob
    have p := isO_pos ob
    have q := (isZ_mag za).2.2.1
    have e1 : cmpI (topN na a xa) (topN nb b xb) = -1 := by
      unfold cmpI topN; rw [za, zb]; simp only [if_true, Bool.false_eq_true, if_false]; rw [if_pos (by omega)]
    have e2 : cmpI (mag a xa : Int) (mag b xb : Int) = -1 := by unfold cmpI; rw [if_pos (by omega)]
    rw [e1, e2]; rfl
  · have p := (isZ_mag za).2.2.1
    have q := (isZ_mag zb).2.2.1
    have e1 : cmpI (topN na a xa) (topN nb b xb) = 0 := by
      unfold cmpI topN; rw [za, zb]; rfl
    have e2 : cmpI (mag a xa : Int) (mag b xb : Int) = 0 := by rw [p, q]; rfl
    have e3 : bl a = bl b := (isZ_facts za).2.1.trans (isZ_facts zb).2.1.symm
    have e4 : bl b = [48] := (isZ_facts zb).2.1
    rw [e1, e2]
    simp only [beq_self_eq_true, if_true]
    unfold cmpB
    rw [bl_toList, bl_toList, e3, e4]
    rfl
/-- Cmp tells the order of numbers. -/
theorem cmpN_spec {na nb : Bool} {a b : ByteArray} {xa xb : Int} (h1 : isN na a xa = true) (h2 : isN nb b xb = true) : cmpN na a xa nb b xb = cmpI (Zv na a xa) (Zv nb b xb) := by
  have s1 := cmpSz_spec h1 h2
  have s2 := cmpSz_spec h2 h1
  unfold cmpN
  by_cases e : na = nb ∧ bl a = bl b ∧ xa = xb
  · obtain ⟨rfl, e2, rfl⟩ := e
    have := bl_inj e2
    subst this
    simp [cmpI]
  · have hne : Zv na a xa ≠ Zv nb b xb := fun h => by
      obtain ⟨r1, r2, r3⟩ := num_inj h1 h2 h
      exact e ⟨r1, by rw [r2], r3⟩
    rw [if_neg (by simpa [and_assoc] using e)]
    have nz : ∀ {s : ByteArray} {x : Int}, isN true s x = true → 0 < mag s x := by
      intro s x h
      simp only [isN, isZ, Bool.not_true, Bool.false_and, Bool.false_or] at h
      exact isO_pos h
    cases na <;> cases nb
    · simp only [Bool.false_and, Bool.false_eq_true, if_false, s1, Zv]
    · have := nz h2
      simp only [Bool.false_and, Bool.false_eq_true, if_false, if_true, Zv, cmpI]
      rw [if_neg (by omega), if_pos (by omega)]
    · have := nz h1
      simp only [Bool.and_false, Bool.false_eq_true, if_false, if_true, Zv, cmpI]
      rw [if_pos (by omega)]
    · simp only [Bool.and_self, if_true, s2, Zv, cmpI]
      simp only [Zv, if_true] at hne
      repeat' split
      all_goals omega
end Go.Proofs.YtjidnceccpmheaaDoor
