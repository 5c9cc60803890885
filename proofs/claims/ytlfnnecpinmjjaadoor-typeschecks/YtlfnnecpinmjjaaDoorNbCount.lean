/- num.countDigits, areDigits, expFits: walked. -/
import Derived.Test.YtlfnnecpinmjjaaDoorRows
import Derived.Test.YtlfnnecpinmjjaaDoorNaPlain
import Derived.WalkKit
import Derived.WalkSpells
import Derived.WalkLawsBesides
import Derived.Deep.RegionWith
namespace Go.Proofs.YtlfnnecpinmjjaaDoor
open Go.RowKit
set_option linter.unusedSimpArgs false
set_option linter.unusedVariables false
set_option maxHeartbeats 400000 in
theorem countDigits_any (s : ByteArray) (w : World) (hs : s.size ≤ maxLen) :
    Calls Tryd.prog 104 #[.string s] w fun e w' => e = .returned (.int .i64 (cntD (bl s))) ∧ w' = w := by
  unfold maxLen at hs
  go_enter Tryd.func104, Tryd.ntmps104
  go_wp2
  go_loop [3] (fun i => ∃ k : Nat, k ≤ s.size ∧ i = .int .i64 k ∧ ∀ j (hj : j < k) (h : j < s.size), isDig s[j] = true) (fun i => s.size - (intOf i).toNat)
  case atStart => exact ⟨0, Nat.zero_le _, rfl, by omega⟩
  case round =>
    obtain ⟨k, hk, rfl, hall⟩ := hrel
    by_cases hlt : k < s.size
    · by_cases hd : isDig s[k] = true
      · have hd' := (isDig_iff _).1 hd
        have h1 := hd'.1
        have h2 := hd'.2
        have HH : Hid (isDig s[k] = true) := hd
        clear hd hd'
        go_wp2
        go_round
        case rel => exact ⟨k + 1, by omega, by go_num, fun j hj h => by
          by_cases e : j = k
          · subst e; exact HH.out
          · exact hall j (by omega) h⟩
        case measure => simp [intOf]; omega
      · have HH : Hid (isDig s[k] = false) := (Bool.not_eq_true _).mp hd
        have hd' : ¬ (48 ≤ (s[k].toNat : Int) ∧ (s[k].toNat : Int) ≤ 57) := fun h => hd ((isDig_iff _).2 h)
        clear hd
        go_wp2
        all_goals
          go_ret
          exact ⟨ret_int (by rw [cntD_of s k hk hall (fun _ => HH.out)]), rfl⟩
    · go_wp2
      go_ret
      exact ⟨ret_int (by rw [cntD_of s k hk hall (fun h => absurd h hlt)]), rfl⟩

theorem areDigits_any (s : ByteArray) (w : World) (hs : s.size ≤ maxLen) :
    Calls Tryd.prog 96 #[.string s] w fun e w' => e = .returned (.bool (allD (bl s))) ∧ w' = w := by
  have hc : ((cntD (bl s) : Int) == (s.size : Int)) = allD (bl s) := by
    rw [Bool.eq_iff_iff, ← cntD_all, bl_length]; simp; omega
  go_enter Tryd.func96, Tryd.ntmps96
  go_wp2_with (go_at_call 104; refine (countDigits_any _ _ hs).mono ?_; rintro e w' ⟨rfl, rfl⟩)
  go_ret
  exact ⟨rfl, rfl⟩

theorem expFits_any (x : Int) (w : World) :
    Calls Tryd.prog 95 #[.int .i64 x] w fun e w' => e = .returned (.bool (decide (-400 ≤ x ∧ x ≤ 400))) ∧ w' = w := by
  by_cases h : -400 ≤ x
  · go_enter Tryd.func95, Tryd.ntmps95
    go_wp2
    go_ret
    exact ⟨ret_bool (by simp [h]), rfl⟩
  · go_enter Tryd.func95, Tryd.ntmps95
    go_wp2
    go_ret
    exact ⟨ret_bool (by simp; omega), rfl⟩

theorem isZero_any (neg : Bool) (s : ByteArray) (x : Int) (w : World) :
    Calls Tryd.prog 89 #[.agg #[.bool neg, .string s, .int .i64 x]] w fun e w' => e = .returned (.bool (isZ neg s x)) ∧ Below w.heap.size w w' := by
  go_enter Tryd.func89, Tryd.ntmps89
  go_wp2
  all_goals
    go_ret
    refine ⟨ret_bool ?_, (Below.refl _ _).alloc (Nat.le_refl _) _⟩
    simp_all [isZ, bl_toList]

set_option maxHeartbeats 1000000 in
theorem isOther_any (neg : Bool) (s : ByteArray) (x : Int) (w : World) (hs : s.size ≤ maxLen) :
    Calls Tryd.prog 90 #[.agg #[.bool neg, .string s, .int .i64 x]] w fun e w' => e = .returned (.bool (isO (bl s) x)) ∧ Below w.heap.size w w' := by
  by_cases h1 : s.size < 1
  · go_enter Tryd.func90, Tryd.ntmps90
    go_wp2
    go_ret
    exact ⟨ret_bool (by simp [isO, bl_length]; omega), (Below.refl _ _).alloc (Nat.le_refl _) _⟩
  have HO := hide (isO_at s x (by omega))
  by_cases h2 : 40 < s.size
  · go_enter Tryd.func90, Tryd.ntmps90
    go_wp2
    go_ret
    exact ⟨ret_bool (by rw [HO.out]; simp; omega), (Below.refl _ _).alloc (Nat.le_refl _) _⟩
  by_cases h3 : -400 ≤ x ∧ x ≤ 400
  · have e3 : decide (-400 ≤ x ∧ x ≤ 400) = true := decide_eq_true h3
    cases h4 : allD (bl s)
    all_goals
      go_enter Tryd.func90, Tryd.ntmps90
      go_wp2_with (first | (go_at_call 95; refine (expFits_any _ _).mono ?_; rintro e w' ⟨rfl, rfl⟩) | (go_at_call 96; refine (areDigits_any _ _ hs).mono ?_; rintro e w' ⟨rfl, rfl⟩))
    all_goals
      go_ret
      refine ⟨ret_bool ?_, (Below.refl _ _).alloc (Nat.le_refl _) _⟩
      have h2' : s.size ≤ 40 := by omega
      rw [HO.out, h4, e3]
      simp only [← bne48]
      simp [h2', *]
  · have e3 : decide (-400 ≤ x ∧ x ≤ 400) = false := decide_eq_false h3
    go_enter Tryd.func90, Tryd.ntmps90
    go_wp2_with (go_at_call 95; refine (expFits_any _ _).mono ?_; rintro e w' ⟨rfl, rfl⟩)
    go_ret
    exact ⟨ret_bool (by rw [HO.out, e3]; simp), (Below.refl _ _).alloc (Nat.le_refl _) _⟩

set_option maxHeartbeats 1000000 in
theorem check_ok (neg : Bool) (s : ByteArray) (x : Int) (w : World) (hs : s.size ≤ maxLen) (h : isN neg s x = true) :
    Calls Tryd.prog 82 #[.agg #[.bool neg, .string s, .int .i64 x]] w fun e w' => e = .returned (.int .i64 0) ∧ Below w.heap.size w w' := by
  cases hz : isZ neg s x
  · have ho : isO (bl s) x = true := by simpa [isN, hz] using h
    go_enter Tryd.func82, Tryd.ntmps82
    go_wp2_with fail
    refine (isZero_any neg s x _).mono ?_
    rw [hz]
    rintro e w1 ⟨rfl, hb⟩
    obtain ⟨hc, hf⟩ := bcell hb
    go_wp2_with fail
    refine (isOther_any neg s x _ hs).mono ?_
    rw [ho]
    rintro e w2 ⟨rfl, hb2⟩
    go_wp2
    go_ret
    exact ⟨rfl, below_then (below_alloc hb) hb2⟩
  · go_enter Tryd.func82, Tryd.ntmps82
    go_wp2_with fail
    refine (isZero_any neg s x _).mono ?_
    rw [hz]
    rintro e w1 ⟨rfl, hb⟩
    go_wp2_with fail
    go_ret
    exact ⟨rfl, below_alloc hb⟩

set_option maxHeartbeats 1000000 in
theorem check_no (neg : Bool) (s : ByteArray) (x : Int) (w : World) (hs : s.size ≤ maxLen) (h : isN neg s x = false) :
    Calls Tryd.prog 82 #[.agg #[.bool neg, .string s, .int .i64 x]] w fun e w' => e = .returned (.int .i64 10) ∧ Below w.heap.size w w' := by
  have hz : isZ neg s x = false := by simp [isN] at h; exact h.1
  have ho : isO (bl s) x = false := by simp [isN] at h; exact h.2
  go_enter Tryd.func82, Tryd.ntmps82
  go_wp2_with fail
  refine (isZero_any neg s x _).mono ?_
  rw [hz]
  rintro e w1 ⟨rfl, hb⟩
  obtain ⟨hc, hf⟩ := bcell hb
  go_wp2_with fail
  refine (isOther_any neg s x _ hs).mono ?_
  rw [ho]
  rintro e w2 ⟨rfl, hb2⟩
  go_wp2
  go_ret
  exact ⟨rfl, below_then (below_alloc hb) hb2⟩

set_option maxHeartbeats 1000000 in
theorem isInt_any (neg : Bool) (s : ByteArray) (x : Int) (w : World) (hs : s.size ≤ maxLen) :
    Calls Tryd.prog 69 #[.agg #[.bool neg, .string s, .int .i64 x]] w fun e w' => e = .returned (.bool (isN neg s x && decide (0 ≤ x))) ∧ Below w.heap.size w w' := by
  cases hn : isN neg s x
  · go_enter Tryd.func69, Tryd.ntmps69
    go_wp2_with fail
    refine (check_no neg s x _ hs hn).mono ?_
    rintro e w1 ⟨rfl, hb⟩
    go_wp2_with fail
    go_ret
    exact ⟨ret_bool (by simp), below_alloc hb⟩
  · go_enter Tryd.func69, Tryd.ntmps69
    go_wp2_with fail
    refine (check_ok neg s x _ hs hn).mono ?_
    rintro e w1 ⟨rfl, hb⟩
    obtain ⟨hc, hf⟩ := bcell hb
    go_wp2_with fail
    go_ret
    exact ⟨ret_bool (by simp), below_alloc hb⟩

/-- The power of ten that is just above a number's size. -/
def topN (neg : Bool) (s : ByteArray) (x : Int) : Int := if isZ neg s x then -400 else x + s.size

/-- -1, 0, 1. -/
def cmpI (x y : Int) : Int := if x < y then -1 else if y < x then 1 else 0
/-- The order of texts. -/
def cmpB (a b : ByteArray) : Int := if Op.bytesLess a.toList b.toList then -1 else if a.toList == b.toList then 0 else 1

end Go.Proofs.YtlfnnecpinmjjaaDoor
