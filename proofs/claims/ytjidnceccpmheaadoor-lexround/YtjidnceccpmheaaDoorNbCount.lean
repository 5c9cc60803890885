/- num.countDigits, areDigits, expFits: walked. -/
import Derived.Test.YtjidnceccpmheaaDoorRows
import Derived.Test.YtjidnceccpmheaaDoorNaPlain
import Derived.WalkKit
import Derived.WalkSpells
import Derived.WalkLawsBesides
import Derived.Deep.RegionWith
namespace Go.Proofs.YtjidnceccpmheaaDoor
open Go.RowKit
set_option linter.unusedSimpArgs false
set_option linter.unusedVariables false
set_option maxHeartbeats 400000 in
theorem countDigits_any (s : ByteArray) (w : World) (hs : s.size ≤ maxLen) :
    Calls Tryd.prog 57 #[.string s] w fun e w' => e = .returned (.int .i64 (cntD (bl s))) ∧ w' = w := by
  unfold maxLen at hs
  go_enter Tryd.func57, Tryd.ntmps57
  go_wp2
  go_loop [3] (fun i => ∃ k : Nat, k ≤ s.size ∧ i = .int .i64 k ∧ ∀ j (hj : j < k) (h : j < s.size), isDig s[j] = true) (fun i => s.size - (intOf i).toNat)
  case atStart => exact ⟨0, Nat.zero_le _, rfl, by omega⟩
  case round =>
    obtain ⟨k, hk, rfl, hall⟩ := hrel
    by_cases hlt : k < s.size
    · by_cases hd : isDig s[k] = true
      · have hd' := (isDig_iff _).1 hd
        have h1 := hd'.1
        have h2 := hd'.2
        have HH : Hid (isDig s[k] = true) := hd
        clear hd hd'
        go_wp2
        go_round
        case rel => exact ⟨k + 1, by omega, by go_num, fun j hj h => by
          by_cases e : j = k
          · subst e; exact HH.out
          · exact hall j (by omega) h⟩
        case measure => simp [intOf]; omega
      · have HH : Hid (isDig s[k] = false) := (Bool.not_eq_true _).mp hd
        have hd' : ¬ (48 ≤ (s[k].toNat : Int) ∧ (s[k].toNat : Int) ≤ 57) := fun h => hd ((isDig_iff _).2 h)
        clear hd
        go_wp2
        all_goals
          go_ret
          exact ⟨ret_int (by rw [cntD_of s k hk hall (fun _ => HH.out)]), rfl⟩
    · go_wp2
      go_ret
      exact ⟨ret_int (by rw [cntD_of s k hk hall (fun h => absurd h hlt)]), rfl⟩

theorem areDigits_any (s : ByteArray) (w : World) (hs : s.size ≤ maxLen) :
    Calls Tryd.prog 58 #[.string s] w fun e w' => e = .returned (.bool (allD (bl s))) ∧ w' = w := by
  have hc : ((cntD (bl s) : Int) == (s.size : Int)) = allD (bl s) := by
    rw [Bool.eq_iff_iff, ← cntD_all, bl_length]; simp; omega
  go_enter Tryd.func58, Tryd.ntmps58
  go_wp2_with (go_at_call 57; refine (countDigits_any _ _ hs).mono ?_; rintro e w' ⟨rfl, rfl⟩)
  go_ret
  exact ⟨rfl, rfl⟩

theorem expFits_any (x : Int) (w : World) :
    Calls Tryd.prog 52 #[.int .i64 x] w fun e w' => e = .returned (.bool (decide (-400 ≤ x ∧ x ≤ 400))) ∧ w' = w := by
  by_cases h : -400 ≤ x
  · go_enter Tryd.func52, Tryd.ntmps52
    go_wp2
    go_ret
    exact ⟨ret_bool (by simp [h]), rfl⟩
  · go_enter Tryd.func52, Tryd.ntmps52
    go_wp2
    go_ret
    exact ⟨ret_bool (by simp; omega), rfl⟩

/-- The power of ten that is just above a number's size. -/
def topN (neg : Bool) (s : ByteArray) (x : Int) : Int := if isZ neg s x then -400 else x + s.size

/-- -1, 0, 1. -/
def cmpI (x y : Int) : Int := if x < y then -1 else if y < x then 1 else 0
/-- The order of texts. -/
def cmpB (a b : ByteArray) : Int := if Op.bytesLess a.toList b.toList then -1 else if a.toList == b.toList then 0 else 1

end Go.Proofs.YtjidnceccpmheaaDoor
