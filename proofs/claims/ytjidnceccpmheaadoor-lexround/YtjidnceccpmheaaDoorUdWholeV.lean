/- utf's isWhole: walked, with strings.HasPrefix at three bytes. -/
import Derived.Test.YtjidnceccpmheaaDoorUcStep
import Derived.Lib.Strings
namespace Go.Proofs.YtjidnceccpmheaaDoor.Ut
open Go.RowKit
set_option linter.unusedSimpArgs false
set_option linter.unusedVariables false
/-- Is it the character that the bytes begin with? -/
def whole (r : Nat) (l : List UInt8) : Bool := r != 65533 || Lib.hasPrefix l [239, 191, 189]
theorem pre_eq (s : ByteArray) (h : 3 ≤ s.size) : ((s.extract 0 3).toList == [239, 191, 189]) = Lib.hasPrefix (bl s) [239, 191, 189] := by
  have e : (s.extract 0 3).toList = (bl s).take 3 := by
    rw [Lib.toList_data]
    show (s.extract 0 3).data.toList = _
    rw [ByteArray.data_extract]
    simp [bl]
  rw [e]
  unfold Lib.hasPrefix
  have hl : 3 ≤ (bl s).length := by rw [bl_length]; exact h
  match hb : bl s, hl with
  | a :: b :: c :: r, _ =>
    simp only [List.take_succ_cons, List.take_zero, List.isPrefixOf, Bool.and_true]
    rw [Bool.eq_iff_iff]
    simp
    constructor
    · rintro ⟨rfl, rfl, rfl⟩; exact ⟨rfl, rfl, rfl⟩
    · rintro ⟨rfl, rfl, rfl⟩; exact ⟨rfl, rfl, rfl⟩
theorem pre_short (s : ByteArray) (h : s.size < 3) : Lib.hasPrefix (bl s) [239, 191, 189] = false := by
  unfold Lib.hasPrefix
  have hl : (bl s).length < 3 := by rw [bl_length]; exact h
  match hb : bl s, hl with
  | [], _ => rfl
  | [a], _ => simp [List.isPrefixOf]
  | [a, b], _ => simp [List.isPrefixOf]
theorem pre_in (s : ByteArray) (w : World) : Calls Tryd.prog 53 #[.string s, .string ⟨#[239, 191, 189]⟩] w fun e w' => e = .returned (.bool (Lib.hasPrefix (bl s) [239, 191, 189])) ∧ w' = w := by
  by_cases h : (3 : Int) ≤ (s.size : Int)
  · have hb : (3 : Nat) ≤ s.size := by omega
    have e := hide (pre_eq s hb)
    go_enter Tryd.func53, Tryd.ntmps53
    go_wp2
    go_ret
    exact ⟨by rw [← e.out]; rfl, rfl⟩
  · have e := hide (pre_short s (by omega))
    go_enter Tryd.func53, Tryd.ntmps53
    go_wp2
    go_ret
    exact ⟨by rw [← e.out]; rfl, rfl⟩
theorem hasPrefix_any (s : ByteArray) (w : World) : Calls Tryd.prog 43 #[.string s, .string ⟨#[239, 191, 189]⟩] w fun e w' => e = .returned (.bool (Lib.hasPrefix (bl s) [239, 191, 189])) ∧ w' = w := by
  go_enter Tryd.func43, Tryd.ntmps43
  go_wp2_with (go_at_call 53; refine (pre_in s _).mono ?_; rintro e w' ⟨rfl, rfl⟩)
  go_ret
  exact ⟨rfl, rfl⟩
theorem isWhole_any (r : Nat) (s : ByteArray) (w : World) (b : Bool) (hb : whole r (bl s) = b) : Calls Tryd.prog 34 #[.int .i32 r, .string s] w fun e w' => e = .returned (.bool b) ∧ w' = w := by
  have hb := hide hb
  have hp := hide (hasPrefix_any s)
  by_cases h : r = 65533
  · subst h
    go_enter Tryd.func34, Tryd.ntmps34
    go_wp2_with (go_at_call 43; refine (hp.out _).mono ?_; rintro e w' ⟨rfl, rfl⟩)
    go_ret
    refine ⟨?_, rfl⟩
    rw [← hb.out]
    rfl
  · have h' : ((r : Int) == 65533) = false := by rw [beq_eq_false_iff_ne]; omega
    have h2 : decide ((r : Int) = 65533) = false := decide_eq_false (by omega)
    go_enter Tryd.func34, Tryd.ntmps34
    go_wp2_with (go_at_call 43; refine (hp.out _).mono ?_; rintro e w' ⟨rfl, rfl⟩)
    go_ret
    refine ⟨?_, rfl⟩
    rw [← hb.out]
    simp [whole, h]
end Go.Proofs.YtjidnceccpmheaaDoor.Ut
