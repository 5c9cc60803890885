/- The two Prints write the same text. -/
import Derived.Test.YtjpdlibncmldlaaDoorRjPrint
namespace Go.Proofs.YtjpdlibncmldlaaDoor
open Go.RowKit
set_option linter.unusedSimpArgs false
set_option linter.unusedVariables false
/-- The reference's Print, at every number. -/
theorem rprint_any (n : Bool) (s : ByteArray) (x : Int) (w : World) (h : isN n s x = true) :
    Calls Tryd.prog 13 #[.agg #[.bool n, .string s, .int .i64 x]] w fun e w' => e = .returned (.tuple #[.string (mkB (printL n (bl s) x)), .int .i64 0]) ∧ Below w.heap.size w w' := by
  obtain ⟨had, hl1, hl40, hx1, hx2, hdg⟩ := isN_all h
  clear had hdg
  unfold printL
  rw [bl_length]
  by_cases h1 : 0 ≤ x ∧ (s.size : Int) + x ≤ 21
  · rw [if_pos h1]
    obtain ⟨k, rfl⟩ : ∃ k : Nat, x = k := ⟨x.toNat, by omega⟩
    rw [Int.toNat_natCast]
    cases n
    · exact rprint_plain_false s k (by omega) w h
    · exact rprint_plain_true s k (by omega) w h
  · rw [if_neg h1]
    by_cases h2 : x < 0 ∧ -21 ≤ x
    · rw [if_pos h2]
      obtain ⟨bh, rfl⟩ : ∃ bh : Nat, x = -(bh : Int) := ⟨(-x).toNat, by omega⟩
      rw [show (- -(bh : Int)).toNat = bh by omega]
      unfold pointed
      rw [bl_length]
      by_cases h3 : s.size ≤ bh
      · rw [if_pos h3]
        cases n
        · exact rprint_le_false s bh (bh - s.size) (by omega) (by omega) (by omega) w h
        · exact rprint_le_true s bh (bh - s.size) (by omega) (by omega) (by omega) w h
      · rw [if_neg h3]
        cases n
        · exact rprint_in_false s bh (s.size - bh) (by omega) (by omega) (by omega) (by omega) w h
        · exact rprint_in_true s bh (s.size - bh) (by omega) (by omega) (by omega) (by omega) w h
    · rw [if_neg h2]
      unfold powered
      rw [bl_length]
      by_cases h4 : 1 < s.size
      · rw [if_pos h4]
        by_cases h3 : x < 0
        · cases n
          · exact rprint_downm_false s x h4 h3 (by omega) w h
          · exact rprint_downm_true s x h4 h3 (by omega) w h
        · cases n
          · exact rprint_upm_false s x h4 (by omega) (by omega) w h
          · exact rprint_upm_true s x h4 (by omega) (by omega) w h
      · rw [if_neg h4, List.append_nil]
        by_cases h3 : x < 0
        · cases n
          · exact rprint_downo_false s x (by omega) h3 (by omega) w h
          · exact rprint_downo_true s x (by omega) h3 (by omega) w h
        · cases n
          · exact rprint_upo_false s x (by omega) (by omega) (by omega) w h
          · exact rprint_upo_true s x (by omega) (by omega) (by omega) w h
end Go.Proofs.YtjpdlibncmldlaaDoor
