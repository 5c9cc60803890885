/- utf's isWhole: walked; strings.HasPrefix and utf8.DecodeRuneInString by the library's contracts. -/
import Derived.Shelf.Strings.Prefix
import Derived.Shelf.Unicode.DecodeAny
import Derived.Lib.OthersKept
import Derived.Test.YtefiklklppfimaaDoorUdShelf
import Derived.Test.YtefiklklppfimaaDoorUcStep
namespace Go.Proofs.YtefiklklppfimaaDoor
open Go.Shelf Go.RowKit
set_option linter.unusedSimpArgs false
set_option linter.unusedVariables false
theorem hasPrefix_any (s p : ByteArray) (w : World) : Calls Tryd.prog 32 #[.string s, .string p] w fun e w' => e = .returned (.bool (Lib.hasPrefix (bl s) (bl p))) ∧ w' = w := Any.strings_HasPrefix laysHP s p w
theorem decodeRune_any (s : ByteArray) (w : World) (hT : Lib.Utf8Tabs 2 3 w) :
    Calls Tryd.prog 25 #[.string s] w fun e w' => e = .returned (.tuple #[.int .i32 (Lib.decodeGo s).1, .int .i64 (Lib.decodeGo s).2]) ∧ Below w.heap.size w w' := Any.utf8_DecodeRuneInString laysDR s w hT
/-- Is it the character that the bytes begin with? -/
def whole (r : Nat) (l : List UInt8) : Bool := r != 65533 || Lib.hasPrefix l [239, 191, 189]
theorem isWhole_any (r : Nat) (s : ByteArray) (w : World) (b : Bool) (hb : whole r (bl s) = b) : Calls Tryd.prog 29 #[.int .i32 r, .string s] w fun e w' => e = .returned (.bool b) ∧ w' = w := by
  have hb := hide hb
  have hp := hide (hasPrefix_any s ⟨#[239, 191, 189]⟩)
  by_cases h : r = 65533
  · subst h
    go_enter Tryd.func29, Tryd.ntmps29
    go_wp2_with (go_at_call 32; refine (hp.out _).mono ?_; rintro e w' ⟨rfl, rfl⟩)
    go_ret
    refine ⟨?_, rfl⟩
    rw [← hb.out]
    rfl
  · have h' : ((r : Int) == 65533) = false := by rw [beq_eq_false_iff_ne]; omega
    have h2 : decide ((r : Int) = 65533) = false := decide_eq_false (by omega)
    go_enter Tryd.func29, Tryd.ntmps29
    go_wp2_with (go_at_call 32; refine (hp.out _).mono ?_; rintro e w' ⟨rfl, rfl⟩)
    go_ret
    refine ⟨?_, rfl⟩
    rw [← hb.out]
    simp [whole, h]
end Go.Proofs.YtefiklklppfimaaDoor
