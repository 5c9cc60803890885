/- What calamuslaw01.NumTexts calls, as it wants it. -/
import Derived.Test.YtjpdlibncmldlaaDoorRkPrint
import Derived.Test.YtjpdlibncmldlaaDoorQrSame
import Derived.Test.YtjpdlibncmldlaaDoorQjSums
namespace Go.Proofs.YtjpdlibncmldlaaDoor
open Go.RowKit
set_option linter.unusedSimpArgs false
set_option linter.unusedVariables false
/-- What Print answers. -/
def prF (n : Bool) (s : ByteArray) (x : Int) : ByteArray × Int := if isN n s x then (mkB (printL n (bl s) x), 0) else (⟨#[]⟩, 10)
theorem printA_any (n : Bool) (s : ByteArray) (x : Int) (w : World) (hs : s.size ≤ 4096) (ht : Tab w.heap.size w) :
    Calls Tryd.prog 12 #[.agg #[.bool n, .string s, .int .i64 x]] w fun e w' => e = .returned (.tuple #[.string (prF n s x).1, .int .i64 (prF n s x).2]) ∧ Below w.heap.size w w' := by
  unfold prF
  cases h : isN n s x
  · exact print_no n s x w (by omega) h
  · exact print_any n s x w h ht
theorem rprintA_any (n : Bool) (s : ByteArray) (x : Int) (w : World) (hs : s.size ≤ 4096) :
    Calls Tryd.prog 13 #[.agg #[.bool n, .string s, .int .i64 x]] w fun e w' => e = .returned (.tuple #[.string (prF n s x).1, .int .i64 (prF n s x).2]) ∧ Below w.heap.size w w' := by
  unfold prF
  cases h : isN n s x
  · exact rprint_no n s x w (by omega) h
  · exact rprint_any n s x w h
theorem checkA_any (n : Bool) (s : ByteArray) (x : Int) (w : World) (hs : s.size ≤ maxLen) (b : Bool) (hb : isN n s x = b) :
    Calls Tryd.prog 15 #[.agg #[.bool n, .string s, .int .i64 x]] w fun e w' => e = .returned (.int .i64 (bif b then 0 else 10)) ∧ Below w.heap.size w w' := by
  cases b
  · exact check_no n s x w hs hb
  · exact check_ok n s x w hs hb
/-- One struct of the call's own. -/
structure Uno (w : World) (n : Bool) (s : ByteArray) (x : Int) (W : World) : Prop where
  below : Below w.heap.size w W
  box : Box W w.heap.size n s x
theorem Uno.then {w : World} {n : Bool} {s : ByteArray} {x : Int} {W W1 : World} (h : Uno w n s x W) (hb : Below W.heap.size W W1) : Uno w n s x W1 := ⟨below_then h.below hb, h.box.below hb h.box.lt⟩
theorem uno_new (w : World) (n : Bool) (s : ByteArray) (x : Int) : Uno w n s x (w.alloc (.cells #[.bool n, .string s, .int .i64 x] 23)) := ⟨below_al (Below.refl _ _), box_new w n s x⟩
end Go.Proofs.YtjpdlibncmldlaaDoor
