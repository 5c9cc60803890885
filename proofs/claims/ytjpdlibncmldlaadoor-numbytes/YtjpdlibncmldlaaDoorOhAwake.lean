/- calamuslaw01.awake: walked. -/
import Derived.Test.YtjpdlibncmldlaaDoorOgPrint
import Derived.Test.YtjpdlibncmldlaaDoorOfBytes
import Derived.Test.YtjpdlibncmldlaaDoorNzParseA
import Derived.Test.YtjpdlibncmldlaaDoorNzParseB
import Derived.Test.YtjpdlibncmldlaaDoorNzParseC
import Derived.Test.YtjpdlibncmldlaaDoorNrAddA
import Derived.Test.YtjpdlibncmldlaaDoorNrAddB
namespace Go.Proofs.YtjpdlibncmldlaaDoor
open Go.RowKit
set_option linter.unusedSimpArgs false
set_option linter.unusedVariables false
/-- Parse is parseF. -/
theorem parse_any (s : ByteArray) (w : World) (hs : s.size ≤ 100000) :
    Calls Tryd.prog 10 #[.string s] w fun e w' => e = retF (parseF (bl s)) ∧ Below w.heap.size w w' := by
  unfold parseF
  cases h : splitL (bl s) with
  | none => exact parse_none s w hs h
  | some r =>
    obtain ⟨n, wh, fr, pn, pw⟩ := r
    simp only
    rw [bl_length]
    by_cases hl : 512 < s.size
    · rw [if_pos hl]; exact parse_long s w hs n wh fr pn pw h hl
    · rw [if_neg hl]
      by_cases hfr : fr.length = 0
      · by_cases hw : wh.length < 512
        · exact parse_some_a s w (by omega) n wh fr pn pw h hfr hw
        · exact parse_some_b s w (by omega) n wh fr pn pw h hfr hw
      · exact parse_some_c s w (by omega) n wh fr pn pw h hfr
/-- Add of two numbers. -/
theorem add_ok (na : Bool) (a : ByteArray) (xa : Int) (nb : Bool) (b : ByteArray) (xb : Int) (w : World) (h1 : isN na a xa = true) (h2 : isN nb b xb = true) :
    Calls Tryd.prog 19 #[.agg #[.bool na, .string a, .int .i64 xa], .agg #[.bool nb, .string b, .int .i64 xb]] w fun e w' => ∃ r, e = retF r ∧ Hid (IsSum (Zv na a xa + Zv nb b xb) r) ∧ Below w.heap.size w w' := by
  by_cases hsw : mag a xa < mag b xb
  · cases hz : isZ na a xa
    · by_cases hm : xb ≤ xa
      · exact add_sw_le na a xa nb b xb w h1 h2 hsw hz hm
      · exact add_sw_gt na a xa nb b xb w h1 h2 hsw hz hm
    · exact add_sw_z na a xa nb b xb w h1 h2 hsw hz
  · cases hz : isZ nb b xb
    · by_cases hm : xa ≤ xb
      · exact add_as_le na a xa nb b xb w h1 h2 hsw hz hm
      · exact add_as_gt na a xa nb b xb w h1 h2 hsw hz hm
    · exact add_as_z na a xa nb b xb w h1 h2 hsw hz
theorem p1 : parseF (bl ⟨#[45, 48, 46, 53, 48]⟩) = (true, ⟨#[53]⟩, -1, 0) := by decide
theorem p2 : parseF (bl ⟨#[48, 49]⟩) = (false, ⟨#[]⟩, 0, 10) := by decide
theorem p3 : parseF (bl ⟨#[49, 101, 52, 48, 49]⟩) = (false, ⟨#[]⟩, 0, 2) := by decide
theorem q1 : mkB (powered (bl ⟨#[49, 53]⟩) (dec3 (30 + 2 - 1))) = ⟨#[49, 46, 53, 101, 51, 49]⟩ := by decide
theorem q2 : mkB (pointed (bl ⟨#[49, 53]⟩) 4) = ⟨#[48, 46, 48, 48, 49, 53]⟩ := by decide
end Go.Proofs.YtjpdlibncmldlaaDoor
