/- num.compareSizes and Cmp: walked. -/
import Derived.Test.YtemlpjnophijfaaDoorNbCount
import Derived.WalkKit
import Derived.WalkSpells
import Derived.WalkLawsBesides
import Derived.Deep.RegionWith
import Derived.Deep.RegionHeld3
namespace Go.Proofs.YtemlpjnophijfaaDoor
open Go.RowKit
set_option linter.unusedSimpArgs false
set_option linter.unusedVariables false
/-- compareSizes. -/
def cmpSz (na : Bool) (a : ByteArray) (xa : Int) (nb : Bool) (b : ByteArray) (xb : Int) : Int :=
  if cmpI (topN na a xa) (topN nb b xb) == 0 then cmpB a b else cmpI (topN na a xa) (topN nb b xb)

set_option maxHeartbeats 2000000 in
theorem compareSizes_any (na : Bool) (a : ByteArray) (xa : Int) (nb : Bool) (b : ByteArray) (xb : Int) (w : World) (ha : a.size ≤ 4096) (hxa : -1000000 ≤ xa) (hxa' : xa ≤ 1000000) (hb : b.size ≤ 4096) (hxb : -1000000 ≤ xb) (hxb' : xb ≤ 1000000) :
    Calls Tryd.prog 55 #[.agg #[.bool na, .string a, .int .i64 xa], .agg #[.bool nb, .string b, .int .i64 xb]] w fun e w' => e = .returned (.int .i64 (cmpSz na a xa nb b xb)) ∧ Below w.heap.size w w' := by
  cases hc0 : (cmpI (topN na a xa) (topN nb b xb) == 0)
  · have hc1 : (cmpI (topN na a xa) (topN nb b xb) != 0) = true := by simp [bne, hc0]
    have hr := hide (show cmpSz na a xa nb b xb = cmpI (topN na a xa) (topN nb b xb) by simp [cmpSz, hc0])
    clear hc0
    go_enter Tryd.func55, Tryd.ntmps55
    go_wp2
    go_region_with (first | (go_at_call 65; refine (top_any _ _ _ _ (by assumption) (by assumption) (by assumption)).mono ?_; rintro e w1 ⟨rfl, hb1⟩; obtain ⟨hc1, hf1⟩ := bcell hb1) | (go_at_call 58; refine (cmpInt_any _ _ _).mono ?_; rintro e w1 ⟨rfl, rfl⟩))
    all_goals
      go_wp2
      go_ret
      exact ⟨ret_int hr.out.symm, by repeat (first | exact Below.refl _ _ | refine Below.drew ?_ | refine below_al ?_ | refine below_via (by assumption) ?_)⟩
  · have hc1 : (cmpI (topN na a xa) (topN nb b xb) != 0) = false := by simp [bne, hc0]
    have hr := hide (show cmpSz na a xa nb b xb = cmpB a b by simp [cmpSz, hc0])
    clear hc0
    go_enter Tryd.func55, Tryd.ntmps55
    go_wp2
    go_region_with (first | (go_at_call 65; refine (top_any _ _ _ _ (by assumption) (by assumption) (by assumption)).mono ?_; rintro e w1 ⟨rfl, hb1⟩; obtain ⟨hc1, hf1⟩ := bcell hb1; have hz1 := hb1.size; have hz2 : w.heap.size < w1.heap.size := (by first | omega | exact Nat.lt_of_lt_of_le (size_al2 w _ _).1 hz1); have hz3 : w.heap.size + 1 < w1.heap.size := (by first | omega | exact Nat.lt_of_lt_of_le (size_al2 w _ _).2 hz1)) | (go_at_call 58; refine (cmpInt_any _ _ _).mono ?_; rintro e w1 ⟨rfl, rfl⟩))
    all_goals
      rename_i w0 hb0 hc0 hf0 hz01 hz02 hz03
      go_wp2_with (go_at_call 42; refine (cmpStr_any _ _ _).mono ?_; rintro e w1 ⟨rfl, rfl⟩)
      go_ret
      exact ⟨ret_int hr.out.symm, by repeat (first | exact Below.refl _ _ | refine Below.drew ?_ | refine below_al ?_ | refine below_via (by assumption) ?_)⟩

end Go.Proofs.YtemlpjnophijfaaDoor
