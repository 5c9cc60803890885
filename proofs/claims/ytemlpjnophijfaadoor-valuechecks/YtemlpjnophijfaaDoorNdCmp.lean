/- num.compareSizes and Cmp: walked. -/
import Derived.Test.YtemlpjnophijfaaDoorNcComp
import Derived.WalkKit
import Derived.WalkSpells
import Derived.WalkLawsBesides
import Derived.Deep.RegionWith
import Derived.Deep.RegionHeld3
namespace Go.Proofs.YtemlpjnophijfaaDoor
open Go.RowKit
set_option linter.unusedSimpArgs false
set_option linter.unusedVariables false
/-- Cmp. -/
def cmpN (na : Bool) (a : ByteArray) (xa : Int) (nb : Bool) (b : ByteArray) (xb : Int) : Int :=
  if na == nb && bl a == bl b && xa == xb then 0 else if na && nb then cmpSz nb b xb na a xa else if na then -1 else if nb then 1 else cmpSz na a xa nb b xb

theorem ret_two {k k' : IntKind} {a b : Int} {c : Int} (h : a = b) : Ending.returned (.tuple #[.int k a, .int k' c]) = .returned (.tuple #[.int k b, .int k' c]) := by rw [h]
theorem isN_len {n : Bool} {s : ByteArray} {x : Int} (h : isN n s x = true) : s.size ≤ 40 ∧ -400 ≤ x ∧ x ≤ 400 := by
  simp [isN, isZ, isO] at h
  rcases h with ⟨⟨_, h1⟩, h2⟩ | h
  · have := bl_length s; rw [h1] at this; simp at this; omega
  · rw [bl_length] at h; omega

set_option maxHeartbeats 2000000 in
theorem cmp_any (na : Bool) (a : ByteArray) (xa : Int) (nb : Bool) (b : ByteArray) (xb : Int) (w : World) (ha : a.size ≤ 4096) (hb : b.size ≤ 4096)
    (h1 : isN na a xa = true) (h2 : isN nb b xb = true) :
    Calls Tryd.prog 40 #[.agg #[.bool na, .string a, .int .i64 xa], .agg #[.bool nb, .string b, .int .i64 xb]] w fun e w' => e = .returned (.tuple #[.int .i64 (cmpN na a xa nb b xb), .int .i64 0]) ∧ Below w.heap.size w w' := by
  have ml : maxLen = 2 ^ 63 - 1 := rfl
  obtain ⟨la, la1, la2⟩ := isN_len h1
  obtain ⟨lb, lb1, lb2⟩ := isN_len h2
  have fin : ∀ w1 w2 : World, Below ((w.alloc (.cells #[.bool na, .string a, .int .i64 xa] 24)).alloc (.cells #[.bool nb, .string b, .int .i64 xb] 24)).heap.size ((w.alloc (.cells #[.bool na, .string a, .int .i64 xa] 24)).alloc (.cells #[.bool nb, .string b, .int .i64 xb] 24)) w1 → Below w1.heap.size w1 w2 → Below w.heap.size w w2 := fun w1 w2 h1 h2 => below_then (below_alloc (below_alloc h1)) h2
  go_enter Tryd.func40, Tryd.ntmps40
  go_wp2_with fail
  refine (check_ok na a xa _ (by omega) h1).mono ?_
  rintro e w1 ⟨rfl, hb1⟩
  obtain ⟨hc1, hf1⟩ := bcell hb1
  have hz1 := hb1.size
  simp at hz1
  have hz2 : w.heap.size < w1.heap.size := by omega
  have hz3 : w.heap.size + 1 < w1.heap.size := by omega
  go_wp2_with fail
  refine (check_ok nb b xb _ (by omega) h2).mono ?_
  rintro e w2 ⟨rfl, hb2⟩
  have hB := hide (fin w1 w2 hb1 hb2)
  obtain ⟨hc2, hf2⟩ := bcell hb2
  have hz4 := hb2.size
  clear fin hb1 hb2
  cases na
  all_goals
    cases nb
    all_goals
      go_wp2_with (go_at_call 55; refine (compareSizes_any _ _ _ _ _ _ _ (by omega) (by omega) (by omega) (by omega) (by omega) (by omega)).mono ?_; rintro e w3 ⟨rfl, hb3⟩)
    all_goals
      go_ret2
      refine ⟨ret_two ?_, ?_⟩
      · simp_all [cmpN, bl_toList]
      · first | exact hB.out | exact below_then hB.out (by assumption)
end Go.Proofs.YtemlpjnophijfaaDoor
