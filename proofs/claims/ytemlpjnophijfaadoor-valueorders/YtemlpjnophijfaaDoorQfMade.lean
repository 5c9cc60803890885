/- calamusref01's Made: walked. -/
import Derived.Test.YtemlpjnophijfaaDoorQePlus
namespace Go.Proofs.YtemlpjnophijfaaDoor
open Go.RowKit
set_option linter.unusedSimpArgs false
set_option linter.unusedVariables false
theorem mkS_drop (l : List Nat) : (mkS l).extract 1 (mkS l).size = mkS (l.drop 1) := by
  rw [drop_mkB, mkS_bl, mkS_mkB, List.map_drop]
theorem mkS_take (l : List Nat) (k : Nat) : (mkS l).extract 0 k = mkS (l.take k) := by
  rw [extract_mkB, List.drop_zero, Nat.sub_zero, mkS_bl, mkS_mkB, List.map_take]
theorem lz_zero (d : List Nat) (j : Nat) (h : j < lz d) (h' : j < d.length) : d[j] = 0 := by
  have e := take_lz d
  have h1 : (d.take (lz d))[j]'(by simp; omega) = d[j] := List.getElem_take
  rw [← h1]
  simp only [e]
  exact List.getElem_replicate ..
theorem tz_zero (d : List Nat) (k : Nat) (h : k < tz d) (h' : d.length - 1 - k < d.length) : d[d.length - 1 - k] = 0 := by
  have h0 := lz_zero d.reverse k h (by have := tz_le d; simp; omega)
  rw [List.getElem_reverse] at h0
  exact h0
theorem tz_ne (d : List Nat) (h : tz d < d.length) : d[d.length - 1 - tz d]'(by omega) ≠ 0 := by
  have h0 := lz_ne d.reverse (by simpa [tz] using h)
  rw [List.getElem_reverse] at h0
  exact h0
/-- Made's answer. -/
def retM (r : Bool × ByteArray × Int × Int) : Ending := .returned (.tuple #[.agg #[.bool r.1, .string r.2.1, .int .i64 r.2.2.1], .bool (r.2.2.2 == 0)])
theorem core_isN (neg : Bool) (d : List Nat) (x : Int) (h : lz d < d.length) (hd : Dgs d) : isN neg (mkS (core d)) x = decide ((core d).length ≤ 40 ∧ -400 ≤ x ∧ x ≤ 400) := by
  obtain ⟨hc, hne⟩ := core_can d h hd
  by_cases hf : (core d).length ≤ 40 ∧ -400 ≤ x ∧ x ≤ 400
  · rw [decide_eq_true hf]
    have := mkS_isO (core d) x hc hne hf.1 hf.2.1 hf.2.2
    simp [isN, this]
  · rw [decide_eq_false hf]
    cases hn : isN neg (mkS (core d)) x
    · rfl
    · exfalso
      apply hf
      simp only [isN, Bool.or_eq_true] at hn
      rcases hn with hz | ho
      · have h1 := (isZ_mag hz).1
        rw [mkS_dg _ hc.dgs] at h1
        exact absurd rfl (hc.first 0 (by rw [h1]; rfl))
      · obtain ⟨b1, b2, b3, b4, _⟩ := isO_facts ho
        rw [mkS_size] at b2
        exact ⟨b2, b3, b4⟩
end Go.Proofs.YtemlpjnophijfaaDoor
