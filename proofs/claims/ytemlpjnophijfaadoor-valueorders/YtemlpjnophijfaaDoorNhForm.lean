/- num.form: walked. -/
import Derived.Test.YtemlpjnophijfaaDoorNbCount
import Derived.Test.YtemlpjnophijfaaDoorNeArr
import Derived.Test.YtemlpjnophijfaaDoorNfTrim
import Derived.Test.YtemlpjnophijfaaDoorNmMath
import Derived.WalkKit
import Derived.WalkSpells
import Derived.WalkLawsBesides
import Derived.Deep.RegionWith
import Derived.Outline
namespace Go.Proofs.YtemlpjnophijfaaDoor
open Go.RowKit
set_option linter.unusedSimpArgs false
set_option linter.unusedVariables false
/-- The text of a row of digits. -/
def mkS (l : List Nat) : ByteArray := strOfNums (l.map fun v : Nat => ((v : Int) + 48))
/-- What form answers: the number, or that it is none. -/
def formE (ok neg : Bool) (s : ByteArray) (x : Int) : Ending :=
  if ok then .returned (.tuple #[.agg #[.bool neg, .string s, .int .i64 x], .int .i64 0]) else .returned (.tuple #[.agg #[.bool false, .string ⟨#[]⟩, .int .i64 0], .int .i64 2])
/-- The noughts that a row ends with. -/
def tz (d : List Nat) : Nat := lz d.reverse
theorem tz_of (d : List Nat) (m k : Nat) (hm : d.length = m) (hk : k < m) (h1 : ∀ i (h : i < d.length), m - k ≤ i → d[i] = 0) (h2 : d[m - k - 1]'(by omega) ≠ 0) : tz d = k := by
  refine lz_of d.reverse k (by simp; omega) (fun i h hi => ?_) (fun h => ?_)
  · rw [List.getElem_reverse]
    exact h1 _ _ (by simp at h; omega)
  · rw [List.getElem_reverse]
    have e : d.length - 1 - k = m - k - 1 := by omega
    simp only [e]; exact h2
theorem lz_ne (d : List Nat) (h : lz d < d.length) : d[lz d] ≠ 0 := by
  intro h0
  have key : ∀ (l : List Nat) (h : (l.takeWhile (· == 0)).length < l.length), l[(l.takeWhile (· == 0)).length] ≠ 0 := by
    intro l
    induction l with
    | nil => intro h; simp at h
    | cons a l ih =>
      intro h
      by_cases ha : a = 0
      · subst ha
        simp only [List.takeWhile_cons, beq_self_eq_true, if_true, List.length_cons, List.getElem_cons_succ]
        exact ih (by simpa using h)
      · simp [ha]
  exact key d h h0
end Go.Proofs.YtemlpjnophijfaaDoor
