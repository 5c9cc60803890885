/- num's cutByte and cutDigits: walked; the plain words for a number's text. -/
import Derived.Test.YtemlpjnophijfaaDoorNbCount
import Derived.WalkKit
import Derived.WalkSpells
import Derived.WalkLawsBesides
import Derived.Deep.RegionWith
import Derived.Outline
import Derived.Lib.Strings
namespace Go.Proofs.YtemlpjnophijfaaDoor
open Go.RowKit
set_option linter.unusedSimpArgs false
set_option linter.unusedVariables false
/-- A text of bytes. -/
def mkB (l : List UInt8) : ByteArray := ⟨l.toArray⟩
theorem bl_mkB (l : List UInt8) : bl (mkB l) = l := by simp [bl, mkB]
theorem mkB_size (l : List UInt8) : (mkB l).size = l.length := by rw [← bl_length, bl_mkB]
theorem mkB_bl (s : ByteArray) : mkB (bl s) = s := by cases s; simp [bl, mkB]
theorem mkB_nil (l : List UInt8) : (mkB l).toList.isEmpty = l.isEmpty := by rw [bl_toList, bl_mkB]
theorem extract_mkB (s : ByteArray) (a b : Nat) : s.extract a b = mkB (((bl s).drop a).take (b - a)) := Lib.extract_eq s a b
theorem drop_mkB (s : ByteArray) (a : Nat) : s.extract a s.size = mkB ((bl s).drop a) := by
  rw [extract_mkB, List.take_of_length_le (by rw [List.length_drop, bl_length]; omega)]
/-- Does a row begin with c? -/
def hdB (c : UInt8) (l : List UInt8) : Bool := l.head? == some c
/-- What is behind c then. -/
def tlB (c : UInt8) (l : List UInt8) : List UInt8 := if hdB c l then l.drop 1 else l
theorem hdB_size (c : UInt8) (s : ByteArray) (h : 0 < s.size) : hdB c (bl s) = (s[0] == c) := by
  unfold hdB; rw [head_bl s h]; rfl
theorem tlB_length (c : UInt8) (l : List UInt8) : (tlB c l).length ≤ l.length := by
  unfold tlB; split <;> simp
theorem take_tw (p : UInt8 → Bool) (l : List UInt8) : l.take (l.takeWhile p).length = l.takeWhile p := by
  induction l with
  | nil => rfl
  | cons a l ih => by_cases h : p a = true <;> simp [h, ih]
theorem drop_tw (p : UInt8 → Bool) (l : List UInt8) : l.drop (l.takeWhile p).length = l.dropWhile p := by
  induction l with
  | nil => rfl
  | cons a l ih => by_cases h : p a = true <;> simp [h, ih]
end Go.Proofs.YtemlpjnophijfaaDoor
