/- num.compareSizes and Cmp: walked. -/
import Derived.Test.YtjidnceccpmheaaDoorNcComp
import Derived.WalkKit
import Derived.WalkSpells
import Derived.WalkLawsBesides
import Derived.Deep.RegionWith
import Derived.Deep.RegionHeld3
namespace Go.Proofs.YtjidnceccpmheaaDoor
open Go.RowKit
set_option linter.unusedSimpArgs false
set_option linter.unusedVariables false
/-- Cmp. -/
def cmpN (na : Bool) (a : ByteArray) (xa : Int) (nb : Bool) (b : ByteArray) (xb : Int) : Int :=
  if na == nb && bl a == bl b && xa == xb then 0 else if na && nb then cmpSz nb b xb na a xa else if na then -1 else if nb then 1 else cmpSz na a xa nb b xb

theorem ret_two {k k' : IntKind} {a b : Int} {c : Int} (h : a = b) : Ending.returned (.tuple #[.int k a, .int k' c]) = .returned (.tuple #[.int k b, .int k' c]) := by rw [h]
theorem isN_len {n : Bool} {s : ByteArray} {x : Int} (h : isN n s x = true) : s.size ≤ 40 ∧ -400 ≤ x ∧ x ≤ 400 := by
  simp [isN, isZ, isO] at h
  rcases h with ⟨⟨_, h1⟩, h2⟩ | h
  · have := bl_length s; rw [h1] at this; simp at this; omega
  · rw [bl_length] at h; omega

end Go.Proofs.YtjidnceccpmheaaDoor
