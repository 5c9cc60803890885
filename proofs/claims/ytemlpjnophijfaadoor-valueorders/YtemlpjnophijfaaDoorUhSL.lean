/- Rows of bytes: what they list. -/
import Derived.Test.YtemlpjnophijfaaDoorUfTextV
import Derived.Deep.RegionWith
import Derived.WalkSmall
import Derived.Laws.BytesArg
import Derived.Laws.IdiomStrings
namespace Go.Proofs.YtemlpjnophijfaaDoor.Ut
open Go.RowKit
set_option linter.unusedSimpArgs false
set_option linter.unusedVariables false
def mkB (l : List UInt8) : ByteArray := ⟨l.toArray⟩
theorem bl_mkB (l : List UInt8) : bl (mkB l) = l := by simp [bl, mkB]
theorem mkB_size (l : List UInt8) : (mkB l).size = l.length := by rw [← bl_length, bl_mkB]
theorem mkB_bl (s : ByteArray) : mkB (bl s) = s := by cases s; simp [bl, mkB]
/-- A slice of bytes reads as l. -/
def SL (w : World) (v : Value) (l : List UInt8) : Prop :=
  (v = .slice none 0 0 ∧ l = []) ∨ ∃ (a : Addr) (c : Nat), v = .slice (some a) l.length c ∧ l.length ≤ c ∧ c ≤ maxLen ∧ ∀ i (h : i < l.length), a.block < w.heap.size ∧ w.cell? (a.add i) = some (.int .u8 (l[i].toNat : Int))
theorem SL.conv {w : World} {v : Value} {l : List UInt8} (h : SL w v l) : (convert 91 9 v).run Tryd.prog w = .ok (.string (mkB l)) w := by
  rcases h with ⟨rfl, rfl⟩ | ⟨a, c, rfl, _, _, hc⟩
  · exact run_convert_bytes_nil w 91 5 Tryd.underlying91 Tryd.underlying5 0 0 9 Tryd.underlying9
  · exact run_convert_bytes_back w 91 9 5 a c l Tryd.underlying91 Tryd.underlying5 Tryd.underlying9 (fun j hj => (hc j hj).2)
theorem add_block (a : Addr) (i : Nat) : (a.add i).block = a.block := by unfold Addr.add; split <;> rfl
theorem add_add (a : Addr) (i j : Nat) : (a.add i).add j = a.add (i + j) := by
  unfold Addr.add
  by_cases hi : i = 0
  · subst hi; simp
  · by_cases hj : j = 0
    · subst hj; simp
    · simp [hi, hj, Nat.add_assoc]
theorem SL.below {w W : World} {v : Value} {l : List UInt8} (h : SL w v l) (hb : Below w.heap.size w W) : SL W v l := by
  rcases h with ⟨rfl, rfl⟩ | ⟨a, c, rfl, h1, h2, hc⟩
  · exact Or.inl ⟨rfl, rfl⟩
  · exact Or.inr ⟨a, c, rfl, h1, h2, fun i hi => ⟨Nat.lt_of_lt_of_le (hc i hi).1 hb.size, (hb.cell (p := a.add i) (by rw [add_block]; exact (hc i hi).1)).trans (hc i hi).2⟩⟩
theorem SL.drew {w : World} {v : Value} {l : List UInt8} (h : SL w v l) : SL w.drew v l := h.below (Below.refl _ _).drew
end Go.Proofs.YtemlpjnophijfaaDoor.Ut
