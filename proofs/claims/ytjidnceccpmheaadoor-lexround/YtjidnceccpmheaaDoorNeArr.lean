/- A block that holds a row of bytes; a call that turns one block alone. -/
import Derived.WalkKit
import Derived.WalkSpells
import Derived.WalkLawsBesides
namespace Go.Proofs.YtjidnceccpmheaaDoor
open Go.RowKit
set_option linter.unusedSimpArgs false
set_option linter.unusedVariables false
/-- Block b is a row of bytes p. -/
def Arr (w : World) (b : Nat) (T : TypeId) (p : List Nat) : Prop := w.heap[b]? = some (.cells (p.map fun v : Nat => Value.int .u8 (v : Int)).toArray T (0, 0))
theorem Arr.cell {w : World} {b : Nat} {T : TypeId} {p : List Nat} (h : Arr w b T p) (i : Nat) (hi : i < p.length) : w.cell? ⟨b, i, none⟩ = some (.int .u8 (p[i] : Nat)) := by
  unfold Arr at h
  simp [World.cell?, h, List.getElem?_map, hi]
theorem Arr.frozen {w : World} {b : Nat} {T : TypeId} {p : List Nat} (h : Arr w b T p) (i : Nat) : w.frozen? ⟨b, i, none⟩ = false := by
  unfold Arr at h
  simp [World.frozen?, h]
theorem Arr.lt {w : World} {b : Nat} {T : TypeId} {p : List Nat} (h : Arr w b T p) : b < w.heap.size := by
  unfold Arr at h
  by_cases hlt : b < w.heap.size
  · exact hlt
  · have hn : w.heap[b]? = none := by simp; omega
    rw [hn] at h; cases h
theorem Arr.drew {w : World} {b : Nat} {T : TypeId} {p : List Nat} (h : Arr w b T p) : Arr w.drew b T p := h
theorem Arr.set {w : World} {b : Nat} {T : TypeId} {p : List Nat} (h : Arr w b T p) (i : Nat) (v : Nat) : Arr (w.setCell ⟨b, i, none⟩ (.int .u8 (v : Int))) b T (p.set i v) := by
  unfold Arr at h ⊢
  simp only [World.setCell, Array.getElem?_modify, if_true, h, Option.map_some]
  simp [List.map_set]
/-- Nothing but block b has turned. -/
structure Only (b : Nat) (w w' : World) : Prop where
  os : w'.os = w.os
  tape : w'.tape = w.tape
  output : w'.output = w.output
  size : w'.heap.size = w.heap.size
  block : ∀ k, k ≠ b → w'.heap[k]? = w.heap[k]?
theorem Only.refl (b : Nat) (w : World) : Only b w w := ⟨rfl, rfl, rfl, rfl, fun _ _ => rfl⟩
theorem Only.trans {b : Nat} {w w1 w2 : World} (h : Only b w w1) (k : Only b w1 w2) : Only b w w2 :=
  ⟨k.os.trans h.os, k.tape.trans h.tape, k.output.trans h.output, k.size.trans h.size, fun i hi => (k.block i hi).trans (h.block i hi)⟩
theorem Only.drew {b : Nat} {w w1 : World} (h : Only b w w1) : Only b w w1.drew := ⟨h.os, h.tape, h.output, h.size, h.block⟩
theorem Only.set {b : Nat} {w w1 : World} (h : Only b w w1) (i : Nat) (v : Value) : Only b w (w1.setCell ⟨b, i, none⟩ v) :=
  h.trans ⟨rfl, rfl, rfl, by simp, fun k hk => Below.heap_setCell _ _ _ _ hk⟩
theorem Only.below {b B : Nat} {w w1 : World} (h : Only b w w1) (hb : B ≤ b) : Below B w w1 :=
  ⟨h.os, h.tape, h.output, by rw [h.size]; exact Nat.le_refl _, fun k hk => h.block k (by omega)⟩
theorem Only.cell {b : Nat} {w w1 : World} (h : Only b w w1) {k o : Nat} (hk : k ≠ b) : w1.cell? ⟨k, o, none⟩ = w.cell? ⟨k, o, none⟩ := World.cell?_of_block (w := w) (h.block k hk)
theorem Only.frozen {b : Nat} {w w1 : World} (h : Only b w w1) {k o : Nat} (hk : k ≠ b) : w1.frozen? ⟨k, o, none⟩ = w.frozen? ⟨k, o, none⟩ := World.frozen?_of_block (w := w) (h.block k hk)
theorem Arr.below {w w1 : World} {b B : Nat} {T : TypeId} {p : List Nat} (h : Arr w b T p) (hb : Below B w w1) (hB : b < B) : Arr w1 b T p := by
  unfold Arr at h ⊢; rw [hb.block b hB]; exact h
theorem Arr.only {w w1 : World} {b c : Nat} {T : TypeId} {p : List Nat} (h : Arr w b T p) (hb : Only c w w1) (hB : b ≠ c) : Arr w1 b T p := by
  unfold Arr at h ⊢; rw [hb.block b hB]; exact h
/-- A row of n noughts, newly laid. -/
theorem arr_new (w : World) (T : TypeId) (n : Nat) (c : Array Value) (hc : c = ((List.replicate n 0).map fun v : Nat => Value.int .u8 (v : Int)).toArray) : Arr (w.alloc (.cells c T)) w.heap.size T (List.replicate n 0) := by
  unfold Arr
  rw [hc]
  show (w.heap.push _)[w.heap.size]? = _
  simp
end Go.Proofs.YtjidnceccpmheaaDoor
