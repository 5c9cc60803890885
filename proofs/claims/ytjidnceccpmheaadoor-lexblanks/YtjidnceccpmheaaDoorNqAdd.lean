/- num.Add: walked. -/
import Derived.Test.YtjidnceccpmheaaDoorNoOrd
import Derived.Test.YtjidnceccpmheaaDoorNpFormF
import Derived.Test.YtjidnceccpmheaaDoorNgMerge
import Derived.WalkKit
import Derived.WalkSpells
import Derived.WalkLawsBesides
import Derived.Deep.RegionWith
import Derived.Outline
namespace Go.Proofs.YtjidnceccpmheaaDoor
open Go.RowKit
set_option linter.unusedSimpArgs false
set_option linter.unusedVariables false
/-- Block i holds a number's struct. -/
def Box (W : World) (i : Nat) (n : Bool) (s : ByteArray) (x : Int) : Prop := W.heap[i]? = some (.cells #[.bool n, .string s, .int .i64 x] 60 (0, 0))
theorem Box.cells {W : World} {i : Nat} {n : Bool} {s : ByteArray} {x : Int} (h : Box W i n s x) :
    W.cell? ⟨i, 0, none⟩ = some (.bool n) ∧ W.cell? ⟨i, 1, none⟩ = some (.string s) ∧ W.cell? ⟨i, 2, none⟩ = some (.int .i64 x) ∧ W.frozen? ⟨i, 0, none⟩ = false ∧ W.frozen? ⟨i, 1, none⟩ = false ∧ W.frozen? ⟨i, 2, none⟩ = false := by
  unfold Box at h
  simp [World.cell?, World.frozen?, h]
theorem Box.lt {W : World} {i : Nat} {n : Bool} {s : ByteArray} {x : Int} (h : Box W i n s x) : i < W.heap.size := by
  unfold Box at h
  by_cases hlt : i < W.heap.size
  · exact hlt
  · have hn : W.heap[i]? = none := by simp; omega
    rw [hn] at h; cases h
theorem Box.below {W W1 : World} {i B : Nat} {n : Bool} {s : ByteArray} {x : Int} (h : Box W i n s x) (hb : Below B W W1) (hi : i < B) : Box W1 i n s x := by
  unfold Box at h ⊢; rw [hb.block i hi]; exact h
theorem Box.only {W W1 : World} {i b : Nat} {n : Bool} {s : ByteArray} {x : Int} (h : Box W i n s x) (hb : Only b W W1) (hi : i ≠ b) : Box W1 i n s x := by
  unfold Box at h ⊢; rw [hb.block i hi]; exact h
theorem Box.other {W : World} {i j o : Nat} {n : Bool} {s : ByteArray} {x : Int} {v : Value} (h : Box W i n s x) (hij : i ≠ j) : Box (W.setCell ⟨j, o, none⟩ v) i n s x := by
  unfold Box at h ⊢; rw [Below.heap_setCell _ _ _ _ hij]; exact h
theorem Box.set {W : World} {i : Nat} {n n' : Bool} {s s' : ByteArray} {x x' : Int} (h : Box W i n s x) :
    Box (((W.setCell ⟨i, 0, none⟩ (.bool n')).setCell ⟨i, 1, none⟩ (.string s')).setCell ⟨i, 2, none⟩ (.int .i64 x')) i n' s' x' := by
  unfold Box at h ⊢
  simp only [World.setCell, Array.getElem?_modify, if_true, h, Option.map_some]
  simp
theorem Box.set2 {W : World} {i : Nat} {n : Bool} {s : ByteArray} {x x' : Int} (h : Box W i n s x) : Box (W.setCell ⟨i, 2, none⟩ (.int .i64 x')) i n s x' := by
  unfold Box at h ⊢
  simp only [World.setCell, Array.getElem?_modify, if_true, h, Option.map_some]
  simp
theorem box_new (w : World) (n : Bool) (s : ByteArray) (x : Int) : Box (w.alloc (.cells #[.bool n, .string s, .int .i64 x] 60)) w.heap.size n s x := by
  unfold Box
  show (w.heap.push _)[w.heap.size]? = _
  simp
theorem Box.alloc {W : World} {i : Nat} {n : Bool} {s : ByteArray} {x : Int} (h : Box W i n s x) (o : Obj) : Box (W.alloc o) i n s x := by
  have hl := h.lt
  unfold Box at h ⊢
  rw [← h]
  exact Below.heap_alloc W o i hl
/-- Three boxes: two numbers and a struct of noughts. -/
structure Boxes (w W : World) (na : Bool) (a : ByteArray) (xa : Int) (nb : Bool) (b : ByteArray) (xb : Int) : Prop where
  below : Below w.heap.size w W
  b0 : Box W w.heap.size na a xa
  b1 : Box W (w.heap.size + 1) nb b xb
  b2 : Box W (w.heap.size + 1 + 1) false ⟨#[]⟩ 0
theorem Boxes.then {w W W1 : World} {na nb : Bool} {a b : ByteArray} {xa xb : Int} (h : Boxes w W na a xa nb b xb) (hb : Below W.heap.size W W1) : Boxes w W1 na a xa nb b xb :=
  ⟨below_then h.below hb, h.b0.below hb h.b0.lt, h.b1.below hb h.b1.lt, h.b2.below hb h.b2.lt⟩
theorem boxes_new (w : World) (na : Bool) (a : ByteArray) (xa : Int) (nb : Bool) (b : ByteArray) (xb : Int) :
    Boxes w (((w.alloc (.cells #[.bool na, .string a, .int .i64 xa] 60)).alloc (.cells #[.bool nb, .string b, .int .i64 xb] 60)).alloc (.cells #[.bool false, .string ⟨#[]⟩, .int .i64 0] 60)) na a xa nb b xb := by
  refine ⟨below_al (below_al (below_al (Below.refl _ _))), ((box_new w na a xa).alloc _).alloc _, ?_, ?_⟩
  · have := (box_new (w.alloc (.cells #[.bool na, .string a, .int .i64 xa] 60)) nb b xb).alloc (.cells #[.bool false, .string ⟨#[]⟩, .int .i64 0] 60)
    simpa using this
  · have := box_new ((w.alloc (.cells #[.bool na, .string a, .int .i64 xa] 60)).alloc (.cells #[.bool nb, .string b, .int .i64 xb] 60)) false ⟨#[]⟩ 0
    simpa using this
theorem Boxes.swap {w W : World} {na nb : Bool} {a b : ByteArray} {xa xb : Int} (h : Boxes w W na a xa nb b xb) :
    Boxes w ((((((W.setCell ⟨w.heap.size, 0, none⟩ (.bool nb)).setCell ⟨w.heap.size, 1, none⟩ (.string b)).setCell ⟨w.heap.size, 2, none⟩ (.int .i64 xb)).setCell ⟨w.heap.size + 1, 0, none⟩ (.bool na)).setCell ⟨w.heap.size + 1, 1, none⟩ (.string a)).setCell ⟨w.heap.size + 1, 2, none⟩ (.int .i64 xa)) nb b xb na a xa := by
  refine ⟨?_, ?_, ?_, ?_⟩
  · exact (((((h.below.setCell (Nat.le_refl _) _).setCell (Nat.le_refl _) _).setCell (Nat.le_refl _) _).setCell (Nat.le_succ _) _).setCell (Nat.le_succ _) _).setCell (Nat.le_succ _) _
  · exact ((h.b0.set.other (by omega)).other (by omega)).other (by omega)
  · exact (((h.b1.other (by omega)).other (by omega)).other (by omega)).set
  · exact (((((h.b2.other (by omega)).other (by omega)).other (by omega)).other (by omega)).other (by omega)).other (by omega)
theorem Boxes.exp {w W : World} {na nb : Bool} {a b : ByteArray} {xa xb y : Int} (h : Boxes w W na a xa nb b xb) : Boxes w (W.setCell ⟨w.heap.size + 1, 2, none⟩ (.int .i64 y)) na a xa nb b y :=
  ⟨h.below.setCell (Nat.le_succ _) _, h.b0.other (by omega), h.b1.set2, h.b2.other (by omega)⟩
theorem Boxes.thenB {w W W1 : World} {na nb : Bool} {a b : ByteArray} {xa xb : Int} {B : Nat} (h : Boxes w W na a xa nb b xb) (hb : Below B W W1) (hB : w.heap.size + 2 < B) : Boxes w W1 na a xa nb b xb :=
  ⟨h.below.trans (hb.mono (by omega)), h.b0.below hb (by omega), h.b1.below hb (by omega), h.b2.below hb (by omega)⟩
theorem topN_bounds {n : Bool} {s : ByteArray} {x : Int} (h : isN n s x = true) : -400 ≤ topN n s x ∧ topN n s x ≤ 440 := by
  have := isN_len h
  unfold topN
  split <;> omega
theorem Boxes.drew {w W : World} {na nb : Bool} {a b : ByteArray} {xa xb : Int} (h : Boxes w W na a xa nb b xb) : Boxes w W.drew na a xa nb b xb := ⟨h.below.drew, h.b0, h.b1, h.b2⟩
theorem arr42 (w : World) (T : TypeId) : Arr (w.alloc (.cells #[Value.int IntKind.u8 0, Value.int IntKind.u8 0, Value.int IntKind.u8 0, Value.int IntKind.u8 0, Value.int IntKind.u8 0, Value.int IntKind.u8 0, Value.int IntKind.u8 0, Value.int IntKind.u8 0, Value.int IntKind.u8 0, Value.int IntKind.u8 0, Value.int IntKind.u8 0, Value.int IntKind.u8 0, Value.int IntKind.u8 0, Value.int IntKind.u8 0, Value.int IntKind.u8 0, Value.int IntKind.u8 0, Value.int IntKind.u8 0, Value.int IntKind.u8 0, Value.int IntKind.u8 0, Value.int IntKind.u8 0, Value.int IntKind.u8 0, Value.int IntKind.u8 0, Value.int IntKind.u8 0, Value.int IntKind.u8 0, Value.int IntKind.u8 0, Value.int IntKind.u8 0, Value.int IntKind.u8 0, Value.int IntKind.u8 0, Value.int IntKind.u8 0, Value.int IntKind.u8 0, Value.int IntKind.u8 0, Value.int IntKind.u8 0, Value.int IntKind.u8 0, Value.int IntKind.u8 0, Value.int IntKind.u8 0, Value.int IntKind.u8 0, Value.int IntKind.u8 0, Value.int IntKind.u8 0, Value.int IntKind.u8 0, Value.int IntKind.u8 0, Value.int IntKind.u8 0, Value.int IntKind.u8 0] T)) w.heap.size T (List.replicate 42 0) := arr_new w T 42 _ rfl
theorem cmpI_neg (a b : Int) : decide (cmpI a b < 0) = decide (a < b) := by
  unfold cmpI
  by_cases h : a < b
  · simp [h]
  · by_cases h' : b < a <;> simp [h, h']
end Go.Proofs.YtjidnceccpmheaaDoor
