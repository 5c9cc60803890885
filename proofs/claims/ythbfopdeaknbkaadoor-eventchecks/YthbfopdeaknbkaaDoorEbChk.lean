/- event's Checker in memory. -/
import Derived.Test.YthbfopdeaknbkaaDoorEaHead
import Derived.Maps.AppendAt
import Derived.Laws.OwnMore
namespace Go.Proofs.YthbfopdeaknbkaaDoor
open Go.RowKit
set_option linter.unusedSimpArgs false
set_option linter.unusedVariables false
/-- A part that is open: its kind, whether a value has to come, its names, and (for a record) where they lie. -/
structure Pt where
  kind : Int
  waits : Bool
  names : List ByteArray
  mb : Option Nat
/-- A part's cells. -/
def pcs (p : Pt) : List Value := [.int .i64 p.kind, .bool p.waits, .map p.mb]
def pxs (ps : List Pt) : List Value := ps.flatMap pcs
theorem pxs_length (ps : List Pt) : (pxs ps).length = ps.length * 3 := by
  induction ps with
  | nil => rfl
  | cons a l ih => simp only [pxs, List.flatMap_cons, List.length_append, List.length_cons] at *; rw [ih]; simp [pcs]; omega
theorem pxs_app (a b : List Pt) : pxs (a ++ b) = pxs a ++ pxs b := by simp [pxs]
theorem pxs_one (p : Pt) : pxs [p] = pcs p := by simp [pxs]
theorem pxs_at (qs : List Pt) (p : Pt) (r : Nat) : (pxs (qs ++ [p]))[qs.length * 3 + r]? = (pcs p)[r]? := by
  rw [pxs_app, pxs_one, List.getElem?_append_right (by rw [pxs_length]; omega), pxs_length, Nat.add_sub_cancel_left]
theorem pxs_set (qs : List Pt) (p : Pt) (r : Nat) (u : Value) : (pxs (qs ++ [p])).set (qs.length * 3 + r) u = pxs qs ++ (pcs p).set r u := by
  rw [pxs_app, pxs_one, List.set_append_right _ _ (by rw [pxs_length]; omega), pxs_length, Nat.add_sub_cancel_left]
/-- What a record's names are as a map. -/
def Sm (l : List ByteArray) : DataW Unit := Sn l l.length
/-- A part's names lie where it says. -/
def PtOk (W : World) (B : Nat) (p : Pt) : Prop := (p.kind = 8 ∧ ∃ b, p.mb = some b ∧ B ≤ b ∧ W.ownsMap Tryd.prog 9 (unitElem (H := Unit)) b p.names.length (Sm p.names)) ∨ (p.kind ≠ 8 ∧ p.mb = none ∧ p.names = [])
/-- A Checker, as its block holds it. -/
def KB (W : World) (i : Nat) (v : Value) (begun broken : Bool) : Prop := W.heap[i]? = some (.cells #[v, .bool begun, .bool broken] 64 (0, 0))
structure Ck (W : World) (i B : Nat) (v : Value) (ps : List Pt) (begun broken : Bool) : Prop where
  kb : KB W i v begun broken
  row : W.ownsRow B 76 3 v ps.length (pxs ps)
  ok : ∀ p ∈ ps, PtOk W B p
  dis : (ps.filterMap Pt.mb).Nodup
  iB : i < B
  hB : B ≤ W.heap.size
  len : ps.length ≤ 100000
section
variable {W W1 : World} {i B : Nat} {v : Value} {ps : List Pt} {begun broken : Bool}
theorem KB.cells (q : KB W i v begun broken) : W.cell? ⟨i, 0, none⟩ = some v ∧ W.cell? ⟨i, 1, none⟩ = some (.bool begun) ∧ W.cell? ⟨i, 2, none⟩ = some (.bool broken) ∧ W.frozen? ⟨i, 0, none⟩ = false ∧ W.frozen? ⟨i, 1, none⟩ = false ∧ W.frozen? ⟨i, 2, none⟩ = false := by
  unfold KB at q
  simp [World.cell?, World.frozen?, q]
theorem KB.lt (q : KB W i v begun broken) : i < W.heap.size := by
  by_cases h : i < W.heap.size
  · exact h
  · unfold KB at q
    rw [Array.getElem?_eq_none (by omega)] at q
    cases q
theorem KB.same (q : KB W i v begun broken) (h : W1.heap[i]? = W.heap[i]?) : KB W1 i v begun broken := by unfold KB; rw [h]; exact q
theorem KB.set0 (q : KB W i v begun broken) (u : Value) : KB (W.setCell ⟨i, 0, none⟩ u) i u begun broken := by
  unfold KB at q ⊢
  rw [setCell_eq_setRow W i 0 _ _ (0, 0) _ q, setRow_heap W i _ _ _ (0, 0) q]
  rfl
theorem KB.set1 (q : KB W i v begun broken) (u : Bool) : KB (W.setCell ⟨i, 1, none⟩ (.bool u)) i v u broken := by
  unfold KB at q ⊢
  rw [setCell_eq_setRow W i 1 _ _ (0, 0) _ q, setRow_heap W i _ _ _ (0, 0) q]
  rfl
theorem KB.set2 (q : KB W i v begun broken) (u : Bool) : KB (W.setCell ⟨i, 2, none⟩ (.bool u)) i v begun u := by
  unfold KB at q ⊢
  rw [setCell_eq_setRow W i 2 _ _ (0, 0) _ q, setRow_heap W i _ _ _ (0, 0) q]
  rfl
theorem own_of {B : Nat} {T : TypeId} {sz : Nat} {v : Value} {n : Nat} {xs : List Value} (h : W.ownsRow B T sz v n xs) (hb : ∀ k, v.ownBlock = some k → k < W.heap.size → W1.heap[k]? = W.heap[k]?) : W1.ownsRow B T sz v n xs := by
  have hr := World.ownsRow.lt h
  obtain ⟨h0, h⟩ := h
  refine ⟨h0, ?_⟩
  rcases h with ⟨rfl, e⟩ | ⟨g, cap, cur, rfl, h2, h3, h4⟩
  · exact Or.inl ⟨rfl, e⟩
  · exact Or.inr ⟨g, cap, cur, rfl, h2, by rw [hb g rfl (hr g rfl).2]; exact h3, h4⟩
theorem ownsMap_of {b n : Nat} {D : DataW Unit} (h : W.ownsMap Tryd.prog 9 (unitElem (H := Unit)) b n D) (hb : W1.heap[b]? = W.heap[b]?) : W1.ownsMap Tryd.prog 9 (unitElem (H := Unit)) b n D := by
  obtain ⟨es, clock, h1, h2⟩ := h
  exact ⟨es, clock, hb.trans h1, h2⟩
theorem ownsMap_lt {b n : Nat} {D : DataW Unit} (h : W.ownsMap Tryd.prog 9 (unitElem (H := Unit)) b n D) : b < W.heap.size := World.ownsMap.lt h
theorem PtOk.of {p : Pt} (h : PtOk W B p) (hb : ∀ b, p.mb = some b → W1.heap[b]? = W.heap[b]?) : PtOk W1 B p := by
  rcases h with ⟨k, b, e, h1, h2⟩ | h
  · exact Or.inl ⟨k, b, e, h1, ownsMap_of h2 (hb b e)⟩
  · exact Or.inr h
theorem PtOk.blt {p : Pt} (h : PtOk W B p) (b : Nat) (e : p.mb = some b) : B ≤ b ∧ b < W.heap.size := by
  rcases h with ⟨_, b', e', h1, h2⟩ | ⟨_, e', _⟩
  · rw [e] at e'; cases e'; exact ⟨h1, ownsMap_lt h2⟩
  · rw [e] at e'; cases e'
/-- A map's block is no row's. -/
theorem PtOk.ne {p : Pt} (h : PtOk W B p) (b : Nat) (e : p.mb = some b) {n : Nat} {xs : List Value} (hr : W.ownsRow B 76 3 v n xs) : v.ownBlock ≠ some b := by
  intro hv
  rcases h with ⟨_, b', e', h1, es, clock, hm, _⟩ | ⟨_, e', _⟩
  · rw [e] at e'; cases e'
    rcases hr.2 with ⟨rfl, _⟩ | ⟨g, cap, cur, rfl, _, hg, _⟩
    · cases hv
    · cases hv
      rw [hg] at hm; cases hm
  · rw [e] at e'; cases e'
theorem Ck.then (h : Ck W i B v ps begun broken) (hb : Below W.heap.size W W1) : Ck W1 i B v ps begun broken :=
  { h with kb := h.kb.same (hb.block i h.kb.lt), row := own_of h.row fun k _ hk => hb.block k hk, ok := fun p hp => (h.ok p hp).of fun b e => hb.block b ((h.ok p hp).blt b e).2, hB := Nat.le_trans h.hB hb.size }
theorem Ck.new {w : World} {i B : Nat} {br : Bool} (h : KB w i (.slice none 0 0) false br) (h1 : i < B) (h2 : B ≤ w.heap.size) : Ck w i B (.slice none 0 0) [] false br :=
  ⟨h, World.ownsRow_nil _ _ _ _, fun p hp => by simp at hp, by simp, h1, h2, by simp⟩
end
end Go.Proofs.YthbfopdeaknbkaaDoor
