/- Bytes that are appended to a slice of the call's own. -/
import Derived.Test.YtjidnceccpmheaaGreatDoorZlN
import Derived.Lib.AppendStr
namespace Go.Proofs.YtjidnceccpmheaaGreatDoor
open Go.RowKit
set_option linter.unusedSimpArgs false
set_option linter.unusedVariables false
/-- Bytes as cells. -/
def bcs (l : List UInt8) : List Value := l.map fun c => Value.int .u8 (c.toNat : Int)
theorem bcs_length (l : List UInt8) : (bcs l).length = l.length := by simp [bcs]
theorem bcs_append (a b : List UInt8) : bcs (a ++ b) = bcs a ++ bcs b := by simp [bcs]
theorem strCells_bcs (s : ByteArray) : Lib.strCells s = bcs (bl s) := rfl
/-- v is a slice of the call's own (from block B on) of the bytes l. -/
def Own (W : World) (B : Nat) (v : Value) (l : List UInt8) : Prop := W.ownsRow B 5 1 v l.length (bcs l)
theorem own_nil (W : World) (B : Nat) : Own W B (.slice none 0 0) [] := World.ownsRow_nil _ _ _ _
theorem Own.alloc {W : World} {B : Nat} {v : Value} {l : List UInt8} (h : Own W B v l) (o : Obj) : Own (W.alloc o) B v l := World.ownsRow.alloc h o
theorem Own.row {W : World} {B : Nat} {v : Value} {l : List UInt8} (h : Own W B v l) : ∀ k, v.ownBlock = some k → B ≤ k := by
  obtain ⟨_, h⟩ := h
  rcases h with ⟨rfl, _⟩ | ⟨g, cap, cur, rfl, hg, _⟩
  · intro k hk; cases hk
  · intro k hk; cases hk; exact hg
theorem info5 : (Tryz.prog.info? 5).map (fun i => (i.zero, i.size, i.bytes)) = some (some (.int .u8 0), 1, 1) := by kernel_rfl
section
variable {w : World} {ops : Array Oper} {rest : List Oper} {o : Oper} {a : Act} {Q : Exit → Act → World → Prop}
theorem app_bytes (hgd : o.guard = none) (s x : Operand) (ho : o.op = .call { callee := .builtin .append, args := #[s, x], argTypes := #[44, 44] })
    (B : Nat) (v : Value) (l : List UInt8) (hs : a.eval s = v) (hown : Own w B v l) (ad : Addr) (m c : Nat) (news : List UInt8) (hx : a.eval x = .slice (some ad) m c) (hm : news.length = m)
    (hnews : ∀ j u, (bcs news)[j]? = some u → w.cell? (ad.add j) = some u) (hl : l.length + m ≤ 100000) (hB : B ≤ w.heap.size)
    (h : ∀ v' w', Hid (Own w' B v' (l ++ news)) → Hid (Below B w w') → w.heap.size ≤ w'.heap.size → wpList Tryz.prog ops Q rest (a.put o.dst v') w') : wpList Tryz.prog ops Q (o :: rest) a w := by
  obtain ⟨i0, hi, hz0, hz1, hz2⟩ := info_parts info5
  refine wpList_append_own w hgd s x 44 ho B 5 i0 (.int .u8 0) 1 1 Tryz.underlying44 hi hz0 hz1 hz2 rfl (by decide) v l.length (bcs l) hs hown ad m c (bcs news) hx (by rw [bcs_length, hm]; simp) hnews ?_ ?_ ?_ hB ?_
  · intro u hu
    simp only [bcs, List.mem_map] at hu
    obtain ⟨c, _, rfl⟩ := hu
    rfl
  · unfold maxLen; omega
  · omega
  · intro v' w' h1 h2 _
    refine h v' w' ?_ ?_ h2.size
    · show Own _ _ _ _
      unfold Own
      rw [bcs_append, List.length_append, hm]; exact h1
    · exact (Below.refl B w).grown h2 hB hown.row
theorem app_str (hgd : o.guard = none) (sl x : Operand) (ho : o.op = .call { callee := .builtin .append, args := #[sl, x], argTypes := #[44, 9] })
    (B : Nat) (v : Value) (l : List UInt8) (hs : a.eval sl = v) (hown : Own w B v l) (s : ByteArray) (hx : a.eval x = .string s) (hl : l.length + s.size ≤ 100000) (hB : B ≤ w.heap.size)
    (h : ∀ v' w', Hid (Own w' B v' (l ++ bl s)) → Hid (Below B w w') → w.heap.size ≤ w'.heap.size → wpList Tryz.prog ops Q rest (a.put o.dst v') w') : wpList Tryz.prog ops Q (o :: rest) a w := by
  obtain ⟨i0, hi, hz0, hz1, hz2⟩ := info_parts info5
  refine Lib.wpList_append_own_string w hgd sl x 44 9 ho B 5 i0 Tryz.underlying44 Tryz.underlying9 hi hz0 hz1 hz2 v l.length (bcs l) hs hown s hx (by unfold maxLen; omega) (by omega) hB ?_
  intro v' w' h1 h2 _
  refine h v' w' ?_ ?_ h2.size
  · show Own _ _ _ _
    unfold Own
    rw [bcs_append, List.length_append, bl_length, ← strCells_bcs]; exact h1
  · exact (Below.refl B w).grown h2 hB hown.row
end
theorem news_one (w : World) (c : UInt8) (T : TypeId) : ∀ j u, (bcs [c])[j]? = some u → (w.alloc (.cells #[.int .u8 (c.toNat : Int)] T)).cell? ((⟨w.heap.size, 0, none⟩ : Addr).add j) = some u := cell_one_new _ _ _
theorem news_two (w : World) (c d : UInt8) (T : TypeId) : ∀ j u, (bcs [c, d])[j]? = some u → (w.alloc (.cells #[.int .u8 (c.toNat : Int), .int .u8 (d.toNat : Int)] T)).cell? ((⟨w.heap.size, 0, none⟩ : Addr).add j) = some u := cell_two_new _ _ _ _
/-- digits with a point ahead of the last bh of them. -/
def pointed (l : List UInt8) (bh : Nat) : List UInt8 :=
  if l.length ≤ bh then 48 :: 46 :: (List.replicate (bh - l.length) 48 ++ l) else l.take (l.length - bh) ++ 46 :: l.drop (l.length - bh)
end Go.Proofs.YtjidnceccpmheaaGreatDoor
