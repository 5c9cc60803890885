/- chunk's Source in memory: plain facts, and what lies where. -/
import Derived.Test.YtpkmgkdgjghpdaaRows
import Derived.WalkKit
import Derived.WalkSpells
import Derived.WalkLawsBesides
import Derived.Outline
import Derived.Laws.Rows
import Derived.Laws.BytesArg
import Derived.Laws.IdiomStrings
import Derived.Laws.CopyOwn
import Derived.Lib.AppendStr
import Derived.Deep.OwnRows
import Derived.Deep.RegionHeld3
import Derived.Deep.RegionWith
import Derived.BigQuiet
namespace Go.Proofs.Ytpkmgkdgjghpdaa
open Go.RowKit
set_option linter.unusedSimpArgs false
set_option linter.unusedVariables false
theorem hide {p : Prop} (h : p) : Hid p := h
theorem below_al {w W : World} {o : Obj} (h : Below w.heap.size w W) : Below w.heap.size w (W.alloc o) := h.alloc h.size o
theorem below_set {w W : World} {i o : Nat} {v : Value} (h : Below w.heap.size w W) (hi : w.heap.size ≤ i) : Below w.heap.size w (W.setCell ⟨i, o, none⟩ v) := h.setCell hi v
theorem below_then {w W W1 : World} (h : Below w.heap.size w W) (hb : Below W.heap.size W W1) : Below w.heap.size w W1 := h.trans (hb.mono h.size)
def bl (s : ByteArray) : List UInt8 := s.data.toList
theorem bl_length (s : ByteArray) : (bl s).length = s.size := by show s.data.toList.length = s.data.size; simp
def mkB (l : List UInt8) : ByteArray := ⟨l.toArray⟩
theorem bl_mkB (l : List UInt8) : bl (mkB l) = l := by simp [bl, mkB]
theorem mkB_size (l : List UInt8) : (mkB l).size = l.length := by rw [← bl_length, bl_mkB]
theorem mkB_bl (s : ByteArray) : mkB (bl s) = s := by cases s; simp [bl, mkB]
theorem mkB_inj {a b : List UInt8} (h : mkB a = mkB b) : a = b := by rw [← bl_mkB a, h, bl_mkB]
theorem add_block (a : Addr) (i : Nat) : (a.add i).block = a.block := by unfold Addr.add; split <;> rfl
theorem add_add (a : Addr) (i j : Nat) : (a.add i).add j = a.add (i + j) := by
  unfold Addr.add
  by_cases hi : i = 0
  · subst hi; simp
  · by_cases hj : j = 0
    · subst hj; simp
    · simp [hi, hj, Nat.add_assoc]
theorem add_z (g i : Nat) : (⟨g, 0, none⟩ : Addr).add i = ⟨g, i, none⟩ := by unfold Addr.add; split <;> simp_all
/-- A slice of bytes reads as l. -/
def SL (w : World) (v : Value) (l : List UInt8) : Prop :=
  (v = .slice none 0 0 ∧ l = []) ∨ ∃ (a : Addr) (c : Nat), v = .slice (some a) l.length c ∧ l.length ≤ c ∧ c ≤ maxLen ∧ ∀ i (h : i < l.length), a.block < w.heap.size ∧ w.cell? (a.add i) = some (.int .u8 (l[i].toNat : Int))
theorem SL.conv {w : World} {v : Value} {l : List UInt8} (h : SL w v l) : (convert 33 9 v).run Try.prog w = .ok (.string (mkB l)) w := by
  rcases h with ⟨rfl, rfl⟩ | ⟨a, c, rfl, _, _, hc⟩
  · exact run_convert_bytes_nil w 33 5 Try.underlying33 Try.underlying5 0 0 9 Try.underlying9
  · exact run_convert_bytes_back w 33 9 5 a c l Try.underlying33 Try.underlying5 Try.underlying9 (fun j hj => (hc j hj).2)
theorem SL.len {w : World} {v : Value} {l : List UInt8} (h : SL w v l) : ∃ a c, v = .slice a l.length c ∧ l.length ≤ c ∧ c ≤ maxLen := by
  rcases h with ⟨rfl, rfl⟩ | ⟨a, c, rfl, h1, h2, _⟩
  · exact ⟨none, 0, rfl, Nat.le_refl _, by decide⟩
  · exact ⟨some a, c, rfl, h1, h2⟩
/-- The slice's block, where it has one, reads as before. -/
theorem SL.of {w W : World} {v : Value} {l : List UInt8} (h : SL w v l) (hs : w.heap.size ≤ W.heap.size) (hb : ∀ k, v.ownBlock = some k → k < w.heap.size → W.heap[k]? = w.heap[k]?) : SL W v l := by
  rcases h with ⟨rfl, rfl⟩ | ⟨a, c, rfl, h1, h2, hc⟩
  · exact Or.inl ⟨rfl, rfl⟩
  · exact Or.inr ⟨a, c, rfl, h1, h2, fun i hi => ⟨Nat.lt_of_lt_of_le (hc i hi).1 hs, (World.cell?_of_block (a := a.add i) (by rw [add_block]; exact hb a.block rfl (hc i hi).1)).trans (hc i hi).2⟩⟩
theorem SL.below {w W : World} {v : Value} {l : List UInt8} (h : SL w v l) (hb : Below w.heap.size w W) : SL W v l := h.of hb.size fun k _ hk => hb.block k hk
/-- A piece of a slice of bytes. -/
theorem SL.piece {w : World} {a : Addr} {c : Nat} {l : List UInt8} (h : SL w (.slice (some a) l.length c) l) (lo hi : Nat) (h1 : lo ≤ hi) (h2 : hi ≤ l.length) : SL w (.slice (some (a.add lo)) (hi - lo) (c - lo)) ((l.drop lo).take (hi - lo)) := by
  have hl : ((l.drop lo).take (hi - lo)).length = hi - lo := by rw [List.length_take, List.length_drop]; omega
  rcases h with ⟨e, _⟩ | ⟨a', c', e, h3, h4, hc⟩
  · cases e
  · simp only [Value.slice.injEq, Option.some.injEq] at e
    obtain ⟨rfl, _, rfl⟩ := e
    refine Or.inr ⟨a.add lo, c - lo, by rw [hl], by rw [hl]; omega, by omega, fun i hi' => ?_⟩
    rw [hl] at hi'
    obtain ⟨k1, k2⟩ := hc (lo + i) (by omega)
    refine ⟨by rw [add_block]; exact k1, ?_⟩
    rw [add_add, k2]
    simp
/-- Bytes as cells. -/
def bcs (l : List UInt8) : List Value := l.map fun c => Value.int .u8 (c.toNat : Int)
theorem bcs_length (l : List UInt8) : (bcs l).length = l.length := by simp [bcs]
theorem bcs_append (a b : List UInt8) : bcs (a ++ b) = bcs a ++ bcs b := by simp [bcs]
theorem bcs_drop (l : List UInt8) (k : Nat) : bcs (l.drop k) = (bcs l).drop k := by simp [bcs, List.map_drop]
theorem bcs_take (l : List UInt8) (k : Nat) : bcs (l.take k) = (bcs l).take k := by simp [bcs, List.map_take]
theorem bcs_one (l : List UInt8) : ∀ v ∈ bcs l, v.oneCell' = true := by
  intro u hu
  simp only [bcs, List.mem_map] at hu
  obtain ⟨c, _, rfl⟩ := hu
  rfl
theorem SL.news {w : World} {a : Addr} {n c : Nat} {l : List UInt8} (h : SL w (.slice (some a) n c) l) : ∀ j u, (bcs l)[j]? = some u → w.cell? (a.add j) = some u := by
  rcases h with ⟨e, _⟩ | ⟨a', c', e, h3, h4, hc⟩
  · cases e
  · simp only [Value.slice.injEq, Option.some.injEq] at e
    obtain ⟨rfl, _, rfl⟩ := e
    intro j u hj
    simp only [bcs, List.getElem?_map] at hj
    obtain ⟨x, hx, rfl⟩ := Option.map_eq_some_iff.1 hj
    obtain ⟨hjl, rfl⟩ := List.getElem?_eq_some_iff.1 hx
    exact (hc j hjl).2
/-- v is a slice of the call's own (from block B on) of the bytes l. -/
def Own (W : World) (B : Nat) (v : Value) (l : List UInt8) : Prop := W.ownsRow B 5 1 v l.length (bcs l)
theorem own_nil (W : World) (B : Nat) : Own W B (.slice none 0 0) [] := World.ownsRow_nil _ _ _ _
theorem Own.alloc {W : World} {B : Nat} {v : Value} {l : List UInt8} (h : Own W B v l) (o : Obj) : Own (W.alloc o) B v l := World.ownsRow.alloc h o
theorem Own.row {W : World} {B : Nat} {v : Value} {l : List UInt8} (h : Own W B v l) : ∀ k, v.ownBlock = some k → B ≤ k ∧ k < W.heap.size := World.ownsRow.lt h
theorem Own.of {W W1 : World} {B : Nat} {v : Value} {l : List UInt8} (h : Own W B v l) (hb : ∀ k, v.ownBlock = some k → k < W.heap.size → W1.heap[k]? = W.heap[k]?) : Own W1 B v l := by
  have hr := h.row
  obtain ⟨h0, h⟩ := h
  refine ⟨h0, ?_⟩
  rcases h with ⟨rfl, e⟩ | ⟨g, cap, cur, rfl, h2, h3, h4⟩
  · exact Or.inl ⟨rfl, e⟩
  · exact Or.inr ⟨g, cap, cur, rfl, h2, by rw [hb g rfl (hr g rfl).2]; exact h3, h4⟩
/-- Where the row lies. -/
theorem Own.at {W : World} {B : Nat} {v : Value} {l : List UInt8} (h : Own W B v l) : (v = .slice none 0 0 ∧ l = []) ∨ ∃ g cap cur, v = .slice (some ⟨g, 0, none⟩) l.length cap ∧ B ≤ g ∧ g < W.heap.size ∧ W.heap[g]? = some (.cells cur 5 (0, 0)) ∧ l.length ≤ cap ∧ cap ≤ maxLen ∧ cur.size = cap ∧ cur.toList.take l.length = bcs l := by
  have hr := h.row
  obtain ⟨h0, h⟩ := h
  rcases h with ⟨rfl, e⟩ | ⟨g, cap, cur, rfl, h2, h3, h4, h5, h6, h7⟩
  · exact Or.inl ⟨rfl, List.eq_nil_of_length_eq_zero e⟩
  · exact Or.inr ⟨g, cap, cur, rfl, h2, (hr g rfl).2, h3, h4, h5, by simpa using h6, by simpa using h7⟩
theorem Own.sl {W : World} {B : Nat} {v : Value} {l : List UInt8} (h : Own W B v l) : SL W v l := by
  have hh := h
  rcases h.at with ⟨rfl, rfl⟩ | ⟨g, cap, cur, rfl, h1, h2, h3, h4, h5, h6, h7⟩
  · exact Or.inl ⟨rfl, rfl⟩
  · refine Or.inr ⟨_, _, rfl, h4, h5, fun i hi => ⟨h2, ?_⟩⟩
    rw [add_z, World.ownsRow.cellAt hh i (by simpa using hi)]
    simp [bcs, hi]
theorem info5 : (Try.prog.info? 5).map (fun i => (i.zero, i.size, i.bytes)) = some (some (.int .u8 0), 1, 1) := by kernel_rfl
theorem size5 : (Try.prog.info? 5).map (·.size) = some 1 := by kernel_rfl
/-- Nothing that was there has turned, but block i and the row of v. -/
structure Fr (i : Nat) (v : Value) (w w' : World) : Prop where
  os : w'.os = w.os
  tape : w'.tape = w.tape
  output : w'.output = w.output
  size : w.heap.size ≤ w'.heap.size
  block : ∀ k, k < w.heap.size → k ≠ i → v.ownBlock ≠ some k → w'.heap[k]? = w.heap[k]?
theorem Fr.refl (i : Nat) (v : Value) (w : World) : Fr i v w w := ⟨rfl, rfl, rfl, Nat.le_refl _, fun _ _ _ _ => rfl⟩
theorem Fr.then {i : Nat} {v : Value} {w W W1 : World} (h : Fr i v w W) (hb : Below W.heap.size W W1) : Fr i v w W1 :=
  ⟨hb.os.trans h.os, hb.tape.trans h.tape, hb.output.trans h.output, Nat.le_trans h.size hb.size, fun k hk hi hv => (hb.block k (Nat.lt_of_lt_of_le hk h.size)).trans (h.block k hk hi hv)⟩
theorem Fr.of_below {i : Nat} {v : Value} {w W : World} (hb : Below w.heap.size w W) : Fr i v w W := (Fr.refl i v w).then hb
theorem Fr.below {i B : Nat} {v : Value} {w W : World} (h : Fr i v w W) (hi : B ≤ i) (hB : B ≤ w.heap.size) (hv : ∀ k, v.ownBlock = some k → B ≤ k) : Below B w W :=
  ⟨h.os, h.tape, h.output, h.size, fun k hk => h.block k (by omega) (by omega) (fun e => by have := hv k e; omega)⟩
theorem Fr.set {i o : Nat} {v u : Value} {w W : World} (h : Fr i v w W) : Fr i v w (W.setCell ⟨i, o, none⟩ u) :=
  ⟨h.os, h.tape, h.output, by simpa using h.size, fun k hk hi hv => by rw [Below.heap_setCell _ _ _ _ hi]; exact h.block k hk hi hv⟩
/-- A Source, as its block holds it. -/
def CB (W : World) (i : Nat) (lim : Nat) (v : Value) (gone taken once : Nat) : Prop := W.heap[i]? = some (.cells #[.int .i64 lim, v, .int .i64 gone, .int .i64 taken, .int .i64 once] 48 (0, 0))
theorem CB.cells {W : World} {i lim gone taken once : Nat} {v : Value} (q : CB W i lim v gone taken once) : W.cell? ⟨i, 0, none⟩ = some (.int .i64 lim) ∧ W.cell? ⟨i, 1, none⟩ = some v ∧ W.cell? ⟨i, 2, none⟩ = some (.int .i64 gone) ∧ W.cell? ⟨i, 3, none⟩ = some (.int .i64 taken) ∧ W.cell? ⟨i, 4, none⟩ = some (.int .i64 once) ∧ W.frozen? ⟨i, 0, none⟩ = false ∧ W.frozen? ⟨i, 1, none⟩ = false ∧ W.frozen? ⟨i, 2, none⟩ = false ∧ W.frozen? ⟨i, 3, none⟩ = false ∧ W.frozen? ⟨i, 4, none⟩ = false := by
  unfold CB at q
  simp [World.cell?, World.frozen?, q]
theorem CB.lt {W : World} {i lim gone taken once : Nat} {v : Value} (q : CB W i lim v gone taken once) : i < W.heap.size := by
  by_cases h : i < W.heap.size
  · exact h
  · unfold CB at q
    rw [Array.getElem?_eq_none (by omega)] at q
    cases q
theorem CB.same {W W1 : World} {i lim gone taken once : Nat} {v : Value} (q : CB W i lim v gone taken once) (h : W1.heap[i]? = W.heap[i]?) : CB W1 i lim v gone taken once := by
  unfold CB; rw [h]; exact q
theorem CB.set1 {W : World} {i lim gone taken once : Nat} {v : Value} (q : CB W i lim v gone taken once) (u : Value) : CB (W.setCell ⟨i, 1, none⟩ u) i lim u gone taken once := by
  unfold CB at q ⊢
  rw [setCell_eq_setRow W i 1 _ _ (0, 0) _ q]
  rw [setRow_heap W i _ _ _ (0, 0) q]
  rfl
theorem CB.set2 {W : World} {i lim gone taken once : Nat} {v : Value} (q : CB W i lim v gone taken once) (u : Nat) : CB (W.setCell ⟨i, 2, none⟩ (.int .i64 u)) i lim v u taken once := by
  unfold CB at q ⊢
  rw [setCell_eq_setRow W i 2 _ _ (0, 0) _ q]
  rw [setRow_heap W i _ _ _ (0, 0) q]
  rfl
theorem CB.set3 {W : World} {i lim gone taken once : Nat} {v : Value} (q : CB W i lim v gone taken once) (u : Nat) : CB (W.setCell ⟨i, 3, none⟩ (.int .i64 u)) i lim v gone u once := by
  unfold CB at q ⊢
  rw [setCell_eq_setRow W i 3 _ _ (0, 0) _ q]
  rw [setRow_heap W i _ _ _ (0, 0) q]
  rfl
theorem CB.set4 {W : World} {i lim gone taken once : Nat} {v : Value} (q : CB W i lim v gone taken once) (u : Nat) : CB (W.setCell ⟨i, 4, none⟩ (.int .i64 u)) i lim v gone taken u := by
  unfold CB at q ⊢
  rw [setCell_eq_setRow W i 4 _ _ (0, 0) _ q]
  rw [setRow_heap W i _ _ _ (0, 0) q]
  rfl
/-- A Source to which all was fed, of which so much is taken, and was once: its block, its room, and what holds of its numbers. -/
structure Ch (W : World) (i B : Nat) (v : Value) (gone lim : Nat) (all : List UInt8) (taken once : Nat) : Prop where
  cb : CB W i lim v gone taken once
  own : Own W B v (all.drop gone)
  iB : i < B
  hB : B ≤ W.heap.size
  g1 : gone ≤ all.length
  g2 : gone = 0 ∨ gone + 16 ≤ once
  t1 : taken ≤ once
  t2 : once ≤ taken + 16
  t3 : once ≤ all.length
  l1 : all.length ≤ lim
  l2 : lim ≤ 65536
theorem Ch.gt {W : World} {i B gone lim taken once : Nat} {v : Value} {all : List UInt8} (h : Ch W i B v gone lim all taken once) : gone ≤ taken := by have := h.g2; have := h.t2; omega
theorem Ch.then {W W1 : World} {i B gone lim taken once : Nat} {v : Value} {all : List UInt8} (h : Ch W i B v gone lim all taken once) (hb : Below W.heap.size W W1) : Ch W1 i B v gone lim all taken once :=
  { h with cb := h.cb.same (hb.block i h.cb.lt), own := h.own.of fun k _ hk => hb.block k hk, hB := Nat.le_trans h.hB hb.size }
theorem Ch.len {W : World} {i B gone lim taken once : Nat} {v : Value} {all : List UInt8} (h : Ch W i B v gone lim all taken once) : ∃ a c, v = .slice a (all.length - gone) c ∧ all.length - gone ≤ c ∧ c ≤ maxLen := by
  obtain ⟨a, c, h1, h2, h3⟩ := h.own.sl.len
  rw [List.length_drop] at h1 h2
  exact ⟨a, c, h1, h2, h3⟩
end Go.Proofs.Ytpkmgkdgjghpdaa
