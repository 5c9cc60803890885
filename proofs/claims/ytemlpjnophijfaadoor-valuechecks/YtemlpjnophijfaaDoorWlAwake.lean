/- The laws' text, list, awake: walked. -/
import Derived.Test.YtemlpjnophijfaaDoorWkCmp
namespace Go.Proofs.YtemlpjnophijfaaDoor
open Go.RowKit
set_option linter.unusedSimpArgs false
set_option linter.unusedVariables false
/-- A text, and a list's head. -/
def tx (s : ByteArray) : Hd := ⟨5, false, false, ⟨#[]⟩, 0, 0, s, []⟩
theorem text_any (s : ByteArray) (w : World) : Calls Tryd.prog 26 #[.string s] w fun e w' => e = .returned (.agg (vals (tx s) (.slice none 0 0) (.slice none 0 0))) ∧ Below w.heap.size w w' := by
  go_enter Tryd.func26, Tryd.ntmps26
  go_wp2_with fail
  exact bodyPost_ret (v := .agg #[.int .i64 5, .bool false, .bool false, .string ⟨#[]⟩, .int .i64 0, .int .u64 0, .string s, .slice none 0 0, .slice none 0 0]) (by simp [results, Tryd.results26, go_sem]) rfl ⟨rfl, below_al (Below.refl _ _)⟩
theorem list_any (a : Option Addr) (m c : Nat) (w : World) : Calls Tryd.prog 21 #[.slice a m c] w fun e w' => e = .returned (.agg #[.int .i64 7, .bool false, .bool false, .string ⟨#[]⟩, .int .i64 0, .int .u64 0, .string ⟨#[]⟩, .slice none 0 0, .slice a m c]) ∧ Below w.heap.size w w' := by
  go_enter Tryd.func21, Tryd.ntmps21
  go_wp2_with fail
  exact bodyPost_ret (v := .agg #[.int .i64 7, .bool false, .bool false, .string ⟨#[]⟩, .int .i64 0, .int .u64 0, .string ⟨#[]⟩, .slice none 0 0, .slice a m c]) (by simp [results, Tryd.results21, go_sem]) rfl ⟨rfl, below_al (Below.refl _ _)⟩
/-- What the law's own structs are. -/
theorem rdy0 (h : Hd) (hn : h.names = []) (w : World) (h1 : h.text.size ≤ 100) (h2 : h.dig.size ≤ 100) : Rdy 1 w ((h, []) : VT 1) (.slice none 0 0) (.slice none 0 0) :=
  ⟨⟨Or.inl ⟨rfl, hn⟩, Or.inl ⟨rfl, rfl⟩⟩, ⟨by simp only; omega, by simp only; omega, by simp only; rw [hn]; simp, by simp only; rw [hn]; intro s hs; simp at hs, by intro y hy; simp at hy⟩, by show (1 : Nat) ≤ 200000; omega⟩
theorem okA : okT ⟨#[97]⟩ = true := by decide +kernel
theorem okAB : okT ⟨#[97, 98]⟩ = true := by decide +kernel
theorem chk_tx (s : ByteArray) (hs : s.size ≤ 100) (ho : okT s = true) : Chk 1 ((tx s, []) : VT 1) 0 := by
  refine Or.inr (Or.inr ⟨rfl, ⟨⟨by show (1 : Int) ≤ 5; decide, by show (5 : Int) ≤ 9; decide, rfl, Or.inr rfl⟩, ⟨fun h => absurd h (by show ¬ (5 : Int) = 3; decide), fun _ => ho, fun h => absurd h (by show ¬ (5 : Int) = 8; decide), fun h => absurd h (by show ¬ (5 : Int) = 9; decide)⟩, by intro y hy; simp at hy⟩, ⟨⟨?_, by show 0 ≤ 256; decide, by intro s hs; simp [tx] at hs, by intro y hy; simp at hy⟩, by show 1 ≤ 16; decide, by show (1 : Nat) ≤ 4096; omega⟩⟩)
  show (s.size : Int) ≤ 4096
  omega
theorem chk_nl : Chk 1 ((zr 1, []) : VT 1) 0 :=
  Or.inr (Or.inr ⟨rfl, ⟨⟨by decide, by decide, rfl, Or.inr rfl⟩, ⟨fun h => absurd h (by decide), fun h => absurd h (by decide), fun h => absurd h (by decide), fun h => absurd h (by decide)⟩, by intro y hy; simp at hy⟩, ⟨⟨by decide, by decide, by intro s hs; simp [zr] at hs, by intro y hy; simp at hy⟩, by decide, by decide⟩⟩)
theorem chk_ls : Chk 1 ((zr 7, []) : VT 1) 0 :=
  Or.inr (Or.inr ⟨rfl, ⟨⟨by decide, by decide, rfl, Or.inr rfl⟩, ⟨fun h => absurd h (by decide), fun h => absurd h (by decide), fun h => absurd h (by decide), fun h => absurd h (by decide)⟩, by intro y hy; simp at hy⟩, ⟨⟨by decide, by decide, by intro s hs; simp [zr] at hs, by intro y hy; simp at hy⟩, by decide, by decide⟩⟩)
theorem chk_no : Chk 1 ((zr 0, []) : VT 1) 40 := Or.inl ⟨rfl, fun h => absurd h.1.1 (by decide)⟩
/-- The two calls of Cmp. -/
theorem cmp_one (w : World) (g : Ut.Gu w) : Calls Tryd.prog 18 #[.agg (vals (tx ⟨#[97]⟩) (.slice none 0 0) (.slice none 0 0)), .agg (vals (tx ⟨#[97, 98]⟩) (.slice none 0 0) (.slice none 0 0))] w fun e w' => e = .returned (.tuple #[.int .i64 (-1), .int .i64 0]) ∧ Below w.heap.size w w' :=
  vcmp_any 1 1 (tx ⟨#[97]⟩, []) (tx ⟨#[97, 98]⟩, []) _ _ _ _ w (rdy0 _ rfl w (by decide) (by decide)) (rdy0 _ rfl w (by decide) (by decide)) g 0 0 (-1) (chk_tx _ (by decide) okA) (chk_tx _ (by decide) okAB)
    (fun _ _ W hb => by
      have := compare_text (tx ⟨#[97]⟩) (tx ⟨#[97, 98]⟩) none none none none 0 0 0 0 0 0 0 0 W rfl rfl
      have e : cmpB (tx ⟨#[97]⟩).text (tx ⟨#[97, 98]⟩).text = -1 := by decide +kernel
      rw [e] at this
      exact this)
theorem cmp_two (w : World) (g : Ut.Gu w) : Calls Tryd.prog 18 #[.agg (vals (zr 7) (.slice none 0 0) (.slice none 0 0)), .agg (vals (tx ⟨#[97]⟩) (.slice none 0 0) (.slice none 0 0))] w fun e w' => e = .returned (.tuple #[.int .i64 1, .int .i64 0]) ∧ Below w.heap.size w w' :=
  vcmp_any 1 1 (zr 7, []) (tx ⟨#[97]⟩, []) _ _ _ _ w (rdy0 _ rfl w (by decide) (by decide)) (rdy0 _ rfl w (by decide) (by decide)) g 0 0 1 chk_ls (chk_tx _ (by decide) okA)
    (fun _ _ W hb => by
      have := compare_kinds (zr 7) (tx ⟨#[97]⟩) none none none none 0 0 0 0 0 0 0 0 W (by decide)
      have e : cmpI (zr 7).kind (tx ⟨#[97]⟩).kind = 1 := by decide +kernel
      rw [e] at this
      exact this)
/-- A null in lists, one in another. -/
def nest : (k : Nat) → VT (k + 1)
  | 0 => (zr 1, [])
  | k + 1 => (zr 7, [nest k])
def hdk : Nat → Hd
  | 0 => zr 1
  | _ + 1 => zr 7
theorem vhd_nest (k : Nat) : vhd (k + 1) (nest k) = hdk k := by cases k <;> rfl
/-- How it lies in memory, above block D. -/
def DP (D : Nat) (W : World) : Nat → Value → Prop
  | 0, ls => ls = .slice none 0 0
  | k + 1, ls => ∃ B ls', ls = .slice (some ⟨B, 0, none⟩) 1 1 ∧ D < B ∧ W.heap[B]? = some (.cells (vals (hdk k) (.slice none 0 0) ls') 29 (0, 0)) ∧ DP D W k ls'
theorem DP.keep {D : Nat} {W W' : World} (h : ∀ B, D < B → B < W.heap.size → W'.heap[B]? = W.heap[B]?) : ∀ {k : Nat} {ls : Value}, DP D W k ls → DP D W' k ls
  | 0, _, q => q
  | k + 1, ls, ⟨B, ls', e, hB, hh, q⟩ => ⟨B, ls', e, hB, (h B hB (Array.getElem?_eq_some_iff.1 hh).1).trans hh, DP.keep h q⟩
theorem DP.rd {D : Nat} {W : World} : ∀ {k : Nat} {ls : Value}, DP D W k ls → RD (k + 1) W (nest k) (.slice none 0 0) ls
  | 0, ls, q => by
    obtain rfl : ls = .slice none 0 0 := q
    exact ⟨Or.inl ⟨rfl, rfl⟩, Or.inl ⟨rfl, rfl⟩⟩
  | k + 1, ls, ⟨B, ls', e, hB, hh, q⟩ => by
    refine ⟨Or.inl ⟨rfl, rfl⟩, Or.inr ⟨B, 0, 1, none, e, Nat.le_refl _, by decide, fun _ => ⟨rfl, (Array.getElem?_eq_some_iff.1 hh).1⟩, fun i hi => ?_⟩⟩
    have hi0 : i = 0 := by
      have : i < 1 := hi
      omega
    subst hi0
    refine ⟨.slice none 0 0, ls', ?_, q.rd⟩
    show W.rangeAt B (0 + 0 * 9) (vals (vhd (k + 1) (nest k)) _ _).toList
    rw [vhd_nest]
    exact Bx.range (h := hdk k) ⟨hh⟩
theorem DP.slice {D : Nat} {W : World} {k : Nat} {ls : Value} (h : DP D W k ls) : ∃ a m c, ls = .slice a m c := by
  cases k with
  | zero => exact ⟨none, 0, 0, h⟩
  | succ k => obtain ⟨B, ls', e, _⟩ := h; exact ⟨_, _, _, e⟩
theorem set_heap (w : World) (g i : Nat) (c c' : Array Value) (t : TypeId) (v : Value) (hc : c.setIfInBounds i v = c') (hg : w.heap[g]? = some (.cells c t (0, 0))) :
    (w.setCell ⟨g, i, none⟩ v).heap[g]? = some (.cells c' t (0, 0)) ∧ ∀ k, k ≠ g → (w.setCell ⟨g, i, none⟩ v).heap[k]? = w.heap[k]? := by
  rw [← hc, setCell_eq_setRow w g i c t (0, 0) v hg]
  exact ⟨setRow_heap w g c _ t (0, 0) hg, fun k hk => setRow_other w g k _ hk⟩
/-- Nine cells that are written one behind the other. -/
theorem set_nine (w : World) (g : Nat) (T : TypeId) (a0 a1 a2 a3 a4 a5 a6 a7 a8 b0 b1 b2 b3 b4 b5 b6 b7 b8 : Value) (hg : w.heap[g]? = some (.cells #[a0, a1, a2, a3, a4, a5, a6, a7, a8] T (0, 0))) (W : World)
    (hW : (((((((((w.setCell ⟨g, 0, none⟩ b0).setCell ⟨g, 1, none⟩ b1).setCell ⟨g, 2, none⟩ b2).setCell ⟨g, 3, none⟩ b3).setCell ⟨g, 4, none⟩ b4).setCell ⟨g, 5, none⟩ b5).setCell ⟨g, 6, none⟩ b6).setCell ⟨g, 7, none⟩ b7).setCell ⟨g, 8, none⟩ b8) = W) :
    W.heap[g]? = some (.cells #[b0, b1, b2, b3, b4, b5, b6, b7, b8] T (0, 0)) ∧ ∀ k, k ≠ g → W.heap[k]? = w.heap[k]? := by
  have h0 := set_heap _ g 0 _ #[b0, a1, a2, a3, a4, a5, a6, a7, a8] T b0 rfl hg
  have h1 := set_heap _ g 1 _ #[b0, b1, a2, a3, a4, a5, a6, a7, a8] T b1 rfl h0.1
  have h2 := set_heap _ g 2 _ #[b0, b1, b2, a3, a4, a5, a6, a7, a8] T b2 rfl h1.1
  have h3 := set_heap _ g 3 _ #[b0, b1, b2, b3, a4, a5, a6, a7, a8] T b3 rfl h2.1
  have h4 := set_heap _ g 4 _ #[b0, b1, b2, b3, b4, a5, a6, a7, a8] T b4 rfl h3.1
  have h5 := set_heap _ g 5 _ #[b0, b1, b2, b3, b4, b5, a6, a7, a8] T b5 rfl h4.1
  have h6 := set_heap _ g 6 _ #[b0, b1, b2, b3, b4, b5, b6, a7, a8] T b6 rfl h5.1
  have h7 := set_heap _ g 7 _ #[b0, b1, b2, b3, b4, b5, b6, b7, a8] T b7 rfl h6.1
  have h8 := set_heap _ g 8 _ #[b0, b1, b2, b3, b4, b5, b6, b7, b8] T b8 rfl h7.1
  rw [hW] at h8
  refine ⟨h8.1, fun k hk => ?_⟩
  rw [h8.2 k hk, h7.2 k hk, h6.2 k hk, h5.2 k hk, h4.2 k hk, h3.2 k hk, h2.2 k hk, h1.2 k hk, h0.2 k hk]
def twH : Hd := ⟨8, false, false, ⟨#[]⟩, 0, 0, ⟨#[]⟩, [⟨#[97]⟩, ⟨#[97]⟩]⟩
/-- Where awake stands behind k rounds: g is the block of the first names. -/
structure Aw (w : World) (g k : Nat) (ls : Value) (W : World) : Prop where
  below : Below w.heap.size w W
  lt : w.heap.size < g
  nul : W.heap[w.heap.size]? = some (.cells (vals (zr 1) (.slice none 0 0) (.slice none 0 0)) 29 (0, 0))
  nms : W.heap[g]? = some (.cells #[.string ⟨#[97]⟩, .string ⟨#[97]⟩] 9 (0, 0))
  els : W.heap[g + 1]? = some (.cells #[.int .i64 1, .bool false, .bool false, .string ⟨#[]⟩, .int .i64 0, .int .u64 0, .string ⟨#[]⟩, .slice none 0 0, .slice none 0 0, .int .i64 1, .bool false, .bool false, .string ⟨#[]⟩, .int .i64 0, .int .u64 0, .string ⟨#[]⟩, .slice none 0 0, .slice none 0 0] 29 (0, 0))
  two : W.heap[g + 1 + 1]? = some (.cells (vals twH (.slice (some ⟨g, 0, none⟩) 2 2) (.slice (some ⟨g + 1, 0, none⟩) 2 2)) 29 (0, 0))
  dp : W.heap[g + 1 + 1 + 1]? = some (.cells (vals (hdk k) (.slice none 0 0) ls) 29 (0, 0))
  ds : DP (g + 1 + 1 + 1) W k ls
theorem heap_lt {W : World} {i : Nat} {o : Obj} (h : W.heap[i]? = some o) : i < W.heap.size := (Array.getElem?_eq_some_iff.1 h).1
theorem Aw.then {w : World} {g k : Nat} {ls : Value} {W W1 : World} (h : Aw w g k ls W) (hb : Below W.heap.size W W1) : Aw w g k ls W1 :=
  ⟨below_then h.below hb, h.lt, (hb.block _ (heap_lt h.nul)).trans h.nul, (hb.block _ (heap_lt h.nms)).trans h.nms, (hb.block _ (heap_lt h.els)).trans h.els, (hb.block _ (heap_lt h.two)).trans h.two, (hb.block _ (heap_lt h.dp)).trans h.dp, h.ds.keep fun B _ hB => hb.block B hB⟩
theorem Aw.step {w v1 : World} {g k : Nat} {ls : Value} (h : Aw w g k ls v1) (B : Nat) (hB : g + 1 + 1 + 1 < B) (hel : v1.heap[B]? = some (.cells (vals (hdk k) (.slice none 0 0) ls) 29 (0, 0))) :
    Aw w g (k + 1) (.slice (some ⟨B, 0, none⟩) 1 1) (((((((((v1.setCell ⟨g + 1 + 1 + 1, 0, none⟩ (.int .i64 7)).setCell ⟨g + 1 + 1 + 1, 1, none⟩ (.bool false)).setCell ⟨g + 1 + 1 + 1, 2, none⟩ (.bool false)).setCell ⟨g + 1 + 1 + 1, 3, none⟩ (.string ⟨#[]⟩)).setCell ⟨g + 1 + 1 + 1, 4, none⟩ (.int .i64 0)).setCell ⟨g + 1 + 1 + 1, 5, none⟩ (.int .u64 0)).setCell ⟨g + 1 + 1 + 1, 6, none⟩ (.string ⟨#[]⟩)).setCell ⟨g + 1 + 1 + 1, 7, none⟩ (.slice none 0 0)).setCell ⟨g + 1 + 1 + 1, 8, none⟩ (.slice (some ⟨B, 0, none⟩) 1 1)) := by
  obtain ⟨k1, k2⟩ := set_nine v1 (g + 1 + 1 + 1) 29 _ _ _ _ _ _ _ _ _ (.int .i64 7) (.bool false) (.bool false) (.string ⟨#[]⟩) (.int .i64 0) (.int .u64 0) (.string ⟨#[]⟩) (.slice none 0 0) (.slice (some ⟨B, 0, none⟩) 1 1) h.dp _ rfl
  have hlt := h.lt
  refine ⟨?_, h.lt, (k2 _ (by omega)).trans h.nul, (k2 _ (by omega)).trans h.nms, (k2 _ (by omega)).trans h.els, (k2 _ (by omega)).trans h.two, k1, ⟨B, ls, rfl, hB, (k2 _ (by omega)).trans hel, h.ds.keep fun B' hB' _ => k2 _ (by omega)⟩⟩
  iterate 9 refine Below.setCell ?_ (by show w.heap.size ≤ g + 1 + 1 + 1; omega) _
  exact h.below
/-- Two nulls in a record, with one name. -/
def twice : VT 2 := (twH, [(zr 1, []), (zr 1, [])])
theorem Aw.rdT {w : World} {g k : Nat} {ls : Value} {W : World} (h : Aw w g k ls W) : Rdy 2 W twice (.slice (some ⟨g, 0, none⟩) 2 2) (.slice (some ⟨g + 1, 0, none⟩) 2 2) := by
  have hc1 : ∀ j, W.cell? ⟨g, j, none⟩ = (#[Value.string ⟨#[97]⟩, .string ⟨#[97]⟩] : Array Value)[j]? := fun j => by unfold World.cell?; rw [h.nms]; rfl
  have hc2 : ∀ j, W.cell? ⟨g + 1, j, none⟩ = (#[Value.int .i64 1, .bool false, .bool false, .string ⟨#[]⟩, .int .i64 0, .int .u64 0, .string ⟨#[]⟩, .slice none 0 0, .slice none 0 0, .int .i64 1, .bool false, .bool false, .string ⟨#[]⟩, .int .i64 0, .int .u64 0, .string ⟨#[]⟩, .slice none 0 0, .slice none 0 0] : Array Value)[j]? := fun j => by unfold World.cell?; rw [h.els]; rfl
  refine ⟨⟨Or.inr ⟨g, 0, 2, none, rfl, Nat.le_refl _, by decide, fun _ => ⟨rfl, heap_lt h.nms⟩, fun i hi => ?_⟩, Or.inr ⟨g + 1, 0, 2, none, rfl, Nat.le_refl _, by decide, fun _ => ⟨rfl, heap_lt h.els⟩, fun i hi => ?_⟩⟩, ?_, by decide⟩
  · rw [Nat.zero_add, hc1]
    have : i < 2 := hi
    match i, this with
    | 0, _ => rfl
    | 1, _ => rfl
  · have hi2 : i < 2 := hi
    match i, hi2 with
    | 0, _ =>
      refine ⟨.slice none 0 0, .slice none 0 0, ?_, ⟨Or.inl ⟨rfl, rfl⟩, Or.inl ⟨rfl, rfl⟩⟩⟩
      show W.rangeAt (g + 1) (0 + 0 * 9) (vals (zr 1) (.slice none 0 0) (.slice none 0 0)).toList
      intro j v hj
      rw [hc2]
      have hj9 : j < 9 := (List.getElem?_eq_some_iff.1 hj).1
      match j, hj9 with
      | 0, _ => exact hj
      | 1, _ => exact hj
      | 2, _ => exact hj
      | 3, _ => exact hj
      | 4, _ => exact hj
      | 5, _ => exact hj
      | 6, _ => exact hj
      | 7, _ => exact hj
      | 8, _ => exact hj
    | 1, _ =>
      refine ⟨.slice none 0 0, .slice none 0 0, ?_, ⟨Or.inl ⟨rfl, rfl⟩, Or.inl ⟨rfl, rfl⟩⟩⟩
      show W.rangeAt (g + 1) (0 + 1 * 9) (vals (zr 1) (.slice none 0 0) (.slice none 0 0)).toList
      intro j v hj
      rw [hc2]
      have hj9 : j < 9 := (List.getElem?_eq_some_iff.1 hj).1
      match j, hj9 with
      | 0, _ => exact hj
      | 1, _ => exact hj
      | 2, _ => exact hj
      | 3, _ => exact hj
      | 4, _ => exact hj
      | 5, _ => exact hj
      | 6, _ => exact hj
      | 7, _ => exact hj
      | 8, _ => exact hj
  · refine ⟨by decide, by decide, by decide, ?_, ?_⟩
    · intro s hs
      have : s = ⟨#[97]⟩ := by simpa [twice, twH] using hs
      rw [this]; decide
    · intro y hy
      have : y = ((zr 1, []) : VT 1) := by
        rcases List.mem_cons.1 hy with q | q
        · exact q
        · rcases List.mem_cons.1 q with q | q
          · exact q
          · exact absurd q (by simp)
      rw [this]
      exact ⟨by decide, by decide, by decide, by intro s hs; simp [zr] at hs, by intro y hy; simp at hy⟩
theorem chk_tw : Chk 2 twice 40 := by
  refine Or.inl ⟨rfl, fun h => ?_⟩
  have := (h.2.1.2.2.1 rfl).2.2
  revert this
  simp [twice, twH]
theorem isV_nest : ∀ k, IsV (k + 1) (nest k)
  | 0 => ⟨⟨by decide, by decide, rfl, Or.inr rfl⟩, ⟨fun h => absurd h (by decide), fun h => absurd h (by decide), fun h => absurd h (by decide), fun h => absurd h (by decide)⟩, by intro y hy; simp [nest] at hy⟩
  | k + 1 => ⟨⟨by show (1 : Int) ≤ 7; decide, by show (7 : Int) ≤ 9; decide, rfl, Or.inl (by show (7 : Int) ≤ 7; decide)⟩, ⟨fun h => absurd h (by show ¬ (7 : Int) = 3; decide), fun h => absurd h (by show ¬ (7 : Int) = 5; decide), fun h => absurd h (by show ¬ (7 : Int) = 8; decide), fun h => absurd h (by show ¬ (7 : Int) = 9; decide)⟩, by
      intro y hy
      have : y = nest k := by simpa [nest] using hy
      rw [this]; exact isV_nest k⟩
theorem sz_nest : ∀ k, Sz (k + 1) (nest k)
  | 0 => ⟨by decide, by decide, by decide, by intro s hs; simp [nest, zr] at hs, by intro y hy; simp [nest] at hy⟩
  | k + 1 => ⟨by show 0 ≤ 281474976710656; omega, by show 0 ≤ 281474976710656; omega, by show 0 ≤ 281474976710656; omega, by intro s hs; simp [nest, zr] at hs, by
      intro y hy
      have : y = nest k := by simpa [nest] using hy
      rw [this]; exact sz_nest k⟩
theorem dep_nest : ∀ k, dep (k + 1) (nest k) = k + 1
  | 0 => rfl
  | k + 1 => by
    show 1 + mxl [dep (k + 1) (nest k)] = _
    rw [dep_nest k]; simp [mxl]; omega
theorem siz_nest : ∀ k, siz (k + 1) (nest k) = k + 1
  | 0 => rfl
  | k + 1 => by
    show 1 + suml [siz (k + 1) (nest k)] = _
    rw [siz_nest k]; simp [suml]; omega
theorem chk_deep : Chk 17 (nest 16) 2 := Or.inr (Or.inl ⟨rfl, isV_nest 16, fun h => by have := h.2.1; rw [dep_nest] at this; omega⟩)
theorem Aw.rdD {w : World} {g k : Nat} {ls : Value} {W : World} (h : Aw w g k ls W) (hk : k ≤ 16) : Rdy (k + 1) W (nest k) (.slice none 0 0) ls := ⟨h.ds.rd, sz_nest k, by rw [siz_nest]; omega⟩
/-- A list of one. -/
theorem rd_list1 {n : Nat} {W : World} {x : VT n} {ns ls : Value} {B : Nat} (hB : W.heap[B]? = some (.cells (vals (vhd n x) ns ls) 29 (0, 0))) (h : RD n W x ns ls) : RD (n + 1) W ((zr 7, [x]) : VT (n + 1)) (.slice none 0 0) (.slice (some ⟨B, 0, none⟩) 1 1) := by
  refine ⟨Or.inl ⟨rfl, rfl⟩, Or.inr ⟨B, 0, 1, none, rfl, Nat.le_refl _, by decide, fun _ => ⟨rfl, heap_lt hB⟩, fun i hi => ?_⟩⟩
  have hi0 : i < 1 := hi
  match i, hi0 with
  | 0, _ => exact ⟨ns, ls, Bx.range (h := vhd n x) ⟨hB⟩, h⟩
/-- A list of two. -/
theorem rd_list2 {n : Nat} {W : World} {x y : VT n} {ns ls ns' ls' : Value} {B : Nat} {cs : Array Value} (hc : cs = vals (vhd n x) ns ls ++ vals (vhd n y) ns' ls') (hB : W.heap[B]? = some (.cells cs 29 (0, 0))) (h : RD n W x ns ls) (h' : RD n W y ns' ls') : RD (n + 1) W ((zr 7, [x, y]) : VT (n + 1)) (.slice none 0 0) (.slice (some ⟨B, 0, none⟩) 2 2) := by
  have hcell : ∀ j, W.cell? ⟨B, j, none⟩ = cs[j]? := fun j => by unfold World.cell?; rw [hB]; rfl
  refine ⟨Or.inl ⟨rfl, rfl⟩, Or.inr ⟨B, 0, 2, none, rfl, Nat.le_refl _, by decide, fun _ => ⟨rfl, heap_lt hB⟩, fun i hi => ?_⟩⟩
  have hi0 : i < 2 := hi
  have s1 : (vals (vhd n x) ns ls).size = 9 := rfl
  match i, hi0 with
  | 0, _ =>
    refine ⟨ns, ls, ?_, h⟩
    intro j v hj
    have hj9 : j < 9 := (List.getElem?_eq_some_iff.1 hj).1
    rw [hcell, hc, Array.getElem?_append_left (by rw [s1]; omega), show 0 + 0 * 9 + j = j by omega, ← Array.getElem?_toList]
    exact hj
  | 1, _ =>
    refine ⟨ns', ls', ?_, h'⟩
    intro j v hj
    have hj9 : j < 9 := (List.getElem?_eq_some_iff.1 hj).1
    rw [hcell, hc, Array.getElem?_append_right (by rw [s1]; omega), s1, show 0 + 1 * 9 + j - 9 = j by omega, ← Array.getElem?_toList]
    exact hj
end Go.Proofs.YtemlpjnophijfaaDoor
