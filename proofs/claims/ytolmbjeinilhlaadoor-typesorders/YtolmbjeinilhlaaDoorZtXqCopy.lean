/- calamuskeep.Copy: walked (XpCopy has what it leans on). -/
import Derived.Test.YtolmbjeinilhlaaDoorZtXpCopy
namespace Go.Proofs.YtolmbjeinilhlaaDoor
open Go.RowKit
set_option linter.unusedSimpArgs false
set_option linter.unusedVariables false
theorem blk_pos : ∀ (n : Nat) (x : VT n), 1 ≤ blk n x
  | 0, x => Empty.elim x
  | n + 1, x => by simp only [blk]; omega
theorem blk_len (n : Nat) (l : List (VT n)) : l.length ≤ suml (l.map (blk n)) := by
  induction l with
  | nil => simp [suml]
  | cons a l ih => simp only [List.map_cons, suml, List.length_cons]; have := blk_pos n a; omega
theorem blk_at (n : Nat) (l : List (VT n)) (k : Nat) (h : k < l.length) : blk n l[k] ≤ suml (l.map (blk n)) := by
  have h1 := suml_take (l.map (blk n)) k (by simpa using h)
  have h2 := suml_take_le (l.map (blk n)) (k + 1)
  rw [List.getElem_map] at h1
  omega
theorem ownsRow_of {W W1 : World} {B : Nat} {T : TypeId} {sz : Nat} {v : Value} {n : Nat} {xs : List Value} (h : W.ownsRow B T sz v n xs) (hb : ∀ k, v.ownBlock = some k → k < W.heap.size → W1.heap[k]? = W.heap[k]?) : W1.ownsRow B T sz v n xs := by
  have hr := World.ownsRow.lt h
  obtain ⟨h0, h⟩ := h
  refine ⟨h0, ?_⟩
  rcases h with ⟨rfl, e⟩ | ⟨g, cap, cur, rfl, h2, h3, h4⟩
  · exact Or.inl ⟨rfl, e⟩
  · exact Or.inr ⟨g, cap, cur, rfl, h2, by rw [hb g rfl (hr g rfl).2]; exact h3, h4⟩
/-- An empty struct in a block of its own. -/
def ZB (W : World) (i : Nat) : Prop := W.heap[i]? = some (.cells #[.int .i64 0, .bool false, .bool false, .string ⟨#[]⟩, .int .i64 0, .int .u64 0, .string ⟨#[]⟩, .slice none 0 0, .slice none 0 0] 33 (0, 0))
theorem ZB.cells {W : World} {i : Nat} (q : ZB W i) : W.cell? ⟨i, 0, none⟩ = some (.int .i64 0) ∧ W.cell? ⟨i, 1, none⟩ = some (.bool false) ∧ W.cell? ⟨i, 2, none⟩ = some (.bool false) ∧ W.cell? ⟨i, 3, none⟩ = some (.string ⟨#[]⟩) ∧ W.cell? ⟨i, 4, none⟩ = some (.int .i64 0) ∧ W.cell? ⟨i, 5, none⟩ = some (.int .u64 0) ∧ W.cell? ⟨i, 6, none⟩ = some (.string ⟨#[]⟩) ∧ W.cell? ⟨i, 7, none⟩ = some (.slice none 0 0) ∧ W.cell? ⟨i, 8, none⟩ = some (.slice none 0 0) := by
  unfold ZB at q
  simp [World.cell?, q]
theorem ZB.frz {W : World} {i : Nat} (q : ZB W i) (j : Nat) : W.frozen? ⟨i, j, none⟩ = false := by
  unfold ZB at q
  simp [World.frozen?, q]
theorem Bx.frz {W : World} {i : Nat} {h : Hd} {ns ls : Value} (q : Bx W i h ns ls) (j : Nat) : W.frozen? ⟨i, j, none⟩ = false := by
  have := q.at_
  simp [World.frozen?, this]
theorem heap_set_ne {W : World} {i o q : Nat} {u : Value} (h : q ≠ i) : (W.setCell ⟨i, o, none⟩ u).heap[q]? = W.heap[q]? := Below.heap_setCell _ _ _ _ h
theorem range_new (w : World) (h : Hd) (ns ls : Value) : (w.alloc (.cells (vals h ns ls) 33)).rangeAt w.heap.size 0 (vals h ns ls).toList := (bx_new w h ns ls).range
set_option maxHeartbeats 2000000 in
set_option maxRecDepth 100000 in
theorem copy_any : ∀ (n : Nat) (x : VT n) (ns ls : Value) (w : World), RD n w x ns ls → blk n x ≤ 200000 →
    Calls Tryd.prog 11 #[.agg (vals (vhd n x) ns ls)] w fun e w' => ∃ ns' ls', e = .returned (.agg (vals (vhd n x) ns' ls')) ∧ Hid (KR n w' x ns' ls' w.heap.size w'.heap.size) ∧ Below w.heap.size w w' := by
  intro n
  induction n with
  | zero => intro x; exact Empty.elim x
  | succ n ih =>
    intro x ns ls w hr hbk
    obtain ⟨h, l⟩ := x
    obtain ⟨al, cl, rfl, hc1, hc2⟩ := hr.len
    obtain ⟨an, cn, rfl, hn1, hn2⟩ := hr.1.len
    have hr := hide hr
    have ih' := hide ih
    clear ih
    have hbn : h.names.length ≤ 200000 := by simp only [blk] at hbk; omega
    have hbl : l.length ≤ 200000 := by have := blk_len n l; simp only [blk] at hbk; omega
    have hbe : Hid (∀ k (hk : k < l.length), blk n l[k] ≤ 200000) := fun k hk => by have := blk_at n l k hk; simp only [blk] at hbk; omega
    clear hbk
    simp only at hn1 hn2 hc1 hc2
    have hB0 := hide (bx_new w h (.slice an h.names.length cn) (.slice al l.length cl))
    have ml : maxLen = 9223372036854775807 := rfl
    show Calls _ _ #[.agg #[.int .i64 h.kind, .bool h.flag, .bool h.neg, .string h.dig, .int .i64 h.exp, .int .u64 h.bits, .string h.text, .slice an h.names.length cn, .slice al l.length cl]] _ _
    go_enter Tryd.func11, Tryd.ntmps11
    go_wp2_with (at_builtin; refine app_names rfl (.tmp 6) (.tmp 8) rfl rfl an _ cn h.names rfl rfl (hr.out.1.below (below_al (below_al (Below.refl _ _)))) (by omega) ?_; intro av c' w1 ho1 hb1)
    have hz1 : Hid (w.heap.size + 2 ≤ w1.heap.size) := by have := hb1.out.size; simp at this; show _ ≤ _; omega
    have hbw : Hid (Below w.heap.size w w1) := (below_al (below_al (Below.refl _ _))).trans (hb1.out.mono (by simp; omega))
    have hX1 : Hid (Bx w1 w.heap.size h (.slice an h.names.length cn) (.slice al l.length cl)) := (hB0.out.below (below_al (Below.refl _ _))).below hb1.out
    have hR1 : Hid (ZB w1 (w.heap.size + 1)) := by
      show _ = _
      rw [hb1.out.block _ (by simp)]
      rw [show w.heap.size + 1 = (w.alloc (.cells (vals h (.slice an h.names.length cn) (.slice al l.length cl)) 33)).heap.size by simp]
      exact heap_alloc_new _ _
    have hO1 : Hid (OwnS w1 (w.heap.size + 2) (.slice av h.names.length c') h.names) := by have := ho1.out; simp at this; exact this
    clear hB0 ho1 hb1
    go_loopw [4, 5] (fun u i w' => ∃ (k : Nat) (av : Option Addr) (c : Nat), i = .int .i64 k ∧ u = .slice av k c ∧ k ≤ l.length ∧ Hid (LI n l w1 k u w')) (fun _ i _ => l.length - (intOf i).toNat)
    case atStart => exact ⟨0, none, 0, rfl, rfl, Nat.zero_le _, LI.start⟩
    case round =>
      obtain ⟨k, lav, lc, rfl, rfl, hk, H⟩ := hrel
      have hX := hide (hX1.out.below H.out.below)
      obtain ⟨c0, c1, c2, c3, c4, c5, c6, c7, c8⟩ := hX.out.cells
      by_cases hkl : k < l.length
      · have hki : (k : Int) < (l.length : Int) := by omega
        obtain ⟨b, o, c, he, hbl', hlc, hcm, ns', ls', hrg, hrd⟩ := hr.out.at k hkl
        have he' := Value.slice.inj he
        obtain ⟨rfl, _, rfl⟩ := he'
        clear he
        have hwb : Hid (Below w.heap.size w wr) := hbw.out.trans (H.out.below.mono (by have := hz1.out; omega))
        have hrgW := rangeAt_below hrg hwb.out hbl'
        have hrdW := hide (hrd.below hwb.out)
        obtain ⟨d0, d1, d2, d3, d4, d5, d6, d7, d8⟩ := range9 hrgW
        have cal := hide (ih'.out l[k] ns' ls' wr hrdW.out (hbe.out k hkl))
        simp only at d0 d1 d2 d3 d4 d5 d6 d7 d8
        obtain ⟨y, hy⟩ : ∃ y, l[k] = y := ⟨_, rfl⟩
        obtain ⟨hd, hhd⟩ : ∃ hd, vhd n l[k] = hd := ⟨_, rfl⟩
        rw [hhd] at d0 d1 d2 d3 d4 d5 d6 cal
        simp only [vals] at cal
        clear hrg hrd
        obtain ⟨xs, hx, hall⟩ := H.out.row
        have Hx := hide hx
        have Hall := hide hall
        clear hx hall
        go_wp2_with fail
        refine cal.out.mono ?_
        rintro e w2 ⟨ns2, ls2, rfl, hk2, hb2⟩
        rw [← hy] at *
        obtain ⟨q1, q2, q3, q4, q5, q6, rfl, rfl⟩ := hk2.out.rd.shape
        have hz2 := hb2.size
        have hb2' := hide hb2
        clear hb2
        go_wp2_with (at_builtin; refine app_v rfl (.tmp 17) (.tmp 24) rfl w1.heap.size _ k xs rfl (ownsRow_of Hx.out fun g hg hlt => by rw [Below.heap_alloc _ _ _ (by omega), hb2'.out.block g hlt]) w2.heap.size 1 rfl hd (.slice q1 q2 q3) (.slice q4 q5 q6) rfl rfl (range_new w2 hd (.slice q1 q2 q3) (.slice q4 q5 q6)) (by omega) (by have := H.out.below.size; simp; omega) ?_; intro av2 c2 w4 ho4 hg4 hat4)
        refine ⟨⟨k + 1, av2, c2, by go_num, rfl, by omega, ?_⟩, by simp [intOf]; omega⟩
        show LI _ _ _ _ _ _
        refine LI.step (w2 := w2) (w3 := w2.alloc (.cells (vals hd (.slice q1 q2 q3) (.slice q4 q5 q6)) 33)) (ns := .slice q1 q2 q3) (ls := .slice q4 q5 q6) H.out hkl Hx.out Hall.out hk2.out hb2'.out (below_al (Below.refl _ _)) hg4.out ?_ hat4.out
        rw [hhd]
        exact ho4.out
      · have hke : k = l.length := by omega
        have hki : ¬ ((k : Int) < (l.length : Int)) := by omega
        have hZ : ZB wr (w.heap.size + 1) := (H.out.below.block _ (by have := hz1.out; omega)).trans hR1.out
        obtain ⟨r0, r1, r2, r3, r4, r5, r6, r7, r8⟩ := hZ.cells
        have fz := hZ.frz
        have fx := hX.out.frz
        have hkc := hide hke
        clear hke hZ
        go_wp2_with fail
        refine bodyPost_ret (v := .agg #[.int .i64 h.kind, .bool h.flag, .bool h.neg, .string h.dig, .int .i64 h.exp, .int .u64 h.bits, .string h.text, .slice av h.names.length c', .slice lav k lc]) (by simp [results, Tryd.results11, go_sem, *]) rfl ⟨.slice av h.names.length c', .slice lav k lc, rfl, ?_, ?_⟩
        · have e := hkc.out
          subst e
          refine LI.done (W := wr) H.out hO1.out hz1.out (by simp) ?_
          intro q hq
          simp only [heap_set_ne (show q ≠ w.heap.size by omega), heap_set_ne (show q ≠ w.heap.size + 1 by omega)]
        · have hb0 : Below w.heap.size w wr := hbw.out.trans (H.out.below.mono (by have := hz1.out; omega))
          iterate 11 refine Below.setCell ?_ (by show _ ≤ _; first | exact Nat.le_refl _ | exact Nat.le_succ _) _
          exact hb0
end Go.Proofs.YtolmbjeinilhlaaDoor
