/- types.hasTags: walked. -/
import Derived.Test.YtolmbjeinilhlaaDoorZtHoRecs
namespace Go.Proofs.YtolmbjeinilhlaaDoor
open Go.RowKit Go.Maps
set_option linter.unusedSimpArgs false
set_option linter.unusedVariables false
/-- What the tags of a name hold. -/
def colT (m : Nat) (names : List ByteArray) (l : List (VT (m + 1))) (j : Nat) : List (VT m) := l.filterMap (fun x => if names[j]? = some x.1.text then x.2[0]? else none)
theorem colT_take (m : Nat) (names : List ByteArray) (l : List (VT (m + 1))) (k i : Nat) (h : k < l.length) (y : VT m) (hnd : names.Nodup) (hi : i < names.length) (e : names[i] = l[k].1.text) (hy : l[k].2[0]? = some y) (j : Nat) (hj : j < names.length) :
    (if j = i then colT m names (l.take k) i ++ [y] else colT m names (l.take k) j) = colT m names (l.take (k + 1)) j := by
  unfold colT
  rw [List.take_succ_eq_append_getElem h, List.filterMap_append]
  by_cases ej : j = i
  · subst ej
    rw [if_pos rfl]
    simp [List.getElem?_eq_getElem hj, e, hy]
  · rw [if_neg ej]
    have : ¬ names[j]? = some l[k].1.text := by
      rw [List.getElem?_eq_getElem hj, ← e]
      intro q
      exact ej ((List.getElem_inj hnd).1 (Option.some.inj q))
    simp [this]
theorem colT_len (m : Nat) (names : List ByteArray) (l : List (VT (m + 1))) (j : Nat) : (colT m names l j).length ≤ l.length := List.length_filterMap_le _ _
theorem colT_mem {m : Nat} {names : List ByteArray} {l : List (VT (m + 1))} {j : Nat} {y : VT m} (h : y ∈ colT m names l j) : ∃ x ∈ l, names[j]? = some x.1.text ∧ x.2[0]? = some y := by
  obtain ⟨x, hx, e⟩ := List.mem_filterMap.1 h
  by_cases q : names[j]? = some x.1.text
  · rw [if_pos q] at e; exact ⟨x, hx, q, e⟩
  · rw [if_neg q] at e; cases e
theorem colT_siz (m : Nat) (names : List ByteArray) (l : List (VT (m + 1))) (j : Nat) : sizL m (colT m names l j) ≤ sizL (m + 1) l := by
  induction l with
  | nil => simp [colT, sizL, suml]
  | cons a l ih =>
    have e2 : sizL (m + 1) (a :: l) = siz (m + 1) a + sizL (m + 1) l := by simp [sizL, suml]
    have e3 : siz (m + 1) a = 1 + sizL m a.2 := rfl
    cases h : (if names[j]? = some a.1.text then a.2[0]? else none : Option (VT m)) with
    | none =>
      have e1 : colT m names (a :: l) j = colT m names l j := by simp [colT, List.filterMap_cons, h]
      rw [e1]; omega
    | some y =>
      have e1 : colT m names (a :: l) j = y :: colT m names l j := by simp [colT, List.filterMap_cons, h]
      have e4 : sizL m (y :: colT m names l j) = siz m y + sizL m (colT m names l j) := by simp [sizL, suml]
      have h' : a.2[0]? = some y := by
        by_cases q : names[j]? = some a.1.text
        · rw [if_pos q] at h; exact h
        · rw [if_neg q] at h; cases h
      have := sizL_at h'
      rw [e1]; omega
theorem MP.of_block {w W : World} {b : Nat} {l : List ByteArray} (h : MP w b l) (hb : W.heap[b]? = w.heap[b]?) : MP W b l := by
  obtain ⟨es, clock, h1, F, hs, e⟩ := h
  exact ⟨es, clock, hb.trans h1, F, hs, e⟩
theorem MP.lt {w : World} {b : Nat} {l : List ByteArray} (h : MP w b l) : b < w.heap.size := World.ownsMap.lt h
set_option maxHeartbeats 4000000 in
set_option maxRecDepth 100000 in
theorem hasTags_any (n : Nat) (ih : HasOk n) (h : Th) (tl : List (TT n)) (ns ls : Value) (m : Nat) (l : List (VT (m + 1))) (lv : Value) (w : World) (hr : RT (n + 1) w (h, tl) ns ls) (hl : VL (m + 1) w lv l) (hk11 : h.kind = 11) (htl : h.names.length = tl.length) (hnd : h.names.Nodup) (tt : ∀ y ∈ tl, TSB n y ∧ IsT n y) (tz : ∀ s ∈ h.names, s.size ≤ 281474976710656) (hv : ∀ v ∈ l, IsV (m + 1) v ∧ Sz (m + 1) v) (hsz : sizL (m + 1) l ≤ 200000) (hLl : tl.length ≤ 200000) (gt : Gt w) :
    Calls Tryd.prog 53 #[.agg (tvs h ns ls), lv] w fun e w' => TB (∀ v ∈ l, InT (n + 1) (h, tl) (m + 1) v) w e w' := by
  obtain ⟨al, cl, rfl, hc1, hc2⟩ := hr.len
  obtain ⟨an, cn, rfl, hn1, hn2⟩ := hr.1.len
  obtain ⟨av, cv, rfl, hv1, hv2⟩ := hl.len
  simp only at hc1 hc2 hn1 hn2 ⊢
  have hb0 : Hid (∀ o, Below w.heap.size w (w.alloc o)) := fun o => below_al (Below.refl _ _)
  have hl := hide hl
  have hlen9 : ∀ v ∈ l, v.1.kind = 9 → v.2.length = 1 := fun v hm e1 => ((hv v hm).1.2.1.2.2.2 e1).2
  have hx : Hid ((∀ v ∈ l, v.1.kind = 9 ∧ v.1.text ∈ h.names) → ((∀ v ∈ l, InT (n + 1) (h, tl) (m + 1) v) ↔ ∀ i (hi : i < tl.length), ∀ y ∈ colT m h.names l i, InT n tl[i] m y)) := by
    intro h9
    constructor
    · intro q i hi y hy
      obtain ⟨x, hx, e1, e2⟩ := colT_mem hy
      rcases q x hx with ⟨q, _⟩ | ⟨q, _⟩ | ⟨q, _⟩ | ⟨_, _, i', h1, h2, e3, q⟩
      · simp only at q; omega
      · simp only at q; omega
      · simp only at q; omega
      · have hi2 : i < h.names.length := by omega
        rw [List.getElem?_eq_getElem hi2] at e1
        have : i' = i := (List.getElem_inj hnd).1 (by rw [Option.some.inj e1]; exact e3)
        subst this
        exact q y (List.mem_of_getElem? e2)
    · intro q x hx
      obtain ⟨i, hi, e⟩ := Pl_idx (h9 x hx).2
      refine Or.inr (Or.inr (Or.inr ⟨hk11, (h9 x hx).1, i, hi, by simp only; omega, e, fun y hy => ?_⟩))
      refine q i (by omega) y (List.mem_filterMap.2 ⟨x, hx, ?_⟩)
      rw [if_pos (by rw [List.getElem?_eq_getElem hi, e])]
      have h1 := hlen9 x hx (h9 x hx).1
      obtain ⟨j, hj, rfl⟩ := List.mem_iff_getElem.1 hy
      obtain rfl : j = 0 := by omega
      exact List.getElem?_eq_getElem hj
  have hno : Hid (∀ v ∈ l, ¬ (v.1.kind = 9 ∧ v.1.text ∈ h.names) → ¬ ∀ v ∈ l, InT (n + 1) (h, tl) (m + 1) v) := by
    intro v hv h9 q
    rcases q v hv with ⟨q, _⟩ | ⟨q, _⟩ | ⟨q, _⟩ | ⟨_, q1, i', h1, h2, e3, _⟩
    · simp only at q; omega
    · simp only at q; omega
    · simp only at q; omega
    · exact h9 ⟨q1, e3 ▸ List.getElem_mem _⟩
  have hvs : Hid (∀ j, ∀ y ∈ colT m h.names l j, IsV m y ∧ Sz m y) := by
    intro j y hy
    obtain ⟨x, hx, _, e⟩ := colT_mem hy
    have hyx := List.mem_of_getElem? e
    exact ⟨(hv x hx).1.2.2 y hyx, (hv x hx).2.2.2.2.2 y hyx⟩
  have htx : Hid (∀ v ∈ l, v.1.text.size ≤ 281474976710656) := fun v hm => (hv v hm).2.1
  have hlen9 := hide hlen9
  have hE := hide (fun W R (f : Nat → Value) (hb : Below w.heap.size w W) (hc : CL m w W R tl.length f (colT m h.names l)) => eachHas_any n ih tl (.slice al tl.length cl) m R tl.length tl.length f (colT m h.names l) W (hr.tl.below hb) rfl (Nat.le_refl _) (by unfold maxLen; omega) hc.row.lt (fun i hi => ⟨hc.row.cell hi, (hc.ov i hi).vl hb, hvs.out i, Nat.le_trans (colT_siz m h.names l i) hsz⟩) tt (gt.below hb))
  have hP := hide (fun W (hb : Below w.heap.size w W) => places_any _ h.names W (hr.1.below hb) ⟨by omega, tz⟩)
  have hsz := hide hsz
  have hk11' := hide hk11
  have htl' := hide htl
  have hnd' := hide hnd
  clear hr tt gt hv ih hk11 htl hnd tz
  have ml : maxLen = 9223372036854775807 := rfl
  have hmk := fun w => run_make_row' (P := Tryd.prog) 69 31 (.slice none 0 0) 24 Tryd.underlying69 infoSV rfl .i64 .i64 tl.length (by omega) (by omega) w
  have hT0 := hide (tx_new w h (.slice an h.names.length cn) (.slice al tl.length cl))
  show Calls _ _ #[.agg #[.int .i64 h.kind, .slice an h.names.length cn, .slice al tl.length cl], _] _ _
  go_enter Tryd.func53, Tryd.ntmps53
  go_wp2_with fail
  refine (hP.out _ (hb0.out _)).mono ?_
  rintro e w1 ⟨rfl, hM1, hb1⟩
  have hT1 := hide (hT0.out.below hb1)
  have hw1 := hide (below_then (hb0.out _) hb1)
  obtain ⟨B0, hB0⟩ : ∃ B0, (w.alloc (.cells #[.int .i64 h.kind, .slice an h.names.length cn, .slice al tl.length cl] 26)).heap.size = B0 := ⟨_, rfl⟩
  rw [hB0] at hM1 ⊢
  have hBlt : Hid (w.heap.size < B0 ∧ B0 < w1.heap.size) := by
    have h1 := hM1.out.lt
    show _ ∧ _
    rw [← hB0] at h1 ⊢
    simp only [World.size_alloc] at h1 ⊢
    exact ⟨by omega, by simpa using h1⟩
  have hC0 := hide (CL.made (m := m) w w1 tl.length)
  obtain ⟨R, hR⟩ : ∃ R, w1.heap.size = R := ⟨_, rfl⟩
  have hR' := hide hR
  obtain ⟨t0, t1, t2⟩ := hT1.out.cells
  clear hB0 hb1
  go_wp2_with fail
  clear hmk t0 t1 t2
  rw [hR] at hC0
  clear hR
  go_loopw [20] (fun i w' => ∃ k : Nat, i = .int .i64 k ∧ k ≤ l.length ∧ Hid ((∀ v ∈ l.take k, v.1.kind = 9 ∧ v.1.text ∈ h.names) ∧ Below w.heap.size w w' ∧ Tx w' w.heap.size h (.slice an h.names.length cn) (.slice al tl.length cl) ∧ MP w' B0 h.names ∧ ∃ f, CL m w w' R tl.length f (colT m h.names (l.take k)))) (fun i _ => l.length - (intOf i).toNat)
  case atStart => exact ⟨0, rfl, Nat.zero_le _, (fun v hv => by simp at hv), below_al hw1.out, hT1.out.below (below_al (Below.refl _ _)), hM1.out.below (below_al (Below.refl _ _)), _, hC0.out⟩
  case round =>
    obtain ⟨k, rfl, hk, H⟩ := hrel
    have hlt := H.out.2.2.1.lt
    by_cases hkl : k < l.length
    · have hki : (k : Int) < (l.length : Int) := by omega
      have hk63 : (k : Int) < 9223372036854775807 := by omega
      obtain ⟨b', o', c'', he, hbl', hlc', hcm', ns1, ls1, hrg', hrd'⟩ := hl.out.at k hkl
      have he' := Value.slice.inj he
      obtain ⟨rfl, _, rfl⟩ := he'
      clear he
      obtain ⟨y0, y1, y2, y3, y4, y5, y6, y7, y8⟩ := range9 (rangeAt_below hrg' H.out.2.1 hbl')
      have hvl := hide hrd'.vl
      obtain ⟨e1, e2, rfl, he1, he2⟩ := hrd'.len
      obtain ⟨e3, e4, rfl, he3, he4⟩ := hrd'.1.len
      clear hrg' hrd'
      have hmem := hide (List.getElem_mem hkl)
      have hcol := hide (fun i y hi e hy j hj => colT_take m h.names l k i hkl y hnd'.out hi e hy j hj)
      obtain ⟨x, hxk⟩ : ∃ x, l[k] = x := ⟨_, rfl⟩
      rw [hxk] at y0 y1 y2 y3 y4 y5 y6 y7 y8 hvl hmem hcol
      simp only [hxk] at he1 he3
      have hxk' := hide hxk
      clear hxk
      obtain ⟨hd, ll⟩ := x
      simp only [vhd] at y0 y1 y2 y3 y4 y5 y6 y7 y8 hvl hmem he1 he3 hcol
      have hkey := hide (show keyOf Tryd.prog 9 (.string hd.text) = some (ks hd.text) from WideMaps.keyOf_string_mk Tryd.underlying9 (by have := htx.out _ hmem.out; simp only at this; omega))
      obtain ⟨W1, hW1⟩ : ∃ W1, wr.alloc (.cells #[.int .i64 hd.kind, .bool hd.flag, .bool hd.neg, .string hd.dig, .int .i64 hd.exp, .int .u64 hd.bits, .string hd.text, .slice e3 hd.names.length e4, .slice e1 ll.length e2] 33) = W1 := ⟨_, rfl⟩
      have hB1 : Hid (Below wr.heap.size wr W1) := by rw [← hW1]; exact below_al (Below.refl _ _)
      have hX1 : Hid (Bx W1 wr.heap.size hd (.slice e3 hd.names.length e4) (.slice e1 ll.length e2)) := by rw [← hW1]; exact bx_new wr hd _ _
      have hMP := hide (H.out.2.2.2.1.below hB1.out)
      obtain ⟨x0, x1, x2, x3, x4, x5, x6, x7, x8⟩ := hX1.out.cells
      by_cases hin : hd.text ∈ h.names
      · obtain ⟨i, hi, hie⟩ := Pl_idx hin
        have hhas := hide ((has_Pl h.names hd.text h.names.length (Nat.le_refl _)).2 (by rw [List.take_of_length_le (Nat.le_refl _)]; exact hin))
        have hat := hide (Pl_at h.names hnd'.out i hi (.lit (.int .i64 0)) h.names.length hi (Nat.le_refl _))
        rw [hie] at hat
        have hin := hide hin
        by_cases h9 : hd.kind = 9
        · have hll := hlen9.out (hd, ll) hmem.out h9
          simp only at hll
          have h9' := hide h9
          have hit : i < tl.length := by have := htl'.out; omega
          have hiti : (i : Int) < (tl.length : Int) := by omega
          have hi63 : (i : Int) < 9223372036854775807 := by omega
          rw [h9] at hW1 y0 x0
          clear h9
          obtain ⟨y, hy⟩ : ∃ y, ll = [y] := List.length_eq_one_iff.1 hll
          subst hy
          simp only [List.length_singleton] at *
          obtain ⟨b2, o2, c2, he, hbl2, hlc2, hcm2, ns2, ls2, hrg2, hrd2⟩ := hvl.out.at 0 (by simp)
          simp only [List.length_singleton, List.getElem_cons_zero, Nat.zero_mul, Nat.add_zero] at he hlc2 hrg2 hrd2
          have he' := Value.slice.inj he
          obtain ⟨rfl, _, rfl⟩ := he'
          clear he
          have hrd2' := hide hrd2
          obtain ⟨a1, m1, d1, a2, m2, d2, rfl, rfl⟩ := hrd2.shape
          obtain ⟨yh, hyh⟩ : ∃ yh, vhd m y = yh := ⟨_, rfl⟩
          rw [hyh] at hrg2
          have hrg3 := hide (rangeAt_below hrg2 (below_then H.out.2.1 hB1.out) hbl2)
          obtain ⟨v0, v1, v2, v3, v4, v5, v6, v7, v8⟩ := range9 hrg3.out
          have hY3a := fun o => range9 (rangeAt_below hrg2 (below_al (o := o) (below_then H.out.2.1 hB1.out)) hbl2)
          have hyh := hide hyh
          clear hrg2 hrd2
          obtain ⟨f, hf⟩ := H.out.2.2.2.2
          have hf3 := hide (hf.keep hB1.out)
          obtain ⟨xs, hxs, hall⟩ := hf3.out.ov i hit
          obtain ⟨N, hN⟩ : ∃ N, (colT m h.names (l.take k) i).length = N := ⟨_, rfl⟩
          rw [hN] at hxs
          have hN200 : N ≤ 200000 := by
            have h1 := colT_len m h.names (l.take k) i
            have h2 := sizL_len (m + 1) (l.take k)
            have h3 := sizL_take (m + 1) l k
            have h4 := hsz.out
            omega
          have hNi : (N : Int) < 9223372036854775807 := by omega
          have hxl := hide hxs.1
          obtain ⟨fa, fc, hfs⟩ : ∃ fa fc, f i = .slice fa N fc := by
            rcases hxs.2 with ⟨e, e2⟩ | ⟨g, cap, cur, e, _⟩
            · exact ⟨none, 0, by rw [e, e2]⟩
            · exact ⟨_, cap, e⟩
          have hRf := hf3.out.row.cell hit
          rw [hfs] at hRf hxs
          have hN := hide hN
          have hxs := hide hxs
          have hall := hide hall
          have hfs := hide hfs
          have hcs := hide (fun j hj => hcol.out i y hi hie rfl j hj)
          have hRlt := hf3.out.row.lt
          have hRw : Hid (w.heap.size < R ∧ B0 < R) := by have := hBlt.out; have := hR'.out; show _ ∧ _; omega
          clear hf
          have hX3a := fun o => (hX1.out.below (W1 := W1.alloc o) (below_al (Below.refl _ _))).cells
          have xa6 := fun o => (hX3a o).2.2.2.2.2.2.1
          have xa7 := fun o => (hX3a o).2.2.2.2.2.2.2.1
          have xa8 := fun o => (hX3a o).2.2.2.2.2.2.2.2
          have ya0 := fun o => (hY3a o).1
          have ya1 := fun o => (hY3a o).2.1
          have ya2 := fun o => (hY3a o).2.2.1
          have ya3 := fun o => (hY3a o).2.2.2.1
          have ya4 := fun o => (hY3a o).2.2.2.2.1
          have ya5 := fun o => (hY3a o).2.2.2.2.2.1
          have ya6 := fun o => (hY3a o).2.2.2.2.2.2.1
          have ya7 := fun o => (hY3a o).2.2.2.2.2.2.2.1
          have ya8 := fun o => (hY3a o).2.2.2.2.2.2.2.2
          have hRfa : ∀ o, (W1.alloc o).cell? ⟨R, i, none⟩ = some (.slice fa N fc) := fun o => ((below_al (Below.refl W1.heap.size W1)).cell (p := ⟨R, i, none⟩) hf3.out.row.lt).trans hRf
          clear hX3a hY3a
          have key : Hid (∀ G c5 w5 Wz, Below W1.heap.size W1 Wz → Wz.grownBy w5 (Value.slice fa N fc).ownBlock → w5.ownsRow (R + 1) 33 9 (.slice (some ⟨G, 0, none⟩) (N + 1) c5) (N + 1) (xs ++ z9) → (some G = (Value.slice fa N fc).ownBlock ∨ G = Wz.heap.size) → ∀ W', (((((((((((w5.setCell ⟨G, N * 9, none⟩ (.int .i64 yh.kind)).setCell ⟨G, N * 9 + 1, none⟩ (.bool yh.flag)).setCell ⟨G, N * 9 + 2, none⟩ (.bool yh.neg)).setCell ⟨G, N * 9 + 3, none⟩ (.string yh.dig)).setCell ⟨G, N * 9 + 4, none⟩ (.int .i64 yh.exp)).setCell ⟨G, N * 9 + 5, none⟩ (.int .u64 yh.bits)).setCell ⟨G, N * 9 + 6, none⟩ (.string yh.text)).setCell ⟨G, N * 9 + 7, none⟩ (.slice a1 m1 d1)).setCell ⟨G, N * 9 + 8, none⟩ (.slice a2 m2 d2)).setCell ⟨R, i, none⟩ (.slice (some ⟨G, 0, none⟩) (N + 1) c5)) = W' ∨ ((((((((((w5.setCell ⟨R, i, none⟩ (.slice (some ⟨G, 0, none⟩) (N + 1) c5)).setCell ⟨G, N * 9, none⟩ (.int .i64 yh.kind)).setCell ⟨G, N * 9 + 1, none⟩ (.bool yh.flag)).setCell ⟨G, N * 9 + 2, none⟩ (.bool yh.neg)).setCell ⟨G, N * 9 + 3, none⟩ (.string yh.dig)).setCell ⟨G, N * 9 + 4, none⟩ (.int .i64 yh.exp)).setCell ⟨G, N * 9 + 5, none⟩ (.int .u64 yh.bits)).setCell ⟨G, N * 9 + 6, none⟩ (.string yh.text)).setCell ⟨G, N * 9 + 7, none⟩ (.slice a1 m1 d1)).setCell ⟨G, N * 9 + 8, none⟩ (.slice a2 m2 d2)) = W') → Hid (Below w.heap.size w W' ∧ Tx W' w.heap.size h (.slice an h.names.length cn) (.slice al tl.length cl) ∧ MP W' B0 h.names ∧ ∃ f, CL m w W' R tl.length f (colT m h.names (l.take (k + 1))))) := by
            intro G c5 w5 Wz hz hg ho hat W' hW'
            obtain ⟨r1, r2, f', r3⟩ := grow_ab hf3.out i hit y yh (.slice a1 m1 d1) (.slice a2 m2 d2) hyh.out hrd2'.out G N c5 xs hN.out (by rw [hfs.out]; exact hxs.out) hall.out (below_then H.out.2.1 hB1.out) (by have := hRw.out; omega) hz (by rw [hfs.out]; exact hg) ho (by rw [hfs.out]; exact hat) hW'
            have hnb : ∀ g, g < R → some g ≠ (f i).ownBlock := fun g hgR e => by rw [hfs.out] at e; have := (World.ownsRow.lt hxs.out _ e.symm).1; omega
            have hs1 := hB1.out.size
            refine ⟨r1, ⟨(r2 w.heap.size (by omega) (hnb _ hRw.out.1) (by have := hRw.out; omega)).trans ((hB1.out.block _ hlt).trans H.out.2.2.1.at_)⟩, hMP.out.of_block (r2 B0 (by have := hMP.out.lt; omega) (hnb _ hRw.out.2) (by have := hRw.out; omega)), f', r3.congr fun j hj => ?_⟩
            exact hcs.out j (by have := htl'.out; omega)
          have hNN : (N : Int) < (N : Int) + 1 := by omega
          go_wp2_with (first | (at_lookup; refine lookup_int_at _ rfl _ _ 72 rfl 9 3 .i64 keyS Tryd.underlying72 u3 (zero3 _) B0 h.names.length (Pl h.names h.names.length) rfl hMP.out _ _ rfl hkey.out _ true hat.out hhas.out ?_))
          go_region_law (refine step_vz rfl (.tmp 41) (.tmp 47) rfl (R + 1) (.slice fa N fc) N xs rfl (ownsRow_of hxs.out fun g _ hlt => by first | exact (below_al (Below.refl _ _)).block g hlt | exact (below_dr (below_al (Below.refl _ _))).block g hlt) W1.heap.size 1 rfl (range_z9 W1) hN200 (by simp; omega) ?_; intro G c5 w5 ho5 hg5 hat5 hcc5; obtain ⟨zf, har5, z0, z1, z2, z3, z4, z5, z6, z7, z8⟩ := vz_facts ho5.out hxl.out; have har5 := hide har5; have hG5 : R + 1 ≤ G ∧ G < w5.heap.size := World.ownsRow.lt ho5.out G rfl; have hGR : G ≠ R := (by omega); have hRG : R ≠ G := (by omega); have hrow5 : Hid (w5.rowIs R 31 tl.length f) := hf3.out.row.of_block (by have h1 := hf3.out.row.lt; rw [hg5.out.block R (by show _ < (W1.alloc _).heap.size; rw [World.size_alloc]; omega) (fun e => by have := (World.ownsRow.lt hxs.out _ e.symm).1; omega)]; exact (below_al (Below.refl _ _)).block _ h1); have rc := hrow5.out.cell hit; have rf := hrow5.out.frozen; rw [hfs.out] at rc; have hcm : ∀ (W : World) o b v, (W.setCell ⟨R, i, none⟩ v).setCell ⟨G, o, none⟩ b = (W.setCell ⟨G, o, none⟩ b).setCell ⟨R, i, none⟩ v := (fun W o b v => setCell_comm W _ _ _ _ _ _ hRG); obtain ⟨W', hW'⟩ : ∃ W', ((((((((((w5.setCell ⟨G, N * 9, none⟩ (.int .i64 yh.kind)).setCell ⟨G, N * 9 + 1, none⟩ (.bool yh.flag)).setCell ⟨G, N * 9 + 2, none⟩ (.bool yh.neg)).setCell ⟨G, N * 9 + 3, none⟩ (.string yh.dig)).setCell ⟨G, N * 9 + 4, none⟩ (.int .i64 yh.exp)).setCell ⟨G, N * 9 + 5, none⟩ (.int .u64 yh.bits)).setCell ⟨G, N * 9 + 6, none⟩ (.string yh.text)).setCell ⟨G, N * 9 + 7, none⟩ (.slice a1 m1 d1)).setCell ⟨G, N * 9 + 8, none⟩ (.slice a2 m2 d2)).setCell ⟨R, i, none⟩ (.slice (some ⟨G, 0, none⟩) (N + 1) c5)) = W' := ⟨_, rfl⟩; have key5 := hide (key.out G c5 w5 _ (by first | exact below_al (Below.refl _ _) | exact below_dr (below_al (Below.refl _ _))) hg5.out ho5.out hat5.out W' (Or.inl hW')))
          all_goals
            go_wp2_with fail
            refine ⟨⟨k + 1, by go_num, by omega, ?_, key5.out⟩, by simp [intOf]; omega⟩
            intro v hv
            rw [List.take_succ_eq_append_getElem hkl] at hv
            rcases List.mem_append.1 hv with q | q
            · exact H.out.1 v q
            · rw [List.mem_singleton.1 q, hxk'.out]
              exact ⟨h9'.out, hin.out⟩
        · have hne : (hd.kind != 9) = true := by simpa using h9
          have hne' : (hd.kind == 9) = false := beq_eq_false_iff_ne.2 h9
          have hnn := hide (hno.out (hd, ll) hmem.out (fun q => h9 q.1))
          go_wp2_with (first | (at_lookup; refine lookup_int_at _ rfl _ _ 72 rfl 9 3 .i64 keyS Tryd.underlying72 u3 (zero3 _) B0 h.names.length (Pl h.names h.names.length) rfl hMP.out _ _ rfl hkey.out _ true hat.out hhas.out ?_))
          go_ret
          exact TB.no hnn.out (below_then H.out.2.1 hB1.out)
      · have hhas := hide (show Maps.has (Pl h.names h.names.length) (ks hd.text) = false by
          cases hq : Maps.has (Pl h.names h.names.length) (ks hd.text)
          · rfl
          · have := (has_Pl h.names hd.text h.names.length (Nat.le_refl _)).1 hq
            rw [List.take_of_length_le (Nat.le_refl _)] at this
            exact absurd this hin)
        have hat := hide (atKey_of_not_has hhas.out (.lit (.int .i64 0)))
        have hnn := hide (hno.out (hd, ll) hmem.out (fun q => hin q.2))
        clear hin
        by_cases h9 : hd.kind = 9
        · rw [h9] at hW1 y0 x0
          clear h9
          go_wp2_with (first | (at_lookup; refine lookup_int_at _ rfl _ _ 72 rfl 9 3 .i64 keyS Tryd.underlying72 u3 (zero3 _) B0 h.names.length (Pl h.names h.names.length) rfl hMP.out _ _ rfl hkey.out _ false hat.out hhas.out ?_))
          go_ret
          exact TB.no hnn.out (below_then H.out.2.1 hB1.out)
        · have hne : (hd.kind != 9) = true := by simpa using h9
          have hne' : (hd.kind == 9) = false := beq_eq_false_iff_ne.2 h9
          go_wp2_with (first | (at_lookup; refine lookup_int_at _ rfl _ _ 72 rfl 9 3 .i64 keyS Tryd.underlying72 u3 (zero3 _) B0 h.names.length (Pl h.names h.names.length) rfl hMP.out _ _ rfl hkey.out _ false hat.out hhas.out ?_))
          go_ret
          exact TB.no hnn.out (below_then H.out.2.1 hB1.out)
    · have hki : ¬ ((k : Int) < (l.length : Int)) := by omega
      have hkk : l.take k = l := List.take_of_length_le (by omega)
      have h9 := hide (show ∀ v ∈ l, v.1.kind = 9 ∧ v.1.text ∈ h.names by have := H.out.1; rw [hkk] at this; exact this)
      obtain ⟨f, hf⟩ := H.out.2.2.2.2
      rw [hkk] at hf
      have hc := hide (hE.out wr R f H.out.2.1 hf)
      obtain ⟨t0, t1, t2⟩ := H.out.2.2.1.cells
      clear hkk hf
      go_wp2_with (go_at_call 67; refine hc.out.mono ?_; rintro e w2 ⟨bb, rfl, hT, hb2⟩)
      go_ret
      cases bb
      · exact TB.no (fun q => by have := hT.2 ((hx.out h9.out).1 q); cases this) (below_then H.out.2.1 hb2)
      · exact TB.yes ((hx.out h9.out).2 (hT.1 rfl)) (below_then H.out.2.1 hb2)
end Go.Proofs.YtolmbjeinilhlaaDoor
