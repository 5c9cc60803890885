/- types.hasRecords: walked. -/
import Derived.Test.YtolmbjeinilhlaaDoorZtK
namespace Go.Proofs.YtolmbjeinilhlaaDoor
open Go.RowKit Go.Maps
set_option linter.unusedSimpArgs false
set_option linter.unusedVariables false
theorem col_step {α : Type} {q : Nat} {c d : Nat → List α} {y : α} (h : d q = c q ++ [y]) (j : Nat) : (if j = q then (if q < q then d q else c q) ++ [y] else if j < q then d j else c j) = if j < q + 1 then d j else c j := by
  by_cases e : j = q
  · subst e
    rw [if_pos rfl, if_neg (Nat.lt_irrefl _), if_pos (Nat.lt_succ_self _), h]
  · rw [if_neg e]
    by_cases e2 : j < q
    · rw [if_pos e2, if_pos (by omega)]
    · rw [if_neg e2, if_neg (by omega)]
set_option maxHeartbeats 4000000 in
set_option maxRecDepth 100000 in
theorem hasRecords_any (n : Nat) (ih : HasOk n) (h : Th) (tl : List (TT n)) (ns ls : Value) (m : Nat) (l : List (VT (m + 1))) (lv : Value) (w : World) (hr : RT (n + 1) w (h, tl) ns ls) (hl : VL (m + 1) w lv l) (hk10 : h.kind = 10) (htl : h.names.length = tl.length) (tt : ∀ y ∈ tl, TSB n y ∧ IsT n y) (hv : ∀ v ∈ l, IsV (m + 1) v ∧ Sz (m + 1) v) (hsz : sizL (m + 1) l ≤ 200000) (hLl : tl.length ≤ 200000) (gt : Gt w) :
    Calls Tryd.prog 52 #[.agg (tvs h ns ls), lv] w fun e w' => TB (∀ v ∈ l, InT (n + 1) (h, tl) (m + 1) v) w e w' := by
  obtain ⟨al, cl, rfl, hc1, hc2⟩ := hr.len
  obtain ⟨an, cn, rfl, hn1, hn2⟩ := hr.1.len
  obtain ⟨av, cv, rfl, hv1, hv2⟩ := hl.len
  simp only at hc1 hc2 hn1 hn2 ⊢
  have hb0 : Hid (∀ o, Below w.heap.size w (w.alloc o)) := fun o => below_al (Below.refl _ _)
  have hb1 : Hid (∀ o o', Below w.heap.size w ((w.alloc o).alloc o')) := fun o o' => below_al (below_al (Below.refl _ _))
  have hl := hide hl
  have hx : Hid ((∀ v ∈ l, v.1.kind = 8 ∧ v.1.names = h.names) → ((∀ v ∈ l, InT (n + 1) (h, tl) (m + 1) v) ↔ ∀ i (hi : i < tl.length), ∀ y ∈ col m l i, InT n tl[i] m y)) := by
    intro h8
    constructor
    · intro q i hi y hy
      obtain ⟨x, hx, e⟩ := col_mem hy
      obtain ⟨hj, rfl⟩ := List.getElem?_eq_some_iff.1 e
      rcases q x hx with ⟨q, _⟩ | ⟨q, _⟩ | ⟨_, _, _, q⟩ | ⟨q, _⟩
      · simp only at q; omega
      · simp only at q; omega
      · exact q i hi hj
      · simp only at q; omega
    · intro q x hx
      refine Or.inr (Or.inr (Or.inl ⟨hk10, (h8 x hx).1, (h8 x hx).2, fun i h1 h2 => ?_⟩))
      exact q i h1 _ (List.mem_filterMap.2 ⟨x, hx, List.getElem?_eq_getElem h2⟩)
  have hno : Hid (∀ v ∈ l, ¬ (v.1.kind = 8 ∧ v.1.names = h.names) → ¬ ∀ v ∈ l, InT (n + 1) (h, tl) (m + 1) v) := by
    intro v hv h8 q
    rcases q v hv with ⟨q, _⟩ | ⟨q, _⟩ | ⟨_, q1, q2, _⟩ | ⟨q, _⟩
    · simp only at q; omega
    · simp only at q; omega
    · exact h8 ⟨q1, q2⟩
    · simp only at q; omega
  have hlen8 : Hid (∀ v ∈ l, v.1.kind = 8 → v.1.names = h.names → v.2.length = tl.length) := by
    intro v hm e1 e2
    have := ((hv v hm).1.2.1.2.2.1 e1).1
    rw [e2] at this
    omega
  have hvs : Hid (∀ j, ∀ y ∈ col m l j, IsV m y ∧ Sz m y) := by
    intro j y hy
    obtain ⟨x, hx, e⟩ := col_mem hy
    have hyx := List.mem_of_getElem? e
    exact ⟨(hv x hx).1.2.2 y hyx, (hv x hx).2.2.2.2.2 y hyx⟩
  have hE := hide (fun W R (f : Nat → Value) (hb : Below w.heap.size w W) (hc : CL m w W R tl.length f (col m l)) => eachHas_any n ih tl (.slice al tl.length cl) m R tl.length tl.length f (col m l) W (hr.tl.below hb) rfl (Nat.le_refl _) (by unfold maxLen; omega) hc.row.lt (fun i hi => ⟨hc.row.cell hi, (hc.ov i hi).vl hb, hvs.out i, Nat.le_trans (col_siz m l i) hsz⟩) tt (gt.below hb))
  have hNm := hide (fun W u (x : List ByteArray) (hb : Below w.heap.size w W) (hu : NL W u x) => sequal_any u (.slice an h.names.length cn) x h.names W hu (hr.1.below hb))
  have hsz := hide hsz
  have hk10' := hide hk10
  have htl' := hide htl
  clear hr tt gt hv ih hk10 htl
  have ml : maxLen = 9223372036854775807 := rfl
  have hmk := fun w => run_make_row' (P := Tryd.prog) 69 31 (.slice none 0 0) 24 Tryd.underlying69 infoSV rfl .i64 .i64 tl.length (by omega) (by omega) w
  have hT0 : Hid (∀ o, Tx ((w.alloc (.cells (tvs h (.slice an h.names.length cn) (.slice al tl.length cl)) 26)).alloc o) w.heap.size h (.slice an h.names.length cn) (.slice al tl.length cl)) := fun o => (tx_new w _ _ _).below (below_al (Below.refl _ _))
  have hC0 := hide (CL.made (m := m) w (w.alloc (.cells (tvs h (.slice an h.names.length cn) (.slice al tl.length cl)) 26)) tl.length)
  rw [World.size_alloc] at hC0
  show Calls _ _ #[.agg #[.int .i64 h.kind, .slice an h.names.length cn, .slice al tl.length cl], _] _ _
  go_enter Tryd.func52, Tryd.ntmps52
  go_wp2_with fail
  clear hmk
  go_loopw [16] (fun i w' => ∃ k : Nat, i = .int .i64 k ∧ k ≤ l.length ∧ Hid ((∀ v ∈ l.take k, v.1.kind = 8 ∧ v.1.names = h.names) ∧ Below w.heap.size w w' ∧ Tx w' w.heap.size h (.slice an h.names.length cn) (.slice al tl.length cl) ∧ ∃ f, CL m w w' (w.heap.size + 1) tl.length f (col m (l.take k)))) (fun i _ => l.length - (intOf i).toNat)
  case atStart => exact ⟨0, rfl, Nat.zero_le _, (fun v hv => by simp at hv), hb1.out _ _, hT0.out _, _, hC0.out⟩
  case round =>
    obtain ⟨k, rfl, hk, H⟩ := hrel
    have hlt := H.out.2.2.1.lt
    obtain ⟨t0, t1, t2⟩ := H.out.2.2.1.cells
    by_cases hkl : k < l.length
    · have hki : (k : Int) < (l.length : Int) := by omega
      have hk63 : (k : Int) < 9223372036854775807 := by omega
      obtain ⟨b', o', c'', he, hbl', hlc', hcm', ns1, ls1, hrg', hrd'⟩ := hl.out.at k hkl
      have he' := Value.slice.inj he
      obtain ⟨rfl, _, rfl⟩ := he'
      clear he
      obtain ⟨y0, y1, y2, y3, y4, y5, y6, y7, y8⟩ := range9 (rangeAt_below hrg' H.out.2.1 hbl')
      have hvl := hide hrd'.vl
      have hnl := hide hrd'.1
      obtain ⟨e1, e2, rfl, he1, he2⟩ := hrd'.len
      obtain ⟨e3, e4, rfl, he3, he4⟩ := hrd'.1.len
      clear hrg' hrd'
      have hmem := hide (List.getElem_mem hkl)
      have hcol := hide (fun j hj => col_take m l k j hkl hj)
      obtain ⟨x, hxk⟩ : ∃ x, l[k] = x := ⟨_, rfl⟩
      rw [hxk] at y0 y1 y2 y3 y4 y5 y6 y7 y8 hvl hmem hcol hnl
      simp only [hxk] at he1 he3
      have hxk' := hide hxk
      clear hxk
      obtain ⟨hd, ll⟩ := x
      simp only [vhd] at y0 y1 y2 y3 y4 y5 y6 y7 y8 hvl hmem he1 he3 hnl hcol
      by_cases h8 : hd.kind = 8
      · have hne := hide (fun W (hb : Below wr.heap.size wr W) => hNm.out W (.slice e3 hd.names.length e4) hd.names (below_then H.out.2.1 hb) (hnl.out.below (below_then H.out.2.1 hb)))
        obtain ⟨bb, hbb⟩ := tells (hd.names = h.names)
        have hne := hide (fun W (hb : Below wr.heap.size wr W) => Calls.tb (hne.out W hb) hbb)
        have hbb' := hide hbb
        have h8' := hide h8
        rw [h8] at y0
        clear hbb
        obtain ⟨W1, hW1⟩ : ∃ W1, wr.alloc (.cells #[.int .i64 8, .bool hd.flag, .bool hd.neg, .string hd.dig, .int .i64 hd.exp, .int .u64 hd.bits, .string hd.text, .slice e3 hd.names.length e4, .slice e1 ll.length e2] 33) = W1 := ⟨_, rfl⟩
        have hB1 : Hid (Below wr.heap.size wr W1) := by rw [← hW1]; exact below_al (Below.refl _ _)
        have hX1 : Hid (Bx W1 wr.heap.size hd (.slice e3 hd.names.length e4) (.slice e1 ll.length e2)) := by rw [← hW1, ← h8]; exact bx_new wr hd _ _
        obtain ⟨x0, x1, x2, x3, x4, x5, x6, x7, x8⟩ := hX1.out.cells
        rw [h8] at x0
        obtain ⟨u0, u1, u2⟩ := (H.out.2.2.1.below hB1.out).cells
        have hcall := hide (hne.out W1 hB1.out)
        clear h8
        cases bb
        · have hnn := hide (hno.out (hd, ll) hmem.out (fun q => by have := hbb'.out.2 q.2; cases this))
          go_wp2_with (first | (go_at_call 66; refine hcall.out.mono ?_; rintro e w2 ⟨rfl, hb2⟩))
          go_ret
          exact TB.no hnn.out (below_then (below_then H.out.2.1 hB1.out) hb2)
        · have hnms := hide (hbb'.out.1 (by simp))
          have hll := hide (hlen8.out (hd, ll) hmem.out h8'.out hnms.out)
          go_wp2_with (first | (go_at_call 66; refine hcall.out.mono ?_; rintro e w2 ⟨rfl, hb2⟩; obtain ⟨p0, p1, p2, p3, p4, p5, p6, p7, p8⟩ := (hX1.out.below hb2).cells))
          have hX2 := hide (hX1.out.below hb2)
          have hbw2 := hide (below_then (below_then H.out.2.1 hB1.out) hb2)
          have hT2 := hide ((H.out.2.2.1.below hB1.out).below hb2)
          have hC2 : Hid (∃ f, CL m w w2 (w.heap.size + 1) tl.length f (col m (l.take k))) := by
            obtain ⟨f, hf⟩ := H.out.2.2.2
            exact ⟨f, (hf.keep hB1.out).keep hb2⟩
          clear p0 p1 p2 p3 p4 p5 p6 p7 p8 x0 x1 x2 x3 x4 x5 x6 x7 x8 u0 u1 u2 t0 t1 t2 hW1
          go_loopw [34] (fun i w' => ∃ q : Nat, i = .int .i64 q ∧ q ≤ ll.length ∧ Hid (Below w.heap.size w w' ∧ Tx w' w.heap.size h (.slice an h.names.length cn) (.slice al tl.length cl) ∧ ∃ f, CL m w w' (w.heap.size + 1) tl.length f (fun j => if j < q then col m (l.take (k + 1)) j else col m (l.take k) j))) (fun i _ => ll.length - (intOf i).toNat)
          case atStart =>
            obtain ⟨f, hf⟩ := hC2.out
            exact ⟨0, rfl, Nat.zero_le _, hbw2.out, hT2.out, f, hf.congr fun j _ => by rw [if_neg (by omega)]⟩
          case round =>
            clear hX2 hbw2 hT2 hC2 hX1 hB1 hne hcall hb2 hlt y0 y1 y2 y3 y4 y5 y6 y7 y8
            obtain ⟨q, rfl, hq, J⟩ := hrel
            have hjlt := J.out.2.1.lt
            by_cases hql : q < ll.length
            · have hqi : (q : Int) < (ll.length : Int) := by omega
              have hq63 : (q : Int) < 9223372036854775807 := by omega
              have hqt : q < tl.length := by have := hll.out; (try simp only at this); omega
              have hqti : (q : Int) < (tl.length : Int) := by omega
              obtain ⟨b2, o2, c2, he, hbl2, hlc2, hcm2, ns2, ls2, hrg2, hrd2⟩ := hvl.out.at q hql
              have he' := Value.slice.inj he
              obtain ⟨rfl, _, rfl⟩ := he'
              clear he
              obtain ⟨y0, y1, y2, y3, y4, y5, y6, y7, y8⟩ := range9 (rangeAt_below hrg2 J.out.1 hbl2)
              have hrd2' := hide hrd2
              obtain ⟨a1, m1, d1, a2, m2, d2, rfl, rfl⟩ := hrd2.shape
              clear hrg2 hrd2
              obtain ⟨f, hf⟩ := J.out.2.2
              have hfo := hf.ov q hqt
              simp only [Nat.lt_irrefl, if_false] at hfo
              obtain ⟨xs, hxs, hall⟩ := hfo
              obtain ⟨N, hN⟩ : ∃ N, (col m (l.take k) q).length = N := ⟨_, rfl⟩
              rw [hN] at hxs
              have hN200 : N ≤ 200000 := by
                have h1 := col_len m (l.take k) q
                have h2 := sizL_len (m + 1) (l.take k)
                have h3 := sizL_take (m + 1) l k
                have h4 := hsz.out
                omega
              have hNi : (N : Int) < 9223372036854775807 := by omega
              have hxl := hide hxs.1
              obtain ⟨fa, fc, hfs⟩ : ∃ fa fc, f q = .slice fa N fc := by
                rcases hxs.2 with ⟨e, e2⟩ | ⟨g, cap, cur, e, _⟩
                · exact ⟨none, 0, by rw [e, e2]⟩
                · exact ⟨_, cap, e⟩
              have hfc := hf.row.cell hqt
              rw [hfs] at hfc hxs
              have hN := hide hN
              have hxs := hide hxs
              have hall := hide hall
              have hf := hide hf
              have hfs := hide hfs
              have hcq := hide (hcol.out q hql)
              obtain ⟨y, hy⟩ : ∃ y, ll[q] = y := ⟨_, rfl⟩
              rw [hy] at y0 y1 y2 y3 y4 y5 y6 hrd2' hcq
              obtain ⟨yh, hyh⟩ : ∃ yh, vhd m y = yh := ⟨_, rfl⟩
              rw [hyh] at y0 y1 y2 y3 y4 y5 y6
              have hyh := hide hyh
              clear hy
              obtain ⟨W3, hW3⟩ : ∃ W3, wr.alloc (.cells #[.int .i64 yh.kind, .bool yh.flag, .bool yh.neg, .string yh.dig, .int .i64 yh.exp, .int .u64 yh.bits, .string yh.text, .slice a1 m1 d1, .slice a2 m2 d2] 33) = W3 := ⟨_, rfl⟩
              have hB3 : Hid (Below wr.heap.size wr W3) := by rw [← hW3]; exact below_al (Below.refl _ _)
              have hX3 : Hid (Bx W3 wr.heap.size yh (.slice a1 m1 d1) (.slice a2 m2 d2)) := by rw [← hW3]; exact bx_new wr yh _ _
              obtain ⟨x0, x1, x2, x3, x4, x5, x6, x7, x8⟩ := hX3.out.cells
              have hf3 := hide (hf.out.keep hB3.out)
              have hRf : W3.cell? ⟨w.heap.size + 1, q, none⟩ = some (.slice fa N fc) := (hB3.out.cell (p := ⟨w.heap.size + 1, q, none⟩) hf.out.row.lt).trans hfc
              have hX3a := fun o => (hX3.out.below (W1 := W3.alloc o) (below_al (Below.refl _ _))).cells
              have xa0 := fun o => (hX3a o).1
              have xa1 := fun o => (hX3a o).2.1
              have xa2 := fun o => (hX3a o).2.2.1
              have xa3 := fun o => (hX3a o).2.2.2.1
              have xa4 := fun o => (hX3a o).2.2.2.2.1
              have xa5 := fun o => (hX3a o).2.2.2.2.2.1
              have xa6 := fun o => (hX3a o).2.2.2.2.2.2.1
              have xa7 := fun o => (hX3a o).2.2.2.2.2.2.2.1
              have xa8 := fun o => (hX3a o).2.2.2.2.2.2.2.2
              have hRfa : ∀ o, (W3.alloc o).cell? ⟨w.heap.size + 1, q, none⟩ = some (.slice fa N fc) := fun o => ((below_al (Below.refl W3.heap.size W3)).cell (p := ⟨w.heap.size + 1, q, none⟩) hf3.out.row.lt).trans hRf
              clear hX3a
              clear hfc
              have key : Hid (∀ G c5 w5 Wz, Below W3.heap.size W3 Wz → Wz.grownBy w5 (Value.slice fa N fc).ownBlock → w5.ownsRow (w.heap.size + 2) 33 9 (.slice (some ⟨G, 0, none⟩) (N + 1) c5) (N + 1) (xs ++ z9) → (some G = (Value.slice fa N fc).ownBlock ∨ G = Wz.heap.size) → ∀ W', (((((((((((w5.setCell ⟨G, N * 9, none⟩ (.int .i64 yh.kind)).setCell ⟨G, N * 9 + 1, none⟩ (.bool yh.flag)).setCell ⟨G, N * 9 + 2, none⟩ (.bool yh.neg)).setCell ⟨G, N * 9 + 3, none⟩ (.string yh.dig)).setCell ⟨G, N * 9 + 4, none⟩ (.int .i64 yh.exp)).setCell ⟨G, N * 9 + 5, none⟩ (.int .u64 yh.bits)).setCell ⟨G, N * 9 + 6, none⟩ (.string yh.text)).setCell ⟨G, N * 9 + 7, none⟩ (.slice a1 m1 d1)).setCell ⟨G, N * 9 + 8, none⟩ (.slice a2 m2 d2)).setCell ⟨w.heap.size + 1, q, none⟩ (.slice (some ⟨G, 0, none⟩) (N + 1) c5)) = W' ∨ ((((((((((w5.setCell ⟨w.heap.size + 1, q, none⟩ (.slice (some ⟨G, 0, none⟩) (N + 1) c5)).setCell ⟨G, N * 9, none⟩ (.int .i64 yh.kind)).setCell ⟨G, N * 9 + 1, none⟩ (.bool yh.flag)).setCell ⟨G, N * 9 + 2, none⟩ (.bool yh.neg)).setCell ⟨G, N * 9 + 3, none⟩ (.string yh.dig)).setCell ⟨G, N * 9 + 4, none⟩ (.int .i64 yh.exp)).setCell ⟨G, N * 9 + 5, none⟩ (.int .u64 yh.bits)).setCell ⟨G, N * 9 + 6, none⟩ (.string yh.text)).setCell ⟨G, N * 9 + 7, none⟩ (.slice a1 m1 d1)).setCell ⟨G, N * 9 + 8, none⟩ (.slice a2 m2 d2)) = W') → Hid (Below w.heap.size w W' ∧ Tx W' w.heap.size h (.slice an h.names.length cn) (.slice al tl.length cl) ∧ ∃ f, CL m w W' (w.heap.size + 1) tl.length f (fun j => if j < q + 1 then col m (l.take (k + 1)) j else col m (l.take k) j))) := by
                intro G c5 w5 Wz hz hg ho hat W' hW'
                obtain ⟨r1, r2, f', r3⟩ := grow_ab hf3.out q hqt y yh (.slice a1 m1 d1) (.slice a2 m2 d2) hyh.out hrd2'.out G N c5 xs (by simp only [Nat.lt_irrefl, if_false]; exact hN.out) (by rw [hfs.out]; exact ownsRow_of hxs.out fun g _ hlt => hB3.out.block g hlt) (by simp only [Nat.lt_irrefl, if_false]; exact hall.out) (below_then J.out.1 hB3.out) (by omega) hz (by rw [hfs.out]; exact hg) ho (by rw [hfs.out]; exact hat) hW'
                refine ⟨r1, ⟨(r2 w.heap.size (by have := hB3.out.size; omega) (fun e => by rw [hfs.out] at e; have := (World.ownsRow.lt hxs.out _ e.symm).1; omega) (by omega)).trans ((hB3.out.block _ hjlt).trans J.out.2.1.at_)⟩, f', r3.congr fun j hj => ?_⟩
                exact col_step hcq.out j
              have hq1 : q + 1 ≤ ll.length := by omega
              have hNN : (N : Int) < (N : Int) + 1 := by omega
              go_wp2_with fail
              go_region_law (refine step_vz rfl (.tmp 42) (.tmp 45) rfl (w.heap.size + 2) (.slice fa N fc) N xs rfl (ownsRow_of hxs.out fun g _ hlt => by first | exact (below_al hB3.out).block g hlt | exact (below_dr (below_al hB3.out)).block g hlt) W3.heap.size 1 rfl (range_z9 W3) hN200 (by have := hB3.out.size; simp; omega) ?_; intro G c5 w5 ho5 hg5 hat5 hcc5; obtain ⟨zf, har5, z0, z1, z2, z3, z4, z5, z6, z7, z8⟩ := vz_facts ho5.out hxl.out; have har5 := hide har5; have hG5 : w.heap.size + 2 ≤ G ∧ G < w5.heap.size := World.ownsRow.lt ho5.out G rfl; have hGR : G ≠ w.heap.size + 1 := (by omega); have hRG : w.heap.size + 1 ≠ G := (by omega); have hrow5 : Hid (w5.rowIs (w.heap.size + 1) 31 tl.length f) := hf3.out.row.of_block (by have h1 := hf3.out.row.lt; rw [hg5.out.block (w.heap.size + 1) (by show _ < (W3.alloc _).heap.size; rw [World.size_alloc]; omega) (fun e => by have := (World.ownsRow.lt hxs.out _ e.symm).1; omega)]; exact (below_al (Below.refl _ _)).block _ h1); have rc := hrow5.out.cell hqt; have rf := hrow5.out.frozen; rw [hfs.out] at rc; have hcm : ∀ (W : World) o b v, (W.setCell ⟨w.heap.size + 1, q, none⟩ v).setCell ⟨G, o, none⟩ b = (W.setCell ⟨G, o, none⟩ b).setCell ⟨w.heap.size + 1, q, none⟩ v := (fun W o b v => setCell_comm W _ _ _ _ _ _ hRG); obtain ⟨W', hW'⟩ : ∃ W', ((((((((((w5.setCell ⟨G, N * 9, none⟩ (.int .i64 yh.kind)).setCell ⟨G, N * 9 + 1, none⟩ (.bool yh.flag)).setCell ⟨G, N * 9 + 2, none⟩ (.bool yh.neg)).setCell ⟨G, N * 9 + 3, none⟩ (.string yh.dig)).setCell ⟨G, N * 9 + 4, none⟩ (.int .i64 yh.exp)).setCell ⟨G, N * 9 + 5, none⟩ (.int .u64 yh.bits)).setCell ⟨G, N * 9 + 6, none⟩ (.string yh.text)).setCell ⟨G, N * 9 + 7, none⟩ (.slice a1 m1 d1)).setCell ⟨G, N * 9 + 8, none⟩ (.slice a2 m2 d2)).setCell ⟨w.heap.size + 1, q, none⟩ (.slice (some ⟨G, 0, none⟩) (N + 1) c5)) = W' := ⟨_, rfl⟩; have key5 := hide (key.out G c5 w5 _ (by first | exact below_al (Below.refl _ _) | exact below_dr (below_al (Below.refl _ _))) hg5.out ho5.out hat5.out W' (Or.inl hW')))
              all_goals
                go_wp2_with fail
                exact ⟨⟨q + 1, by go_num, hq1, key5.out⟩, by simp [intOf]; omega⟩
            · have hqi : ¬ ((q : Int) < (ll.length : Int)) := by omega
              have hfin : Hid (∃ f, CL m w wr (w.heap.size + 1) tl.length f (col m (l.take (k + 1)))) := by
                obtain ⟨f, hf⟩ := J.out.2.2
                exact ⟨f, hf.congr fun j hj => by rw [if_pos (by have := hll.out; (try simp only at this); omega)]⟩
              go_wp2_with fail
              refine ⟨⟨k + 1, by go_num, by omega, ?_, J.out.1, J.out.2.1, hfin.out⟩, by simp [intOf]; omega⟩
              intro v hv
              rw [List.take_succ_eq_append_getElem hkl] at hv
              rcases List.mem_append.1 hv with q | q
              · exact H.out.1 v q
              · rw [List.mem_singleton.1 q, hxk'.out]
                exact ⟨h8'.out, hnms.out⟩
      · have hne : (hd.kind != 8) = true := by simpa using h8
        have hne' : (hd.kind == 8) = false := beq_eq_false_iff_ne.2 h8
        have hnn := hide (hno.out (hd, ll) hmem.out (fun q => h8 q.1))
        go_wp2_with fail
        go_ret
        exact TB.no hnn.out (below_al H.out.2.1)
    · have hki : ¬ ((k : Int) < (l.length : Int)) := by omega
      have hkk : l.take k = l := List.take_of_length_le (by omega)
      have h8 := hide (show ∀ v ∈ l, v.1.kind = 8 ∧ v.1.names = h.names by have := H.out.1; rw [hkk] at this; exact this)
      obtain ⟨f, hf⟩ := H.out.2.2.2
      rw [hkk] at hf
      have hc := hide (hE.out wr (w.heap.size + 1) f H.out.2.1 hf)
      clear hkk hf
      go_wp2_with (go_at_call 67; refine hc.out.mono ?_; rintro e w2 ⟨bb, rfl, hT, hb2⟩)
      go_ret
      cases bb
      · exact TB.no (fun q => by have := hT.2 ((hx.out h8.out).1 q); cases this) (below_then H.out.2.1 hb2)
      · exact TB.yes ((hx.out h8.out).2 (hT.1 rfl)) (below_then H.out.2.1 hb2)
end Go.Proofs.YtolmbjeinilhlaaDoor
