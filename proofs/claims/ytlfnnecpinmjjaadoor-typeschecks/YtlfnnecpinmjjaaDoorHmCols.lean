/- Columns of values of the call's own: rows in a row. -/
import Derived.Test.YtlfnnecpinmjjaaDoorHlEach
import Derived.Deep.OwnRows
namespace Go.Proofs.YtlfnnecpinmjjaaDoor
open Go.RowKit Go.Maps
set_option linter.unusedSimpArgs false
set_option linter.unusedVariables false
theorem set_heap9 (w : World) (G o : Nat) (ar : Array Value) (T : TypeId) (b : Value) (hg : w.heap[G]? = some (.cells ar T (0, 0))) :
    (w.setCell ⟨G, o, none⟩ b).heap[G]? = some (.cells (ar.setIfInBounds o b) T (0, 0)) ∧ ∀ k, k ≠ G → (w.setCell ⟨G, o, none⟩ b).heap[k]? = w.heap[k]? := by
  refine ⟨?_, fun k hk => Below.heap_setCell _ _ _ _ hk⟩
  obtain ⟨hlt, e⟩ := Array.getElem?_eq_some_iff.1 hg
  simp [World.setCell, hlt, Array.getElem_modify, e]
theorem set_nineO (w : World) (G o : Nat) (T : TypeId) (ar : Array Value) (b0 b1 b2 b3 b4 b5 b6 b7 b8 : Value) (hg : w.heap[G]? = some (.cells ar T (0, 0))) (ho : o + 9 ≤ ar.size) (W : World) (hW : ((((((((w.setCell ⟨G, o, none⟩ b0).setCell ⟨G, o + 1, none⟩ b1).setCell ⟨G, o + 2, none⟩ b2).setCell ⟨G, o + 3, none⟩ b3).setCell ⟨G, o + 4, none⟩ b4).setCell ⟨G, o + 5, none⟩ b5).setCell ⟨G, o + 6, none⟩ b6).setCell ⟨G, o + 7, none⟩ b7).setCell ⟨G, o + 8, none⟩ b8 = W) :
    ∃ ar' : Array Value, W.heap[G]? = some (.cells ar' T (0, 0)) ∧ ar'.size = ar.size ∧ (∀ j, j < o ∨ o + 9 ≤ j → ar'[j]? = ar[j]?) ∧ (∀ (j : Nat) v, (#[b0, b1, b2, b3, b4, b5, b6, b7, b8] : Array Value)[j]? = some v → ar'[o + j]? = some v) ∧ ∀ k, k ≠ G → W.heap[k]? = w.heap[k]? := by
  have h0 := set_heap9 _ G (o) _ T b0 hg
  have h1 := set_heap9 _ G (o + 1) _ T b1 h0.1
  have h2 := set_heap9 _ G (o + 2) _ T b2 h1.1
  have h3 := set_heap9 _ G (o + 3) _ T b3 h2.1
  have h4 := set_heap9 _ G (o + 4) _ T b4 h3.1
  have h5 := set_heap9 _ G (o + 5) _ T b5 h4.1
  have h6 := set_heap9 _ G (o + 6) _ T b6 h5.1
  have h7 := set_heap9 _ G (o + 7) _ T b7 h6.1
  have h8 := set_heap9 _ G (o + 8) _ T b8 h7.1
  rw [hW] at h8
  refine ⟨_, h8.1, by simp, fun j hj => ?_, fun j v hj => ?_, fun k hk => ?_⟩
  · simp only [Array.getElem?_setIfInBounds, Array.size_setIfInBounds]
    iterate 9 rw [if_neg (by omega)]
  · have hj9 : j < 9 := (Array.getElem?_eq_some_iff.1 hj).1
    simp only [Array.getElem?_setIfInBounds, Array.size_setIfInBounds]
    match j, hj9 with
    | 0, _ => rw [if_neg (by omega)]; rw [if_neg (by omega)]; rw [if_neg (by omega)]; rw [if_neg (by omega)]; rw [if_neg (by omega)]; rw [if_neg (by omega)]; rw [if_neg (by omega)]; rw [if_neg (by omega)]; rw [if_pos (by omega), if_pos (by omega)]; exact hj
    | 1, _ => rw [if_neg (by omega)]; rw [if_neg (by omega)]; rw [if_neg (by omega)]; rw [if_neg (by omega)]; rw [if_neg (by omega)]; rw [if_neg (by omega)]; rw [if_neg (by omega)]; rw [if_pos (by omega), if_pos (by omega)]; exact hj
    | 2, _ => rw [if_neg (by omega)]; rw [if_neg (by omega)]; rw [if_neg (by omega)]; rw [if_neg (by omega)]; rw [if_neg (by omega)]; rw [if_neg (by omega)]; rw [if_pos (by omega), if_pos (by omega)]; exact hj
    | 3, _ => rw [if_neg (by omega)]; rw [if_neg (by omega)]; rw [if_neg (by omega)]; rw [if_neg (by omega)]; rw [if_neg (by omega)]; rw [if_pos (by omega), if_pos (by omega)]; exact hj
    | 4, _ => rw [if_neg (by omega)]; rw [if_neg (by omega)]; rw [if_neg (by omega)]; rw [if_neg (by omega)]; rw [if_pos (by omega), if_pos (by omega)]; exact hj
    | 5, _ => rw [if_neg (by omega)]; rw [if_neg (by omega)]; rw [if_neg (by omega)]; rw [if_pos (by omega), if_pos (by omega)]; exact hj
    | 6, _ => rw [if_neg (by omega)]; rw [if_neg (by omega)]; rw [if_pos (by omega), if_pos (by omega)]; exact hj
    | 7, _ => rw [if_neg (by omega)]; rw [if_pos (by omega), if_pos (by omega)]; exact hj
    | 8, _ => rw [if_pos (by omega), if_pos (by omega)]; exact hj
  · rw [h8.2 k hk, h7.2 k hk, h6.2 k hk, h5.2 k hk, h4.2 k hk, h3.2 k hk, h2.2 k hk, h1.2 k hk, h0.2 k hk]
/-- Columns: the row in block R holds L slices of the call's own, all in other blocks. -/
structure CL (m : Nat) (w0 W : World) (R L : Nat) (f : Nat → Value) (cols : Nat → List (VT m)) : Prop where
  row : W.rowIs R 31 L f
  ov : ∀ i, i < L → OV m w0 W (R + 1) (f i) (cols i)
  sep : ∀ i j, i < L → j < L → i ≠ j → ∀ g, (f i).ownBlock = some g → (f j).ownBlock ≠ some g
theorem CL.keep {m : Nat} {w0 W W1 : World} {R L : Nat} {f : Nat → Value} {cols : Nat → List (VT m)} (h : CL m w0 W R L f cols) (hb : Below W.heap.size W W1) : CL m w0 W1 R L f cols :=
  ⟨h.row.of_block (hb.block _ h.row.lt), fun i hi => (h.ov i hi).below hb, h.sep⟩
theorem CL.push {m : Nat} {w0 W Wz w' W' : World} {R L : Nat} {f : Nat → Value} {cols : Nat → List (VT m)} (h : CL m w0 W R L f cols) (i : Nat) (hi : i < L) (y : VT m) (ns ls : Value) (hy : RD m w0 y ns ls)
    (G N c' : Nat) (xs zs : List Value) (hN : (cols i).length = N) (hx : W.ownsRow (R + 1) 33 9 (f i) N xs) (hall : ∀ j (h : j < (cols i).length), ∃ ns ls, RD m w0 (cols i)[j] ns ls ∧ ∀ r u, (vals (vhd m (cols i)[j]) ns ls).toList[r]? = some u → xs[j * 9 + r]? = some u)
    (hz : Below W.heap.size W Wz) (hg : Wz.grownBy w' (f i).ownBlock) (hown : w'.ownsRow (R + 1) 33 9 (.slice (some ⟨G, 0, none⟩) (N + 1) c') (N + 1) (xs ++ zs)) (hat : some G = (f i).ownBlock ∨ G = Wz.heap.size)
    (ar ar' : Array Value) (k1 : w'.heap[G]? = some (.cells ar 33 (0, 0))) (k2 : W'.heap[G]? = some (.cells ar' 33 (0, 0))) (k3 : ar'.size = ar.size) (k4 : ∀ j, j < N * 9 ∨ N * 9 + 9 ≤ j → ar'[j]? = ar[j]?) (k5 : ∀ (j : Nat) v, (vals (vhd m y) ns ls)[j]? = some v → ar'[N * 9 + j]? = some v)
    (k6 : W'.rowIs R 31 L (fun j => if j = i then .slice (some ⟨G, 0, none⟩) (N + 1) c' else f j)) (k7 : ∀ k, k ≠ G → k ≠ R → W'.heap[k]? = w'.heap[k]?) :
    CL m w0 W' R L (fun j => if j = i then .slice (some ⟨G, 0, none⟩) (N + 1) c' else f j) (fun j => if j = i then cols i ++ [y] else cols j) := by
  have hzs := hz.size
  have hRl := h.row.lt
  have hGR : R + 1 ≤ G ∧ G < w'.heap.size := World.ownsRow.lt hown G rfl
  refine ⟨k6, fun j hj => ?_, fun j k hj hk hjk g hg1 => ?_⟩
  · by_cases e : j = i
    · subst e
      simp only [if_pos]
      obtain ⟨o1, o2⟩ := hown
      rcases o2 with ⟨q, _⟩ | ⟨g, cap, cur, q, q1, q2, q3, q4, q5, q6⟩
      · cases q
      · simp only [Value.slice.injEq, Option.some.injEq, Addr.mk.injEq, and_true, true_and] at q
        obtain ⟨rfl, rfl⟩ := q
        rw [k1] at q2
        simp only [Option.some.injEq, Obj.cells.injEq, and_true] at q2
        subst q2
        have hl' : (ar'.toList.take ((N + 1) * 9)).length = (N + 1) * 9 := by
          rw [List.length_take, Array.length_toList, k3, q5]
          exact Nat.min_eq_left (Nat.mul_le_mul_right 9 q3)
        have hxl : xs.length = N * 9 := hx.1
        refine ⟨ar'.toList.take ((N + 1) * 9), ⟨by rw [hl', List.length_append, hN]; rfl, Or.inr ⟨G, c', ar', by rw [List.length_append, hN]; rfl, q1, k2, by rw [List.length_append, hN]; exact q3, q4, by rw [k3, q5], by rw [List.length_append, hN]; rfl⟩⟩, fun r hr => ?_⟩
        rw [List.length_append, hN] at hr
        simp only [List.length_singleton] at hr
        by_cases hrN : r < (cols j).length
        · obtain ⟨ns1, ls1, p1, p2⟩ := hall r hrN
          refine ⟨ns1, ls1, by rw [List.getElem_append_left hrN]; exact p1, fun t u hu => ?_⟩
          rw [List.getElem_append_left hrN] at hu
          have ht9 : t < 9 := (List.getElem?_eq_some_iff.1 hu).1
          have hq := p2 t u hu
          have hq2 : (xs ++ zs)[r * 9 + t]? = some u := by rw [List.getElem?_append_left (by omega)]; exact hq
          rw [← q6, List.getElem?_take] at hq2
          rw [List.getElem?_take]
          rw [if_pos (by omega)] at hq2 ⊢
          rw [Array.getElem?_toList] at hq2 ⊢
          rw [k4 _ (Or.inl (by omega))]
          exact hq2
        · have hrN' : r = N := by omega
          subst hrN'
          refine ⟨ns, ls, by rw [List.getElem_append_right (by omega)]; simp only [hN, Nat.sub_self, List.getElem_cons_zero]; exact hy, fun t u hu => ?_⟩
          rw [List.getElem_append_right (by omega)] at hu
          simp only [hN, Nat.sub_self, List.getElem_cons_zero] at hu
          have ht9 : t < 9 := (List.getElem?_eq_some_iff.1 hu).1
          rw [List.getElem?_take, if_pos (by omega), Array.getElem?_toList]
          exact k5 t u (by rw [← Array.getElem?_toList]; exact hu)
    · simp only [if_neg e]
      refine (h.ov j hj).keep fun g hg1 hlt => ?_
      have hne : g ≠ G := by
        rintro rfl
        rcases hat with q | q
        · exact h.sep i j hi hj (fun x => e x.symm) g q.symm hg1
        · omega
      have hgR : g ≠ R := by have := (h.ov j hj).lt g hg1; omega
      rw [k7 g hne hgR, hg.block g (by omega) (fun q => h.sep i j hi hj (fun x => e x.symm) g q.symm hg1), hz.block g hlt]
  · by_cases ej : j = i
    · subst ej
      simp only [if_pos] at hg1
      have hkj : ¬ k = j := fun x => hjk x.symm
      simp only [if_neg hkj]
      have hg1 : G = g := by simpa [Value.ownBlock] using hg1
      subst hg1
      intro q
      rcases hat with p | p
      · exact h.sep j k hi hk hjk G p.symm q
      · have := ((h.ov k hk).lt G q).2; omega
    · simp only [if_neg ej] at hg1
      by_cases ek : k = i
      · subst ek
        simp only [if_pos]
        intro q
        have q : G = g := by simpa [Value.ownBlock] using q
        subst q
        rcases hat with p | p
        · exact h.sep k j hi hj (fun x => ej x.symm) G p.symm hg1
        · have := ((h.ov j hj).lt G hg1).2; omega
      · simp only [if_neg ek]
        exact h.sep j k hj hk hjk g hg1
end Go.Proofs.YtlfnnecpinmjjaaDoor
