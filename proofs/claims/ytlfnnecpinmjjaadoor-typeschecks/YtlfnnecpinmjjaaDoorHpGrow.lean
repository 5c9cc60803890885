/- A column that has grown by one value, in either order of the stores. -/
import Derived.Test.YtlfnnecpinmjjaaDoorHnStep
namespace Go.Proofs.YtlfnnecpinmjjaaDoor
open Go.RowKit Go.Maps
set_option linter.unusedSimpArgs false
set_option linter.unusedVariables false
theorem fin_ab (w5 W' : World) (G N R q L : Nat) (f : Nat → Value) (v5 b0 b1 b2 b3 b4 b5 b6 b7 b8 : Value) (har : ∃ ar, w5.heap[G]? = some (.cells ar 33 (0, 0)) ∧ N * 9 + 9 ≤ ar.size) (hrow : w5.rowIs R 31 L f) (hGR : G ≠ R)
    (hW : ((((((((((w5.setCell ⟨G, N * 9, none⟩ b0).setCell ⟨G, N * 9 + 1, none⟩ b1).setCell ⟨G, N * 9 + 2, none⟩ b2).setCell ⟨G, N * 9 + 3, none⟩ b3).setCell ⟨G, N * 9 + 4, none⟩ b4).setCell ⟨G, N * 9 + 5, none⟩ b5).setCell ⟨G, N * 9 + 6, none⟩ b6).setCell ⟨G, N * 9 + 7, none⟩ b7).setCell ⟨G, N * 9 + 8, none⟩ b8).setCell ⟨R, q, none⟩ v5) = W' ∨ ((((((((((w5.setCell ⟨R, q, none⟩ v5).setCell ⟨G, N * 9, none⟩ b0).setCell ⟨G, N * 9 + 1, none⟩ b1).setCell ⟨G, N * 9 + 2, none⟩ b2).setCell ⟨G, N * 9 + 3, none⟩ b3).setCell ⟨G, N * 9 + 4, none⟩ b4).setCell ⟨G, N * 9 + 5, none⟩ b5).setCell ⟨G, N * 9 + 6, none⟩ b6).setCell ⟨G, N * 9 + 7, none⟩ b7).setCell ⟨G, N * 9 + 8, none⟩ b8) = W') :
    ∃ ar ar' : Array Value, w5.heap[G]? = some (.cells ar 33 (0, 0)) ∧ W'.heap[G]? = some (.cells ar' 33 (0, 0)) ∧ ar'.size = ar.size ∧ (∀ j, j < N * 9 ∨ N * 9 + 9 ≤ j → ar'[j]? = ar[j]?) ∧ (∀ (j : Nat) v, (#[b0, b1, b2, b3, b4, b5, b6, b7, b8] : Array Value)[j]? = some v → ar'[N * 9 + j]? = some v) ∧ W'.rowIs R 31 L (fun j => if j = q then v5 else f j) ∧ ∀ k, k ≠ G → k ≠ R → W'.heap[k]? = w5.heap[k]? := by
  obtain ⟨ar, k1, k2⟩ := har
  rcases hW with hW | hW
  · obtain ⟨W1, hW1⟩ : ∃ W1, (((((((((w5.setCell ⟨G, N * 9, none⟩ b0).setCell ⟨G, N * 9 + 1, none⟩ b1).setCell ⟨G, N * 9 + 2, none⟩ b2).setCell ⟨G, N * 9 + 3, none⟩ b3).setCell ⟨G, N * 9 + 4, none⟩ b4).setCell ⟨G, N * 9 + 5, none⟩ b5).setCell ⟨G, N * 9 + 6, none⟩ b6).setCell ⟨G, N * 9 + 7, none⟩ b7).setCell ⟨G, N * 9 + 8, none⟩ b8) = W1 := ⟨_, rfl⟩
    rw [hW1] at hW
    obtain ⟨ar', p1, p2, p3, p4, p5⟩ := set_nineO w5 G (N * 9) _ ar b0 b1 b2 b3 b4 b5 b6 b7 b8 k1 k2 W1 hW1
    have r1 : W1.rowIs R 31 L f := hrow.of_block (p5 R (fun e => hGR e.symm))
    refine ⟨ar, ar', k1, ?_, p2, p3, p4, ?_, fun k h1 h2 => ?_⟩
    · rw [← hW, Below.heap_setCell _ _ _ _ hGR]; exact p1
    · rw [← hW]; exact r1.set q v5
    · rw [← hW, Below.heap_setCell _ _ _ _ h2]; exact p5 k h1
  · have e1 : (w5.setCell ⟨R, q, none⟩ v5).heap[G]? = some (.cells ar 33 (0, 0)) := by rw [Below.heap_setCell _ _ _ _ hGR]; exact k1
    have r1 := hrow.set q v5
    obtain ⟨ar', p1, p2, p3, p4, p5⟩ := set_nineO (w5.setCell ⟨R, q, none⟩ v5) G (N * 9) _ ar b0 b1 b2 b3 b4 b5 b6 b7 b8 e1 k2 W' hW
    refine ⟨ar, ar', k1, p1, p2, p3, p4, r1.of_block (p5 R (fun e => hGR e.symm)), fun k h1 h2 => ?_⟩
    rw [p5 k h1, Below.heap_setCell _ _ _ _ h2]
/-- All that the next round wants. -/
theorem grow_ab {m : Nat} {w W Wz w5 W' : World} {R L : Nat} {f : Nat → Value} {cols : Nat → List (VT m)} (h : CL m w W R L f cols) (q : Nat) (hq : q < L) (y : VT m) (yh : Hd) (ns ls : Value) (hyh : vhd m y = yh) (hy : RD m w y ns ls)
    (G N c5 : Nat) (xs : List Value) (hN : (cols q).length = N) (hx : W.ownsRow (R + 1) 33 9 (f q) N xs) (hall : ∀ j (h : j < (cols q).length), ∃ ns ls, RD m w (cols q)[j] ns ls ∧ ∀ r u, (vals (vhd m (cols q)[j]) ns ls).toList[r]? = some u → xs[j * 9 + r]? = some u)
    (hwW : Below w.heap.size w W) (hwR : w.heap.size ≤ R) (hz : Below W.heap.size W Wz) (hg : Wz.grownBy w5 (f q).ownBlock) (hown : w5.ownsRow (R + 1) 33 9 (.slice (some ⟨G, 0, none⟩) (N + 1) c5) (N + 1) (xs ++ z9)) (hat : some G = (f q).ownBlock ∨ G = Wz.heap.size)
    (hW : ((((((((((w5.setCell ⟨G, N * 9, none⟩ (.int .i64 yh.kind)).setCell ⟨G, N * 9 + 1, none⟩ (.bool yh.flag)).setCell ⟨G, N * 9 + 2, none⟩ (.bool yh.neg)).setCell ⟨G, N * 9 + 3, none⟩ (.string yh.dig)).setCell ⟨G, N * 9 + 4, none⟩ (.int .i64 yh.exp)).setCell ⟨G, N * 9 + 5, none⟩ (.int .u64 yh.bits)).setCell ⟨G, N * 9 + 6, none⟩ (.string yh.text)).setCell ⟨G, N * 9 + 7, none⟩ ns).setCell ⟨G, N * 9 + 8, none⟩ ls).setCell ⟨R, q, none⟩ (.slice (some ⟨G, 0, none⟩) (N + 1) c5)) = W' ∨ ((((((((((w5.setCell ⟨R, q, none⟩ (.slice (some ⟨G, 0, none⟩) (N + 1) c5)).setCell ⟨G, N * 9, none⟩ (.int .i64 yh.kind)).setCell ⟨G, N * 9 + 1, none⟩ (.bool yh.flag)).setCell ⟨G, N * 9 + 2, none⟩ (.bool yh.neg)).setCell ⟨G, N * 9 + 3, none⟩ (.string yh.dig)).setCell ⟨G, N * 9 + 4, none⟩ (.int .i64 yh.exp)).setCell ⟨G, N * 9 + 5, none⟩ (.int .u64 yh.bits)).setCell ⟨G, N * 9 + 6, none⟩ (.string yh.text)).setCell ⟨G, N * 9 + 7, none⟩ ns).setCell ⟨G, N * 9 + 8, none⟩ ls) = W') :
    Below w.heap.size w W' ∧ (∀ k, k < W.heap.size → some k ≠ (f q).ownBlock → k ≠ R → W'.heap[k]? = W.heap[k]?) ∧ ∃ f', CL m w W' R L f' (fun j => if j = q then cols q ++ [y] else cols j) := by
  have hG : R + 1 ≤ G ∧ G < w5.heap.size := World.ownsRow.lt hown G rfl
  have hsz := hz.size
  have hsz2 := hwW.size
  have hrow5 : w5.rowIs R 31 L f := h.row.of_block (by
    have h1 := h.row.lt
    rw [hg.block R (by omega) (fun e => by have := (World.ownsRow.lt hx _ e.symm).1; omega)]
    exact hz.block _ h1)
  obtain ⟨zf, har, _⟩ := vz_facts hown hx.1
  obtain ⟨ar, ar', k1, k2, k3, k4, k5, k6, k7⟩ := fin_ab w5 W' G N R q L f (.slice (some ⟨G, 0, none⟩) (N + 1) c5) _ _ _ _ _ _ _ _ _ har hrow5 (by omega) hW
  have hb5 : Below w.heap.size w w5 := (below_then hwW hz).grown hg (by omega) (fun k hk => by have := (World.ownsRow.lt hx k hk).1; omega)
  refine ⟨?_, ?_, _, CL.push h q hq y ns ls hy G N c5 xs z9 hN hx hall hz hg hown hat ar ar' k1 k2 k3 k4 (by rw [hyh]; exact k5) k6 k7⟩
  · rcases hW with hW | hW
    all_goals
      rw [← hW]
      iterate 10 (refine Below.setCell ?_ (by first | (show w.heap.size ≤ G; omega) | (show w.heap.size ≤ R; omega)) _)
      exact hb5
  · intro k hk hne hkR
    have hkG : k ≠ G := by
      rintro rfl
      rcases hat with q | q
      · exact hne q
      · omega
    rw [k7 k hkG hkR, hg.block k (by omega) hne, hz.block k hk]
theorem setCell_comm (W : World) (R q G o : Nat) (v b : Value) (h : R ≠ G) : (W.setCell ⟨R, q, none⟩ v).setCell ⟨G, o, none⟩ b = (W.setCell ⟨G, o, none⟩ b).setCell ⟨R, q, none⟩ v := by
  simp only [World.setCell]
  congr 1
  apply Array.ext
  · simp
  · intro i h1 h2
    simp only [Array.getElem_modify]
    by_cases e1 : R = i
    · subst e1
      have e2 : ¬ G = R := fun e => h e.symm
      simp [e2]
    · by_cases e2 : G = i
      · subst e2
        simp [e1]
      · simp [e1, e2]
end Go.Proofs.YtlfnnecpinmjjaaDoor
