/- types.copied: walked. -/
import Derived.Test.YtlfnnecpinmjjaaDoorHtCopy
namespace Go.Proofs.YtlfnnecpinmjjaaDoor
open Go.RowKit Go.Maps
set_option linter.unusedSimpArgs false
set_option linter.unusedVariables false
theorem own_shape {W : World} {B : Nat} {T : TypeId} {sz : Nat} {v : Value} {n : Nat} {xs : List Value} (h : W.ownsRow B T sz v n xs) : ∃ a c, v = .slice a n c := by
  rcases h.2 with ⟨rfl, rfl⟩ | ⟨g, cap, cur, rfl, _⟩
  · exact ⟨_, _, rfl⟩
  · exact ⟨_, _, rfl⟩
theorem rows_neT {W : World} {nv lv : Value} {B nn m : Nat} {xs ys : List Value} {g : Nat} (h1 : W.ownsRow B 9 1 nv nn xs) (h2 : W.ownsRow B 26 3 lv m ys) (e1 : nv.ownBlock = some g) (e2 : lv.ownBlock = some g) : False := by
  rcases h1.2 with ⟨rfl, _⟩ | ⟨g1, cap, cur, rfl, _, hg1, _⟩
  · cases e1
  · rcases h2.2 with ⟨rfl, _⟩ | ⟨g2, cap, cur, rfl, _, hg2, _⟩
    · cases e2
    · cases e1; cases e2
      rw [hg1] at hg2
      cases hg2
theorem Tx.set2 {W : World} {h : Th} {ns ls u : Value} {i : Nat} (q : Tx W i h ns ls) : Tx (W.setCell ⟨i, 2, none⟩ u) i h ns u := by
  refine ⟨?_⟩
  rw [(set_heap9 W i 2 _ _ u q.at_).1]
  rfl
theorem Tx.set1 {W : World} {h : Th} {ns ls u : Value} {i : Nat} (q : Tx W i h ns ls) : Tx (W.setCell ⟨i, 1, none⟩ u) i h u ls := by
  refine ⟨?_⟩
  rw [(set_heap9 W i 1 _ _ u q.at_).1]
  rfl
theorem Tx.frz {W : World} {i : Nat} {h : Th} {ns ls : Value} (q : Tx W i h ns ls) (j : Nat) : W.frozen? ⟨i, j, none⟩ = false := by
  have := q.at_
  simp [World.frozen?, this]
/-- Where copied stands: k children are copied. -/
structure LC (n : Nat) (l : List (TT n)) (h : Th) (w : World) (V k : Nat) (nv lv : Value) (W : World) : Prop where
  below : Below w.heap.size w W
  hV : w.heap.size + 2 ≤ V
  box : Tx W V h nv lv
  nrow : OwnS W (w.heap.size + 2) nv h.names
  nne : nv.ownBlock ≠ some V
  lne : lv.ownBlock ≠ some V
  row : ∃ xs, W.ownsRow (w.heap.size + 2) 26 3 lv k xs ∧ ∀ j (hj : j < l.length), j < k → ∃ ns ls s e, KT n W l[j] ns ls s e ∧ w.heap.size + 2 ≤ s ∧ (V < s ∨ e ≤ V) ∧ (∀ g, lv.ownBlock = some g → g < s ∨ e ≤ g) ∧ (∀ g, nv.ownBlock = some g → g < s ∨ e ≤ g) ∧ ∀ r v, (tvs (thd n l[j]) ns ls).toList[r]? = some v → xs[j * 3 + r]? = some v
section
variable {n : Nat} {l : List (TT n)} {h : Th} {w W : World} {V k : Nat} {nv lv : Value}
theorem LC.push {w2 w3 w4 : World} {lv' : Value} {ns ls : Value} {xs : List Value} (H : LC n l h w V k nv lv W) (hk : k < l.length)
    (hx : W.ownsRow (w.heap.size + 2) 26 3 lv k xs)
    (hall : ∀ j (hj : j < l.length), j < k → ∃ ns ls s e, KT n W l[j] ns ls s e ∧ w.heap.size + 2 ≤ s ∧ (V < s ∨ e ≤ V) ∧ (∀ g, lv.ownBlock = some g → g < s ∨ e ≤ g) ∧ (∀ g, nv.ownBlock = some g → g < s ∨ e ≤ g) ∧ ∀ r v, (tvs (thd n l[j]) ns ls).toList[r]? = some v → xs[j * 3 + r]? = some v)
    (s0 : Nat) (hs0 : W.heap.size ≤ s0) (hc : KT n w2 l[k] ns ls s0 w2.heap.size) (z2 : w2.heap.size ≤ w3.heap.size) (a1 : ∀ q, q < W.heap.size → w3.heap[q]? = W.heap[q]?) (a2 : ∀ q, s0 ≤ q → q < w2.heap.size → w3.heap[q]? = w2.heap[q]?)
    (hbw : Below w.heap.size w w3) (hg : w3.grownBy w4 lv.ownBlock)
    (ho : w4.ownsRow (w.heap.size + 2) 26 3 lv' (k + 1) (xs ++ (tvs (thd n l[k]) ns ls).toList)) (hat : lv'.ownBlock = lv.ownBlock ∨ lv'.ownBlock = some w3.heap.size) :
    LC n l h w V (k + 1) nv lv' (w4.setCell ⟨V, 2, none⟩ lv') ∧ Tx w4 V h nv lv ∧ ∀ q, q < w.heap.size + 2 → (w4.setCell ⟨V, 2, none⟩ lv').heap[q]? = W.heap[q]? := by
  have hVl := H.box.lt
  have hVb := H.hV
  have hnl := World.ownsRow.lt H.nrow
  have hll := World.ownsRow.lt hx
  have z1 := hc.1
  have z4 := hg.size
  have hne : ∀ g, nv.ownBlock = some g → lv.ownBlock ≠ some g := fun g e1 e2 => rows_neT H.nrow hx e1 e2
  have hol := World.ownsRow.lt ho
  have old : ∀ q, q < W.heap.size → lv.ownBlock ≠ some q → w4.heap[q]? = W.heap[q]? := fun q q1 q2 => (hg.block q (by omega) (fun e => q2 e.symm)).trans (a1 q q1)
  have bxx : Tx w4 V h nv lv := ⟨(old V hVl H.lne).trans H.box.at_⟩
  have lne' : lv'.ownBlock ≠ some V := by
    rcases hat with q | q
    · rw [q]; exact H.lne
    · rw [q]; intro e; have : w3.heap.size = V := by simpa using e
      omega
  refine ⟨⟨((hbw.grown hg hbw.size fun g e => by have := (hll g e).1; omega).setCell (by show w.heap.size ≤ V; omega) _), H.hV, bxx.set2, ?_, H.nne, lne', _, ownsRow_of ho fun g e hg' => heap_set_ne (fun q => lne' (q ▸ e)), fun j hj hjk => ?_⟩, bxx, fun q hq => ?_⟩
  · refine ownsRow_of H.nrow fun g e hg' => ?_
    rw [heap_set_ne (show g ≠ V from fun q => H.nne (q ▸ e))]
    exact old g hg' (hne g e)
  · by_cases hjk' : j < k
    · obtain ⟨ns', ls', s, e, k1, k2, k2', k3, k4, k5⟩ := hall j hj hjk'
      refine ⟨ns', ls', s, e, k1.move (by simp; have := k1.2.1; omega) ?_, k2, k2', ?_, k4, ?_⟩
      · intro q q1 q2
        have := k1.2.1
        rw [heap_set_ne (by omega)]
        exact old q (by omega) (fun e1 => by rcases k3 q e1 with h | h <;> omega)
      · intro g hg'
        rcases hat with h | h
        · exact k3 g (h ▸ hg')
        · rw [h] at hg'; cases hg'; right; have := k1.2.1; omega
      · intro r v hr
        have := k5 r v hr
        rw [List.getElem?_append_left ((List.getElem?_eq_some_iff.1 this).1)]
        exact this
    · obtain rfl : j = k := by omega
      refine ⟨ns, ls, s0, w2.heap.size, hc.move (by simp; omega) ?_, by omega, by omega, ?_, ?_, ?_⟩
      · intro q q1 q2
        rw [heap_set_ne (by omega), hg.block q (by omega) (fun e1 => by have := (hll q e1.symm).2; omega)]
        exact a2 q q1 q2
      · intro g hg'
        rcases hat with h | h
        · left; have := (hll g (h ▸ hg')).2; omega
        · rw [h] at hg'; cases hg'; right; omega
      · intro g hg'
        left; have := (hnl g hg').2; omega
      · intro r v hr
        have hl : xs.length = j * 3 := hx.1
        rw [List.getElem?_append_right (by omega), hl, Nat.add_sub_cancel_left]
        exact hr
  · rw [heap_set_ne (by omega)]
    exact old q (by omega) (fun e => by have := (hll q e).1; omega)
theorem LC.done {W1 : World} (H : LC n l h w V l.length nv lv W) (hs : W1.heap.size = W.heap.size) (hb : ∀ q, w.heap.size + 2 ≤ q → W1.heap[q]? = W.heap[q]?) : KT (n + 1) W1 (h, l) nv lv w.heap.size W1.heap.size := by
  obtain ⟨xs, hx, hall⟩ := H.row
  have hB := H.below.size
  have hVw := H.hV
  have hVl := H.box.lt
  refine ⟨by omega, Nat.le_refl _, fun W' h' => ⟨?_, ?_⟩⟩
  · have ho := H.nrow
    have hr := World.ownsRow.lt ho
    have ho2 := ho
    obtain ⟨h0, h1⟩ := ho
    rcases h1 with ⟨rfl, e⟩ | ⟨g, cap, cur, rfl, k1, k2, k3, k4, k5, k6⟩
    · exact Or.inl ⟨rfl, List.eq_nil_of_length_eq_zero e⟩
    · have hg := (hr g rfl).2
      have hg2 := (hr g rfl).1
      have hsame : W'.heap[g]? = W.heap[g]? := by rw [h' g (by omega) (by omega), hb g (by omega)]
      refine Or.inr ⟨g, 0, cap, none, rfl, k3, k4, fun _ => ⟨rfl, ?_⟩, fun i hi => ?_⟩
      · by_cases hlt : g < W'.heap.size
        · exact hlt
        · rw [k2, Array.getElem?_eq_none (by omega)] at hsame; cases hsame
      · rw [Nat.zero_add, World.cell?_of_block (a := ⟨g, i, none⟩) hsame, World.ownsRow.cellAt ho2 i (by simpa using hi)]
        simp [scs, hi]
  · have hr := World.ownsRow.lt hx
    have hx2 := hx
    obtain ⟨h0, h1⟩ := hx
    rcases h1 with ⟨rfl, e⟩ | ⟨g, cap, cur, rfl, k1, k2, k3, k4, k5, k6⟩
    · exact Or.inl ⟨rfl, List.eq_nil_of_length_eq_zero e⟩
    · have hg := (hr g rfl).2
      have hg2 := (hr g rfl).1
      have hsame : W'.heap[g]? = W.heap[g]? := by rw [h' g (by omega) (by omega), hb g (by omega)]
      refine Or.inr ⟨g, 0, cap, none, rfl, k3, k4, fun _ => ⟨rfl, ?_⟩, fun i hi => ?_⟩
      · by_cases hlt : g < W'.heap.size
        · exact hlt
        · rw [k2, Array.getElem?_eq_none (by omega)] at hsame; cases hsame
      · obtain ⟨ns', ls', s, e, q1, q2, q2', q3, q3', q4⟩ := hall i hi hi
        refine ⟨ns', ls', ?_, q1.2.2 W' fun q r1 r2 => ?_⟩
        · intro r v hrv
          have hq := q4 r v hrv
          have hlt := (List.getElem?_eq_some_iff.1 hq).1
          rw [Nat.zero_add, World.cell?_of_block (a := ⟨g, i * 3 + r, none⟩) hsame, World.ownsRow.cellAt hx2 _ (by rw [h0] at hlt; exact hlt)]
          exact hq
        · have := q1.2.1
          rw [h' q (by omega) (by omega), hb q (by omega)]
end
/-- append(nil, names...), as a step of a drawn region. -/
theorem step_names {w : World} {ops : Array Oper} {o : Oper} {a : Act} {K : Act → World → Prop} {Q : Exit → Act → World → Prop} {E : Prop} (hgd : o.guard = none) (s x : Operand) (ho : o.op = .call { callee := .builtin .append, args := #[s, x], argTypes := #[23, 23] })
    (hs : a.eval s = .slice none 0 0) (an : Option Addr) (n cn : Nat) (l : List ByteArray) (hx : a.eval x = .slice an n cn) (hn : l.length = n) (hl : NL w (.slice an n cn) l) (hm : n ≤ 281474976710)
    (h : ∀ av c' w', Hid (OwnS w' w.heap.size (.slice av n c') l) → Hid (Below w.heap.size w w') → K (a.put o.dst (.slice av n c')) w') :
    if Region.wanted o (yielded ops a.tmps) = true then Oper.wp Tryd.prog o a w K Q else E := by
  have hw : Region.wanted o (yielded ops a.tmps) = true := by simp [Region.wanted, hgd]
  rw [if_pos hw]
  obtain ⟨i0, hi, hz0, hz1, hz2⟩ := info_parts info9
  cases an with
  | none =>
    have hn0 : n = 0 ∧ cn = 0 ∧ l = [] := by
      rcases hl with ⟨e, e2⟩ | ⟨_, _, _, _, e, _⟩
      · simp only [Value.slice.injEq] at e; exact ⟨e.2.1, e.2.2, e2⟩
      · cases e
    obtain ⟨rfl, rfl, rfl⟩ := hn0
    have hr := run_append_owned_none (P := Tryd.prog) w w.heap.size 23 o.type 9 i0 1 Tryd.underlying23 hi (.slice none 0 0) 0 [] (World.ownsRow_nil _ _ _ _)
    unfold Oper.wp execOp
    simp only [ho, resolve, invoke, builtin, Sem.run_bind, Sem.run_pure, Result.andThen_ok, List.map_toArray, List.map_cons, List.map_nil, hs, hx, hr]
    exact h none 0 w (World.ownsRow_nil _ _ _ _) (Below.refl _ _)
  | some ad =>
    obtain ⟨v', w', hr, h1, h2, h3, h4⟩ := run_append_own_at (P := Tryd.prog) w w.heap.size 23 o.type 9 i0 _ 1 16 Tryd.underlying23 hi hz0 hz1 hz2 rfl (by decide) (.slice none 0 0) 0 [] (World.ownsRow_nil _ _ _ _) ad n cn (scs l) (by rw [scs_length, hn]; simp) (NL.news hl (b := 0) (o := 0) (sp := 0)) (scs_one _) (by unfold maxLen; omega) (by omega) (Nat.le_refl _)
    unfold Oper.wp execOp
    simp only [ho, resolve, invoke, builtin, Sem.run_bind, Sem.run_pure, Result.andThen_ok, List.map_toArray, List.map_cons, List.map_nil, hs, hx, hr]
    simp only [Nat.zero_add, List.nil_append] at h1
    have h1' : OwnS w' w.heap.size v' l := by unfold OwnS; rw [hn]; exact h1
    have hb : Below w.heap.size w w' := (Below.refl _ w).grown h2 (Nat.le_refl _) (fun k hk => by cases hk)
    rcases h1.2 with ⟨rfl, e⟩ | ⟨g, cap, cur, rfl, _⟩
    · subst e; exact h none 0 w' h1' hb
    · exact h _ _ w' h1' hb
end Go.Proofs.YtlfnnecpinmjjaaDoor
