/- Copies of types: what the walks of types.copied and calamuskeep.CopyType lean on. -/
import Derived.Test.YtlfnnecpinmjjaaDoorHsHas
namespace Go.Proofs.YtlfnnecpinmjjaaDoor
open Go.RowKit Go.Maps
set_option linter.unusedSimpArgs false
set_option linter.unusedVariables false
theorem infoTT : (Tryd.prog.info? 26).map (fun i => (i.zero, i.size, i.bytes)) = some (some (.agg #[.int .i64 0, .slice none 0 0, .slice none 0 0]), 3, 56) := by kernel_rfl
section
variable {w : World} {ops : Array Oper} {rest : List Oper} {o : Oper} {a : Act} {Q : Exit → Act → World → Prop}
theorem app_t (hgd : o.guard = none) (s x : Operand) (ho : o.op = .call { callee := .builtin .append, args := #[s, x], argTypes := #[24, 24] })
    (B : Nat) (v : Value) (n : Nat) (xs : List Value) (hs : a.eval s = v) (hown : w.ownsRow B 26 3 v n xs) (g c : Nat) (hx : a.eval x = .slice (some ⟨g, 0, none⟩) 1 c) (hd : Th) (ns ls : Value) (hn : ns.oneCell' = true) (hl : ls.oneCell' = true)
    (hnews : w.rangeAt g 0 (tvs hd ns ls).toList) (hm : n ≤ 200000) (hB : B ≤ w.heap.size)
    (h : ∀ av c' w', Hid (w'.ownsRow B 26 3 (.slice av (n + 1) c') (n + 1) (xs ++ (tvs hd ns ls).toList)) → Hid (w.grownBy w' v.ownBlock) → Hid ((Value.slice av (n + 1) c').ownBlock = v.ownBlock ∨ (Value.slice av (n + 1) c').ownBlock = some w.heap.size) → wpList Tryd.prog ops Q rest (a.put o.dst (.slice av (n + 1) c')) w') : wpList Tryd.prog ops Q (o :: rest) a w := by
  obtain ⟨i0, hi, hz0, hz1, hz2⟩ := info_parts infoTT
  refine wpList_append_own_at w hgd s x 24 ho B 26 i0 _ 3 56 Tryd.underlying24 hi hz0 hz1 hz2 rfl (by decide) v n xs hs hown ⟨g, 0, none⟩ 1 c (tvs hd ns ls).toList hx rfl ?_ ?_ ?_ ?_ hB ?_
  · intro j u hj
    have := hnews j u hj
    rw [show (⟨g, 0, none⟩ : Addr).add j = ⟨g, 0 + j, none⟩ by unfold Addr.add; split <;> simp_all]
    exact this
  · intro u hu
    simp only [tvs, List.mem_cons, List.not_mem_nil, or_false] at hu
    rcases hu with rfl | rfl | rfl
    all_goals first | rfl | exact hn | exact hl
  · unfold maxLen; omega
  · omega
  · intro v' w' h1 h2 h3 h4
    rcases h1.2 with ⟨rfl, e⟩ | ⟨g', cap, cur, rfl, _⟩
    · omega
    · exact h _ _ w' h1 h2 h4
end
/-- A struct reads as x, whatever lies outside the blocks from s to e. -/
def KT (n : Nat) (W : World) (x : TT n) (ns ls : Value) (s e : Nat) : Prop := s ≤ e ∧ e ≤ W.heap.size ∧ ∀ W' : World, (∀ k, s ≤ k → k < e → W'.heap[k]? = W.heap[k]?) → RT n W' x ns ls
theorem KT.move {n : Nat} {W W1 : World} {x : TT n} {ns ls : Value} {s e : Nat} (h : KT n W x ns ls s e) (hs : e ≤ W1.heap.size) (hb : ∀ k, s ≤ k → k < e → W1.heap[k]? = W.heap[k]?) : KT n W1 x ns ls s e :=
  ⟨h.1, hs, fun W' h' => h.2.2 W' fun k h1 h2 => (h' k h1 h2).trans (hb k h1 h2)⟩
theorem KT.rd {n : Nat} {W : World} {x : TT n} {ns ls : Value} {s e : Nat} (h : KT n W x ns ls s e) : RT n W x ns ls := h.2.2 W fun _ _ _ => rfl
/-- Where Copy stands: k elements are copied. -/
structure LT (n : Nat) (l : List (TT n)) (w1 : World) (k : Nat) (lv : Value) (W : World) : Prop where
  below : Below w1.heap.size w1 W
  row : ∃ xs, W.ownsRow w1.heap.size 26 3 lv k xs ∧ ∀ j (h : j < l.length), j < k → ∃ ns ls s e, KT n W l[j] ns ls s e ∧ w1.heap.size ≤ s ∧ (∀ g, lv.ownBlock = some g → g < s ∨ e ≤ g) ∧ ∀ r v, (tvs (thd n l[j]) ns ls).toList[r]? = some v → xs[j * 3 + r]? = some v
theorem LT.start {n : Nat} {l : List (TT n)} {w1 : World} : LT n l w1 0 (.slice none 0 0) w1 :=
  ⟨Below.refl _ _, [], World.ownsRow_nil _ _ _ _, fun j _ h => by omega⟩
theorem LT.step {n : Nat} {l : List (TT n)} {w1 W w2 w3 w4 : World} {k : Nat} {lv lv' : Value} {xs : List Value} {ns ls : Value} (h : LT n l w1 k lv W) (hk : k < l.length)
    (hx : W.ownsRow w1.heap.size 26 3 lv k xs)
    (hall : ∀ j (h : j < l.length), j < k → ∃ ns ls s e, KT n W l[j] ns ls s e ∧ w1.heap.size ≤ s ∧ (∀ g, lv.ownBlock = some g → g < s ∨ e ≤ g) ∧ ∀ r v, (tvs (thd n l[j]) ns ls).toList[r]? = some v → xs[j * 3 + r]? = some v)
    (hc : KT n w2 l[k] ns ls W.heap.size w2.heap.size) (hb2 : Below W.heap.size W w2) (hb3 : Below w2.heap.size w2 w3) (hg : w3.grownBy w4 lv.ownBlock)
    (ho : w4.ownsRow w1.heap.size 26 3 lv' (k + 1) (xs ++ (tvs (thd n l[k]) ns ls).toList)) (hat : lv'.ownBlock = lv.ownBlock ∨ lv'.ownBlock = some w3.heap.size) : LT n l w1 (k + 1) lv' w4 := by
  have hB := h.below.size
  have hrow := hx.lt
  have z2 := hb2.size
  have z3 := hb3.size
  have z4 := hg.size
  refine ⟨?_, _, ho, ?_⟩
  · refine (((h.below.trans (hb2.mono hB)).trans (hb3.mono (by omega))).grown hg (by omega) fun g hg' => (hrow g hg').1)
  · intro j hj hjk
    by_cases hjk' : j < k
    · obtain ⟨ns', ls', s, e, k1, k2, k3, k4⟩ := hall j hj hjk'
      refine ⟨ns', ls', s, e, k1.move (by have := k1.2.1; omega) ?_, k2, ?_, ?_⟩
      · intro q q1 q2
        have := k1.2.1
        rw [hg.block q (by omega) (fun e1 => by rcases k3 q e1.symm with h | h <;> omega), hb3.block q (by omega), hb2.block q (by omega)]
      · intro g hg'
        rcases hat with h | h
        · exact k3 g (h ▸ hg')
        · rw [h] at hg'; cases hg'; right; have := k1.2.1; omega
      · intro r v hr
        have := k4 r v hr
        rw [List.getElem?_append_left ((List.getElem?_eq_some_iff.1 this).1)]
        exact this
    · obtain rfl : j = k := by omega
      refine ⟨ns, ls, W.heap.size, w2.heap.size, hc.move (by omega) ?_, hB, ?_, ?_⟩
      · intro q q1 q2
        rw [hg.block q (by omega) (fun e1 => by have := (hrow q e1.symm).2; omega), hb3.block q (by omega)]
      · intro g hg'
        rcases hat with h | h
        · left; exact (hrow g (h ▸ hg')).2
        · rw [h] at hg'; cases hg'; right; omega
      · intro r v hr
        have hl : xs.length = j * 3 := hx.1
        rw [List.getElem?_append_right (by omega), hl, Nat.add_sub_cancel_left]
        exact hr
/-- What Copy makes: all that it made lies in new blocks. -/
theorem LT.done {n : Nat} {h : Th} {l : List (TT n)} {w w1 W W1 : World} {nv lv : Value} (H : LT n l w1 l.length lv W) (ho : OwnS w1 (w.heap.size + 2) nv h.names) (hz : w.heap.size + 2 ≤ w1.heap.size)
    (hs : W1.heap.size = W.heap.size) (hb : ∀ k, w.heap.size + 2 ≤ k → W1.heap[k]? = W.heap[k]?) : KT (n + 1) W1 (h, l) nv lv w.heap.size W1.heap.size := by
  obtain ⟨xs, hx, hall⟩ := H.row
  have hB := H.below.size
  refine ⟨by omega, Nat.le_refl _, fun W' h' => ⟨?_, ?_⟩⟩
  · have hr := World.ownsRow.lt ho
    have ho2 := ho
    obtain ⟨h0, h1⟩ := ho
    rcases h1 with ⟨rfl, e⟩ | ⟨g, cap, cur, rfl, k1, k2, k3, k4, k5, k6⟩
    · exact Or.inl ⟨rfl, List.eq_nil_of_length_eq_zero e⟩
    · have hg := (hr g rfl).2
      have hg2 := (hr g rfl).1
      have hsame : W'.heap[g]? = w1.heap[g]? := by rw [h' g (by omega) (by omega), hb g hg2, H.below.block g hg]
      refine Or.inr ⟨g, 0, cap, none, rfl, k3, k4, fun _ => ⟨rfl, ?_⟩, fun i hi => ?_⟩
      · by_cases hlt : g < W'.heap.size
        · exact hlt
        · rw [k2, Array.getElem?_eq_none (by omega)] at hsame; cases hsame
      · rw [Nat.zero_add, World.cell?_of_block (a := ⟨g, i, none⟩) hsame, World.ownsRow.cellAt ho2 i (by simpa using hi)]
        simp [scs, hi]
  · have hr := World.ownsRow.lt hx
    have hx2 := hx
    obtain ⟨h0, h1⟩ := hx
    rcases h1 with ⟨rfl, e⟩ | ⟨g, cap, cur, rfl, k1, k2, k3, k4, k5, k6⟩
    · exact Or.inl ⟨rfl, List.eq_nil_of_length_eq_zero e⟩
    · have hg := (hr g rfl).2
      have hsame : W'.heap[g]? = W.heap[g]? := by rw [h' g (by omega) (by omega), hb g (by omega)]
      refine Or.inr ⟨g, 0, cap, none, rfl, k3, k4, fun _ => ⟨rfl, ?_⟩, fun i hi => ?_⟩
      · by_cases hlt : g < W'.heap.size
        · exact hlt
        · rw [k2, Array.getElem?_eq_none (by omega)] at hsame; cases hsame
      · obtain ⟨ns', ls', s, e, q1, q2, q3, q4⟩ := hall i hi hi
        refine ⟨ns', ls', ?_, q1.2.2 W' fun k r1 r2 => ?_⟩
        · intro r v hrv
          have hq := q4 r v hrv
          have hlt := (List.getElem?_eq_some_iff.1 hq).1
          have hr9 : r < 3 := (List.getElem?_eq_some_iff.1 hrv).1
          rw [Nat.zero_add, World.cell?_of_block (a := ⟨g, i * 3 + r, none⟩) hsame, World.ownsRow.cellAt hx2 _ (by rw [h0] at hlt; exact hlt)]
          exact hq
        · have := q1.2.1
          rw [h' k (by omega) (by omega), hb k (by omega)]
end Go.Proofs.YtlfnnecpinmjjaaDoor
