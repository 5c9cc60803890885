/- calamuskeep.Copy: walked. -/
import Derived.Test.YtolmbjeinilhlaaDoorZtWcBig
import Derived.Laws.OwnMore
import Derived.Deep.AppendLies
import Derived.Deep.RegionHeld3
import Derived.Deep.RegionLaw
namespace Go.Proofs.YtolmbjeinilhlaaDoor
open Go.RowKit
set_option linter.unusedSimpArgs false
set_option linter.unusedVariables false
/-- Strings as cells. -/
def scs (l : List ByteArray) : List Value := l.map Value.string
theorem scs_length (l : List ByteArray) : (scs l).length = l.length := by simp [scs]
theorem scs_one (l : List ByteArray) : ∀ v ∈ scs l, v.oneCell' = true := by
  intro u hu
  simp only [scs, List.mem_map] at hu
  obtain ⟨c, _, rfl⟩ := hu
  rfl
theorem info9 : (Tryd.prog.info? 9).map (fun i => (i.zero, i.size, i.bytes)) = some (some (.string ⟨#[]⟩), 1, 16) := by kernel_rfl
/-- v is a slice of strings of the call's own (from block B on). -/
def OwnS (W : World) (B : Nat) (v : Value) (l : List ByteArray) : Prop := W.ownsRow B 9 1 v l.length (scs l)
theorem NL.news {w : World} {b o sp : Nat} {a : Addr} {n c : Nat} {l : List ByteArray} (h : NL w (.slice (some a) n c) l) : ∀ j u, (scs l)[j]? = some u → w.cell? (a.add j) = some u := by
  rcases h with ⟨e, _⟩ | ⟨b, o, c, sp, e, h1, h2, h3, hc⟩
  · cases e
  · simp only [Value.slice.injEq, Option.some.injEq] at e
    obtain ⟨rfl, _, rfl⟩ := e
    intro j u hj
    simp only [scs, List.getElem?_map] at hj
    obtain ⟨x, hx, rfl⟩ := Option.map_eq_some_iff.1 hj
    obtain ⟨hjl, rfl⟩ := List.getElem?_eq_some_iff.1 hx
    obtain ⟨rfl, _⟩ := h3 (by omega)
    rw [show (⟨b, o, none⟩ : Addr).add j = ⟨b, o + j, none⟩ by unfold Addr.add; split <;> simp_all]
    exact hc j hjl
section
variable {w : World} {ops : Array Oper} {rest : List Oper} {o : Oper} {a : Act} {Q : Exit → Act → World → Prop}
theorem app_names (hgd : o.guard = none) (s x : Operand) (ho : o.op = .call { callee := .builtin .append, args := #[s, x], argTypes := #[23, 23] })
    (hs : a.eval s = .slice none 0 0) (an : Option Addr) (n cn : Nat) (l : List ByteArray) (hx : a.eval x = .slice an n cn) (hn : l.length = n) (hl : NL w (.slice an n cn) l) (hm : n ≤ 281474976710)
    (h : ∀ av c' w', Hid (OwnS w' w.heap.size (.slice av n c') l) → Hid (Below w.heap.size w w') → wpList Tryd.prog ops Q rest (a.put o.dst (.slice av n c')) w') : wpList Tryd.prog ops Q (o :: rest) a w := by
  obtain ⟨i0, hi, hz0, hz1, hz2⟩ := info_parts info9
  cases an with
  | none =>
    have hn0 : n = 0 ∧ cn = 0 ∧ l = [] := by
      rcases hl with ⟨e, e2⟩ | ⟨_, _, _, _, e, _⟩
      · simp only [Value.slice.injEq] at e; exact ⟨e.2.1, e.2.2, e2⟩
      · cases e
    obtain ⟨rfl, rfl, rfl⟩ := hn0
    refine wpList_plain hgd fun K hK => ?_
    have hr := run_append_owned_none (P := Tryd.prog) w w.heap.size 23 o.type 9 i0 1 Tryd.underlying23 hi (.slice none 0 0) 0 [] (World.ownsRow_nil _ _ _ _)
    unfold Oper.wp execOp
    simp only [ho, resolve, invoke, builtin, Sem.run_bind, Sem.run_pure, Result.andThen_ok, List.map_toArray, List.map_cons, List.map_nil, hs, hx, hr]
    exact hK _ _ (h none 0 w (World.ownsRow_nil _ _ _ _) (Below.refl _ _))
  | some ad =>
    refine wpList_append_own_at w hgd s x 23 ho w.heap.size 9 i0 (.string ⟨#[]⟩) 1 16 Tryd.underlying23 hi hz0 hz1 hz2 rfl (by decide) (.slice none 0 0) 0 [] hs (World.ownsRow_nil _ _ _ _) ad n cn (scs l) hx (by rw [scs_length, hn]; simp) (NL.news hl (b := 0) (o := 0) (sp := 0)) (scs_one _) ?_ ?_ (Nat.le_refl _) ?_
    · unfold maxLen; omega
    · omega
    · intro v' w' h1 h2 h3 _
      simp only [Nat.zero_add, List.nil_append] at h1
      have h1' : OwnS w' w.heap.size v' l := by unfold OwnS; rw [hn]; exact h1
      have hb : Below w.heap.size w w' := (Below.refl _ w).grown h2 (Nat.le_refl _) (fun k hk => by cases hk)
      rcases h1.2 with ⟨rfl, e⟩ | ⟨g, cap, cur, rfl, _⟩
      · subst e; exact h none 0 w' h1' hb
      · exact h _ _ w' h1' hb
end
theorem infoVV : (Tryd.prog.info? 33).map (fun i => (i.zero, i.size, i.bytes)) = some (some (.agg #[.int .i64 0, .bool false, .bool false, .string ⟨#[]⟩, .int .i64 0, .int .u64 0, .string ⟨#[]⟩, .slice none 0 0, .slice none 0 0]), 9, 120) := by kernel_rfl
section
variable {w : World} {ops : Array Oper} {rest : List Oper} {o : Oper} {a : Act} {Q : Exit → Act → World → Prop}
theorem app_v (hgd : o.guard = none) (s x : Operand) (ho : o.op = .call { callee := .builtin .append, args := #[s, x], argTypes := #[31, 31] })
    (B : Nat) (v : Value) (n : Nat) (xs : List Value) (hs : a.eval s = v) (hown : w.ownsRow B 33 9 v n xs) (g c : Nat) (hx : a.eval x = .slice (some ⟨g, 0, none⟩) 1 c) (hd : Hd) (ns ls : Value) (hn : ns.oneCell' = true) (hl : ls.oneCell' = true)
    (hnews : w.rangeAt g 0 (vals hd ns ls).toList) (hm : n ≤ 200000) (hB : B ≤ w.heap.size)
    (h : ∀ av c' w', Hid (w'.ownsRow B 33 9 (.slice av (n + 1) c') (n + 1) (xs ++ (vals hd ns ls).toList)) → Hid (w.grownBy w' v.ownBlock) → Hid ((Value.slice av (n + 1) c').ownBlock = v.ownBlock ∨ (Value.slice av (n + 1) c').ownBlock = some w.heap.size) → wpList Tryd.prog ops Q rest (a.put o.dst (.slice av (n + 1) c')) w') : wpList Tryd.prog ops Q (o :: rest) a w := by
  obtain ⟨i0, hi, hz0, hz1, hz2⟩ := info_parts infoVV
  refine wpList_append_own_at w hgd s x 31 ho B 33 i0 _ 9 120 Tryd.underlying31 hi hz0 hz1 hz2 rfl (by decide) v n xs hs hown ⟨g, 0, none⟩ 1 c (vals hd ns ls).toList hx rfl ?_ ?_ ?_ ?_ hB ?_
  · intro j u hj
    have := hnews j u hj
    rw [show (⟨g, 0, none⟩ : Addr).add j = ⟨g, 0 + j, none⟩ by unfold Addr.add; split <;> simp_all]
    exact this
  · intro u hu
    simp only [vals, List.mem_cons, List.not_mem_nil, or_false] at hu
    rcases hu with rfl | rfl | rfl | rfl | rfl | rfl | rfl | rfl | rfl
    all_goals first | rfl | exact hn | exact hl
  · unfold maxLen; omega
  · omega
  · intro v' w' h1 h2 h3 h4
    rcases h1.2 with ⟨rfl, e⟩ | ⟨g', cap, cur, rfl, _⟩
    · omega
    · exact h _ _ w' h1 h2 h4
end
/-- A struct reads as x, whatever lies outside the blocks from s to e. -/
def KR (n : Nat) (W : World) (x : VT n) (ns ls : Value) (s e : Nat) : Prop := s ≤ e ∧ e ≤ W.heap.size ∧ ∀ W' : World, (∀ k, s ≤ k → k < e → W'.heap[k]? = W.heap[k]?) → RD n W' x ns ls
theorem KR.move {n : Nat} {W W1 : World} {x : VT n} {ns ls : Value} {s e : Nat} (h : KR n W x ns ls s e) (hs : e ≤ W1.heap.size) (hb : ∀ k, s ≤ k → k < e → W1.heap[k]? = W.heap[k]?) : KR n W1 x ns ls s e :=
  ⟨h.1, hs, fun W' h' => h.2.2 W' fun k h1 h2 => (h' k h1 h2).trans (hb k h1 h2)⟩
theorem KR.rd {n : Nat} {W : World} {x : VT n} {ns ls : Value} {s e : Nat} (h : KR n W x ns ls s e) : RD n W x ns ls := h.2.2 W fun _ _ _ => rfl
/-- Where Copy stands: k elements are copied. -/
structure LI (n : Nat) (l : List (VT n)) (w1 : World) (k : Nat) (lv : Value) (W : World) : Prop where
  below : Below w1.heap.size w1 W
  row : ∃ xs, W.ownsRow w1.heap.size 33 9 lv k xs ∧ ∀ j (h : j < l.length), j < k → ∃ ns ls s e, KR n W l[j] ns ls s e ∧ w1.heap.size ≤ s ∧ (∀ g, lv.ownBlock = some g → g < s ∨ e ≤ g) ∧ ∀ r v, (vals (vhd n l[j]) ns ls).toList[r]? = some v → xs[j * 9 + r]? = some v
theorem LI.start {n : Nat} {l : List (VT n)} {w1 : World} : LI n l w1 0 (.slice none 0 0) w1 :=
  ⟨Below.refl _ _, [], World.ownsRow_nil _ _ _ _, fun j _ h => by omega⟩
theorem LI.step {n : Nat} {l : List (VT n)} {w1 W w2 w3 w4 : World} {k : Nat} {lv lv' : Value} {xs : List Value} {ns ls : Value} (h : LI n l w1 k lv W) (hk : k < l.length)
    (hx : W.ownsRow w1.heap.size 33 9 lv k xs)
    (hall : ∀ j (h : j < l.length), j < k → ∃ ns ls s e, KR n W l[j] ns ls s e ∧ w1.heap.size ≤ s ∧ (∀ g, lv.ownBlock = some g → g < s ∨ e ≤ g) ∧ ∀ r v, (vals (vhd n l[j]) ns ls).toList[r]? = some v → xs[j * 9 + r]? = some v)
    (hc : KR n w2 l[k] ns ls W.heap.size w2.heap.size) (hb2 : Below W.heap.size W w2) (hb3 : Below w2.heap.size w2 w3) (hg : w3.grownBy w4 lv.ownBlock)
    (ho : w4.ownsRow w1.heap.size 33 9 lv' (k + 1) (xs ++ (vals (vhd n l[k]) ns ls).toList)) (hat : lv'.ownBlock = lv.ownBlock ∨ lv'.ownBlock = some w3.heap.size) : LI n l w1 (k + 1) lv' w4 := by
  have hB := h.below.size
  have hrow := hx.lt
  have z2 := hb2.size
  have z3 := hb3.size
  have z4 := hg.size
  refine ⟨?_, _, ho, ?_⟩
  · refine (((h.below.trans (hb2.mono hB)).trans (hb3.mono (by omega))).grown hg (by omega) fun g hg' => (hrow g hg').1)
  · intro j hj hjk
    by_cases hjk' : j < k
    · obtain ⟨ns', ls', s, e, k1, k2, k3, k4⟩ := hall j hj hjk'
      refine ⟨ns', ls', s, e, k1.move (by have := k1.2.1; omega) ?_, k2, ?_, ?_⟩
      · intro q q1 q2
        have := k1.2.1
        rw [hg.block q (by omega) (fun e1 => by rcases k3 q e1.symm with h | h <;> omega), hb3.block q (by omega), hb2.block q (by omega)]
      · intro g hg'
        rcases hat with h | h
        · exact k3 g (h ▸ hg')
        · rw [h] at hg'; cases hg'; right; have := k1.2.1; omega
      · intro r v hr
        have := k4 r v hr
        rw [List.getElem?_append_left ((List.getElem?_eq_some_iff.1 this).1)]
        exact this
    · obtain rfl : j = k := by omega
      refine ⟨ns, ls, W.heap.size, w2.heap.size, hc.move (by omega) ?_, hB, ?_, ?_⟩
      · intro q q1 q2
        rw [hg.block q (by omega) (fun e1 => by have := (hrow q e1.symm).2; omega), hb3.block q (by omega)]
      · intro g hg'
        rcases hat with h | h
        · left; exact (hrow g (h ▸ hg')).2
        · rw [h] at hg'; cases hg'; right; omega
      · intro r v hr
        have hl : xs.length = j * 9 := hx.1
        rw [List.getElem?_append_right (by omega), hl, Nat.add_sub_cancel_left]
        exact hr
/-- What Copy makes: all that it made lies in new blocks. -/
theorem LI.done {n : Nat} {h : Hd} {l : List (VT n)} {w w1 W W1 : World} {nv lv : Value} (H : LI n l w1 l.length lv W) (ho : OwnS w1 (w.heap.size + 2) nv h.names) (hz : w.heap.size + 2 ≤ w1.heap.size)
    (hs : W1.heap.size = W.heap.size) (hb : ∀ k, w.heap.size + 2 ≤ k → W1.heap[k]? = W.heap[k]?) : KR (n + 1) W1 (h, l) nv lv w.heap.size W1.heap.size := by
  obtain ⟨xs, hx, hall⟩ := H.row
  have hB := H.below.size
  refine ⟨by omega, Nat.le_refl _, fun W' h' => ⟨?_, ?_⟩⟩
  · have hr := World.ownsRow.lt ho
    have ho2 := ho
    obtain ⟨h0, h1⟩ := ho
    rcases h1 with ⟨rfl, e⟩ | ⟨g, cap, cur, rfl, k1, k2, k3, k4, k5, k6⟩
    · exact Or.inl ⟨rfl, List.eq_nil_of_length_eq_zero e⟩
    · have hg := (hr g rfl).2
      have hg2 := (hr g rfl).1
      have hsame : W'.heap[g]? = w1.heap[g]? := by rw [h' g (by omega) (by omega), hb g hg2, H.below.block g hg]
      refine Or.inr ⟨g, 0, cap, none, rfl, k3, k4, fun _ => ⟨rfl, ?_⟩, fun i hi => ?_⟩
      · by_cases hlt : g < W'.heap.size
        · exact hlt
        · rw [k2, Array.getElem?_eq_none (by omega)] at hsame; cases hsame
      · rw [Nat.zero_add, World.cell?_of_block (a := ⟨g, i, none⟩) hsame, World.ownsRow.cellAt ho2 i (by simpa using hi)]
        simp [scs, hi]
  · have hr := World.ownsRow.lt hx
    have hx2 := hx
    obtain ⟨h0, h1⟩ := hx
    rcases h1 with ⟨rfl, e⟩ | ⟨g, cap, cur, rfl, k1, k2, k3, k4, k5, k6⟩
    · exact Or.inl ⟨rfl, List.eq_nil_of_length_eq_zero e⟩
    · have hg := (hr g rfl).2
      have hsame : W'.heap[g]? = W.heap[g]? := by rw [h' g (by omega) (by omega), hb g (by omega)]
      refine Or.inr ⟨g, 0, cap, none, rfl, k3, k4, fun _ => ⟨rfl, ?_⟩, fun i hi => ?_⟩
      · by_cases hlt : g < W'.heap.size
        · exact hlt
        · rw [k2, Array.getElem?_eq_none (by omega)] at hsame; cases hsame
      · obtain ⟨ns', ls', s, e, q1, q2, q3, q4⟩ := hall i hi hi
        refine ⟨ns', ls', ?_, q1.2.2 W' fun k r1 r2 => ?_⟩
        · intro r v hrv
          have hq := q4 r v hrv
          have hlt := (List.getElem?_eq_some_iff.1 hq).1
          have hr9 : r < 9 := (List.getElem?_eq_some_iff.1 hrv).1
          rw [Nat.zero_add, World.cell?_of_block (a := ⟨g, i * 9 + r, none⟩) hsame, World.ownsRow.cellAt hx2 _ (by rw [h0] at hlt; exact hlt)]
          exact hq
        · have := q1.2.1
          rw [h' k (by omega) (by omega), hb k (by omega)]
end Go.Proofs.YtolmbjeinilhlaaDoor
