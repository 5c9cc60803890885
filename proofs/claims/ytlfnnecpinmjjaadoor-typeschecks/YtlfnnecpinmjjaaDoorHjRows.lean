/- Rows of values of the call's own; types.eachHasAll, hasLists: walked. -/
import Derived.Test.YtlfnnecpinmjjaaDoorHiHas
namespace Go.Proofs.YtlfnnecpinmjjaaDoor
open Go.RowKit Go.Maps
set_option linter.unusedSimpArgs false
set_option linter.unusedVariables false
def hd0 : Hd := ⟨0, false, false, ⟨#[]⟩, 0, 0, ⟨#[]⟩, []⟩
/-- A slice of values reads as l. -/
def VL (m : Nat) (w : World) (v : Value) (l : List (VT m)) : Prop := RD (m + 1) w (hd0, l) (.slice none 0 0) v
theorem RD.vl {m : Nat} {w : World} {x : VT (m + 1)} {ns ls : Value} (h : RD (m + 1) w x ns ls) : VL m w ls x.2 := ⟨Or.inl ⟨rfl, rfl⟩, h.2⟩
theorem VL.below {m : Nat} {w W : World} {v : Value} {l : List (VT m)} (h : VL m w v l) (hb : Below w.heap.size w W) : VL m W v l := RD.below h hb
theorem VL.len {m : Nat} {w : World} {v : Value} {l : List (VT m)} (h : VL m w v l) : ∃ a c, v = .slice a l.length c ∧ l.length ≤ c ∧ c ≤ maxLen := RD.len h
theorem VL.at {m : Nat} {w : World} {v : Value} {l : List (VT m)} (h : VL m w v l) (i : Nat) (hi : i < l.length) :
    ∃ b o c, v = .slice (some ⟨b, o, none⟩) l.length c ∧ b < w.heap.size ∧ l.length ≤ c ∧ c ≤ maxLen ∧ ∃ ns' ls', w.rangeAt b (o + i * 9) (vals (vhd m l[i]) ns' ls').toList ∧ RD m w l[i] ns' ls' := RD.at h i hi
/-- A slice of values of the call's own (from block B on), its elements' parts lying in w0. -/
def OV (m : Nat) (w0 W : World) (B : Nat) (v : Value) (l : List (VT m)) : Prop := ∃ xs, W.ownsRow B 33 9 v l.length xs ∧ ∀ j (h : j < l.length), ∃ ns ls, RD m w0 l[j] ns ls ∧ ∀ r u, (vals (vhd m l[j]) ns ls).toList[r]? = some u → xs[j * 9 + r]? = some u
theorem OV.nil {m : Nat} {w0 W : World} {B : Nat} : OV m w0 W B (.slice none 0 0) [] := ⟨[], World.ownsRow_nil _ _ _ _, fun j h => by simp at h⟩
theorem OV.vl {m : Nat} {w0 W : World} {B : Nat} {v : Value} {l : List (VT m)} (h : OV m w0 W B v l) (hb : Below w0.heap.size w0 W) : VL m W v l := by
  obtain ⟨xs, hx, hall⟩ := h
  refine ⟨Or.inl ⟨rfl, rfl⟩, ?_⟩
  have hr := World.ownsRow.lt hx
  have hx2 := hx
  obtain ⟨h0, h1⟩ := hx
  rcases h1 with ⟨rfl, e⟩ | ⟨g, cap, cur, rfl, k1, k2, k3, k4, k5, k6⟩
  · exact Or.inl ⟨rfl, List.eq_nil_of_length_eq_zero e⟩
  · refine Or.inr ⟨g, 0, cap, none, rfl, k3, k4, fun _ => ⟨rfl, (hr g rfl).2⟩, fun i hi => ?_⟩
    obtain ⟨ns, ls, q1, q2⟩ := hall i hi
    refine ⟨ns, ls, ?_, q1.below hb⟩
    intro r u hru
    have hq := q2 r u hru
    have hlt := (List.getElem?_eq_some_iff.1 hq).1
    rw [Nat.zero_add, World.ownsRow.cellAt hx2 _ (by rw [h0] at hlt; exact hlt)]
    exact hq
theorem OV.keep {m : Nat} {w0 W W1 : World} {B : Nat} {v : Value} {l : List (VT m)} (h : OV m w0 W B v l) (hb : ∀ k, v.ownBlock = some k → k < W.heap.size → W1.heap[k]? = W.heap[k]?) : OV m w0 W1 B v l := by
  obtain ⟨xs, hx, hall⟩ := h
  exact ⟨xs, ownsRow_of hx hb, hall⟩
theorem OV.below {m : Nat} {w0 W W1 : World} {B : Nat} {v : Value} {l : List (VT m)} (h : OV m w0 W B v l) (hb : Below W.heap.size W W1) : OV m w0 W1 B v l := h.keep fun k _ hk => hb.block k hk
theorem OV.lt {m : Nat} {w0 W : World} {B : Nat} {v : Value} {l : List (VT m)} (h : OV m w0 W B v l) : ∀ g, v.ownBlock = some g → B ≤ g ∧ g < W.heap.size := by
  obtain ⟨xs, hx, _⟩ := h
  exact World.ownsRow.lt hx
/-- The cells of a slice of values. -/
theorem VL.cells {m : Nat} {w : World} {ad : Addr} {n c : Nat} {l : List (VT m)} (h : VL m w (.slice (some ad) n c) l) (hn : l.length = n) :
    ∃ news : List Value, news.length = n * 9 ∧ (∀ j u, news[j]? = some u → w.cell? (ad.add j) = some u) ∧ (∀ u ∈ news, u.oneCell' = true) ∧ ∀ j (h : j < l.length), ∃ ns ls, RD m w l[j] ns ls ∧ ∀ r u, (vals (vhd m l[j]) ns ls).toList[r]? = some u → news[j * 9 + r]? = some u := by
  rcases h.2 with ⟨e, _⟩ | ⟨b, o, c, sp, e, h1, h2, h3, hc⟩
  · cases e
  · simp only [Value.slice.injEq, Option.some.injEq] at e
    obtain ⟨rfl, e2, rfl⟩ := e
    simp only at h3 hc e2
    have hcell : ∀ j, j < n * 9 → ∃ q r, j = q * 9 + r ∧ r < 9 ∧ q < l.length := fun j hj => ⟨j / 9, j % 9, by omega, by omega, by omega⟩
    have hg : ∀ j, j < n * 9 → ∃ u, w.cell? ⟨b, o + j, none⟩ = some u ∧ u.oneCell' = true := by
      intro j hj
      obtain ⟨q, r, rfl, hr, hq⟩ := hcell j hj
      obtain ⟨ns, ls, k1, k2⟩ := hc q hq
      obtain ⟨x1, x2, x3, y1, y2, y3, rfl, rfl⟩ := k2.shape
      have hv : ∃ u, (vals (vhd m l[q]) (.slice x1 x2 x3) (.slice y1 y2 y3)).toList[r]? = some u ∧ u.oneCell' = true := by
        match r, hr with
        | 0, _ => exact ⟨_, rfl, rfl⟩
        | 1, _ => exact ⟨_, rfl, rfl⟩
        | 2, _ => exact ⟨_, rfl, rfl⟩
        | 3, _ => exact ⟨_, rfl, rfl⟩
        | 4, _ => exact ⟨_, rfl, rfl⟩
        | 5, _ => exact ⟨_, rfl, rfl⟩
        | 6, _ => exact ⟨_, rfl, rfl⟩
        | 7, _ => exact ⟨_, rfl, rfl⟩
        | 8, _ => exact ⟨_, rfl, rfl⟩
      obtain ⟨u, hu, ho⟩ := hv
      exact ⟨u, by rw [← Nat.add_assoc]; exact k1 r u hu, ho⟩
    have hsp : n = 0 ∨ sp = none := by
      by_cases h0 : 0 < l.length
      · exact Or.inr (h3 h0).1
      · exact Or.inl (by omega)
    refine ⟨(List.range (n * 9)).map fun j => (w.cell? ⟨b, o + j, none⟩).getD undef, by simp, ?_, ?_, ?_⟩
    · intro j u hj
      simp only [List.getElem?_map, Option.map_eq_some_iff] at hj
      obtain ⟨j', hj', rfl⟩ := hj
      obtain ⟨hlt, e⟩ := List.getElem?_eq_some_iff.1 hj'
      simp only [List.length_range] at hlt
      simp only [List.getElem_range] at e
      subst e
      obtain ⟨u, hu, _⟩ := hg j hlt
      rcases hsp with h0 | rfl
      · omega
      · rw [show (⟨b, o, none⟩ : Addr).add j = ⟨b, o + j, none⟩ by unfold Addr.add; split <;> simp_all, hu]; rfl
    · intro u hu
      simp only [List.mem_map, List.mem_range] at hu
      obtain ⟨j, hj, rfl⟩ := hu
      obtain ⟨u, hu, ho⟩ := hg j hj
      rw [hu]; exact ho
    · intro j hj
      obtain ⟨ns, ls, k1, k2⟩ := hc j hj
      refine ⟨ns, ls, k2, fun r u hu => ?_⟩
      have hr9 : r < 9 := (List.getElem?_eq_some_iff.1 hu).1
      have := k1 r u hu
      rw [List.getElem?_map, List.getElem?_range (by omega), Option.map_some, ← Nat.add_assoc, this]; rfl
theorem OV.app {m : Nat} {w0 W : World} {B n : Nat} {v' : Value} {l l2 : List (VT m)} {xs news : List Value} (hx : xs.length = l.length * 9)
    (h1 : ∀ j (h : j < l.length), ∃ ns ls, RD m w0 l[j] ns ls ∧ ∀ r u, (vals (vhd m l[j]) ns ls).toList[r]? = some u → xs[j * 9 + r]? = some u)
    (h2 : ∀ j (h : j < l2.length), ∃ ns ls, RD m w0 l2[j] ns ls ∧ ∀ r u, (vals (vhd m l2[j]) ns ls).toList[r]? = some u → news[j * 9 + r]? = some u)
    (h : W.ownsRow B 33 9 v' n (xs ++ news)) (hn : l.length + l2.length = n) : OV m w0 W B v' (l ++ l2) := by
  refine ⟨xs ++ news, by rw [List.length_append, hn]; exact h, fun j hj => ?_⟩
  rw [List.length_append] at hj
  by_cases hjl : j < l.length
  · obtain ⟨ns, ls, q1, q2⟩ := h1 j hjl
    refine ⟨ns, ls, ?_, fun r u hu => ?_⟩
    · rw [List.getElem_append_left hjl]; exact q1
    · have := q2 r u (by rw [List.getElem_append_left hjl] at hu; exact hu)
      rw [List.getElem?_append_left ((List.getElem?_eq_some_iff.1 this).1)]
      exact this
  · obtain ⟨ns, ls, q1, q2⟩ := h2 (j - l.length) (by omega)
    refine ⟨ns, ls, ?_, fun r u hu => ?_⟩
    · rw [List.getElem_append_right (by omega)]; exact q1
    · have := q2 r u (by rw [List.getElem_append_right (by omega)] at hu; exact hu)
      rw [List.getElem?_append_right (by omega), hx, show j * 9 + r - l.length * 9 = (j - l.length) * 9 + r by omega]
      exact this
section
variable {w : World} {ops : Array Oper} {rest : List Oper} {o : Oper} {a : Act} {Q : Exit → Act → World → Prop}
/-- append(s, l2...). -/
theorem app_vs (hgd : o.guard = none) (s x : Operand) (ho : o.op = .call { callee := .builtin .append, args := #[s, x], argTypes := #[31, 31] })
    (m : Nat) (w0 : World) (B : Nat) (av : Option Addr) (N cv : Nat) (l : List (VT m)) (hs : a.eval s = .slice av N cv) (hN : Hid (l.length = N)) (hown : Hid (OV m w0 w B (.slice av N cv) l)) (an : Option Addr) (n cn : Nat) (l2 : List (VT m)) (hx : a.eval x = .slice an n cn) (hn : Hid (l2.length = n)) (hl : Hid (VL m w0 (.slice an n cn) l2)) (hb : Hid (Below w0.heap.size w0 w)) (hm : Hid (N + n ≤ 200000)) (hB : Hid (B ≤ w.heap.size))
    (h : ∀ av' c' w', Hid (OV m w0 w' B (.slice av' (N + n) c') (l ++ l2)) → Hid (w.grownBy w' (Value.slice av N cv).ownBlock) → wpList Tryd.prog ops Q rest (a.put o.dst (.slice av' (N + n) c')) w') : wpList Tryd.prog ops Q (o :: rest) a w := by
  obtain ⟨i0, hi, hz0, hz1, hz2⟩ := info_parts infoVV
  have hN := hN.out
  have hn := hn.out
  have hm := hm.out
  cases an with
  | none =>
    have hn0 : n = 0 ∧ cn = 0 ∧ l2 = [] := by
      rcases hl.2 with ⟨e, e2⟩ | ⟨_, _, _, _, e, _⟩
      · simp only [Value.slice.injEq] at e; exact ⟨e.2.1, e.2.2, e2⟩
      · cases e
    obtain ⟨rfl, rfl, rfl⟩ := hn0
    obtain ⟨xs, hxs, hall⟩ := hown
    refine wpList_plain hgd fun K hK => ?_
    have hr := run_append_owned_none (P := Tryd.prog) w B 31 o.type 33 i0 9 Tryd.underlying31 hi _ _ _ hxs
    unfold Oper.wp execOp
    simp only [ho, resolve, invoke, builtin, Sem.run_bind, Sem.run_pure, Result.andThen_ok, List.map_toArray, List.map_cons, List.map_nil, hs, hx, hr]
    refine hK _ _ (h av cv w ?_ ?_)
    · exact (show OV m w0 w B (.slice av N cv) (l ++ []) by rw [List.append_nil]; exact ⟨xs, hxs, hall⟩)
    · exact ⟨rfl, rfl, rfl, Nat.le_refl _, fun _ _ _ => rfl⟩
  | some ad =>
    obtain ⟨news, k1, k2, k3, k4⟩ := VL.cells hl.out hn
    obtain ⟨xs, hxs, hall⟩ := hown
    have hxs' := hxs
    rw [hN] at hxs
    refine wpList_append_own_at w hgd s x 31 ho B 33 i0 _ 9 120 Tryd.underlying31 hi hz0 hz1 hz2 rfl (by decide) _ N xs hs hxs ad n cn news hx k1 ?_ k3 ?_ ?_ hB ?_
    · intro j u hj
      have hc := k2 j u hj
      have hjl := (List.getElem?_eq_some_iff.1 hj).1
      have hl2 : 0 < l2.length := by omega
      rcases hl.2 with ⟨e, _⟩ | ⟨b, oo, c, sp, e, h1, h2, h3, _⟩
      · cases e
      · have hbb := (h3 hl2).2
        simp only [Value.slice.injEq, Option.some.injEq] at e
        obtain ⟨rfl, _, _⟩ := e
        refine (hb.out.cell (p := _) ?_).trans hc
        show (Addr.add _ _).block < _
        unfold Addr.add
        split <;> simpa using hbb
    · unfold maxLen; omega
    · omega
    · intro v' w' h1 h2 h3 h4
      have hov : OV m w0 w' B v' (l ++ l2) := OV.app (by rw [hxs'.1]) hall k4 h1 (by omega)
      rcases h1.2 with ⟨rfl, e⟩ | ⟨g', cap, cur, rfl, _⟩
      · obtain ⟨e1, e2⟩ := h3.1 rfl
        subst e2
        cases e1
        exact h none 0 w' hov h2
      · exact h _ _ w' hov h2
end
end Go.Proofs.YtlfnnecpinmjjaaDoor
