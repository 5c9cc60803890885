/- Merged by program: HjRows, HkHas, HlEach, HmCols, HnStep, HpGrow. -/
import Derived.Test.YtolmbjeinilhlaaDoorZtH
import Derived.Deep.OwnRows
/- Rows of values of the call's own; types.eachHasAll, hasLists: walked. -/
namespace Go.Proofs.YtolmbjeinilhlaaDoor
open Go.RowKit Go.Maps
set_option linter.unusedSimpArgs false
set_option linter.unusedVariables false
def hd0 : Hd := ⟨0, false, false, ⟨#[]⟩, 0, 0, ⟨#[]⟩, []⟩
/-- A slice of values reads as l. -/
def VL (m : Nat) (w : World) (v : Value) (l : List (VT m)) : Prop := RD (m + 1) w (hd0, l) (.slice none 0 0) v
theorem RD.vl {m : Nat} {w : World} {x : VT (m + 1)} {ns ls : Value} (h : RD (m + 1) w x ns ls) : VL m w ls x.2 := ⟨Or.inl ⟨rfl, rfl⟩, h.2⟩
theorem VL.below {m : Nat} {w W : World} {v : Value} {l : List (VT m)} (h : VL m w v l) (hb : Below w.heap.size w W) : VL m W v l := RD.below h hb
theorem VL.len {m : Nat} {w : World} {v : Value} {l : List (VT m)} (h : VL m w v l) : ∃ a c, v = .slice a l.length c ∧ l.length ≤ c ∧ c ≤ maxLen := RD.len h
theorem VL.at {m : Nat} {w : World} {v : Value} {l : List (VT m)} (h : VL m w v l) (i : Nat) (hi : i < l.length) :
    ∃ b o c, v = .slice (some ⟨b, o, none⟩) l.length c ∧ b < w.heap.size ∧ l.length ≤ c ∧ c ≤ maxLen ∧ ∃ ns' ls', w.rangeAt b (o + i * 9) (vals (vhd m l[i]) ns' ls').toList ∧ RD m w l[i] ns' ls' := RD.at h i hi
/-- A slice of values of the call's own (from block B on), its elements' parts lying in w0. -/
def OV (m : Nat) (w0 W : World) (B : Nat) (v : Value) (l : List (VT m)) : Prop := ∃ xs, W.ownsRow B 33 9 v l.length xs ∧ ∀ j (h : j < l.length), ∃ ns ls, RD m w0 l[j] ns ls ∧ ∀ r u, (vals (vhd m l[j]) ns ls).toList[r]? = some u → xs[j * 9 + r]? = some u
theorem OV.nil {m : Nat} {w0 W : World} {B : Nat} : OV m w0 W B (.slice none 0 0) [] := ⟨[], World.ownsRow_nil _ _ _ _, fun j h => by simp at h⟩
theorem OV.vl {m : Nat} {w0 W : World} {B : Nat} {v : Value} {l : List (VT m)} (h : OV m w0 W B v l) (hb : Below w0.heap.size w0 W) : VL m W v l := by
  obtain ⟨xs, hx, hall⟩ := h
  refine ⟨Or.inl ⟨rfl, rfl⟩, ?_⟩
  have hr := World.ownsRow.lt hx
  have hx2 := hx
  obtain ⟨h0, h1⟩ := hx
  rcases h1 with ⟨rfl, e⟩ | ⟨g, cap, cur, rfl, k1, k2, k3, k4, k5, k6⟩
  · exact Or.inl ⟨rfl, List.eq_nil_of_length_eq_zero e⟩
  · refine Or.inr ⟨g, 0, cap, none, rfl, k3, k4, fun _ => ⟨rfl, (hr g rfl).2⟩, fun i hi => ?_⟩
    obtain ⟨ns, ls, q1, q2⟩ := hall i hi
    refine ⟨ns, ls, ?_, q1.below hb⟩
    intro r u hru
    have hq := q2 r u hru
    have hlt := (List.getElem?_eq_some_iff.1 hq).1
    rw [Nat.zero_add, World.ownsRow.cellAt hx2 _ (by rw [h0] at hlt; exact hlt)]
    exact hq
theorem OV.keep {m : Nat} {w0 W W1 : World} {B : Nat} {v : Value} {l : List (VT m)} (h : OV m w0 W B v l) (hb : ∀ k, v.ownBlock = some k → k < W.heap.size → W1.heap[k]? = W.heap[k]?) : OV m w0 W1 B v l := by
  obtain ⟨xs, hx, hall⟩ := h
  exact ⟨xs, ownsRow_of hx hb, hall⟩
theorem OV.below {m : Nat} {w0 W W1 : World} {B : Nat} {v : Value} {l : List (VT m)} (h : OV m w0 W B v l) (hb : Below W.heap.size W W1) : OV m w0 W1 B v l := h.keep fun k _ hk => hb.block k hk
theorem OV.lt {m : Nat} {w0 W : World} {B : Nat} {v : Value} {l : List (VT m)} (h : OV m w0 W B v l) : ∀ g, v.ownBlock = some g → B ≤ g ∧ g < W.heap.size := by
  obtain ⟨xs, hx, _⟩ := h
  exact World.ownsRow.lt hx
/-- The cells of a slice of values. -/
theorem VL.cells {m : Nat} {w : World} {ad : Addr} {n c : Nat} {l : List (VT m)} (h : VL m w (.slice (some ad) n c) l) (hn : l.length = n) :
    ∃ news : List Value, news.length = n * 9 ∧ (∀ j u, news[j]? = some u → w.cell? (ad.add j) = some u) ∧ (∀ u ∈ news, u.oneCell' = true) ∧ ∀ j (h : j < l.length), ∃ ns ls, RD m w l[j] ns ls ∧ ∀ r u, (vals (vhd m l[j]) ns ls).toList[r]? = some u → news[j * 9 + r]? = some u := by
  rcases h.2 with ⟨e, _⟩ | ⟨b, o, c, sp, e, h1, h2, h3, hc⟩
  · cases e
  · simp only [Value.slice.injEq, Option.some.injEq] at e
    obtain ⟨rfl, e2, rfl⟩ := e
    simp only at h3 hc e2
    have hcell : ∀ j, j < n * 9 → ∃ q r, j = q * 9 + r ∧ r < 9 ∧ q < l.length := fun j hj => ⟨j / 9, j % 9, by omega, by omega, by omega⟩
    have hg : ∀ j, j < n * 9 → ∃ u, w.cell? ⟨b, o + j, none⟩ = some u ∧ u.oneCell' = true := by
      intro j hj
      obtain ⟨q, r, rfl, hr, hq⟩ := hcell j hj
      obtain ⟨ns, ls, k1, k2⟩ := hc q hq
      obtain ⟨x1, x2, x3, y1, y2, y3, rfl, rfl⟩ := k2.shape
      have hv : ∃ u, (vals (vhd m l[q]) (.slice x1 x2 x3) (.slice y1 y2 y3)).toList[r]? = some u ∧ u.oneCell' = true := by
        match r, hr with
        | 0, _ => exact ⟨_, rfl, rfl⟩
        | 1, _ => exact ⟨_, rfl, rfl⟩
        | 2, _ => exact ⟨_, rfl, rfl⟩
        | 3, _ => exact ⟨_, rfl, rfl⟩
        | 4, _ => exact ⟨_, rfl, rfl⟩
        | 5, _ => exact ⟨_, rfl, rfl⟩
        | 6, _ => exact ⟨_, rfl, rfl⟩
        | 7, _ => exact ⟨_, rfl, rfl⟩
        | 8, _ => exact ⟨_, rfl, rfl⟩
      obtain ⟨u, hu, ho⟩ := hv
      exact ⟨u, by rw [← Nat.add_assoc]; exact k1 r u hu, ho⟩
    have hsp : n = 0 ∨ sp = none := by
      by_cases h0 : 0 < l.length
      · exact Or.inr (h3 h0).1
      · exact Or.inl (by omega)
    refine ⟨(List.range (n * 9)).map fun j => (w.cell? ⟨b, o + j, none⟩).getD undef, by simp, ?_, ?_, ?_⟩
    · intro j u hj
      simp only [List.getElem?_map, Option.map_eq_some_iff] at hj
      obtain ⟨j', hj', rfl⟩ := hj
      obtain ⟨hlt, e⟩ := List.getElem?_eq_some_iff.1 hj'
      simp only [List.length_range] at hlt
      simp only [List.getElem_range] at e
      subst e
      obtain ⟨u, hu, _⟩ := hg j hlt
      rcases hsp with h0 | rfl
      · omega
      · rw [show (⟨b, o, none⟩ : Addr).add j = ⟨b, o + j, none⟩ by unfold Addr.add; split <;> simp_all, hu]; rfl
    · intro u hu
      simp only [List.mem_map, List.mem_range] at hu
      obtain ⟨j, hj, rfl⟩ := hu
      obtain ⟨u, hu, ho⟩ := hg j hj
      rw [hu]; exact ho
    · intro j hj
      obtain ⟨ns, ls, k1, k2⟩ := hc j hj
      refine ⟨ns, ls, k2, fun r u hu => ?_⟩
      have hr9 : r < 9 := (List.getElem?_eq_some_iff.1 hu).1
      have := k1 r u hu
      rw [List.getElem?_map, List.getElem?_range (by omega), Option.map_some, ← Nat.add_assoc, this]; rfl
theorem OV.app {m : Nat} {w0 W : World} {B n : Nat} {v' : Value} {l l2 : List (VT m)} {xs news : List Value} (hx : xs.length = l.length * 9)
    (h1 : ∀ j (h : j < l.length), ∃ ns ls, RD m w0 l[j] ns ls ∧ ∀ r u, (vals (vhd m l[j]) ns ls).toList[r]? = some u → xs[j * 9 + r]? = some u)
    (h2 : ∀ j (h : j < l2.length), ∃ ns ls, RD m w0 l2[j] ns ls ∧ ∀ r u, (vals (vhd m l2[j]) ns ls).toList[r]? = some u → news[j * 9 + r]? = some u)
    (h : W.ownsRow B 33 9 v' n (xs ++ news)) (hn : l.length + l2.length = n) : OV m w0 W B v' (l ++ l2) := by
  refine ⟨xs ++ news, by rw [List.length_append, hn]; exact h, fun j hj => ?_⟩
  rw [List.length_append] at hj
  by_cases hjl : j < l.length
  · obtain ⟨ns, ls, q1, q2⟩ := h1 j hjl
    refine ⟨ns, ls, ?_, fun r u hu => ?_⟩
    · rw [List.getElem_append_left hjl]; exact q1
    · have := q2 r u (by rw [List.getElem_append_left hjl] at hu; exact hu)
      rw [List.getElem?_append_left ((List.getElem?_eq_some_iff.1 this).1)]
      exact this
  · obtain ⟨ns, ls, q1, q2⟩ := h2 (j - l.length) (by omega)
    refine ⟨ns, ls, ?_, fun r u hu => ?_⟩
    · rw [List.getElem_append_right (by omega)]; exact q1
    · have := q2 r u (by rw [List.getElem_append_right (by omega)] at hu; exact hu)
      rw [List.getElem?_append_right (by omega), hx, show j * 9 + r - l.length * 9 = (j - l.length) * 9 + r by omega]
      exact this
section
variable {w : World} {ops : Array Oper} {rest : List Oper} {o : Oper} {a : Act} {Q : Exit → Act → World → Prop}
/-- append(s, l2...). -/
theorem app_vs (hgd : o.guard = none) (s x : Operand) (ho : o.op = .call { callee := .builtin .append, args := #[s, x], argTypes := #[31, 31] })
    (m : Nat) (w0 : World) (B : Nat) (av : Option Addr) (N cv : Nat) (l : List (VT m)) (hs : a.eval s = .slice av N cv) (hN : Hid (l.length = N)) (hown : Hid (OV m w0 w B (.slice av N cv) l)) (an : Option Addr) (n cn : Nat) (l2 : List (VT m)) (hx : a.eval x = .slice an n cn) (hn : Hid (l2.length = n)) (hl : Hid (VL m w0 (.slice an n cn) l2)) (hb : Hid (Below w0.heap.size w0 w)) (hm : Hid (N + n ≤ 200000)) (hB : Hid (B ≤ w.heap.size))
    (h : ∀ av' c' w', Hid (OV m w0 w' B (.slice av' (N + n) c') (l ++ l2)) → Hid (w.grownBy w' (Value.slice av N cv).ownBlock) → wpList Tryd.prog ops Q rest (a.put o.dst (.slice av' (N + n) c')) w') : wpList Tryd.prog ops Q (o :: rest) a w := by
  obtain ⟨i0, hi, hz0, hz1, hz2⟩ := info_parts infoVV
  have hN := hN.out
  have hn := hn.out
  have hm := hm.out
  cases an with
  | none =>
    have hn0 : n = 0 ∧ cn = 0 ∧ l2 = [] := by
      rcases hl.2 with ⟨e, e2⟩ | ⟨_, _, _, _, e, _⟩
      · simp only [Value.slice.injEq] at e; exact ⟨e.2.1, e.2.2, e2⟩
      · cases e
    obtain ⟨rfl, rfl, rfl⟩ := hn0
    obtain ⟨xs, hxs, hall⟩ := hown
    refine wpList_plain hgd fun K hK => ?_
    have hr := run_append_owned_none (P := Tryd.prog) w B 31 o.type 33 i0 9 Tryd.underlying31 hi _ _ _ hxs
    unfold Oper.wp execOp
    simp only [ho, resolve, invoke, builtin, Sem.run_bind, Sem.run_pure, Result.andThen_ok, List.map_toArray, List.map_cons, List.map_nil, hs, hx, hr]
    refine hK _ _ (h av cv w ?_ ?_)
    · exact (show OV m w0 w B (.slice av N cv) (l ++ []) by rw [List.append_nil]; exact ⟨xs, hxs, hall⟩)
    · exact ⟨rfl, rfl, rfl, Nat.le_refl _, fun _ _ _ => rfl⟩
  | some ad =>
    obtain ⟨news, k1, k2, k3, k4⟩ := VL.cells hl.out hn
    obtain ⟨xs, hxs, hall⟩ := hown
    have hxs' := hxs
    rw [hN] at hxs
    refine wpList_append_own_at w hgd s x 31 ho B 33 i0 _ 9 120 Tryd.underlying31 hi hz0 hz1 hz2 rfl (by decide) _ N xs hs hxs ad n cn news hx k1 ?_ k3 ?_ ?_ hB ?_
    · intro j u hj
      have hc := k2 j u hj
      have hjl := (List.getElem?_eq_some_iff.1 hj).1
      have hl2 : 0 < l2.length := by omega
      rcases hl.2 with ⟨e, _⟩ | ⟨b, oo, c, sp, e, h1, h2, h3, _⟩
      · cases e
      · have hbb := (h3 hl2).2
        simp only [Value.slice.injEq, Option.some.injEq] at e
        obtain ⟨rfl, _, _⟩ := e
        refine (hb.out.cell (p := _) ?_).trans hc
        show (Addr.add _ _).block < _
        unfold Addr.add
        split <;> simpa using hbb
    · unfold maxLen; omega
    · omega
    · intro v' w' h1 h2 h3 h4
      have hov : OV m w0 w' B v' (l ++ l2) := OV.app (by rw [hxs'.1]) hall k4 h1 (by omega)
      rcases h1.2 with ⟨rfl, e⟩ | ⟨g', cap, cur, rfl, _⟩
      · obtain ⟨e1, e2⟩ := h3.1 rfl
        subst e2
        cases e1
        exact h none 0 w' hov h2
      · exact h _ _ w' hov h2
end
end Go.Proofs.YtolmbjeinilhlaaDoor
/- types.eachHasAll, hasLists: walked. -/
namespace Go.Proofs.YtolmbjeinilhlaaDoor
open Go.RowKit Go.Maps
set_option linter.unusedSimpArgs false
set_option linter.unusedVariables false
/-- A value is one of a type's. -/
def InT : (n : Nat) → TT n → (m : Nat) → VT m → Prop
  | 0, _, _, _ => False
  | _ + 1, _, 0, _ => False
  | n + 1, t, m + 1, x => (t.1.kind ≤ 8 ∧ PkOk t.1.kind x.1) ∨ (t.1.kind = 9 ∧ x.1.kind = 7 ∧ ∀ y ∈ x.2, ∀ u ∈ t.2, InT n u m y) ∨
      (t.1.kind = 10 ∧ x.1.kind = 8 ∧ x.1.names = t.1.names ∧ ∀ i (h1 : i < t.2.length) (h2 : i < x.2.length), InT n t.2[i] m x.2[i]) ∨
      (t.1.kind = 11 ∧ x.1.kind = 9 ∧ ∃ i, ∃ (h1 : i < t.1.names.length) (h2 : i < t.2.length), t.1.names[i] = x.1.text ∧ ∀ y ∈ x.2, InT n t.2[i] m y)
/-- How many structs are in some values. -/
def sizL (m : Nat) (l : List (VT m)) : Nat := suml (l.map (siz m))
theorem siz_pos : ∀ (m : Nat) (x : VT m), 1 ≤ siz m x
  | 0, x => Empty.elim x
  | n + 1, x => by simp only [siz]; omega
theorem sizL_len (m : Nat) (l : List (VT m)) : l.length ≤ sizL m l := by
  induction l with
  | nil => simp [sizL, suml]
  | cons a l ih => simp only [sizL, List.map_cons, suml, List.length_cons] at *; have := siz_pos m a; omega
theorem sizL_app (m : Nat) (l k : List (VT m)) : sizL m (l ++ k) = sizL m l + sizL m k := by
  simp only [sizL, List.map_append, suml_app]
theorem sizL_mem {m : Nat} {l : List (VT m)} {x : VT m} (h : x ∈ l) : siz m x ≤ sizL m l := by
  induction l with
  | nil => cases h
  | cons a l ih =>
    simp only [sizL, List.map_cons, suml] at *
    rcases List.mem_cons.1 h with rfl | q
    · omega
    · have := ih q; omega
theorem sizL_take (m : Nat) (l : List (VT m)) (k : Nat) : sizL m (l.take k) ≤ sizL m l := by
  have := sizL_app m (l.take k) (l.drop k)
  rw [List.take_append_drop] at this
  omega
/-- What is in some values, one behind the other. -/
def flat (m : Nat) (l : List (VT (m + 1))) : List (VT m) := l.flatMap (fun x => x.2)
theorem flat_siz (m : Nat) (l : List (VT (m + 1))) : sizL m (flat m l) ≤ sizL (m + 1) l := by
  induction l with
  | nil => simp [flat, sizL, suml]
  | cons a l ih =>
    have e : flat m (a :: l) = a.2 ++ flat m l := by simp [flat]
    rw [e, sizL_app]
    have : sizL (m + 1) (a :: l) = siz (m + 1) a + sizL (m + 1) l := by simp [sizL, suml]
    rw [this]
    simp only [siz]
    have : sizL m a.2 = suml (a.2.map (siz m)) := rfl
    omega
theorem flat_take (m : Nat) (l : List (VT (m + 1))) (k : Nat) (h : k < l.length) : flat m (l.take (k + 1)) = flat m (l.take k) ++ l[k].2 := by
  unfold flat
  rw [List.take_succ_eq_append_getElem h, List.flatMap_append, List.flatMap_singleton]
/-- Nothing is longer than memory is, and it is not too large. -/
def TSB (n : Nat) (t : TT n) : Prop := TSz n t ∧ tsiz n t ≤ 200000
/-- What hasAll says of types less than n deep. -/
def HasOk (n : Nat) : Prop := ∀ (t : TT n) (ns ls : Value) (m : Nat) (l : List (VT m)) (lv : Value) (w : World), RT n w t ns ls → VL m w lv l → IsT n t → TSB n t → (∀ v ∈ l, IsV m v ∧ Sz m v) → sizL m l ≤ 200000 → Gt w →
    Calls Tryd.prog 32 #[.agg (tvs (thd n t) ns ls), lv] w fun e w' => TB (∀ v ∈ l, InT n t m v) w e w'
set_option maxHeartbeats 1000000 in
set_option maxRecDepth 100000 in
theorem hasLists_any (n : Nat) (ih : HasOk n) (h : Th) (u : TT n) (ns ls : Value) (m : Nat) (l : List (VT (m + 1))) (lv : Value) (w : World) (hr : RT (n + 1) w (h, [u]) ns ls) (hl : VL (m + 1) w lv l) (hk9 : h.kind = 9) (tu : IsT n u) (zu : TSB n u) (hv : ∀ v ∈ l, IsV (m + 1) v ∧ Sz (m + 1) v) (hsz : sizL (m + 1) l ≤ 200000) (gt : Gt w) :
    Calls Tryd.prog 51 #[.agg (tvs h ns ls), lv] w fun e w' => TB (∀ v ∈ l, InT (n + 1) (h, [u]) (m + 1) v) w e w' := by
  obtain ⟨al, cl, rfl, hc1, hc2⟩ := hr.len
  obtain ⟨an, cn, rfl, hn1, hn2⟩ := hr.1.len
  obtain ⟨av, cv, rfl, hv1, hv2⟩ := hl.len
  simp only [List.length_singleton] at hc1 hc2 hn1 hn2 ⊢
  obtain ⟨b, o, c, he, hbl, hlc, hcm, ns', ls', hrg, hrd⟩ := hr.at 0 (by simp)
  simp only [List.length_singleton, List.getElem_cons_zero, Nat.zero_mul, Nat.add_zero] at he hlc hrg hrd
  have he' := Value.slice.inj he
  obtain ⟨rfl, _, rfl⟩ := he'
  clear he
  have hB0 := hide (tx_new w h (.slice an h.names.length cn) (.slice (some ⟨b, o, none⟩) 1 cl))
  have hb0 : Hid (∀ o, Below w.heap.size w (w.alloc o)) := fun o => below_al (Below.refl _ _)
  have hl := hide hl
  have hx : Hid ((∀ v ∈ l, v.1.kind = 7) → ((∀ v ∈ l, InT (n + 1) (h, [u]) (m + 1) v) ↔ ∀ y ∈ flat m l, InT n u m y)) := by
    intro h7
    constructor
    · intro q y hy
      obtain ⟨x, hx, hyx⟩ := List.mem_flatMap.1 hy
      rcases q x hx with ⟨q, _⟩ | ⟨_, _, q⟩ | ⟨q, _⟩ | ⟨q, _⟩
      · simp only at q; omega
      · exact q y hyx u (by simp)
      · simp only at q; omega
      · simp only at q; omega
    · intro q x hx
      refine Or.inr (Or.inl ⟨hk9, h7 x hx, fun y hy u' hu' => ?_⟩)
      rw [List.mem_singleton.1 hu']
      exact q y (List.mem_flatMap.2 ⟨x, hx, hy⟩)
  have hno : Hid (∀ v ∈ l, v.1.kind ≠ 7 → ¬ ∀ v ∈ l, InT (n + 1) (h, [u]) (m + 1) v) := by
    intro v hv h7 q
    rcases q v hv with ⟨q, _⟩ | ⟨_, q, _⟩ | ⟨q, _⟩ | ⟨q, _⟩
    · simp only at q; omega
    · exact h7 q
    · simp only at q; omega
    · simp only at q; omega
  have hvs : Hid (∀ y ∈ flat m l, IsV m y ∧ Sz m y) := by
    intro y hy
    obtain ⟨x, hx, hyx⟩ := List.mem_flatMap.1 hy
    exact ⟨(hv x hx).1.2.2 y hyx, (hv x hx).2.2.2.2.2 y hyx⟩
  have hcall := hide (fun W lv' (hb : Below w.heap.size w W) (hvl : VL m W lv' (flat m l)) => ih u ns' ls' m (flat m l) lv' W (hrd.below hb) hvl tu zu hvs.out (Nat.le_trans (flat_siz m l) hsz) (gt.below hb))
  obtain ⟨q1, q2, q3, q4, q5, q6, rfl, rfl⟩ := hrd.shape
  have hrg := hide hrg
  have hsz := hide hsz
  obtain ⟨hu', hhu⟩ : ∃ hu', thd n u = hu' := ⟨_, rfl⟩
  rw [hhu] at hcall hrg
  clear hr hrd tu zu gt hv hhu ih hk9
  have ml : maxLen = 9223372036854775807 := rfl
  show Calls _ _ #[.agg #[.int .i64 h.kind, .slice an h.names.length cn, .slice (some ⟨b, o, none⟩) 1 cl], _] _ _
  go_enter Tryd.func51, Tryd.ntmps51
  go_wp2_with fail
  go_loopw [5, 10] (fun u' i w' => ∃ (k N : Nat) (av : Option Addr) (c : Nat), i = .int .i64 k ∧ u' = .slice av N c ∧ k ≤ l.length ∧ Hid ((flat m (l.take k)).length = N) ∧ Hid ((∀ v ∈ l.take k, v.1.kind = 7) ∧ Below w.heap.size w w' ∧ Tx w' w.heap.size h (.slice an h.names.length cn) (.slice (some ⟨b, o, none⟩) 1 cl) ∧ OV m w w' (w.heap.size + 1) u' (flat m (l.take k)))) (fun _ i _ => l.length - (intOf i).toNat)
  case atStart => exact ⟨0, 0, none, 0, rfl, rfl, Nat.zero_le _, rfl, (fun v hv => by simp at hv), hb0.out _, hB0.out, OV.nil⟩
  case round =>
    obtain ⟨k, N, av', c', rfl, rfl, hk, hN, H⟩ := hrel
    have hlt := H.out.2.2.1.lt
    by_cases hkl : k < l.length
    · have hki : (k : Int) < (l.length : Int) := by omega
      have hk63 : (k : Int) < 9223372036854775807 := by omega
      obtain ⟨b', o', c'', he, hbl', hlc', hcm', ns1, ls1, hrg', hrd'⟩ := hl.out.at k hkl
      have he' := Value.slice.inj he
      obtain ⟨rfl, _, rfl⟩ := he'
      clear he
      obtain ⟨y0, y1, y2, y3, y4, y5, y6, y7, y8⟩ := range9 (rangeAt_below hrg' H.out.2.1 hbl')
      have hvl := hide hrd'.vl
      obtain ⟨e1, e2, rfl, he1, he2⟩ := hrd'.len
      obtain ⟨e3, e4, rfl, he3, he4⟩ := hrd'.1.len
      clear hrg' hrd'
      have hfl := hide (flat_take m l k hkl)
      have hmem := hide (List.getElem_mem hkl)
      have hbnd : Hid (N + (l[k]).2.length ≤ 200000) := by
        have h1 := sizL_len m (flat m (l.take (k + 1)))
        have h2 := flat_siz m (l.take (k + 1))
        have h3 := sizL_take (m + 1) l (k + 1)
        have h4 := hsz.out
        rw [hfl.out] at h1
        rw [hfl.out] at h2
        rw [List.length_append] at h1
        have h5 := hN.out
        show _ ≤ _
        omega
      obtain ⟨x, hxk⟩ : ∃ x, l[k] = x := ⟨_, rfl⟩
      rw [hxk] at y0 y1 y2 y3 y4 y5 y6 y7 y8 hvl hfl hmem hbnd
      simp only [hxk] at he1 he3
      have hxk' := hide hxk
      clear hxk
      obtain ⟨hd, ll⟩ := x
      simp only [vhd] at y0 y1 y2 y3 y4 y5 y6 y7 y8 hvl hfl hmem hbnd he1 he3
      by_cases h7 : hd.kind = 7
      · rw [h7] at y0
        have hbl1 : Hid (∀ o, Below w.heap.size w (wr.alloc o)) := fun o => below_al H.out.2.1
        have hov : Hid (∀ o, OV m w (wr.alloc o) (w.heap.size + 1) (.slice av' N c') (flat m (l.take k))) := fun o => H.out.2.2.2.below (below_al (Below.refl _ _))
        have hB : Hid (∀ o, w.heap.size + 1 ≤ (wr.alloc o).heap.size) := fun o => by show _ ≤ _; simp; omega
        have h7' := hide h7
        go_wp2_with (at_builtin; refine app_vs rfl (.tmp 17) (.tmp 19) rfl m w (w.heap.size + 1) av' N c' (flat m (l.take k)) rfl hN (hov.out _) e1 ll.length e2 ll rfl rfl hvl (hbl1.out _) hbnd (hB.out _) ?_; intro av2 c2 w2 ho2 hg2)
        refine ⟨⟨k + 1, N + ll.length, av2, c2, by go_num, rfl, by omega, ?_, ?_⟩, by simp [intOf]; omega⟩
        · show _ = _
          rw [hfl.out, List.length_append, hN.out]
        · refine ⟨?_, ?_, ?_, ?_⟩
          · intro v hv
            rw [List.take_succ_eq_append_getElem hkl] at hv
            rcases List.mem_append.1 hv with q | q
            · exact H.out.1 v q
            · rw [List.mem_singleton.1 q]
              rw [hxk'.out]
              exact h7'.out
          · exact (hbl1.out _).grown hg2.out (hbl1.out _).size (fun j hj => by have := H.out.2.2.2.lt j hj; omega)
          · have hne : ∀ g, (Value.slice av' N c').ownBlock = some g → w.heap.size ≠ g := fun g hg => by have := H.out.2.2.2.lt g hg; omega
            refine ⟨?_⟩
            rw [hg2.out.block w.heap.size (by simp; omega) (fun e => hne _ e.symm rfl)]
            exact (H.out.2.2.1.below (below_al (Below.refl _ _))).at_
          · rw [hfl.out]; exact ho2.out
      · have hne : (hd.kind != 7) = true := by simpa using h7
        have hne' : (hd.kind == 7) = false := beq_eq_false_iff_ne.2 h7
        have hnn := hide (hno.out (hd, ll) hmem.out h7)
        go_wp2_with fail
        go_ret
        exact TB.no hnn.out (below_al H.out.2.1)
    · have hki : ¬ ((k : Int) < (l.length : Int)) := by omega
      obtain ⟨c0, c1, c2⟩ := H.out.2.2.1.cells
      have hkk : l.take k = l := List.take_of_length_le (by omega)
      have h7 := hide (show ∀ v ∈ l, v.1.kind = 7 by have := H.out.1; rw [hkk] at this; exact this)
      have hov := hide (show OV m w wr (w.heap.size + 1) (.slice av' N c') (flat m l) by have := H.out.2.2.2; rw [hkk] at this; exact this)
      have hc := hide (hcall.out wr (.slice av' N c') H.out.2.1 (hov.out.vl H.out.2.1))
      obtain ⟨y0, y1, y2⟩ := range3 (rangeAt_below hrg.out H.out.2.1 hbl)
      clear hkk
      go_wp2_with (go_at_call 32; refine hc.out.mono ?_; rintro e w2 ⟨bb, rfl, hT, hb2⟩)
      go_ret
      cases bb
      · exact TB.no (fun q => by have := hT.2 ((hx.out h7.out).1 q); cases this) (below_then H.out.2.1 hb2)
      · exact TB.yes ((hx.out h7.out).2 (hT.1 rfl)) (below_then H.out.2.1 hb2)
end Go.Proofs.YtolmbjeinilhlaaDoor
/- types.eachHasAll: walked. -/
namespace Go.Proofs.YtolmbjeinilhlaaDoor
open Go.RowKit Go.Maps
set_option linter.unusedSimpArgs false
set_option linter.unusedVariables false
set_option maxHeartbeats 1000000 in
set_option maxRecDepth 100000 in
theorem eachHas_any (n : Nat) (ih : HasOk n) (l : List (TT n)) (u : Value) (m R L c : Nat) (f : Nat → Value) (cols : Nat → List (VT m)) (w : World) (hl : TL n w u l) (hL : l.length = L) (hLc : L ≤ c) (hcm : c ≤ maxLen) (hR : R < w.heap.size)
    (hf : ∀ i, i < L → w.cell? ⟨R, i, none⟩ = some (f i) ∧ VL m w (f i) (cols i) ∧ (∀ v ∈ cols i, IsV m v ∧ Sz m v) ∧ sizL m (cols i) ≤ 200000) (tl : ∀ y ∈ l, TSB n y ∧ IsT n y) (gt : Gt w) :
    Calls Tryd.prog 67 #[u, .slice (some ⟨R, 0, none⟩) L c] w fun e w' => TB (∀ i (h : i < l.length), ∀ v ∈ cols i, InT n l[i] m v) w e w' := by
  obtain ⟨al, cl, rfl, hl1, hl2⟩ := hl.len
  have hl := hide hl
  have hf := hide hf
  have tl := hide tl
  have gt := hide gt
  have ih := hide ih
  have hL' := hide hL
  generalize hP : (∀ i (h : i < l.length), ∀ v ∈ cols i, InT n l[i] m v) = P
  rw [hL] at hl1 ⊢
  have hP := hide hP
  clear hL
  have ml : maxLen = 9223372036854775807 := rfl
  go_enter Tryd.func67, Tryd.ntmps67
  go_wp2_with fail
  go_loopw [9] (fun i w' => ∃ k : Nat, i = .int .i64 k ∧ k ≤ L ∧ Hid ((∀ i (h : i < l.length), i < k → ∀ v ∈ cols i, InT n l[i] m v) ∧ Below w.heap.size w w')) (fun i _ => L - (intOf i).toNat)
  case atStart => exact ⟨0, rfl, Nat.zero_le _, (fun i h h2 => by omega), Below.refl _ _⟩
  case round =>
    obtain ⟨k, rfl, hk, H⟩ := hrel
    by_cases hkl : k < L
    · have hki : (k : Int) < (L : Int) := by omega
      have hk63 : (k : Int) < 9223372036854775807 := by omega
      have hkl' := hide (show k < l.length by rw [hL'.out]; exact hkl)
      obtain ⟨b, o, c2, he, hbl, hlc, hcm2, ns', ls', hrg, hrd⟩ := hl.out.at k hkl'.out
      have he' := Value.slice.inj he
      obtain ⟨rfl, _, rfl⟩ := he'
      clear he
      obtain ⟨q0, q1, q2⟩ := range3 (rangeAt_below hrg H.out.2 hbl)
      have hrd' := hide hrd
      obtain ⟨a1, m1, d1, a2, m2, d2, rfl, rfl⟩ := hrd.shape
      clear hrg hrd
      obtain ⟨f1, f2, f3, f4⟩ := hf.out k hkl
      obtain ⟨a3, c3, e3, _, _⟩ := f2.len
      have tk := tl.out _ (List.getElem_mem hkl'.out)
      obtain ⟨bk, hbk⟩ := tells (∀ v ∈ cols k, InT n (l[k]'hkl'.out) m v)
      have hcall := hide (fun W (hW : Below w.heap.size w W) => Calls.tb (ih.out (l[k]'hkl'.out) _ _ m (cols k) (f k) W (hrd'.out.below hW) (f2.below hW) tk.2 tk.1 f3 f4 (gt.out.below hW)) hbk)
      have hbk' := hide hbk
      rw [e3] at f1 hcall
      obtain ⟨N, hN⟩ : ∃ N, (cols k).length = N := ⟨_, rfl⟩
      rw [hN] at f1 hcall
      obtain ⟨hp, hhp⟩ : ∃ hp, thd n (l[k]'hkl'.out) = hp := ⟨_, rfl⟩
      rw [hhp] at q0 hcall
      clear hbk e3 f2 f3 f4 tk hN hhp
      have hfR := hide (fun W (hW : Below w.heap.size w W) => (hW.cell (p := ⟨R, k, none⟩) hR).trans f1)
      have hwr := hide H.out.2
      have hTx := hide (tx_new wr hp (.slice a1 m1 d1) (.slice a2 m2 d2))
      obtain ⟨W1, hW1⟩ : ∃ W1, wr.alloc (.cells #[.int .i64 hp.kind, .slice a1 m1 d1, .slice a2 m2 d2] 26) = W1 := ⟨_, rfl⟩
      have hTx : Hid (Tx W1 wr.heap.size hp (.slice a1 m1 d1) (.slice a2 m2 d2)) := by rw [← hW1]; exact hTx.out
      have hbW : Hid (Below w.heap.size w W1) := by rw [← hW1]; exact below_al H.out.2
      have mkS : Hid (∀ W, Below W1.heap.size W1 W → W.cell? ⟨wr.heap.size, 0, none⟩ = some (.int .i64 hp.kind) ∧ W.cell? ⟨wr.heap.size, 1, none⟩ = some (.slice a1 m1 d1) ∧ W.cell? ⟨wr.heap.size, 2, none⟩ = some (.slice a2 m2 d2) ∧ W.cell? ⟨R, k, none⟩ = some (.slice a3 N c3)) := fun W hW => ⟨(hTx.out.below hW).cells.1, (hTx.out.below hW).cells.2.1, (hTx.out.below hW).cells.2.2, hfR.out W (below_then hbW.out hW)⟩
      obtain ⟨s0, s1, s2, s3⟩ := mkS.out W1 (Below.refl _ _)
      clear f1
      cases bk
      · go_wp2_with fail
        go_region_held3 (fun W => W.cell? ⟨wr.heap.size, 0, none⟩ = some (.int .i64 hp.kind) ∧ W.cell? ⟨wr.heap.size, 1, none⟩ = some (.slice a1 m1 d1) ∧ W.cell? ⟨wr.heap.size, 2, none⟩ = some (.slice a2 m2 d2) ∧ W.cell? ⟨R, k, none⟩ = some (.slice a3 N c3)) (first | (exact mkS.out _ T3.out) | (simp [go_sem]; done) | go_keep) (first | (go_at_call 32; refine (hcall.out _ (below_then hbW.out (by repeat (first | exact Below.refl _ _ | refine below_dr ?_ | refine below_dn ?_ _)))).mono ?_; rintro e w3 ⟨rfl, hb3⟩; have T3 : Hid (Below W1.heap.size W1 w3) := below_then (by repeat (first | exact Below.refl _ _ | refine below_dr ?_ | refine below_dn ?_ _)) hb3))
        go_wp2_with fail
        go_ret
        exact TB.no (fun q => by rw [← hP.out] at q; have := hbk'.out.2 (q k hkl'.out); cases this) (below_then hbW.out T3.out)
      · go_wp2_with fail
        go_region_held3 (fun W => W.cell? ⟨wr.heap.size, 0, none⟩ = some (.int .i64 hp.kind) ∧ W.cell? ⟨wr.heap.size, 1, none⟩ = some (.slice a1 m1 d1) ∧ W.cell? ⟨wr.heap.size, 2, none⟩ = some (.slice a2 m2 d2) ∧ W.cell? ⟨R, k, none⟩ = some (.slice a3 N c3)) (first | (exact mkS.out _ T3.out) | (simp [go_sem]; done) | go_keep) (first | (go_at_call 32; refine (hcall.out _ (below_then hbW.out (by repeat (first | exact Below.refl _ _ | refine below_dr ?_ | refine below_dn ?_ _)))).mono ?_; rintro e w3 ⟨rfl, hb3⟩; have T3 : Hid (Below W1.heap.size W1 w3) := below_then (by repeat (first | exact Below.refl _ _ | refine below_dr ?_ | refine below_dn ?_ _)) hb3))
        go_wp2_with fail
        refine ⟨⟨k + 1, by go_num, by omega, (fun i h1 h2 => ?_), below_then hbW.out T3.out⟩, by simp [intOf]; omega⟩
        by_cases e : i = k
        · subst e; exact hbk'.out.1 (by simp)
        · exact H.out.1 i h1 (by omega)
    · have hki : ¬ ((k : Int) < (L : Int)) := by omega
      have hE' := hide (show ∀ i (h : i < l.length), ∀ v ∈ cols i, InT n l[i] m v from fun i h => H.out.1 i h (by have := hL'.out; omega))
      go_wp2_with fail
      go_ret
      exact TB.yes (by rw [← hP.out]; exact hE'.out) H.out.2
end Go.Proofs.YtolmbjeinilhlaaDoor
/- Columns of values of the call's own: rows in a row. -/
namespace Go.Proofs.YtolmbjeinilhlaaDoor
open Go.RowKit Go.Maps
set_option linter.unusedSimpArgs false
set_option linter.unusedVariables false
theorem set_heap9 (w : World) (G o : Nat) (ar : Array Value) (T : TypeId) (b : Value) (hg : w.heap[G]? = some (.cells ar T (0, 0))) :
    (w.setCell ⟨G, o, none⟩ b).heap[G]? = some (.cells (ar.setIfInBounds o b) T (0, 0)) ∧ ∀ k, k ≠ G → (w.setCell ⟨G, o, none⟩ b).heap[k]? = w.heap[k]? := by
  refine ⟨?_, fun k hk => Below.heap_setCell _ _ _ _ hk⟩
  obtain ⟨hlt, e⟩ := Array.getElem?_eq_some_iff.1 hg
  simp [World.setCell, hlt, Array.getElem_modify, e]
theorem set_nineO (w : World) (G o : Nat) (T : TypeId) (ar : Array Value) (b0 b1 b2 b3 b4 b5 b6 b7 b8 : Value) (hg : w.heap[G]? = some (.cells ar T (0, 0))) (ho : o + 9 ≤ ar.size) (W : World) (hW : ((((((((w.setCell ⟨G, o, none⟩ b0).setCell ⟨G, o + 1, none⟩ b1).setCell ⟨G, o + 2, none⟩ b2).setCell ⟨G, o + 3, none⟩ b3).setCell ⟨G, o + 4, none⟩ b4).setCell ⟨G, o + 5, none⟩ b5).setCell ⟨G, o + 6, none⟩ b6).setCell ⟨G, o + 7, none⟩ b7).setCell ⟨G, o + 8, none⟩ b8 = W) :
    ∃ ar' : Array Value, W.heap[G]? = some (.cells ar' T (0, 0)) ∧ ar'.size = ar.size ∧ (∀ j, j < o ∨ o + 9 ≤ j → ar'[j]? = ar[j]?) ∧ (∀ (j : Nat) v, (#[b0, b1, b2, b3, b4, b5, b6, b7, b8] : Array Value)[j]? = some v → ar'[o + j]? = some v) ∧ ∀ k, k ≠ G → W.heap[k]? = w.heap[k]? := by
  have h0 := set_heap9 _ G (o) _ T b0 hg
  have h1 := set_heap9 _ G (o + 1) _ T b1 h0.1
  have h2 := set_heap9 _ G (o + 2) _ T b2 h1.1
  have h3 := set_heap9 _ G (o + 3) _ T b3 h2.1
  have h4 := set_heap9 _ G (o + 4) _ T b4 h3.1
  have h5 := set_heap9 _ G (o + 5) _ T b5 h4.1
  have h6 := set_heap9 _ G (o + 6) _ T b6 h5.1
  have h7 := set_heap9 _ G (o + 7) _ T b7 h6.1
  have h8 := set_heap9 _ G (o + 8) _ T b8 h7.1
  rw [hW] at h8
  refine ⟨_, h8.1, by simp, fun j hj => ?_, fun j v hj => ?_, fun k hk => ?_⟩
  · simp only [Array.getElem?_setIfInBounds, Array.size_setIfInBounds]
    iterate 9 rw [if_neg (by omega)]
  · have hj9 : j < 9 := (Array.getElem?_eq_some_iff.1 hj).1
    simp only [Array.getElem?_setIfInBounds, Array.size_setIfInBounds]
    match j, hj9 with
    | 0, _ => rw [if_neg (by omega)]; rw [if_neg (by omega)]; rw [if_neg (by omega)]; rw [if_neg (by omega)]; rw [if_neg (by omega)]; rw [if_neg (by omega)]; rw [if_neg (by omega)]; rw [if_neg (by omega)]; rw [if_pos (by omega), if_pos (by omega)]; exact hj
    | 1, _ => rw [if_neg (by omega)]; rw [if_neg (by omega)]; rw [if_neg (by omega)]; rw [if_neg (by omega)]; rw [if_neg (by omega)]; rw [if_neg (by omega)]; rw [if_neg (by omega)]; rw [if_pos (by omega), if_pos (by omega)]; exact hj
    | 2, _ => rw [if_neg (by omega)]; rw [if_neg (by omega)]; rw [if_neg (by omega)]; rw [if_neg (by omega)]; rw [if_neg (by omega)]; rw [if_neg (by omega)]; rw [if_pos (by omega), if_pos (by omega)]; exact hj
    | 3, _ => rw [if_neg (by omega)]; rw [if_neg (by omega)]; rw [if_neg (by omega)]; rw [if_neg (by omega)]; rw [if_neg (by omega)]; rw [if_pos (by omega), if_pos (by omega)]; exact hj
    | 4, _ => rw [if_neg (by omega)]; rw [if_neg (by omega)]; rw [if_neg (by omega)]; rw [if_neg (by omega)]; rw [if_pos (by omega), if_pos (by omega)]; exact hj
    | 5, _ => rw [if_neg (by omega)]; rw [if_neg (by omega)]; rw [if_neg (by omega)]; rw [if_pos (by omega), if_pos (by omega)]; exact hj
    | 6, _ => rw [if_neg (by omega)]; rw [if_neg (by omega)]; rw [if_pos (by omega), if_pos (by omega)]; exact hj
    | 7, _ => rw [if_neg (by omega)]; rw [if_pos (by omega), if_pos (by omega)]; exact hj
    | 8, _ => rw [if_pos (by omega), if_pos (by omega)]; exact hj
  · rw [h8.2 k hk, h7.2 k hk, h6.2 k hk, h5.2 k hk, h4.2 k hk, h3.2 k hk, h2.2 k hk, h1.2 k hk, h0.2 k hk]
/-- Columns: the row in block R holds L slices of the call's own, all in other blocks. -/
structure CL (m : Nat) (w0 W : World) (R L : Nat) (f : Nat → Value) (cols : Nat → List (VT m)) : Prop where
  row : W.rowIs R 31 L f
  ov : ∀ i, i < L → OV m w0 W (R + 1) (f i) (cols i)
  sep : ∀ i j, i < L → j < L → i ≠ j → ∀ g, (f i).ownBlock = some g → (f j).ownBlock ≠ some g
theorem CL.keep {m : Nat} {w0 W W1 : World} {R L : Nat} {f : Nat → Value} {cols : Nat → List (VT m)} (h : CL m w0 W R L f cols) (hb : Below W.heap.size W W1) : CL m w0 W1 R L f cols :=
  ⟨h.row.of_block (hb.block _ h.row.lt), fun i hi => (h.ov i hi).below hb, h.sep⟩
theorem CL.push {m : Nat} {w0 W Wz w' W' : World} {R L : Nat} {f : Nat → Value} {cols : Nat → List (VT m)} (h : CL m w0 W R L f cols) (i : Nat) (hi : i < L) (y : VT m) (ns ls : Value) (hy : RD m w0 y ns ls)
    (G N c' : Nat) (xs zs : List Value) (hN : (cols i).length = N) (hx : W.ownsRow (R + 1) 33 9 (f i) N xs) (hall : ∀ j (h : j < (cols i).length), ∃ ns ls, RD m w0 (cols i)[j] ns ls ∧ ∀ r u, (vals (vhd m (cols i)[j]) ns ls).toList[r]? = some u → xs[j * 9 + r]? = some u)
    (hz : Below W.heap.size W Wz) (hg : Wz.grownBy w' (f i).ownBlock) (hown : w'.ownsRow (R + 1) 33 9 (.slice (some ⟨G, 0, none⟩) (N + 1) c') (N + 1) (xs ++ zs)) (hat : some G = (f i).ownBlock ∨ G = Wz.heap.size)
    (ar ar' : Array Value) (k1 : w'.heap[G]? = some (.cells ar 33 (0, 0))) (k2 : W'.heap[G]? = some (.cells ar' 33 (0, 0))) (k3 : ar'.size = ar.size) (k4 : ∀ j, j < N * 9 ∨ N * 9 + 9 ≤ j → ar'[j]? = ar[j]?) (k5 : ∀ (j : Nat) v, (vals (vhd m y) ns ls)[j]? = some v → ar'[N * 9 + j]? = some v)
    (k6 : W'.rowIs R 31 L (fun j => if j = i then .slice (some ⟨G, 0, none⟩) (N + 1) c' else f j)) (k7 : ∀ k, k ≠ G → k ≠ R → W'.heap[k]? = w'.heap[k]?) :
    CL m w0 W' R L (fun j => if j = i then .slice (some ⟨G, 0, none⟩) (N + 1) c' else f j) (fun j => if j = i then cols i ++ [y] else cols j) := by
  have hzs := hz.size
  have hRl := h.row.lt
  have hGR : R + 1 ≤ G ∧ G < w'.heap.size := World.ownsRow.lt hown G rfl
  refine ⟨k6, fun j hj => ?_, fun j k hj hk hjk g hg1 => ?_⟩
  · by_cases e : j = i
    · subst e
      simp only [if_pos]
      obtain ⟨o1, o2⟩ := hown
      rcases o2 with ⟨q, _⟩ | ⟨g, cap, cur, q, q1, q2, q3, q4, q5, q6⟩
      · cases q
      · simp only [Value.slice.injEq, Option.some.injEq, Addr.mk.injEq, and_true, true_and] at q
        obtain ⟨rfl, rfl⟩ := q
        rw [k1] at q2
        simp only [Option.some.injEq, Obj.cells.injEq, and_true] at q2
        subst q2
        have hl' : (ar'.toList.take ((N + 1) * 9)).length = (N + 1) * 9 := by
          rw [List.length_take, Array.length_toList, k3, q5]
          exact Nat.min_eq_left (Nat.mul_le_mul_right 9 q3)
        have hxl : xs.length = N * 9 := hx.1
        refine ⟨ar'.toList.take ((N + 1) * 9), ⟨by rw [hl', List.length_append, hN]; rfl, Or.inr ⟨G, c', ar', by rw [List.length_append, hN]; rfl, q1, k2, by rw [List.length_append, hN]; exact q3, q4, by rw [k3, q5], by rw [List.length_append, hN]; rfl⟩⟩, fun r hr => ?_⟩
        rw [List.length_append, hN] at hr
        simp only [List.length_singleton] at hr
        by_cases hrN : r < (cols j).length
        · obtain ⟨ns1, ls1, p1, p2⟩ := hall r hrN
          refine ⟨ns1, ls1, by rw [List.getElem_append_left hrN]; exact p1, fun t u hu => ?_⟩
          rw [List.getElem_append_left hrN] at hu
          have ht9 : t < 9 := (List.getElem?_eq_some_iff.1 hu).1
          have hq := p2 t u hu
          have hq2 : (xs ++ zs)[r * 9 + t]? = some u := by rw [List.getElem?_append_left (by omega)]; exact hq
          rw [← q6, List.getElem?_take] at hq2
          rw [List.getElem?_take]
          rw [if_pos (by omega)] at hq2 ⊢
          rw [Array.getElem?_toList] at hq2 ⊢
          rw [k4 _ (Or.inl (by omega))]
          exact hq2
        · have hrN' : r = N := by omega
          subst hrN'
          refine ⟨ns, ls, by rw [List.getElem_append_right (by omega)]; simp only [hN, Nat.sub_self, List.getElem_cons_zero]; exact hy, fun t u hu => ?_⟩
          rw [List.getElem_append_right (by omega)] at hu
          simp only [hN, Nat.sub_self, List.getElem_cons_zero] at hu
          have ht9 : t < 9 := (List.getElem?_eq_some_iff.1 hu).1
          rw [List.getElem?_take, if_pos (by omega), Array.getElem?_toList]
          exact k5 t u (by rw [← Array.getElem?_toList]; exact hu)
    · simp only [if_neg e]
      refine (h.ov j hj).keep fun g hg1 hlt => ?_
      have hne : g ≠ G := by
        rintro rfl
        rcases hat with q | q
        · exact h.sep i j hi hj (fun x => e x.symm) g q.symm hg1
        · omega
      have hgR : g ≠ R := by have := (h.ov j hj).lt g hg1; omega
      rw [k7 g hne hgR, hg.block g (by omega) (fun q => h.sep i j hi hj (fun x => e x.symm) g q.symm hg1), hz.block g hlt]
  · by_cases ej : j = i
    · subst ej
      simp only [if_pos] at hg1
      have hkj : ¬ k = j := fun x => hjk x.symm
      simp only [if_neg hkj]
      have hg1 : G = g := by simpa [Value.ownBlock] using hg1
      subst hg1
      intro q
      rcases hat with p | p
      · exact h.sep j k hi hk hjk G p.symm q
      · have := ((h.ov k hk).lt G q).2; omega
    · simp only [if_neg ej] at hg1
      by_cases ek : k = i
      · subst ek
        simp only [if_pos]
        intro q
        have q : G = g := by simpa [Value.ownBlock] using q
        subst q
        rcases hat with p | p
        · exact h.sep k j hi hj (fun x => ej x.symm) G p.symm hg1
        · have := ((h.ov j hj).lt G hg1).2; omega
      · simp only [if_neg ek]
        exact h.sep j k hj hk hjk g hg1
end Go.Proofs.YtolmbjeinilhlaaDoor
/- One more value in a column: the step of a drawn region; columns by place. -/
namespace Go.Proofs.YtolmbjeinilhlaaDoor
open Go.RowKit Go.Maps
set_option linter.unusedSimpArgs false
set_option linter.unusedVariables false
/-- An empty value's cells. -/
def z9 : List Value := [.int .i64 0, .bool false, .bool false, .string ⟨#[]⟩, .int .i64 0, .int .u64 0, .string ⟨#[]⟩, .slice none 0 0, .slice none 0 0]
theorem step_vz {w : World} {ops : Array Oper} {o : Oper} {a : Act} {K : Act → World → Prop} {Q : Exit → Act → World → Prop} {E : Prop} (hgd : o.guard = none) (s x : Operand) (ho : o.op = .call { callee := .builtin .append, args := #[s, x], argTypes := #[31, 31] })
    (B : Nat) (v : Value) (n : Nat) (xs : List Value) (hs : a.eval s = v) (hown : w.ownsRow B 33 9 v n xs) (g c : Nat) (hx : a.eval x = .slice (some ⟨g, 0, none⟩) 1 c)
    (hnews : w.rangeAt g 0 z9) (hm : n ≤ 200000) (hB : B ≤ w.heap.size)
    (h : ∀ G c' w', Hid (w'.ownsRow B 33 9 (.slice (some ⟨G, 0, none⟩) (n + 1) c') (n + 1) (xs ++ z9)) → Hid (w.grownBy w' v.ownBlock) → Hid (some G = v.ownBlock ∨ G = w.heap.size) → Hid (n + 1 ≤ c' ∧ c' ≤ maxLen) → K (a.put o.dst (.slice (some ⟨G, 0, none⟩) (n + 1) c')) w') :
    if Region.wanted o (yielded ops a.tmps) = true then Oper.wp Tryd.prog o a w K Q else E := by
  have hw : Region.wanted o (yielded ops a.tmps) = true := by simp [Region.wanted, hgd]
  rw [if_pos hw]
  obtain ⟨i0, hi, hz0, hz1, hz2⟩ := info_parts infoVV
  obtain ⟨v', w', hr, h1, h2, h3, h4⟩ := run_append_own_at (P := Tryd.prog) w B 31 o.type 33 i0 _ 9 120 Tryd.underlying31 hi hz0 hz1 hz2 rfl (by decide) v n xs hown ⟨g, 0, none⟩ 1 c z9 rfl (by
    intro j u hj
    have := hnews j u hj
    rw [show (⟨g, 0, none⟩ : Addr).add j = ⟨g, 0 + j, none⟩ by unfold Addr.add; split <;> simp_all]
    exact this) (by
    intro u hu
    simp only [z9, List.mem_cons, List.not_mem_nil, or_false] at hu
    rcases hu with rfl | rfl | rfl | rfl | rfl | rfl | rfl | rfl | rfl
    all_goals rfl) (by unfold maxLen; omega) (by omega) hB
  unfold Oper.wp execOp
  simp only [ho, resolve, invoke, builtin, Sem.run_bind, Sem.run_pure, Result.andThen_ok, List.map_toArray, List.map_cons, List.map_nil, hs, hx, hr]
  rcases h1.2 with ⟨rfl, e⟩ | ⟨g', cap, cur, rfl, _, _, q1, q2, _⟩
  · omega
  · refine h g' cap w' h1 h2 ?_ ⟨q1, q2⟩
    rcases h4 with q | q
    · exact Or.inl q
    · exact Or.inr (by simpa [Value.ownBlock] using q)
theorem vz_facts {w : World} {B G n c : Nat} {xs : List Value} (h : w.ownsRow B 33 9 (.slice (some ⟨G, 0, none⟩) (n + 1) c) (n + 1) (xs ++ z9)) (hx : xs.length = n * 9) :
    (∀ j, w.frozen? ⟨G, j, none⟩ = false) ∧ (∃ ar, w.heap[G]? = some (.cells ar 33 (0, 0)) ∧ n * 9 + 9 ≤ ar.size) ∧ w.cell? ⟨G, n * 9, none⟩ = some (.int .i64 0) ∧ w.cell? ⟨G, n * 9 + 1, none⟩ = some (.bool false) ∧ w.cell? ⟨G, n * 9 + 2, none⟩ = some (.bool false) ∧ w.cell? ⟨G, n * 9 + 3, none⟩ = some (.string ⟨#[]⟩) ∧ w.cell? ⟨G, n * 9 + 4, none⟩ = some (.int .i64 0) ∧ w.cell? ⟨G, n * 9 + 5, none⟩ = some (.int .u64 0) ∧ w.cell? ⟨G, n * 9 + 6, none⟩ = some (.string ⟨#[]⟩) ∧ w.cell? ⟨G, n * 9 + 7, none⟩ = some (.slice none 0 0) ∧ w.cell? ⟨G, n * 9 + 8, none⟩ = some (.slice none 0 0) := by
  have hc : ∀ j (hj : j < 9), w.cell? ⟨G, n * 9 + j, none⟩ = z9[j]? := fun j hj => by
    rw [World.ownsRow.cellAt h (n * 9 + j) (by omega), List.getElem?_append_right (by omega), hx, Nat.add_sub_cancel_left]
  obtain ⟨o1, o2⟩ := h
  rcases o2 with ⟨q, _⟩ | ⟨g, cap, cur, q, q1, q2, q3, q4, q5, q6⟩
  · cases q
  · simp only [Value.slice.injEq, Option.some.injEq, Addr.mk.injEq, and_true, true_and] at q
    obtain ⟨rfl, rfl⟩ := q
    refine ⟨fun j => by simp [World.frozen?, q2], ⟨cur, q2, ?_⟩, hc 0 (by omega), hc 1 (by omega), hc 2 (by omega), hc 3 (by omega), hc 4 (by omega), hc 5 (by omega), hc 6 (by omega), hc 7 (by omega), hc 8 (by omega)⟩
    have := Nat.mul_le_mul_right 9 q3
    omega
/-- What stands at a place in some values. -/
def col (m : Nat) (l : List (VT (m + 1))) (j : Nat) : List (VT m) := l.filterMap (fun x => x.2[j]?)
theorem col_take (m : Nat) (l : List (VT (m + 1))) (k j : Nat) (h : k < l.length) (hj : j < l[k].2.length) : col m (l.take (k + 1)) j = col m (l.take k) j ++ [l[k].2[j]] := by
  unfold col
  rw [List.take_succ_eq_append_getElem h, List.filterMap_append]
  simp [List.getElem?_eq_getElem hj]
theorem col_len (m : Nat) (l : List (VT (m + 1))) (j : Nat) : (col m l j).length ≤ l.length := List.length_filterMap_le _ _
theorem col_mem {m : Nat} {l : List (VT (m + 1))} {j : Nat} {y : VT m} (h : y ∈ col m l j) : ∃ x ∈ l, x.2[j]? = some y := by
  obtain ⟨x, hx, e⟩ := List.mem_filterMap.1 h
  exact ⟨x, hx, e⟩
theorem sizL_at {m : Nat} {l : List (VT m)} {j : Nat} {y : VT m} (h : l[j]? = some y) : siz m y ≤ sizL m l := by
  obtain ⟨hj, rfl⟩ := List.getElem?_eq_some_iff.1 h
  exact sizL_mem (List.getElem_mem hj)
theorem col_siz (m : Nat) (l : List (VT (m + 1))) (j : Nat) : sizL m (col m l j) ≤ sizL (m + 1) l := by
  induction l with
  | nil => simp [col, sizL, suml]
  | cons a l ih =>
    have e2 : sizL (m + 1) (a :: l) = siz (m + 1) a + sizL (m + 1) l := by simp [sizL, suml]
    have e3 : siz (m + 1) a = 1 + sizL m a.2 := rfl
    cases h : a.2[j]? with
    | none =>
      have e1 : col m (a :: l) j = col m l j := by simp [col, List.filterMap_cons, h]
      rw [e1]; omega
    | some y =>
      have e1 : col m (a :: l) j = y :: col m l j := by simp [col, List.filterMap_cons, h]
      have e4 : sizL m (y :: col m l j) = siz m y + sizL m (col m l j) := by simp [sizL, suml]
      have := sizL_at h
      rw [e1]; omega
theorem CL.congr {m : Nat} {w0 W : World} {R L : Nat} {f : Nat → Value} {cols cols' : Nat → List (VT m)} (h : CL m w0 W R L f cols) (e : ∀ j, j < L → cols j = cols' j) : CL m w0 W R L f cols' :=
  ⟨h.row, fun i hi => by rw [← e i hi]; exact h.ov i hi, h.sep⟩
theorem infoSV : (Tryd.prog.info? 31).map (fun i => (i.zero, i.size, i.bytes)) = some (some (.slice none 0 0), 1, 24) := by kernel_rfl
theorem CL.made {m : Nat} (w0 w : World) (L : Nat) : CL m w0 (w.alloc (.cells (madeCells #[.slice none 0 0] L) 31)) w.heap.size L (fun _ => .slice none 0 0) (fun _ => []) :=
  ⟨World.rowIs_made w _ L _, fun i _ => OV.nil, fun i j _ _ _ g hg => by cases hg⟩
theorem range_z9 (w : World) : (w.alloc (.cells #[.int .i64 0, .bool false, .bool false, .string ⟨#[]⟩, .int .i64 0, .int .u64 0, .string ⟨#[]⟩, .slice none 0 0, .slice none 0 0] 33)).rangeAt w.heap.size 0 z9 := by
  intro j v hj
  have hb : (w.alloc (.cells #[.int .i64 0, .bool false, .bool false, .string ⟨#[]⟩, .int .i64 0, .int .u64 0, .string ⟨#[]⟩, .slice none 0 0, .slice none 0 0] 33)).heap[w.heap.size]? = some (.cells z9.toArray 33 (0, 0)) := heap_alloc_last w _
  unfold World.cell?
  rw [Nat.zero_add]
  simp only [hb]
  rw [← hj]
  simp
end Go.Proofs.YtolmbjeinilhlaaDoor
/- A column that has grown by one value, in either order of the stores. -/
namespace Go.Proofs.YtolmbjeinilhlaaDoor
open Go.RowKit Go.Maps
set_option linter.unusedSimpArgs false
set_option linter.unusedVariables false
theorem fin_ab (w5 W' : World) (G N R q L : Nat) (f : Nat → Value) (v5 b0 b1 b2 b3 b4 b5 b6 b7 b8 : Value) (har : ∃ ar, w5.heap[G]? = some (.cells ar 33 (0, 0)) ∧ N * 9 + 9 ≤ ar.size) (hrow : w5.rowIs R 31 L f) (hGR : G ≠ R)
    (hW : ((((((((((w5.setCell ⟨G, N * 9, none⟩ b0).setCell ⟨G, N * 9 + 1, none⟩ b1).setCell ⟨G, N * 9 + 2, none⟩ b2).setCell ⟨G, N * 9 + 3, none⟩ b3).setCell ⟨G, N * 9 + 4, none⟩ b4).setCell ⟨G, N * 9 + 5, none⟩ b5).setCell ⟨G, N * 9 + 6, none⟩ b6).setCell ⟨G, N * 9 + 7, none⟩ b7).setCell ⟨G, N * 9 + 8, none⟩ b8).setCell ⟨R, q, none⟩ v5) = W' ∨ ((((((((((w5.setCell ⟨R, q, none⟩ v5).setCell ⟨G, N * 9, none⟩ b0).setCell ⟨G, N * 9 + 1, none⟩ b1).setCell ⟨G, N * 9 + 2, none⟩ b2).setCell ⟨G, N * 9 + 3, none⟩ b3).setCell ⟨G, N * 9 + 4, none⟩ b4).setCell ⟨G, N * 9 + 5, none⟩ b5).setCell ⟨G, N * 9 + 6, none⟩ b6).setCell ⟨G, N * 9 + 7, none⟩ b7).setCell ⟨G, N * 9 + 8, none⟩ b8) = W') :
    ∃ ar ar' : Array Value, w5.heap[G]? = some (.cells ar 33 (0, 0)) ∧ W'.heap[G]? = some (.cells ar' 33 (0, 0)) ∧ ar'.size = ar.size ∧ (∀ j, j < N * 9 ∨ N * 9 + 9 ≤ j → ar'[j]? = ar[j]?) ∧ (∀ (j : Nat) v, (#[b0, b1, b2, b3, b4, b5, b6, b7, b8] : Array Value)[j]? = some v → ar'[N * 9 + j]? = some v) ∧ W'.rowIs R 31 L (fun j => if j = q then v5 else f j) ∧ ∀ k, k ≠ G → k ≠ R → W'.heap[k]? = w5.heap[k]? := by
  obtain ⟨ar, k1, k2⟩ := har
  rcases hW with hW | hW
  · obtain ⟨W1, hW1⟩ : ∃ W1, (((((((((w5.setCell ⟨G, N * 9, none⟩ b0).setCell ⟨G, N * 9 + 1, none⟩ b1).setCell ⟨G, N * 9 + 2, none⟩ b2).setCell ⟨G, N * 9 + 3, none⟩ b3).setCell ⟨G, N * 9 + 4, none⟩ b4).setCell ⟨G, N * 9 + 5, none⟩ b5).setCell ⟨G, N * 9 + 6, none⟩ b6).setCell ⟨G, N * 9 + 7, none⟩ b7).setCell ⟨G, N * 9 + 8, none⟩ b8) = W1 := ⟨_, rfl⟩
    rw [hW1] at hW
    obtain ⟨ar', p1, p2, p3, p4, p5⟩ := set_nineO w5 G (N * 9) _ ar b0 b1 b2 b3 b4 b5 b6 b7 b8 k1 k2 W1 hW1
    have r1 : W1.rowIs R 31 L f := hrow.of_block (p5 R (fun e => hGR e.symm))
    refine ⟨ar, ar', k1, ?_, p2, p3, p4, ?_, fun k h1 h2 => ?_⟩
    · rw [← hW, Below.heap_setCell _ _ _ _ hGR]; exact p1
    · rw [← hW]; exact r1.set q v5
    · rw [← hW, Below.heap_setCell _ _ _ _ h2]; exact p5 k h1
  · have e1 : (w5.setCell ⟨R, q, none⟩ v5).heap[G]? = some (.cells ar 33 (0, 0)) := by rw [Below.heap_setCell _ _ _ _ hGR]; exact k1
    have r1 := hrow.set q v5
    obtain ⟨ar', p1, p2, p3, p4, p5⟩ := set_nineO (w5.setCell ⟨R, q, none⟩ v5) G (N * 9) _ ar b0 b1 b2 b3 b4 b5 b6 b7 b8 e1 k2 W' hW
    refine ⟨ar, ar', k1, p1, p2, p3, p4, r1.of_block (p5 R (fun e => hGR e.symm)), fun k h1 h2 => ?_⟩
    rw [p5 k h1, Below.heap_setCell _ _ _ _ h2]
/-- All that the next round wants. -/
theorem grow_ab {m : Nat} {w W Wz w5 W' : World} {R L : Nat} {f : Nat → Value} {cols : Nat → List (VT m)} (h : CL m w W R L f cols) (q : Nat) (hq : q < L) (y : VT m) (yh : Hd) (ns ls : Value) (hyh : vhd m y = yh) (hy : RD m w y ns ls)
    (G N c5 : Nat) (xs : List Value) (hN : (cols q).length = N) (hx : W.ownsRow (R + 1) 33 9 (f q) N xs) (hall : ∀ j (h : j < (cols q).length), ∃ ns ls, RD m w (cols q)[j] ns ls ∧ ∀ r u, (vals (vhd m (cols q)[j]) ns ls).toList[r]? = some u → xs[j * 9 + r]? = some u)
    (hwW : Below w.heap.size w W) (hwR : w.heap.size ≤ R) (hz : Below W.heap.size W Wz) (hg : Wz.grownBy w5 (f q).ownBlock) (hown : w5.ownsRow (R + 1) 33 9 (.slice (some ⟨G, 0, none⟩) (N + 1) c5) (N + 1) (xs ++ z9)) (hat : some G = (f q).ownBlock ∨ G = Wz.heap.size)
    (hW : ((((((((((w5.setCell ⟨G, N * 9, none⟩ (.int .i64 yh.kind)).setCell ⟨G, N * 9 + 1, none⟩ (.bool yh.flag)).setCell ⟨G, N * 9 + 2, none⟩ (.bool yh.neg)).setCell ⟨G, N * 9 + 3, none⟩ (.string yh.dig)).setCell ⟨G, N * 9 + 4, none⟩ (.int .i64 yh.exp)).setCell ⟨G, N * 9 + 5, none⟩ (.int .u64 yh.bits)).setCell ⟨G, N * 9 + 6, none⟩ (.string yh.text)).setCell ⟨G, N * 9 + 7, none⟩ ns).setCell ⟨G, N * 9 + 8, none⟩ ls).setCell ⟨R, q, none⟩ (.slice (some ⟨G, 0, none⟩) (N + 1) c5)) = W' ∨ ((((((((((w5.setCell ⟨R, q, none⟩ (.slice (some ⟨G, 0, none⟩) (N + 1) c5)).setCell ⟨G, N * 9, none⟩ (.int .i64 yh.kind)).setCell ⟨G, N * 9 + 1, none⟩ (.bool yh.flag)).setCell ⟨G, N * 9 + 2, none⟩ (.bool yh.neg)).setCell ⟨G, N * 9 + 3, none⟩ (.string yh.dig)).setCell ⟨G, N * 9 + 4, none⟩ (.int .i64 yh.exp)).setCell ⟨G, N * 9 + 5, none⟩ (.int .u64 yh.bits)).setCell ⟨G, N * 9 + 6, none⟩ (.string yh.text)).setCell ⟨G, N * 9 + 7, none⟩ ns).setCell ⟨G, N * 9 + 8, none⟩ ls) = W') :
    Below w.heap.size w W' ∧ (∀ k, k < W.heap.size → some k ≠ (f q).ownBlock → k ≠ R → W'.heap[k]? = W.heap[k]?) ∧ ∃ f', CL m w W' R L f' (fun j => if j = q then cols q ++ [y] else cols j) := by
  have hG : R + 1 ≤ G ∧ G < w5.heap.size := World.ownsRow.lt hown G rfl
  have hsz := hz.size
  have hsz2 := hwW.size
  have hrow5 : w5.rowIs R 31 L f := h.row.of_block (by
    have h1 := h.row.lt
    rw [hg.block R (by omega) (fun e => by have := (World.ownsRow.lt hx _ e.symm).1; omega)]
    exact hz.block _ h1)
  obtain ⟨zf, har, _⟩ := vz_facts hown hx.1
  obtain ⟨ar, ar', k1, k2, k3, k4, k5, k6, k7⟩ := fin_ab w5 W' G N R q L f (.slice (some ⟨G, 0, none⟩) (N + 1) c5) _ _ _ _ _ _ _ _ _ har hrow5 (by omega) hW
  have hb5 : Below w.heap.size w w5 := (below_then hwW hz).grown hg (by omega) (fun k hk => by have := (World.ownsRow.lt hx k hk).1; omega)
  refine ⟨?_, ?_, _, CL.push h q hq y ns ls hy G N c5 xs z9 hN hx hall hz hg hown hat ar ar' k1 k2 k3 k4 (by rw [hyh]; exact k5) k6 k7⟩
  · rcases hW with hW | hW
    all_goals
      rw [← hW]
      iterate 10 (refine Below.setCell ?_ (by first | (show w.heap.size ≤ G; omega) | (show w.heap.size ≤ R; omega)) _)
      exact hb5
  · intro k hk hne hkR
    have hkG : k ≠ G := by
      rintro rfl
      rcases hat with q | q
      · exact hne q
      · omega
    rw [k7 k hkG hkR, hg.block k (by omega) hne, hz.block k hk]
theorem setCell_comm (W : World) (R q G o : Nat) (v b : Value) (h : R ≠ G) : (W.setCell ⟨R, q, none⟩ v).setCell ⟨G, o, none⟩ b = (W.setCell ⟨G, o, none⟩ b).setCell ⟨R, q, none⟩ v := by
  simp only [World.setCell]
  congr 1
  apply Array.ext
  · simp
  · intro i h1 h2
    simp only [Array.getElem_modify]
    by_cases e1 : R = i
    · subst e1
      have e2 : ¬ G = R := fun e => h e.symm
      simp [e2]
    · by_cases e2 : G = i
      · subst e2
        simp [e1]
      · simp [e1, e2]
end Go.Proofs.YtolmbjeinilhlaaDoor
