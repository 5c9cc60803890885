/- Merged by program: HwClone, HxRowsT, HyWider, HzUnited, IbPure. -/
import Derived.Test.YtolmbjeinilhlaaDoorZtHvCopied
/- slices.Clone of strings and of types: walked. -/
namespace Go.Proofs.YtolmbjeinilhlaaDoor
open Go.RowKit Go.Maps
set_option linter.unusedSimpArgs false
set_option linter.unusedVariables false
theorem eq_nilS (w : World) : Sem.run Tryd.prog (binOp .eql 23 (.slice none 0 0) (.slice none 0 0)) w = .ok (.bool true) w := by kernel_rfl
theorem eq_someS (ad : Addr) (n c : Nat) (w : World) : Sem.run Tryd.prog (binOp .eql 23 (.slice (some ad) n c) (.slice none 0 0)) w = .ok (.bool false) w := by kernel_rfl
theorem eq_nilT (w : World) : Sem.run Tryd.prog (binOp .eql 24 (.slice none 0 0) (.slice none 0 0)) w = .ok (.bool true) w := by kernel_rfl
theorem eq_someT (ad : Addr) (n c : Nat) (w : World) : Sem.run Tryd.prog (binOp .eql 24 (.slice (some ad) n c) (.slice none 0 0)) w = .ok (.bool false) w := by kernel_rfl
section
variable {w : World} {ops : Array Oper} {rest : List Oper} {o : Oper} {a : Act} {Q : Exit → Act → World → Prop}
theorem app_S (hgd : o.guard = none) (s x : Operand) (ho : o.op = .call { callee := .builtin .append, args := #[s, x], argTypes := #[23, 23] })
    (w0 : World) (hb : w = w0.alloc (.cells #[] 9)) (hs : a.eval s = .slice (some ⟨w0.heap.size, 0, none⟩) 0 0) (ad : Addr) (n cn : Nat) (l : List ByteArray) (hx : a.eval x = .slice (some ad) n cn) (hn : l.length = n) (hl : NL w0 (.slice (some ad) n cn) l) (hm : n ≤ 200000)
    (h : ∀ av c' w', Hid (OwnS w' w0.heap.size (.slice av n c') l) → Hid (Below w0.heap.size w0 w') → wpList Tryd.prog ops Q rest (a.put o.dst (.slice av n c')) w') : wpList Tryd.prog ops Q (o :: rest) a w := by
  obtain ⟨i0, hi, hz0, hz1, hz2⟩ := info_parts info9
  have hown : w.ownsRow w0.heap.size 9 1 (.slice (some ⟨w0.heap.size, 0, none⟩) 0 0) 0 [] := ⟨rfl, Or.inr ⟨w0.heap.size, 0, #[], rfl, Nat.le_refl _, by rw [hb]; exact heap_alloc_last w0 _, Nat.le_refl _, by decide, rfl, rfl⟩⟩
  have hlw : NL w (.slice (some ad) n cn) l := by rw [hb]; exact hl.below (below_al (Below.refl _ _))
  refine wpList_append_own_at w hgd s x 23 ho w0.heap.size 9 i0 (.string ⟨#[]⟩) 1 16 Tryd.underlying23 hi hz0 hz1 hz2 rfl (by decide) _ 0 [] hs hown ad n cn (scs l) hx (by rw [scs_length, hn]; simp) (NL.news hlw (b := 0) (o := 0) (sp := 0)) (scs_one _) (by unfold maxLen; omega) (by omega) (by rw [hb]; simp) ?_
  intro v' w' h1 h2 h3 _
  simp only [Nat.zero_add, List.nil_append] at h1
  have h1' : OwnS w' w0.heap.size v' l := by unfold OwnS; rw [hn]; exact h1
  have hb' : Below w0.heap.size w0 w' := (show Below w0.heap.size w0 w by rw [hb]; exact below_al (Below.refl _ _)).grown h2 (by rw [hb]; simp) (fun k hk => by cases hk; exact Nat.le_refl _)
  rcases h1.2 with ⟨rfl, e⟩ | ⟨g, cap, cur, rfl, _⟩
  · subst e; exact h none 0 w' h1' hb'
  · exact h _ _ w' h1' hb'
end
set_option maxHeartbeats 1000000 in
set_option maxRecDepth 100000 in
theorem cloneS_any (v : Value) (l : List ByteArray) (w : World) (hv : NL w v l) (hl : l.length ≤ 200000) :
    Calls Tryd.prog 77 #[v] w fun e w' => ∃ a c, e = .returned (.slice a l.length c) ∧ Hid (OwnS w' w.heap.size (.slice a l.length c) l) ∧ Below w.heap.size w w' := by
  obtain ⟨av, cv, rfl, hv1, hv2⟩ := hv.len
  have hv := hide hv
  cases av with
  | none =>
    have h0 : l = [] ∧ cv = 0 := by
      rcases hv.out with ⟨e2, e⟩ | ⟨_, _, _, _, e, _⟩
      · simp only [Value.slice.injEq] at e2; exact ⟨e, e2.2.2⟩
      · cases e
    obtain ⟨rfl, rfl⟩ := h0
    have he := eq_nilS
    go_enter Tryd.func77, Tryd.ntmps77
    go_wp2_with fail
    go_ret
    exact ⟨none, 0, rfl, World.ownsRow_nil _ _ _ _, Below.refl _ _⟩
  | some ad =>
    have he := eq_someS ad l.length cv
    go_enter Tryd.func77, Tryd.ntmps77
    go_wp2_with (at_builtin; refine app_S rfl (.tmp 5) (.tmp 6) rfl w rfl rfl ad l.length cv l rfl rfl hv.out hl ?_; intro av c' w1 ho1 hb1)
    go_ret
    exact ⟨av, c', rfl, ho1.out, hb1.out⟩
end Go.Proofs.YtolmbjeinilhlaaDoor
/- Rows of types of the call's own; slices.Clone of types, types.wider: walked. -/
namespace Go.Proofs.YtolmbjeinilhlaaDoor
open Go.RowKit Go.Maps
set_option linter.unusedSimpArgs false
set_option linter.unusedVariables false
/-- A slice of types of the call's own (from block B on), its elements' parts lying in w0. -/
def OT (m : Nat) (w0 W : World) (B : Nat) (v : Value) (l : List (TT m)) : Prop := ∃ xs, W.ownsRow B 26 3 v l.length xs ∧ ∀ j (h : j < l.length), ∃ ns ls, RT m w0 l[j] ns ls ∧ ∀ r u, (tvs (thd m l[j]) ns ls).toList[r]? = some u → xs[j * 3 + r]? = some u
theorem OT.nil {m : Nat} {w0 W : World} {B : Nat} : OT m w0 W B (.slice none 0 0) [] := ⟨[], World.ownsRow_nil _ _ _ _, fun j h => by simp at h⟩
theorem OT.vl {m : Nat} {w0 W : World} {B : Nat} {v : Value} {l : List (TT m)} (h : OT m w0 W B v l) (hb : Below w0.heap.size w0 W) : TL m W v l := by
  obtain ⟨xs, hx, hall⟩ := h
  have hr := World.ownsRow.lt hx
  have hx2 := hx
  obtain ⟨h0, h1⟩ := hx
  rcases h1 with ⟨rfl, e⟩ | ⟨g, cap, cur, rfl, k1, k2, k3, k4, k5, k6⟩
  · exact Or.inl ⟨rfl, List.eq_nil_of_length_eq_zero e⟩
  · refine Or.inr ⟨g, 0, cap, none, rfl, k3, k4, fun _ => ⟨rfl, (hr g rfl).2⟩, fun i hi => ?_⟩
    obtain ⟨ns, ls, q1, q2⟩ := hall i hi
    refine ⟨ns, ls, ?_, q1.below hb⟩
    intro r u hru
    have hq := q2 r u hru
    have hlt := (List.getElem?_eq_some_iff.1 hq).1
    rw [Nat.zero_add, World.ownsRow.cellAt hx2 _ (by rw [h0] at hlt; exact hlt)]
    exact hq
theorem OT.keep {m : Nat} {w0 W W1 : World} {B : Nat} {v : Value} {l : List (TT m)} (h : OT m w0 W B v l) (hb : ∀ k, v.ownBlock = some k → k < W.heap.size → W1.heap[k]? = W.heap[k]?) : OT m w0 W1 B v l := by
  obtain ⟨xs, hx, hall⟩ := h
  exact ⟨xs, ownsRow_of hx hb, hall⟩
theorem OT.below {m : Nat} {w0 W W1 : World} {B : Nat} {v : Value} {l : List (TT m)} (h : OT m w0 W B v l) (hb : Below W.heap.size W W1) : OT m w0 W1 B v l := h.keep fun k _ hk => hb.block k hk
theorem OT.lt {m : Nat} {w0 W : World} {B : Nat} {v : Value} {l : List (TT m)} (h : OT m w0 W B v l) : ∀ g, v.ownBlock = some g → B ≤ g ∧ g < W.heap.size := by
  obtain ⟨xs, hx, _⟩ := h
  exact World.ownsRow.lt hx
/-- The cells of a slice of types. -/
theorem TL.news {m : Nat} {w : World} {ad : Addr} {n c : Nat} {l : List (TT m)} (h : TL m w (.slice (some ad) n c) l) (hn : l.length = n) :
    ∃ news : List Value, news.length = n * 3 ∧ (∀ j u, news[j]? = some u → w.cell? (ad.add j) = some u) ∧ (∀ u ∈ news, u.oneCell' = true) ∧ ∀ j (h : j < l.length), ∃ ns ls, RT m w l[j] ns ls ∧ ∀ r u, (tvs (thd m l[j]) ns ls).toList[r]? = some u → news[j * 3 + r]? = some u := by
  rcases h with ⟨e, _⟩ | ⟨b, o, c, sp, e, h1, h2, h3, hc⟩
  · cases e
  · simp only [Value.slice.injEq, Option.some.injEq] at e
    obtain ⟨rfl, e2, rfl⟩ := e
    simp only at h3 hc e2
    have hcell : ∀ j, j < n * 3 → ∃ q r, j = q * 3 + r ∧ r < 3 ∧ q < l.length := fun j hj => ⟨j / 3, j % 3, by omega, by omega, by omega⟩
    have hg : ∀ j, j < n * 3 → ∃ u, w.cell? ⟨b, o + j, none⟩ = some u ∧ u.oneCell' = true := by
      intro j hj
      obtain ⟨q, r, rfl, hr, hq⟩ := hcell j hj
      obtain ⟨ns, ls, k1, k2⟩ := hc q hq
      obtain ⟨x1, x2, x3, y1, y2, y3, rfl, rfl⟩ := k2.shape
      have hv : ∃ u, (tvs (thd m l[q]) (.slice x1 x2 x3) (.slice y1 y2 y3)).toList[r]? = some u ∧ u.oneCell' = true := by
        match r, hr with
        | 0, _ => exact ⟨_, rfl, rfl⟩
        | 1, _ => exact ⟨_, rfl, rfl⟩
        | 2, _ => exact ⟨_, rfl, rfl⟩
      obtain ⟨u, hu, ho⟩ := hv
      exact ⟨u, by rw [← Nat.add_assoc]; exact k1 r u hu, ho⟩
    have hsp : n = 0 ∨ sp = none := by
      by_cases h0 : 0 < l.length
      · exact Or.inr (h3 h0).1
      · exact Or.inl (by omega)
    refine ⟨(List.range (n * 3)).map fun j => (w.cell? ⟨b, o + j, none⟩).getD undef, by simp, ?_, ?_, ?_⟩
    · intro j u hj
      simp only [List.getElem?_map, Option.map_eq_some_iff] at hj
      obtain ⟨j', hj', rfl⟩ := hj
      obtain ⟨hlt, e⟩ := List.getElem?_eq_some_iff.1 hj'
      simp only [List.length_range] at hlt
      simp only [List.getElem_range] at e
      subst e
      obtain ⟨u, hu, _⟩ := hg j hlt
      rcases hsp with h0 | rfl
      · omega
      · rw [show (⟨b, o, none⟩ : Addr).add j = ⟨b, o + j, none⟩ by unfold Addr.add; split <;> simp_all, hu]; rfl
    · intro u hu
      simp only [List.mem_map, List.mem_range] at hu
      obtain ⟨j, hj, rfl⟩ := hu
      obtain ⟨u, hu, ho⟩ := hg j hj
      rw [hu]; exact ho
    · intro j hj
      obtain ⟨ns, ls, k1, k2⟩ := hc j hj
      refine ⟨ns, ls, k2, fun r u hu => ?_⟩
      have hr9 : r < 3 := (List.getElem?_eq_some_iff.1 hu).1
      have := k1 r u hu
      rw [List.getElem?_map, List.getElem?_range (by omega), Option.map_some, ← Nat.add_assoc, this]; rfl
theorem OT.app {m : Nat} {w0 W : World} {B n : Nat} {v' : Value} {l l2 : List (TT m)} {xs news : List Value} (hx : xs.length = l.length * 3)
    (h1 : ∀ j (h : j < l.length), ∃ ns ls, RT m w0 l[j] ns ls ∧ ∀ r u, (tvs (thd m l[j]) ns ls).toList[r]? = some u → xs[j * 3 + r]? = some u)
    (h2 : ∀ j (h : j < l2.length), ∃ ns ls, RT m w0 l2[j] ns ls ∧ ∀ r u, (tvs (thd m l2[j]) ns ls).toList[r]? = some u → news[j * 3 + r]? = some u)
    (h : W.ownsRow B 26 3 v' n (xs ++ news)) (hn : l.length + l2.length = n) : OT m w0 W B v' (l ++ l2) := by
  refine ⟨xs ++ news, by rw [List.length_append, hn]; exact h, fun j hj => ?_⟩
  rw [List.length_append] at hj
  by_cases hjl : j < l.length
  · obtain ⟨ns, ls, q1, q2⟩ := h1 j hjl
    refine ⟨ns, ls, ?_, fun r u hu => ?_⟩
    · rw [List.getElem_append_left hjl]; exact q1
    · have := q2 r u (by rw [List.getElem_append_left hjl] at hu; exact hu)
      rw [List.getElem?_append_left ((List.getElem?_eq_some_iff.1 this).1)]
      exact this
  · obtain ⟨ns, ls, q1, q2⟩ := h2 (j - l.length) (by omega)
    refine ⟨ns, ls, ?_, fun r u hu => ?_⟩
    · rw [List.getElem_append_right (by omega)]; exact q1
    · have := q2 r u (by rw [List.getElem_append_right (by omega)] at hu; exact hu)
      rw [List.getElem?_append_right (by omega), hx, show j * 3 + r - l.length * 3 = (j - l.length) * 3 + r by omega]
      exact this
section
variable {w : World} {ops : Array Oper} {rest : List Oper} {o : Oper} {a : Act} {Q : Exit → Act → World → Prop}
/-- append(s, l2...). -/
theorem app_ts (hgd : o.guard = none) (s x : Operand) (ho : o.op = .call { callee := .builtin .append, args := #[s, x], argTypes := #[24, 24] })
    (m : Nat) (w0 : World) (B : Nat) (av : Option Addr) (N cv : Nat) (l : List (TT m)) (hs : a.eval s = .slice av N cv) (hN : Hid (l.length = N)) (hown : Hid (OT m w0 w B (.slice av N cv) l)) (an : Option Addr) (n cn : Nat) (l2 : List (TT m)) (hx : a.eval x = .slice an n cn) (hn : Hid (l2.length = n)) (hl : Hid (TL m w0 (.slice an n cn) l2)) (hb : Hid (Below w0.heap.size w0 w)) (hm : Hid (N + n ≤ 200000)) (hB : Hid (B ≤ w.heap.size))
    (h : ∀ av' c' w', Hid (OT m w0 w' B (.slice av' (N + n) c') (l ++ l2)) → Hid (w.grownBy w' (Value.slice av N cv).ownBlock) → wpList Tryd.prog ops Q rest (a.put o.dst (.slice av' (N + n) c')) w') : wpList Tryd.prog ops Q (o :: rest) a w := by
  obtain ⟨i0, hi, hz0, hz1, hz2⟩ := info_parts infoTT
  have hN := hN.out
  have hn := hn.out
  have hm := hm.out
  cases an with
  | none =>
    have hn0 : n = 0 ∧ cn = 0 ∧ l2 = [] := by
      rcases hl.out with ⟨e, e2⟩ | ⟨_, _, _, _, e, _⟩
      · simp only [Value.slice.injEq] at e; exact ⟨e.2.1, e.2.2, e2⟩
      · cases e
    obtain ⟨rfl, rfl, rfl⟩ := hn0
    obtain ⟨xs, hxs, hall⟩ := hown
    refine wpList_plain hgd fun K hK => ?_
    have hr := run_append_owned_none (P := Tryd.prog) w B 24 o.type 26 i0 3 Tryd.underlying24 hi _ _ _ hxs
    unfold Oper.wp execOp
    simp only [ho, resolve, invoke, builtin, Sem.run_bind, Sem.run_pure, Result.andThen_ok, List.map_toArray, List.map_cons, List.map_nil, hs, hx, hr]
    refine hK _ _ (h av cv w ?_ ?_)
    · exact (show OT m w0 w B (.slice av N cv) (l ++ []) by rw [List.append_nil]; exact ⟨xs, hxs, hall⟩)
    · exact ⟨rfl, rfl, rfl, Nat.le_refl _, fun _ _ _ => rfl⟩
  | some ad =>
    obtain ⟨news, k1, k2, k3, k4⟩ := TL.news hl.out hn
    obtain ⟨xs, hxs, hall⟩ := hown
    have hxs' := hxs
    rw [hN] at hxs
    refine wpList_append_own_at w hgd s x 24 ho B 26 i0 _ 3 56 Tryd.underlying24 hi hz0 hz1 hz2 rfl (by decide) _ N xs hs hxs ad n cn news hx k1 ?_ k3 ?_ ?_ hB ?_
    · intro j u hj
      have hc := k2 j u hj
      have hjl := (List.getElem?_eq_some_iff.1 hj).1
      have hl2 : 0 < l2.length := by omega
      rcases hl.out with ⟨e, _⟩ | ⟨b, oo, c, sp, e, h1, h2, h3, _⟩
      · cases e
      · have hbb := (h3 hl2).2
        simp only [Value.slice.injEq, Option.some.injEq] at e
        obtain ⟨rfl, _, _⟩ := e
        refine (hb.out.cell (p := _) ?_).trans hc
        show (Addr.add _ _).block < _
        unfold Addr.add
        split <;> simpa using hbb
    · unfold maxLen; omega
    · omega
    · intro v' w' h1 h2 h3 h4
      have hov : OT m w0 w' B v' (l ++ l2) := OT.app (by rw [hxs'.1]) hall k4 h1 (by omega)
      rcases h1.2 with ⟨rfl, e⟩ | ⟨g', cap, cur, rfl, _⟩
      · obtain ⟨e1, e2⟩ := h3.1 rfl
        subst e2
        cases e1
        exact h none 0 w' hov h2
      · exact h _ _ w' hov h2
end
end Go.Proofs.YtolmbjeinilhlaaDoor
/- slices.Clone of types, types.wider: walked. -/
namespace Go.Proofs.YtolmbjeinilhlaaDoor
open Go.RowKit Go.Maps
set_option linter.unusedSimpArgs false
set_option linter.unusedVariables false
set_option maxHeartbeats 1000000 in
set_option maxRecDepth 100000 in
theorem cloneT_any (n : Nat) (v : Value) (l : List (TT n)) (w0 w : World) (hw0 : Below w0.heap.size w0 w) (hv : TL n w0 v l) (hl : l.length ≤ 200000) :
    Calls Tryd.prog 78 #[v] w fun e w' => ∃ a c, e = .returned (.slice a l.length c) ∧ Hid (OT n w0 w' w.heap.size (.slice a l.length c) l) ∧ Below w.heap.size w w' := by
  obtain ⟨av, cv, rfl, hv1, hv2⟩ := hv.len
  have hv := hide hv
  cases av with
  | none =>
    have h0 : l = [] ∧ cv = 0 := by
      rcases hv.out with ⟨e2, e⟩ | ⟨_, _, _, _, e, _⟩
      · simp only [Value.slice.injEq] at e2; exact ⟨e, e2.2.2⟩
      · cases e
    obtain ⟨rfl, rfl⟩ := h0
    have he := eq_nilT
    go_enter Tryd.func78, Tryd.ntmps78
    go_wp2_with fail
    go_ret
    exact ⟨none, 0, rfl, OT.nil, Below.refl _ _⟩
  | some ad =>
    have he := eq_someT ad l.length cv
    have h0 : Hid (OT n w0 (w.alloc (.cells #[] 26)) w.heap.size (.slice (some ⟨w.heap.size, 0, none⟩) 0 0) []) := ⟨[], ⟨rfl, Or.inr ⟨w.heap.size, 0, #[], rfl, Nat.le_refl _, heap_alloc_last w _, Nat.le_refl _, by decide, rfl, rfl⟩⟩, fun j h => by simp at h⟩
    have hb0 : Hid (Below w.heap.size w (w.alloc (.cells #[] 26))) := below_al (Below.refl _ _)
    have hbz : Hid (Below w0.heap.size w0 (w.alloc (.cells #[] 26))) := below_al hw0
    have hm : Hid (0 + l.length ≤ 200000) := by show _ ≤ _; omega
    have hB : Hid (w.heap.size ≤ (w.alloc (.cells #[] 26)).heap.size) := by show _ ≤ _; simp
    go_enter Tryd.func78, Tryd.ntmps78
    go_wp2_with (at_builtin; refine app_ts rfl (.tmp 5) (.tmp 6) rfl n w0 w.heap.size (some ⟨w.heap.size, 0, none⟩) 0 0 [] rfl rfl h0 (some ad) l.length cv l rfl rfl hv hbz hm hB ?_; intro av c' w1 ho1 hg1; rw [Nat.zero_add] at ho1 ⊢)
    go_ret
    refine ⟨av, c', rfl, ho1.out, ?_⟩
    exact hb0.out.grown hg1.out hB.out (fun k hk => by cases hk; exact Nat.le_refl _)
/-- What wider answers. -/
def widV (b1 b2 : Bool) (x y : Value) : Array Value := bif b1 then #[x, .bool true] else #[y, .bool b2]
set_option maxHeartbeats 2000000 in
set_option maxRecDepth 100000 in
theorem wider_any (n : Nat) (x y : TT n) (ns ls ns' ls' : Value) (w : World) (hx : RT n w x ns ls) (hy : RT n w y ns' ls') (zx : TSz n x) (zy : TSz n y) (tx : IsT n x) (ty : IsT n y) (b1 b2 : Bool) (h1 : b1 = true ↔ Prt n y x) (h2 : b2 = true ↔ Prt n x y) :
    Calls Tryd.prog 79 #[.agg (tvs (thd n x) ns ls), .agg (tvs (thd n y) ns' ls')] w fun e w' => e = .returned (.tuple (widV b1 b2 (.agg (tvs (thd n x) ns ls)) (.agg (tvs (thd n y) ns' ls')))) ∧ Below w.heap.size w w' := by
  obtain ⟨a1, m1, d1, a2, m2, d2, rfl, rfl⟩ := hx.shape
  obtain ⟨a3, m3, d3, a4, m4, d4, rfl, rfl⟩ := hy.shape
  have c1 := hide (fun W (hb : Below w.heap.size w W) => Calls.tb (part_ok n y x _ _ _ _ W (hy.below hb) (hx.below hb) zy zx ty tx) h1)
  have c2 := hide (fun W (hb : Below w.heap.size w W) => Calls.tb (part_ok n x y _ _ _ _ W (hx.below hb) (hy.below hb) zx zy tx ty) h2)
  obtain ⟨h, hh⟩ : ∃ h, thd n x = h := ⟨_, rfl⟩
  obtain ⟨k, hk⟩ : ∃ k, thd n y = k := ⟨_, rfl⟩
  rw [hh, hk] at c1 c2 ⊢
  clear hh hk hx hy zx zy tx ty h1 h2
  obtain ⟨W0, hW0⟩ : ∃ W0, ((w.alloc (.cells #[.int .i64 h.kind, .slice a1 m1 d1, .slice a2 m2 d2] 26)).alloc (.cells #[.int .i64 k.kind, .slice a3 m3 d3, .slice a4 m4 d4] 26)).alloc (.cells #[.int .i64 0, .slice none 0 0, .slice none 0 0] 26) = W0 := ⟨_, rfl⟩
  have hb0 : Hid (Below w.heap.size w W0) := by rw [← hW0]; exact below_al (below_al (below_al (Below.refl _ _)))
  have hX : Hid (Tx W0 w.heap.size h (.slice a1 m1 d1) (.slice a2 m2 d2)) := by rw [← hW0]; exact (tx_new w h _ _).below (below_al (below_al (Below.refl _ _)))
  have hY : Hid (Tx W0 (w.heap.size + 1) k (.slice a3 m3 d3) (.slice a4 m4 d4)) := by
    rw [← hW0]
    have := tx_new (w.alloc (.cells #[.int .i64 h.kind, .slice a1 m1 d1, .slice a2 m2 d2] 26)) k (.slice a3 m3 d3) (.slice a4 m4 d4)
    rw [World.size_alloc] at this
    exact this.below (below_al (Below.refl _ _))
  have hZ : Hid (ZT W0 (w.heap.size + 2)) := by
    rw [← hW0]
    have := heap_alloc_last ((w.alloc (.cells #[.int .i64 h.kind, .slice a1 m1 d1, .slice a2 m2 d2] 26)).alloc (.cells #[.int .i64 k.kind, .slice a3 m3 d3, .slice a4 m4 d4] 26)) (.cells #[.int .i64 0, .slice none 0 0, .slice none 0 0] 26)
    rw [World.size_alloc, World.size_alloc] at this
    exact this
  obtain ⟨x0, x1, x2⟩ := hX.out.cells
  obtain ⟨y0, y1, y2⟩ := hY.out.cells
  show Calls _ _ #[.agg #[.int .i64 h.kind, .slice a1 m1 d1, .slice a2 m2 d2], .agg #[.int .i64 k.kind, .slice a3 m3 d3, .slice a4 m4 d4]] _ _
  go_enter Tryd.func79, Tryd.ntmps79
  go_wp2_with fail
  refine (c1.out _ hb0.out).mono ?_
  rintro e w1 ⟨rfl, hb1⟩
  have hw1 := hide (below_then hb0.out hb1)
  have hX1 := hide (hX.out.below hb1)
  have hY1 := hide (hY.out.below hb1)
  have hZ1 := hide (hZ.out.below hb1)
  clear x0 x1 x2 y0 y1 y2 hW0 hb1 hb0
  obtain ⟨x0, x1, x2⟩ := hX1.out.cells
  obtain ⟨y0, y1, y2⟩ := hY1.out.cells
  obtain ⟨z0, z1, z2⟩ := hZ1.out.cells
  have zf := hZ1.out.frz
  cases b1
  · have call := hide (fun W (hW : Below w1.heap.size w1 W) => c2.out W (below_then hw1.out hW))
    simp only [tvs] at call
    go_wp2_with fail
    go_region_law (first | (go_simp; go_at_call 41; refine (call.out _ (by repeat (first | exact Below.refl _ _ | refine below_dr ?_ | refine below_dn ?_ _))).mono ?_; rintro e w2 ⟨rfl, hb2⟩; have T3 : Hid (Below w1.heap.size w1 w2) := (by first | exact below_then (below_dr (Below.refl _ _)) hb2 | exact hb2); obtain ⟨p0, p1, p2⟩ := (hY1.out.below T3.out).cells; obtain ⟨r0, r1, r2⟩ := (hZ1.out.below T3.out).cells; have rf := (hZ1.out.below T3.out).frz; clear hb2; dsimp only))
    all_goals
      go_wp2_with fail
      refine bodyPost_ret (v := .tuple #[.agg #[.int .i64 k.kind, .slice a3 m3 d3, .slice a4 m4 d4], .bool b2]) (by simp [results, Tryd.results79, go_sem, *]) rfl ⟨rfl, ?_⟩
      iterate 3 refine Below.setCell ?_ (by show w.heap.size ≤ w.heap.size + 2; omega) _
      exact below_then hw1.out T3.out
  · go_wp2_with fail
    refine bodyPost_ret (v := .tuple #[.agg #[.int .i64 h.kind, .slice a1 m1 d1, .slice a2 m2 d2], .bool true]) (by simp [results, Tryd.results79, go_sem, *]) rfl ⟨rfl, ?_⟩
    iterate 3 refine Below.setCell ?_ (by show w.heap.size ≤ w.heap.size + 2; omega) _
    exact hw1.out
end Go.Proofs.YtolmbjeinilhlaaDoor
/- types.united: what its walk leans on. -/
namespace Go.Proofs.YtolmbjeinilhlaaDoor
open Go.RowKit Go.Maps
set_option linter.unusedSimpArgs false
set_option linter.unusedVariables false
/-- One more of b's names is taken. -/
def Ust (n : Nat) (a b : TT (n + 1)) (i : Nat) (nm0 : List ByteArray) (ts0 : List (TT n)) (nm : List ByteArray) (ts : List (TT n)) : Prop :=
  (∃ (s : ByteArray) (y : TT n), b.1.names[i]? = some s ∧ b.2[i]? = some y ∧ s ∉ a.1.names ∧ nm = nm0 ++ [s] ∧ ts = ts0 ++ [y]) ∨
  (∃ (j : Nat) (s : ByteArray) (x y : TT n), b.1.names[i]? = some s ∧ b.2[i]? = some y ∧ a.1.names[j]? = some s ∧ a.2[j]? = some x ∧ nm = nm0 ∧ ((Prt n y x ∧ ts = ts0.set j x) ∨ (¬ Prt n y x ∧ Prt n x y ∧ ts = ts0.set j y)))
/-- What united holds when i of b's names are taken. -/
def US (n : Nat) (a b : TT (n + 1)) : Nat → List ByteArray → List (TT n) → Prop
  | 0, nm, ts => nm = a.1.names ∧ ts = a.2
  | i + 1, nm, ts => ∃ nm0 ts0, US n a b i nm0 ts0 ∧ Ust n a b i nm0 ts0 nm ts
/-- A name of both whose types are not part of one another. -/
def Ubad (n : Nat) (a b : TT (n + 1)) : Prop := ∃ (i j : Nat) (s : ByteArray) (x y : TT n), b.1.names[i]? = some s ∧ b.2[i]? = some y ∧ a.1.names[j]? = some s ∧ a.2[j]? = some x ∧ ¬ Prt n y x ∧ ¬ Prt n x y
theorem US.len {n : Nat} {a b : TT (n + 1)} : ∀ {i : Nat} {nm : List ByteArray} {ts : List (TT n)}, US n a b i nm ts → a.1.names.length = a.2.length → nm.length = ts.length ∧ a.2.length ≤ ts.length ∧ ts.length ≤ a.2.length + i
  | 0, nm, ts, h, e => by rw [h.1, h.2]; omega
  | i + 1, nm, ts, ⟨nm0, ts0, h, k⟩, e => by
    have ih := US.len h e
    rcases k with ⟨s, y, _, _, _, rfl, rfl⟩ | ⟨j, s, x, y, _, _, _, _, rfl, ⟨_, rfl⟩ | ⟨_, _, rfl⟩⟩
    · simp only [List.length_append, List.length_singleton]; omega
    · simp only [List.length_set]; omega
    · simp only [List.length_set]; omega
/-- Where united stands. -/
structure UI (n : Nat) (w0 w : World) (h g : Th) (an al bn bl' : Value) (V MB : Nat) (nm : List ByteArray) (ts : List (TT n)) (nv lv : Value) (W : World) : Prop where
  below : Below w.heap.size w W
  hV : w.heap.size + 3 ≤ V
  hM : w.heap.size + 3 ≤ MB
  box : Tx W V ⟨11, nm⟩ nv lv
  nrow : OwnS W (w.heap.size + 3) nv nm
  lrow : OT n w0 W (w.heap.size + 3) lv ts
  nne : nv.ownBlock ≠ some V
  lne : lv.ownBlock ≠ some V
  mp : MP W MB h.names
  ba : Tx W w.heap.size h an al
  bb : Tx W (w.heap.size + 1) g bn bl'
  bz : ZT W (w.heap.size + 2)
section
variable {n : Nat} {w0 w W : World} {h g : Th} {an al bn bl' : Value} {V MB : Nat} {nm : List ByteArray} {ts : List (TT n)} {nv lv : Value}
theorem MP.ne {b : Nat} {l : List ByteArray} (k : MP W b l) {c : Array Value} {t : TypeId} {fr : Nat × Nat} {q : Nat} (e : W.heap[q]? = some (.cells c t fr)) : b ≠ q := by
  rintro rfl
  obtain ⟨es, clock, h1, _⟩ := k
  rw [e] at h1
  cases h1
theorem ownBlock_at {B : Nat} {T : TypeId} {sz m : Nat} {v : Value} {xs : List Value} {q : Nat} (k : W.ownsRow B T sz v m xs) (e : v.ownBlock = some q) : ∃ c, W.heap[q]? = some (.cells c T (0, 0)) := by
  rcases k.2 with ⟨rfl, _⟩ | ⟨g1, cap, cur, rfl, _, hg, _⟩
  · cases e
  · cases e; exact ⟨cur, hg⟩
theorem UI.then {W1 : World} (k : UI n w0 w h g an al bn bl' V MB nm ts nv lv W) (hb : Below W.heap.size W W1) : UI n w0 w h g an al bn bl' V MB nm ts nv lv W1 :=
  ⟨below_then k.below hb, k.hV, k.hM, k.box.below hb, ownsRow_of k.nrow fun q _ hq => hb.block q hq, k.lrow.below hb, k.nne, k.lne, k.mp.below hb, k.ba.below hb, k.bb.below hb, k.bz.below hb⟩
/-- A name more. -/
theorem UI.name {w3 w4 : World} {nv' : Value} {s : ByteArray} (k : UI n w0 w h g an al bn bl' V MB nm ts nv lv W) (hb : Below W.heap.size W w3) (hg : w3.grownBy w4 nv.ownBlock) (ho : w4.ownsRow (w.heap.size + 3) 9 1 nv' (nm.length + 1) (scs nm ++ [.string s])) (hat : nv'.ownBlock = nv.ownBlock ∨ nv'.ownBlock = some w3.heap.size) :
    UI n w0 w h g an al bn bl' V MB (nm ++ [s]) ts nv' lv (w4.setCell ⟨V, 1, none⟩ nv') ∧ Tx w4 V ⟨11, nm⟩ nv lv := by
  have hz := hb.size
  have hVl := k.box.lt
  have hVb := k.hV
  have hnl := World.ownsRow.lt k.nrow
  have hol := World.ownsRow.lt ho
  obtain ⟨xs, hxs, hall⟩ := k.lrow
  have hll := World.ownsRow.lt hxs
  have old : ∀ q, q < W.heap.size → nv.ownBlock ≠ some q → w4.heap[q]? = W.heap[q]? := fun q q1 q2 => (hg.block q (by omega) (fun e => q2 e.symm)).trans (hb.block q q1)
  have bx : Tx w4 V ⟨11, nm⟩ nv lv := ⟨(old V hVl k.nne).trans k.box.at_⟩
  have nne' : nv'.ownBlock ≠ some V := by
    rcases hat with q | q
    · rw [q]; exact k.nne
    · rw [q]; intro e; have : w3.heap.size = V := by simpa using e
      omega
  have hMl := k.mp.lt
  have hMV := k.mp.ne k.box.at_
  have hMn : nv.ownBlock ≠ some MB := fun e => by obtain ⟨c, hc⟩ := ownBlock_at k.nrow e; exact k.mp.ne hc rfl
  have low : ∀ q, q < w.heap.size + 3 → nv.ownBlock ≠ some q := fun q hq e => by have := (hnl q e).1; omega
  have hbl := k.below.size
  have keep : ∀ q, q < W.heap.size → nv.ownBlock ≠ some q → q ≠ V → (w4.setCell ⟨V, 1, none⟩ nv').heap[q]? = W.heap[q]? := fun q q1 q2 q3 => by rw [heap_set_ne q3]; exact old q q1 q2
  refine ⟨⟨?_, k.hV, k.hM, ?_, ?_, ?_, nne', k.lne, k.mp.of_block (keep MB hMl hMn hMV), ⟨?_⟩, ⟨?_⟩, ?_⟩, bx⟩
  · exact ((below_then k.below hb).grown hg (by omega) fun q e => by have := (hnl q e).1; omega).setCell (by show w.heap.size ≤ V; omega) _
  · have := bx.set1 (u := nv')
    exact ⟨this.at_⟩
  · unfold OwnS
    rw [List.length_append, show scs (nm ++ [s]) = scs nm ++ [.string s] by simp [scs]]
    exact ownsRow_of ho fun q e _ => heap_set_ne (show q ≠ V from fun e2 => nne' (e2 ▸ e))
  · refine ⟨xs, ownsRow_of hxs fun q e hq => keep q hq (fun e1 => ?_) (fun e2 => k.lne (e2 ▸ e)), hall⟩
    exact rows_neT k.nrow hxs e1 e
  · rw [keep _ k.ba.lt (low _ (by omega)) (by omega)]; exact k.ba.at_
  · rw [keep _ k.bb.lt (low _ (by omega)) (by omega)]; exact k.bb.at_
  · exact (keep _ k.bz.lt (low _ (by omega)) (by omega)).trans k.bz
/-- A type more. -/
theorem UI.push {w3 w4 : World} {lv' : Value} {y : TT n} {ns ls : Value} {xs : List Value} (k : UI n w0 w h g an al bn bl' V MB nm ts nv lv W) (hb : Below W.heap.size W w3) (hx : W.ownsRow (w.heap.size + 3) 26 3 lv ts.length xs)
    (hall : ∀ j (h : j < ts.length), ∃ ns ls, RT n w0 ts[j] ns ls ∧ ∀ r u, (tvs (thd n ts[j]) ns ls).toList[r]? = some u → xs[j * 3 + r]? = some u) (hy : RT n w0 y ns ls)
    (hg : w3.grownBy w4 lv.ownBlock) (ho : w4.ownsRow (w.heap.size + 3) 26 3 lv' (ts.length + 1) (xs ++ (tvs (thd n y) ns ls).toList)) (hat : lv'.ownBlock = lv.ownBlock ∨ lv'.ownBlock = some w3.heap.size) :
    UI n w0 w h g an al bn bl' V MB nm (ts ++ [y]) nv lv' (w4.setCell ⟨V, 2, none⟩ lv') ∧ Tx w4 V ⟨11, nm⟩ nv lv := by
  have hz := hb.size
  have hVl := k.box.lt
  have hVb := k.hV
  have hnl := World.ownsRow.lt k.nrow
  have hll := World.ownsRow.lt hx
  have old : ∀ q, q < W.heap.size → lv.ownBlock ≠ some q → w4.heap[q]? = W.heap[q]? := fun q q1 q2 => (hg.block q (by omega) (fun e => q2 e.symm)).trans (hb.block q q1)
  have bx : Tx w4 V ⟨11, nm⟩ nv lv := ⟨(old V hVl k.lne).trans k.box.at_⟩
  have lne' : lv'.ownBlock ≠ some V := by
    rcases hat with q | q
    · rw [q]; exact k.lne
    · rw [q]; intro e; have : w3.heap.size = V := by simpa using e
      omega
  have hMl := k.mp.lt
  have hMV := k.mp.ne k.box.at_
  have hMn : lv.ownBlock ≠ some MB := fun e => by obtain ⟨c, hc⟩ := ownBlock_at hx e; exact k.mp.ne hc rfl
  have low : ∀ q, q < w.heap.size + 3 → lv.ownBlock ≠ some q := fun q hq e => by have := (hll q e).1; omega
  have hbl := k.below.size
  have keep : ∀ q, q < W.heap.size → lv.ownBlock ≠ some q → q ≠ V → (w4.setCell ⟨V, 2, none⟩ lv').heap[q]? = W.heap[q]? := fun q q1 q2 q3 => by rw [heap_set_ne q3]; exact old q q1 q2
  refine ⟨⟨?_, k.hV, k.hM, bx.set2, ?_, ?_, k.nne, lne', k.mp.of_block (keep MB hMl hMn hMV), ⟨?_⟩, ⟨?_⟩, ?_⟩, bx⟩
  · exact ((below_then k.below hb).grown hg (by omega) fun q e => by have := (hll q e).1; omega).setCell (by show w.heap.size ≤ V; omega) _
  · exact ownsRow_of k.nrow fun q e hq => keep q hq (fun e1 => rows_neT k.nrow hx e e1) (fun e2 => k.nne (e2 ▸ e))
  · have ho' := ownsRow_of ho (W1 := w4.setCell ⟨V, 2, none⟩ lv') fun q e _ => heap_set_ne (show q ≠ V from fun e2 => lne' (e2 ▸ e))
    refine OT.app (l2 := [y]) (by rw [hx.1]) hall (fun j hj => ?_) ho' (by simp)
    have hj0 : j = 0 := by have : j < 1 := hj; omega
    subst hj0
    exact ⟨ns, ls, hy, fun r u hu => by simpa using hu⟩
  · rw [keep _ k.ba.lt (low _ (by omega)) (by omega)]; exact k.ba.at_
  · rw [keep _ k.bb.lt (low _ (by omega)) (by omega)]; exact k.bb.at_
  · exact (keep _ k.bz.lt (low _ (by omega)) (by omega)).trans k.bz
theorem set_three (w : World) (G o : Nat) (T : TypeId) (ar : Array Value) (b0 b1 b2 : Value) (hg : w.heap[G]? = some (.cells ar T (0, 0))) (ho : o + 3 ≤ ar.size) (W : World) (hW : (((w.setCell ⟨G, o, none⟩ b0).setCell ⟨G, o + 1, none⟩ b1).setCell ⟨G, o + 2, none⟩ b2) = W) :
    ∃ ar' : Array Value, W.heap[G]? = some (.cells ar' T (0, 0)) ∧ ar'.size = ar.size ∧ (∀ j, j < o ∨ o + 3 ≤ j → ar'[j]? = ar[j]?) ∧ (∀ (j : Nat) v, (#[b0, b1, b2] : Array Value)[j]? = some v → ar'[o + j]? = some v) ∧ ∀ k, k ≠ G → W.heap[k]? = w.heap[k]? := by
  have h0 := set_heap9 _ G (o) _ T b0 hg
  have h1 := set_heap9 _ G (o + 1) _ T b1 h0.1
  have h2 := set_heap9 _ G (o + 2) _ T b2 h1.1
  rw [hW] at h2
  refine ⟨_, h2.1, by simp, fun j hj => ?_, fun j v hj => ?_, fun k hk => ?_⟩
  · simp only [Array.getElem?_setIfInBounds, Array.size_setIfInBounds]
    iterate 3 rw [if_neg (by omega)]
  · have hj3 : j < 3 := (Array.getElem?_eq_some_iff.1 hj).1
    simp only [Array.getElem?_setIfInBounds, Array.size_setIfInBounds]
    match j, hj3 with
    | 0, _ => rw [if_neg (by omega)]; rw [if_neg (by omega)]; rw [if_pos (by omega), if_pos (by omega)]; exact hj
    | 1, _ => rw [if_neg (by omega)]; rw [if_pos (by omega), if_pos (by omega)]; exact hj
    | 2, _ => rw [if_pos (by omega), if_pos (by omega)]; exact hj
  · rw [h2.2 k hk, h1.2 k hk, h0.2 k hk]
/-- An element's cells. -/
theorem UI.elt (k : UI n w0 w h g an al bn bl' V MB nm ts nv lv W) (j : Nat) (hj : j < ts.length) : ∃ G c, lv = .slice (some ⟨G, 0, none⟩) ts.length c ∧ ts.length ≤ c ∧ c ≤ maxLen ∧ w.heap.size + 3 ≤ G ∧ G < W.heap.size ∧ (∀ r, W.frozen? ⟨G, r, none⟩ = false) ∧ ∃ u0 u1 u2, W.cell? ⟨G, j * 3, none⟩ = some u0 ∧ W.cell? ⟨G, j * 3 + 1, none⟩ = some u1 ∧ W.cell? ⟨G, j * 3 + 2, none⟩ = some u2 := by
  obtain ⟨xs, hxs, hall⟩ := k.lrow
  have hx2 := hxs
  have hll := World.ownsRow.lt hxs
  obtain ⟨h0, h1⟩ := hxs
  rcases h1 with ⟨_, e⟩ | ⟨G, cap, cur, rfl, k1, k2, k3, k4, k5, k6⟩
  · omega
  · have hc : ∀ r, r < 3 → W.cell? ⟨G, j * 3 + r, none⟩ = xs[j * 3 + r]? := fun r hr => World.ownsRow.cellAt hx2 _ (by omega)
    have hs : ∀ r, r < 3 → ∃ u, W.cell? ⟨G, j * 3 + r, none⟩ = some u := fun r hr => ⟨xs[j * 3 + r]'(by omega), by rw [hc r hr]; exact List.getElem?_eq_getElem _⟩
    obtain ⟨u0, e0⟩ := hs 0 (by omega)
    obtain ⟨u1, e1⟩ := hs 1 (by omega)
    obtain ⟨u2, e2⟩ := hs 2 (by omega)
    exact ⟨G, cap, rfl, k3, k4, k1, (hll G rfl).2, fun r => by simp [World.frozen?, k2], u0, u1, u2, e0, e1, e2⟩
/-- An element that is written over. -/
theorem UI.put {W' : World} {x : TT n} {xh : Th} {ns ls : Value} {G N c : Nat} (k : UI n w0 w h g an al bn bl' V MB nm ts nv (.slice (some ⟨G, 0, none⟩) N c) W) (j : Nat) (hj : j < ts.length) (hx : RT n w0 x ns ls) (hxh : thd n x = xh)
    (hW : (((W.setCell ⟨G, j * 3, none⟩ (.int .i64 xh.kind)).setCell ⟨G, j * 3 + 1, none⟩ ns).setCell ⟨G, j * 3 + 2, none⟩ ls) = W') :
    UI n w0 w h g an al bn bl' V MB nm (ts.set j x) nv (.slice (some ⟨G, 0, none⟩) N c) W' := by
  obtain ⟨xs, hxs, hall⟩ := k.lrow
  have hll := World.ownsRow.lt hxs
  have hG := hll G rfl
  have hMn := k.mp
  obtain ⟨h0, h1⟩ := hxs
  have hx0 : W.ownsRow (w.heap.size + 3) 26 3 (.slice (some ⟨G, 0, none⟩) N c) ts.length xs := ⟨h0, h1⟩
  rcases h1 with ⟨q, _⟩ | ⟨G', cap, cur, q, k1, k2, k3, k4, k5, k6⟩
  · cases q
  · simp only [Value.slice.injEq, Option.some.injEq, Addr.mk.injEq, and_true] at q
    obtain ⟨rfl, rfl, rfl⟩ := q
    have hsz : ts.length * 3 ≤ c * 3 := Nat.mul_le_mul_right 3 k3
    obtain ⟨ar', p1, p2, p3, p4, p5⟩ := set_three W G (j * 3) _ cur _ _ _ k2 (by omega) W' hW
    have hGV : G ≠ V := fun e => k.lne (by simp [Value.ownBlock, e])
    have hnG : ∀ q, nv.ownBlock = some q → q ≠ G := fun q e e2 => rows_neT k.nrow hx0 e (by rw [e2]; rfl)
    have hMG := k.mp.ne k2
    have hsz' : W.heap.size = W'.heap.size := by rw [← hW]; simp
    refine ⟨?_, k.hV, k.hM, ⟨(p5 V (fun e => hGV e.symm)).trans k.box.at_⟩, ownsRow_of k.nrow fun q e _ => p5 q (hnG q e), ?_, k.nne, k.lne, k.mp.of_block (p5 MB hMG), ⟨(p5 _ (by omega)).trans k.ba.at_⟩, ⟨(p5 _ (by omega)).trans k.bb.at_⟩, (p5 _ (by omega)).trans k.bz⟩
    · rw [← hW]
      iterate 3 (refine Below.setCell ?_ (by show w.heap.size ≤ G; omega) _)
      exact k.below
    · have hl' : (ar'.toList.take (ts.length * 3)).length = ts.length * 3 := by
        rw [List.length_take, show ar'.toList.length = ar'.size from Array.length_toList, p2, k5]
        exact Nat.min_eq_left hsz
      refine ⟨ar'.toList.take (ts.length * 3), ⟨by rw [hl', List.length_set], Or.inr ⟨G, c, ar', by rw [List.length_set], k1, p1, by rw [List.length_set]; exact k3, k4, by rw [p2, k5], by rw [List.length_set]⟩⟩, fun r hr => ?_⟩
      rw [List.length_set] at hr
      by_cases e : r = j
      · subst e
        refine ⟨ns, ls, by rw [List.getElem_set_self]; exact hx, fun t u hu => ?_⟩
        rw [List.getElem_set_self, hxh] at hu
        have ht3 : t < 3 := (List.getElem?_eq_some_iff.1 hu).1
        rw [List.getElem?_take, if_pos (by omega), Array.getElem?_toList]
        exact p4 t u (by rw [← Array.getElem?_toList]; exact hu)
      · have ej : j ≠ r := fun q => e q.symm
        obtain ⟨ns1, ls1, q1, q2⟩ := hall r hr
        refine ⟨ns1, ls1, by rw [List.getElem_set_ne ej]; exact q1, fun t u hu => ?_⟩
        rw [List.getElem_set_ne ej] at hu
        have ht3 : t < 3 := (List.getElem?_eq_some_iff.1 hu).1
        have hq := q2 t u hu
        rw [← k6, List.getElem?_take, if_pos (by omega), Array.getElem?_toList] at hq
        rw [List.getElem?_take, if_pos (by omega), Array.getElem?_toList, p3 _ (by omega)]
        exact hq
end
end Go.Proofs.YtolmbjeinilhlaaDoor
/- Types, no program in sight: being part of oneself, going on, having the values. -/
namespace Go.Proofs.YtolmbjeinilhlaaDoor
open Go.RowKit Go.Maps
set_option linter.unusedSimpArgs false
set_option linter.unusedVariables false
theorem prt_refl : ∀ (n : Nat) (x : TT n), IsT n x → Prt n x x
  | 0, x, _ => Empty.elim x
  | n + 1, x, ⟨hf, hk⟩ => by
    refine Or.inr (Or.inr ⟨rfl, ?_⟩)
    by_cases h11 : x.1.kind = 11
    · exact Or.inl ⟨h11, fun i h1 h2 => ⟨i, h1, h2, rfl, prt_refl n _ (hk _ (List.getElem_mem h2))⟩⟩
    · exact Or.inr ⟨h11, rfl, rfl, fun i h1 h2 => prt_refl n _ (hk _ (List.getElem_mem h1))⟩
theorem prt_trans : ∀ (n : Nat) (x y z : TT n), Prt n x y → Prt n y z → Prt n x z
  | 0, x, _, _, _, _ => Empty.elim x
  | n + 1, x, y, z, hxy, hyz => by
    rcases hyz with h | ⟨h1, h2⟩ | ⟨e, hk⟩
    · exact Or.inl h
    · rcases hxy with q | ⟨_, q⟩ | ⟨q, _⟩
      · omega
      · omega
      · exact Or.inr (Or.inl ⟨by omega, h2⟩)
    · rcases hxy with q | ⟨q1, q2⟩ | ⟨e', hk'⟩
      · exact Or.inl (by omega)
      · exact Or.inr (Or.inl ⟨q1, by omega⟩)
      · refine Or.inr (Or.inr ⟨by omega, ?_⟩)
        rcases hk' with ⟨k1, p1⟩ | ⟨k1, nm1, p1⟩
        · rcases hk with ⟨k2, p2⟩ | ⟨k2, _⟩
          · refine Or.inl ⟨k1, fun i h1 h2 => ?_⟩
            obtain ⟨k, h3, h4, e1, e2⟩ := p1 i h1 h2
            obtain ⟨k', h5, h6, e3, e4⟩ := p2 k h3 h4
            exact ⟨k', h5, h6, e3.trans e1, prt_trans n _ _ _ e2 e4⟩
          · exact absurd (by omega) k2
        · rcases hk with ⟨k2, _⟩ | ⟨k2, nm2, p2⟩
          · exact absurd (by omega) k1
          · exact Or.inr ⟨k1, nm1.trans nm2, p1.1.trans p2.1, fun i h1 h2 => prt_trans n _ (y.2[i]'(by rw [← p1.1]; exact h1)) _ (p1.2 i h1 _) (p2.2 i _ h2)⟩
/-- What a part has, the whole has. -/
theorem in_mono : ∀ (n : Nat) (a b : TT n) (m : Nat) (v : VT m), Prt n a b → InT n a m v → InT n b m v
  | 0, a, _, _, _, _, _ => Empty.elim a
  | n + 1, _, _, 0, v, _, _ => Empty.elim v
  | n + 1, a, b, m + 1, v, hp, hv => by
    rcases hp with h | ⟨h1, h2⟩ | ⟨e, hk⟩
    · exact Or.inl ⟨by omega, Or.inl h⟩
    · have h3 : v.1.kind = 3 := by
        rcases hv with ⟨_, q⟩ | ⟨q, _⟩ | ⟨q, _⟩ | ⟨q, _⟩
        · rcases q with q | ⟨_, q, _⟩ | ⟨_, q, _⟩
          · omega
          · exact q
          · exact absurd h1 q
        · omega
        · omega
        · omega
      exact Or.inl ⟨by omega, Or.inr (Or.inr ⟨by omega, by omega, by rw [h2, h3]; rfl⟩)⟩
    · rcases hv with ⟨q1, q2⟩ | ⟨q1, q2, q3⟩ | ⟨q1, q2, q3, q4⟩ | ⟨q1, q2, i, h1, h2, q3, q4⟩
      · exact Or.inl ⟨by omega, by rw [← e]; exact q2⟩
      · rcases hk with ⟨k1, _⟩ | ⟨_, _, p⟩
        · omega
        · refine Or.inr (Or.inl ⟨by omega, q2, fun y hy u hu => ?_⟩)
          obtain ⟨i, hi, rfl⟩ := List.mem_iff_getElem.1 hu
          have hi' : i < a.2.length := by rw [p.1]; exact hi
          exact in_mono n _ _ m y (p.2 i hi' hi) (q3 y hy _ (List.getElem_mem hi'))
      · rcases hk with ⟨k1, _⟩ | ⟨_, nm, p⟩
        · omega
        · refine Or.inr (Or.inr (Or.inl ⟨by omega, q2, q3.trans nm, fun i h1 h2 => ?_⟩))
          have hi' : i < a.2.length := by rw [p.1]; exact h1
          exact in_mono n _ _ m _ (p.2 i hi' h1) (q4 i hi' h2)
      · rcases hk with ⟨_, p⟩ | ⟨k1, _⟩
        · obtain ⟨k, h3, h4, e1, e2⟩ := p i h1 h2
          exact Or.inr (Or.inr (Or.inr ⟨by omega, q2, k, h3, h4, e1.trans q3, fun y hy => in_mono n _ _ m y e2 (q4 y hy)⟩))
        · exact absurd q1 k1
/-- How the union of two stands to them. -/
structure UInv (n : Nat) (a b : TT (n + 1)) (i : Nat) (nm : List ByteArray) (ts : List (TT n)) : Prop where
  len : nm.length = ts.length
  fst : ∀ j (h1 : j < a.1.names.length) (h2 : j < a.2.length), ∃ (h3 : j < nm.length) (h4 : j < ts.length), nm[j] = a.1.names[j] ∧ Prt n a.2[j] ts[j]
  snd : ∀ k (h1 : k < b.1.names.length) (h2 : k < b.2.length), k < i → ∃ j, ∃ (h3 : j < nm.length) (h4 : j < ts.length), nm[j] = b.1.names[k] ∧ Prt n b.2[k] ts[j]
theorem us_inv {n : Nat} {a b : TT (n + 1)} (ta : IsT (n + 1) a) (tb : IsT (n + 1) b) (la : a.1.names.length = a.2.length) (lb : b.1.names.length = b.2.length) (nb : b.1.names.Nodup) :
    ∀ {i : Nat} {nm : List ByteArray} {ts : List (TT n)}, US n a b i nm ts → UInv n a b i nm ts
  | 0, nm, ts, h => by
    obtain ⟨rfl, rfl⟩ := h
    exact ⟨la, fun j h1 h2 => ⟨h1, h2, rfl, prt_refl n _ (ta.2 _ (List.getElem_mem h2))⟩, fun k _ _ h => by omega⟩
  | i + 1, nm, ts, ⟨nm0, ts0, h, k⟩ => by
    have ih := us_inv ta tb la lb nb h
    have hl := ih.len
    rcases k with ⟨s, y, e1, e2, _, rfl, rfl⟩ | ⟨j, s, x, y, e1, e2, e3, e4, rfl, hc⟩
    · obtain ⟨g1, rfl⟩ := List.getElem?_eq_some_iff.1 e1
      obtain ⟨g2, rfl⟩ := List.getElem?_eq_some_iff.1 e2
      refine ⟨by simp [hl], fun j h1 h2 => ?_, fun k h1 h2 hk => ?_⟩
      · obtain ⟨h3, h4, p1, p2⟩ := ih.fst j h1 h2
        exact ⟨by simp; omega, by simp; omega, by rw [List.getElem_append_left h3]; exact p1, by rw [List.getElem_append_left h4]; exact p2⟩
      · by_cases e : k = i
        · subst e
          exact ⟨nm0.length, by simp, by simp [hl], by simp, by rw [List.getElem_append_right (by omega)]; simp only [hl, Nat.sub_self, List.getElem_cons_zero]; exact prt_refl n _ (tb.2 _ (List.getElem_mem g2))⟩
        · obtain ⟨j, h3, h4, p1, p2⟩ := ih.snd k h1 h2 (by omega)
          exact ⟨j, by simp; omega, by simp; omega, by rw [List.getElem_append_left h3]; exact p1, by rw [List.getElem_append_left h4]; exact p2⟩
    · obtain ⟨g1, rfl⟩ := List.getElem?_eq_some_iff.1 e1
      obtain ⟨g2, rfl⟩ := List.getElem?_eq_some_iff.1 e2
      obtain ⟨g3, g3e⟩ := List.getElem?_eq_some_iff.1 e3
      obtain ⟨g4, rfl⟩ := List.getElem?_eq_some_iff.1 e4
      obtain ⟨z, hz, hzx, hzy⟩ : ∃ z, ts = ts0.set j z ∧ Prt n a.2[j] z ∧ Prt n b.2[i] z := by
        rcases hc with ⟨p, rfl⟩ | ⟨_, p, rfl⟩
        · exact ⟨_, rfl, prt_refl n _ (ta.2 _ (List.getElem_mem g4)), p⟩
        · exact ⟨_, rfl, p, prt_refl n _ (tb.2 _ (List.getElem_mem g2))⟩
      subst hz
      refine ⟨by simp [hl], fun j' h1 h2 => ?_, fun k h1 h2 hk => ?_⟩
      · obtain ⟨h3, h4, p1, p2⟩ := ih.fst j' h1 h2
        refine ⟨h3, by simp; exact h4, p1, ?_⟩
        by_cases e : j = j'
        · subst e; rw [List.getElem_set_self]; exact hzx
        · rw [List.getElem_set_ne e]; exact p2
      · obtain ⟨h3, h4, p1, p2⟩ := ih.fst j g3 g4
        by_cases e : k = i
        · subst e
          exact ⟨j, h3, by simp; exact h4, p1.trans g3e, by rw [List.getElem_set_self]; exact hzy⟩
        · obtain ⟨j', h5, h6, p3, p4⟩ := ih.snd k h1 h2 (by omega)
          have hne : j ≠ j' := by
            rintro rfl
            exact e ((List.getElem_inj nb).1 (p3.symm.trans (p1.trans g3e)))
          exact ⟨j', h5, by simp; exact h6, p3, by rw [List.getElem_set_ne hne]; exact p4⟩
/-- Both are part of their union. -/
theorem us_both {n : Nat} {a b : TT (n + 1)} (ka : a.1.kind = 11) (kb : b.1.kind = 11) (ta : IsT (n + 1) a) (tb : IsT (n + 1) b) {nm : List ByteArray} {ts : List (TT n)} (h : US n a b b.1.names.length nm ts) :
    Prt (n + 1) a (⟨11, nm⟩, ts) ∧ Prt (n + 1) b (⟨11, nm⟩, ts) := by
  obtain ⟨la, _⟩ := ta.1.eleven ka
  obtain ⟨lb, nb⟩ := tb.1.eleven kb
  have inv := us_inv ta tb la lb nb h
  refine ⟨Or.inr (Or.inr ⟨ka, Or.inl ⟨ka, fun i h1 h2 => ?_⟩⟩), Or.inr (Or.inr ⟨kb, Or.inl ⟨kb, fun i h1 h2 => ?_⟩⟩)⟩
  · obtain ⟨h3, h4, p1, p2⟩ := inv.fst i h1 h2
    exact ⟨i, h3, h4, p1, p2⟩
  · obtain ⟨j, h3, h4, p1, p2⟩ := inv.snd i h1 h2 h1
    exact ⟨j, h3, h4, p1, p2⟩
end Go.Proofs.YtolmbjeinilhlaaDoor
