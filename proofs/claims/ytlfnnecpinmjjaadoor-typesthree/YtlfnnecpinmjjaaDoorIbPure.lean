/- Types, no program in sight: being part of oneself, going on, having the values. -/
import Derived.Test.YtlfnnecpinmjjaaDoorHzUnited
namespace Go.Proofs.YtlfnnecpinmjjaaDoor
open Go.RowKit Go.Maps
set_option linter.unusedSimpArgs false
set_option linter.unusedVariables false
theorem prt_refl : ∀ (n : Nat) (x : TT n), IsT n x → Prt n x x
  | 0, x, _ => Empty.elim x
  | n + 1, x, ⟨hf, hk⟩ => by
    refine Or.inr (Or.inr ⟨rfl, ?_⟩)
    by_cases h11 : x.1.kind = 11
    · exact Or.inl ⟨h11, fun i h1 h2 => ⟨i, h1, h2, rfl, prt_refl n _ (hk _ (List.getElem_mem h2))⟩⟩
    · exact Or.inr ⟨h11, rfl, rfl, fun i h1 h2 => prt_refl n _ (hk _ (List.getElem_mem h1))⟩
theorem prt_trans : ∀ (n : Nat) (x y z : TT n), Prt n x y → Prt n y z → Prt n x z
  | 0, x, _, _, _, _ => Empty.elim x
  | n + 1, x, y, z, hxy, hyz => by
    rcases hyz with h | ⟨h1, h2⟩ | ⟨e, hk⟩
    · exact Or.inl h
    · rcases hxy with q | ⟨_, q⟩ | ⟨q, _⟩
      · omega
      · omega
      · exact Or.inr (Or.inl ⟨by omega, h2⟩)
    · rcases hxy with q | ⟨q1, q2⟩ | ⟨e', hk'⟩
      · exact Or.inl (by omega)
      · exact Or.inr (Or.inl ⟨q1, by omega⟩)
      · refine Or.inr (Or.inr ⟨by omega, ?_⟩)
        rcases hk' with ⟨k1, p1⟩ | ⟨k1, nm1, p1⟩
        · rcases hk with ⟨k2, p2⟩ | ⟨k2, _⟩
          · refine Or.inl ⟨k1, fun i h1 h2 => ?_⟩
            obtain ⟨k, h3, h4, e1, e2⟩ := p1 i h1 h2
            obtain ⟨k', h5, h6, e3, e4⟩ := p2 k h3 h4
            exact ⟨k', h5, h6, e3.trans e1, prt_trans n _ _ _ e2 e4⟩
          · exact absurd (by omega) k2
        · rcases hk with ⟨k2, _⟩ | ⟨k2, nm2, p2⟩
          · exact absurd (by omega) k1
          · exact Or.inr ⟨k1, nm1.trans nm2, p1.1.trans p2.1, fun i h1 h2 => prt_trans n _ (y.2[i]'(by rw [← p1.1]; exact h1)) _ (p1.2 i h1 _) (p2.2 i _ h2)⟩
/-- What a part has, the whole has. -/
theorem in_mono : ∀ (n : Nat) (a b : TT n) (m : Nat) (v : VT m), Prt n a b → InT n a m v → InT n b m v
  | 0, a, _, _, _, _, _ => Empty.elim a
  | n + 1, _, _, 0, v, _, _ => Empty.elim v
  | n + 1, a, b, m + 1, v, hp, hv => by
    rcases hp with h | ⟨h1, h2⟩ | ⟨e, hk⟩
    · exact Or.inl ⟨by omega, Or.inl h⟩
    · have h3 : v.1.kind = 3 := by
        rcases hv with ⟨_, q⟩ | ⟨q, _⟩ | ⟨q, _⟩ | ⟨q, _⟩
        · rcases q with q | ⟨_, q, _⟩ | ⟨_, q, _⟩
          · omega
          · exact q
          · exact absurd h1 q
        · omega
        · omega
        · omega
      exact Or.inl ⟨by omega, Or.inr (Or.inr ⟨by omega, by omega, by rw [h2, h3]; rfl⟩)⟩
    · rcases hv with ⟨q1, q2⟩ | ⟨q1, q2, q3⟩ | ⟨q1, q2, q3, q4⟩ | ⟨q1, q2, i, h1, h2, q3, q4⟩
      · exact Or.inl ⟨by omega, by rw [← e]; exact q2⟩
      · rcases hk with ⟨k1, _⟩ | ⟨_, _, p⟩
        · omega
        · refine Or.inr (Or.inl ⟨by omega, q2, fun y hy u hu => ?_⟩)
          obtain ⟨i, hi, rfl⟩ := List.mem_iff_getElem.1 hu
          have hi' : i < a.2.length := by rw [p.1]; exact hi
          exact in_mono n _ _ m y (p.2 i hi' hi) (q3 y hy _ (List.getElem_mem hi'))
      · rcases hk with ⟨k1, _⟩ | ⟨_, nm, p⟩
        · omega
        · refine Or.inr (Or.inr (Or.inl ⟨by omega, q2, q3.trans nm, fun i h1 h2 => ?_⟩))
          have hi' : i < a.2.length := by rw [p.1]; exact h1
          exact in_mono n _ _ m _ (p.2 i hi' h1) (q4 i hi' h2)
      · rcases hk with ⟨_, p⟩ | ⟨k1, _⟩
        · obtain ⟨k, h3, h4, e1, e2⟩ := p i h1 h2
          exact Or.inr (Or.inr (Or.inr ⟨by omega, q2, k, h3, h4, e1.trans q3, fun y hy => in_mono n _ _ m y e2 (q4 y hy)⟩))
        · exact absurd q1 k1
/-- How the union of two stands to them. -/
structure UInv (n : Nat) (a b : TT (n + 1)) (i : Nat) (nm : List ByteArray) (ts : List (TT n)) : Prop where
  len : nm.length = ts.length
  fst : ∀ j (h1 : j < a.1.names.length) (h2 : j < a.2.length), ∃ (h3 : j < nm.length) (h4 : j < ts.length), nm[j] = a.1.names[j] ∧ Prt n a.2[j] ts[j]
  snd : ∀ k (h1 : k < b.1.names.length) (h2 : k < b.2.length), k < i → ∃ j, ∃ (h3 : j < nm.length) (h4 : j < ts.length), nm[j] = b.1.names[k] ∧ Prt n b.2[k] ts[j]
theorem us_inv {n : Nat} {a b : TT (n + 1)} (ta : IsT (n + 1) a) (tb : IsT (n + 1) b) (la : a.1.names.length = a.2.length) (lb : b.1.names.length = b.2.length) (nb : b.1.names.Nodup) :
    ∀ {i : Nat} {nm : List ByteArray} {ts : List (TT n)}, US n a b i nm ts → UInv n a b i nm ts
  | 0, nm, ts, h => by
    obtain ⟨rfl, rfl⟩ := h
    exact ⟨la, fun j h1 h2 => ⟨h1, h2, rfl, prt_refl n _ (ta.2 _ (List.getElem_mem h2))⟩, fun k _ _ h => by omega⟩
  | i + 1, nm, ts, ⟨nm0, ts0, h, k⟩ => by
    have ih := us_inv ta tb la lb nb h
    have hl := ih.len
    rcases k with ⟨s, y, e1, e2, _, rfl, rfl⟩ | ⟨j, s, x, y, e1, e2, e3, e4, rfl, hc⟩
    · obtain ⟨g1, rfl⟩ := List.getElem?_eq_some_iff.1 e1
      obtain ⟨g2, rfl⟩ := List.getElem?_eq_some_iff.1 e2
      refine ⟨by simp [hl], fun j h1 h2 => ?_, fun k h1 h2 hk => ?_⟩
      · obtain ⟨h3, h4, p1, p2⟩ := ih.fst j h1 h2
        exact ⟨by simp; omega, by simp; omega, by rw [List.getElem_append_left h3]; exact p1, by rw [List.getElem_append_left h4]; exact p2⟩
      · by_cases e : k = i
        · subst e
          exact ⟨nm0.length, by simp, by simp [hl], by simp, by rw [List.getElem_append_right (by omega)]; simp only [hl, Nat.sub_self, List.getElem_cons_zero]; exact prt_refl n _ (tb.2 _ (List.getElem_mem g2))⟩
        · obtain ⟨j, h3, h4, p1, p2⟩ := ih.snd k h1 h2 (by omega)
          exact ⟨j, by simp; omega, by simp; omega, by rw [List.getElem_append_left h3]; exact p1, by rw [List.getElem_append_left h4]; exact p2⟩
    · obtain ⟨g1, rfl⟩ := List.getElem?_eq_some_iff.1 e1
      obtain ⟨g2, rfl⟩ := List.getElem?_eq_some_iff.1 e2
      obtain ⟨g3, g3e⟩ := List.getElem?_eq_some_iff.1 e3
      obtain ⟨g4, rfl⟩ := List.getElem?_eq_some_iff.1 e4
      obtain ⟨z, hz, hzx, hzy⟩ : ∃ z, ts = ts0.set j z ∧ Prt n a.2[j] z ∧ Prt n b.2[i] z := by
        rcases hc with ⟨p, rfl⟩ | ⟨_, p, rfl⟩
        · exact ⟨_, rfl, prt_refl n _ (ta.2 _ (List.getElem_mem g4)), p⟩
        · exact ⟨_, rfl, p, prt_refl n _ (tb.2 _ (List.getElem_mem g2))⟩
      subst hz
      refine ⟨by simp [hl], fun j' h1 h2 => ?_, fun k h1 h2 hk => ?_⟩
      · obtain ⟨h3, h4, p1, p2⟩ := ih.fst j' h1 h2
        refine ⟨h3, by simp; exact h4, p1, ?_⟩
        by_cases e : j = j'
        · subst e; rw [List.getElem_set_self]; exact hzx
        · rw [List.getElem_set_ne e]; exact p2
      · obtain ⟨h3, h4, p1, p2⟩ := ih.fst j g3 g4
        by_cases e : k = i
        · subst e
          exact ⟨j, h3, by simp; exact h4, p1.trans g3e, by rw [List.getElem_set_self]; exact hzy⟩
        · obtain ⟨j', h5, h6, p3, p4⟩ := ih.snd k h1 h2 (by omega)
          have hne : j ≠ j' := by
            rintro rfl
            exact e ((List.getElem_inj nb).1 (p3.symm.trans (p1.trans g3e)))
          exact ⟨j', h5, by simp; exact h6, p3, by rw [List.getElem_set_ne hne]; exact p4⟩
/-- Both are part of their union. -/
theorem us_both {n : Nat} {a b : TT (n + 1)} (ka : a.1.kind = 11) (kb : b.1.kind = 11) (ta : IsT (n + 1) a) (tb : IsT (n + 1) b) {nm : List ByteArray} {ts : List (TT n)} (h : US n a b b.1.names.length nm ts) :
    Prt (n + 1) a (⟨11, nm⟩, ts) ∧ Prt (n + 1) b (⟨11, nm⟩, ts) := by
  obtain ⟨la, _⟩ := ta.1.eleven ka
  obtain ⟨lb, nb⟩ := tb.1.eleven kb
  have inv := us_inv ta tb la lb nb h
  refine ⟨Or.inr (Or.inr ⟨ka, Or.inl ⟨ka, fun i h1 h2 => ?_⟩⟩), Or.inr (Or.inr ⟨kb, Or.inl ⟨kb, fun i h1 h2 => ?_⟩⟩)⟩
  · obtain ⟨h3, h4, p1, p2⟩ := inv.fst i h1 h2
    exact ⟨i, h3, h4, p1, p2⟩
  · obtain ⟨j, h3, h4, p1, p2⟩ := inv.snd i h1 h2 h1
    exact ⟨j, h3, h4, p1, p2⟩
end Go.Proofs.YtlfnnecpinmjjaaDoor
