/- Merged by program: IiPure, IiUs. -/
import Derived.Test.YtolmbjeinilhlaaDoorZtIhM
/- The reference's Join and the program's give one type, no program in sight. -/
namespace Go.Proofs.YtolmbjeinilhlaaDoor
open Go.RowKit Go.Maps
set_option linter.unusedSimpArgs false
set_option linter.unusedVariables false
/-- z is the wider one of a's element j and what b's first i names give for its name. -/
def Wd (n : Nat) (a b : TT (n + 1)) (i j : Nat) (z : TT n) : Prop :=
  ∃ s x, a.1.names[j]? = some s ∧ a.2[j]? = some x ∧ (((∀ k, k < i → b.1.names[k]? ≠ some s) ∧ z = x) ∨ ∃ k y, k < i ∧ b.1.names[k]? = some s ∧ b.2[k]? = some y ∧ ((Prt n y x ∧ z = x) ∨ (¬ Prt n y x ∧ Prt n x y ∧ z = y)))
/-- What of b's first i names is new. -/
def New (n : Nat) (a b : TT (n + 1)) : Nat → List ByteArray → List (TT n) → Prop
  | 0, ns, ts => ns = [] ∧ ts = []
  | i + 1, ns, ts => ∃ ns0 ts0, New n a b i ns0 ts0 ∧ ((∃ s y, b.1.names[i]? = some s ∧ b.2[i]? = some y ∧ s ∉ a.1.names ∧ ns = ns0 ++ [s] ∧ ts = ts0 ++ [y]) ∨ (∃ s, b.1.names[i]? = some s ∧ s ∈ a.1.names ∧ ns = ns0 ∧ ts = ts0))
theorem New.fn {n : Nat} {a b : TT (n + 1)} : ∀ {i : Nat} {ns ns' : List ByteArray} {ts ts' : List (TT n)}, New n a b i ns ts → New n a b i ns' ts' → ns = ns' ∧ ts = ts'
  | 0, _, _, _, _, h, h' => ⟨h.1.trans h'.1.symm, h.2.trans h'.2.symm⟩
  | i + 1, _, _, _, _, ⟨n0, t0, h, k⟩, ⟨n1, t1, h', k'⟩ => by
    obtain ⟨rfl, rfl⟩ := New.fn h h'
    rcases k with ⟨s, y, e1, e2, e3, rfl, rfl⟩ | ⟨s, e1, e3, rfl, rfl⟩
    · rcases k' with ⟨s', y', e1', e2', e3', rfl, rfl⟩ | ⟨s', e1', e3', rfl, rfl⟩
      · rw [e1] at e1'; rw [e2] at e2'
        cases e1'; cases e2'
        exact ⟨rfl, rfl⟩
      · rw [e1] at e1'; cases e1'
        exact absurd e3' e3
    · rcases k' with ⟨s', y', e1', e2', e3', rfl, rfl⟩ | ⟨s', e1', e3', rfl, rfl⟩
      · rw [e1] at e1'; cases e1'
        exact absurd e3 e3'
      · exact ⟨rfl, rfl⟩
theorem nodup_at {l : List ByteArray} (h : l.Nodup) {i j : Nat} {s : ByteArray} (h1 : l[i]? = some s) (h2 : l[j]? = some s) : i = j := by
  obtain ⟨g1, e1⟩ := List.getElem?_eq_some_iff.1 h1
  obtain ⟨g2, e2⟩ := List.getElem?_eq_some_iff.1 h2
  exact (List.getElem_inj h).1 (e1.trans e2.symm)
theorem Wd.fn {n : Nat} {a b : TT (n + 1)} (nb : b.1.names.Nodup) {i j : Nat} {z z' : TT n} (h : Wd n a b i j z) (h' : Wd n a b i j z') : z = z' := by
  obtain ⟨s, x, e1, e2, k⟩ := h
  obtain ⟨s', x', e1', e2', k'⟩ := h'
  rw [e1] at e1'; rw [e2] at e2'
  cases e1'; cases e2'
  rcases k with ⟨q, rfl⟩ | ⟨i1, y, q1, q2, q3, q4⟩
  · rcases k' with ⟨q', rfl⟩ | ⟨i2, y', q1', q2', q3', q4'⟩
    · rfl
    · exact absurd q2' (q i2 q1')
  · rcases k' with ⟨q', rfl⟩ | ⟨i2, y', q1', q2', q3', q4'⟩
    · exact absurd q2 (q' i1 q1)
    · have e := nodup_at nb q2 q2'
      subst e
      rw [q3] at q3'
      cases q3'
      rcases q4 with ⟨p, rfl⟩ | ⟨p, _, rfl⟩
      · rcases q4' with ⟨p', rfl⟩ | ⟨p', _, rfl⟩
        · rfl
        · exact absurd p p'
      · rcases q4' with ⟨p', rfl⟩ | ⟨p', _, rfl⟩
        · exact absurd p' p
        · rfl
theorem us_new {n : Nat} {a b : TT (n + 1)} (la : a.1.names.length = a.2.length) (na : a.1.names.Nodup) :
    ∀ {i : Nat} {nm : List ByteArray} {ts : List (TT n)}, US n a b i nm ts → ∃ L ns' ts', nm = a.1.names ++ ns' ∧ ts = L ++ ts' ∧ L.length = a.2.length ∧ New n a b i ns' ts' ∧ ∀ j z, L[j]? = some z → Wd n a b i j z
  | 0, nm, ts, h => by
    obtain ⟨rfl, rfl⟩ := h
    refine ⟨a.2, [], [], by simp, by simp, rfl, ⟨rfl, rfl⟩, fun j z hz => ?_⟩
    obtain ⟨g, e⟩ := List.getElem?_eq_some_iff.1 hz
    exact ⟨a.1.names[j]'(by omega), z, List.getElem?_eq_getElem _, hz, Or.inl ⟨fun k hk => by omega, rfl⟩⟩
  | i + 1, nm, ts, ⟨nm0, ts0, h, k⟩ => by
    obtain ⟨L, ns', ts', rfl, rfl, hL, hN, hW⟩ := us_new la na h
    rcases k with ⟨s, y, e1, e2, e3, rfl, rfl⟩ | ⟨j0, s, x, y, e1, e2, e3, e4, rfl, hc⟩
    · refine ⟨L, ns' ++ [s], ts' ++ [y], by simp, by simp, hL, ⟨ns', ts', hN, Or.inl ⟨s, y, e1, e2, e3, rfl, rfl⟩⟩, fun j z hz => ?_⟩
      obtain ⟨s', x', q1, q2, q⟩ := hW j z hz
      refine ⟨s', x', q1, q2, ?_⟩
      rcases q with ⟨q, rfl⟩ | ⟨k, y', p1, p2, p3, p4⟩
      · refine Or.inl ⟨fun k hk e => ?_, rfl⟩
        by_cases ek : k = i
        · subst ek
          rw [e1] at e
          cases e
          exact e3 (List.mem_of_getElem? q1)
        · exact q k (by omega) e
      · exact Or.inr ⟨k, y', by omega, p2, p3, p4⟩
    · obtain ⟨g4, _⟩ := List.getElem?_eq_some_iff.1 e4
      obtain ⟨z0, hts, hz0⟩ : ∃ z0, ts = (L ++ ts').set j0 z0 ∧ ((Prt n y x ∧ z0 = x) ∨ (¬ Prt n y x ∧ Prt n x y ∧ z0 = y)) := by
        rcases hc with ⟨p, rfl⟩ | ⟨p, p2, rfl⟩
        · exact ⟨_, rfl, Or.inl ⟨p, rfl⟩⟩
        · exact ⟨_, rfl, Or.inr ⟨p, p2, rfl⟩⟩
      subst hts
      refine ⟨L.set j0 z0, ns', ts', rfl, by rw [List.set_append_left _ _ (by omega)], by simp [hL], ⟨ns', ts', hN, Or.inr ⟨s, e1, List.mem_of_getElem? e3, rfl, rfl⟩⟩, fun j z hz => ?_⟩
      by_cases ej : j0 = j
      · subst ej
        rw [List.getElem?_set_self (by omega)] at hz
        cases hz
        exact ⟨s, x, e3, e4, Or.inr ⟨i, y, by omega, e1, e2, hz0⟩⟩
      · rw [List.getElem?_set_ne ej] at hz
        obtain ⟨s', x', q1, q2, q⟩ := hW j z hz
        refine ⟨s', x', q1, q2, ?_⟩
        rcases q with ⟨q, rfl⟩ | ⟨k, y', p1, p2, p3, p4⟩
        · refine Or.inl ⟨fun k hk e => ?_, rfl⟩
          by_cases ek : k = i
          · subst ek
            rw [e1] at e
            cases e
            exact ej (nodup_at na e3 q1)
          · exact q k (by omega) e
        · exact Or.inr ⟨k, y', by omega, p2, p3, p4⟩
/-- What the reference's union holds at its end. -/
def RU (n : Nat) (a b : TT (n + 1)) (nm : List ByteArray) (ts : List (TT n)) : Prop :=
  ∃ L ns' ts', nm = a.1.names ++ ns' ∧ ts = L ++ ts' ∧ L.length = a.2.length ∧ New n a b b.1.names.length ns' ts' ∧ ∀ j z, L[j]? = some z → Wd n a b b.1.names.length j z
theorem RU.us {n : Nat} {a b : TT (n + 1)} (la : a.1.names.length = a.2.length) (na : a.1.names.Nodup) {nm : List ByteArray} {ts : List (TT n)} (h : US n a b b.1.names.length nm ts) : RU n a b nm ts := us_new la na h
theorem RU.fn {n : Nat} {a b : TT (n + 1)} (nb : b.1.names.Nodup) {nm nm' : List ByteArray} {ts ts' : List (TT n)} (h : RU n a b nm ts) (h' : RU n a b nm' ts') : nm = nm' ∧ ts = ts' := by
  obtain ⟨L, n1, t1, rfl, rfl, hL, hN, hW⟩ := h
  obtain ⟨L', n2, t2, rfl, rfl, hL', hN', hW'⟩ := h'
  obtain ⟨rfl, rfl⟩ := hN.fn hN'
  have : L = L' := by
    refine List.ext_getElem (by omega) (fun j h1 h2 => ?_)
    exact Wd.fn nb (hW j _ (List.getElem?_eq_getElem h1)) (hW' j _ (List.getElem?_eq_getElem h2))
  subst this
  exact ⟨rfl, rfl⟩
theorem RU.good {n : Nat} {a b : TT (n + 1)} (la : a.1.names.length = a.2.length) (nb : b.1.names.Nodup) (na : a.1.names.Nodup) {nm : List ByteArray} {ts : List (TT n)} (h : RU n a b nm ts) (hb : Ubad n a b) : False := by
  obtain ⟨L, n1, t1, rfl, rfl, hL, hN, hW⟩ := h
  obtain ⟨i, j, s, x, y, e1, e2, e3, e4, p1, p2⟩ := hb
  obtain ⟨g4, _⟩ := List.getElem?_eq_some_iff.1 e4
  obtain ⟨g1, _⟩ := List.getElem?_eq_some_iff.1 e1
  obtain ⟨s', x', q1, q2, q⟩ := hW j _ (List.getElem?_eq_getElem (by omega))
  rw [e3] at q1; rw [e4] at q2
  cases q1; cases q2
  rcases q with ⟨q, _⟩ | ⟨k, y', _, r2, r3, r4⟩
  · exact q i g1 e1
  · have e := nodup_at nb r2 e1
    subst e
    rw [e2] at r3
    cases r3
    rcases r4 with ⟨r, _⟩ | ⟨_, r, _⟩
    · exact p1 r
    · exact p2 r
/-- The reference's Join. -/
def RJn (n : Nat) (a b j : TT (n + 1)) : Prop :=
  (Prt (n + 1) a b ∧ j = b) ∨ (¬ Prt (n + 1) a b ∧ Prt (n + 1) b a ∧ j = a) ∨
  (¬ Prt (n + 1) a b ∧ ¬ Prt (n + 1) b a ∧ a.1.kind = 11 ∧ b.1.kind = 11 ∧ ∃ nm ts, RU n a b nm ts ∧ TChk (n + 1) (⟨11, nm⟩, ts) 0 ∧ j = (⟨11, nm⟩, ts)) ∨
  (¬ Prt (n + 1) a b ∧ ¬ Prt (n + 1) b a ∧ (¬ (a.1.kind = 11 ∧ b.1.kind = 11) ∨ Ubad n a b ∨ ∃ nm ts, RU n a b nm ts ∧ ¬ TChk (n + 1) (⟨11, nm⟩, ts) 0) ∧ j = anyT n)
/-- Both give one type. -/
theorem jn_rjn {n : Nat} {a b j j' : TT (n + 1)} (ta : IsT (n + 1) a) (tb : IsT (n + 1) b) (h : Jn n a b j) (h' : RJn n a b j') : j = j' := by
  have hU : a.1.kind = 11 → b.1.kind = 11 → ∀ {nm ts}, US n a b b.1.names.length nm ts → RU n a b nm ts := fun ka kb nm ts q => RU.us (ta.1.eleven ka).1 (ta.1.eleven ka).2 q
  have hF : b.1.kind = 11 → ∀ {nm nm' ts ts'}, RU n a b nm ts → RU n a b nm' ts' → nm = nm' ∧ ts = ts' := fun kb nm nm' ts ts' q q' => RU.fn (tb.1.eleven kb).2 q q'
  have hG : a.1.kind = 11 → b.1.kind = 11 → ∀ {nm ts}, RU n a b nm ts → Ubad n a b → False := fun ka kb nm ts q q' => RU.good (ta.1.eleven ka).1 (tb.1.eleven kb).2 (ta.1.eleven ka).2 q q'
  rcases h with ⟨p, rfl⟩ | ⟨p, p', rfl⟩ | ⟨p, p', ka, kb, nm, ts, hu, hc, rfl⟩ | ⟨p, p', hb, rfl⟩
  · rcases h' with ⟨q, rfl⟩ | ⟨q, _⟩ | ⟨q, _⟩ | ⟨q, _⟩
    · rfl
    · exact absurd p q
    · exact absurd p q
    · exact absurd p q
  · rcases h' with ⟨q, _⟩ | ⟨_, q, rfl⟩ | ⟨_, q, _⟩ | ⟨_, q, _⟩
    · exact absurd q p
    · rfl
    · exact absurd p' q
    · exact absurd p' q
  · rcases h' with ⟨q, _⟩ | ⟨_, q, _⟩ | ⟨_, _, _, _, nm', ts', hu', hc', rfl⟩ | ⟨_, _, hb, rfl⟩
    · exact absurd q p
    · exact absurd q p'
    · obtain ⟨rfl, rfl⟩ := hF kb (hU ka kb hu) hu'
      rfl
    · rcases hb with hb | hb | ⟨nm', ts', hu', hc'⟩
      · exact absurd ⟨ka, kb⟩ hb
      · exact (hG ka kb (hU ka kb hu) hb).elim
      · obtain ⟨rfl, rfl⟩ := hF kb (hU ka kb hu) hu'
        exact absurd hc hc'
  · rcases h' with ⟨q, _⟩ | ⟨_, q, _⟩ | ⟨_, _, ka, kb, nm', ts', hu', hc', rfl⟩ | ⟨_, _, _, rfl⟩
    · exact absurd q p
    · exact absurd q p'
    · rcases hb with hb | hb | ⟨nm, ts, hu, hc⟩
      · exact absurd ⟨ka, kb⟩ hb
      · exact (hG ka kb hu' hb).elim
      · obtain ⟨rfl, rfl⟩ := hF kb (hU ka kb hu) hu'
        exact absurd hc' hc
    · rfl
end Go.Proofs.YtolmbjeinilhlaaDoor
/- The reference's union is the program's, no program in sight. -/
namespace Go.Proofs.YtolmbjeinilhlaaDoor
open Go.RowKit Go.Maps
set_option linter.unusedSimpArgs false
set_option linter.unusedVariables false
theorem us_ex {n : Nat} {a b : TT (n + 1)} (la : a.1.names.length = a.2.length) (lb : b.1.names.length = b.2.length) : ∀ i, i ≤ b.1.names.length → (∃ nm ts, US n a b i nm ts) ∨ Ubad n a b
  | 0, _ => Or.inl ⟨_, _, rfl, rfl⟩
  | i + 1, h => by
    rcases us_ex la lb i (by omega) with ⟨nm, ts, hu⟩ | hb
    · have e1 := List.getElem?_eq_getElem (l := b.1.names) (i := i) (by omega)
      have e2 := List.getElem?_eq_getElem (l := b.2) (i := i) (by omega)
      by_cases hm : b.1.names[i] ∈ a.1.names
      · obtain ⟨j, hj, he⟩ := List.getElem_of_mem hm
        have e3 : a.1.names[j]? = some b.1.names[i] := by rw [← he]; exact List.getElem?_eq_getElem _
        have e4 := List.getElem?_eq_getElem (l := a.2) (i := j) (by omega)
        by_cases p : Prt n (b.2[i]'(by omega)) (a.2[j]'(by omega))
        · exact Or.inl ⟨_, _, nm, ts, hu, Or.inr ⟨j, _, _, _, e1, e2, e3, e4, rfl, Or.inl ⟨p, rfl⟩⟩⟩
        · by_cases p2 : Prt n (a.2[j]'(by omega)) (b.2[i]'(by omega))
          · exact Or.inl ⟨_, _, nm, ts, hu, Or.inr ⟨j, _, _, _, e1, e2, e3, e4, rfl, Or.inr ⟨p, p2, rfl⟩⟩⟩
          · exact Or.inr ⟨i, j, _, _, _, e1, e2, e3, e4, p, p2⟩
      · exact Or.inl ⟨_, _, nm, ts, hu, Or.inl ⟨_, _, e1, e2, hm, rfl, rfl⟩⟩
    · exact Or.inr hb
theorem RU.to_us {n : Nat} {a b : TT (n + 1)} (la : a.1.names.length = a.2.length) (lb : b.1.names.length = b.2.length) (na : a.1.names.Nodup) (nb : b.1.names.Nodup) {nm : List ByteArray} {ts : List (TT n)} (h : RU n a b nm ts) : US n a b b.1.names.length nm ts := by
  rcases us_ex la lb b.1.names.length (Nat.le_refl _) with ⟨nm', ts', hu⟩ | hb
  · obtain ⟨rfl, rfl⟩ := RU.fn nb h (RU.us la na hu)
    exact hu
  · exact (RU.good la nb na h hb).elim
theorem New.len {n : Nat} {a b : TT (n + 1)} : ∀ {i : Nat} {ns : List ByteArray} {ts : List (TT n)}, New n a b i ns ts → ns.length = ts.length ∧ ns.length ≤ i
  | 0, _, _, h => by rw [h.1, h.2]; exact ⟨rfl, Nat.le_refl _⟩
  | i + 1, _, _, ⟨n0, t0, h, k⟩ => by
    have ih := New.len h
    rcases k with ⟨s, y, _, _, _, rfl, rfl⟩ | ⟨s, _, _, rfl, rfl⟩
    · simp only [List.length_append, List.length_singleton]; omega
    · omega
end Go.Proofs.YtolmbjeinilhlaaDoor
