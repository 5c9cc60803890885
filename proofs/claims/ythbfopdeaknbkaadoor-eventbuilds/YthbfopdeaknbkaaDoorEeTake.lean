/- event's Checker: take: walked. -/
import Derived.Test.YthbfopdeaknbkaaDoorEdChk
namespace Go.Proofs.YthbfopdeaknbkaaDoor
open Go.RowKit
set_option linter.unusedSimpArgs false
set_option linter.unusedVariables false
/-- A part, where its names lie left aside. -/
abbrev Pa := Int × Bool × List ByteArray
def Pt.abs (p : Pt) : Pa := (p.kind, p.waits, p.names)
/-- What a value's beginning makes of what is open (the innermost first). -/
def valE : List Pa → Bool → Option (List Pa × Bool)
  | [], bg => if bg then none else some ([], true)
  | (k, w, ns) :: r, bg => if w = true ∨ k = 7 then some ((k, false, ns) :: r, bg) else none
/-- What an event lays on it. -/
def newE (k : Int) : List Pa := if k = 7 then [(7, false, [])] else if k = 8 then [(8, false, [])] else if k = 9 then [(9, true, [])] else []
/-- Is a text among names? -/
def inN (ns : List ByteArray) (s : ByteArray) : Bool := ns.any fun t => decide (t.data = s.data)
theorem inN_iff (ns : List ByteArray) (s : ByteArray) : inN ns s = true ↔ s ∈ ns := by
  unfold inN
  rw [List.any_eq_true]
  constructor
  · rintro ⟨t, ht, he⟩
    have : t = s := by cases t; cases s; simp at he; rw [he]
    rw [← this]; exact ht
  · intro h; exact ⟨s, h, by simp⟩
/-- What an event that may be makes of what is open. -/
def stepE (st : List Pa) (bg : Bool) (h : Hd) : Option (List Pa × Bool) :=
  if h.kind = 10 then match st with
    | [] => none
    | (k, w, ns) :: r => if k = 8 ∧ w = false ∧ inN ns h.text = false then some ((8, true, ns ++ [h.text]) :: r, bg) else none
  else if h.kind = 11 then match st with
    | [] => none
    | (_, w, _) :: r => if w = false then some (r, bg) else none
  else (valE st bg).map fun x => (newE h.kind ++ x.1, x.2)
/-- A Checker that has come so far, by at most n events. -/
def CkA (W : World) (i B n : Nat) (st : List Pa) (bg : Bool) : Prop := ∃ v ps, Ck W i B v ps bg false ∧ (ps.map Pt.abs).reverse = st ∧ ps.length ≤ n ∧ ∀ p ∈ ps, p.names.length ≤ n
theorem CkA.then {W W1 : World} {i B n : Nat} {st : List Pa} {bg : Bool} (h : CkA W i B n st bg) (hb : Below W.heap.size W W1) : CkA W1 i B n st bg := by
  obtain ⟨v, ps, h1, h2⟩ := h
  exact ⟨v, ps, h1.then hb, h2⟩
theorem split_ps {ps : List Pt} {a : Pa} {r : List Pa} (h : (ps.map Pt.abs).reverse = a :: r) : ∃ qs p, ps = qs ++ [p] ∧ p.abs = a ∧ (qs.map Pt.abs).reverse = r := by
  rcases List.eq_nil_or_concat ps with rfl | ⟨qs, p, rfl⟩
  · simp at h
  · rw [List.concat_eq_append] at h ⊢
    rw [List.map_append, List.reverse_append] at h
    simp at h
    exact ⟨qs, p, rfl, h.1, by simpa using h.2⟩
theorem nil_ps {ps : List Pt} (h : (ps.map Pt.abs).reverse = []) : ps = [] := by simpa using h
section
variable {W : World} {i B n : Nat} {st : List Pa} {bg : Bool}
/-- takeName, as it is answered. -/
theorem takeName_any (s : ByteArray) (c : CkA W i B n st bg) (hn : n ≤ 50000) (hs : s.size ≤ 281474976710656) (o : Option (List Pa × Bool)) (ho : stepE st bg ⟨10, false, false, ⟨#[]⟩, 0, 0, s, []⟩ = o) :
    Calls Tryd.prog 49 #[.pointer (some ⟨i, 0, none⟩), .string s] W fun r w' => r = .returned (.bool o.isSome) ∧ Below i W w' ∧ (∃ v2 b2, KB w' i v2 b2 false) ∧ ∀ x, o = some x → CkA w' i B (n + 1) x.1 x.2 := by
  obtain ⟨v, ps, c, hps, hl, hnm⟩ := c
  have hlt := c.kb.lt
  cases st with
  | nil =>
    obtain rfl := nil_ps hps
    have ho2 : o = none := by rw [← ho]; rfl
    subst ho2
    refine (takeName_none s c).mono ?_
    rintro r w' ⟨rfl, m, rfl⟩
    exact ⟨rfl, ⟨rfl, rfl, rfl, Nat.le_refl _, fun _ _ => rfl⟩, ⟨v, bg, c.kb.same rfl⟩, fun x h => by cases h⟩
  | cons a r =>
    obtain ⟨qs, p, rfl, hp, hr⟩ := split_ps hps
    obtain ⟨k, w, ns⟩ := a
    simp only [Pt.abs, Prod.mk.injEq] at hp
    obtain ⟨rfl, rfl, rfl⟩ := hp
    have hst : stepE ((p.kind, p.waits, p.names) :: r) bg ⟨10, false, false, ⟨#[]⟩, 0, 0, s, []⟩ = if p.kind = 8 ∧ p.waits = false ∧ inN p.names s = false then some ((8, true, p.names ++ [s]) :: r, bg) else none := rfl
    rw [hst] at ho
    by_cases h1 : p.kind ≠ 8 ∨ p.waits = true
    · have ho2 : o = none := by
        rw [← ho, if_neg]
        rintro ⟨a1, a2, _⟩
        rcases h1 with h | h
        · exact h a1
        · rw [a2] at h; cases h
      subst ho2
      refine (takeName_no s c h1).mono ?_
      rintro r w' ⟨rfl, m, rfl⟩
      exact ⟨rfl, ⟨rfl, rfl, rfl, Nat.le_refl _, fun _ _ => rfl⟩, ⟨v, bg, c.kb.same rfl⟩, fun x h => by cases h⟩
    · have h8 : p.kind = 8 := by
        by_cases h : p.kind = 8
        · exact h
        · exact absurd (Or.inl h) h1
      have hw : p.waits = false := by
        cases h : p.waits
        · rfl
        · exact absurd (Or.inr h) h1
      by_cases hm : s ∈ p.names
      · have ho2 : o = none := by
          rw [← ho, if_neg]
          rintro ⟨_, _, a3⟩
          rw [(inN_iff _ _).2 hm] at a3
          cases a3
        subst ho2
        refine (takeName_twice s c h8 hw hm hs).mono ?_
        rintro r w' ⟨rfl, hb⟩
        exact ⟨rfl, hb.mono (Nat.le_of_lt hlt), ⟨v, bg, c.kb.same (hb.block i hlt)⟩, fun x h => by cases h⟩
      · have ho2 : o = some ((8, true, p.names ++ [s]) :: r, bg) := by rw [← ho, if_pos ⟨h8, hw, by rw [Bool.eq_false_iff]; exact fun h => hm ((inN_iff _ _).1 h)⟩]
        subst ho2
        have hpn := hnm p (by simp)
        refine (takeName_some s c h8 hw hm hs (by omega)).mono ?_
        rintro r' w' ⟨rfl, hc, hb⟩
        refine ⟨rfl, hb, ⟨v, bg, hc.kb⟩, fun x h => ?_⟩
        cases h
        refine ⟨v, _, hc, ?_, by simp at hl ⊢; omega, ?_⟩
        · rw [List.map_append, List.reverse_append]
          simp [Pt.abs, h8]
          simpa using hr
        · intro q hq
          rcases List.mem_append.1 hq with h | h
          · have := hnm q (List.mem_append.2 (Or.inl h)); omega
          · have hq2 : q = { p with waits := true, names := p.names ++ [s] } := by simpa using h
            subst hq2
            simp; omega
theorem takeEnd_any (c : CkA W i B n st bg) (o : Option (List Pa × Bool)) (ho : stepE st bg ⟨11, false, false, ⟨#[]⟩, 0, 0, ⟨#[]⟩, []⟩ = o) :
    Calls Tryd.prog 50 #[.pointer (some ⟨i, 0, none⟩)] W fun r w' => r = .returned (.bool o.isSome) ∧ Below i W w' ∧ (∃ v2 b2, KB w' i v2 b2 false) ∧ ∀ x, o = some x → CkA w' i B (n + 1) x.1 x.2 := by
  obtain ⟨v, ps, c, hps, hl, hnm⟩ := c
  have hlt := c.kb.lt
  cases st with
  | nil =>
    obtain rfl := nil_ps hps
    have ho2 : o = none := by rw [← ho]; rfl
    subst ho2
    refine (takeEnd_none c).mono ?_
    rintro r w' ⟨rfl, rfl⟩
    exact ⟨rfl, Below.refl _ _, ⟨v, bg, c.kb⟩, fun x h => by cases h⟩
  | cons a r =>
    obtain ⟨qs, p, rfl, hp, hr⟩ := split_ps hps
    obtain ⟨k, w, ns⟩ := a
    simp only [Pt.abs, Prod.mk.injEq] at hp
    obtain ⟨rfl, rfl, rfl⟩ := hp
    have hst : stepE ((p.kind, p.waits, p.names) :: r) bg ⟨11, false, false, ⟨#[]⟩, 0, 0, ⟨#[]⟩, []⟩ = if p.waits = false then some (r, bg) else none := rfl
    rw [hst] at ho
    cases hw : p.waits
    · have ho2 : o = some (r, bg) := by rw [← ho, if_pos hw]
      subst ho2
      refine (takeEnd_some c hw).mono ?_
      rintro r' w' ⟨rfl, v', hc, hb⟩
      refine ⟨rfl, hb, ⟨v', bg, hc.kb⟩, fun x h => ?_⟩
      cases h
      exact ⟨v', qs, hc, hr, by simp at hl; omega, fun q hq => by have := hnm q (List.mem_append.2 (Or.inl hq)); omega⟩
    · have ho2 : o = none := by rw [← ho, hw]; rfl
      subst ho2
      refine (takeEnd_wait c hw).mono ?_
      rintro r w' ⟨rfl, m, rfl⟩
      exact ⟨rfl, ⟨rfl, rfl, rfl, Nat.le_refl _, fun _ _ => rfl⟩, ⟨v, bg, c.kb.same rfl⟩, fun x h => by cases h⟩
theorem takeValue_any {W0 : World} (c0 : CkA W0 i B n st bg) (hb0 : Below W0.heap.size W0 W) (o : Option (List Pa × Bool)) (ho : valE st bg = o) :
    Calls Tryd.prog 51 #[.pointer (some ⟨i, 0, none⟩)] W fun r w' => r = .returned (.bool o.isSome) ∧ Below i W w' ∧ (∃ v2 b2, KB w' i v2 b2 false) ∧ (∀ x, o = some x → CkA w' i B n x.1 x.2) ∧ ∀ k, W0.heap.size ≤ k → w'.heap[k]? = W.heap[k]? := by
  obtain ⟨v, ps, c0, hps, hl, hnm⟩ := c0
  have c := c0.then hb0
  have hi0 := c0.kb.lt
  have hv0 : ∀ k, W0.heap.size ≤ k → v.ownBlock ≠ some k := fun k hk e => by have := (World.ownsRow.lt c0.row k e).2; omega
  cases st with
  | nil =>
    obtain rfl := nil_ps hps
    refine (takeValue_none c).mono ?_
    rintro r w' ⟨rfl, hc, hb, hfr⟩
    cases bg
    · have ho2 : o = some ([], true) := by rw [← ho]; rfl
      subst ho2
      exact ⟨rfl, hb, ⟨_, _, hc.kb⟩, (fun x h => by cases h; exact ⟨v, [], hc, rfl, Nat.zero_le _, fun p hp => by simp at hp⟩), fun k hk => hfr k (by omega)⟩
    · have ho2 : o = none := by rw [← ho]; rfl
      subst ho2
      exact ⟨rfl, hb, ⟨_, _, hc.kb⟩, (fun x h => by cases h), fun k hk => hfr k (by omega)⟩
  | cons a r =>
    obtain ⟨qs, p, rfl, hp, hr⟩ := split_ps hps
    obtain ⟨k, w, ns⟩ := a
    simp only [Pt.abs, Prod.mk.injEq] at hp
    obtain ⟨rfl, rfl, rfl⟩ := hp
    have hst : valE ((p.kind, p.waits, p.names) :: r) bg = if p.waits = true ∨ p.kind = 7 then some ((p.kind, false, p.names) :: r, bg) else none := rfl
    rw [hst] at ho
    refine (takeValue_some c).mono ?_
    rintro r' w' ⟨rfl, hc, hb, hfr⟩
    have hcv : CkA w' i B n ((p.kind, false, p.names) :: r) bg := by
      refine ⟨v, _, hc, ?_, by simpa using hl, ?_⟩
      · rw [List.map_append, List.reverse_append]
        simp [Pt.abs]
        simpa using hr
      · intro q hq
        rcases List.mem_append.1 hq with h | h
        · exact hnm q (List.mem_append.2 (Or.inl h))
        · have hq2 : q = { p with waits := false } := by simpa using h
          subst hq2
          exact hnm p (by simp)
    by_cases hw : p.waits = true ∨ p.kind = 7
    · have ho2 : o = some ((p.kind, false, p.names) :: r, bg) := by rw [← ho, if_pos hw]
      subst ho2
      refine ⟨?_, hb, ⟨_, _, hc.kb⟩, (fun x h => by cases h; exact hcv), fun k hk => hfr k (by omega) (hv0 k hk)⟩
      rcases hw with h | h <;> simp [h]
    · have ho2 : o = none := by rw [← ho, if_neg hw]
      subst ho2
      refine ⟨?_, hb, ⟨_, _, hc.kb⟩, (fun x h => by cases h), fun k hk => hfr k (by omega) (hv0 k hk)⟩
      have h1 : p.waits = false := by cases h : p.waits; rfl; exact absurd (Or.inl h) hw
      have h2 : ¬ p.kind = 7 := fun h => hw (Or.inr h)
      simp [h1, h2]
end
end Go.Proofs.YthbfopdeaknbkaaDoor
