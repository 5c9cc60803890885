/- lex, as functions: a text's tokens; a line's end, blanks and remarks behind a text. No program in sight. -/
import Derived.Test.YtjidnceccpmheaaDoorAaLex
namespace Go.Proofs.YtjidnceccpmheaaDoor
set_option linter.unusedSimpArgs false
set_option linter.unusedVariables false
namespace Lx
/-- A token. -/
structure Tk where
  w : Int
  s : List UInt8
  p : Int
def wdK (k : Nat) : Nat := if k = 1 then 1 else if k = 2 then 3 else if k = 3 then 2 else if k = 4 then 4 else 0
def lgK (k : Nat) : Nat := if k = 1 then 64 else if k = 2 then 512 else if k = 3 then 4096 else if k = 4 then 1 else 0
def scn (ok : List UInt8 → Bool) : Nat → List UInt8 → Nat → List Tk → Sum (Nat × Nat) (List Tk)
  | _, [], _, acc => .inr acc
  | 0, _ :: _, _, _ => .inl (0, 0)
  | f + 1, c :: l, p, acc => match tok ok (c :: l) with
    | none => .inl (130, p)
    | some (k, s, n) => if k = 0 then scn ok f ((c :: l).drop n) (p + n) acc else if lgK k < s.length ∨ acc.length = 1024 then .inl (2, p) else scn ok f ((c :: l).drop n) (p + n) (acc ++ [⟨wdK k, s, p⟩])
theorem scn_nil (ok : List UInt8 → Bool) (f p : Nat) (acc : List Tk) : scn ok f [] p acc = .inr acc := by cases f <;> rfl
theorem scn_more (ok : List UInt8 → Bool) : ∀ (f : Nat) (l : List UInt8) (p : Nat) (acc : List Tk), l.length ≤ f → scn ok f l p acc = scn ok l.length l p acc
  | f, [], p, acc, h => by rw [scn_nil, scn_nil]
  | 0, c :: l, p, acc, h => by simp at h
  | f + 1, c :: l, p, acc, h => by
    simp only [List.length_cons] at h
    simp only [scn, List.length_cons]
    cases hc : tok ok (c :: l) with
    | none => rfl
    | some x =>
      obtain ⟨k, s, n⟩ := x
      have hn := tok_n hc
      simp only
      have hd : ((c :: l).drop n).length ≤ l.length := by rw [List.length_drop, List.length_cons]; omega
      rw [scn_more ok f _ _ _ (by omega), scn_more ok l.length _ _ _ hd]
      rw [scn_more ok f _ _ _ (by omega), scn_more ok l.length _ _ _ hd]
/-- The tokens of a text. -/
def scnA (ok : List UInt8 → Bool) (l : List UInt8) (p : Nat) (acc : List Tk) : Sum (Nat × Nat) (List Tk) := scn ok l.length l p acc
theorem scnA_nil (ok : List UInt8 → Bool) (p : Nat) (acc : List Tk) : scnA ok [] p acc = .inr acc := rfl
theorem scnA_cons (ok : List UInt8 → Bool) (c : UInt8) (l : List UInt8) (p : Nat) (acc : List Tk) : scnA ok (c :: l) p acc = match tok ok (c :: l) with
    | none => .inl (130, p)
    | some (k, s, n) => if k = 0 then scnA ok ((c :: l).drop n) (p + n) acc else if lgK k < s.length ∨ acc.length = 1024 then .inl (2, p) else scnA ok ((c :: l).drop n) (p + n) (acc ++ [⟨wdK k, s, p⟩]) := by
  unfold scnA
  simp only [scn, List.length_cons]
  cases hc : tok ok (c :: l) with
  | none => rfl
  | some x =>
    obtain ⟨k, s, n⟩ := x
    have hn := tok_n hc
    have hd : ((c :: l).drop n).length ≤ l.length := by rw [List.length_drop, List.length_cons]; omega
    simp only
    rw [scn_more ok l.length _ _ _ hd, scn_more ok l.length _ _ _ hd]
/-- A line's end behind a text: what stands ahead of it is scanned as it is alone. -/
theorem scn_nl (ok : List UInt8 → Bool) (t : List UInt8) : ∀ (m : Nat) (l : List UInt8) (p : Nat) (acc : List Tk), l.length ≤ m → scnA ok (l ++ 10 :: t) p acc = match scnA ok l p acc with
    | .inl e => .inl e
    | .inr a => scnA ok (10 :: t) (p + l.length) a
  | m, [], p, acc, h => by simp [scnA_nil]
  | 0, c :: l, p, acc, h => by simp at h
  | m + 1, c :: l, p, acc, h => by
    simp only [List.length_cons] at h
    have ht := tok_nl ok c l t
    simp only [List.cons_append] at ht ⊢
    rw [scnA_cons, scnA_cons, ht]
    cases hc : tok ok (c :: l) with
    | none => rfl
    | some x =>
      obtain ⟨k, s, n⟩ := x
      have hn := tok_n hc
      simp only
      have hd : ((c :: l).drop n).length ≤ m := by rw [List.length_drop, List.length_cons]; omega
      have e : (c :: (l ++ 10 :: t)).drop n = (c :: l).drop n ++ 10 :: t := by rw [← List.cons_append, List.drop_append_of_le_length hn.2.1]
      have el : ∀ q, q + n + ((c :: l).drop n).length = q + (c :: l).length := fun q => by rw [List.length_drop]; have := hn.2.1; omega
      rw [e, scn_nl ok t m _ _ _ hd, scn_nl ok t m _ _ _ hd, el]
      split
      · rfl
      · split
        · rfl
        · rfl
theorem tok_blank (ok : List UInt8 → Bool) (c : UInt8) (l : List UInt8) (h : isBlk c = true) : tok ok (c :: l) = some (0, [], 1) := by
  have h35 : ¬ c.toNat = 35 := by intro e; simp [isBlk, e] at h
  have e : blS (c :: l) = 1 := by simp [blS, h35, h]
  simp [tok, fstK, cutK, e]
theorem scn_blank (ok : List UInt8 → Bool) (c : UInt8) (l : List UInt8) (h : isBlk c = true) (p : Nat) (acc : List Tk) : scnA ok (c :: l) p acc = scnA ok l (p + 1) acc := by
  rw [scnA_cons, tok_blank ok c l h]
  simp
theorem scn_blanks (ok : List UInt8 → Bool) : ∀ (l : List UInt8) (p : Nat) (acc : List Tk), (∀ c ∈ l, isBlk c = true) → scnA ok l p acc = .inr acc
  | [], p, acc, h => rfl
  | c :: l, p, acc, h => by rw [scn_blank ok c l (h c (by simp))]; exact scn_blanks ok l _ _ fun d hd => h d (by simp [hd])
theorem wh_every {p : UInt8 → Bool} : ∀ {l : List UInt8}, (∀ c ∈ l, p c = true) → wh p l = l.length
  | [], _ => rfl
  | c :: l, h => by simp only [wh, h c (by simp), if_true, List.length_cons]; rw [wh_every fun d hd => h d (by simp [hd])]
theorem scn_remark (ok : List UInt8 → Bool) (l : List UInt8) (p : Nat) (acc : List Tk) (h : ∀ c ∈ l, notNl c = true) : scnA ok (35 :: l) p acc = .inr acc := by
  have hw : wh notNl (35 :: l) = (35 :: l).length := wh_every (fun c hc => by rcases List.mem_cons.1 hc with rfl | hc; rfl; exact h c hc)
  have e : blS (35 :: l) = l.length + 1 := by simp only [blS]; rw [if_pos (by rfl), hw]; rfl
  rw [scnA_cons]
  have ht : tok ok (35 :: l) = some (0, [], l.length + 1) := by simp [tok, fstK, cutK, e]
  rw [ht]
  simp [scnA_nil]
/-- A token further on. -/
def sh (d : Nat) (t : Tk) : Tk := ⟨t.w, t.s, t.p + (d : Int)⟩
/-- Behind other tokens, and further on, the same is told, or a limit is met. -/
theorem scn_shift (ok : List UInt8 → Bool) (d : Nat) (pre : List Tk) : ∀ (m : Nat) (l : List UInt8) (p : Nat) (acc : List Tk), l.length ≤ m →
    match scnA ok l p acc with
    | .inl (e, q) => e = 2 ∨ (e = 130 ∧ (scnA ok l (p + d) (pre ++ acc.map (sh d)) = .inl (130, q + d) ∨ ∃ q', scnA ok l (p + d) (pre ++ acc.map (sh d)) = .inl (2, q')))
    | .inr r => scnA ok l (p + d) (pre ++ acc.map (sh d)) = .inr (pre ++ r.map (sh d)) ∨ ∃ q', scnA ok l (p + d) (pre ++ acc.map (sh d)) = .inl (2, q')
  | m, [], p, acc, h => by simp [scnA_nil]
  | 0, c :: l, p, acc, h => by simp at h
  | m + 1, c :: l, p, acc, h => by
    simp only [List.length_cons] at h
    rw [scnA_cons, scnA_cons]
    cases hc : tok ok (c :: l) with
    | none => simp
    | some x =>
      obtain ⟨k, s, n⟩ := x
      have hn := tok_n hc
      simp only
      have hd : ((c :: l).drop n).length ≤ m := by rw [List.length_drop, List.length_cons]; omega
      have ep : p + d + n = p + n + d := by omega
      rw [ep]
      by_cases hk : k = 0
      · simp only [hk, if_true]
        exact scn_shift ok d pre m _ _ _ hd
      · simp only [hk, if_false]
        by_cases hl : lgK k < s.length ∨ acc.length = 1024
        · simp [hl]
        · rw [if_neg hl]
          by_cases hl2 : lgK k < s.length ∨ (pre ++ acc.map (sh d)).length = 1024
          · rw [if_pos hl2]
            cases hz : scnA ok ((c :: l).drop n) (p + n) (acc ++ [⟨wdK k, s, p⟩]) with
            | inl eq =>
              obtain ⟨e, q⟩ := eq
              have := scn_shift ok d pre m ((c :: l).drop n) (p + n) (acc ++ [⟨wdK k, s, p⟩]) hd
              rw [hz] at this
              rcases this with h2 | ⟨h2, _⟩
              · exact Or.inl h2
              · exact Or.inr ⟨h2, Or.inr ⟨_, rfl⟩⟩
            | inr r => exact Or.inr ⟨_, rfl⟩
          · rw [if_neg hl2]
            have := scn_shift ok d pre m ((c :: l).drop n) (p + n) (acc ++ [⟨wdK k, s, p⟩]) hd
            simp only [List.map_append, List.map_cons, List.map_nil, sh, ← List.append_assoc, Int.natCast_add] at this ⊢
            exact this
/-- Errors are of two kinds. -/
theorem scn_err (ok : List UInt8 → Bool) : ∀ (m : Nat) (l : List UInt8) (p : Nat) (acc : List Tk) (e q : Nat), l.length ≤ m → scnA ok l p acc = .inl (e, q) → (e = 2 ∨ e = 130) ∧ p ≤ q ∧ q ≤ p + l.length
  | m, [], p, acc, e, q, h, hz => by cases hz
  | 0, c :: l, p, acc, e, q, h, hz => by simp at h
  | m + 1, c :: l, p, acc, e, q, h, hz => by
    simp only [List.length_cons] at h
    rw [scnA_cons] at hz
    cases hc : tok ok (c :: l) with
    | none => rw [hc] at hz; cases hz; exact ⟨Or.inr rfl, by omega, by omega⟩
    | some x =>
      obtain ⟨k, s, n⟩ := x
      have hn := tok_n hc
      rw [hc] at hz
      simp only at hz
      have hd : ((c :: l).drop n).length ≤ m := by rw [List.length_drop, List.length_cons]; omega
      have hl : ((c :: l).drop n).length = (c :: l).length - n := List.length_drop
      split at hz
      · have := scn_err ok m _ _ _ _ _ hd hz; omega
      · split at hz
        · cases hz; exact ⟨Or.inl rfl, by omega, by omega⟩
        · have := scn_err ok m _ _ _ _ _ hd hz; omega
/-- How many tokens there are, how long they are, and where they stand. -/
theorem scn_len (ok : List UInt8 → Bool) : ∀ (m : Nat) (l : List UInt8) (p : Nat) (acc r : List Tk), l.length ≤ m → scnA ok l p acc = .inr r → acc.length ≤ 1024 → ∃ x, r = acc ++ x ∧ r.length ≤ 1024 ∧ x.length ≤ l.length ∧ (∀ t ∈ x, t.s.length ≤ 4096 ∧ p ≤ t.p ∧ t.p ≤ p + l.length ∧ 0 ≤ t.w ∧ t.w ≤ 4)
  | m, [], p, acc, r, h, hz, ha => by rw [scnA_nil] at hz; cases hz; exact ⟨[], by simp, ha, by simp, by simp⟩
  | 0, c :: l, p, acc, r, h, hz, ha => by simp at h
  | m + 1, c :: l, p, acc, r, h, hz, ha => by
    simp only [List.length_cons] at h
    rw [scnA_cons] at hz
    cases hc : tok ok (c :: l) with
    | none => rw [hc] at hz; cases hz
    | some x =>
      obtain ⟨k, s, n⟩ := x
      have hn := tok_n hc
      rw [hc] at hz
      simp only at hz
      have hd : ((c :: l).drop n).length ≤ m := by rw [List.length_drop, List.length_cons]; omega
      have hl : ((c :: l).drop n).length = (c :: l).length - n := List.length_drop
      split at hz
      · obtain ⟨x, h1, h2, h3, h4⟩ := scn_len ok m _ _ _ _ hd hz ha
        exact ⟨x, h1, h2, by omega, fun t ht => by have := h4 t ht; omega⟩
      · split at hz
        · cases hz
        · rename_i hq
          have hlk : lgK k ≤ 4096 := by unfold lgK; (repeat' split) <;> omega
          have hwk : wdK k ≤ 4 := by unfold wdK; (repeat' split) <;> omega
          obtain ⟨x, h1, h2, h3, h4⟩ := scn_len ok m _ _ _ _ hd hz (by simp; omega)
          refine ⟨⟨wdK k, s, p⟩ :: x, by rw [h1]; simp, h2, by simp only [List.length_cons] at hl ⊢; omega, fun t ht => ?_⟩
          rcases List.mem_cons.1 ht with rfl | ht
          · exact ⟨by simp only; omega, by simp, by simp only [List.length_cons]; omega, by simp, by simp only; omega⟩
          · have := h4 t ht; omega
end Lx
end Go.Proofs.YtjidnceccpmheaaDoor
