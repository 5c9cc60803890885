/- num.Parse: walked. -/
import Derived.Test.YtjidnceccpmheaaGreatDoorZlNwSplitA
import Derived.Test.YtjidnceccpmheaaGreatDoorZlNwSplitB
import Derived.Test.YtjidnceccpmheaaGreatDoorZlNxLay
import Derived.Test.YtjidnceccpmheaaGreatDoorZlN
import Derived.Outline
namespace Go.Proofs.YtjidnceccpmheaaGreatDoor
open Go.RowKit
set_option linter.unusedSimpArgs false
set_option linter.unusedVariables false
theorem split_any (s : ByteArray) (w : World) (hs : s.size ≤ 100000) :
    Calls Tryz.prog 53 #[.string s] w fun e w' => e = splitE (splitL (bl s)) ∧ Below w.heap.size w w' := by
  unfold splitL
  obtain ⟨wh, hwh⟩ : ∃ wh, (tlB 45 (bl s)).takeWhile isDig = wh := ⟨_, rfl⟩
  cases hbw : badW ((tlB 45 (bl s)).takeWhile isDig)
  · simp only [Bool.false_eq_true, if_false]
    simp only [badW, Bool.or_eq_false_iff] at hbw
    have hne : 1 ≤ ((tlB 45 (bl s)).takeWhile isDig).length := by
      rcases hh : (tlB 45 (bl s)).takeWhile isDig with _ | ⟨a, l⟩
      · rw [hh] at hbw; simp at hbw
      · simp
    by_cases h1 : ((tlB 45 (bl s)).takeWhile isDig).length = 1
    · cases hpt : hdB 46 ((tlB 45 (bl s)).dropWhile isDig)
      · simp only [Bool.false_eq_true, if_false]
        cases hL : (tlB 45 (bl s)).dropWhile isDig with
        | nil => have := split_one_no_nil s w hs h1 hpt hL; rwa [hL] at this
        | cons c r =>
          by_cases hc1 : c = 101
          · have := split_one_no_p s w hs h1 hpt c r hL (Or.inl hc1); rwa [hL] at this
          · by_cases hc2 : c = 69
            · have := split_one_no_p s w hs h1 hpt c r hL (Or.inr hc2); rwa [hL] at this
            · have := split_one_no_bad s w hs h1 hpt c r hL hc1 hc2; rwa [hL] at this
      · simp only [if_true]
        cases hfr : ((tlB 46 ((tlB 45 (bl s)).dropWhile isDig)).takeWhile isDig).isEmpty
        · simp only [Bool.false_eq_true, if_false]
          cases hL : (tlB 46 ((tlB 45 (bl s)).dropWhile isDig)).dropWhile isDig with
          | nil => have := split_one_pt_nil s w hs h1 hpt hfr hL; rwa [hL] at this
          | cons c r =>
            by_cases hc1 : c = 101
            · have := split_one_pt_p s w hs h1 hpt hfr c r hL (Or.inl hc1); rwa [hL] at this
            · by_cases hc2 : c = 69
              · have := split_one_pt_p s w hs h1 hpt hfr c r hL (Or.inr hc2); rwa [hL] at this
              · have := split_one_pt_bad s w hs h1 hpt hfr c r hL hc1 hc2; rwa [hL] at this
        · exact split_one_pt_none s w hs h1 hpt hfr
    · have h1 : 1 < ((tlB 45 (bl s)).takeWhile isDig).length ∧ ((tlB 45 (bl s)).takeWhile isDig).head? ≠ some 48 := by
        have h2 : 1 < ((tlB 45 (bl s)).takeWhile isDig).length := by omega
        refine ⟨h2, ?_⟩
        have := hbw.2
        rw [decide_eq_true h2, Bool.true_and, beq_eq_false_iff_ne] at this
        exact this
      cases hpt : hdB 46 ((tlB 45 (bl s)).dropWhile isDig)
      · simp only [Bool.false_eq_true, if_false]
        cases hL : (tlB 45 (bl s)).dropWhile isDig with
        | nil => have := split_more_no_nil s w hs h1 hpt hL; rwa [hL] at this
        | cons c r =>
          by_cases hc1 : c = 101
          · have := split_more_no_p s w hs h1 hpt c r hL (Or.inl hc1); rwa [hL] at this
          · by_cases hc2 : c = 69
            · have := split_more_no_p s w hs h1 hpt c r hL (Or.inr hc2); rwa [hL] at this
            · have := split_more_no_bad s w hs h1 hpt c r hL hc1 hc2; rwa [hL] at this
      · simp only [if_true]
        cases hfr : ((tlB 46 ((tlB 45 (bl s)).dropWhile isDig)).takeWhile isDig).isEmpty
        · simp only [Bool.false_eq_true, if_false]
          cases hL : (tlB 46 ((tlB 45 (bl s)).dropWhile isDig)).dropWhile isDig with
          | nil => have := split_more_pt_nil s w hs h1 hpt hfr hL; rwa [hL] at this
          | cons c r =>
            by_cases hc1 : c = 101
            · have := split_more_pt_p s w hs h1 hpt hfr c r hL (Or.inl hc1); rwa [hL] at this
            · by_cases hc2 : c = 69
              · have := split_more_pt_p s w hs h1 hpt hfr c r hL (Or.inr hc2); rwa [hL] at this
              · have := split_more_pt_bad s w hs h1 hpt hfr c r hL hc1 hc2; rwa [hL] at this
        · exact split_more_pt_none s w hs h1 hpt hfr
  · simp only [if_true]
    simp only [badW, Bool.or_eq_true, Bool.and_eq_true, decide_eq_true_eq, beq_iff_eq] at hbw
    rcases hbw with h | h
    · exact split_empty s w hs h
    · exact split_lead s w hs h
theorem allD_tw (l : List UInt8) : allD (l.takeWhile isDig) = true := by
  unfold allD
  induction l with
  | nil => rfl
  | cons a l ih =>
    by_cases h : isDig a = true
    · simp [h]
    · simp [h]
/-- What a text that is a number's comes to. -/
theorem splitL_facts {l : List UInt8} {n : Bool} {wh fr : List UInt8} {pn : Bool} {pw : List UInt8} (h : splitL l = some (n, wh, fr, pn, pw)) :
    allD wh = true ∧ allD fr = true ∧ allD pw = true ∧ 1 ≤ wh.length ∧ wh.length + fr.length ≤ l.length ∧ pw.length ≤ l.length := by
  have key : ∀ (n : Bool) (wh fr l4 : List UInt8) (m : Nat), allD wh = true → allD fr = true → 1 ≤ wh.length → wh.length + fr.length ≤ m → l4.length ≤ m → ∀ n' wh' fr' pn' pw', splitT n wh fr l4 = some (n', wh', fr', pn', pw') → allD wh' = true ∧ allD fr' = true ∧ allD pw' = true ∧ 1 ≤ wh'.length ∧ wh'.length + fr'.length ≤ m ∧ pw'.length ≤ m := by
    intro n wh fr l4 m h1 h2 h3 h4 h5 n' wh' fr' pn' pw' h
    unfold splitT at h
    cases l4 with
    | nil =>
      simp only [Option.some.injEq, Prod.mk.injEq] at h
      obtain ⟨_, rfl, rfl, _, rfl⟩ := h
      exact ⟨h1, h2, rfl, h3, h4, Nat.zero_le _⟩
    | cons c r =>
      simp only at h
      by_cases hc : (c == 101 || c == 69) = true
      · by_cases hs : spOk r = true
        · simp only [hc, hs, if_true, Option.some.injEq, Prod.mk.injEq] at h
          obtain ⟨_, rfl, rfl, _, rfl⟩ := h
          simp only [spOk, Bool.and_eq_true] at hs
          refine ⟨h1, h2, hs.2, h3, h4, ?_⟩
          have : (spL r).length ≤ r.length := by unfold spL; split <;> exact tlB_length _ _
          simp at h5
          omega
        · simp only [hc, hs, if_true] at h
          cases h
      · simp only [hc] at h
        cases h
  unfold splitL at h
  have e0 : (tlB 45 l).takeWhile isDig ++ (tlB 45 l).dropWhile isDig = tlB 45 l := List.takeWhile_append_dropWhile
  have e1 := congrArg List.length e0
  rw [List.length_append] at e1
  have e2 := tlB_length 45 l
  cases hbw : badW ((tlB 45 l).takeWhile isDig)
  · rw [hbw] at h
    simp only [Bool.false_eq_true, if_false] at h
    have hne : 1 ≤ ((tlB 45 l).takeWhile isDig).length := by
      rcases hh : (tlB 45 l).takeWhile isDig with _ | ⟨a, l⟩
      · rw [hh] at hbw; simp [badW] at hbw
      · simp
    by_cases hpt : hdB 46 ((tlB 45 l).dropWhile isDig) = true
    · rw [if_pos hpt] at h
      by_cases hfr : ((tlB 46 ((tlB 45 l).dropWhile isDig)).takeWhile isDig).isEmpty = true
      · rw [if_pos hfr] at h; cases h
      · rw [if_neg hfr] at h
        have f0 : (tlB 46 ((tlB 45 l).dropWhile isDig)).takeWhile isDig ++ (tlB 46 ((tlB 45 l).dropWhile isDig)).dropWhile isDig = tlB 46 ((tlB 45 l).dropWhile isDig) := List.takeWhile_append_dropWhile
        have f1 := congrArg List.length f0
        rw [List.length_append] at f1
        have f2 := tlB_length 46 ((tlB 45 l).dropWhile isDig)
        exact key _ _ _ _ l.length (allD_tw _) (allD_tw _) hne (by omega) (by omega) _ _ _ _ _ h
    · rw [if_neg hpt] at h
      exact key _ _ _ _ l.length (allD_tw _) rfl hne (by simp; omega) (by omega) _ _ _ _ _ h
  · rw [hbw] at h
    simp only [if_true] at h
    cases h
end Go.Proofs.YtjidnceccpmheaaGreatDoor
