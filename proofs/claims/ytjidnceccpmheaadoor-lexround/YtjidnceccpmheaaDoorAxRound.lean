/- calamuslaw13.LexRound: walked. -/
import Derived.Test.YtjidnceccpmheaaDoorAtJoins
namespace Go.Proofs.YtjidnceccpmheaaDoor
namespace Lx
open Go.RowKit
set_option linter.unusedSimpArgs false
set_option linter.unusedVariables false
theorem unq_len : ∀ (f : Nat) (l s : List UInt8) (n : Nat), unq f l = some (s, n) → s.length ≤ n
  | 0, l, s, n, h => by cases h
  | f + 1, [], s, n, h => by cases h
  | f + 1, c :: l, s, n, h => by
    simp only [unq] at h
    split at h
    · cases h; simp
    · split at h
      · cases h
      · rename_i s1 n1 hc
        split at h
        · cases h
        · rename_i s2 n2 hu
          cases h
          have h1 := chO_len hc
          have h2 := unq_len f _ _ _ hu
          rw [List.length_append]
          omega
theorem cut_len (k : Nat) (c : UInt8) (l : List UInt8) : (cutK nok k (c :: l)).1.length ≤ (cutK nok k (c :: l)).2 := by
  unfold cutK
  split
  · simp
  · split
    · simp only [List.length_take]; omega
    · split
      · simp only [List.length_take]; omega
      · split
        · simp only [quS]
          split
          · split
            · simp
            · rename_i s n h
              have := unq_len _ _ _ _ h
              simp only [Option.getD_some]
              omega
          · simp
        · split
          · simp only [List.length_take]; omega
          · simp
theorem scn_tot : ∀ (m : Nat) (l : List UInt8) (p : Nat) (acc r : List Tk), l.length ≤ m → scnA nok l p acc = .inr r → (r.map fun t => t.s.length).sum ≤ (acc.map fun t => t.s.length).sum + l.length
  | m, [], p, acc, r, h, hz => by rw [scnA_nil] at hz; cases hz; simp
  | 0, c :: l, p, acc, r, h, hz => by simp at h
  | m + 1, c :: l, p, acc, r, h, hz => by
    simp only [List.length_cons] at h
    rw [scnA_cons] at hz
    cases hc : tok nok (c :: l) with
    | none => rw [hc] at hz; cases hz
    | some x =>
      obtain ⟨k, s, n⟩ := x
      have hn := tok_n hc
      rw [hc] at hz
      simp only at hz
      have hd : ((c :: l).drop n).length ≤ m := by rw [List.length_drop, List.length_cons]; omega
      have hl : ((c :: l).drop n).length = (c :: l).length - n := List.length_drop
      have hcl := cut_len k c l
      rw [hn.2.2.2.1] at hcl
      simp only at hcl
      split at hz
      · have := scn_tot m _ _ _ _ hd hz; omega
      · split at hz
        · cases hz
        · have := scn_tot m _ _ _ _ hd hz
          simp only [List.map_append, List.map_cons, List.map_nil, List.sum_append, List.sum_cons, List.sum_nil] at this
          omega
theorem scR_tot (l : List UInt8) (h : (scR l).1 = 0) : tot (scR l).2.2 ≤ 8192 := by
  obtain ⟨z, e⟩ := scR_lim (l := l) (by omega)
  rw [e] at h ⊢
  obtain ⟨r, hr, hs⟩ := scO_inr h (fun e q h => (scn_err nok _ _ _ _ _ _ (Nat.le_refl _) h).1)
  rw [hs]
  have h1 := scn_tot _ _ _ _ _ (Nat.le_refl _) hr
  obtain ⟨x, hx, h2, h3, _⟩ := scn_len nok _ _ _ _ _ (Nat.le_refl _) hr (by simp)
  simp only [List.nil_append] at hx
  subst hx
  unfold tot
  simp only [List.map_nil, List.sum_nil] at h1 ⊢
  omega
/-- What is printed is scanned as the same. -/
theorem pr_round (l : List Tk) (h : (prR l).1 = 0) : (scR (prR l).2).1 = 0 ∧ same (scR (prR l).2).2.2 l ∧ (prR l).2.length ≤ 4096 := by
  unfold prR at h ⊢
  split at h
  · cases h
  · rename_i hall
    split at h
    · cases h
    · rename_i hlim
      rw [if_neg hall, if_neg hlim]
      have hall2 : ∀ t ∈ l, isT nok t.w t.s = true := Classical.not_not.1 hall
      have hlon : ∀ t ∈ l, t.s.length ≤ lgK (kdW t.w) := fun t ht => by
        by_cases hq : lgK (kdW t.w) < t.s.length
        · exact absurd (Or.inr (Or.inl ⟨t, ht, decide_eq_true hq⟩)) hlim
        · omega
      have h1024 : l.length ≤ 1024 := by
        by_cases hq : 1024 < l.length
        · exact absurd (Or.inl hq) hlim
        · omega
      have h4096 : (jn (l.map splT)).length ≤ 4096 := by
        by_cases hq : 4096 < (jn (l.map splT)).length
        · exact absurd (Or.inr (Or.inr hq)) hlim
        · omega
      obtain ⟨m, hm, hs⟩ := scn_print nok l 0 [] (fun t ht => ⟨hall2 t ht, hlon t ht⟩) (by simpa using h1024)
      have e : scR (jn (l.map splT)) = (0, 0, m) := by
        unfold scR
        rw [if_neg (by omega), hm]
        rfl
      simp only
      rw [e]
      exact ⟨rfl, hs, h4096⟩
theorem pr_err (l : List Tk) : (prR l).1 = 0 ∨ (prR l).1 = 1 ∨ (prR l).1 = 2 := by
  unfold prR
  split
  · exact Or.inr (Or.inl rfl)
  · split
    · exact Or.inr (Or.inr rfl)
    · exact Or.inl rfl
/-- What is scanned can be printed, but for the limit. -/
theorem sc_pr (l : List UInt8) (h : (scR l).1 = 0) : (prR (scR l).2.2).1 = 0 ∨ (prR (scR l).2.2).1 = 2 := by
  obtain ⟨z, e⟩ := scR_lim (l := l) (by omega)
  rw [e] at h ⊢
  obtain ⟨r, hr, hs⟩ := scO_inr h (fun e q h => (scn_err nok _ _ _ _ _ _ (Nat.le_refl _) h).1)
  rw [hs]
  have hi := scn_isT nok _ _ _ _ _ (Nat.le_refl _) hr (by simp)
  simp only
  unfold prR
  rw [if_neg (fun hn => hn fun t ht => (hi t ht).1)]
  split
  · exact Or.inr rfl
  · exact Or.inl rfl
set_option maxHeartbeats 4000000 in
set_option maxRecDepth 100000 in
theorem round_any (hP : ParseOk) (u : Value) (l : List Tk) (a : ByteArray) (w : World) (g : Gg w) (hu : TS w u l) (hz : ∀ t ∈ l, t.s.length ≤ 1000000000000000) (hza : a.size ≤ maxLen) :
    Calls Tryd.prog 3 #[u, .string a] w fun e w' => e = .returned (.bool true) ∧ Below w.heap.size w w' := by
  have ml : maxLen = 2 ^ 63 - 1 := rfl
  have BG := hide (big_any u l w hu hz)
  obtain ⟨au, cu, rfl, hu1, hu2⟩ := hu.shape
  have g0 := hide g
  have hP0 := hide hP
  have TU := hide hu
  clear g hP hu hz
  go_enter Tryd.func3, Tryd.ntmps3
  go_wp2_with fail
  refine BG.out.mono ?_
  rintro e w1 ⟨b, rfl, hbt, hb1⟩
  have B1 := hide hb1
  clear hb1
  cases b
  · have htot := hbt rfl
    clear hbt
    by_cases ha : 65536 < a.size
    · have i1 : (65536 : Int) < (a.size : Int) := by omega
      go_wp2
      go_ret
      exact ⟨rfl, B1.out⟩
    · have i1 : ¬ (65536 : Int) < (a.size : Int) := by omega
      have P1 := hide (print_any hP0.out _ l w1 (TU.out.below B1.out) (g0.out.below B1.out g0.out.sz) (by omega))
      have AW := hide (fun w g => awake_any hP0.out w g)
      have r1 := pr_round l
      have r1e := pr_err l
      obtain ⟨x0, hx0⟩ : ∃ x0, prR l = x0 := ⟨_, rfl⟩
      rw [hx0] at P1 r1 r1e
      obtain ⟨e0, T0⟩ := x0
      simp only [prE] at P1 r1 r1e
      have S5 := hide (fun w g => scan_any hP0.out a w g (by omega))
      have q1 := scR_len (bl a)
      have q2 := scR_tot (bl a)
      have q3 := sc_pr (bl a)
      obtain ⟨x1, hx1⟩ : ∃ x1, scR (bl a) = x1 := ⟨_, rfl⟩
      rw [hx1] at S5 q1 q2 q3
      obtain ⟨e1, p1, l1⟩ := x1
      simp only at q1 q2 q3
      have r2 := pr_round l1
      obtain ⟨x2, hx2⟩ : ∃ x2, prR l1 = x2 := ⟨_, rfl⟩
      have P6 := hide (fun u w hu g (h : tot l1 ≤ 70000) => print_any hP0.out u l1 w hu g h)
      rw [hx2] at P6 r2 q3
      obtain ⟨e2, T2⟩ := x2
      simp only [prE] at P6 r2 q3
      clear hx0 hx1 hx2
      have hq1 := q1.1
      have hq5 := q1.2.2.2.2.1
      have hq4 := q1.2.2.2.1
      clear q1
      have hways0 : e0 = 0 ∨ e0 ≠ 0 := by omega
      have hways1 : (e1 ≠ 0 ∧ l1 = []) ∨ (e1 = 0 ∧ e2 = 2) ∨ (e1 = 0 ∧ e2 = 0) := by
        by_cases c1 : e1 = 0
        · rcases q3 c1 with h | h
          · exact Or.inr (Or.inr ⟨c1, h⟩)
          · exact Or.inr (Or.inl ⟨c1, h⟩)
        · exact Or.inl ⟨c1, hq5 c1⟩
      clear q3 hq5 hq4 r1e
      rcases hways0 with c0 | c0
      · subst c0
        obtain ⟨r1a, r1b, r1c⟩ := r1 rfl
        have hT0 : Hid (bl (mkB T0) = T0) := bl_mkB T0
        have hT0s : (mkB T0).size ≤ 1000000 := by rw [mkB_size]; omega
        have S3 := hide (fun w g => scan_any hP0.out (mkB T0) w g hT0s)
        rw [hT0.out] at S3
        have hl3 := (scR_len T0).1
        obtain ⟨x3, hx3⟩ : ∃ x3, scR T0 = x3 := ⟨_, rfl⟩
        rw [hx3] at S3 r1a r1b hl3
        obtain ⟨e3, p3, l3⟩ := x3
        simp only at r1a r1b hl3
        subst r1a
        have SM := hide r1b
        obtain ⟨s0, hs0⟩ : ∃ s0, mkB T0 = s0 := ⟨_, rfl⟩
        rw [hs0] at P1 S3
        clear r1 r1b r1c hT0 hT0s hx3 hs0
        rcases hways1 with ⟨c1, c2⟩ | ⟨c1, c2⟩ | ⟨c1, c2⟩
        · have d9 : ((l1.length : Int) == 0) = true := by rw [c2]; rfl
          clear c2
          have d1 : ((e1 : Int) != 0) = true := by simp; omega
          have d1' : ((e1 : Int) == 0) = false := by simp; omega
          clear c1 q2 r2
          go_wp2_with (first | (go_at_call 7; go_fit P1.out; rintro e w2 ⟨rfl, hb2⟩; have B2 := hide (below_then B1.out hb2); clear hb2) | (go_at_call 8; go_fit (S3.out w2 (g0.out.below B2.out g0.out.sz)); rintro e w3 ⟨v3, rfl, ho3, hb3⟩; have B3 := hide (below_then B2.out hb3); have T3 : Hid (TS w3 v3 l3) := OT.ts (l := l3) ho3 (by omega); clear hb3 ho3) | (go_at_call 9; go_fit (same_any _ _ l3 l w3 T3.out (TU.out.below B3.out) SM.out); rintro e w4 ⟨rfl, hb4⟩; have B4 := hide (below_then B3.out hb4); clear hb4) | (go_at_call 8; go_fit (S5.out w4 (g0.out.below B4.out g0.out.sz)); rintro e w5 ⟨v5, rfl, ho5, hb5⟩; have B5 := hide (below_then B4.out hb5); have T5 : Hid (TS w5 v5 l1) := OT.ts (l := l1) ho5 (by omega); obtain ⟨a5, c5, rfl, hc5, hc5'⟩ := T5.out.shape; clear hb5 ho5) | (go_at_call 10; go_fit (AW.out w5 (g0.out.below B5.out g0.out.sz)); rintro e w6 ⟨rfl, hbz⟩; have B6 := hide (below_then B5.out hbz); clear hbz))
          go_ret
          exact ⟨rfl, B6.out⟩
        · subst c1 c2
          have htot1 : tot l1 ≤ 70000 := by have := q2 rfl; omega
          clear q2 r2
          go_wp2_with (first | (go_at_call 7; go_fit P1.out; rintro e w2 ⟨rfl, hb2⟩; have B2 := hide (below_then B1.out hb2); clear hb2) | (go_at_call 8; go_fit (S3.out w2 (g0.out.below B2.out g0.out.sz)); rintro e w3 ⟨v3, rfl, ho3, hb3⟩; have B3 := hide (below_then B2.out hb3); have T3 : Hid (TS w3 v3 l3) := OT.ts (l := l3) ho3 (by omega); clear hb3 ho3) | (go_at_call 9; go_fit (same_any _ _ l3 l w3 T3.out (TU.out.below B3.out) SM.out); rintro e w4 ⟨rfl, hb4⟩; have B4 := hide (below_then B3.out hb4); clear hb4) | (go_at_call 8; go_fit (S5.out w4 (g0.out.below B4.out g0.out.sz)); rintro e w5 ⟨v5, rfl, ho5, hb5⟩; have B5 := hide (below_then B4.out hb5); have T5 : Hid (TS w5 v5 l1) := OT.ts (l := l1) ho5 (by omega); obtain ⟨a5, c5, rfl, hc5, hc5'⟩ := T5.out.shape; clear hb5 ho5) | (go_at_call 7; go_fit (P6.out _ w5 T5.out (g0.out.below B5.out g0.out.sz) htot1); rintro e w6 ⟨rfl, hb6⟩; have B6 := hide (below_then B5.out hb6); have T6 := hide (T5.out.below hb6); clear hb6) | (go_at_call 10; go_fit (AW.out w6 (g0.out.below B6.out g0.out.sz)); rintro e w7 ⟨rfl, hbz⟩; have B7 := hide (below_then B6.out hbz); clear hbz))
          go_ret
          exact ⟨rfl, B7.out⟩
        · subst c1 c2
          have htot1 : tot l1 ≤ 70000 := by have := q2 rfl; omega
          obtain ⟨r2a, r2b, r2c⟩ := r2 rfl
          have hT2 : Hid (bl (mkB T2) = T2) := bl_mkB T2
          have hT2s : (mkB T2).size ≤ 1000000 := by rw [mkB_size]; omega
          have S7 := hide (fun w g => scan_any hP0.out (mkB T2) w g hT2s)
          rw [hT2.out] at S7
          have hl7 := (scR_len T2).1
          obtain ⟨x7, hx7⟩ : ∃ x7, scR T2 = x7 := ⟨_, rfl⟩
          rw [hx7] at S7 r2a r2b hl7
          obtain ⟨e7, p7, l7⟩ := x7
          simp only at r2a r2b hl7
          subst r2a
          have SM7 := hide r2b
          obtain ⟨s2, hs2⟩ : ∃ s2, mkB T2 = s2 := ⟨_, rfl⟩
          rw [hs2] at P6 S7
          clear q2 r2 r2b r2c hT2 hT2s hx7 hs2
          go_wp2_with (first | (go_at_call 7; go_fit P1.out; rintro e w2 ⟨rfl, hb2⟩; have B2 := hide (below_then B1.out hb2); clear hb2) | (go_at_call 8; go_fit (S3.out w2 (g0.out.below B2.out g0.out.sz)); rintro e w3 ⟨v3, rfl, ho3, hb3⟩; have B3 := hide (below_then B2.out hb3); have T3 : Hid (TS w3 v3 l3) := OT.ts (l := l3) ho3 (by omega); clear hb3 ho3) | (go_at_call 9; go_fit (same_any _ _ l3 l w3 T3.out (TU.out.below B3.out) SM.out); rintro e w4 ⟨rfl, hb4⟩; have B4 := hide (below_then B3.out hb4); clear hb4) | (go_at_call 8; go_fit (S5.out w4 (g0.out.below B4.out g0.out.sz)); rintro e w5 ⟨v5, rfl, ho5, hb5⟩; have B5 := hide (below_then B4.out hb5); have T5 : Hid (TS w5 v5 l1) := OT.ts (l := l1) ho5 (by omega); obtain ⟨a5, c5, rfl, hc5, hc5'⟩ := T5.out.shape; clear hb5 ho5) | (go_at_call 7; go_fit (P6.out _ w5 T5.out (g0.out.below B5.out g0.out.sz) htot1); rintro e w6 ⟨rfl, hb6⟩; have B6 := hide (below_then B5.out hb6); have T6 := hide (T5.out.below hb6); clear hb6) | (go_at_call 8; go_fit (S7.out w6 (g0.out.below B6.out g0.out.sz)); rintro e w7 ⟨v7, rfl, ho7, hb7⟩; have B7 := hide (below_then B6.out hb7); have T67 := hide (T6.out.below hb7); have T7 : Hid (TS w7 v7 l7) := OT.ts (l := l7) ho7 (by omega); clear hb7 ho7) | (go_at_call 10; go_fit (AW.out w7 (g0.out.below B7.out g0.out.sz)); rintro e w8 ⟨rfl, hbz⟩; have B8 := hide (below_then B7.out hbz); have EQ := hide (same_any _ _ l7 l1 w8 (T7.out.below hbz) (T67.out.below hbz) SM7.out); clear hbz) | (go_at_call 9; go_fit EQ.out; rintro e w9 ⟨rfl, hb9⟩; have B9 := hide (below_then B8.out hb9); clear hb9))
          go_ret
          exact ⟨rfl, B9.out⟩
      · have d0 : ((e0 : Int) == 0) = false := by simp; omega
        clear r1 c0
        rcases hways1 with ⟨c1, c2⟩ | ⟨c1, c2⟩ | ⟨c1, c2⟩
        · have d9 : ((l1.length : Int) == 0) = true := by rw [c2]; rfl
          clear c2
          have d1 : ((e1 : Int) != 0) = true := by simp; omega
          have d1' : ((e1 : Int) == 0) = false := by simp; omega
          clear c1 q2 r2
          go_wp2_with (first | (go_at_call 7; go_fit P1.out; rintro e w4 ⟨rfl, hb4⟩; have B4 := hide (below_then B1.out hb4); clear hb4) | (go_at_call 8; go_fit (S5.out w4 (g0.out.below B4.out g0.out.sz)); rintro e w5 ⟨v5, rfl, ho5, hb5⟩; have B5 := hide (below_then B4.out hb5); have T5 : Hid (TS w5 v5 l1) := OT.ts (l := l1) ho5 (by omega); obtain ⟨a5, c5, rfl, hc5, hc5'⟩ := T5.out.shape; clear hb5 ho5) | (go_at_call 10; go_fit (AW.out w5 (g0.out.below B5.out g0.out.sz)); rintro e w6 ⟨rfl, hbz⟩; have B6 := hide (below_then B5.out hbz); clear hbz))
          go_ret
          exact ⟨rfl, B6.out⟩
        · subst c1 c2
          have htot1 : tot l1 ≤ 70000 := by have := q2 rfl; omega
          clear q2 r2
          go_wp2_with (first | (go_at_call 7; go_fit P1.out; rintro e w4 ⟨rfl, hb4⟩; have B4 := hide (below_then B1.out hb4); clear hb4) | (go_at_call 8; go_fit (S5.out w4 (g0.out.below B4.out g0.out.sz)); rintro e w5 ⟨v5, rfl, ho5, hb5⟩; have B5 := hide (below_then B4.out hb5); have T5 : Hid (TS w5 v5 l1) := OT.ts (l := l1) ho5 (by omega); obtain ⟨a5, c5, rfl, hc5, hc5'⟩ := T5.out.shape; clear hb5 ho5) | (go_at_call 7; go_fit (P6.out _ w5 T5.out (g0.out.below B5.out g0.out.sz) htot1); rintro e w6 ⟨rfl, hb6⟩; have B6 := hide (below_then B5.out hb6); have T6 := hide (T5.out.below hb6); clear hb6) | (go_at_call 10; go_fit (AW.out w6 (g0.out.below B6.out g0.out.sz)); rintro e w7 ⟨rfl, hbz⟩; have B7 := hide (below_then B6.out hbz); clear hbz))
          go_ret
          exact ⟨rfl, B7.out⟩
        · subst c1 c2
          have htot1 : tot l1 ≤ 70000 := by have := q2 rfl; omega
          obtain ⟨r2a, r2b, r2c⟩ := r2 rfl
          have hT2 : Hid (bl (mkB T2) = T2) := bl_mkB T2
          have hT2s : (mkB T2).size ≤ 1000000 := by rw [mkB_size]; omega
          have S7 := hide (fun w g => scan_any hP0.out (mkB T2) w g hT2s)
          rw [hT2.out] at S7
          have hl7 := (scR_len T2).1
          obtain ⟨x7, hx7⟩ : ∃ x7, scR T2 = x7 := ⟨_, rfl⟩
          rw [hx7] at S7 r2a r2b hl7
          obtain ⟨e7, p7, l7⟩ := x7
          simp only at r2a r2b hl7
          subst r2a
          have SM7 := hide r2b
          obtain ⟨s2, hs2⟩ : ∃ s2, mkB T2 = s2 := ⟨_, rfl⟩
          rw [hs2] at P6 S7
          clear q2 r2 r2b r2c hT2 hT2s hx7 hs2
          go_wp2_with (first | (go_at_call 7; go_fit P1.out; rintro e w4 ⟨rfl, hb4⟩; have B4 := hide (below_then B1.out hb4); clear hb4) | (go_at_call 8; go_fit (S5.out w4 (g0.out.below B4.out g0.out.sz)); rintro e w5 ⟨v5, rfl, ho5, hb5⟩; have B5 := hide (below_then B4.out hb5); have T5 : Hid (TS w5 v5 l1) := OT.ts (l := l1) ho5 (by omega); obtain ⟨a5, c5, rfl, hc5, hc5'⟩ := T5.out.shape; clear hb5 ho5) | (go_at_call 7; go_fit (P6.out _ w5 T5.out (g0.out.below B5.out g0.out.sz) htot1); rintro e w6 ⟨rfl, hb6⟩; have B6 := hide (below_then B5.out hb6); have T6 := hide (T5.out.below hb6); clear hb6) | (go_at_call 8; go_fit (S7.out w6 (g0.out.below B6.out g0.out.sz)); rintro e w7 ⟨v7, rfl, ho7, hb7⟩; have B7 := hide (below_then B6.out hb7); have T67 := hide (T6.out.below hb7); have T7 : Hid (TS w7 v7 l7) := OT.ts (l := l7) ho7 (by omega); clear hb7 ho7) | (go_at_call 10; go_fit (AW.out w7 (g0.out.below B7.out g0.out.sz)); rintro e w8 ⟨rfl, hbz⟩; have B8 := hide (below_then B7.out hbz); have EQ := hide (same_any _ _ l7 l1 w8 (T7.out.below hbz) (T67.out.below hbz) SM7.out); clear hbz) | (go_at_call 9; go_fit EQ.out; rintro e w9 ⟨rfl, hb9⟩; have B9 := hide (below_then B8.out hb9); clear hb9))
          go_ret
          exact ⟨rfl, B9.out⟩
  · clear hbt
    go_wp2
    go_ret
    exact ⟨rfl, B1.out⟩
end Lx
end Go.Proofs.YtjidnceccpmheaaDoor
