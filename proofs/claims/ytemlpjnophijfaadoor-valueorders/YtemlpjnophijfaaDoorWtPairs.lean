/- value.compareLists of pairs: walked. -/
import Derived.Test.YtemlpjnophijfaaDoorWsPairs
namespace Go.Proofs.YtemlpjnophijfaaDoor
open Go.RowKit
set_option linter.unusedSimpArgs false
set_option linter.unusedVariables false
set_option maxHeartbeats 2000000 in
set_option maxRecDepth 100000 in
theorem cplists_any (n : Nat) (ih : CmpOk n) (u v : Value) (l m : List (ByteArray × VT n)) (w : World) (hu : PR n w u l) (hv : PR n w v m) (hx : ∀ a ∈ l, VOk n a.2) (hy : ∀ a ∈ m, VOk n a.2) :
    Calls Tryd.prog 44 #[u, v, .func (.func 46) #[] #[]] w fun e w' => e = .returned (.int .i64 (lexL (cmpP (cmpV n)) l m)) ∧ Below w.heap.size w w' := by
  obtain ⟨b, cl, rfl, hl1, hl2, hbl, hP⟩ := hu
  obtain ⟨b', dl, rfl, hm1, hm2, hbl', hQ⟩ := hv
  have hP := hide hP
  have hQ := hide hQ
  have hx := hide hx
  have hy := hide hy
  have ml : maxLen = 9223372036854775807 := rfl
  have hci := hide (fun w => cmpInt_any (l.length : Int) (m.length : Int) w)
  obtain ⟨K, hK⟩ : ∃ K, min l.length m.length = K := ⟨_, rfl⟩
  have hKi : min (l.length : Int) (m.length : Int) = (K : Int) := by omega
  obtain ⟨C, hC⟩ : ∃ C, lexL (cmpP (cmpV n)) l m = C := ⟨_, rfl⟩
  rw [hC]
  have hC' := hide hC
  have hK' := hide hK
  clear hC hK
  by_cases q : (l.length : Int) < (m.length : Int)
  · go_enter Tryd.func44, Tryd.ntmps44
    go_wp2_with fail
    go_loopw [14] (fun i w' => ∃ k : Nat, i = .int .i64 k ∧ k ≤ l.length ∧ Hid (lexL (cmpP (cmpV n)) (l.drop k) (m.drop k) = C ∧ Below w.heap.size w w')) (fun i _ => l.length - (intOf i).toNat)
    case atStart => exact ⟨0, rfl, Nat.zero_le _, hC'.out, Below.refl _ _⟩
    case round =>
      obtain ⟨k, rfl, hk, H⟩ := hrel
      by_cases hkl0 : k < l.length
      · have hki : (k : Int) < (l.length : Int) := by omega
        have hk63 : (k : Int) < 9223372036854775807 := by omega
        have hkl : k < l.length := by omega
        have hkm : k < m.length := by omega
        have hkl' : (k : Int) < (l.length : Int) := by omega
        have hkm' : (k : Int) < (m.length : Int) := by omega
        obtain ⟨ns1, ls1, hrg, hrd⟩ := hP.out k hkl
        obtain ⟨q0, q1, q2, q3, q4, q5, q6, q7, q8, q9⟩ := range10 (rangeAt_below hrg H.out.2 hbl)
        obtain ⟨ns2, ls2, hrg', hrd'⟩ := hQ.out k hkm
        obtain ⟨r0, r1, r2, r3, r4, r5, r6, r7, r8, r9⟩ := range10 (rangeAt_below hrg' H.out.2 hbl')
        obtain ⟨a1, m1, d1, a2, m2, d2, rfl, rfl⟩ := hrd.shape
        obtain ⟨a3, m3, d3, a4, m4, d4, rfl, rfl⟩ := hrd'.shape
        have hst := lex_step (cmpP (cmpV n)) hkl hkm
        have hcall := hide (fun W (hb : Below w.heap.size w W) => cpair_any n ih l[k].1 m[k].1 l[k].2 m[k].2 _ _ _ _ W (hrd.below hb) (hrd'.below hb) (hx.out _ (List.getElem_mem _)) (hy.out _ (List.getElem_mem _)))
        obtain ⟨hk1, hh1⟩ : ∃ hk1, vhd n l[k].2 = hk1 := ⟨_, rfl⟩
        obtain ⟨hk2, hh2⟩ : ∃ hk2, vhd n m[k].2 = hk2 := ⟨_, rfl⟩
        obtain ⟨D, hD⟩ : ∃ D, cmpP (cmpV n) l[k] m[k] = D := ⟨_, rfl⟩
        obtain ⟨s1, hs1⟩ : ∃ s1, l[k].1 = s1 := ⟨_, rfl⟩
        obtain ⟨s2, hs2⟩ : ∃ s2, m[k].1 = s2 := ⟨_, rfl⟩
        have hcall : Hid (∀ W, Below w.heap.size w W → Calls Tryd.prog 46 #[.agg (pvals l[k].1 (vhd n l[k].2) (.slice a1 m1 d1) (.slice a2 m2 d2)), .agg (pvals m[k].1 (vhd n m[k].2) (.slice a3 m3 d3) (.slice a4 m4 d4))] W fun e w' => e = .returned (.int .i64 (cmpP (cmpV n) l[k] m[k])) ∧ Below W.heap.size W w') := hcall.out
        rw [hs1, hh1] at hcall
        rw [hs2, hh2] at hcall
        rw [hs1] at q0
        rw [hs2] at r0
        rw [hh1] at q1 q2 q3 q4 q5 q6 q7
        rw [hh2] at r1 r2 r3 r4 r5 r6 r7
        rw [hD] at hcall hst
        have hst' := hide hst
        clear hst hrg hrd hrg' hrd' hh1 hh2 hD hs1 hs2
        have hbw : b < wr.heap.size := Nat.lt_of_lt_of_le hbl H.out.2.size
        have hbw' : b' < wr.heap.size := Nat.lt_of_lt_of_le hbl' H.out.2.size
        go_wp2_with fail
        go_region_held3 (fun w' => w'.cell? ⟨b, k * 10, none⟩ = some (.string s1) ∧ w'.cell? ⟨b, k * 10 + 1, none⟩ = some (.int .i64 hk1.kind) ∧ w'.cell? ⟨b, k * 10 + 2, none⟩ = some (.bool hk1.flag) ∧ w'.cell? ⟨b, k * 10 + 3, none⟩ = some (.bool hk1.neg) ∧ w'.cell? ⟨b, k * 10 + 4, none⟩ = some (.string hk1.dig) ∧ w'.cell? ⟨b, k * 10 + 5, none⟩ = some (.int .i64 hk1.exp) ∧ w'.cell? ⟨b, k * 10 + 6, none⟩ = some (.int .u64 hk1.bits) ∧ w'.cell? ⟨b, k * 10 + 7, none⟩ = some (.string hk1.text) ∧ w'.cell? ⟨b, k * 10 + 8, none⟩ = some (.slice a1 m1 d1) ∧ w'.cell? ⟨b, k * 10 + 9, none⟩ = some (.slice a2 m2 d2) ∧ w'.cell? ⟨b', k * 10, none⟩ = some (.string s2) ∧ w'.cell? ⟨b', k * 10 + 1, none⟩ = some (.int .i64 hk2.kind) ∧ w'.cell? ⟨b', k * 10 + 2, none⟩ = some (.bool hk2.flag) ∧ w'.cell? ⟨b', k * 10 + 3, none⟩ = some (.bool hk2.neg) ∧ w'.cell? ⟨b', k * 10 + 4, none⟩ = some (.string hk2.dig) ∧ w'.cell? ⟨b', k * 10 + 5, none⟩ = some (.int .i64 hk2.exp) ∧ w'.cell? ⟨b', k * 10 + 6, none⟩ = some (.int .u64 hk2.bits) ∧ w'.cell? ⟨b', k * 10 + 7, none⟩ = some (.string hk2.text) ∧ w'.cell? ⟨b', k * 10 + 8, none⟩ = some (.slice a3 m3 d3) ∧ w'.cell? ⟨b', k * 10 + 9, none⟩ = some (.slice a4 m4 d4)) (first | (simp [go_sem]; done) | go_keep) (first | (go_at_call 46; refine (hcall.out _ (by first | exact H.out.2 | exact H.out.2.drew | exact (H.out.2.drew).drew)).mono ?_; rintro e w1 ⟨rfl, hb1⟩; have K : ∀ (i j : Nat) (v : Value), i < wr.heap.size → wr.cell? ⟨i, j, none⟩ = some v → w1.cell? ⟨i, j, none⟩ = some v := fun i j v hi hv => (hb1.cell (p := ⟨i, j, none⟩) hi).trans hv; have z0 := K _ _ _ hbw q0; have z1 := K _ _ _ hbw q1; have z2 := K _ _ _ hbw q2; have z3 := K _ _ _ hbw q3; have z4 := K _ _ _ hbw q4; have z5 := K _ _ _ hbw q5; have z6 := K _ _ _ hbw q6; have z7 := K _ _ _ hbw q7; have z8 := K _ _ _ hbw q8; have z9 := K _ _ _ hbw q9; have y0 := K _ _ _ hbw' r0; have y1 := K _ _ _ hbw' r1; have y2 := K _ _ _ hbw' r2; have y3 := K _ _ _ hbw' r3; have y4 := K _ _ _ hbw' r4; have y5 := K _ _ _ hbw' r5; have y6 := K _ _ _ hbw' r6; have y7 := K _ _ _ hbw' r7; have y8 := K _ _ _ hbw' r8; have y9 := K _ _ _ hbw' r9; clear K))
        clear z0 z1 z2 z3 z4 z5 z6 z7 z8 z9 y0 y1 y2 y3 y4 y5 y6 y7 y8 y9
        have hb2 := hide (below_then H.out.2.drew hb1)
        by_cases hD0 : D = 0
        · subst hD0
          have hn := hide (show lexL (cmpP (cmpV n)) (l.drop (k + 1)) (m.drop (k + 1)) = C by rw [← H.out.1, hst'.out, if_pos rfl])
          go_wp2_with fail
          exact ⟨⟨k + 1, by go_num, by omega, hn.out, hb2.out⟩, by simp [intOf]; omega⟩
        · have hn : D = C := by rw [← H.out.1, hst'.out, if_neg hD0]
          clear hst' H hcall hb1 hC' hci hk63 ml hl2 hm2 hki hkl' hkm' q0 q1 q2 q3 q4 q5 q6 q7 q8 q9 r0 r1 r2 r3 r4 r5 r6 r7 r8 r9
          subst hn
          have hD1 : (D == 0) = false := by rw [beq_eq_false_iff_ne]; exact hD0
          have hD2 : decide (D = 0) = false := decide_eq_false hD0
          go_wp2_with fail
          go_ret
          exact ⟨rfl, hb2.out⟩
      · have hki : ¬ ((k : Int) < (l.length : Int)) := by omega
        have hE := lex_end (cmpP (cmpV n)) (l := l) (m := m) (k := k) (by omega)
        rw [H.out.1] at hE
        have hci2 : Hid (∀ w, Calls Tryd.prog 58 #[.int .i64 l.length, .int .i64 m.length] w fun e w' => e = .returned (.int .i64 C) ∧ w' = w) := fun w => by
          have := hci.out w
          rw [← hE] at this
          exact this
        clear hE
        go_wp2_with (go_at_call 58; refine (hci2.out _).mono ?_; rintro e w1 ⟨rfl, rfl⟩)
        go_ret
        exact ⟨rfl, H.out.2⟩
  by_cases q2 : (m.length : Int) < (l.length : Int)
  · go_enter Tryd.func44, Tryd.ntmps44
    go_wp2_with fail
    go_loopw [14] (fun i w' => ∃ k : Nat, i = .int .i64 k ∧ k ≤ m.length ∧ Hid (lexL (cmpP (cmpV n)) (l.drop k) (m.drop k) = C ∧ Below w.heap.size w w')) (fun i _ => m.length - (intOf i).toNat)
    case atStart => exact ⟨0, rfl, Nat.zero_le _, hC'.out, Below.refl _ _⟩
    case round =>
      obtain ⟨k, rfl, hk, H⟩ := hrel
      by_cases hkl0 : k < m.length
      · have hki : (k : Int) < (m.length : Int) := by omega
        have hk63 : (k : Int) < 9223372036854775807 := by omega
        have hkl : k < l.length := by omega
        have hkm : k < m.length := by omega
        have hkl' : (k : Int) < (l.length : Int) := by omega
        have hkm' : (k : Int) < (m.length : Int) := by omega
        obtain ⟨ns1, ls1, hrg, hrd⟩ := hP.out k hkl
        obtain ⟨q0, q1, q2, q3, q4, q5, q6, q7, q8, q9⟩ := range10 (rangeAt_below hrg H.out.2 hbl)
        obtain ⟨ns2, ls2, hrg', hrd'⟩ := hQ.out k hkm
        obtain ⟨r0, r1, r2, r3, r4, r5, r6, r7, r8, r9⟩ := range10 (rangeAt_below hrg' H.out.2 hbl')
        obtain ⟨a1, m1, d1, a2, m2, d2, rfl, rfl⟩ := hrd.shape
        obtain ⟨a3, m3, d3, a4, m4, d4, rfl, rfl⟩ := hrd'.shape
        have hst := lex_step (cmpP (cmpV n)) hkl hkm
        have hcall := hide (fun W (hb : Below w.heap.size w W) => cpair_any n ih l[k].1 m[k].1 l[k].2 m[k].2 _ _ _ _ W (hrd.below hb) (hrd'.below hb) (hx.out _ (List.getElem_mem _)) (hy.out _ (List.getElem_mem _)))
        obtain ⟨hk1, hh1⟩ : ∃ hk1, vhd n l[k].2 = hk1 := ⟨_, rfl⟩
        obtain ⟨hk2, hh2⟩ : ∃ hk2, vhd n m[k].2 = hk2 := ⟨_, rfl⟩
        obtain ⟨D, hD⟩ : ∃ D, cmpP (cmpV n) l[k] m[k] = D := ⟨_, rfl⟩
        obtain ⟨s1, hs1⟩ : ∃ s1, l[k].1 = s1 := ⟨_, rfl⟩
        obtain ⟨s2, hs2⟩ : ∃ s2, m[k].1 = s2 := ⟨_, rfl⟩
        have hcall : Hid (∀ W, Below w.heap.size w W → Calls Tryd.prog 46 #[.agg (pvals l[k].1 (vhd n l[k].2) (.slice a1 m1 d1) (.slice a2 m2 d2)), .agg (pvals m[k].1 (vhd n m[k].2) (.slice a3 m3 d3) (.slice a4 m4 d4))] W fun e w' => e = .returned (.int .i64 (cmpP (cmpV n) l[k] m[k])) ∧ Below W.heap.size W w') := hcall.out
        rw [hs1, hh1] at hcall
        rw [hs2, hh2] at hcall
        rw [hs1] at q0
        rw [hs2] at r0
        rw [hh1] at q1 q2 q3 q4 q5 q6 q7
        rw [hh2] at r1 r2 r3 r4 r5 r6 r7
        rw [hD] at hcall hst
        have hst' := hide hst
        clear hst hrg hrd hrg' hrd' hh1 hh2 hD hs1 hs2
        have hbw : b < wr.heap.size := Nat.lt_of_lt_of_le hbl H.out.2.size
        have hbw' : b' < wr.heap.size := Nat.lt_of_lt_of_le hbl' H.out.2.size
        go_wp2_with fail
        go_region_held3 (fun w' => w'.cell? ⟨b, k * 10, none⟩ = some (.string s1) ∧ w'.cell? ⟨b, k * 10 + 1, none⟩ = some (.int .i64 hk1.kind) ∧ w'.cell? ⟨b, k * 10 + 2, none⟩ = some (.bool hk1.flag) ∧ w'.cell? ⟨b, k * 10 + 3, none⟩ = some (.bool hk1.neg) ∧ w'.cell? ⟨b, k * 10 + 4, none⟩ = some (.string hk1.dig) ∧ w'.cell? ⟨b, k * 10 + 5, none⟩ = some (.int .i64 hk1.exp) ∧ w'.cell? ⟨b, k * 10 + 6, none⟩ = some (.int .u64 hk1.bits) ∧ w'.cell? ⟨b, k * 10 + 7, none⟩ = some (.string hk1.text) ∧ w'.cell? ⟨b, k * 10 + 8, none⟩ = some (.slice a1 m1 d1) ∧ w'.cell? ⟨b, k * 10 + 9, none⟩ = some (.slice a2 m2 d2) ∧ w'.cell? ⟨b', k * 10, none⟩ = some (.string s2) ∧ w'.cell? ⟨b', k * 10 + 1, none⟩ = some (.int .i64 hk2.kind) ∧ w'.cell? ⟨b', k * 10 + 2, none⟩ = some (.bool hk2.flag) ∧ w'.cell? ⟨b', k * 10 + 3, none⟩ = some (.bool hk2.neg) ∧ w'.cell? ⟨b', k * 10 + 4, none⟩ = some (.string hk2.dig) ∧ w'.cell? ⟨b', k * 10 + 5, none⟩ = some (.int .i64 hk2.exp) ∧ w'.cell? ⟨b', k * 10 + 6, none⟩ = some (.int .u64 hk2.bits) ∧ w'.cell? ⟨b', k * 10 + 7, none⟩ = some (.string hk2.text) ∧ w'.cell? ⟨b', k * 10 + 8, none⟩ = some (.slice a3 m3 d3) ∧ w'.cell? ⟨b', k * 10 + 9, none⟩ = some (.slice a4 m4 d4)) (first | (simp [go_sem]; done) | go_keep) (first | (go_at_call 46; refine (hcall.out _ (by first | exact H.out.2 | exact H.out.2.drew | exact (H.out.2.drew).drew)).mono ?_; rintro e w1 ⟨rfl, hb1⟩; have K : ∀ (i j : Nat) (v : Value), i < wr.heap.size → wr.cell? ⟨i, j, none⟩ = some v → w1.cell? ⟨i, j, none⟩ = some v := fun i j v hi hv => (hb1.cell (p := ⟨i, j, none⟩) hi).trans hv; have z0 := K _ _ _ hbw q0; have z1 := K _ _ _ hbw q1; have z2 := K _ _ _ hbw q2; have z3 := K _ _ _ hbw q3; have z4 := K _ _ _ hbw q4; have z5 := K _ _ _ hbw q5; have z6 := K _ _ _ hbw q6; have z7 := K _ _ _ hbw q7; have z8 := K _ _ _ hbw q8; have z9 := K _ _ _ hbw q9; have y0 := K _ _ _ hbw' r0; have y1 := K _ _ _ hbw' r1; have y2 := K _ _ _ hbw' r2; have y3 := K _ _ _ hbw' r3; have y4 := K _ _ _ hbw' r4; have y5 := K _ _ _ hbw' r5; have y6 := K _ _ _ hbw' r6; have y7 := K _ _ _ hbw' r7; have y8 := K _ _ _ hbw' r8; have y9 := K _ _ _ hbw' r9; clear K))
        clear z0 z1 z2 z3 z4 z5 z6 z7 z8 z9 y0 y1 y2 y3 y4 y5 y6 y7 y8 y9
        have hb2 := hide (below_then H.out.2.drew hb1)
        by_cases hD0 : D = 0
        · subst hD0
          have hn := hide (show lexL (cmpP (cmpV n)) (l.drop (k + 1)) (m.drop (k + 1)) = C by rw [← H.out.1, hst'.out, if_pos rfl])
          go_wp2_with fail
          exact ⟨⟨k + 1, by go_num, by omega, hn.out, hb2.out⟩, by simp [intOf]; omega⟩
        · have hn : D = C := by rw [← H.out.1, hst'.out, if_neg hD0]
          clear hst' H hcall hb1 hC' hci hk63 ml hl2 hm2 hki hkl' hkm' q0 q1 q2 q3 q4 q5 q6 q7 q8 q9 r0 r1 r2 r3 r4 r5 r6 r7 r8 r9
          subst hn
          have hD1 : (D == 0) = false := by rw [beq_eq_false_iff_ne]; exact hD0
          have hD2 : decide (D = 0) = false := decide_eq_false hD0
          go_wp2_with fail
          go_ret
          exact ⟨rfl, hb2.out⟩
      · have hki : ¬ ((k : Int) < (m.length : Int)) := by omega
        have hE := lex_end (cmpP (cmpV n)) (l := l) (m := m) (k := k) (by omega)
        rw [H.out.1] at hE
        have hci2 : Hid (∀ w, Calls Tryd.prog 58 #[.int .i64 l.length, .int .i64 m.length] w fun e w' => e = .returned (.int .i64 C) ∧ w' = w) := fun w => by
          have := hci.out w
          rw [← hE] at this
          exact this
        clear hE
        go_wp2_with (go_at_call 58; refine (hci2.out _).mono ?_; rintro e w1 ⟨rfl, rfl⟩)
        go_ret
        exact ⟨rfl, H.out.2⟩
  · have hml := hide (show m.length = l.length by omega)
    rw [hml.out] at hm1 ⊢
    clear q q2 hKi
    go_enter Tryd.func44, Tryd.ntmps44
    go_wp2_with fail
    go_loopw [14] (fun i w' => ∃ k : Nat, i = .int .i64 k ∧ k ≤ l.length ∧ Hid (lexL (cmpP (cmpV n)) (l.drop k) (m.drop k) = C ∧ Below w.heap.size w w')) (fun i _ => l.length - (intOf i).toNat)
    case atStart => exact ⟨0, rfl, Nat.zero_le _, hC'.out, Below.refl _ _⟩
    case round =>
      obtain ⟨k, rfl, hk, H⟩ := hrel
      by_cases hkl0 : k < l.length
      · have hki : (k : Int) < (l.length : Int) := by omega
        have hk63 : (k : Int) < 9223372036854775807 := by omega
        have hkl : k < l.length := by omega
        have hkm : k < m.length := by rw [hml.out]; omega
        have hkl' : (k : Int) < (l.length : Int) := by omega
        have hkm' : (k : Int) < (l.length : Int) := by omega
        obtain ⟨ns1, ls1, hrg, hrd⟩ := hP.out k hkl
        obtain ⟨q0, q1, q2, q3, q4, q5, q6, q7, q8, q9⟩ := range10 (rangeAt_below hrg H.out.2 hbl)
        obtain ⟨ns2, ls2, hrg', hrd'⟩ := hQ.out k hkm
        obtain ⟨r0, r1, r2, r3, r4, r5, r6, r7, r8, r9⟩ := range10 (rangeAt_below hrg' H.out.2 hbl')
        obtain ⟨a1, m1, d1, a2, m2, d2, rfl, rfl⟩ := hrd.shape
        obtain ⟨a3, m3, d3, a4, m4, d4, rfl, rfl⟩ := hrd'.shape
        have hst := lex_step (cmpP (cmpV n)) hkl hkm
        have hcall := hide (fun W (hb : Below w.heap.size w W) => cpair_any n ih l[k].1 m[k].1 l[k].2 m[k].2 _ _ _ _ W (hrd.below hb) (hrd'.below hb) (hx.out _ (List.getElem_mem _)) (hy.out _ (List.getElem_mem _)))
        obtain ⟨hk1, hh1⟩ : ∃ hk1, vhd n l[k].2 = hk1 := ⟨_, rfl⟩
        obtain ⟨hk2, hh2⟩ : ∃ hk2, vhd n m[k].2 = hk2 := ⟨_, rfl⟩
        obtain ⟨D, hD⟩ : ∃ D, cmpP (cmpV n) l[k] m[k] = D := ⟨_, rfl⟩
        obtain ⟨s1, hs1⟩ : ∃ s1, l[k].1 = s1 := ⟨_, rfl⟩
        obtain ⟨s2, hs2⟩ : ∃ s2, m[k].1 = s2 := ⟨_, rfl⟩
        have hcall : Hid (∀ W, Below w.heap.size w W → Calls Tryd.prog 46 #[.agg (pvals l[k].1 (vhd n l[k].2) (.slice a1 m1 d1) (.slice a2 m2 d2)), .agg (pvals m[k].1 (vhd n m[k].2) (.slice a3 m3 d3) (.slice a4 m4 d4))] W fun e w' => e = .returned (.int .i64 (cmpP (cmpV n) l[k] m[k])) ∧ Below W.heap.size W w') := hcall.out
        rw [hs1, hh1] at hcall
        rw [hs2, hh2] at hcall
        rw [hs1] at q0
        rw [hs2] at r0
        rw [hh1] at q1 q2 q3 q4 q5 q6 q7
        rw [hh2] at r1 r2 r3 r4 r5 r6 r7
        rw [hD] at hcall hst
        have hst' := hide hst
        clear hst hrg hrd hrg' hrd' hh1 hh2 hD hs1 hs2
        have hbw : b < wr.heap.size := Nat.lt_of_lt_of_le hbl H.out.2.size
        have hbw' : b' < wr.heap.size := Nat.lt_of_lt_of_le hbl' H.out.2.size
        go_wp2_with fail
        go_region_held3 (fun w' => w'.cell? ⟨b, k * 10, none⟩ = some (.string s1) ∧ w'.cell? ⟨b, k * 10 + 1, none⟩ = some (.int .i64 hk1.kind) ∧ w'.cell? ⟨b, k * 10 + 2, none⟩ = some (.bool hk1.flag) ∧ w'.cell? ⟨b, k * 10 + 3, none⟩ = some (.bool hk1.neg) ∧ w'.cell? ⟨b, k * 10 + 4, none⟩ = some (.string hk1.dig) ∧ w'.cell? ⟨b, k * 10 + 5, none⟩ = some (.int .i64 hk1.exp) ∧ w'.cell? ⟨b, k * 10 + 6, none⟩ = some (.int .u64 hk1.bits) ∧ w'.cell? ⟨b, k * 10 + 7, none⟩ = some (.string hk1.text) ∧ w'.cell? ⟨b, k * 10 + 8, none⟩ = some (.slice a1 m1 d1) ∧ w'.cell? ⟨b, k * 10 + 9, none⟩ = some (.slice a2 m2 d2) ∧ w'.cell? ⟨b', k * 10, none⟩ = some (.string s2) ∧ w'.cell? ⟨b', k * 10 + 1, none⟩ = some (.int .i64 hk2.kind) ∧ w'.cell? ⟨b', k * 10 + 2, none⟩ = some (.bool hk2.flag) ∧ w'.cell? ⟨b', k * 10 + 3, none⟩ = some (.bool hk2.neg) ∧ w'.cell? ⟨b', k * 10 + 4, none⟩ = some (.string hk2.dig) ∧ w'.cell? ⟨b', k * 10 + 5, none⟩ = some (.int .i64 hk2.exp) ∧ w'.cell? ⟨b', k * 10 + 6, none⟩ = some (.int .u64 hk2.bits) ∧ w'.cell? ⟨b', k * 10 + 7, none⟩ = some (.string hk2.text) ∧ w'.cell? ⟨b', k * 10 + 8, none⟩ = some (.slice a3 m3 d3) ∧ w'.cell? ⟨b', k * 10 + 9, none⟩ = some (.slice a4 m4 d4)) (first | (simp [go_sem]; done) | go_keep) (first | (go_at_call 46; refine (hcall.out _ (by first | exact H.out.2 | exact H.out.2.drew | exact (H.out.2.drew).drew)).mono ?_; rintro e w1 ⟨rfl, hb1⟩; have K : ∀ (i j : Nat) (v : Value), i < wr.heap.size → wr.cell? ⟨i, j, none⟩ = some v → w1.cell? ⟨i, j, none⟩ = some v := fun i j v hi hv => (hb1.cell (p := ⟨i, j, none⟩) hi).trans hv; have z0 := K _ _ _ hbw q0; have z1 := K _ _ _ hbw q1; have z2 := K _ _ _ hbw q2; have z3 := K _ _ _ hbw q3; have z4 := K _ _ _ hbw q4; have z5 := K _ _ _ hbw q5; have z6 := K _ _ _ hbw q6; have z7 := K _ _ _ hbw q7; have z8 := K _ _ _ hbw q8; have z9 := K _ _ _ hbw q9; have y0 := K _ _ _ hbw' r0; have y1 := K _ _ _ hbw' r1; have y2 := K _ _ _ hbw' r2; have y3 := K _ _ _ hbw' r3; have y4 := K _ _ _ hbw' r4; have y5 := K _ _ _ hbw' r5; have y6 := K _ _ _ hbw' r6; have y7 := K _ _ _ hbw' r7; have y8 := K _ _ _ hbw' r8; have y9 := K _ _ _ hbw' r9; clear K))
        clear z0 z1 z2 z3 z4 z5 z6 z7 z8 z9 y0 y1 y2 y3 y4 y5 y6 y7 y8 y9
        have hb2 := hide (below_then H.out.2.drew hb1)
        by_cases hD0 : D = 0
        · subst hD0
          have hn := hide (show lexL (cmpP (cmpV n)) (l.drop (k + 1)) (m.drop (k + 1)) = C by rw [← H.out.1, hst'.out, if_pos rfl])
          go_wp2_with fail
          exact ⟨⟨k + 1, by go_num, by omega, hn.out, hb2.out⟩, by simp [intOf]; omega⟩
        · have hn : D = C := by rw [← H.out.1, hst'.out, if_neg hD0]
          clear hst' H hcall hb1 hC' hci hk63 ml hl2 hm2 hki hkl' hkm' q0 q1 q2 q3 q4 q5 q6 q7 q8 q9 r0 r1 r2 r3 r4 r5 r6 r7 r8 r9
          subst hn
          have hD1 : (D == 0) = false := by rw [beq_eq_false_iff_ne]; exact hD0
          have hD2 : decide (D = 0) = false := decide_eq_false hD0
          go_wp2_with fail
          go_ret
          exact ⟨rfl, hb2.out⟩
      · have hki : ¬ ((k : Int) < (l.length : Int)) := by omega
        have hE := lex_end (cmpP (cmpV n)) (l := l) (m := m) (k := k) (by rw [hml.out]; omega)
        rw [H.out.1] at hE
        have hci2 : Hid (∀ w, Calls Tryd.prog 58 #[.int .i64 l.length, .int .i64 l.length] w fun e w' => e = .returned (.int .i64 C) ∧ w' = w) := fun w => by
          have := hci.out w
          rw [← hE] at this
          rw [hml.out] at this; exact this
        clear hE
        go_wp2_with (go_at_call 58; refine (hci2.out _).mono ?_; rintro e w1 ⟨rfl, rfl⟩)
        go_ret
        exact ⟨rfl, H.out.2⟩
end Go.Proofs.YtemlpjnophijfaaDoor
