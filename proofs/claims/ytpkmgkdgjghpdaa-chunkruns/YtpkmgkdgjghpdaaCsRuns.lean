/- calamuslaw06.ChunkRuns: walked. -/
import Derived.Test.YtpkmgkdgjghpdaaCrRuns
namespace Go.Proofs.Ytpkmgkdgjghpdaa
open Go.RowKit
set_option linter.unusedSimpArgs false
set_option linter.unusedVariables false
theorem step_any {w W : World} {v : Value} {gone lim taken once : Nat} {all : List UInt8} (R : Rn w v gone lim all taken once W) (k n : Int) (vb : Value) (l : List UInt8) (sl : SL W vb l) (hsl : l ≠ [] → ∀ q, vb.ownBlock = some q → q < w.heap.size) (ok : OpOk (k, n, l)) (hl : l.length ≤ 131072) :
    Calls Try.prog 10 #[.pointer (some ⟨w.heap.size, 0, none⟩), .pointer (some ⟨w.heap.size + 1, 0, none⟩), .agg #[.int .i64 k, .int .i64 n, vb]] W fun r w' => r = .returned (.bool true) ∧ ∃ v' gone' all' taken' once', Rn w v' gone' lim all' taken' once' w' := by
  obtain ⟨a, c, e, _, _⟩ := sl.len
  obtain ⟨o1, o2, o3, o4, o5⟩ := ok
  by_cases h1 : k = 1
  · subst h1; exact step_feed R n vb l sl hsl hl
  by_cases h2 : k = 2
  · subst h2; exact step_take R n o3 o4 vb a _ c e
  by_cases h3 : k = 3
  · subst h3; exact step_peek R n o3 o4 vb a _ c e
  by_cases h4 : k = 4
  · subst h4; exact step_back R n o3 o4 vb a _ c e
  · exact step_other R k n ⟨h1, h2, h3, h4⟩ vb a _ c e
theorem new_ex (n : Nat) (h : n ≤ 65536) (w : World) : Calls Try.prog 8 #[.int .i64 n] w fun r w' => r = .returned (.tuple #[.pointer (some ⟨w.heap.size, 0, none⟩), .int .i64 0]) ∧ CB w' w.heap.size n (.slice none 0 0) 0 0 0 ∧ Below w.heap.size w w' ∧ w'.heap.size = w.heap.size + 1 := by
  have h2 : ¬ (65536 < (n : Int)) := by omega
  go_enter Try.func8, Try.ntmps8
  go_wp2
  go_ret2
  exact ⟨rfl, heap_alloc_new _ _, below_al (Below.refl _ _), by simp⟩
theorem tot_at (os : List OpT) (k : Nat) (h : k < os.length) : os[k].2.2.length ≤ tot os os.length := by
  have h1 := tot_succ os k h
  have h2 := tot_le os (k + 1)
  omega
set_option maxHeartbeats 4000000 in
set_option maxRecDepth 100000 in
theorem runs_law (lim : Int) (v : Value) (os : List OpT) (w : World) (hn1 : -9223372036854775808 ≤ lim) (hn2 : lim ≤ 9223372036854775807) (ol : OL w v os) :
    Calls Try.prog 3 #[.int .i64 lim, v] w fun r w' => r = .returned (.bool true) ∧ Below w.heap.size w w' := by
  obtain ⟨a, c, rfl, h1, h2⟩ := ol.len
  have ml : maxLen = 9223372036854775807 := rfl
  have lg := hide (large_any _ _ _ ol)
  have aw := hide awake_any
  have O := hide ol
  clear ol
  cases hlg : lrg os
  · rw [hlg] at lg
    have hsm : os.length ≤ 2000 ∧ tot os os.length ≤ 131072 := by
      unfold lrg at hlg
      simp at hlg
      omega
    have hsm1 := hsm.1
    have hsm2 := hide hsm.2
    clear hlg hsm
    by_cases hlim : lim < 0 ∨ 65536 < lim
    · have nw := hide (new_no lim hlim)
      have hb : (decide (lim < 0) || decide (65536 < lim)) = true := by simp; omega
      rcases hlim with hlm | hlm
      · clear hb
        go_enter Try.func3, Try.ntmps3
        go_wp2_with (first
          | (go_at_call 7; refine lg.out.mono ?_; rintro e w1 ⟨rfl, hw1⟩; have hw1s := hw1.symm; clear hw1; subst hw1s)
          | (go_at_call 8; refine (nw.out _).mono ?_; rintro e w1 ⟨rfl, hw1⟩; have hw1s := hw1.symm; clear hw1; subst hw1s)
          | (go_at_call 9; refine (aw.out _).mono ?_; rintro e w3 ⟨rfl, hb3⟩))
        go_ret
        exact ⟨rfl, hb3⟩
      · have hlm2 : ¬ (lim < 0) := by omega
        clear hb
        go_enter Try.func3, Try.ntmps3
        go_wp2_with (first
          | (go_at_call 7; refine lg.out.mono ?_; rintro e w1 ⟨rfl, hw1⟩; have hw1s := hw1.symm; clear hw1; subst hw1s)
          | (go_at_call 8; refine (nw.out _).mono ?_; rintro e w1 ⟨rfl, hw1⟩; have hw1s := hw1.symm; clear hw1; subst hw1s)
          | (go_at_call 9; refine (aw.out _).mono ?_; rintro e w3 ⟨rfl, hb3⟩))
        go_ret
        exact ⟨rfl, hb3⟩
    · obtain ⟨ln, rfl⟩ := Int.eq_ofNat_of_zero_le (show 0 ≤ lim by omega)
      have hln : ln ≤ 65536 := by omega
      have hlm1 : ¬ (65536 < (ln : Int)) := by omega
      clear hlim
      have nw := hide (new_ex ln hln)
      go_enter Try.func3, Try.ntmps3
      go_wp2_with (first
        | (go_at_call 7; refine lg.out.mono ?_; rintro e w1 ⟨rfl, hw1⟩; have hw1s := hw1.symm; clear hw1; subst hw1s)
        | (go_at_call 8; refine (nw.out _).mono ?_; rintro e w1 ⟨rfl, hc1, hb1, hs1⟩; have C1 := hide hc1; have B1 := hide hb1; have Z1 := hide hs1; clear hc1 hb1 hs1))
      have R1 : Hid (Rn w (.slice none 0 0) 0 ln [] 0 0 (w1.alloc (.cells #[.int .i64 ln, .int .i64 0, .int .i64 0, .string ⟨#[]⟩] 31))) := by
        refine ⟨(Ch.new (B := w.heap.size + 2) (CB.same C1.out (Below.heap_alloc _ _ _ C1.out.lt)) hln (by omega) (by simp [Z1.out])), ?_, below_al B1.out⟩
        show _ = _
        rw [← Z1.out]
        exact heap_alloc_new _ _
      rw [Z1.out]
      clear C1 B1
      go_loopw [8] (fun i w' => ∃ (k : Nat) (v : Value) (gone : Nat) (all : List UInt8) (taken once : Nat), i = .int .i64 k ∧ k ≤ os.length ∧ Hid (Rn w v gone ln all taken once w')) (fun i _ => os.length - (intOf i).toNat)
      case atStart => exact ⟨0, _, _, _, _, _, rfl, Nat.zero_le _, R1.out⟩
      case round =>
        obtain ⟨k, v, gone, all, taken, once, rfl, hk, R⟩ := hrel
        by_cases hkl : k < os.length
        · have hki : (k : Int) < (os.length : Int) := by omega
          obtain ⟨b, o, c', vb, e, k1, k2, k3, k4, k5, k6, k7, k8⟩ := O.out.at k hkl
          simp only [Value.slice.injEq] at e
          obtain ⟨rfl, _, rfl⟩ := e
          have d0 := (R.out.below.cell (p := ⟨b, o + k * 3, none⟩) k3).trans k4
          have d1 := (R.out.below.cell (p := ⟨b, o + k * 3 + 1, none⟩) k3).trans k5
          have d2 := (R.out.below.cell (p := ⟨b, o + k * 3 + 2, none⟩) k3).trans k6
          have stp := hide (step_any R.out os[k].1 os[k].2.1 vb os[k].2.2 (k7.below R.out.below) (fun hne q hq => k7.lt hne q hq) k8 (Nat.le_trans (tot_at os k hkl) hsm2.out))
          obtain ⟨ab, cb, rfl, _, _⟩ := k7.len
          obtain ⟨x1, hx1⟩ : ∃ x, os[k].1 = x := ⟨_, rfl⟩
          obtain ⟨x2, hx2⟩ : ∃ x, os[k].2.1 = x := ⟨_, rfl⟩
          obtain ⟨x3, hx3⟩ : ∃ x, os[k].2.2.length = x := ⟨_, rfl⟩
          rw [hx1, hx2] at stp
          try rw [hx3] at stp
          rw [hx1] at d0
          rw [hx2] at d1
          rw [hx3] at d2
          clear k4 k5 k6 k7 k8 hx1 hx2 hx3
          go_wp2_with fail
          refine stp.out.mono ?_
          rintro e w2 ⟨rfl, v2, g2, all2, t2, o2, R2⟩
          replace R2 := hide R2
          go_wp2_with fail
          exact ⟨⟨k + 1, v2, g2, all2, t2, o2, by go_num, by omega, R2.out⟩, by simp [intOf]; omega⟩
        · have hki : ¬ ((k : Int) < (os.length : Int)) := by omega
          have stp := hide (fun W (q : Rn w v gone ln all taken once W) => step_any q 0 0 (.slice none 0 0) [] (Or.inl ⟨rfl, rfl⟩) (fun h => absurd rfl h) ⟨by decide, by decide, by decide, by decide, by decide⟩ (by decide))
          go_wp2_with (first
            | (go_at_call 9; refine (aw.out _).mono ?_; rintro e w3 ⟨rfl, hb3⟩; have R3 := hide (R.out.then hb3); clear hb3)
            | (go_at_call 10; refine (stp.out _ (by first | exact R3.out | exact R3.out.then (below_al (Below.refl _ _)))).mono ?_; rintro e w4 ⟨rfl, v4, g4, all4, t4, o4, R4⟩; replace R4 := hide R4))
          go_ret
          exact ⟨rfl, R4.out.below⟩
  · rw [hlg] at lg
    clear hlg
    go_enter Try.func3, Try.ntmps3
    go_wp2_with (go_at_call 7; refine lg.out.mono ?_; rintro e w1 ⟨rfl, hw1⟩; have hw1s := hw1.symm; clear hw1; subst hw1s)
    go_ret
    exact ⟨rfl, Below.refl _ _⟩
end Go.Proofs.Ytpkmgkdgjghpdaa
