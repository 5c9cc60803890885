/- calamuslaw06.step, all kinds; ChunkRuns: walked. -/
import Derived.Test.YtpkmgkdgjghpdaaCqStep
namespace Go.Proofs.Ytpkmgkdgjghpdaa
open Go.RowKit
set_option linter.unusedSimpArgs false
set_option linter.unusedVariables false
section
variable {w W : World} {v : Value} {gone lim taken once : Nat} {all : List UInt8}
set_option maxHeartbeats 4000000 in
set_option maxRecDepth 100000 in
theorem step_peek (R : Rn w v gone lim all taken once W) (n : Int) (hn1 : -9223372036854775808 ≤ n) (hn2 : n ≤ 9223372036854775807) (vb : Value) (a : Option Addr) (m c : Nat) (hvb : vb = .slice a m c) :
    Calls Try.prog 10 #[.pointer (some ⟨w.heap.size, 0, none⟩), .pointer (some ⟨w.heap.size + 1, 0, none⟩), opV 3 n vb] W fun r w' => r = .returned (.bool true) ∧ ∃ v' gone' all' taken' once', Rn w v' gone' lim all' taken' once' w' := by
  subst hvb
  have O0 := hide (OB.new W 3 n (.slice a m c))
  have R0 : Hid (∀ o, Rn w v gone lim all taken once (W.alloc o)) := fun o => R.then (below_al (Below.refl _ _))
  have VW : Hid (∀ k, W.heap.size ≤ k → v.ownBlock ≠ some k) := fun k hk e => by have := (R.ch.own.row _ e).2; omega
  have hz := R.lt
  have hl1 := R.ch.l1
  have hl2 := R.ch.l2
  have ht1 := R.ch.t1
  have ht3 := R.ch.t3
  have z0 : ∀ o, (W.alloc o).heap.size = W.heap.size + 1 := fun o => by simp
  clear R
  unfold opV
  by_cases hno : n < 0 ∨ ((all.length - taken : Nat) : Int) < n
  · have hno' := hide hno
    clear hno
    go_enter Try.func10, Try.ntmps10
    go_wp2_with fail
    refine (peek_no n (R0.out _).ch hno'.out).mono ?_
    rintro e w2 ⟨rfl, m2, hm2⟩
    have R2 : Hid (Rn w v gone lim all taken once w2) := by subst hm2; exact (R0.out _).then (below_drewN _ _ _)
    have O2 : Hid (OB w2 W.heap.size 3 n (.slice a m c)) := by subst hm2; exact O0.out
    clear hm2
    obtain ⟨c0, c1, c2⟩ := O2.out.cells
    go_wp2_with fail
    refine (rpeek_no n hn1 hn2 R2.out.rs (by omega) (by omega) hno'.out).mono ?_
    rintro e w3 ⟨rfl, m3, hm3⟩
    have R3 : Hid (Rn w v gone lim all taken once w3) := by subst hm3; exact R2.out.then (below_drewN _ _ _)
    clear hm3
    go_wp2_with fail
    refine (told_nil _).mono ?_
    rintro e w4 ⟨rfl, hm4⟩
    have R4 : Hid (Rn w v gone lim all taken once w4) := by subst hm4; exact R3.out
    clear hm4
    go_wp2_with fail
    go_ret
    exact ⟨rfl, _, _, _, _, _, R4.out⟩
  · obtain ⟨q, rfl⟩ := Int.eq_ofNat_of_zero_le (show 0 ≤ n by omega)
    have hq : q ≤ all.length - taken := by omega
    clear hno
    obtain ⟨X, hX⟩ : ∃ X, (all.drop taken).take q = X := ⟨_, rfl⟩
    have hXl := hide (show X.length = q by rw [← hX, List.length_take, List.length_drop]; omega)
    go_enter Try.func10, Try.ntmps10
    go_wp2_with fail
    refine (peek_any q (R0.out _).ch hq).mono ?_
    rintro e w2 ⟨rfl, hr2, hb2⟩
    have R2 := hide ((R0.out _).then hb2)
    have O2 := hide (O0.out.same (hb2.block _ (by simp)))
    rw [hX] at hr2
    rw [z0] at hr2 ⊢
    have X2 := hide hr2
    clear hr2 hb2
    obtain ⟨c0, c1, c2⟩ := O2.out.cells
    go_wp2_with fail
    refine (rpeek_any q R2.out.rs (by omega) hq (by omega)).mono ?_
    rintro e w3 ⟨rfl, m3, hm3⟩
    rw [hX]
    have R3 : Hid (Rn w v gone lim all taken once w3) := by subst hm3; exact R2.out.then (below_drewN _ _ _)
    have X3 : Hid (RB w3 (W.heap.size + 1) X) := by subst hm3; exact X2.out
    clear hm3
    have tl : Hid (Calls Try.prog 22 #[.slice (some ⟨W.heap.size + 1, 0, none⟩) q q, .bool true, .string (mkB X), .bool true] w3 fun r w' => r = .returned (.bool true) ∧ Fr (W.heap.size + 1) (.slice none 0 0) w3 w') := by
      have := told_any _ X w3 X3.out (by rw [hXl.out]; omega)
      rw [hXl.out] at this
      exact this
    go_wp2_with fail
    refine tl.out.mono ?_
    rintro e w4 ⟨rfl, hf4⟩
    have R4 : Hid (Rn w v gone lim all taken once w4) := ⟨R3.out.ch.frk hf4 (by omega) (VW.out _ (by omega)), R3.out.rs.frk hf4 (by omega), below_frk R3.out.below hf4 (by omega)⟩
    clear hf4
    go_wp2_with fail
    go_ret
    exact ⟨rfl, _, _, _, _, _, R4.out⟩
set_option maxHeartbeats 4000000 in
set_option maxRecDepth 100000 in
theorem step_back (R : Rn w v gone lim all taken once W) (n : Int) (hn1 : -9223372036854775808 ≤ n) (hn2 : n ≤ 9223372036854775807) (vb : Value) (a : Option Addr) (m c : Nat) (hvb : vb = .slice a m c) :
    Calls Try.prog 10 #[.pointer (some ⟨w.heap.size, 0, none⟩), .pointer (some ⟨w.heap.size + 1, 0, none⟩), opV 4 n vb] W fun r w' => r = .returned (.bool true) ∧ ∃ v' gone' all' taken' once', Rn w v' gone' lim all' taken' once' w' := by
  subst hvb
  have O0 := hide (OB.new W 4 n (.slice a m c))
  have R0 : Hid (∀ o, Rn w v gone lim all taken once (W.alloc o)) := fun o => R.then (below_al (Below.refl _ _))
  have VW : Hid (∀ k, W.heap.size ≤ k → v.ownBlock ≠ some k) := fun k hk e => by have := (R.ch.own.row _ e).2; omega
  have hz := R.lt
  have hl1 := R.ch.l1
  have hl2 := R.ch.l2
  have ht1 := R.ch.t1
  have ht3 := R.ch.t3
  obtain ⟨br, hbr⟩ : ∃ br, backR taken once n = br := ⟨_, rfl⟩
  clear R
  unfold opV
  have bk1 := hide (fun o => back_any n hn1 hn2 ((R0.out o).then (Below.refl _ _).drew).ch)
  have rb1 := hide (fun W2 (s : RS W2 (w.heap.size + 1) lim all taken once) => rback_any n hn1 hn2 s ht1 (by omega))
  rw [hbr] at bk1 rb1
  go_enter Try.func10, Try.ntmps10
  go_wp2_with fail
  go_region_with (first
    | (go_at_call 14; refine (bk1.out _).mono ?_; rintro e w2 ⟨rfl, hc2, hf2⟩; obtain ⟨rs2, bl2⟩ := ((R0.out _).then (Below.refl _ _).drew).chs hf2; have C2 := hide hc2; have S2 := hide rs2; have B2 := hide bl2; have O2 : Hid (OB w2 W.heap.size 4 n (.slice a m c)) := (O0.out.same (hf2.block _ (show W.heap.size < (W.alloc _).heap.size by simp) (by omega) (VW.out _ (Nat.le_refl _)))); clear hc2 hf2 rs2 bl2; obtain ⟨c0, c1, c2⟩ := O2.out.cells)
    | (go_at_call 24; refine (rb1.out _ S2.out).mono ?_; rintro e w3 ⟨rfl, hs3, hf3⟩; obtain ⟨hc3, hb3⟩ := Rn.rss C2.out B2.out hf3; have R3 : Hid (Rn w v gone lim all (backT taken once n) once w3) := ⟨hc3, hs3, hb3⟩; clear hs3 hf3 hc3 hb3))
  all_goals
    go_wp2_with fail
    go_ret
    exact ⟨by first | rfl | (simp; done), _, _, _, _, _, R3.out⟩
set_option maxHeartbeats 4000000 in
set_option maxRecDepth 100000 in
theorem step_other (R : Rn w v gone lim all taken once W) (k n : Int) (hk : k ≠ 1 ∧ k ≠ 2 ∧ k ≠ 3 ∧ k ≠ 4) (vb : Value) (a : Option Addr) (m c : Nat) (hvb : vb = .slice a m c) :
    Calls Try.prog 10 #[.pointer (some ⟨w.heap.size, 0, none⟩), .pointer (some ⟨w.heap.size + 1, 0, none⟩), opV k n vb] W fun r w' => r = .returned (.bool true) ∧ ∃ v' gone' all' taken' once', Rn w v' gone' lim all' taken' once' w' := by
  subst hvb
  obtain ⟨k1, k2, k3, k4⟩ := hk
  have R0 : Hid (∀ o, Rn w v gone lim all taken once (W.alloc o)) := fun o => R.then (below_al (Below.refl _ _))
  have hz := R.lt
  have hl1 := R.ch.l1
  have hl2 := R.ch.l2
  have ht1 := R.ch.t1
  have ht3 := R.ch.t3
  have hsz := mkB_size all
  clear R
  have hr : Hid (∀ o d, RS ((W.alloc o).drewN d) (w.heap.size + 1) lim all taken once) := fun o d => (R0.out o).rs.same rfl
  have hc1 := fun o => (R0.out o).rs.cells.2.1
  have hc3 := fun o => (R0.out o).rs.cells.2.2.2.1
  obtain ⟨S, hS⟩ : ∃ S, mkB all = S := ⟨_, rfl⟩
  rw [hS] at hsz
  simp only [hS] at hc3
  have hsi : (S.size : Int) = (all.length : Int) := by omega
  have hle : ((all.length : Int) - (taken : Int)) = ((all.length - taken : Nat) : Int) := by omega
  have lef := hide (fun o d => left_any ((R0.out o).ch.dn d))
  have tot := hide (fun o d => total_any ((R0.out o).ch.dn d))
  unfold opV
  go_enter Try.func10, Try.ntmps10
  go_wp2_with fail
  go_quiet (first | (go_at_call 15; exact Calls.quiet_of (lef.out _ _)) | (go_at_call 16; exact Calls.quiet_of (tot.out _ _)))
  go_wp2_with fail
  go_ret
  exact ⟨by first | rfl | (simp; done) | trace_state, _, _, _, _, _, (R0.out _).then (below_drewN _ _ _)⟩
end
end Go.Proofs.Ytpkmgkdgjghpdaa
