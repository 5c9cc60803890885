/- chunk's Total, Left, Back, New, and a nil Source: walked. -/
import Derived.Test.YtpkmgkdgjghpdaaCaRow
namespace Go.Proofs.Ytpkmgkdgjghpdaa
open Go.RowKit
set_option linter.unusedSimpArgs false
set_option linter.unusedVariables false
theorem total_nil (w : World) : Calls Try.prog 16 #[.pointer none] w fun r w' => r = .returned (.int .i64 0) ∧ w' = w := by
  go_enter Try.func16, Try.ntmps16
  go_wp2
  go_ret
  exact ⟨rfl, rfl⟩
theorem left_nil (w : World) : Calls Try.prog 15 #[.pointer none] w fun r w' => r = .returned (.int .i64 0) ∧ w' = w := by
  go_enter Try.func15, Try.ntmps15
  go_wp2
  go_ret
  exact ⟨rfl, rfl⟩
theorem back_nil (n : Int) (w : World) : Calls Try.prog 14 #[.pointer none, .int .i64 n] w fun r w' => r = .returned (.int .i64 3) ∧ w' = w := by
  go_enter Try.func14, Try.ntmps14
  go_wp2
  go_ret
  exact ⟨rfl, rfl⟩
theorem feed_nil (v : Value) (w : World) : Calls Try.prog 12 #[.pointer none, v] w fun r w' => r = .returned (.int .i64 3) ∧ w' = w := by
  go_enter Try.func12, Try.ntmps12
  go_wp2
  go_ret
  exact ⟨rfl, rfl⟩
theorem peek_nil (n : Int) (w : World) : Calls Try.prog 17 #[.pointer none, .int .i64 n] w fun r w' => r = .returned (.tuple #[.slice none 0 0, .bool false]) ∧ w' = w := by
  go_enter Try.func17, Try.ntmps17
  go_wp2
  go_ret2
  exact ⟨rfl, rfl⟩
theorem take_nil (n : Int) (w : World) : Calls Try.prog 13 #[.pointer none, .int .i64 n] w fun r w' => r = .returned (.tuple #[.slice none 0 0, .bool false]) ∧ w' = w := by
  go_enter Try.func13, Try.ntmps13
  go_wp2_with (go_at_call 17; refine (peek_nil _ _).mono ?_; rintro e w2 ⟨rfl, hw2⟩; have hw2s := hw2.symm; clear hw2; subst hw2s)
  go_ret2
  exact ⟨rfl, rfl⟩
theorem below_drewN (w : World) (n B : Nat) : Below B w (w.drewN n) := ⟨rfl, rfl, rfl, Nat.le_refl _, fun _ _ => rfl⟩
section
variable {W : World} {i B gone lim taken once : Nat} {v : Value} {all : List UInt8}
theorem Ch.dn (c : Ch W i B v gone lim all taken once) (n : Nat) : Ch (W.drewN n) i B v gone lim all taken once := c.then (below_drewN _ _ _)
theorem total_any (c : Ch W i B v gone lim all taken once) : Calls Try.prog 16 #[.pointer (some ⟨i, 0, none⟩)] W fun r w' => r = .returned (.int .i64 all.length) ∧ ∃ m, w' = W.drewN m := by
  obtain ⟨a, cp, rfl, h1, h2⟩ := c.len
  obtain ⟨c0, c1, c2, c3, c4, f0, f1, f2, f3, f4⟩ := c.cb.cells
  have hl := c.l1
  have hl2 := c.l2
  have hg := c.g1
  have hs := hide (show ((gone : Int) + ((all.length - gone : Nat) : Int)) = (all.length : Int) by have := c.g1; omega)
  clear c
  go_enter Try.func16, Try.ntmps16
  go_wp2
  go_quiet (fail)
  go_wp2
  go_ret
  exact ⟨by rw [hs.out]; rfl, _, rfl⟩
theorem left_any (c : Ch W i B v gone lim all taken once) : Calls Try.prog 15 #[.pointer (some ⟨i, 0, none⟩)] W fun r w' => r = .returned (.int .i64 (all.length - taken : Nat)) ∧ ∃ m, w' = W.drewN m := by
  obtain ⟨c0, c1, c2, c3, c4, f0, f1, f2, f3, f4⟩ := c.cb.cells
  have hl := c.l1
  have hl2 := c.l2
  have ht := c.t1
  have ht2 := c.t3
  have hs := hide (show ((all.length : Int) - (taken : Int)) = ((all.length - taken : Nat) : Int) by omega)
  have tot := hide (fun n => total_any (c.dn n))
  clear c
  go_enter Try.func15, Try.ntmps15
  go_wp2
  go_quiet (first | (go_at_call 16; exact Calls.quiet_of (tot.out _)))
  go_wp2
  go_ret
  exact ⟨by rw [hs.out]; rfl, _, rfl⟩
theorem Ch.back (c : Ch W i B v gone lim all taken once) (n : Nat) (h1 : n ≤ taken) (h2 : once ≤ taken - n + 16) : Ch (W.setCell ⟨i, 3, none⟩ (.int .i64 ((taken - n : Nat) : Int))) i B v gone lim all (taken - n) once :=
  { c with cb := c.cb.set3 _, own := c.own.of fun k hk _ => Below.heap_setCell _ _ _ _ (by have := c.own.row k hk; have := c.iB; show k ≠ i; omega), hB := by simpa using c.hB, t1 := by have := c.t1; omega, t2 := by omega }
/-- What Back answers, and what is taken then. -/
def backR (taken once : Nat) (n : Int) : Nat := if n < 0 then 1 else if (taken : Int) < n ∨ 16 < (once : Int) - ((taken : Int) - n) then 60 else 0
def backT (taken once : Nat) (n : Int) : Nat := if backR taken once n = 0 then taken - n.toNat else taken
theorem back_no (n : Int) (hn1 : -9223372036854775808 ≤ n) (hn2 : n ≤ 9223372036854775807) (c : Ch W i B v gone lim all taken once) (hno : backR taken once n ≠ 0) : Calls Try.prog 14 #[.pointer (some ⟨i, 0, none⟩), .int .i64 n] W fun r w' => r = .returned (.int .i64 (backR taken once n)) ∧ ∃ m, w' = W.drewN m := by
  obtain ⟨c0, c1, c2, c3, c4, f0, f1, f2, f3, f4⟩ := c.cb.cells
  have hl := c.l1
  have hl2 := c.l2
  have ht := c.t1
  have ht2 := c.t3
  by_cases hn : n < 0
  · have e1 := hide (show backR taken once n = 1 by unfold backR; rw [if_pos hn])
    clear c hno
    go_enter Try.func14, Try.ntmps14
    go_wp2
    go_ret
    exact ⟨by rw [e1.out]; rfl, 0, rfl⟩
  · obtain ⟨m, rfl⟩ := Int.eq_ofNat_of_zero_le (show 0 ≤ n by omega)
    by_cases h1 : (taken : Int) < m
    · have e1 := hide (show backR taken once m = 60 by unfold backR; rw [if_neg hn, if_pos (Or.inl h1)])
      clear c hno
      go_enter Try.func14, Try.ntmps14
      go_wp2
      go_quiet (fail)
      go_wp2
      go_ret
      exact ⟨by rw [e1.out]; rfl, _, rfl⟩
    · have hd : decide (taken < m) = false := decide_eq_false (by omega)
      by_cases h2 : 16 < (once : Int) - ((taken : Int) - m)
      · have e1 := hide (show backR taken once m = 60 by unfold backR; rw [if_neg hn, if_pos (Or.inr h2)])
        clear c hno
        go_enter Try.func14, Try.ntmps14
        go_wp2
        go_quiet (fail)
        go_wp2
        go_ret
        exact ⟨by rw [e1.out]; rfl, _, rfl⟩
      · exact absurd (show backR taken once m = 0 by unfold backR; rw [if_neg hn, if_neg (by omega)]) hno
theorem back_any (n : Int) (hn1 : -9223372036854775808 ≤ n) (hn2 : n ≤ 9223372036854775807) (c : Ch W i B v gone lim all taken once) : Calls Try.prog 14 #[.pointer (some ⟨i, 0, none⟩), .int .i64 n] W fun r w' => r = .returned (.int .i64 (backR taken once n)) ∧ Ch w' i B v gone lim all (backT taken once n) once ∧ Fr i v W w' := by
  obtain ⟨c0, c1, c2, c3, c4, f0, f1, f2, f3, f4⟩ := c.cb.cells
  have hl := c.l1
  have hl2 := c.l2
  have ht := c.t1
  have ht2 := c.t3
  by_cases hn : n < 0
  · have e1 := hide (show backR taken once n = 1 by unfold backR; rw [if_pos hn])
    have e2 := hide (show backT taken once n = taken by unfold backT; rw [e1.out]; rfl)
    have C := hide c
    clear c
    go_enter Try.func14, Try.ntmps14
    go_wp2
    go_ret
    exact ⟨by rw [e1.out]; rfl, by rw [e2.out]; exact C.out, Fr.refl _ _ _⟩
  · obtain ⟨m, rfl⟩ := Int.eq_ofNat_of_zero_le (show 0 ≤ n by omega)
    by_cases h1 : (taken : Int) < m
    · have e1 := hide (show backR taken once m = 60 by unfold backR; rw [if_neg hn, if_pos (Or.inl h1)])
      have e2 := hide (show backT taken once m = taken by unfold backT; rw [e1.out]; rfl)
      have C := hide c
      clear c
      go_enter Try.func14, Try.ntmps14
      go_wp2
      go_quiet (fail)
      go_wp2
      go_ret
      exact ⟨by rw [e1.out]; rfl, by rw [e2.out]; exact C.out.dn _, Fr.of_below (below_drewN _ _ _)⟩
    · have hd : decide (taken < m) = false := decide_eq_false (by omega)
      by_cases h2 : 16 < (once : Int) - ((taken : Int) - m)
      · have e1 := hide (show backR taken once m = 60 by unfold backR; rw [if_neg hn, if_pos (Or.inr h2)])
        have e2 := hide (show backT taken once m = taken by unfold backT; rw [e1.out]; rfl)
        have C := hide c
        clear c
        go_enter Try.func14, Try.ntmps14
        go_wp2
        go_quiet (fail)
        go_wp2
        go_ret
        exact ⟨by rw [e1.out]; rfl, by rw [e2.out]; exact C.out.dn _, Fr.of_below (below_drewN _ _ _)⟩
      · have e1 := hide (show backR taken once m = 0 by unfold backR; rw [if_neg hn, if_neg (by omega)])
        have e2 := hide (show backT taken once m = taken - m by unfold backT; rw [e1.out]; simp)
        have C := hide (fun d => (c.dn d).back m (by omega) (by omega))
        have hs := hide (show ((taken : Int) - (m : Int)) = ((taken - m : Nat) : Int) by omega)
        clear c
        go_enter Try.func14, Try.ntmps14
        go_wp2
        go_quiet (fail)
        go_wp2
        go_ret
        exact ⟨by rw [e1.out]; rfl, by rw [e2.out, hs.out]; exact C.out _, (Fr.of_below (below_drewN _ _ _)).set⟩
end
theorem new_no (n : Int) (h : n < 0 ∨ 65536 < n) (w : World) : Calls Try.prog 8 #[.int .i64 n] w fun r w' => r = .returned (.tuple #[.pointer none, .int .i64 1]) ∧ w' = w := by
  by_cases h1 : n < 0
  · clear h
    go_enter Try.func8, Try.ntmps8
    go_wp2
    go_ret2
    exact ⟨rfl, rfl⟩
  · have h2 : 65536 < n := by omega
    clear h
    go_enter Try.func8, Try.ntmps8
    go_wp2
    go_ret2
    exact ⟨rfl, rfl⟩
theorem new_any (n : Nat) (h : n ≤ 65536) (w : World) : Calls Try.prog 8 #[.int .i64 n] w fun r w' => r = .returned (.tuple #[.pointer (some ⟨w.heap.size, 0, none⟩), .int .i64 0]) ∧ CB w' w.heap.size n (.slice none 0 0) 0 0 0 ∧ Below w.heap.size w w' := by
  have h2 : ¬ (65536 < (n : Int)) := by omega
  go_enter Try.func8, Try.ntmps8
  go_wp2
  go_ret2
  exact ⟨rfl, heap_alloc_new _ _, below_al (Below.refl _ _)⟩
theorem Ch.new {w : World} {i n B : Nat} (h : CB w i n (.slice none 0 0) 0 0 0) (hn : n ≤ 65536) (h1 : i < B) (h2 : B ≤ w.heap.size) : Ch w i B (.slice none 0 0) 0 n [] 0 0 :=
  ⟨h, own_nil _ _, h1, h2, Nat.le_refl _, Or.inl rfl, Nat.le_refl _, by omega, Nat.le_refl _, by simp, hn⟩
end Go.Proofs.Ytpkmgkdgjghpdaa
