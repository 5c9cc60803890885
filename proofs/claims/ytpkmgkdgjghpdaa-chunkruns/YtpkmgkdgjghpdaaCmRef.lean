/- calamusref06's Source: walked. -/
import Derived.Test.YtpkmgkdgjghpdaaChNil
import Derived.Lib.Strings
import Derived.Laws.Concat
namespace Go.Proofs.Ytpkmgkdgjghpdaa
open Go.RowKit
set_option linter.unusedSimpArgs false
set_option linter.unusedVariables false
/-- The reference's Source, as its block holds it. -/
def RS (W : World) (j lim : Nat) (all : List UInt8) (at' once : Nat) : Prop := W.heap[j]? = some (.cells #[.int .i64 lim, .int .i64 at', .int .i64 once, .string (mkB all)] 31 (0, 0))
theorem RS.cells {W : World} {j lim at' once : Nat} {all : List UInt8} (q : RS W j lim all at' once) : W.cell? ⟨j, 0, none⟩ = some (.int .i64 lim) ∧ W.cell? ⟨j, 1, none⟩ = some (.int .i64 at') ∧ W.cell? ⟨j, 2, none⟩ = some (.int .i64 once) ∧ W.cell? ⟨j, 3, none⟩ = some (.string (mkB all)) ∧ W.frozen? ⟨j, 0, none⟩ = false ∧ W.frozen? ⟨j, 1, none⟩ = false ∧ W.frozen? ⟨j, 2, none⟩ = false ∧ W.frozen? ⟨j, 3, none⟩ = false := by
  unfold RS at q
  simp [World.cell?, World.frozen?, q]
theorem RS.lt {W : World} {j lim at' once : Nat} {all : List UInt8} (q : RS W j lim all at' once) : j < W.heap.size := by
  by_cases h : j < W.heap.size
  · exact h
  · unfold RS at q
    rw [Array.getElem?_eq_none (by omega)] at q
    cases q
theorem RS.same {W W1 : World} {j lim at' once : Nat} {all : List UInt8} (q : RS W j lim all at' once) (h : W1.heap[j]? = W.heap[j]?) : RS W1 j lim all at' once := by unfold RS; rw [h]; exact q
theorem RS.set1 {W : World} {j lim at' once : Nat} {all : List UInt8} (q : RS W j lim all at' once) (u : Nat) : RS (W.setCell ⟨j, 1, none⟩ (.int .i64 u)) j lim all u once := by
  unfold RS at q ⊢
  rw [setCell_eq_setRow W j 1 _ _ (0, 0) _ q, setRow_heap W j _ _ _ (0, 0) q]
  rfl
theorem RS.set2 {W : World} {j lim at' once : Nat} {all : List UInt8} (q : RS W j lim all at' once) (u : Nat) : RS (W.setCell ⟨j, 2, none⟩ (.int .i64 u)) j lim all at' u := by
  unfold RS at q ⊢
  rw [setCell_eq_setRow W j 2 _ _ (0, 0) _ q, setRow_heap W j _ _ _ (0, 0) q]
  rfl
theorem RS.set3 {W : World} {j lim at' once : Nat} {all : List UInt8} (q : RS W j lim all at' once) (u : List UInt8) : RS (W.setCell ⟨j, 3, none⟩ (.string (mkB u))) j lim u at' once := by
  unfold RS at q ⊢
  rw [setCell_eq_setRow W j 3 _ _ (0, 0) _ q, setRow_heap W j _ _ _ (0, 0) q]
  rfl
/-- Nothing that was there has turned, but block j. -/
abbrev But (j : Nat) (w w' : World) : Prop := Fr j (.slice none 0 0) w w'
theorem mkB_app (a b : List UInt8) : mkB a ++ mkB b = mkB (a ++ b) := by
  apply ByteArray.ext
  simp [mkB]
theorem add_run (a b c : ByteArray) (hc : bl a ++ bl b = bl c) (h : c.size ≤ 100000) : ∀ w, (Op.stringOp .add a b).run Try.prog w = .ok (.string c) w := fun w => by
  have e : a ++ b = c := by
    rw [← mkB_bl a, ← mkB_bl b, mkB_app, hc, mkB_bl]
  have hs : a.size + b.size = c.size := by rw [← bl_length, ← bl_length, ← bl_length, ← hc, List.length_append]
  rw [← e]
  exact run_string_add_sum w _ _ (by omega)
section
variable {W : World} {j lim at' once : Nat} {all : List UInt8}
theorem rback_any (n : Int) (hn1 : -9223372036854775808 ≤ n) (hn2 : n ≤ 9223372036854775807) (q : RS W j lim all at' once) (ha : at' ≤ once) (ho : once ≤ 65536) : Calls Try.prog 24 #[.pointer (some ⟨j, 0, none⟩), .int .i64 n] W fun r w' => r = .returned (.int .i64 (backR at' once n)) ∧ RS w' j lim all (backT at' once n) once ∧ But j W w' := by
  obtain ⟨c0, c1, c2, c3, f0, f1, f2, f3⟩ := q.cells
  by_cases hn : n < 0
  · have e1 := hide (show backR at' once n = 1 by unfold backR; rw [if_pos hn])
    have e2 := hide (show backT at' once n = at' by unfold backT; rw [e1.out]; rfl)
    have Q := hide q
    clear q
    go_enter Try.func24, Try.ntmps24
    go_wp2
    go_ret
    exact ⟨by rw [e1.out]; rfl, by rw [e2.out]; exact Q.out, Fr.refl _ _ _⟩
  · obtain ⟨m, rfl⟩ := Int.eq_ofNat_of_zero_le (show 0 ≤ n by omega)
    by_cases h1 : (at' : Int) < m
    · have e1 := hide (show backR at' once m = 60 by unfold backR; rw [if_neg hn, if_pos (Or.inl h1)])
      have e2 := hide (show backT at' once m = at' by unfold backT; rw [e1.out]; rfl)
      have Q := hide q
      clear q
      go_enter Try.func24, Try.ntmps24
      go_wp2
      go_quiet (fail)
      go_wp2
      go_ret
      exact ⟨by rw [e1.out]; rfl, by rw [e2.out]; exact Q.out, Fr.of_below (below_drewN _ _ _)⟩
    · have hd : decide (at' < m) = false := decide_eq_false (by omega)
      have hw1 : IntKind.i64.wrap ((at' : Int) - (m : Int)) = ((at' - m : Nat) : Int) := by rw [IntKind.wrap_i64] <;> omega
      have hw2 : IntKind.i64.wrap ((once : Int) - 16) = (once : Int) - 16 := by rw [IntKind.wrap_i64] <;> omega
      by_cases h2 : ((at' - m : Nat) : Int) < (once : Int) - 16
      · have e1 := hide (show backR at' once m = 60 by unfold backR; rw [if_neg hn, if_pos (Or.inr (by omega))])
        have e2 := hide (show backT at' once m = at' by unfold backT; rw [e1.out]; rfl)
        have Q := hide q
        clear q
        go_enter Try.func24, Try.ntmps24
        go_wp2
        go_quiet (fail)
        go_wp2
        go_ret
        exact ⟨by rw [e1.out]; rfl, by rw [e2.out]; exact Q.out, Fr.of_below (below_drewN _ _ _)⟩
      · have e1 := hide (show backR at' once m = 0 by unfold backR; rw [if_neg hn, if_neg (by omega)])
        have e2 := hide (show backT at' once m = at' - m by unfold backT; rw [e1.out]; simp)
        have Q := hide (fun d => (RS.same (W1 := W.drewN d) q rfl).set1 (at' - m))
        have hs := hide (show ((at' : Int) - (m : Int)) = ((at' - m : Nat) : Int) by omega)
        clear q
        go_enter Try.func24, Try.ntmps24
        go_wp2
        go_quiet (fail)
        go_wp2
        go_ret
        exact ⟨by rw [e1.out]; rfl, by rw [e2.out]; first | exact Q.out _ | (rw [hs.out]; exact Q.out _), (Fr.of_below (below_drewN _ _ _)).set⟩
theorem rpeek_no (n : Int) (hn1 : -9223372036854775808 ≤ n) (hn2 : n ≤ 9223372036854775807) (q : RS W j lim all at' once) (ha : at' ≤ all.length) (hl : all.length ≤ 65536) (h : n < 0 ∨ ((all.length - at' : Nat) : Int) < n) : Calls Try.prog 23 #[.pointer (some ⟨j, 0, none⟩), .int .i64 n] W fun r w' => r = .returned (.tuple #[.string ⟨#[]⟩, .bool false]) ∧ ∃ m, w' = W.drewN m := by
  obtain ⟨c0, c1, c2, c3, f0, f1, f2, f3⟩ := q.cells
  clear q
  have hsz := mkB_size all
  obtain ⟨S, hS⟩ : ∃ S, mkB all = S := ⟨_, rfl⟩
  rw [hS] at c3 hsz
  have hsi : ((S.size : Int)) = (all.length : Int) := by omega
  by_cases h1 : n < 0
  · clear h hsz hsi
    go_enter Try.func23, Try.ntmps23
    go_wp2
    go_quiet (fail)
    go_wp2
    go_ret2
    exact ⟨rfl, _, rfl⟩
  · have h2 : (S.size : Int) - (at' : Int) < n := by omega
    have hd : decide (n < 0) = false := decide_eq_false h1
    clear h
    have hsz' := hide hsz
    clear hsz hsi
    go_enter Try.func23, Try.ntmps23
    go_wp2
    go_quiet (fail)
    go_wp2
    go_ret2
    exact ⟨rfl, _, rfl⟩
theorem rpeek_any (n : Nat) (q : RS W j lim all at' once) (hl : all.length ≤ 65536) (h : n ≤ all.length - at') (ha : at' ≤ all.length) : Calls Try.prog 23 #[.pointer (some ⟨j, 0, none⟩), .int .i64 n] W fun r w' => r = .returned (.tuple #[.string (mkB ((all.drop at').take n)), .bool true]) ∧ ∃ m, w' = W.drewN m := by
  obtain ⟨c0, c1, c2, c3, f0, f1, f2, f3⟩ := q.cells
  clear q
  have hsz := mkB_size all
  have hex := hide (show (mkB all).extract at' (at' + n) = mkB ((all.drop at').take n) by rw [Lib.extract_eq, show at' + n - at' = n by omega]; show mkB ((bl (mkB all)).drop at' |>.take n) = _; rw [bl_mkB])
  obtain ⟨S, hS⟩ : ∃ S, mkB all = S := ⟨_, rfl⟩
  rw [hS] at c3 hsz hex
  have hz : S.size ≤ 65536 := by omega
  have h2 : ¬ ((S.size : Int) - (at' : Int) < n) := by omega
  have h3 : at' + n ≤ S.size := by omega
  have h4 : at' ≤ S.size := by omega
  have hd : decide ((n : Int) < 0) = false := decide_eq_false (by omega)
  have hw : IntKind.i64.wrap ((at' : Int) + (n : Int)) = ((at' + n : Nat) : Int) := by rw [IntKind.wrap_i64] <;> omega
  replace hsz := hide hsz
  clear hS
  go_enter Try.func23, Try.ntmps23
  go_wp2
  go_quiet (fail)
  go_wp2
  go_quiet (fail)
  go_wp2
  go_ret2
  exact ⟨by rw [← hex.out]; rfl, _, World.drewN_drewN ..⟩
set_option maxHeartbeats 2000000 in
theorem rtake_no (n : Int) (hn1 : -9223372036854775808 ≤ n) (hn2 : n ≤ 9223372036854775807) (q : RS W j lim all at' once) (ha : at' ≤ once) (ho : once ≤ all.length) (hl : all.length ≤ 65536) (h : n < 0 ∨ ((all.length - at' : Nat) : Int) < n) : Calls Try.prog 21 #[.pointer (some ⟨j, 0, none⟩), .int .i64 n] W fun r w' => r = .returned (.tuple #[.string ⟨#[]⟩, .bool false]) ∧ RS w' j lim all at' once ∧ But j W w' := by
  have pk := hide (rpeek_no n hn1 hn2 q (by omega) hl h)
  have Q : Hid (∀ d, RS (W.drewN d) j lim all at' once) := fun d => q.same rfl
  have hfin : Hid (∀ (d : Nat) (x y : Int), x = at' → y = once → RS (((W.drewN d).setCell ⟨j, 1, none⟩ (.int .i64 x)).setCell ⟨j, 2, none⟩ (.int .i64 y)).drew j lim all at' once ∧ But j W (((W.drewN d).setCell ⟨j, 1, none⟩ (.int .i64 x)).setCell ⟨j, 2, none⟩ (.int .i64 y)).drew) := by
    intro d x y hx hy
    subst hx hy
    exact ⟨(((Q.out d).set1 at').set2 once).same rfl, (Fr.of_below (below_drewN _ _ _)).set.set.then (Below.refl _ _).drew⟩
  clear q h
  rcases Nat.lt_or_ge at' once with hmx | hmx
  · have hm1 : ¬ ((once : Int) < (at' : Int)) := by omega
    have hm2 : ((at' : Int) < (once : Int)) := by omega
    have hm3 : ¬ (once < at') := by omega
    have hm4 : ¬ (once ≤ at') := by omega
    go_enter Try.func21, Try.ntmps21
    go_wp2_with (go_at_call 23; refine pk.out.mono ?_; rintro e w1 ⟨rfl, m1, rfl⟩; obtain ⟨c0, c1, c2, c3, f0, f1, f2, f3⟩ := (Q.out m1).cells)
    go_region_with (fail)
    all_goals
      go_wp2
      go_ret2
      exact ⟨rfl, hfin.out _ _ _ (by first | rfl | omega) (by first | rfl | omega)⟩
  · have hm0 : at' = once := by omega
    subst hm0
    go_enter Try.func21, Try.ntmps21
    go_wp2_with (go_at_call 23; refine pk.out.mono ?_; rintro e w1 ⟨rfl, m1, rfl⟩; obtain ⟨c0, c1, c2, c3, f0, f1, f2, f3⟩ := (Q.out m1).cells)
    go_region_with (fail)
    all_goals
      go_wp2
      go_ret2
      exact ⟨rfl, hfin.out _ _ _ (by first | rfl | omega) (by first | rfl | omega)⟩
set_option maxHeartbeats 2000000 in
theorem rtake_any (n : Nat) (q : RS W j lim all at' once) (ha : at' ≤ once) (ho : once ≤ all.length) (hl : all.length ≤ 65536) (h : n ≤ all.length - at') : Calls Try.prog 21 #[.pointer (some ⟨j, 0, none⟩), .int .i64 n] W fun r w' => r = .returned (.tuple #[.string (mkB ((all.drop at').take n)), .bool true]) ∧ RS w' j lim all (at' + n) (max once (at' + n)) ∧ But j W w' := by
  have pk := hide (rpeek_any n q hl h (by omega))
  have hsz : (mkB ((all.drop at').take n)).size = n := by rw [mkB_size, List.length_take, List.length_drop]; omega
  obtain ⟨S, hS⟩ : ∃ S, mkB ((all.drop at').take n) = S := ⟨_, rfl⟩
  rw [hS] at pk hsz
  rw [hS]
  have Q : Hid (∀ d, RS (W.drewN d) j lim all at' once) := fun d => q.same rfl
  have hfin : Hid (∀ (d : Nat) (x y : Int), x = (at' + n : Nat) → y = (max once (at' + n) : Nat) → RS (((W.drewN d).setCell ⟨j, 1, none⟩ (.int .i64 x)).setCell ⟨j, 2, none⟩ (.int .i64 y)).drew j lim all (at' + n) (max once (at' + n)) ∧ But j W (((W.drewN d).setCell ⟨j, 1, none⟩ (.int .i64 x)).setCell ⟨j, 2, none⟩ (.int .i64 y)).drew) := by
    intro d x y hx hy
    subst hx hy
    exact ⟨(((Q.out d).set1 (at' + n)).set2 (max once (at' + n))).same rfl, (Fr.of_below (below_drewN _ _ _)).set.set.then (Below.refl _ _).drew⟩
  have hx1 := hide (show ((at' : Int) + (n : Int)) = ((at' + n : Nat) : Int) by omega)
  clear q hS
  rcases Nat.lt_trichotomy once (at' + n) with hmx | hmx | hmx
  · have hm1 : (once : Int) < (at' : Int) + (n : Int) := by omega
    have hmx' := hide hmx
    clear hmx
    go_enter Try.func21, Try.ntmps21
    go_wp2_with (go_at_call 23; refine pk.out.mono ?_; rintro e w1 ⟨rfl, m1, rfl⟩; obtain ⟨c0, c1, c2, c3, f0, f1, f2, f3⟩ := (Q.out m1).cells)
    go_region_with (fail)
    all_goals
      go_wp2
      go_ret2
      exact ⟨rfl, hfin.out _ _ _ hx1.out (by have := hmx'.out; omega)⟩
  · have hm1 : ¬ ((once : Int) < (at' : Int) + (n : Int)) := by omega
    have hm2 : ¬ ((at' : Int) + (n : Int) < (once : Int)) := by omega
    have hmx' := hide hmx
    clear hmx
    go_enter Try.func21, Try.ntmps21
    go_wp2_with (go_at_call 23; refine pk.out.mono ?_; rintro e w1 ⟨rfl, m1, rfl⟩; obtain ⟨c0, c1, c2, c3, f0, f1, f2, f3⟩ := (Q.out m1).cells)
    go_region_with (fail)
    all_goals
      go_wp2
      go_ret2
      exact ⟨rfl, hfin.out _ _ _ hx1.out (by have := hmx'.out; omega)⟩
  · have hm1 : ¬ ((once : Int) < (at' : Int) + (n : Int)) := by omega
    have hm2 : ((at' : Int) + (n : Int) < (once : Int)) := by omega
    have hmx' := hide hmx
    clear hmx
    go_enter Try.func21, Try.ntmps21
    go_wp2_with (go_at_call 23; refine pk.out.mono ?_; rintro e w1 ⟨rfl, m1, rfl⟩; obtain ⟨c0, c1, c2, c3, f0, f1, f2, f3⟩ := (Q.out m1).cells)
    go_region_with (fail)
    all_goals
      go_wp2
      go_ret2
      exact ⟨rfl, hfin.out _ _ _ hx1.out (by have := hmx'.out; omega)⟩
theorem rfeed_no (a : Option Addr) (n c : Nat) (q : RS W j lim all at' once) (hl : all.length ≤ lim) (hl2 : lim ≤ 65536) (hn : n ≤ 281474976710656) (h : lim - all.length < n) : Calls Try.prog 20 #[.pointer (some ⟨j, 0, none⟩), .slice a n c] W fun r w' => r = .returned (.int .i64 2) ∧ ∃ m, w' = W.drewN m := by
  obtain ⟨c0, c1, c2, c3, f0, f1, f2, f3⟩ := q.cells
  clear q
  have hsz := mkB_size all
  obtain ⟨S, hS⟩ : ∃ S, mkB all = S := ⟨_, rfl⟩
  rw [hS] at c3 hsz
  have hz : S.size ≤ 65536 := by omega
  have h2 : (lim : Int) - (S.size : Int) < (n : Int) := by omega
  replace hsz := hide hsz
  clear hS
  go_enter Try.func20, Try.ntmps20
  go_wp2
  go_quiet (fail)
  go_wp2
  go_ret
  exact ⟨rfl, _, rfl⟩
theorem rfeed_any (vb : Value) (l : List UInt8) (q : RS W j lim all at' once) (sl : SL W vb l) (hl : all.length ≤ lim) (hl2 : lim ≤ 65536) (h : l.length ≤ lim - all.length) : Calls Try.prog 20 #[.pointer (some ⟨j, 0, none⟩), vb] W fun r w' => r = .returned (.int .i64 0) ∧ RS w' j lim (all ++ l) at' once ∧ But j W w' := by
  obtain ⟨a, c, rfl, k1, k2⟩ := sl.len
  obtain ⟨c0, c1, c2, c3, f0, f1, f2, f3⟩ := q.cells
  have hsz := mkB_size all
  have hsc : ∀ d, (convert 33 9 (.slice a l.length c)).run Try.prog (W.drewN d) = .ok (.string (mkB l)) (W.drewN d) := fun d => (sl.below (below_drewN _ d _)).conv
  have hsc0 := hsc 0
  rw [World.drewN_zero] at hsc0
  have Q : Hid (∀ d, RS ((W.drewN d).setCell ⟨j, 3, none⟩ (.string (mkB (all ++ l)))) j lim (all ++ l) at' once) := fun d => (RS.same (W1 := W.drewN d) q rfl).set3 (all ++ l)
  have hap := add_run (mkB all) (mkB l) (mkB (all ++ l)) (by rw [bl_mkB, bl_mkB, bl_mkB]) (by rw [mkB_size, List.length_append]; omega)
  obtain ⟨L, hL⟩ : ∃ L, mkB l = L := ⟨_, rfl⟩
  obtain ⟨AL, hAL⟩ : ∃ AL, mkB (all ++ l) = AL := ⟨_, rfl⟩
  rw [hL] at hsc hsc0 hap
  rw [hAL] at hap Q
  clear q sl
  obtain ⟨S, hS⟩ : ∃ S, mkB all = S := ⟨_, rfl⟩
  rw [hS] at c3 hsz hap
  have hz : S.size ≤ 65536 := by omega
  have h2 : ¬ ((lim : Int) - (S.size : Int) < (l.length : Int)) := by omega
  replace hsz := hide hsz
  clear hS hL hAL
  go_enter Try.func20, Try.ntmps20
  go_wp2
  go_quiet (fail)
  go_wp2
  go_region_with (fail)
  all_goals
    go_wp2
    go_ret
    exact ⟨rfl, Q.out _, (Fr.of_below (below_drewN _ _ _)).set⟩
end
end Go.Proofs.Ytpkmgkdgjghpdaa
