/- chunk's Peek and Take: walked. -/
import Derived.Test.YtpkmgkdgjghpdaaCbSmall
namespace Go.Proofs.Ytpkmgkdgjghpdaa
open Go.RowKit
set_option linter.unusedSimpArgs false
set_option linter.unusedVariables false
/-- A row of the call's own: block k holds just these bytes. -/
def RB (W : World) (k : Nat) (l : List UInt8) : Prop := W.heap[k]? = some (.cells (bcs l).toArray 5 (0, 0))
theorem RB.lt {W : World} {k : Nat} {l : List UInt8} (q : RB W k l) : k < W.heap.size := by
  by_cases h : k < W.heap.size
  · exact h
  · unfold RB at q
    rw [Array.getElem?_eq_none (by omega)] at q
    cases q
theorem RB.cell {W : World} {k : Nat} {l : List UInt8} (q : RB W k l) (j : Nat) (h : j < l.length) : W.cell? ⟨k, j, none⟩ = some (.int .u8 (l[j].toNat : Int)) := by
  unfold RB at q
  simp [World.cell?, q, bcs, h]
theorem RB.sl {W : World} {k : Nat} {l : List UInt8} (q : RB W k l) (hm : l.length ≤ maxLen) : SL W (.slice (some ⟨k, 0, none⟩) l.length l.length) l :=
  Or.inr ⟨_, _, rfl, Nat.le_refl _, hm, fun i hi => ⟨q.lt, by rw [add_z]; exact q.cell i hi⟩⟩
theorem RB.same {W W1 : World} {k : Nat} {l : List UInt8} (q : RB W k l) (h : W1.heap[k]? = W.heap[k]?) : RB W1 k l := by unfold RB; rw [h]; exact q
theorem make_bytes (n : Nat) (h : n ≤ 100000) (w : World) : (Instr.makeSlice 33 (.int .i64 (n : Int)) (.int .i64 (n : Int))).run Try.prog w = .ok (.slice (some ⟨w.heap.size, 0, none⟩) n n) (w.alloc (.cells (madeCells #[.int .u8 0] n) 5)) :=
  run_make_row' 33 5 (.int .u8 0) 1 Try.underlying33 info5 rfl .i64 .i64 n (by omega) (by omega) w
section
variable {W : World} {i B gone lim taken once : Nat} {v : Value} {all : List UInt8}
theorem peek_no (n : Int) (c : Ch W i B v gone lim all taken once) (h : n < 0 ∨ ((all.length - taken : Nat) : Int) < n) : Calls Try.prog 17 #[.pointer (some ⟨i, 0, none⟩), .int .i64 n] W fun r w' => r = .returned (.tuple #[.slice none 0 0, .bool false]) ∧ ∃ m, w' = W.drewN m := by
  by_cases h1 : n < 0
  · clear h
    go_enter Try.func17, Try.ntmps17
    go_wp2
    go_ret2
    exact ⟨rfl, 0, rfl⟩
  · have h2 : ((all.length - taken : Nat) : Int) < n := by omega
    have lef := hide (left_any c)
    clear h
    go_enter Try.func17, Try.ntmps17
    go_wp2_with (go_at_call 15; refine lef.out.mono ?_; rintro e w1 ⟨rfl, m, rfl⟩)
    go_ret2
    exact ⟨rfl, _, rfl⟩
theorem Ch.al (c : Ch W i B v gone lim all taken once) (m : Nat) (o : Obj) : Ch ((W.drewN m).alloc o) i B v gone lim all taken once := (c.dn m).then (below_al (Below.refl _ _))
theorem made_row (w : World) (n : Nat) : (w.alloc (.cells (madeCells #[.int .u8 0] n) 5)).heap[w.heap.size]? = some (.cells (List.replicate n (.int .u8 0)).toArray 5 (0, 0)) := by
  rw [heap_alloc_new]
  have e : madeCells #[.int .u8 0] n = (List.replicate n (Value.int .u8 0)).toArray := by
    apply Array.ext
    · simp [madeCells]
    · intro j h1 h2
      simp [madeCells, Nat.mod_one]
  rw [e]
theorem made_row2 (w : World) (n m : Nat) : ((w.drewN m).alloc (.cells (madeCells #[.int .u8 0] n) 5)).drew.heap[w.heap.size]? = some (.cells (List.replicate n (.int .u8 0)).toArray 5 (0, 0)) := made_row (w.drewN m) n
theorem made_below (w : World) (m : Nat) (o : Obj) : Below w.heap.size w ((w.drewN m).alloc o).drew := (below_al (below_drewN _ _ _)).drew
theorem spliced (n : Nat) (l : List UInt8) (h : l.length = n) : splice (List.replicate n (Value.int .u8 0)) 0 (bcs l) = bcs l := by
  unfold splice
  rw [List.drop_of_length_le (by simp [bcs_length]; omega)]
  simp
set_option maxRecDepth 100000 in
theorem peek_nilrow (n : Nat) (hn : n = 0) (c : Ch W i B (.slice none 0 0) gone lim all taken once) : Calls Try.prog 17 #[.pointer (some ⟨i, 0, none⟩), .int .i64 n] W fun r w' => r = .returned (.tuple #[.slice (some ⟨W.heap.size, 0, none⟩) n n, .bool true]) ∧ RB w' W.heap.size [] ∧ Below W.heap.size W w' := by
  have h0 : all.length = gone ∧ taken = gone := by
    have h1 := c.own
    rcases h1.at with ⟨_, e⟩ | ⟨_, _, _, e, _⟩
    · have := congrArg List.length e
      rw [List.length_drop] at this
      have := c.g1; have := c.gt; have := c.t1; have := c.t3
      simp at *; omega
    · cases e
  have lef := hide (left_any c)
  obtain ⟨lf, hlf⟩ : ∃ lf, all.length - taken = lf := ⟨_, rfl⟩
  rw [hlf] at lef
  have h2 : ¬ ((lf : Int) < n) := by omega
  have h2' : ¬ (lf < n) := by omega
  have hmk := make_bytes n (by omega)
  have hl1 := c.l1
  have hl2 := c.l2
  have hgl : gone ≤ 65536 := by have := c.g1; omega
  obtain ⟨rfl, hg⟩ := h0
  have hg2 : taken = all.length := hg
  clear hg hlf
  subst hg2
  have hc1 := fun m o => (c.al m o).cb.cells.2.1
  have hc2 := fun m o => (c.al m o).cb.cells.2.2.1
  have hc3 := fun m o => (c.al m o).cb.cells.2.2.2.1
  clear c
  have hn0 := hide hn
  clear hn
  have hw0 : IntKind.i64.wrap 0 = 0 := rfl
  go_enter Try.func17, Try.ntmps17
  go_wp2_with (go_at_call 15; refine lef.out.mono ?_; rintro e w1 ⟨rfl, m, rfl⟩)
  go_region_law (refine step_copy_splice rfl (.tmp 21) (.tmp 35) 33 33 rfl 5 Try.underlying33 size5 _ _ _ _ _ _ rfl rfl W.heap.size 0 (List.replicate n (.int .u8 0)) 5 (made_row2 W n _) [] (by simp) (fun h => absurd h (by simp)) (by simp) (by simp) W.heap.size W (made_below _ _ _) (Nat.le_refl _) ?_; intro w4 hg4 hb4)
  all_goals
    go_wp2
    go_ret2
    refine ⟨rfl, ?_, hb4⟩
    have e := hn0.out
    subst e
    exact hg4.out
set_option maxHeartbeats 2000000 in
set_option maxRecDepth 100000 in
theorem peek_some (n g cp : Nat) (c : Ch W i B (.slice (some ⟨g, 0, none⟩) (all.length - gone) cp) gone lim all taken once) (h : n ≤ all.length - taken) : Calls Try.prog 17 #[.pointer (some ⟨i, 0, none⟩), .int .i64 n] W fun r w' => r = .returned (.tuple #[.slice (some ⟨W.heap.size, 0, none⟩) n n, .bool true]) ∧ RB w' W.heap.size ((all.drop taken).take n) ∧ Below W.heap.size W w' := by
  have lef := hide (left_any c)
  obtain ⟨lf, hlf⟩ : ∃ lf, all.length - taken = lf := ⟨_, rfl⟩
  rw [hlf] at lef
  have h2 : ¬ ((lf : Int) < n) := by omega
  have h2' : ¬ (lf < n) := by omega
  have hmk := make_bytes n (by have := c.l1; have := c.l2; omega)
  have hl1 := c.l1
  have hl2 := c.l2
  have hgt := c.gt
  have ht1 := c.t1
  have ht3 := c.t3
  have hgl := c.g1
  have hc1 := fun m o => (c.al m o).cb.cells.2.1
  have hc2 := fun m o => (c.al m o).cb.cells.2.2.1
  have hc3 := fun m o => (c.al m o).cb.cells.2.2.2.1
  have hsl : Hid (∀ m o, SL ((W.drewN m).alloc o) (.slice (some ⟨g, 0, none⟩) (all.length - gone) cp) (all.drop gone)) := fun m o => (c.al m o).own.sl
  have hcp : all.length - gone ≤ cp ∧ cp ≤ maxLen := by
    obtain ⟨a, c', e, h1, h2⟩ := c.len
    simp only [Value.slice.injEq] at e
    obtain ⟨_, _, rfl⟩ := e
    exact ⟨h1, h2⟩
  obtain ⟨hcp, hcpm⟩ := hcp
  clear c
  have ml : maxLen = 2 ^ 63 - 1 := rfl
  have hw1 : IntKind.i64.wrap ((taken : Int) - (gone : Int)) = ((taken - gone : Nat) : Int) := by rw [IntKind.wrap_i64]; omega
  have hlt := hide h
  obtain ⟨D, hD⟩ : ∃ D, taken - gone = D := ⟨_, rfl⟩
  rw [hD] at hw1
  have hn1 : D ≤ all.length - gone := by omega
  have hn2 := hide (show all.length - gone - D = lf by omega)
  have hD' := hide hD
  have hlf' := hide hlf
  clear hD hlf h
  have hcl : ((all.drop taken).take n).length = n := by rw [List.length_take, List.length_drop]; have := hlf'.out; have := hlt.out; omega
  have hpc : Hid (∀ m o j u, (bcs ((all.drop taken).take n))[j]? = some u → ((W.drewN m).alloc o).cell? ((⟨g, D, none⟩ : Addr).add j) = some u) := by
    intro m o j u hj
    have hs := (hsl.out m o)
    have e1 := hs.news (j := D + j) (u := u) ?_
    · rw [add_z] at e1
      rw [show (⟨g, D, none⟩ : Addr).add j = ⟨g, D + j, none⟩ by unfold Addr.add; split <;> simp_all]
      exact e1
    · rw [bcs_take, List.getElem?_take] at hj
      split at hj
      · rw [bcs_drop, List.getElem?_drop] at hj ⊢
        rw [← hj]; congr 1; have := hD'.out; omega
      · cases hj
  have hcl' := hide hcl
  clear hcl hsl
  rcases Nat.lt_or_ge D cp with hdc | hdc
  · have hdc1 : ¬ (cp - D = 0) := by omega
    have hdc2 : ¬ ((cp : Int) - (D : Int) = 0) := by omega
    have hdc3 : ¬ (cp = D) := by omega
    go_enter Try.func17, Try.ntmps17
    go_wp2_with (go_at_call 15; refine lef.out.mono ?_; rintro e w1 ⟨rfl, m, rfl⟩)
    go_region_law (refine step_copy_splice rfl (.tmp 21) (.tmp 35) 33 33 rfl 5 Try.underlying33 size5 _ _ _ _ _ _ rfl rfl W.heap.size 0 (List.replicate n (.int .u8 0)) 5 (made_row2 W n _) (bcs ((all.drop taken).take n)) (by rw [bcs_length, hcl'.out, hn2.out]; have := hlt.out; have := hlf'.out; exact (Nat.min_eq_right (by omega)).symm) (fun h => ⟨rfl, _, rfl, hpc.out _ _⟩) (by rw [bcs_length, hcl'.out]; simp) (bcs_one _) W.heap.size W (made_below _ _ _) (Nat.le_refl _) ?_; intro w4 hg4 hb4)
    all_goals
      go_wp2
      go_ret2
      refine ⟨rfl, ?_, hb4⟩
      have := hg4.out
      rw [spliced _ _ hcl'.out] at this
      exact this
  · have hdc1 : cp = D := by omega
    have hdc4 : all.length - gone = D := by omega
    have hn0 : Hid (n = 0) := by have := hn2.out; show n = 0; omega
    subst hdc1
    rw [hdc4] at hc1
    have hlz := hide (show lf = 0 by have := hn2.out; omega)
    go_enter Try.func17, Try.ntmps17
    go_wp2_with (go_at_call 15; refine lef.out.mono ?_; rintro e w1 ⟨rfl, m, rfl⟩)
    go_region_law (refine step_copy_splice rfl (.tmp 21) (.tmp 35) 33 33 rfl 5 Try.underlying33 size5 _ _ _ _ _ _ rfl rfl W.heap.size 0 (List.replicate n (.int .u8 0)) 5 (made_row2 W n _) [] (by simp) (fun h => absurd h (by simp)) (by simp) (by simp) W.heap.size W (made_below _ _ _) (Nat.le_refl _) ?_; intro w4 hg4 hb4)
    all_goals
      go_wp2
      go_ret2
      refine ⟨rfl, ?_, hb4⟩
      have e := hn0.out
      subst e
      exact hg4.out
theorem peek_any (n : Nat) (c : Ch W i B v gone lim all taken once) (h : n ≤ all.length - taken) : Calls Try.prog 17 #[.pointer (some ⟨i, 0, none⟩), .int .i64 n] W fun r w' => r = .returned (.tuple #[.slice (some ⟨W.heap.size, 0, none⟩) n n, .bool true]) ∧ RB w' W.heap.size ((all.drop taken).take n) ∧ Below W.heap.size W w' := by
  rcases c.own.at with ⟨rfl, e⟩ | ⟨g, cap, cur, e, _⟩
  · have hn : n = 0 := by
      have := congrArg List.length e
      rw [List.length_drop] at this
      have := c.gt
      simp at *; omega
    subst hn
    refine (peek_nilrow 0 rfl c).mono ?_
    rintro r w' ⟨h1, h2, h3⟩
    exact ⟨h1, by simpa using h2, h3⟩
  · rw [List.length_drop] at e
    subst e
    exact peek_some n g cap c h
/-- Taken once more. -/
theorem Ch.take (c : Ch W i B v gone lim all taken once) (n : Nat) (h : n ≤ all.length - taken) : Ch ((W.setCell ⟨i, 3, none⟩ (.int .i64 ((taken + n : Nat) : Int))).setCell ⟨i, 4, none⟩ (.int .i64 ((max once (taken + n) : Nat) : Int))) i B v gone lim all (taken + n) (max once (taken + n)) :=
  { c with cb := (c.cb.set3 _).set4 _, own := c.own.of fun k hk _ => by have := c.own.row k hk; have := c.iB; rw [Below.heap_setCell _ _ _ _ (show k ≠ i by omega), Below.heap_setCell _ _ _ _ (show k ≠ i by omega)], hB := by simpa using c.hB, g2 := by have := c.g2; omega, t1 := by omega, t2 := by have := c.t2; omega, t3 := by have := c.t3; have := c.t1; omega }
set_option maxHeartbeats 2000000 in
/-- What Take or Peek of n bytes answers where there are so many: a row of the call's own. -/
theorem take_any (n : Nat) (c : Ch W i B v gone lim all taken once) (h : n ≤ all.length - taken) : Calls Try.prog 13 #[.pointer (some ⟨i, 0, none⟩), .int .i64 n] W fun r w' => r = .returned (.tuple #[.slice (some ⟨W.heap.size, 0, none⟩) n n, .bool true]) ∧ RB w' W.heap.size ((all.drop taken).take n) ∧ Ch w' i B v gone lim all (taken + n) (max once (taken + n)) ∧ Fr i v W w' := by
  have pk := hide (peek_any n c h)
  have hl1 := c.l1
  have hl2 := c.l2
  have ht1 := c.t1
  have ht3 := c.t3
  have C := hide c
  clear c
  have hx := hide h
  have hz := C.out.cb.lt
  have hadd := hide (show ((taken : Int) + (n : Int)) = ((taken + n : Nat) : Int) by omega)
  have hfin : Hid (∀ (w1 : World) (x y : Int), RB w1 W.heap.size ((all.drop taken).take n) → Below W.heap.size W w1 → x = (taken + n : Nat) → y = (max once (taken + n) : Nat) → RB ((w1.setCell ⟨i, 3, none⟩ (.int .i64 x)).setCell ⟨i, 4, none⟩ (.int .i64 y)).drew W.heap.size ((all.drop taken).take n) ∧ Ch ((w1.setCell ⟨i, 3, none⟩ (.int .i64 x)).setCell ⟨i, 4, none⟩ (.int .i64 y)).drew i B v gone lim all (taken + n) (max once (taken + n)) ∧ Fr i v W ((w1.setCell ⟨i, 3, none⟩ (.int .i64 x)).setCell ⟨i, 4, none⟩ (.int .i64 y)).drew) := by
    intro w1 x y hr hb hx1 hy1
    subst hx1
    subst hy1
    refine ⟨hr.same ?_, (((C.out.then hb).take n hx.out)).then (Below.refl _ _).drew, (Fr.of_below hb).set.set.then (Below.refl _ _).drew⟩
    show ((w1.setCell ⟨i, 3, none⟩ _).setCell ⟨i, 4, none⟩ _).heap[W.heap.size]? = _
    rw [Below.heap_setCell _ _ _ _ (show W.heap.size ≠ i by omega), Below.heap_setCell _ _ _ _ (show W.heap.size ≠ i by omega)]
  have hx1 := hide (show ((taken : Int) + (n : Int)) = ((taken + n : Nat) : Int) by omega)
  have hy1 := hide (show once < taken + n → ((taken : Int) + (n : Int)) = ((max once (taken + n) : Nat) : Int) by omega)
  have hy2 := hide (show ¬ (once < taken + n) → (once : Int) = ((max once (taken + n) : Nat) : Int) by omega)
  rcases Nat.lt_trichotomy once (taken + n) with hmx | hmx | hmx
  · have hm1 : (once : Int) < (taken : Int) + (n : Int) := by omega
    have hmx' := hide hmx
    clear hmx
    go_enter Try.func13, Try.ntmps13
    go_wp2_with (go_at_call 17; refine pk.out.mono ?_; rintro e w1 ⟨rfl, hr1, hb1⟩; have C1 := hide (C.out.then hb1); have R1 := hide hr1; have B1 := hide hb1; clear hr1 hb1; obtain ⟨c0, c1, c2, c3, c4, f0, f1, f2, f3, f4⟩ := C1.out.cb.cells)
    go_region_with (fail)
    all_goals
      go_wp2
      go_ret2
      exact ⟨rfl, hfin.out w1 _ _ R1.out B1.out hx1.out (hy1.out hmx'.out)⟩
  · have hm1 : ¬ ((once : Int) < (taken : Int) + (n : Int)) := by omega
    have hm2 : ¬ ((taken : Int) + (n : Int) < (once : Int)) := by omega
    have hmx' := hide (show ¬ (once < taken + n) by omega)
    have hm3 := hide hmx
    clear hmx
    go_enter Try.func13, Try.ntmps13
    go_wp2_with (go_at_call 17; refine pk.out.mono ?_; rintro e w1 ⟨rfl, hr1, hb1⟩; have C1 := hide (C.out.then hb1); have R1 := hide hr1; have B1 := hide hb1; clear hr1 hb1; obtain ⟨c0, c1, c2, c3, c4, f0, f1, f2, f3, f4⟩ := C1.out.cb.cells)
    go_region_with (fail)
    all_goals
      go_wp2
      go_ret2
      first | exact ⟨rfl, hfin.out w1 _ _ R1.out B1.out hx1.out (hy2.out hmx'.out)⟩ | exact ⟨rfl, hfin.out w1 _ _ R1.out B1.out hx1.out (by have := hm3.out; omega)⟩
  · have hm1 : ¬ ((once : Int) < (taken : Int) + (n : Int)) := by omega
    have hm2 : ((taken : Int) + (n : Int) < (once : Int)) := by omega
    have hmx' := hide (show ¬ (once < taken + n) by omega)
    clear hmx
    go_enter Try.func13, Try.ntmps13
    go_wp2_with (go_at_call 17; refine pk.out.mono ?_; rintro e w1 ⟨rfl, hr1, hb1⟩; have C1 := hide (C.out.then hb1); have R1 := hide hr1; have B1 := hide hb1; clear hr1 hb1; obtain ⟨c0, c1, c2, c3, c4, f0, f1, f2, f3, f4⟩ := C1.out.cb.cells)
    go_region_with (fail)
    all_goals
      go_wp2
      go_ret2
      exact ⟨rfl, hfin.out w1 _ _ R1.out B1.out hx1.out (hy2.out hmx'.out)⟩
theorem take_no (n : Int) (c : Ch W i B v gone lim all taken once) (h : n < 0 ∨ ((all.length - taken : Nat) : Int) < n) : Calls Try.prog 13 #[.pointer (some ⟨i, 0, none⟩), .int .i64 n] W fun r w' => r = .returned (.tuple #[.slice none 0 0, .bool false]) ∧ ∃ m, w' = W.drewN m := by
  have pk := hide (peek_no n c h)
  go_enter Try.func13, Try.ntmps13
  go_wp2_with (go_at_call 17; refine pk.out.mono ?_; rintro e w1 ⟨rfl, m, rfl⟩)
  go_ret2
  exact ⟨rfl, _, rfl⟩
end
end Go.Proofs.Ytpkmgkdgjghpdaa
