/- Merged by program: FiRef, FjRead, FlPure, FkMay, FmKeep, FnOne, FoLoop, FpBuilt. -/
import Derived.Test.YthbfopdeaknbkaaDoorFgM
/- calamusref05.in, Open: walked. -/
namespace Go.Proofs.YthbfopdeaknbkaaDoor
open Go.RowKit
set_option linter.unusedSimpArgs false
set_option linter.unusedVariables false
set_option maxHeartbeats 1000000 in
set_option maxRecDepth 100000 in
theorem rin_any (v : Value) (l : List ByteArray) (s : ByteArray) (w : World) (hl : NL w v l) (hs : l.length ≤ 1000000) :
    Calls Tryd.prog 48 #[v, .string s] w fun e w' => e = .returned (.bool (inN l s)) ∧ w' = w := by
  obtain ⟨a, c, rfl, h1, h2⟩ := hl.len
  have hl' := hide hl
  clear hl
  have ml : maxLen = 9223372036854775807 := rfl
  go_enter Tryd.func48, Tryd.ntmps48
  go_wp2_with fail
  go_loopw [5] (fun i W => ∃ k : Nat, i = .int .i64 k ∧ k ≤ l.length ∧ Hid (inN (l.take k) s = false ∧ W = w)) (fun i _ => l.length - (intOf i).toNat)
  case atStart => exact ⟨0, rfl, Nat.zero_le _, hide ⟨rfl, rfl⟩⟩
  case round =>
    obtain ⟨k, rfl, hk, hB⟩ := hrel
    obtain ⟨hn, rfl⟩ := hB.out
    by_cases hkl : k < l.length
    · have hki : (k : Int) < (l.length : Int) := by omega
      have hk63 : (k : Int) < 9223372036854775807 := by omega
      obtain ⟨b, o, c', he, hb, _, _, hc⟩ := hl'.out.at k hkl
      cases he
      obtain ⟨t, ht⟩ : ∃ t, l[k] = t := ⟨_, rfl⟩
      rw [ht] at hc
      have hst : inN (l.take (k + 1)) s = (inN (l.take k) s || decide (t.data = s.data)) := by
        rw [List.take_succ_eq_append_getElem hkl, ht]
        simp [inN]
      have hst := hide hst
      have hn' := hide hn
      clear hn hB h1 h2 ml hs
      have ht' := hide ht
      clear ht
      by_cases hq : t = s
      · subst hq
        go_wp2_with fail
        go_ret
        refine ⟨?_, rfl⟩
        have : inN l t = true := (inN_iff l t).2 (by rw [← ht'.out]; exact List.getElem_mem hkl)
        rw [this]
        rfl
      · have hq' : ¬ t.data = s.data := fun e => hq (by cases t; cases s; simp at e; rw [e])
        have hst2 : decide (t = s) = false := decide_eq_false hq
        have hst3 : (t.toList == s.toList) = false := by
          rw [beq_eq_false_iff_ne]
          intro h
          exact hq (ByteArray.ext (Array.toList_inj.1 (by rw [ByteArray.toList_eq, ByteArray.toList_eq] at h; exact h)))
        have hq2 := hide hq'
        clear hq'
        go_wp2_with fail
        exact ⟨⟨k + 1, by go_num, by omega, hide ⟨by rw [hst.out, hn'.out]; simp [hq2.out], by first | rfl | trivial⟩⟩, by simp [intOf]; omega⟩
    · have hki : ¬ ((k : Int) < (l.length : Int)) := by omega
      have hke : k = l.length := by omega
      subst hke
      rw [List.take_length] at hn
      go_wp2_with fail
      go_ret
      exact ⟨by first | rfl | (rw [hn]; rfl), rfl⟩
/-- How many are open behind one event more. -/
theorem open_step {st st' : List Pa} {bg bg' : Bool} {h : Hd} (hs : stepE st bg h = some (st', bg')) : (st'.length : Int) = (st.length : Int) + (if h.kind = 7 ∨ h.kind = 8 ∨ h.kind = 9 then 1 else if h.kind = 11 then -1 else 0) := by
  unfold stepE at hs
  by_cases h10 : h.kind = 10
  · rw [if_pos h10] at hs
    rw [if_neg (by omega), if_neg (by omega)]
    cases st with
    | nil => cases hs
    | cons p r =>
      obtain ⟨k, w, ns⟩ := p
      by_cases hc : k = 8 ∧ w = false ∧ inN ns h.text = false
      · simp only [if_pos hc] at hs
        cases hs
        simp
      · simp only [if_neg hc] at hs
        cases hs
  · rw [if_neg h10] at hs
    by_cases h11 : h.kind = 11
    · rw [if_pos h11] at hs
      rw [if_neg (by omega), if_pos h11]
      cases st with
      | nil => cases hs
      | cons p r =>
        obtain ⟨k, w, ns⟩ := p
        cases w with
        | true => cases hs
        | false => cases hs; simp; omega
    · rw [if_neg h11] at hs
      cases hv : valE st bg with
      | none => rw [hv] at hs; cases hs
      | some x =>
        obtain ⟨s1, b1⟩ := x
        rw [hv] at hs
        have hs2 : some (newE h.kind ++ s1, b1) = some (st', bg') := hs
        cases hs2
        have hl := valE_len hv
        unfold newE
        by_cases h7 : h.kind = 7
        · rw [if_pos h7, if_pos (Or.inl h7)]; simp; omega
        · rw [if_neg h7]
          by_cases h8 : h.kind = 8
          · rw [if_pos h8, if_pos (Or.inr (Or.inl h8))]; simp; omega
          · rw [if_neg h8]
            by_cases h9 : h.kind = 9
            · rw [if_pos h9, if_pos (Or.inr (Or.inr h9))]; simp; omega
            · rw [if_neg h9, if_neg (by omega), if_neg h11]; simp; omega
theorem run_some (es : List Hd) (st : List Pa) (bg : Bool) (h : runE es = some (st, bg)) (k : Nat) (hk : k < es.length) : ∃ s0 b0 s1 b1, runE (es.take k) = some (s0, b0) ∧ runE (es.take (k + 1)) = some (s1, b1) ∧ stepE s0 b0 es[k] = some (s1, b1) := by
  have hcut : ∀ j, runE (es.take j) ≠ none := fun j q => by
    have h2 := List.take_append_drop j es
    rw [← h2] at h
    unfold runE at h q
    rw [runS_app, q, runS_none] at h
    cases h
  cases h0 : runE (es.take k) with
  | none => exact absurd h0 (hcut k)
  | some x =>
    obtain ⟨s0, b0⟩ := x
    cases h1 : runE (es.take (k + 1)) with
    | none => exact absurd h1 (hcut (k + 1))
    | some y =>
      obtain ⟨s1, b1⟩ := y
      refine ⟨s0, b0, s1, b1, rfl, rfl, ?_⟩
      rw [List.take_succ_eq_append_getElem hk] at h1
      unfold runE at h0 h1
      rw [runS_app, h0] at h1
      have h2 : feedE (some (s0, b0)) (mayB es[k]) es[k] = some (s1, b1) := h1
      cases hm : mayB es[k] with
      | false => rw [hm] at h2; cases h2
      | true => rw [hm] at h2; exact h2
set_option maxHeartbeats 2000000 in
set_option maxRecDepth 100000 in
/-- The reference's Open counts what a checker has open. -/
theorem ropen_any (v : Value) (es : List Hd) (w : World) (hv : ES w v es) (hl : es.length ≤ 50000) (st : List Pa) (bg : Bool) (hr : runE es = some (st, bg)) :
    Calls Tryd.prog 24 #[v] w fun e w' => e = .returned (.int .i64 st.length) ∧ w' = w := by
  obtain ⟨a, c, rfl, h1, h2, h3⟩ := hv
  have h3 := hide h3
  have hr' := hide hr
  have ml : maxLen = 9223372036854775807 := rfl
  clear hr
  go_enter Tryd.func24, Tryd.ntmps24
  go_wp2_with fail
  go_loopw [3, 4] (fun u i W => ∃ (k m : Nat), i = .int .i64 k ∧ u = .int .i64 m ∧ k ≤ es.length ∧ m ≤ k ∧ Hid ((∃ s0 b0, runE (es.take k) = some (s0, b0) ∧ s0.length = m) ∧ W = w)) (fun _ i _ => es.length - (intOf i).toNat)
  case atStart => exact ⟨0, 0, rfl, rfl, Nat.zero_le _, Nat.le_refl _, hide ⟨⟨[], false, rfl, rfl⟩, rfl⟩⟩
  case round =>
    obtain ⟨k, m, rfl, rfl, hk, hm, HH⟩ := hrel
    obtain ⟨⟨s0, b0, q0, ql⟩, rfl⟩ := HH.out
    by_cases hkl : k < es.length
    · have hki : (k : Int) < (es.length : Int) := by omega
      have hk63 : (k : Int) < 9223372036854775807 := by omega
      obtain ⟨b, o, rfl, hlt, hel⟩ := h3.out (by omega)
      obtain ⟨c0, _, _, _, _, _, _⟩ := range7 (hel k hkl)
      obtain ⟨s0', b0', s1, b1, t0, t1, t2⟩ := run_some es st bg hr'.out k hkl
      rw [q0] at t0
      cases t0
      have hst := open_step t2
      obtain ⟨h, hh⟩ : ∃ h, es[k] = h := ⟨_, rfl⟩
      rw [hh] at c0 hst
      have hkc : k < c := by omega
      have hq1 := hide t1
      have hst := hide hst
      have hql := hide ql
      have hm' := hide hm
      have hw1 : IntKind.i64.wrap ((m : Int) + 1) = (m : Int) + 1 := by rw [IntKind.wrap_i64] <;> omega
      have hl' := hide hl
      have hkE := hide hk
      clear q0 t1 t2 ql HH hel hm h1 h2 ml hl
      by_cases h7 : h.kind = 7 ∨ h.kind = 8 ∨ h.kind = 9
      · have hs1 : s1.length = m + 1 := by have := hst.out; rw [if_pos h7, hql.out] at this; omega
        have e3 := hide hs1
        clear hs1
        rcases h7 with e | e | e
        all_goals
          rw [e] at c0
          go_wp2_with fail
          exact ⟨⟨k + 1, m + 1, by go_num, by first | rfl | (simp; done), by omega, by have := hm'.out; omega, hide ⟨⟨s1, b1, hq1.out, e3.out⟩, by first | rfl | trivial⟩⟩, by simp [intOf]; omega⟩
      · by_cases h11 : h.kind = 11
        · have hs1 : s1.length + 1 = m := by have := hst.out; rw [if_neg h7, if_pos h11, hql.out] at this; omega
          obtain ⟨m', hm2⟩ : ∃ m', m = m' + 1 := ⟨s1.length, by omega⟩
          subst hm2
          have e3 := hide (show s1.length = m' by omega)
          have hm63 : (m' : Int) < 9223372036854775807 := by have := hm'.out; have := hl'.out; have := hkE.out; omega
          have hw2 : IntKind.i64.wrap (((m' + 1 : Nat) : Int) - 1) = (m' : Int) := by rw [IntKind.wrap_i64] <;> omega
          have hw3 : IntKind.i64.wrap ((m' : Int) + 1 - 1) = (m' : Int) := by rw [IntKind.wrap_i64] <;> omega
          clear hs1 hw1 h7
          rw [h11] at c0
          go_wp2_with fail
          exact ⟨⟨k + 1, m', by go_num, by first | rfl | (go_num; done) | (simp; done), by omega, by have := hm'.out; omega, hide ⟨⟨s1, b1, hq1.out, e3.out⟩, by first | rfl | trivial⟩⟩, by simp [intOf]; omega⟩
        · have hs1 : s1.length = m := by have := hst.out; rw [if_neg h7, if_neg h11, hql.out] at this; omega
          have e3 := hide hs1
          have n7 : ¬ h.kind = 7 := fun e => h7 (Or.inl e)
          have n8 : ¬ h.kind = 8 := fun e => h7 (Or.inr (Or.inl e))
          have n9 : ¬ h.kind = 9 := fun e => h7 (Or.inr (Or.inr e))
          have p7 : (h.kind == 7) = false := by simpa using n7
          have p8 : (h.kind == 8) = false := by simpa using n8
          have p9 : (h.kind == 9) = false := by simpa using n9
          have p11 : (h.kind == 11) = false := by simpa using h11
          have r7 : decide (h.kind = 7) = false := by simpa using n7
          have r8 : decide (h.kind = 8) = false := by simpa using n8
          have r9 : decide (h.kind = 9) = false := by simpa using n9
          have r11 : decide (h.kind = 11) = false := by simpa using h11
          clear hs1 h7 hw1 n7 n8 n9 h11
          go_wp2_with fail
          exact ⟨⟨k + 1, m, by go_num, by first | rfl | (simp; done), by omega, by have := hm'.out; omega, hide ⟨⟨s1, b1, hq1.out, e3.out⟩, by first | rfl | trivial⟩⟩, by simp [intOf]; omega⟩
    · have hki : ¬ ((k : Int) < (es.length : Int)) := by omega
      have hke : k = es.length := by omega
      subst hke
      rw [List.take_length, hr'.out] at q0
      cases q0
      go_wp2_with fail
      go_ret
      exact ⟨by first | rfl | (rw [ql]; rfl), rfl⟩
end Go.Proofs.YthbfopdeaknbkaaDoor
/- calamusref05's Read: stop, next: walked. -/
namespace Go.Proofs.YthbfopdeaknbkaaDoor
open Go.RowKit
set_option linter.unusedSimpArgs false
set_option linter.unusedVariables false
/-- What the reference's May answers (shown elsewhere). -/
def RMay : Prop := ∀ (h : Hd) (w : World), EvZ h → Calls Tryd.prog 46 #[.agg (evs h)] w fun e w' => e = .returned (.bool (mayB h)) ∧ Below w.heap.size w w'
/-- A Read in a block of its own. -/
def RB (W : World) (i : Nat) (v : Value) (k : Nat) (bad fin : Bool) : Prop := W.heap[i]? = some (.cells #[v, .int .i64 k, .bool bad, .bool fin] 67 (0, 0))
section
variable {W W1 : World} {i k : Nat} {v : Value} {bad fin : Bool}
theorem RB.cells (q : RB W i v k bad fin) : W.cell? ⟨i, 0, none⟩ = some v ∧ W.cell? ⟨i, 1, none⟩ = some (.int .i64 k) ∧ W.cell? ⟨i, 2, none⟩ = some (.bool bad) ∧ W.cell? ⟨i, 3, none⟩ = some (.bool fin) ∧ (∀ j, W.frozen? ⟨i, j, none⟩ = false) := by
  unfold RB at q
  simp [World.cell?, World.frozen?, q]
theorem RB.lt (q : RB W i v k bad fin) : i < W.heap.size := (Array.getElem?_eq_some_iff.1 q).1
theorem RB.same (q : RB W i v k bad fin) (h : W1.heap[i]? = W.heap[i]?) : RB W1 i v k bad fin := by unfold RB; rw [h]; exact q
theorem RB.set1 (q : RB W i v k bad fin) (u : Nat) : RB (W.setCell ⟨i, 1, none⟩ (.int .i64 u)) i v u bad fin := by
  unfold RB at q ⊢
  rw [setCell_eq_setRow W i 1 _ _ (0, 0) _ q, setRow_heap W i _ _ _ (0, 0) q]
  rfl
theorem RB.set2 (q : RB W i v k bad fin) (u : Bool) : RB (W.setCell ⟨i, 2, none⟩ (.bool u)) i v k u fin := by
  unfold RB at q ⊢
  rw [setCell_eq_setRow W i 2 _ _ (0, 0) _ q, setRow_heap W i _ _ _ (0, 0) q]
  rfl
theorem RB.set3 (q : RB W i v k bad fin) (u : Bool) : RB (W.setCell ⟨i, 3, none⟩ (.bool u)) i v k bad u := by
  unfold RB at q ⊢
  rw [setCell_eq_setRow W i 3 _ _ (0, 0) _ q, setRow_heap W i _ _ _ (0, 0) q]
  rfl
theorem rstop_any (q : RB W i v k bad fin) : Calls Tryd.prog 47 #[.pointer (some ⟨i, 0, none⟩)] W fun e w' => e = .returned (.bool (bad || fin)) ∧ w' = W := by
  obtain ⟨c0, c1, c2, c3, fz⟩ := q.cells
  clear q
  cases bad
  · go_enter Tryd.func47, Tryd.ntmps47
    go_wp2_with fail
    go_ret
    exact ⟨rfl, rfl⟩
  · go_enter Tryd.func47, Tryd.ntmps47
    go_wp2_with fail
    go_ret
    exact ⟨rfl, rfl⟩
/-- Nothing but block i is written. -/
def FrR (i : Nat) (W W1 : World) : Prop := Below i W W1 ∧ ∀ q, q < W.heap.size → q ≠ i → W1.heap[q]? = W.heap[q]?
theorem FrR.then {W2 : World} (h : FrR i W W1) (hb : Below W1.heap.size W1 W2) (hi : i ≤ W1.heap.size) : FrR i W W2 :=
  ⟨h.1.trans (hb.mono hi), fun q q1 q2 => (hb.block q (Nat.lt_of_lt_of_le q1 h.1.size)).trans (h.2 q q1 q2)⟩
theorem FrR.set {j : Nat} {u : Value} (h : FrR i W W1) : FrR i W (W1.setCell ⟨i, j, none⟩ u) :=
  ⟨h.1.setCell (Nat.le_refl _) _, fun q q1 q2 => (heap_set_ne q2).trans (h.2 q q1 q2)⟩
theorem FrR.of (hb : Below W.heap.size W W1) (hi : i ≤ W.heap.size) : FrR i W W1 := ⟨hb.mono hi, fun q q1 _ => hb.block q q1⟩
theorem FrR.new {j m : Nat} {u : Value} (h : FrR i W W1) (hm : W.heap.size ≤ m) (hi : i ≤ m) : FrR i W (W1.setCell ⟨m, j, none⟩ u) :=
  ⟨h.1.setCell hi _, fun q q1 q2 => (heap_set_ne (by omega)).trans (h.2 q q1 q2)⟩
set_option maxHeartbeats 2000000 in
set_option maxRecDepth 100000 in
theorem rnext_end (es : List Hd) (q : RB W i v k bad fin) (hv : ES W v es) (hk : es.length ≤ k) (hk2 : k ≤ 1000000) :
    Calls Tryd.prog 33 #[.pointer (some ⟨i, 0, none⟩)] W fun e w' => e = .returned (.agg (evs (zr 0))) ∧ RB w' i v k bad true ∧ FrR i W w' := by
  obtain ⟨a, c, rfl, h1, h2, h3⟩ := hv
  have q' := hide q
  obtain ⟨c0, c1, c2, c3, fz⟩ := q.cells
  have hi := q.lt
  have hle : (es.length : Int) ≤ (k : Int) := by omega
  have hR := hide (fun W1 (hb : Below W.heap.size W W1) => (q.same (hb.block i hi)))
  clear q h1 h2 h3
  go_enter Tryd.func33, Tryd.ntmps33
  go_wp2_with fail
  go_quiet (fail)
  have B1 := hide (dn_below (below_al (o := .cells #[.int .i64 0, .bool false, .bool false, .string ⟨#[]⟩, .int .i64 0, .int .u64 0, .string ⟨#[]⟩] 42) (Below.refl W.heap.size W)))
  go_wp2_with fail
  refine bodyPost_ret (v := .agg #[.int .i64 0, .bool false, .bool false, .string ⟨#[]⟩, .int .i64 0, .int .u64 0, .string ⟨#[]⟩]) (by simp [results, Tryd.results33, go_sem, *]) rfl ⟨rfl, ?_, ?_⟩
  · refine RB.same ((hR.out _ (B1.out nq)).set3 true) ?_
    simp only [heap_set_ne (show i ≠ W.heap.size by omega)]
  · (iterate 7 (refine FrR.new ?_ (Nat.le_refl _) (Nat.le_of_lt hi)))
    exact FrR.set (FrR.of (B1.out _) (Nat.le_of_lt hi))
theorem wp_dn {P : Program} {cd : Code} {Q : Exit → Act → World → Prop} {a : Act} {X : World} {m : Nat} (h : ∀ W5, (∃ m, W5 = X.drewN m) → Code.wp P cd Q a W5) : Code.wp P cd Q a (X.drewN m) := h _ ⟨m, rfl⟩
set_option maxHeartbeats 2000000 in
set_option maxRecDepth 100000 in
theorem rnext_any (rm : RMay) (es : List Hd) (q : RB W i v k bad fin) (hv : ES W v es) (hk : k < es.length) (hk2 : es.length ≤ 1000000) (hz : EvZ es[k]) :
    Calls Tryd.prog 33 #[.pointer (some ⟨i, 0, none⟩)] W fun e w' => e = .returned (.agg (evs es[k])) ∧ RB w' i v (k + 1) (bad || !mayB es[k]) fin ∧ FrR i W w' := by
  obtain ⟨a, c, rfl, h1, h2, h3⟩ := hv
  obtain ⟨b, o, rfl, hlt, hel⟩ := h3 (by omega)
  obtain ⟨c0, c1, c2, c3, fz⟩ := q.cells
  have hEl := hide (hel k hk)
  have hi := q.lt
  have rm' := hide (fun w => rm es[k] w hz)
  obtain ⟨h, hh⟩ : ∃ h, es[k] = h := ⟨_, rfl⟩
  rw [hh] at hEl rm' ⊢
  obtain ⟨mb, hmb⟩ : ∃ mb, mayB h = mb := ⟨_, rfl⟩
  rw [hmb] at rm' ⊢
  clear hmb
  have hle : ¬ ((es.length : Int) ≤ (k : Int)) := by omega
  have hki := hide (show (k : Int) < (es.length : Int) by omega)
  have hk63 := hide (show (k : Int) < 9223372036854775807 by omega)
  have hkc := hide (show k < c by omega)
  have q' := hide q
  have hlt' := hide hlt
  have hi' := hide hi
  simp only [evs] at rm' ⊢
  clear q h1 h2 h3 hel hh hz hk2 hk hlt
  go_enter Tryd.func33, Tryd.ntmps33
  go_wp2_with fail
  go_quiet (fail)
  rw [show decide (es.length ≤ k) = false from decide_eq_false (by omega)]
  have B1 := hide (dn_below (below_al (o := .cells #[.int .i64 0, .bool false, .bool false, .string ⟨#[]⟩, .int .i64 0, .int .u64 0, .string ⟨#[]⟩] 42) (Below.refl W.heap.size W)) nq)
  go_wp2_with fail
  refine wp_dn fun W5 hW5 => ?_
  have B5 : Below W.heap.size W W5 := by obtain ⟨m5, rfl⟩ := hW5; exact dn_below (below_al (Below.refl _ _)) _
  have R5 : Hid (∀ W6, Below W5.heap.size W5 W6 → RB W6 i (.slice (some ⟨b, o, none⟩) es.length c) k bad fin) := fun W6 hb => (q'.out.same (B5.block i hi)).same (hb.block i (Nat.lt_of_lt_of_le hi B5.size))
  have z5 : W.heap.size < W5.heap.size := by obtain ⟨m5, rfl⟩ := hW5; show _ < ((W.alloc _).drewN m5).heap.size; simp [World.drewN]
  clear c0 c1 c2 c3 fz B1
  obtain ⟨c0, c1, c2, c3, fz⟩ := (R5.out W5 (Below.refl _ _)).cells
  obtain ⟨d0, d1, d2, d3, d4, d5, d6⟩ := range7 (rangeAt_below hEl.out B5 hlt'.out)
  have hRz : Hid (∀ W6, Below W5.heap.size W5 W6 → W6.heap[W.heap.size]? = some (.cells #[.int .i64 0, .bool false, .bool false, .string ⟨#[]⟩, .int .i64 0, .int .u64 0, .string ⟨#[]⟩] 42 (0, 0))) := fun W6 hb => by
    rw [hb.block _ z5]
    obtain ⟨m5, rfl⟩ := hW5
    exact heap_alloc_last _ _
  have B5' := hide B5
  have hki := hki.out
  have hk63 := hk63.out
  have hkc := hkc.out
  have hb5 : b < W5.heap.size := Nat.lt_of_lt_of_le hlt'.out B5.size
  have hi5 : i < W5.heap.size := Nat.lt_of_lt_of_le hi B5.size
  clear hW5 B5
  go_region_with (fail)
  all_goals
    have E5 : Hid (EB (W5.alloc (.cells (evs h) 42)) W5.heap.size h) := EB.new W5 h
    clear d0 d1 d2 d3 d4 d5 d6
    go_simp
    go_wp2_with (go_at_call 46; refine Stop.out ?_)
    refine Stop.mk ((rm'.out _).mono ?_)
    rintro e w6 ⟨rfl, hb6⟩
    have B56 : Hid (Below W5.heap.size W5 w6) := below_then (by repeat (first | exact Below.refl _ _ | refine Below.drew ?_ | refine below_al ?_)) hb6
    have E6 := hide ((E5.out.below (Below.refl _ _).drew).below hb6)
    obtain ⟨e0, e1, e2, e3, e4, e5, e6⟩ := E6.out.cells
    have R6 := hide (R5.out _ B56.out)
    clear c0 c1 c2 c3 fz
    obtain ⟨c0, c1, c2, c3, fz⟩ := R6.out.cells
    have Z6 : Hid (EB w6 W.heap.size (zr 0)) := hRz.out _ B56.out
    obtain ⟨g0, g1, g2, g3, g4, g5, g6⟩ := Z6.out.cells
    simp only [zr] at g0 g1 g2 g3 g4 g5 g6
    have gz : ∀ j, w6.frozen? ⟨W.heap.size, j, none⟩ = false := fun j => by have := Z6.out; unfold EB at this; simp [World.frozen?, this]
    have B6 := hide (below_then B5'.out B56.out)
    have n1 : i ≠ W.heap.size := by omega
    have n2 : W.heap.size ≠ i := by omega
    have n3 : W5.heap.size ≠ i := by omega
    have n4 : i ≠ W5.heap.size := by omega
    have n5 : W.heap.size ≠ W5.heap.size := by omega
    have n6 : W5.heap.size ≠ W.heap.size := by omega
    clear hb6
    cases mb
    · go_wp2_with fail
      refine bodyPost_ret (v := .agg #[.int .i64 h.kind, .bool h.flag, .bool h.neg, .string h.dig, .int .i64 h.exp, .int .u64 h.bits, .string h.text]) (by simp [results, Tryd.results33, go_sem, *]) rfl ⟨rfl, ?_, ?_⟩
      · (try rw [Bool.not_false, Bool.or_true])
        refine RB.same ((R6.out.set2 true).set1 (k + 1)) ?_
        simp only [heap_set_ne (show i ≠ W.heap.size by omega)]
        rfl
      · (iterate 7 (refine FrR.new ?_ (Nat.le_refl _) (Nat.le_of_lt hi)))
        exact FrR.set (FrR.set (FrR.of B6.out (Nat.le_of_lt hi)))
    · go_wp2_with fail
      refine bodyPost_ret (v := .agg #[.int .i64 h.kind, .bool h.flag, .bool h.neg, .string h.dig, .int .i64 h.exp, .int .u64 h.bits, .string h.text]) (by simp [results, Tryd.results33, go_sem, *]) rfl ⟨rfl, ?_, ?_⟩
      · (try rw [Bool.not_true, Bool.or_false])
        refine RB.same (R6.out.set1 (k + 1)) ?_
        simp only [heap_set_ne (show i ≠ W.heap.size by omega)]
        rfl
      · (iterate 7 (refine FrR.new ?_ (Nat.le_refl _) (Nat.le_of_lt hi)))
        exact FrR.set (FrR.of B6.out (Nat.le_of_lt hi))
end
end Go.Proofs.YthbfopdeaknbkaaDoor
/- What the reference's one reads: its states and its tree (no program in sight). -/
namespace Go.Proofs.YthbfopdeaknbkaaDoor
open Go.RowKit
set_option linter.unusedSimpArgs false
set_option linter.unusedVariables false
section
variable {es : List Hd}
theorem run_next {k : Nat} {st : List Pa} {bg : Bool} (h : runE (es.take k) = some (st, bg)) (hk : k < es.length) (hm : mayB es[k] = true) : runE (es.take (k + 1)) = stepE st bg es[k] := by
  rw [runE_take es k hk, h, hm]; rfl
theorem run_bad {k : Nat} (hk : k < es.length) (hm : mayB es[k] = false) : runE es = none := runE_cut es (k + 1) (by rw [runE_take es k hk, hm]; rfl)
theorem run_none {k : Nat} {st : List Pa} {bg : Bool} (h : runE (es.take k) = some (st, bg)) (hk : k < es.length) (hn : stepE st bg es[k] = none) : runE es = none := by
  cases hm : mayB es[k] with
  | false => exact run_bad hk hm
  | true => exact runE_cut es (k + 1) (by rw [run_next h hk hm]; exact hn)
/-- Where one stands: it began with the event e at k0; l are the children that it has, nms their names. -/
structure Lp (es : List Hd) (n k0 : Nat) (e : Hd) (s1 : List Pa) (k : Nat) (l : List (VT n)) (nms : List ByteArray) : Prop where
  may : mayB e = true
  lo : 7 ≤ e.kind
  hi : e.kind ≤ 9
  run : runE (es.take k) = some ((e.kind, decide (e.kind = 9) && l.isEmpty, nms) :: s1, true)
  vs : ∀ y ∈ l, IsV n y
  nm8 : e.kind = 8 → nms.length = l.length ∧ Nms nms
  nm0 : e.kind ≠ 8 → nms = []
  tag : e.kind = 9 → l.length ≤ 1
  ev : es.take k = es.take k0 ++ (e :: kids n { e with names := nms } l l.length)
  k0k : k0 < k
  kle : k ≤ es.length
theorem Lp.start {n k0 : Nat} {e : Hd} {s1 : List Pa} (hk : k0 < es.length) (he : es[k0] = e) (hm : mayB e = true) (lo : 7 ≤ e.kind) (hi : e.kind ≤ 9) (hr : runE (es.take (k0 + 1)) = some (newE e.kind ++ s1, true)) : Lp es n k0 e s1 (k0 + 1) [] [] := by
  refine ⟨hm, lo, hi, ?_, fun y hy => (by cases hy), fun _ => ⟨rfl, fun s hs => (by cases hs), List.nodup_nil⟩, fun _ => rfl, fun _ => by simp, ?_, by omega, hk⟩
  · rw [hr]
    have hk : e.kind = 7 ∨ e.kind = 8 ∨ e.kind = 9 := by omega
    rcases hk with q | q | q <;> rw [q] <;> rfl
  · rw [List.take_succ_eq_append_getElem hk, he]; rfl
variable {n k0 k : Nat} {e : Hd} {s1 : List Pa} {l : List (VT n)} {nms : List ByteArray}
theorem Lp.full (H : Lp es n k0 e s1 k l nms) (hk : es.length ≤ k) : ∃ st, runE es = some (st, true) ∧ st ≠ [] := by
  have : k = es.length := Nat.le_antisymm H.kle hk
  subst this
  have := H.run
  rw [List.take_length] at this
  exact ⟨_, this, by simp⟩
theorem Lp.endBad (H : Lp es n k0 e s1 k l nms) (hk : k < es.length) (h11 : es[k].kind = 11) (h9 : e.kind = 9) (hl : l = []) : runE es = none := by
  refine run_none H.run hk ?_
  unfold stepE
  rw [if_neg (by omega), if_pos h11]
  simp [h9, hl]
theorem Lp.endOk (H : Lp es n k0 e s1 k l nms) (hk : k < es.length) (hm : mayB es[k] = true) (h11 : es[k].kind = 11) (h9 : ¬ (e.kind = 9 ∧ l = [])) :
    runE (es.take (k + 1)) = some (s1, true) ∧ IsV (n + 1) (({ e with names := nms }, l) : VT (n + 1)) ∧ es.take (k + 1) = es.take k0 ++ fl (n + 1) (({ e with names := nms }, l) : VT (n + 1)) := by
  have hmay := (mayB_iff e).1 H.may
  have lo := H.lo
  have hi := H.hi
  obtain ⟨m1, m2, m3, m4, m5, m6, m7⟩ := may_val hmay (by omega) (by omega)
  have hw : (decide (e.kind = 9) && l.isEmpty) = false := by
    cases hq : (decide (e.kind = 9) && l.isEmpty) with
    | false => rfl
    | true =>
      simp only [Bool.and_eq_true, decide_eq_true_eq, List.isEmpty_iff] at hq
      exact absurd hq h9
  refine ⟨?_, ?_, ?_⟩
  · rw [run_next H.run hk hm]
    unfold stepE
    rw [if_neg (by omega), if_pos h11, hw]
    rfl
  · refine ⟨⟨m1, m2, ?_, Or.inl (by show 7 ≤ e.kind; omega)⟩, ⟨fun q => ?_, fun q => ?_, fun q => ?_, fun q => ?_⟩, H.vs⟩
    · show strip { e with names := nms } = zr e.kind
      by_cases h8 : e.kind = 8
      · have := m3
        unfold strip zr at this ⊢
        simp [h8] at this ⊢
        exact this
      · have e1 : ({ e with names := nms } : Hd) = e := by
          have := H.nm0 h8
          obtain ⟨a1, a2, a3, a4, a5, a6, a7, a8⟩ := e
          simp only at m4 ⊢
          rw [m4, this]
        rw [e1]; exact m3
    · have : e.kind = 3 := q; omega
    · have : e.kind = 5 := q; omega
    · exact H.nm8 q
    · refine ⟨m7 q, ?_⟩
      have := H.tag q
      have : l ≠ [] := fun e => h9 ⟨q, e⟩
      have := List.length_pos_iff.2 this
      show l.length = 1
      omega
  · rw [List.take_succ_eq_append_getElem hk, H.ev, fl_succ, if_neg (by show ¬ e.kind < 7; omega), may_11 ((mayB_iff _).1 hm) h11]
    have e1 : hd0 { e with names := nms } = e := by
      obtain ⟨a1, a2, a3, a4, a5, a6, a7, a8⟩ := e
      simp only at m4
      rw [m4]; rfl
    rw [e1]
    simp
theorem Lp.tagBad (H : Lp es n k0 e s1 k l nms) (hk : k < es.length) (h11 : es[k].kind ≠ 11) (h9 : e.kind = 9) (hl : l.length = 1) : runE es = none := by
  refine run_none H.run hk ?_
  have he : l.isEmpty = false := by cases l with | nil => simp at hl | cons a b => rfl
  unfold stepE
  by_cases h10 : es[k].kind = 10
  · rw [if_pos h10]
    simp [h9]
  · rw [if_neg h10, if_neg h11, he]
    simp [valE, h9]
theorem Lp.recBad (H : Lp es n k0 e s1 k l nms) (hk : k < es.length) (h11 : es[k].kind ≠ 11) (h8 : e.kind = 8) (hb : es[k].kind ≠ 10 ∨ inN nms es[k].text = true) : runE es = none := by
  refine run_none H.run hk ?_
  have h9 : decide (e.kind = 9) = false := decide_eq_false (by omega)
  unfold stepE
  by_cases h10 : es[k].kind = 10
  · rcases hb with q | q
    · exact absurd h10 q
    · rw [if_pos h10]
      simp [q]
  · rw [if_neg h10, if_neg h11, h9]
    simp [valE, h8]
/-- A record has taken a name. -/
theorem Lp.name (H : Lp es n k0 e s1 k l nms) (hk : k < es.length) (hm : mayB es[k] = true) (h8 : e.kind = 8) (h10 : es[k].kind = 10) (hin : inN nms es[k].text = false) : runE (es.take (k + 1)) = some ((8, true, nms ++ [es[k].text]) :: s1, true) := by
  rw [run_next H.run hk hm]
  have h9 : decide (e.kind = 9) = false := decide_eq_false (by omega)
  unfold stepE
  rw [if_pos h10, h9]
  simp [h8, hin]
/-- Behind a record's name: an event that is no value's. -/
theorem name_bad {k1 : Nat} {r : List Pa} {N : List ByteArray} (h : runE (es.take k1) = some ((8, true, N) :: r, true)) (hk : k1 < es.length) (hb : es[k1].kind = 10 ∨ es[k1].kind = 11) : runE es = none := by
  refine run_none h hk ?_
  unfold stepE
  rcases hb with q | q
  · rw [if_pos q]; simp
  · rw [if_neg (by omega), if_pos q]; rfl
theorem name_val {k1 : Nat} {r : List Pa} {N : List ByteArray} (h : runE (es.take k1) = some ((8, true, N) :: r, true)) (hk : k1 < es.length) (hm : mayB es[k1] = true) (h10 : es[k1].kind ≠ 10) (h11 : es[k1].kind ≠ 11) : runE (es.take (k1 + 1)) = some (newE es[k1].kind ++ ((8, false, N) :: r), true) := by
  rw [run_next h hk hm]
  exact step_val h10 h11 (by simp [valE])
/-- Within a list, a tag: an event that is no value's. -/
theorem Lp.valBad (H : Lp es n k0 e s1 k l nms) (hk : k < es.length) (h8 : e.kind ≠ 8) (h10 : es[k].kind = 10) : runE es = none := by
  refine run_none H.run hk ?_
  unfold stepE
  rw [if_pos h10]
  simp [h8]
theorem Lp.val (H : Lp es n k0 e s1 k l nms) (hk : k < es.length) (hm : mayB es[k] = true) (h8 : e.kind ≠ 8) (h9 : e.kind = 9 → l = []) (h10 : es[k].kind ≠ 10) (h11 : es[k].kind ≠ 11) : runE (es.take (k + 1)) = some (newE es[k].kind ++ ((e.kind, false, nms) :: s1), true) := by
  rw [run_next H.run hk hm]
  refine step_val h10 h11 ?_
  have lo := H.lo
  have hi := H.hi
  have hk : e.kind = 7 ∨ e.kind = 9 := by omega
  rcases hk with q | q
  · simp [valE, q]
  · simp [valE, q, h9 q]
/-- A child has been read. -/
theorem Lp.child {nms' : List ByteArray} {k1 k' : Nat} {c : VT n} (H : Lp es n k0 e s1 k l nms) (h8 : e.kind = 8 → ∃ t, nms' = nms ++ [t] ∧ okT t = true ∧ inN nms t = false) (h7 : e.kind ≠ 8 → nms' = nms) (h9 : e.kind = 9 → l = [])
    (hp : es.take k1 = es.take k ++ preN { e with names := nms' } l.length) (hc : IsV n c) (hev : es.take k' = es.take k1 ++ fl n c) (hr : runE (es.take k') = some ((e.kind, false, nms') :: s1, true)) (hkk : k < k') (hk' : k' ≤ es.length) : Lp es n k0 e s1 k' (l ++ [c]) nms' := by
  refine ⟨H.may, H.lo, H.hi, ?_, ?_, ?_, ?_, ?_, ?_, by have := H.k0k; omega, hk'⟩
  · rw [hr]; simp
  · intro y hy
    rcases List.mem_append.1 hy with q | q
    · exact H.vs y q
    · rw [List.mem_singleton.1 q]; exact hc
  · intro q
    obtain ⟨t, rfl, ht, hin⟩ := h8 q
    obtain ⟨a, b1, b2⟩ := H.nm8 q
    refine ⟨by simp [a], ?_, ?_⟩
    · intro s hs
      rcases List.mem_append.1 hs with r | r
      · exact b1 s r
      · rw [List.mem_singleton.1 r]; exact ht
    · rw [List.nodup_append]
      refine ⟨b2, by simp, fun x hx y hy => ?_⟩
      rw [List.mem_singleton.1 hy]
      rintro rfl
      rw [(inN_iff nms x).2 hx] at hin
      cases hin
  · intro q; rw [h7 q]; exact H.nm0 q
  · intro q; rw [h9 q]; simp
  · rw [hev, hp, H.ev]
    have hlen : (l ++ [c]).length = l.length + 1 := by simp
    rw [hlen, kids_succ n _ (l ++ [c]) l.length (by simp)]
    have e1 : kids n { e with names := nms' } (l ++ [c]) l.length = kids n { e with names := nms } l l.length := by
      refine kids_same n _ _ _ _ _ rfl (fun i hi => ?_) (fun i hi => by rw [List.getElem?_append_left hi])
      show nms'[i]? = nms[i]?
      by_cases q : e.kind = 8
      · obtain ⟨t, rfl, _, _⟩ := h8 q
        rw [List.getElem?_append_left (by have := (H.nm8 q).1; omega)]
      · rw [h7 q]
    rw [e1]
    simp
theorem Lp.pre8 (H : Lp es n k0 e s1 k l nms) (hk : k < es.length) (hm : mayB es[k] = true) (h8 : e.kind = 8) (h10 : es[k].kind = 10) : es.take (k + 1) = es.take k ++ preN { e with names := nms ++ [es[k].text] } l.length ∧ okT es[k].text = true := by
  obtain ⟨he, ht⟩ := may_10 ((mayB_iff _).1 hm) h10
  refine ⟨?_, ht⟩
  rw [List.take_succ_eq_append_getElem hk]
  unfold preN
  rw [if_pos h8]
  show _ = _ ++ [evN (((nms ++ [es[k].text])[l.length]?).getD ByteArray.empty)]
  rw [← (H.nm8 h8).1]
  simp [← he]
theorem Lp.pre7 (H : Lp es n k0 e s1 k l nms) (h8 : e.kind ≠ 8) : es.take k = es.take k ++ preN { e with names := nms } l.length := by
  unfold preN
  rw [if_neg h8]
  simp
end
/-- A leaf. -/
theorem leaf_ok {es : List Hd} {n k0 : Nat} {e : Hd} (hk : k0 < es.length) (he : es[k0] = e) (hm : mayB e = true) (h7 : e.kind < 7) : IsV (n + 1) ((e, []) : VT (n + 1)) ∧ es.take (k0 + 1) = es.take k0 ++ fl (n + 1) ((e, []) : VT (n + 1)) := by
  obtain ⟨m1, m2, m3, m4, m5, m6, m7⟩ := may_val ((mayB_iff e).1 hm) (by omega) (by omega)
  refine ⟨⟨⟨m1, m2, m3, Or.inr rfl⟩, ⟨m5, m6, fun q => (by have : e.kind = 8 := q; omega), fun q => (by have : e.kind = 9 := q; omega)⟩, fun y hy => (by cases hy)⟩, ?_⟩
  rw [fl_succ, if_pos h7, hd0_id m4, List.take_succ_eq_append_getElem hk, he]
/-- A value's events tell it. -/
theorem hd0_eq {h h' : Hd} (q : hd0 h = hd0 h') : h' = { h with names := h'.names } := by
  obtain ⟨a1, a2, a3, a4, a5, a6, a7, a8⟩ := h
  obtain ⟨b1, b2, b3, b4, b5, b6, b7, b8⟩ := h'
  simp only [hd0, Hd.mk.injEq] at q ⊢
  obtain ⟨q1, q2, q3, q4, q5, q6, q7, _⟩ := q
  exact ⟨q1.symm, q2.symm, q3.symm, q4.symm, q5.symm, q6.symm, q7.symm, trivial⟩
theorem fl_first : ∀ (n : Nat) (x : VT n), IsV n x → ∃ t r, fl n x = t :: r ∧ 1 ≤ t.kind ∧ t.kind ≤ 9
  | 0, x, _ => Empty.elim x
  | n + 1, (h, l), hv => ⟨_, _, fl_succ n h l, hv.1.1, hv.1.2.1⟩
theorem fl_inj : ∀ (n : Nat) (x y : VT n), IsV n x → IsV n y → ∀ r r', fl n x ++ r = fl n y ++ r' → x = y ∧ r = r'
  | 0, x, _, _, _, _, _, _ => Empty.elim x
  | n + 1, (h, l), (h', l'), hv, hv', r, r', heq => by
    have ih := fl_inj n
    have e0 : hd0 h = hd0 h' := by
      rw [fl_succ, fl_succ] at heq
      exact (List.cons.inj heq).1
    have hk : h.kind = h'.kind := by
      have q := congrArg Hd.kind e0
      exact q
    have hh := hd0_eq e0
    by_cases h7 : h.kind < 7
    · rw [post_leaf n h l r h7, post_leaf n h' l' r' (by omega)] at heq
      have e1 := (List.cons.inj heq).2
      have l1 : l = [] := by rcases hv.1.2.2.2 with q | q; (have : 7 ≤ h.kind := q; omega); exact q
      have l2 : l' = [] := by rcases hv'.1.2.2.2 with q | q; (have : 7 ≤ h'.kind := q; omega); exact q
      have n1 := strip_names h hv.1.2.2.1 (by omega)
      have n2 := strip_names h' hv'.1.2.2.1 (by omega)
      subst l1 l2
      refine ⟨?_, e1⟩
      rw [n2] at hh
      rw [hh, ← n1]
    · rw [post_zero n h l r h7, post_zero n h' l' r' (by omega)] at heq
      have e1 := (List.cons.inj heq).2
      have key : ∀ (d k : Nat), d = l.length - k → k ≤ l.length → k ≤ l'.length → l.take k = l'.take k → (h.kind = 8 → h.names.take k = h'.names.take k) → post n h l r k = post n h' l' r' k → l = l' ∧ (h.kind = 8 → h.names = h'.names) ∧ r = r' := by
        intro d
        induction d with
        | zero =>
          intro k hd k1 k2 t1 t2 hp
          have hkl : k = l.length := by omega
          by_cases q : k < l'.length
          · rw [hkl, post_end, ← hkl, post_succ n h' l' r' k q] at hp
            have hy := hv'.2.2 _ (List.getElem_mem q)
            obtain ⟨t, rr, ht, ha, hb⟩ := fl_first n _ hy
            rw [ht] at hp
            by_cases h8 : h'.kind = 8
            · unfold preN at hp
              rw [if_pos h8] at hp
              have := congrArg Hd.kind (List.cons.inj hp).1
              simp [evE, evN, zr] at this
            · unfold preN at hp
              rw [if_neg h8] at hp
              have := congrArg Hd.kind (List.cons.inj hp).1
              simp [evE, zr] at this
              omega
          · have hk2 : k = l'.length := by omega
            rw [hkl, post_end, ← hkl, hk2, post_end] at hp
            rw [hkl, List.take_length, ← hkl, hk2, List.take_length] at t1
            refine ⟨t1, fun h8 => ?_, (List.cons.inj hp).2⟩
            have f1 : h.names.length = l.length := (hv.2.1.2.2.1 h8).1
            have f2 : h'.names.length = l'.length := (hv'.2.1.2.2.1 (hk.symm.trans h8)).1
            have := t2 h8
            rw [List.take_of_length_le (by omega), List.take_of_length_le (by omega)] at this
            exact this
        | succ d ihd =>
          intro k hd k1 k2 t1 t2 hp
          have q1 : k < l.length := by omega
          rw [post_succ n h l r k q1] at hp
          by_cases q2 : k < l'.length
          · rw [post_succ n h' l' r' k q2] at hp
            have hp2 : preN h k = preN h' k ∧ fl n l[k] ++ post n h l r (k + 1) = fl n l'[k] ++ post n h' l' r' (k + 1) := by
              unfold preN at hp ⊢
              by_cases h8 : h.kind = 8
              · rw [if_pos h8, if_pos (hk.symm.trans h8)] at hp ⊢
                have := List.cons.inj hp
                exact ⟨by rw [this.1], this.2⟩
              · rw [if_neg h8, if_neg (fun e => h8 (hk.trans e))] at hp ⊢
                exact ⟨rfl, hp⟩
            obtain ⟨p1, p2⟩ := hp2
            obtain ⟨c1, c2⟩ := ih _ _ (hv.2.2 _ (List.getElem_mem q1)) (hv'.2.2 _ (List.getElem_mem q2)) _ _ p2
            refine ihd (k + 1) (by omega) q1 q2 ?_ (fun h8 => ?_) c2
            · rw [List.take_succ_eq_append_getElem q1, List.take_succ_eq_append_getElem q2, t1, c1]
            · have f1 : h.names.length = l.length := (hv.2.1.2.2.1 h8).1
              have f2 : h'.names.length = l'.length := (hv'.2.1.2.2.1 (hk.symm.trans h8)).1
              unfold preN at p1
              rw [if_pos h8, if_pos (hk.symm.trans h8)] at p1
              have p1' := congrArg Hd.text (List.cons.inj p1).1
              simp only [evN, zr] at p1'
              rw [List.getElem?_eq_getElem (by omega), List.getElem?_eq_getElem (by omega)] at p1'
              have p3 : h.names[k]'(by omega) = h'.names[k]'(by omega) := p1'
              rw [List.take_succ_eq_append_getElem (by omega), List.take_succ_eq_append_getElem (by omega), t2 h8, p3]
          · have hk2 : k = l'.length := by omega
            have hpe := post_end n h' l' r'
            rw [← hk2] at hpe
            rw [hpe] at hp
            have hy := hv.2.2 _ (List.getElem_mem q1)
            obtain ⟨t, rr, ht, ha, hb⟩ := fl_first n _ hy
            rw [ht] at hp
            by_cases h8 : h.kind = 8
            · unfold preN at hp
              rw [if_pos h8] at hp
              have := congrArg Hd.kind (List.cons.inj hp).1
              simp [evE, evN, zr] at this
            · unfold preN at hp
              rw [if_neg h8] at hp
              have := congrArg Hd.kind (List.cons.inj hp).1
              simp [evE, zr] at this
              omega
      obtain ⟨a1, a2, a3⟩ := key l.length 0 (by simp) (Nat.zero_le _) (Nat.zero_le _) rfl (fun _ => rfl) e1
      refine ⟨?_, a3⟩
      subst a1
      have nn : h.names = h'.names := by
        by_cases h8 : h.kind = 8
        · exact a2 h8
        · rw [strip_names h hv.1.2.2.1 h8, strip_names h' hv'.1.2.2.1 (fun e => h8 (hk.trans e))]
      rw [hh, ← nn]
end Go.Proofs.YthbfopdeaknbkaaDoor
/- calamusref05.May: walked. -/
namespace Go.Proofs.YthbfopdeaknbkaaDoor
open Go.RowKit
set_option linter.unusedSimpArgs false
set_option linter.unusedVariables false
theorem emp0 : (⟨#[]⟩ : ByteArray).size = 0 := rfl
set_option maxHeartbeats 1000000 in
set_option maxRecDepth 100000 in
theorem rmay_1 (h : Hd) (w : World) (hz : EvZ h) (hk : h.kind = 1) :
    Calls Tryd.prog 46 #[.agg (evs h)] w fun e w' => e = .returned (.bool (mayB h)) ∧ Below w.heap.size w w' := by
  obtain ⟨k, fl, ng, dg, ex, bt, tx, nm⟩ := h
  obtain ⟨z1, z2, z3⟩ := hz
  simp only at hk z1 z2 z3
  subst hk z3
  show Calls _ _ #[.agg #[.int .i64 1, .bool fl, .bool ng, .string dg, .int .i64 ex, .int .u64 bt, .string tx]] _ _
  cases fl
  case true =>
    have hm := hide (show mayB ⟨1, true, ng, dg, ex, bt, tx, []⟩ = false by simp [mayB, sB, strip, emp0])
    go_enter Tryd.func46, Tryd.ntmps46
    go_wp2_with fail
    go_ret
    exact ⟨by rw [hm.out]; first | rfl | (simp; done) | (simp; assumption), (by first | exact Below.refl _ _ | exact below_al (Below.refl _ _) | exact below_al (below_al (Below.refl _ _)) | exact below_al (below_al (below_al (Below.refl _ _))))⟩
  case false =>
  cases ng
  case true =>
    have hm := hide (show mayB ⟨1, false, true, dg, ex, bt, tx, []⟩ = false by simp [mayB, sB, strip, emp0])
    go_enter Tryd.func46, Tryd.ntmps46
    go_wp2_with fail
    go_ret
    exact ⟨by rw [hm.out]; first | rfl | (simp; done) | (simp; assumption), (by first | exact Below.refl _ _ | exact below_al (Below.refl _ _) | exact below_al (below_al (Below.refl _ _)) | exact below_al (below_al (below_al (Below.refl _ _))))⟩
  case false =>
  by_cases e3 : dg = ⟨#[]⟩
  case neg =>
    have q1 : decide (dg = (⟨#[]⟩ : ByteArray)) = false := decide_eq_false e3
    have q2 := ba_ne e3
    have q3 := ba_nil e3
    have q4 : ¬ dg.size = 0 := fun e => e3 ((ba_empty _).1 e)
    have q5 : ¬ dg = ByteArray.empty := e3
    have hm := hide (show mayB ⟨1, false, false, dg, ex, bt, tx, []⟩ = false by simp [mayB, sB, strip, emp0, q4, q5])
    clear q4 q5
    go_enter Tryd.func46, Tryd.ntmps46
    go_wp2_with fail
    go_ret
    exact ⟨by rw [hm.out]; first | rfl | (simp; done) | (simp; assumption), (by first | exact Below.refl _ _ | exact below_al (Below.refl _ _) | exact below_al (below_al (Below.refl _ _)) | exact below_al (below_al (below_al (Below.refl _ _))))⟩
  case pos =>
  subst e3
  by_cases e4 : ex = 0
  case neg =>
    have hm := hide (show mayB ⟨1, false, false, ⟨#[]⟩, ex, bt, tx, []⟩ = false by simp [mayB, sB, strip, emp0, e4])
    go_enter Tryd.func46, Tryd.ntmps46
    go_wp2_with fail
    go_ret
    exact ⟨by rw [hm.out]; first | rfl | (simp; done) | (simp; assumption), (by first | exact Below.refl _ _ | exact below_al (Below.refl _ _) | exact below_al (below_al (Below.refl _ _)) | exact below_al (below_al (below_al (Below.refl _ _))))⟩
  case pos =>
  subst e4
  by_cases e5 : bt = 0
  case neg =>
    have hm := hide (show mayB ⟨1, false, false, ⟨#[]⟩, 0, bt, tx, []⟩ = false by simp [mayB, sB, strip, emp0, e5])
    go_enter Tryd.func46, Tryd.ntmps46
    go_wp2_with fail
    go_ret
    exact ⟨by rw [hm.out]; first | rfl | (simp; done) | (simp; assumption), (by first | exact Below.refl _ _ | exact below_al (Below.refl _ _) | exact below_al (below_al (Below.refl _ _)) | exact below_al (below_al (below_al (Below.refl _ _))))⟩
  case pos =>
  subst e5
  by_cases e6 : tx = ⟨#[]⟩
  case neg =>
    have q1 : decide (tx = (⟨#[]⟩ : ByteArray)) = false := decide_eq_false e6
    have q2 := ba_ne e6
    have q3 := ba_nil e6
    have q4 : ¬ tx.size = 0 := fun e => e6 ((ba_empty _).1 e)
    have q5 : ¬ tx = ByteArray.empty := e6
    have hm := hide (show mayB ⟨1, false, false, ⟨#[]⟩, 0, 0, tx, []⟩ = false by simp [mayB, sB, strip, emp0, q4, q5])
    clear q4 q5
    go_enter Tryd.func46, Tryd.ntmps46
    go_wp2_with fail
    go_ret
    exact ⟨by rw [hm.out]; first | rfl | (simp; done) | (simp; assumption), (by first | exact Below.refl _ _ | exact below_al (Below.refl _ _) | exact below_al (below_al (Below.refl _ _)) | exact below_al (below_al (below_al (Below.refl _ _))))⟩
  case pos =>
  subst e6
  have hm := hide (show mayB ⟨1, false, false, ⟨#[]⟩, 0, 0, ⟨#[]⟩, []⟩ = true by simp [mayB, sB, strip, emp0])
  go_enter Tryd.func46, Tryd.ntmps46
  go_wp2_with fail
  go_ret
  exact ⟨by rw [hm.out]; first | rfl | (simp; done) | (simp; assumption), (by first | exact Below.refl _ _ | exact below_al (Below.refl _ _) | exact below_al (below_al (Below.refl _ _)) | exact below_al (below_al (below_al (Below.refl _ _))))⟩
set_option maxHeartbeats 1000000 in
set_option maxRecDepth 100000 in
theorem rmay_2 (h : Hd) (w : World) (hz : EvZ h) (hk : h.kind = 2) :
    Calls Tryd.prog 46 #[.agg (evs h)] w fun e w' => e = .returned (.bool (mayB h)) ∧ Below w.heap.size w w' := by
  obtain ⟨k, fl, ng, dg, ex, bt, tx, nm⟩ := h
  obtain ⟨z1, z2, z3⟩ := hz
  simp only at hk z1 z2 z3
  subst hk z3
  show Calls _ _ #[.agg #[.int .i64 2, .bool fl, .bool ng, .string dg, .int .i64 ex, .int .u64 bt, .string tx]] _ _
  cases ng
  case true =>
    have hm := hide (show mayB ⟨2, fl, true, dg, ex, bt, tx, []⟩ = false by simp [mayB, sB, strip, emp0])
    go_enter Tryd.func46, Tryd.ntmps46
    go_wp2_with fail
    go_ret
    exact ⟨by rw [hm.out]; first | rfl | (simp; done) | (simp; assumption), (by first | exact Below.refl _ _ | exact below_al (Below.refl _ _) | exact below_al (below_al (Below.refl _ _)) | exact below_al (below_al (below_al (Below.refl _ _))))⟩
  case false =>
  by_cases e3 : dg = ⟨#[]⟩
  case neg =>
    have q1 : decide (dg = (⟨#[]⟩ : ByteArray)) = false := decide_eq_false e3
    have q2 := ba_ne e3
    have q3 := ba_nil e3
    have q4 : ¬ dg.size = 0 := fun e => e3 ((ba_empty _).1 e)
    have q5 : ¬ dg = ByteArray.empty := e3
    have hm := hide (show mayB ⟨2, fl, false, dg, ex, bt, tx, []⟩ = false by simp [mayB, sB, strip, emp0, q4, q5])
    clear q4 q5
    go_enter Tryd.func46, Tryd.ntmps46
    go_wp2_with fail
    go_ret
    exact ⟨by rw [hm.out]; first | rfl | (simp; done) | (simp; assumption), (by first | exact Below.refl _ _ | exact below_al (Below.refl _ _) | exact below_al (below_al (Below.refl _ _)) | exact below_al (below_al (below_al (Below.refl _ _))))⟩
  case pos =>
  subst e3
  by_cases e4 : ex = 0
  case neg =>
    have hm := hide (show mayB ⟨2, fl, false, ⟨#[]⟩, ex, bt, tx, []⟩ = false by simp [mayB, sB, strip, emp0, e4])
    go_enter Tryd.func46, Tryd.ntmps46
    go_wp2_with fail
    go_ret
    exact ⟨by rw [hm.out]; first | rfl | (simp; done) | (simp; assumption), (by first | exact Below.refl _ _ | exact below_al (Below.refl _ _) | exact below_al (below_al (Below.refl _ _)) | exact below_al (below_al (below_al (Below.refl _ _))))⟩
  case pos =>
  subst e4
  by_cases e5 : bt = 0
  case neg =>
    have hm := hide (show mayB ⟨2, fl, false, ⟨#[]⟩, 0, bt, tx, []⟩ = false by simp [mayB, sB, strip, emp0, e5])
    go_enter Tryd.func46, Tryd.ntmps46
    go_wp2_with fail
    go_ret
    exact ⟨by rw [hm.out]; first | rfl | (simp; done) | (simp; assumption), (by first | exact Below.refl _ _ | exact below_al (Below.refl _ _) | exact below_al (below_al (Below.refl _ _)) | exact below_al (below_al (below_al (Below.refl _ _))))⟩
  case pos =>
  subst e5
  by_cases e6 : tx = ⟨#[]⟩
  case neg =>
    have q1 : decide (tx = (⟨#[]⟩ : ByteArray)) = false := decide_eq_false e6
    have q2 := ba_ne e6
    have q3 := ba_nil e6
    have q4 : ¬ tx.size = 0 := fun e => e6 ((ba_empty _).1 e)
    have q5 : ¬ tx = ByteArray.empty := e6
    have hm := hide (show mayB ⟨2, fl, false, ⟨#[]⟩, 0, 0, tx, []⟩ = false by simp [mayB, sB, strip, emp0, q4, q5])
    clear q4 q5
    go_enter Tryd.func46, Tryd.ntmps46
    go_wp2_with fail
    go_ret
    exact ⟨by rw [hm.out]; first | rfl | (simp; done) | (simp; assumption), (by first | exact Below.refl _ _ | exact below_al (Below.refl _ _) | exact below_al (below_al (Below.refl _ _)) | exact below_al (below_al (below_al (Below.refl _ _))))⟩
  case pos =>
  subst e6
  have hm := hide (show mayB ⟨2, fl, false, ⟨#[]⟩, 0, 0, ⟨#[]⟩, []⟩ = true by simp [mayB, sB, strip, emp0])
  go_enter Tryd.func46, Tryd.ntmps46
  go_wp2_with fail
  go_ret
  exact ⟨by rw [hm.out]; first | rfl | (simp; done) | (simp; assumption), (by first | exact Below.refl _ _ | exact below_al (Below.refl _ _) | exact below_al (below_al (Below.refl _ _)) | exact below_al (below_al (below_al (Below.refl _ _))))⟩
set_option maxHeartbeats 1000000 in
set_option maxRecDepth 100000 in
theorem rmay_3 (h : Hd) (w : World) (hz : EvZ h) (hk : h.kind = 3) :
    Calls Tryd.prog 46 #[.agg (evs h)] w fun e w' => e = .returned (.bool (mayB h)) ∧ Below w.heap.size w w' := by
  obtain ⟨k, fl, ng, dg, ex, bt, tx, nm⟩ := h
  obtain ⟨z1, z2, z3⟩ := hz
  simp only at hk z1 z2 z3
  subst hk z3
  show Calls _ _ #[.agg #[.int .i64 3, .bool fl, .bool ng, .string dg, .int .i64 ex, .int .u64 bt, .string tx]] _ _
  cases fl
  case true =>
    have hm := hide (show mayB ⟨3, true, ng, dg, ex, bt, tx, []⟩ = false by simp [mayB, sB, strip, emp0])
    go_enter Tryd.func46, Tryd.ntmps46
    go_wp2_with fail
    go_ret
    exact ⟨by rw [hm.out]; first | rfl | (simp; done) | (simp; assumption), (by first | exact Below.refl _ _ | exact below_al (Below.refl _ _) | exact below_al (below_al (Below.refl _ _)) | exact below_al (below_al (below_al (Below.refl _ _))))⟩
  case false =>
  by_cases e5 : bt = 0
  case neg =>
    have hm := hide (show mayB ⟨3, false, ng, dg, ex, bt, tx, []⟩ = false by simp [mayB, sB, strip, emp0, e5])
    go_enter Tryd.func46, Tryd.ntmps46
    go_wp2_with fail
    go_ret
    exact ⟨by rw [hm.out]; first | rfl | (simp; done) | (simp; assumption), (by first | exact Below.refl _ _ | exact below_al (Below.refl _ _) | exact below_al (below_al (Below.refl _ _)) | exact below_al (below_al (below_al (Below.refl _ _))))⟩
  case pos =>
  subst e5
  by_cases e6 : tx = ⟨#[]⟩
  case neg =>
    have q1 : decide (tx = (⟨#[]⟩ : ByteArray)) = false := decide_eq_false e6
    have q2 := ba_ne e6
    have q3 := ba_nil e6
    have q4 : ¬ tx.size = 0 := fun e => e6 ((ba_empty _).1 e)
    have q5 : ¬ tx = ByteArray.empty := e6
    have hm := hide (show mayB ⟨3, false, ng, dg, ex, 0, tx, []⟩ = false by simp [mayB, sB, strip, emp0, q4, q5])
    clear q4 q5
    go_enter Tryd.func46, Tryd.ntmps46
    go_wp2_with fail
    go_ret
    exact ⟨by rw [hm.out]; first | rfl | (simp; done) | (simp; assumption), (by first | exact Below.refl _ _ | exact below_al (Below.refl _ _) | exact below_al (below_al (Below.refl _ _)) | exact below_al (below_al (below_al (Below.refl _ _))))⟩
  case pos =>
  subst e6
  have hm := hide (show mayB ⟨3, false, ng, dg, ex, 0, ⟨#[]⟩, []⟩ = isN ng dg ex by simp [mayB, sB, strip, emp0])
  have ri := hide (fun W => ris_any ng dg ex W (by unfold maxLen; omega))
  go_enter Tryd.func46, Tryd.ntmps46
  go_wp2_with (go_at_call 59; refine Stop.out ?_)
  refine Stop.mk ((ri.out _).mono ?_)
  rintro e w1 ⟨rfl, hb1⟩
  have B1 := hide (below_then (show Below w.heap.size w _ by repeat (first | exact Below.refl _ _ | refine below_al ?_)) hb1)
  clear hb1
  cases hq : isN ng dg ex
  all_goals
    have hq' := hide hq
    clear hq
    go_wp2_with fail
    go_ret
    exact ⟨by rw [hm.out, hq'.out]; first | rfl | simp, B1.out⟩
set_option maxHeartbeats 1000000 in
set_option maxRecDepth 100000 in
theorem rmay_4 (h : Hd) (w : World) (hz : EvZ h) (hk : h.kind = 4) :
    Calls Tryd.prog 46 #[.agg (evs h)] w fun e w' => e = .returned (.bool (mayB h)) ∧ Below w.heap.size w w' := by
  obtain ⟨k, fl, ng, dg, ex, bt, tx, nm⟩ := h
  obtain ⟨z1, z2, z3⟩ := hz
  simp only at hk z1 z2 z3
  subst hk z3
  show Calls _ _ #[.agg #[.int .i64 4, .bool fl, .bool ng, .string dg, .int .i64 ex, .int .u64 bt, .string tx]] _ _
  cases fl
  case true =>
    have hm := hide (show mayB ⟨4, true, ng, dg, ex, bt, tx, []⟩ = false by simp [mayB, sB, strip, emp0])
    go_enter Tryd.func46, Tryd.ntmps46
    go_wp2_with fail
    go_ret
    exact ⟨by rw [hm.out]; first | rfl | (simp; done) | (simp; assumption), (by first | exact Below.refl _ _ | exact below_al (Below.refl _ _) | exact below_al (below_al (Below.refl _ _)) | exact below_al (below_al (below_al (Below.refl _ _))))⟩
  case false =>
  cases ng
  case true =>
    have hm := hide (show mayB ⟨4, false, true, dg, ex, bt, tx, []⟩ = false by simp [mayB, sB, strip, emp0])
    go_enter Tryd.func46, Tryd.ntmps46
    go_wp2_with fail
    go_ret
    exact ⟨by rw [hm.out]; first | rfl | (simp; done) | (simp; assumption), (by first | exact Below.refl _ _ | exact below_al (Below.refl _ _) | exact below_al (below_al (Below.refl _ _)) | exact below_al (below_al (below_al (Below.refl _ _))))⟩
  case false =>
  by_cases e3 : dg = ⟨#[]⟩
  case neg =>
    have q1 : decide (dg = (⟨#[]⟩ : ByteArray)) = false := decide_eq_false e3
    have q2 := ba_ne e3
    have q3 := ba_nil e3
    have q4 : ¬ dg.size = 0 := fun e => e3 ((ba_empty _).1 e)
    have q5 : ¬ dg = ByteArray.empty := e3
    have hm := hide (show mayB ⟨4, false, false, dg, ex, bt, tx, []⟩ = false by simp [mayB, sB, strip, emp0, q4, q5])
    clear q4 q5
    go_enter Tryd.func46, Tryd.ntmps46
    go_wp2_with fail
    go_ret
    exact ⟨by rw [hm.out]; first | rfl | (simp; done) | (simp; assumption), (by first | exact Below.refl _ _ | exact below_al (Below.refl _ _) | exact below_al (below_al (Below.refl _ _)) | exact below_al (below_al (below_al (Below.refl _ _))))⟩
  case pos =>
  subst e3
  by_cases e4 : ex = 0
  case neg =>
    have hm := hide (show mayB ⟨4, false, false, ⟨#[]⟩, ex, bt, tx, []⟩ = false by simp [mayB, sB, strip, emp0, e4])
    go_enter Tryd.func46, Tryd.ntmps46
    go_wp2_with fail
    go_ret
    exact ⟨by rw [hm.out]; first | rfl | (simp; done) | (simp; assumption), (by first | exact Below.refl _ _ | exact below_al (Below.refl _ _) | exact below_al (below_al (Below.refl _ _)) | exact below_al (below_al (below_al (Below.refl _ _))))⟩
  case pos =>
  subst e4
  by_cases e6 : tx = ⟨#[]⟩
  case neg =>
    have q1 : decide (tx = (⟨#[]⟩ : ByteArray)) = false := decide_eq_false e6
    have q2 := ba_ne e6
    have q3 := ba_nil e6
    have q4 : ¬ tx.size = 0 := fun e => e6 ((ba_empty _).1 e)
    have q5 : ¬ tx = ByteArray.empty := e6
    have hm := hide (show mayB ⟨4, false, false, ⟨#[]⟩, 0, bt, tx, []⟩ = false by simp [mayB, sB, strip, emp0, q4, q5])
    clear q4 q5
    go_enter Tryd.func46, Tryd.ntmps46
    go_wp2_with fail
    go_ret
    exact ⟨by rw [hm.out]; first | rfl | (simp; done) | (simp; assumption), (by first | exact Below.refl _ _ | exact below_al (Below.refl _ _) | exact below_al (below_al (Below.refl _ _)) | exact below_al (below_al (below_al (Below.refl _ _))))⟩
  case pos =>
  subst e6
  have hm := hide (show mayB ⟨4, false, false, ⟨#[]⟩, 0, bt, ⟨#[]⟩, []⟩ = true by simp [mayB, sB, strip, emp0])
  go_enter Tryd.func46, Tryd.ntmps46
  go_wp2_with fail
  go_ret
  exact ⟨by rw [hm.out]; first | rfl | (simp; done) | (simp; assumption), (by first | exact Below.refl _ _ | exact below_al (Below.refl _ _) | exact below_al (below_al (Below.refl _ _)) | exact below_al (below_al (below_al (Below.refl _ _))))⟩
set_option maxHeartbeats 1000000 in
set_option maxRecDepth 100000 in
theorem rmay_5 (h : Hd) (w : World) (hz : EvZ h) (hk : h.kind = 5) :
    Calls Tryd.prog 46 #[.agg (evs h)] w fun e w' => e = .returned (.bool (mayB h)) ∧ Below w.heap.size w w' := by
  obtain ⟨k, fl, ng, dg, ex, bt, tx, nm⟩ := h
  obtain ⟨z1, z2, z3⟩ := hz
  simp only at hk z1 z2 z3
  subst hk z3
  show Calls _ _ #[.agg #[.int .i64 5, .bool fl, .bool ng, .string dg, .int .i64 ex, .int .u64 bt, .string tx]] _ _
  cases fl
  case true =>
    have hm := hide (show mayB ⟨5, true, ng, dg, ex, bt, tx, []⟩ = false by simp [mayB, sB, strip, emp0])
    go_enter Tryd.func46, Tryd.ntmps46
    go_wp2_with fail
    go_ret
    exact ⟨by rw [hm.out]; first | rfl | (simp; done) | (simp; assumption), (by first | exact Below.refl _ _ | exact below_al (Below.refl _ _) | exact below_al (below_al (Below.refl _ _)) | exact below_al (below_al (below_al (Below.refl _ _))))⟩
  case false =>
  cases ng
  case true =>
    have hm := hide (show mayB ⟨5, false, true, dg, ex, bt, tx, []⟩ = false by simp [mayB, sB, strip, emp0])
    go_enter Tryd.func46, Tryd.ntmps46
    go_wp2_with fail
    go_ret
    exact ⟨by rw [hm.out]; first | rfl | (simp; done) | (simp; assumption), (by first | exact Below.refl _ _ | exact below_al (Below.refl _ _) | exact below_al (below_al (Below.refl _ _)) | exact below_al (below_al (below_al (Below.refl _ _))))⟩
  case false =>
  by_cases e3 : dg = ⟨#[]⟩
  case neg =>
    have q1 : decide (dg = (⟨#[]⟩ : ByteArray)) = false := decide_eq_false e3
    have q2 := ba_ne e3
    have q3 := ba_nil e3
    have q4 : ¬ dg.size = 0 := fun e => e3 ((ba_empty _).1 e)
    have q5 : ¬ dg = ByteArray.empty := e3
    have hm := hide (show mayB ⟨5, false, false, dg, ex, bt, tx, []⟩ = false by simp [mayB, sB, strip, emp0, q4, q5])
    clear q4 q5
    go_enter Tryd.func46, Tryd.ntmps46
    go_wp2_with fail
    go_ret
    exact ⟨by rw [hm.out]; first | rfl | (simp; done) | (simp; assumption), (by first | exact Below.refl _ _ | exact below_al (Below.refl _ _) | exact below_al (below_al (Below.refl _ _)) | exact below_al (below_al (below_al (Below.refl _ _))))⟩
  case pos =>
  subst e3
  by_cases e4 : ex = 0
  case neg =>
    have hm := hide (show mayB ⟨5, false, false, ⟨#[]⟩, ex, bt, tx, []⟩ = false by simp [mayB, sB, strip, emp0, e4])
    go_enter Tryd.func46, Tryd.ntmps46
    go_wp2_with fail
    go_ret
    exact ⟨by rw [hm.out]; first | rfl | (simp; done) | (simp; assumption), (by first | exact Below.refl _ _ | exact below_al (Below.refl _ _) | exact below_al (below_al (Below.refl _ _)) | exact below_al (below_al (below_al (Below.refl _ _))))⟩
  case pos =>
  subst e4
  by_cases e5 : bt = 0
  case neg =>
    have hm := hide (show mayB ⟨5, false, false, ⟨#[]⟩, 0, bt, tx, []⟩ = false by simp [mayB, sB, strip, emp0, e5])
    go_enter Tryd.func46, Tryd.ntmps46
    go_wp2_with fail
    go_ret
    exact ⟨by rw [hm.out]; first | rfl | (simp; done) | (simp; assumption), (by first | exact Below.refl _ _ | exact below_al (Below.refl _ _) | exact below_al (below_al (Below.refl _ _)) | exact below_al (below_al (below_al (Below.refl _ _))))⟩
  case pos =>
  subst e5
  have hm := hide (show mayB ⟨5, false, false, ⟨#[]⟩, 0, 0, tx, []⟩ = okT tx by simp [mayB, sB, strip, emp0])
  have ri := hide (fun W => rval tx W z1)
  go_enter Tryd.func46, Tryd.ntmps46
  go_wp2_with (go_at_call 60; refine Stop.out ?_)
  refine Stop.mk ((ri.out _).mono ?_)
  rintro e w1 ⟨rfl, hb1⟩
  have B1 := hide (below_then (show Below w.heap.size w _ by repeat (first | exact Below.refl _ _ | refine below_al ?_)) hb1)
  clear hb1
  go_wp2_with fail
  go_ret
  exact ⟨by rw [hm.out]; first | done | rfl | simp, B1.out⟩
set_option maxHeartbeats 1000000 in
set_option maxRecDepth 100000 in
theorem rmay_6 (h : Hd) (w : World) (hz : EvZ h) (hk : h.kind = 6) :
    Calls Tryd.prog 46 #[.agg (evs h)] w fun e w' => e = .returned (.bool (mayB h)) ∧ Below w.heap.size w w' := by
  obtain ⟨k, fl, ng, dg, ex, bt, tx, nm⟩ := h
  obtain ⟨z1, z2, z3⟩ := hz
  simp only at hk z1 z2 z3
  subst hk z3
  show Calls _ _ #[.agg #[.int .i64 6, .bool fl, .bool ng, .string dg, .int .i64 ex, .int .u64 bt, .string tx]] _ _
  cases fl
  case true =>
    have hm := hide (show mayB ⟨6, true, ng, dg, ex, bt, tx, []⟩ = false by simp [mayB, sB, strip, emp0])
    go_enter Tryd.func46, Tryd.ntmps46
    go_wp2_with fail
    go_ret
    exact ⟨by rw [hm.out]; first | rfl | (simp; done) | (simp; assumption), (by first | exact Below.refl _ _ | exact below_al (Below.refl _ _) | exact below_al (below_al (Below.refl _ _)) | exact below_al (below_al (below_al (Below.refl _ _))))⟩
  case false =>
  cases ng
  case true =>
    have hm := hide (show mayB ⟨6, false, true, dg, ex, bt, tx, []⟩ = false by simp [mayB, sB, strip, emp0])
    go_enter Tryd.func46, Tryd.ntmps46
    go_wp2_with fail
    go_ret
    exact ⟨by rw [hm.out]; first | rfl | (simp; done) | (simp; assumption), (by first | exact Below.refl _ _ | exact below_al (Below.refl _ _) | exact below_al (below_al (Below.refl _ _)) | exact below_al (below_al (below_al (Below.refl _ _))))⟩
  case false =>
  by_cases e3 : dg = ⟨#[]⟩
  case neg =>
    have q1 : decide (dg = (⟨#[]⟩ : ByteArray)) = false := decide_eq_false e3
    have q2 := ba_ne e3
    have q3 := ba_nil e3
    have q4 : ¬ dg.size = 0 := fun e => e3 ((ba_empty _).1 e)
    have q5 : ¬ dg = ByteArray.empty := e3
    have hm := hide (show mayB ⟨6, false, false, dg, ex, bt, tx, []⟩ = false by simp [mayB, sB, strip, emp0, q4, q5])
    clear q4 q5
    go_enter Tryd.func46, Tryd.ntmps46
    go_wp2_with fail
    go_ret
    exact ⟨by rw [hm.out]; first | rfl | (simp; done) | (simp; assumption), (by first | exact Below.refl _ _ | exact below_al (Below.refl _ _) | exact below_al (below_al (Below.refl _ _)) | exact below_al (below_al (below_al (Below.refl _ _))))⟩
  case pos =>
  subst e3
  by_cases e4 : ex = 0
  case neg =>
    have hm := hide (show mayB ⟨6, false, false, ⟨#[]⟩, ex, bt, tx, []⟩ = false by simp [mayB, sB, strip, emp0, e4])
    go_enter Tryd.func46, Tryd.ntmps46
    go_wp2_with fail
    go_ret
    exact ⟨by rw [hm.out]; first | rfl | (simp; done) | (simp; assumption), (by first | exact Below.refl _ _ | exact below_al (Below.refl _ _) | exact below_al (below_al (Below.refl _ _)) | exact below_al (below_al (below_al (Below.refl _ _))))⟩
  case pos =>
  subst e4
  by_cases e5 : bt = 0
  case neg =>
    have hm := hide (show mayB ⟨6, false, false, ⟨#[]⟩, 0, bt, tx, []⟩ = false by simp [mayB, sB, strip, emp0, e5])
    go_enter Tryd.func46, Tryd.ntmps46
    go_wp2_with fail
    go_ret
    exact ⟨by rw [hm.out]; first | rfl | (simp; done) | (simp; assumption), (by first | exact Below.refl _ _ | exact below_al (Below.refl _ _) | exact below_al (below_al (Below.refl _ _)) | exact below_al (below_al (below_al (Below.refl _ _))))⟩
  case pos =>
  subst e5
  have hm := hide (show mayB ⟨6, false, false, ⟨#[]⟩, 0, 0, tx, []⟩ = true by simp [mayB, sB, strip, emp0])
  go_enter Tryd.func46, Tryd.ntmps46
  go_wp2_with fail
  go_ret
  exact ⟨by rw [hm.out]; first | rfl | (simp; done) | (simp; assumption), (by first | exact Below.refl _ _ | exact below_al (Below.refl _ _) | exact below_al (below_al (Below.refl _ _)) | exact below_al (below_al (below_al (Below.refl _ _))))⟩
set_option maxHeartbeats 1000000 in
set_option maxRecDepth 100000 in
theorem rmay_7 (h : Hd) (w : World) (hz : EvZ h) (hk : h.kind = 7) :
    Calls Tryd.prog 46 #[.agg (evs h)] w fun e w' => e = .returned (.bool (mayB h)) ∧ Below w.heap.size w w' := by
  obtain ⟨k, fl, ng, dg, ex, bt, tx, nm⟩ := h
  obtain ⟨z1, z2, z3⟩ := hz
  simp only at hk z1 z2 z3
  subst hk z3
  show Calls _ _ #[.agg #[.int .i64 7, .bool fl, .bool ng, .string dg, .int .i64 ex, .int .u64 bt, .string tx]] _ _
  cases fl
  case true =>
    have hm := hide (show mayB ⟨7, true, ng, dg, ex, bt, tx, []⟩ = false by simp [mayB, sB, strip, emp0])
    go_enter Tryd.func46, Tryd.ntmps46
    go_wp2_with fail
    go_ret
    exact ⟨by rw [hm.out]; first | rfl | (simp; done) | (simp; assumption), (by first | exact Below.refl _ _ | exact below_al (Below.refl _ _) | exact below_al (below_al (Below.refl _ _)) | exact below_al (below_al (below_al (Below.refl _ _))))⟩
  case false =>
  cases ng
  case true =>
    have hm := hide (show mayB ⟨7, false, true, dg, ex, bt, tx, []⟩ = false by simp [mayB, sB, strip, emp0])
    go_enter Tryd.func46, Tryd.ntmps46
    go_wp2_with fail
    go_ret
    exact ⟨by rw [hm.out]; first | rfl | (simp; done) | (simp; assumption), (by first | exact Below.refl _ _ | exact below_al (Below.refl _ _) | exact below_al (below_al (Below.refl _ _)) | exact below_al (below_al (below_al (Below.refl _ _))))⟩
  case false =>
  by_cases e3 : dg = ⟨#[]⟩
  case neg =>
    have q1 : decide (dg = (⟨#[]⟩ : ByteArray)) = false := decide_eq_false e3
    have q2 := ba_ne e3
    have q3 := ba_nil e3
    have q4 : ¬ dg.size = 0 := fun e => e3 ((ba_empty _).1 e)
    have q5 : ¬ dg = ByteArray.empty := e3
    have hm := hide (show mayB ⟨7, false, false, dg, ex, bt, tx, []⟩ = false by simp [mayB, sB, strip, emp0, q4, q5])
    clear q4 q5
    go_enter Tryd.func46, Tryd.ntmps46
    go_wp2_with fail
    go_ret
    exact ⟨by rw [hm.out]; first | rfl | (simp; done) | (simp; assumption), (by first | exact Below.refl _ _ | exact below_al (Below.refl _ _) | exact below_al (below_al (Below.refl _ _)) | exact below_al (below_al (below_al (Below.refl _ _))))⟩
  case pos =>
  subst e3
  by_cases e4 : ex = 0
  case neg =>
    have hm := hide (show mayB ⟨7, false, false, ⟨#[]⟩, ex, bt, tx, []⟩ = false by simp [mayB, sB, strip, emp0, e4])
    go_enter Tryd.func46, Tryd.ntmps46
    go_wp2_with fail
    go_ret
    exact ⟨by rw [hm.out]; first | rfl | (simp; done) | (simp; assumption), (by first | exact Below.refl _ _ | exact below_al (Below.refl _ _) | exact below_al (below_al (Below.refl _ _)) | exact below_al (below_al (below_al (Below.refl _ _))))⟩
  case pos =>
  subst e4
  by_cases e5 : bt = 0
  case neg =>
    have hm := hide (show mayB ⟨7, false, false, ⟨#[]⟩, 0, bt, tx, []⟩ = false by simp [mayB, sB, strip, emp0, e5])
    go_enter Tryd.func46, Tryd.ntmps46
    go_wp2_with fail
    go_ret
    exact ⟨by rw [hm.out]; first | rfl | (simp; done) | (simp; assumption), (by first | exact Below.refl _ _ | exact below_al (Below.refl _ _) | exact below_al (below_al (Below.refl _ _)) | exact below_al (below_al (below_al (Below.refl _ _))))⟩
  case pos =>
  subst e5
  by_cases e6 : tx = ⟨#[]⟩
  case neg =>
    have q1 : decide (tx = (⟨#[]⟩ : ByteArray)) = false := decide_eq_false e6
    have q2 := ba_ne e6
    have q3 := ba_nil e6
    have q4 : ¬ tx.size = 0 := fun e => e6 ((ba_empty _).1 e)
    have q5 : ¬ tx = ByteArray.empty := e6
    have hm := hide (show mayB ⟨7, false, false, ⟨#[]⟩, 0, 0, tx, []⟩ = false by simp [mayB, sB, strip, emp0, q4, q5])
    clear q4 q5
    go_enter Tryd.func46, Tryd.ntmps46
    go_wp2_with fail
    go_ret
    exact ⟨by rw [hm.out]; first | rfl | (simp; done) | (simp; assumption), (by first | exact Below.refl _ _ | exact below_al (Below.refl _ _) | exact below_al (below_al (Below.refl _ _)) | exact below_al (below_al (below_al (Below.refl _ _))))⟩
  case pos =>
  subst e6
  have hm := hide (show mayB ⟨7, false, false, ⟨#[]⟩, 0, 0, ⟨#[]⟩, []⟩ = true by simp [mayB, sB, strip, emp0])
  go_enter Tryd.func46, Tryd.ntmps46
  go_wp2_with fail
  go_ret
  exact ⟨by rw [hm.out]; first | rfl | (simp; done) | (simp; assumption), (by first | exact Below.refl _ _ | exact below_al (Below.refl _ _) | exact below_al (below_al (Below.refl _ _)) | exact below_al (below_al (below_al (Below.refl _ _))))⟩
set_option maxHeartbeats 1000000 in
set_option maxRecDepth 100000 in
theorem rmay_8 (h : Hd) (w : World) (hz : EvZ h) (hk : h.kind = 8) :
    Calls Tryd.prog 46 #[.agg (evs h)] w fun e w' => e = .returned (.bool (mayB h)) ∧ Below w.heap.size w w' := by
  obtain ⟨k, fl, ng, dg, ex, bt, tx, nm⟩ := h
  obtain ⟨z1, z2, z3⟩ := hz
  simp only at hk z1 z2 z3
  subst hk z3
  show Calls _ _ #[.agg #[.int .i64 8, .bool fl, .bool ng, .string dg, .int .i64 ex, .int .u64 bt, .string tx]] _ _
  cases fl
  case true =>
    have hm := hide (show mayB ⟨8, true, ng, dg, ex, bt, tx, []⟩ = false by simp [mayB, sB, strip, emp0])
    go_enter Tryd.func46, Tryd.ntmps46
    go_wp2_with fail
    go_ret
    exact ⟨by rw [hm.out]; first | rfl | (simp; done) | (simp; assumption), (by first | exact Below.refl _ _ | exact below_al (Below.refl _ _) | exact below_al (below_al (Below.refl _ _)) | exact below_al (below_al (below_al (Below.refl _ _))))⟩
  case false =>
  cases ng
  case true =>
    have hm := hide (show mayB ⟨8, false, true, dg, ex, bt, tx, []⟩ = false by simp [mayB, sB, strip, emp0])
    go_enter Tryd.func46, Tryd.ntmps46
    go_wp2_with fail
    go_ret
    exact ⟨by rw [hm.out]; first | rfl | (simp; done) | (simp; assumption), (by first | exact Below.refl _ _ | exact below_al (Below.refl _ _) | exact below_al (below_al (Below.refl _ _)) | exact below_al (below_al (below_al (Below.refl _ _))))⟩
  case false =>
  by_cases e3 : dg = ⟨#[]⟩
  case neg =>
    have q1 : decide (dg = (⟨#[]⟩ : ByteArray)) = false := decide_eq_false e3
    have q2 := ba_ne e3
    have q3 := ba_nil e3
    have q4 : ¬ dg.size = 0 := fun e => e3 ((ba_empty _).1 e)
    have q5 : ¬ dg = ByteArray.empty := e3
    have hm := hide (show mayB ⟨8, false, false, dg, ex, bt, tx, []⟩ = false by simp [mayB, sB, strip, emp0, q4, q5])
    clear q4 q5
    go_enter Tryd.func46, Tryd.ntmps46
    go_wp2_with fail
    go_ret
    exact ⟨by rw [hm.out]; first | rfl | (simp; done) | (simp; assumption), (by first | exact Below.refl _ _ | exact below_al (Below.refl _ _) | exact below_al (below_al (Below.refl _ _)) | exact below_al (below_al (below_al (Below.refl _ _))))⟩
  case pos =>
  subst e3
  by_cases e4 : ex = 0
  case neg =>
    have hm := hide (show mayB ⟨8, false, false, ⟨#[]⟩, ex, bt, tx, []⟩ = false by simp [mayB, sB, strip, emp0, e4])
    go_enter Tryd.func46, Tryd.ntmps46
    go_wp2_with fail
    go_ret
    exact ⟨by rw [hm.out]; first | rfl | (simp; done) | (simp; assumption), (by first | exact Below.refl _ _ | exact below_al (Below.refl _ _) | exact below_al (below_al (Below.refl _ _)) | exact below_al (below_al (below_al (Below.refl _ _))))⟩
  case pos =>
  subst e4
  by_cases e5 : bt = 0
  case neg =>
    have hm := hide (show mayB ⟨8, false, false, ⟨#[]⟩, 0, bt, tx, []⟩ = false by simp [mayB, sB, strip, emp0, e5])
    go_enter Tryd.func46, Tryd.ntmps46
    go_wp2_with fail
    go_ret
    exact ⟨by rw [hm.out]; first | rfl | (simp; done) | (simp; assumption), (by first | exact Below.refl _ _ | exact below_al (Below.refl _ _) | exact below_al (below_al (Below.refl _ _)) | exact below_al (below_al (below_al (Below.refl _ _))))⟩
  case pos =>
  subst e5
  by_cases e6 : tx = ⟨#[]⟩
  case neg =>
    have q1 : decide (tx = (⟨#[]⟩ : ByteArray)) = false := decide_eq_false e6
    have q2 := ba_ne e6
    have q3 := ba_nil e6
    have q4 : ¬ tx.size = 0 := fun e => e6 ((ba_empty _).1 e)
    have q5 : ¬ tx = ByteArray.empty := e6
    have hm := hide (show mayB ⟨8, false, false, ⟨#[]⟩, 0, 0, tx, []⟩ = false by simp [mayB, sB, strip, emp0, q4, q5])
    clear q4 q5
    go_enter Tryd.func46, Tryd.ntmps46
    go_wp2_with fail
    go_ret
    exact ⟨by rw [hm.out]; first | rfl | (simp; done) | (simp; assumption), (by first | exact Below.refl _ _ | exact below_al (Below.refl _ _) | exact below_al (below_al (Below.refl _ _)) | exact below_al (below_al (below_al (Below.refl _ _))))⟩
  case pos =>
  subst e6
  have hm := hide (show mayB ⟨8, false, false, ⟨#[]⟩, 0, 0, ⟨#[]⟩, []⟩ = true by simp [mayB, sB, strip, emp0])
  go_enter Tryd.func46, Tryd.ntmps46
  go_wp2_with fail
  go_ret
  exact ⟨by rw [hm.out]; first | rfl | (simp; done) | (simp; assumption), (by first | exact Below.refl _ _ | exact below_al (Below.refl _ _) | exact below_al (below_al (Below.refl _ _)) | exact below_al (below_al (below_al (Below.refl _ _))))⟩
set_option maxHeartbeats 1000000 in
set_option maxRecDepth 100000 in
theorem rmay_9 (h : Hd) (w : World) (hz : EvZ h) (hk : h.kind = 9) :
    Calls Tryd.prog 46 #[.agg (evs h)] w fun e w' => e = .returned (.bool (mayB h)) ∧ Below w.heap.size w w' := by
  obtain ⟨k, fl, ng, dg, ex, bt, tx, nm⟩ := h
  obtain ⟨z1, z2, z3⟩ := hz
  simp only at hk z1 z2 z3
  subst hk z3
  show Calls _ _ #[.agg #[.int .i64 9, .bool fl, .bool ng, .string dg, .int .i64 ex, .int .u64 bt, .string tx]] _ _
  cases fl
  case true =>
    have hm := hide (show mayB ⟨9, true, ng, dg, ex, bt, tx, []⟩ = false by simp [mayB, sB, strip, emp0])
    go_enter Tryd.func46, Tryd.ntmps46
    go_wp2_with fail
    go_ret
    exact ⟨by rw [hm.out]; first | rfl | (simp; done) | (simp; assumption), (by first | exact Below.refl _ _ | exact below_al (Below.refl _ _) | exact below_al (below_al (Below.refl _ _)) | exact below_al (below_al (below_al (Below.refl _ _))))⟩
  case false =>
  cases ng
  case true =>
    have hm := hide (show mayB ⟨9, false, true, dg, ex, bt, tx, []⟩ = false by simp [mayB, sB, strip, emp0])
    go_enter Tryd.func46, Tryd.ntmps46
    go_wp2_with fail
    go_ret
    exact ⟨by rw [hm.out]; first | rfl | (simp; done) | (simp; assumption), (by first | exact Below.refl _ _ | exact below_al (Below.refl _ _) | exact below_al (below_al (Below.refl _ _)) | exact below_al (below_al (below_al (Below.refl _ _))))⟩
  case false =>
  by_cases e3 : dg = ⟨#[]⟩
  case neg =>
    have q1 : decide (dg = (⟨#[]⟩ : ByteArray)) = false := decide_eq_false e3
    have q2 := ba_ne e3
    have q3 := ba_nil e3
    have q4 : ¬ dg.size = 0 := fun e => e3 ((ba_empty _).1 e)
    have q5 : ¬ dg = ByteArray.empty := e3
    have hm := hide (show mayB ⟨9, false, false, dg, ex, bt, tx, []⟩ = false by simp [mayB, sB, strip, emp0, q4, q5])
    clear q4 q5
    go_enter Tryd.func46, Tryd.ntmps46
    go_wp2_with fail
    go_ret
    exact ⟨by rw [hm.out]; first | rfl | (simp; done) | (simp; assumption), (by first | exact Below.refl _ _ | exact below_al (Below.refl _ _) | exact below_al (below_al (Below.refl _ _)) | exact below_al (below_al (below_al (Below.refl _ _))))⟩
  case pos =>
  subst e3
  by_cases e4 : ex = 0
  case neg =>
    have hm := hide (show mayB ⟨9, false, false, ⟨#[]⟩, ex, bt, tx, []⟩ = false by simp [mayB, sB, strip, emp0, e4])
    go_enter Tryd.func46, Tryd.ntmps46
    go_wp2_with fail
    go_ret
    exact ⟨by rw [hm.out]; first | rfl | (simp; done) | (simp; assumption), (by first | exact Below.refl _ _ | exact below_al (Below.refl _ _) | exact below_al (below_al (Below.refl _ _)) | exact below_al (below_al (below_al (Below.refl _ _))))⟩
  case pos =>
  subst e4
  by_cases e5 : bt = 0
  case neg =>
    have hm := hide (show mayB ⟨9, false, false, ⟨#[]⟩, 0, bt, tx, []⟩ = false by simp [mayB, sB, strip, emp0, e5])
    go_enter Tryd.func46, Tryd.ntmps46
    go_wp2_with fail
    go_ret
    exact ⟨by rw [hm.out]; first | rfl | (simp; done) | (simp; assumption), (by first | exact Below.refl _ _ | exact below_al (Below.refl _ _) | exact below_al (below_al (Below.refl _ _)) | exact below_al (below_al (below_al (Below.refl _ _))))⟩
  case pos =>
  subst e5
  have hm := hide (show mayB ⟨9, false, false, ⟨#[]⟩, 0, 0, tx, []⟩ = okT tx by simp [mayB, sB, strip, emp0])
  have ri := hide (fun W => rval tx W z1)
  go_enter Tryd.func46, Tryd.ntmps46
  go_wp2_with (go_at_call 60; refine Stop.out ?_)
  refine Stop.mk ((ri.out _).mono ?_)
  rintro e w1 ⟨rfl, hb1⟩
  have B1 := hide (below_then (show Below w.heap.size w _ by repeat (first | exact Below.refl _ _ | refine below_al ?_)) hb1)
  clear hb1
  go_wp2_with fail
  go_ret
  exact ⟨by rw [hm.out]; first | done | rfl | simp, B1.out⟩
set_option maxHeartbeats 1000000 in
set_option maxRecDepth 100000 in
theorem rmay_10 (h : Hd) (w : World) (hz : EvZ h) (hk : h.kind = 10) :
    Calls Tryd.prog 46 #[.agg (evs h)] w fun e w' => e = .returned (.bool (mayB h)) ∧ Below w.heap.size w w' := by
  obtain ⟨k, fl, ng, dg, ex, bt, tx, nm⟩ := h
  obtain ⟨z1, z2, z3⟩ := hz
  simp only at hk z1 z2 z3
  subst hk z3
  show Calls _ _ #[.agg #[.int .i64 10, .bool fl, .bool ng, .string dg, .int .i64 ex, .int .u64 bt, .string tx]] _ _
  cases fl
  case true =>
    have hm := hide (show mayB ⟨10, true, ng, dg, ex, bt, tx, []⟩ = false by simp [mayB, sB, strip, emp0])
    go_enter Tryd.func46, Tryd.ntmps46
    go_wp2_with fail
    go_ret
    exact ⟨by rw [hm.out]; first | rfl | (simp; done) | (simp; assumption), (by first | exact Below.refl _ _ | exact below_al (Below.refl _ _) | exact below_al (below_al (Below.refl _ _)) | exact below_al (below_al (below_al (Below.refl _ _))))⟩
  case false =>
  cases ng
  case true =>
    have hm := hide (show mayB ⟨10, false, true, dg, ex, bt, tx, []⟩ = false by simp [mayB, sB, strip, emp0])
    go_enter Tryd.func46, Tryd.ntmps46
    go_wp2_with fail
    go_ret
    exact ⟨by rw [hm.out]; first | rfl | (simp; done) | (simp; assumption), (by first | exact Below.refl _ _ | exact below_al (Below.refl _ _) | exact below_al (below_al (Below.refl _ _)) | exact below_al (below_al (below_al (Below.refl _ _))))⟩
  case false =>
  by_cases e3 : dg = ⟨#[]⟩
  case neg =>
    have q1 : decide (dg = (⟨#[]⟩ : ByteArray)) = false := decide_eq_false e3
    have q2 := ba_ne e3
    have q3 := ba_nil e3
    have q4 : ¬ dg.size = 0 := fun e => e3 ((ba_empty _).1 e)
    have q5 : ¬ dg = ByteArray.empty := e3
    have hm := hide (show mayB ⟨10, false, false, dg, ex, bt, tx, []⟩ = false by simp [mayB, sB, strip, emp0, q4, q5])
    clear q4 q5
    go_enter Tryd.func46, Tryd.ntmps46
    go_wp2_with fail
    go_ret
    exact ⟨by rw [hm.out]; first | rfl | (simp; done) | (simp; assumption), (by first | exact Below.refl _ _ | exact below_al (Below.refl _ _) | exact below_al (below_al (Below.refl _ _)) | exact below_al (below_al (below_al (Below.refl _ _))))⟩
  case pos =>
  subst e3
  by_cases e4 : ex = 0
  case neg =>
    have hm := hide (show mayB ⟨10, false, false, ⟨#[]⟩, ex, bt, tx, []⟩ = false by simp [mayB, sB, strip, emp0, e4])
    go_enter Tryd.func46, Tryd.ntmps46
    go_wp2_with fail
    go_ret
    exact ⟨by rw [hm.out]; first | rfl | (simp; done) | (simp; assumption), (by first | exact Below.refl _ _ | exact below_al (Below.refl _ _) | exact below_al (below_al (Below.refl _ _)) | exact below_al (below_al (below_al (Below.refl _ _))))⟩
  case pos =>
  subst e4
  by_cases e5 : bt = 0
  case neg =>
    have hm := hide (show mayB ⟨10, false, false, ⟨#[]⟩, 0, bt, tx, []⟩ = false by simp [mayB, sB, strip, emp0, e5])
    go_enter Tryd.func46, Tryd.ntmps46
    go_wp2_with fail
    go_ret
    exact ⟨by rw [hm.out]; first | rfl | (simp; done) | (simp; assumption), (by first | exact Below.refl _ _ | exact below_al (Below.refl _ _) | exact below_al (below_al (Below.refl _ _)) | exact below_al (below_al (below_al (Below.refl _ _))))⟩
  case pos =>
  subst e5
  have hm := hide (show mayB ⟨10, false, false, ⟨#[]⟩, 0, 0, tx, []⟩ = okT tx by simp [mayB, sB, strip, emp0])
  have ri := hide (fun W => rval tx W z1)
  go_enter Tryd.func46, Tryd.ntmps46
  go_wp2_with (go_at_call 60; refine Stop.out ?_)
  refine Stop.mk ((ri.out _).mono ?_)
  rintro e w1 ⟨rfl, hb1⟩
  have B1 := hide (below_then (show Below w.heap.size w _ by repeat (first | exact Below.refl _ _ | refine below_al ?_)) hb1)
  clear hb1
  go_wp2_with fail
  go_ret
  exact ⟨by rw [hm.out]; first | done | rfl | simp, B1.out⟩
set_option maxHeartbeats 1000000 in
set_option maxRecDepth 100000 in
theorem rmay_11 (h : Hd) (w : World) (hz : EvZ h) (hk : h.kind = 11) :
    Calls Tryd.prog 46 #[.agg (evs h)] w fun e w' => e = .returned (.bool (mayB h)) ∧ Below w.heap.size w w' := by
  obtain ⟨k, fl, ng, dg, ex, bt, tx, nm⟩ := h
  obtain ⟨z1, z2, z3⟩ := hz
  simp only at hk z1 z2 z3
  subst hk z3
  show Calls _ _ #[.agg #[.int .i64 11, .bool fl, .bool ng, .string dg, .int .i64 ex, .int .u64 bt, .string tx]] _ _
  cases fl
  case true =>
    have hm := hide (show mayB ⟨11, true, ng, dg, ex, bt, tx, []⟩ = false by simp [mayB, sB, strip, emp0])
    go_enter Tryd.func46, Tryd.ntmps46
    go_wp2_with fail
    go_ret
    exact ⟨by rw [hm.out]; first | rfl | (simp; done) | (simp; assumption), (by first | exact Below.refl _ _ | exact below_al (Below.refl _ _) | exact below_al (below_al (Below.refl _ _)) | exact below_al (below_al (below_al (Below.refl _ _))))⟩
  case false =>
  cases ng
  case true =>
    have hm := hide (show mayB ⟨11, false, true, dg, ex, bt, tx, []⟩ = false by simp [mayB, sB, strip, emp0])
    go_enter Tryd.func46, Tryd.ntmps46
    go_wp2_with fail
    go_ret
    exact ⟨by rw [hm.out]; first | rfl | (simp; done) | (simp; assumption), (by first | exact Below.refl _ _ | exact below_al (Below.refl _ _) | exact below_al (below_al (Below.refl _ _)) | exact below_al (below_al (below_al (Below.refl _ _))))⟩
  case false =>
  by_cases e3 : dg = ⟨#[]⟩
  case neg =>
    have q1 : decide (dg = (⟨#[]⟩ : ByteArray)) = false := decide_eq_false e3
    have q2 := ba_ne e3
    have q3 := ba_nil e3
    have q4 : ¬ dg.size = 0 := fun e => e3 ((ba_empty _).1 e)
    have q5 : ¬ dg = ByteArray.empty := e3
    have hm := hide (show mayB ⟨11, false, false, dg, ex, bt, tx, []⟩ = false by simp [mayB, sB, strip, emp0, q4, q5])
    clear q4 q5
    go_enter Tryd.func46, Tryd.ntmps46
    go_wp2_with fail
    go_ret
    exact ⟨by rw [hm.out]; first | rfl | (simp; done) | (simp; assumption), (by first | exact Below.refl _ _ | exact below_al (Below.refl _ _) | exact below_al (below_al (Below.refl _ _)) | exact below_al (below_al (below_al (Below.refl _ _))))⟩
  case pos =>
  subst e3
  by_cases e4 : ex = 0
  case neg =>
    have hm := hide (show mayB ⟨11, false, false, ⟨#[]⟩, ex, bt, tx, []⟩ = false by simp [mayB, sB, strip, emp0, e4])
    go_enter Tryd.func46, Tryd.ntmps46
    go_wp2_with fail
    go_ret
    exact ⟨by rw [hm.out]; first | rfl | (simp; done) | (simp; assumption), (by first | exact Below.refl _ _ | exact below_al (Below.refl _ _) | exact below_al (below_al (Below.refl _ _)) | exact below_al (below_al (below_al (Below.refl _ _))))⟩
  case pos =>
  subst e4
  by_cases e5 : bt = 0
  case neg =>
    have hm := hide (show mayB ⟨11, false, false, ⟨#[]⟩, 0, bt, tx, []⟩ = false by simp [mayB, sB, strip, emp0, e5])
    go_enter Tryd.func46, Tryd.ntmps46
    go_wp2_with fail
    go_ret
    exact ⟨by rw [hm.out]; first | rfl | (simp; done) | (simp; assumption), (by first | exact Below.refl _ _ | exact below_al (Below.refl _ _) | exact below_al (below_al (Below.refl _ _)) | exact below_al (below_al (below_al (Below.refl _ _))))⟩
  case pos =>
  subst e5
  by_cases e6 : tx = ⟨#[]⟩
  case neg =>
    have q1 : decide (tx = (⟨#[]⟩ : ByteArray)) = false := decide_eq_false e6
    have q2 := ba_ne e6
    have q3 := ba_nil e6
    have q4 : ¬ tx.size = 0 := fun e => e6 ((ba_empty _).1 e)
    have q5 : ¬ tx = ByteArray.empty := e6
    have hm := hide (show mayB ⟨11, false, false, ⟨#[]⟩, 0, 0, tx, []⟩ = false by simp [mayB, sB, strip, emp0, q4, q5])
    clear q4 q5
    go_enter Tryd.func46, Tryd.ntmps46
    go_wp2_with fail
    go_ret
    exact ⟨by rw [hm.out]; first | rfl | (simp; done) | (simp; assumption), (by first | exact Below.refl _ _ | exact below_al (Below.refl _ _) | exact below_al (below_al (Below.refl _ _)) | exact below_al (below_al (below_al (Below.refl _ _))))⟩
  case pos =>
  subst e6
  have hm := hide (show mayB ⟨11, false, false, ⟨#[]⟩, 0, 0, ⟨#[]⟩, []⟩ = true by simp [mayB, sB, strip, emp0])
  go_enter Tryd.func46, Tryd.ntmps46
  go_wp2_with fail
  go_ret
  exact ⟨by rw [hm.out]; first | rfl | (simp; done) | (simp; assumption), (by first | exact Below.refl _ _ | exact below_al (Below.refl _ _) | exact below_al (below_al (Below.refl _ _)) | exact below_al (below_al (below_al (Below.refl _ _))))⟩
set_option maxHeartbeats 1000000 in
set_option maxRecDepth 100000 in
theorem rmay : RMay := by
  intro h w hz
  by_cases k1 : h.kind = 1
  · exact rmay_1 h w hz k1
  by_cases k2 : h.kind = 2
  · exact rmay_2 h w hz k2
  by_cases k3 : h.kind = 3
  · exact rmay_3 h w hz k3
  by_cases k4 : h.kind = 4
  · exact rmay_4 h w hz k4
  by_cases k5 : h.kind = 5
  · exact rmay_5 h w hz k5
  by_cases k6 : h.kind = 6
  · exact rmay_6 h w hz k6
  by_cases k7 : h.kind = 7
  · exact rmay_7 h w hz k7
  by_cases k8 : h.kind = 8
  · exact rmay_8 h w hz k8
  by_cases k9 : h.kind = 9
  · exact rmay_9 h w hz k9
  by_cases k10 : h.kind = 10
  · exact rmay_10 h w hz k10
  by_cases k11 : h.kind = 11
  · exact rmay_11 h w hz k11
  have hm : mayB h = false := by
    unfold mayB
    rw [if_neg (by omega), if_neg k11]
    cases hb : sB h with
    | false => rfl
    | true => obtain ⟨a, b, _⟩ := (sB_iff h).1 hb; omega
  have hm' := hide hm
  clear hm hz
  show Calls _ _ #[.agg #[.int .i64 h.kind, .bool h.flag, .bool h.neg, .string h.dig, .int .i64 h.exp, .int .u64 h.bits, .string h.text]] _ _
  by_cases b1 : h.kind < 1
  · go_enter Tryd.func46, Tryd.ntmps46
    go_wp2_with fail
    go_ret
    exact ⟨by rw [hm'.out]; first | rfl | simp, (by first | exact Below.refl _ _ | exact below_al (Below.refl _ _) | exact below_al (below_al (Below.refl _ _)) | exact below_al (below_al (below_al (Below.refl _ _))))⟩
  · have b2 : 11 < h.kind := by omega
    go_enter Tryd.func46, Tryd.ntmps46
    go_wp2_with fail
    go_ret
    exact ⟨by rw [hm'.out]; first | rfl | simp, (by first | exact Below.refl _ _ | exact below_al (Below.refl _ _) | exact below_al (below_al (Below.refl _ _)) | exact below_al (below_al (below_al (Below.refl _ _))))⟩
end Go.Proofs.YthbfopdeaknbkaaDoor
/- What the reference's one keeps in memory. -/
namespace Go.Proofs.YthbfopdeaknbkaaDoor
open Go.RowKit
set_option linter.unusedSimpArgs false
set_option linter.unusedVariables false
/-- Where one stands: its value in block V, its names, its children. -/
structure LK (n : Nat) (l : List (VT n)) (h : Hd) (V : Nat) (nms : List ByteArray) (nv lv : Value) (W : World) : Prop where
  box : Bx W V h nv lv
  nrow : OwnS W (V + 1) nv nms
  row : ∃ xs, W.ownsRow (V + 1) 29 9 lv l.length xs ∧ ∀ j (hj : j < l.length), ∃ ns ls s e, KR n W l[j] ns ls s e ∧ V < s ∧ (∀ g, lv.ownBlock = some g → g < s ∨ e ≤ g) ∧ (∀ g, nv.ownBlock = some g → g < s ∨ e ≤ g) ∧ ∀ r v, (vals (vhd n l[j]) ns ls).toList[r]? = some v → xs[j * 9 + r]? = some v
section
variable {n : Nat} {l : List (VT n)} {h : Hd} {W : World} {V : Nat} {nms : List ByteArray} {nv lv : Value}
theorem LK.move {W1 : World} (H : LK n l h V nms nv lv W) (hs : W.heap.size ≤ W1.heap.size) (hb : ∀ q, V ≤ q → q < W.heap.size → W1.heap[q]? = W.heap[q]?) : LK n l h V nms nv lv W1 := by
  have hV := H.box.lt
  obtain ⟨xs, hx, hall⟩ := H.row
  have hnl := World.ownsRow.lt H.nrow
  have hll := World.ownsRow.lt hx
  refine ⟨⟨(hb V (Nat.le_refl _) hV).trans H.box.at_⟩, ownsRow_of H.nrow fun g e hg => hb g (by have := (hnl g e).1; omega) hg, xs, ownsRow_of hx fun g e hg => hb g (by have := (hll g e).1; omega) hg, fun j hj => ?_⟩
  obtain ⟨ns, ls, s, e, k1, k2, k3, k4, k5⟩ := hall j hj
  exact ⟨ns, ls, s, e, k1.move (Nat.le_trans k1.2.1 hs) (fun q q1 q2 => hb q (by omega) (Nat.lt_of_lt_of_le q2 k1.2.1)), k2, k3, k4, k5⟩
theorem LK.start (box : Bx W V h (.slice none 0 0) (.slice none 0 0)) : LK n [] h V [] (.slice none 0 0) (.slice none 0 0) W :=
  ⟨box, World.ownsRow_nil _ _ _ _, [], World.ownsRow_nil _ _ _ _, fun j hj => (by cases hj)⟩
theorem LK.nlt (H : LK n l h V nms nv lv W) (g : Nat) (e : nv.ownBlock = some g) : V < g ∧ g < W.heap.size := by
  have := World.ownsRow.lt H.nrow g e
  exact ⟨this.1, this.2⟩
theorem LK.llt (H : LK n l h V nms nv lv W) (g : Nat) (e : lv.ownBlock = some g) : V < g ∧ g < W.heap.size := by
  obtain ⟨xs, hx, _⟩ := H.row
  have := World.ownsRow.lt hx g e
  exact ⟨this.1, this.2⟩
/-- A name is appended; block X (made just behind all that is held) may be written besides. -/
theorem LK.name {w1 w4 W1 : World} {nv' : Value} {s : ByteArray} (H : LK n l h V nms nv lv w1) (hz : w1.heap.size < W.heap.size) (hw : ∀ q, V ≤ q → q < w1.heap.size → W.heap[q]? = w1.heap[q]?) (hg : W.grownBy w4 nv.ownBlock) (ho : w4.ownsRow (V + 1) 9 1 nv' (nms.length + 1) (scs nms ++ [.string s])) (hat : nv'.ownBlock = nv.ownBlock ∨ nv'.ownBlock = some W.heap.size)
    (hz1 : w4.heap.size ≤ W1.heap.size) (h1 : ∀ q, V ≤ q → q < w4.heap.size → q ≠ w1.heap.size → W1.heap[q]? = (w4.setCell ⟨V, 7, none⟩ nv').heap[q]?) :
    LK n l h V (nms ++ [s]) nv' lv W1 := by
  obtain ⟨xs, hx, hall⟩ := H.row
  have hnl := World.ownsRow.lt H.nrow
  have hll := World.ownsRow.lt hx
  have z4 := hg.size
  have hV3 := H.box.lt
  have bxx : Bx w4 V h nv lv := ⟨((hg.block V (by omega) (fun e => by have := (hnl V e.symm).1; omega)).trans (hw V (Nat.le_refl _) hV3)).trans H.box.at_⟩
  have hne : ∀ g, lv.ownBlock = some g → nv.ownBlock ≠ some g := fun g e2 e1 => rows_ne H.nrow hx e1 e2
  have hol := World.ownsRow.lt ho
  have hX : ∀ g, nv'.ownBlock = some g → g ≠ w1.heap.size := fun g e => by
    rcases hat with q | q
    · have := (hnl g (q ▸ e)).2; omega
    · rw [q] at e; cases e; omega
  refine ⟨⟨(h1 V (Nat.le_refl _) (by omega) (by omega)).trans bxx.set7.at_⟩, ?_, xs, ?_, fun j hj => ?_⟩
  · have ho2 : OwnS w4 (V + 1) nv' (nms ++ [s]) := by unfold OwnS; simpa [scs] using ho
    refine ownsRow_of ho2 fun g e hg' => ?_
    rw [h1 g (by have := (hol g e).1; omega) hg' (hX g e)]
    exact heap_set_ne (by have := (hol g e).1; omega)
  · refine ownsRow_of hx fun g e hg' => ?_
    have := (hll g e).1
    rw [h1 g (by omega) (by omega) (by omega), heap_set_ne (by omega), hg.block g (by omega) (fun e1 => hne g e e1.symm)]
    exact hw g (by omega) hg'
  · obtain ⟨ns, ls, s', e, k1, k2, k3, k4, k5⟩ := hall j hj
    have := k1.2.1
    refine ⟨ns, ls, s', e, k1.move (by omega) ?_, k2, k3, ?_, k5⟩
    · intro q q1 q2
      rw [h1 q (by omega) (by omega) (by omega), heap_set_ne (by omega), hg.block q (by omega) (fun e1 => by rcases k4 q e1.symm with h | h <;> omega)]
      exact hw q (by omega) (by omega)
    · intro g e1
      rcases hat with h | h
      · exact k4 g (h ▸ e1)
      · rw [h] at e1; cases e1; right; omega
theorem LK.push {w4 : World} {lv' : Value} {ns ls : Value} {xs : List Value} {c : VT n} {s f : Nat} (H : LK n l h V nms nv lv W)
    (hx : W.ownsRow (V + 1) 29 9 lv l.length xs)
    (hall : ∀ j (hj : j < l.length), ∃ ns ls s e, KR n W l[j] ns ls s e ∧ V < s ∧ (∀ g, lv.ownBlock = some g → g < s ∨ e ≤ g) ∧ (∀ g, nv.ownBlock = some g → g < s ∨ e ≤ g) ∧ ∀ r v, (vals (vhd n l[j]) ns ls).toList[r]? = some v → xs[j * 9 + r]? = some v)
    (hc : KR n W c ns ls s f) (hs : V < s) (hl1 : ∀ g, lv.ownBlock = some g → g < s) (hn1 : ∀ g, nv.ownBlock = some g → g < s) (hg : W.grownBy w4 lv.ownBlock)
    (ho : w4.ownsRow (V + 1) 29 9 lv' (l.length + 1) (xs ++ (vals (vhd n c) ns ls).toList)) (hat : lv'.ownBlock = lv.ownBlock ∨ lv'.ownBlock = some W.heap.size) :
    LK n (l ++ [c]) h V nms nv lv' (w4.setCell ⟨V, 8, none⟩ lv') := by
  have hVl := H.box.lt
  have hnl := World.ownsRow.lt H.nrow
  have hll := World.ownsRow.lt hx
  have z1 := hc.1
  have z2 := hc.2.1
  have z4 := hg.size
  have hne : ∀ g, nv.ownBlock = some g → lv.ownBlock ≠ some g := fun g e1 e2 => rows_ne H.nrow hx e1 e2
  have hol := World.ownsRow.lt ho
  have old : ∀ q, q < W.heap.size → lv.ownBlock ≠ some q → w4.heap[q]? = W.heap[q]? := fun q q1 q2 => hg.block q q1 (fun e => q2 e.symm)
  have bxx : Bx w4 V h nv lv := ⟨(old V hVl (fun e => by have := (hll V e).1; omega)).trans H.box.at_⟩
  refine ⟨bxx.set8, ?_, xs ++ (vals (vhd n c) ns ls).toList, ?_, fun j hj => ?_⟩
  · refine ownsRow_of H.nrow fun g e hg' => ?_
    rw [heap_set_ne (by have := (hnl g e).1; omega)]
    exact old g hg' (hne g e)
  · have hlen : (l ++ [c]).length = l.length + 1 := by simp
    rw [hlen]
    exact ownsRow_of ho fun g e hg' => heap_set_ne (by have := (hol g e).1; omega)
  · by_cases hjk' : j < l.length
    · obtain ⟨ns', ls', s', e, k1, k2, k3, k4, k5⟩ := hall j hjk'
      have hcj : (l ++ [c])[j] = l[j] := List.getElem_append_left hjk'
      rw [hcj]
      refine ⟨ns', ls', s', e, k1.move (by simp; have := k1.2.1; omega) ?_, k2, ?_, k4, ?_⟩
      · intro q q1 q2
        have := k1.2.1
        rw [heap_set_ne (by omega)]
        exact old q (by omega) (fun e1 => by rcases k3 q e1 with h | h <;> omega)
      · intro g hg'
        rcases hat with h | h
        · exact k3 g (h ▸ hg')
        · rw [h] at hg'; cases hg'; right; exact k1.2.1
      · intro r v hr
        have := k5 r v hr
        rw [List.getElem?_append_left ((List.getElem?_eq_some_iff.1 this).1)]
        exact this
    · have hjl : j = l.length := by simp at hj; omega
      subst hjl
      have hcj : (l ++ [c])[l.length] = c := by simp
      rw [hcj]
      refine ⟨ns, ls, s, f, hc.move (by simp; omega) ?_, hs, ?_, ?_, ?_⟩
      · intro q q1 q2
        rw [heap_set_ne (by omega)]
        exact old q (by omega) (fun e1 => by have := hl1 q e1; omega)
      · intro g hg'
        rcases hat with h | h
        · left; exact hl1 g (h ▸ hg')
        · rw [h] at hg'; cases hg'; right; omega
      · intro g hg'
        left; exact hn1 g hg'
      · intro r v hr
        have hl : xs.length = l.length * 9 := hx.1
        rw [List.getElem?_append_right (by omega), hl, Nat.add_sub_cancel_left]
        exact hr
theorem LK.done {W1 : World} {B : Nat} (H : LK n l h V nms nv lv W) (hB : B ≤ V) (hs : W.heap.size ≤ W1.heap.size) (hb : ∀ q, V < q → q < W.heap.size → W1.heap[q]? = W.heap[q]?) : KR (n + 1) W1 ({ h with names := nms }, l) nv lv B W1.heap.size := by
  obtain ⟨xs, hx, hall⟩ := H.row
  have hVl := H.box.lt
  refine ⟨by omega, Nat.le_refl _, fun W' h' => ⟨?_, ?_⟩⟩
  · have ho := H.nrow
    have hr := World.ownsRow.lt ho
    have ho2 := ho
    obtain ⟨h0, h1⟩ := ho
    rcases h1 with ⟨rfl, e⟩ | ⟨g, cap, cur, rfl, k1, k2, k3, k4, k5, k6⟩
    · exact Or.inl ⟨rfl, List.eq_nil_of_length_eq_zero e⟩
    · have hg := (hr g rfl).2
      have hg2 := (hr g rfl).1
      have hsame : W'.heap[g]? = W.heap[g]? := by rw [h' g (by omega) (by omega), hb g (by omega) hg]
      refine Or.inr ⟨g, 0, cap, none, rfl, k3, k4, fun _ => ⟨rfl, ?_⟩, fun i hi => ?_⟩
      · by_cases hlt : g < W'.heap.size
        · exact hlt
        · rw [k2, Array.getElem?_eq_none (by omega)] at hsame; cases hsame
      · have hi' : i < nms.length := hi
        rw [Nat.zero_add, World.cell?_of_block (a := ⟨g, i, none⟩) hsame, World.ownsRow.cellAt ho2 i (by simpa using hi)]
        simp [scs, hi']
  · have hr := World.ownsRow.lt hx
    have hx2 := hx
    obtain ⟨h0, h1⟩ := hx
    rcases h1 with ⟨rfl, e⟩ | ⟨g, cap, cur, rfl, k1, k2, k3, k4, k5, k6⟩
    · exact Or.inl ⟨rfl, List.eq_nil_of_length_eq_zero e⟩
    · have hg := (hr g rfl).2
      have hg2 := (hr g rfl).1
      have hsame : W'.heap[g]? = W.heap[g]? := by rw [h' g (by omega) (by omega), hb g (by omega) hg]
      refine Or.inr ⟨g, 0, cap, none, rfl, k3, k4, fun _ => ⟨rfl, ?_⟩, fun i hi => ?_⟩
      · by_cases hlt : g < W'.heap.size
        · exact hlt
        · rw [k2, Array.getElem?_eq_none (by omega)] at hsame; cases hsame
      · obtain ⟨ns', ls', s, e, q1, q2, q3, q3', q4⟩ := hall i hi
        refine ⟨ns', ls', ?_, q1.2.2 W' fun q r1 r2 => ?_⟩
        · intro r v hrv
          have hq := q4 r v hrv
          have hlt := (List.getElem?_eq_some_iff.1 hq).1
          rw [Nat.zero_add, World.cell?_of_block (a := ⟨g, i * 9 + r, none⟩) hsame, World.ownsRow.cellAt hx2 _ (by rw [h0] at hlt; exact hlt)]
          exact hq
        · have := q1.2.1
          rw [h' q (by omega) (by omega), hb q (by omega) (by omega)]
/-- The value's block behind an append to one of its rows. -/
theorem LK.grow_box {w4 : World} {row : Option Nat} (H : LK n l h V nms nv lv W) (hg : W.grownBy w4 row) (hr : row = nv.ownBlock ∨ row = lv.ownBlock) : Bx w4 V h nv lv := by
  have hVl := H.box.lt
  refine ⟨?_⟩
  rw [hg.block V hVl (fun e => ?_)]
  · exact H.box.at_
  · rcases hr with q | q
    · have := (H.nlt V (q.symm.trans e.symm)).1; omega
    · have := (H.llt V (q.symm.trans e.symm)).1; omega
end
section
variable {i : Nat} {W W1 W2 : World}
theorem FrR.refl : FrR i W W := ⟨Below.refl _ _, fun _ _ _ => rfl⟩
theorem FrR.trans (h : FrR i W W1) (k : FrR i W1 W2) : FrR i W W2 := ⟨h.1.trans k.1, fun q q1 q2 => (k.2 q (Nat.lt_of_lt_of_le q1 h.1.size) q2).trans (h.2 q q1 q2)⟩
theorem FrR.al {o : Obj} (h : FrR i W W1) (hi : i ≤ W1.heap.size) : FrR i W (W1.alloc o) := ⟨h.1.alloc hi _, fun q q1 q2 => (Below.heap_alloc _ _ _ (Nat.lt_of_lt_of_le q1 h.1.size)).trans (h.2 q q1 q2)⟩
theorem FrR.dr (h : FrR i W W1) : FrR i W W1.drew := ⟨h.1.drew, h.2⟩
theorem FrR.grown {row : Option Nat} (h : FrR i W W1) (hg : W1.grownBy W2 row) (hr : ∀ k, row = some k → W.heap.size ≤ k) (hi : i ≤ W.heap.size) : FrR i W W2 :=
  ⟨h.1.grown hg (Nat.le_trans hi h.1.size) (fun k e => Nat.le_trans hi (hr k e)), fun q q1 q2 => (hg.block q (Nat.lt_of_lt_of_le q1 h.1.size) (fun e => by have := hr q e.symm; omega)).trans (h.2 q q1 q2)⟩
theorem FrR.size (h : FrR i W W1) : W.heap.size ≤ W1.heap.size := h.1.size
end
/-- All that one holds, with its event, its answer's block and its value's. -/
structure Sw (n : Nat) (e : Hd) (i : Nat) (W : World) (l : List (VT n)) (nms : List ByteArray) (nv lv : Value) (W' : World) : Prop where
  lk : LK n l e (W.heap.size + 1 + 1) nms nv lv W'
  fr : FrR i W W'
  eb : EB W' W.heap.size e
  rb : Bx W' (W.heap.size + 1) (zr 0) (.slice none 0 0) (.slice none 0 0)
section
variable {n i : Nat} {e : Hd} {W W1 W2 : World} {l : List (VT n)} {nms : List ByteArray} {nv lv : Value}
theorem Sw.z (H : Sw n e i W l nms nv lv W1) : W.heap.size + 1 + 1 < W1.heap.size := H.lk.box.lt
theorem Sw.step (H : Sw n e i W l nms nv lv W1) (hi : i < W.heap.size) (k : FrR i W1 W2) : Sw n e i W l nms nv lv W2 := by
  have z := H.z
  exact ⟨H.lk.move k.size (fun q q1 q2 => k.2 q q2 (by omega)), H.fr.trans k, H.eb.same (k.2 _ (by omega) (by omega)), ⟨(k.2 _ (by omega) (by omega)).trans H.rb.at_⟩⟩
theorem Sw.at (H : Sw n e i W l nms nv lv W1) : Bx W1 (W.heap.size + 1 + 1) e nv lv := H.lk.box
theorem Sw.name {W3 w4 W5 : World} {nv' : Value} {s : ByteArray} (H : Sw n e i W l nms nv lv W1) (hi : i < W.heap.size) (k : FrR i W1 W3) (hz : W1.heap.size < W3.heap.size) (hg : W3.grownBy w4 nv.ownBlock) (ho : w4.ownsRow (W.heap.size + 1 + 1 + 1) 9 1 nv' (nms.length + 1) (scs nms ++ [.string s])) (hat : nv'.ownBlock = nv.ownBlock ∨ nv'.ownBlock = some W3.heap.size)
    (hz1 : w4.heap.size ≤ W5.heap.size) (h1 : ∀ q, q < w4.heap.size → q ≠ W1.heap.size → q ≠ i → W5.heap[q]? = (w4.setCell ⟨W.heap.size + 1 + 1, 7, none⟩ nv').heap[q]?) (hb : Below i (w4.setCell ⟨W.heap.size + 1 + 1, 7, none⟩ nv') W5) : Sw n e i W l (nms ++ [s]) nv' lv W5 := by
  have z := H.z
  have z4 := hg.size
  have hnl := H.lk.nlt
  have old : ∀ q, q ≠ i → q < W1.heap.size → q < W.heap.size + 1 + 1 → W5.heap[q]? = W1.heap[q]? := fun q n1 q1 q2 => by
    rw [h1 q (by omega) (by omega) n1, heap_set_ne (by omega), hg.block q (by omega) (fun e1 => by have := (hnl q e1.symm).1; omega)]
    exact k.2 q q1 n1
  refine ⟨H.lk.name hz (fun q q1 q2 => k.2 q q2 (by omega)) hg ho hat hz1 (fun q q1 q2 q3 => h1 q q2 q3 (by omega)), ⟨?_, ?_⟩, H.eb.same (old _ (by omega) (by omega) (by omega)), ⟨(old _ (by omega) (by omega) (by omega)).trans H.rb.at_⟩⟩
  · refine (((H.fr.1.trans k.1).grown hg (by omega) (fun g eg => by have := (hnl g eg).1; omega)).setCell (p := ⟨W.heap.size + 1 + 1, 7, none⟩) (show i ≤ W.heap.size + 1 + 1 by omega) nv').trans hb
  · intro q q1 q2
    exact (old q q2 (by omega) (by omega)).trans (H.fr.2 q q1 q2)
theorem Sw.push {w4 : World} {lv' : Value} {ns ls : Value} {xs : List Value} {c : VT n} {s f : Nat} (H : Sw n e i W l nms nv lv W1) (hi : i < W.heap.size)
    (hx : W1.ownsRow (W.heap.size + 1 + 1 + 1) 29 9 lv l.length xs)
    (hall : ∀ j (hj : j < l.length), ∃ ns ls s e, KR n W1 l[j] ns ls s e ∧ W.heap.size + 1 + 1 < s ∧ (∀ g, lv.ownBlock = some g → g < s ∨ e ≤ g) ∧ (∀ g, nv.ownBlock = some g → g < s ∨ e ≤ g) ∧ ∀ r v, (vals (vhd n l[j]) ns ls).toList[r]? = some v → xs[j * 9 + r]? = some v)
    (hc : KR n W1 c ns ls s f) (hs : W.heap.size + 1 + 1 < s) (hl1 : ∀ g, lv.ownBlock = some g → g < s) (hn1 : ∀ g, nv.ownBlock = some g → g < s) (hg : W1.grownBy w4 lv.ownBlock)
    (ho : w4.ownsRow (W.heap.size + 1 + 1 + 1) 29 9 lv' (l.length + 1) (xs ++ (vals (vhd n c) ns ls).toList)) (hat : lv'.ownBlock = lv.ownBlock ∨ lv'.ownBlock = some W1.heap.size) :
    Sw n e i W (l ++ [c]) nms nv lv' (w4.setCell ⟨W.heap.size + 1 + 1, 8, none⟩ lv') := by
  have z := H.z
  have hll := H.lk.llt
  have old : ∀ q, q < W.heap.size + 1 + 1 → (w4.setCell ⟨W.heap.size + 1 + 1, 8, none⟩ lv').heap[q]? = W1.heap[q]? := fun q q2 => by
    rw [heap_set_ne (by omega), hg.block q (by omega) (fun e1 => by have := (hll q e1.symm).1; omega)]
  exact ⟨H.lk.push hx hall hc hs hl1 hn1 hg ho hat, (H.fr.grown hg (fun g eg => by have := (hll g eg).1; omega) (by omega)).new (by omega) (by omega), H.eb.same (old _ (by omega)), ⟨(old _ (by omega)).trans H.rb.at_⟩⟩
/-- Where a child that was read is no value: the value's block, and what one began with, behind the append. -/
theorem Sw.junk {w4 : World} {lv' : Value} (H : Sw n e i W l nms nv lv W1) (hi : i < W.heap.size) (hg : W1.grownBy w4 lv.ownBlock) : Bx w4 (W.heap.size + 1 + 1) e nv lv ∧ Bx (w4.setCell ⟨W.heap.size + 1 + 1, 8, none⟩ lv') (W.heap.size + 1 + 1) e nv lv' ∧ FrR i W (w4.setCell ⟨W.heap.size + 1 + 1, 8, none⟩ lv') ∧ Bx (w4.setCell ⟨W.heap.size + 1 + 1, 8, none⟩ lv') (W.heap.size + 1) (zr 0) (.slice none 0 0) (.slice none 0 0) := by
  have z := H.z
  have hll := H.lk.llt
  have b := H.lk.grow_box hg (Or.inr rfl)
  refine ⟨b, b.set8, (H.fr.grown hg (fun g eg => by have := (hll g eg).1; omega) (by omega)).new (by omega) (by omega), ⟨?_⟩⟩
  rw [heap_set_ne (by omega), hg.block _ (by omega) (fun e1 => by have := (hll _ e1.symm).1; omega)]
  exact H.rb.at_
end
end Go.Proofs.YthbfopdeaknbkaaDoor
/- calamusref05's one: walked. -/
namespace Go.Proofs.YthbfopdeaknbkaaDoor
open Go.RowKit
set_option linter.unusedSimpArgs false
set_option linter.unusedVariables false
/-- What one answers. -/
def OneP (es : List Hd) (v : Value) (n k0 : Nat) (s1 : List Pa) (i : Nat) (W : World) (x : Ending) (W' : World) : Prop :=
  ∃ (h : Hd) (a1 : Option Addr) (m1 d1 : Nat) (a2 : Option Addr) (m2 d2 : Nat) (k' : Nat) (bad fin : Bool), x = .returned (.agg (vals h (.slice a1 m1 d1) (.slice a2 m2 d2))) ∧ RB W' i v k' bad fin ∧ FrR i W W' ∧ k0 < k' ∧ k' ≤ es.length ∧ (bad = true → runE es = none) ∧ (bad = false → fin = true → ∃ st, runE es = some (st, true) ∧ st ≠ []) ∧
    (bad = false → fin = false → runE (es.take k') = some (s1, true) ∧ ∃ t : VT n, IsV n t ∧ es.take k' = es.take k0 ++ fl n t ∧ h = vhd n t ∧ KR n W' t (.slice a1 m1 d1) (.slice a2 m2 d2) W.heap.size W'.heap.size)
def OneOk (es : List Hd) (v : Value) (w0 : World) (n : Nat) : Prop :=
  ∀ (k0 : Nat) (e : Hd) (s1 : List Pa) (i : Nat) (W : World) (hk : k0 < es.length), es[k0] = e → mayB e = true → RB W i v (k0 + 1) false false → w0.heap.size ≤ i → Below w0.heap.size w0 W → ((10 ≤ e.kind ∧ runE es = none) ∨ (e.kind ≤ 9 ∧ runE (es.take (k0 + 1)) = some (newE e.kind ++ s1, true))) → es.length - (k0 + 1) < n →
    Calls Tryd.prog 34 #[.pointer (some ⟨i, 0, none⟩), .agg (evs e)] W fun x W' => OneP es v n k0 s1 i W x W'
/-- What is written into block m, cell by cell. -/
theorem rb_9 {W1 : World} {i m k : Nat} {v : Value} {bad fin : Bool} (q : RB W1 i v k bad fin) (hm : i ≠ m) (u0 u1 u2 u3 u4 u5 u6 u7 u8 : Value) : RB (((((((((W1.setCell ⟨m, 0, none⟩ u0).setCell ⟨m, 1, none⟩ u1).setCell ⟨m, 2, none⟩ u2).setCell ⟨m, 3, none⟩ u3).setCell ⟨m, 4, none⟩ u4).setCell ⟨m, 5, none⟩ u5).setCell ⟨m, 6, none⟩ u6).setCell ⟨m, 7, none⟩ u7).setCell ⟨m, 8, none⟩ u8) i v k bad fin := by
  refine q.same ?_
  simp only [heap_set_ne hm]
theorem fr_9 {W W1 : World} {i m : Nat} (q : FrR i W W1) (hm : W.heap.size ≤ m) (hi : i ≤ m) (u0 u1 u2 u3 u4 u5 u6 u7 u8 : Value) : FrR i W (((((((((W1.setCell ⟨m, 0, none⟩ u0).setCell ⟨m, 1, none⟩ u1).setCell ⟨m, 2, none⟩ u2).setCell ⟨m, 3, none⟩ u3).setCell ⟨m, 4, none⟩ u4).setCell ⟨m, 5, none⟩ u5).setCell ⟨m, 6, none⟩ u6).setCell ⟨m, 7, none⟩ u7).setCell ⟨m, 8, none⟩ u8) := by
  iterate 9 refine FrR.new ?_ hm hi
  exact q
theorem low_9 {W1 : World} {q m : Nat} (hm : q ≠ m) (u0 u1 u2 u3 u4 u5 u6 u7 u8 : Value) : (((((((((W1.setCell ⟨m, 0, none⟩ u0).setCell ⟨m, 1, none⟩ u1).setCell ⟨m, 2, none⟩ u2).setCell ⟨m, 3, none⟩ u3).setCell ⟨m, 4, none⟩ u4).setCell ⟨m, 5, none⟩ u5).setCell ⟨m, 6, none⟩ u6).setCell ⟨m, 7, none⟩ u7).setCell ⟨m, 8, none⟩ u8).heap[q]? = W1.heap[q]? := by
  simp only [heap_set_ne hm]
section
variable {es : List Hd} {v : Value} {n k0 i : Nat} {e : Hd} {s1 : List Pa} {W : World}
theorem e_new (W : World) (e : Hd) : ∀ W1, Below (W.heap.size + 3) ((((W.alloc (.cells (evs e) 42)).alloc (.cells (vals (zr 0) (.slice none 0 0) (.slice none 0 0)) 29)).alloc (.cells (vals e (.slice none 0 0) (.slice none 0 0)) 29))) W1 → EB W1 W.heap.size e ∧ Bx W1 (W.heap.size + 1) (zr 0) (.slice none 0 0) (.slice none 0 0) ∧ Bx W1 (W.heap.size + 1 + 1) e (.slice none 0 0) (.slice none 0 0) := by
  intro W1 hb
  refine ⟨?_, ⟨?_⟩, ⟨?_⟩⟩
  · unfold EB
    rw [hb.block _ (by omega), Below.heap_alloc _ _ _ (by simp; omega), Below.heap_alloc _ _ _ (by simp)]
    exact heap_alloc_last _ _
  · rw [hb.block _ (by omega), Below.heap_alloc _ _ _ (by simp)]
    have := heap_alloc_last (W.alloc (.cells (evs e) 42)) (.cells (vals (zr 0) (.slice none 0 0) (.slice none 0 0)) 29)
    rw [World.size_alloc] at this
    exact this
  · rw [hb.block _ (by omega)]
    have := heap_alloc_last ((W.alloc (.cells (evs e) 42)).alloc (.cells (vals (zr 0) (.slice none 0 0) (.slice none 0 0)) 29)) (.cells (vals e (.slice none 0 0) (.slice none 0 0)) 29)
    rw [World.size_alloc, World.size_alloc] at this
    exact this
set_option maxHeartbeats 2000000 in
set_option maxRecDepth 100000 in
theorem rone_leaf (hk : k0 < es.length) (he : es[k0] = e) (hm : mayB e = true) (hR : RB W i v (k0 + 1) false false) (h7 : e.kind < 7) (hr : runE (es.take (k0 + 1)) = some (newE e.kind ++ s1, true)) :
    Calls Tryd.prog 34 #[.pointer (some ⟨i, 0, none⟩), .agg (evs e)] W fun x W' => OneP es v (n + 1) k0 s1 i W x W' := by
  have hlf := hide (leaf_ok (n := n) hk he hm h7)
  have hnn := hide (may_val ((mayB_iff e).1 hm) (by omega) (by omega)).2.2.2.1
  have hnew : newE e.kind = [] := by unfold newE; rw [if_neg (by omega), if_neg (by omega), if_neg (by omega)]
  rw [hnew] at hr
  have hr' := hide hr
  have hi := hR.lt
  have st := hide (fun W1 (hb : Below W.heap.size W W1) => rstop_any (hR.same (hb.block i hi)))
  have hR' := hide hR
  have hk' := hide hk
  clear hr hnew hR he hm hk
  show Calls _ _ #[_, .agg #[.int .i64 e.kind, .bool e.flag, .bool e.neg, .string e.dig, .int .i64 e.exp, .int .u64 e.bits, .string e.text]] _ _
  go_enter Tryd.func34, Tryd.ntmps34
  go_wp2_with (go_at_call 47; refine Stop.out ?_)
  refine Stop.mk ((st.out _ (by repeat (first | exact Below.refl _ _ | refine below_al ?_))).mono ?_)
  rintro x w1 ⟨rfl, rfl⟩
  go_wp2_with fail
  refine bodyPost_ret (v := .agg #[.int .i64 e.kind, .bool e.flag, .bool e.neg, .string e.dig, .int .i64 e.exp, .int .u64 e.bits, .string e.text, .slice none 0 0, .slice none 0 0]) (by simp [results, Tryd.results34, go_sem, *]) rfl ⟨e, none, 0, 0, none, 0, 0, k0 + 1, false, false, rfl, hR'.out.same ((show Below W.heap.size W _ by repeat (first | exact Below.refl _ _ | refine below_al ?_)).block i hi), FrR.of (by repeat (first | exact Below.refl _ _ | refine below_al ?_)) (Nat.le_of_lt hi), by omega, by have := hk'.out; omega, fun q => (by cases q), fun _ q => (by cases q), fun _ _ => ⟨hr'.out, (e, []), hlf.out.1, hlf.out.2, rfl, by simp; omega, Nat.le_refl _, fun W' _ => ⟨Or.inl ⟨rfl, hnn.out⟩, Or.inl ⟨rfl, rfl⟩⟩⟩⟩
set_option maxHeartbeats 2000000 in
set_option maxRecDepth 100000 in
theorem rone_far (hk : k0 < es.length) (hR : RB W i v (k0 + 1) false false) (h10 : 10 ≤ e.kind) (hr : runE es = none) :
    Calls Tryd.prog 34 #[.pointer (some ⟨i, 0, none⟩), .agg (evs e)] W fun x W' => OneP es v (n + 1) k0 s1 i W x W' := by
  have hr' := hide hr
  have hi := hR.lt
  have st := hide (fun W1 (hb : Below W.heap.size W W1) => rstop_any (hR.same (hb.block i hi)))
  have hR' := hide hR
  have hk' := hide hk
  have h7 : ¬ e.kind < 7 := by omega
  have h9 : 9 < e.kind := by omega
  have n1 : i ≠ W.heap.size := by omega
  have n2 : i ≠ W.heap.size + 1 := by omega
  have n3 : i ≠ W.heap.size + 1 + 1 := by omega
  have m1 : W.heap.size ≠ i := by omega
  have m2 : W.heap.size + 1 ≠ i := by omega
  have m3 : W.heap.size + 1 + 1 ≠ i := by omega
  clear hr hR hk h10
  show Calls _ _ #[_, .agg #[.int .i64 e.kind, .bool e.flag, .bool e.neg, .string e.dig, .int .i64 e.exp, .int .u64 e.bits, .string e.text]] _ _
  go_enter Tryd.func34, Tryd.ntmps34
  go_wp2_with (go_at_call 47; refine Stop.out ?_)
  refine Stop.mk ((st.out _ (by repeat (first | exact Below.refl _ _ | refine below_al ?_))).mono ?_)
  rintro x w1 ⟨rfl, hw1⟩
  have S0 : Hid (Sw n e i W [] [] (.slice none 0 0) (.slice none 0 0) w1) := by
    obtain ⟨g1, g2, g3⟩ := e_new W e w1 (by rw [hw1]; exact Below.refl _ _)
    exact ⟨LK.start g3, FrR.of (by rw [hw1]; repeat (first | exact Below.refl _ _ | refine below_al ?_)) (Nat.le_of_lt hi), g1, g2⟩
  have R0 : Hid (RB w1 i v (k0 + 1) false false) := hR'.out.same (by rw [hw1]; exact (show Below W.heap.size W _ by repeat (first | exact Below.refl _ _ | refine below_al ?_)).block i hi)
  obtain ⟨c0, c1, c2, c3, fz⟩ := R0.out.cells
  obtain ⟨b0, b1, b2, b3, b4, b5, b6⟩ := S0.out.eb.cells
  obtain ⟨d0, d1, d2, d3, d4, d5, d6, d7, d8⟩ := S0.out.at.cells
  have fR := S0.out.rb.frz
  obtain ⟨r0, r1, r2, r3, r4, r5, r6, r7, r8⟩ := S0.out.rb.cells
  simp only [zr] at r0 r1 r2 r3 r4 r5 r6
  clear hw1
  go_wp2_with fail
  refine bodyPost_ret (v := .agg #[.int .i64 e.kind, .bool e.flag, .bool e.neg, .string e.dig, .int .i64 e.exp, .int .u64 e.bits, .string e.text, .slice none 0 0, .slice none 0 0]) (by simp [results, Tryd.results34, go_sem, *]) rfl ⟨e, none, 0, 0, none, 0, 0, k0 + 1, true, false, rfl, rb_9 (R0.out.set2 true) (by omega) _ _ _ _ _ _ _ _ _, fr_9 (FrR.set S0.out.fr) (by omega) (by omega) _ _ _ _ _ _ _ _ _, by omega, by have := hk'.out; omega, fun _ => hr'.out, fun q => (by cases q), fun q => (by cases q)⟩
def posOf (W : World) (i : Nat) : Nat := match W.cell? ⟨i, 1, none⟩ with | some x => (intOf x).toNat | none => 0
theorem RB.pos {k : Nat} {bad fin : Bool} (q : RB W i v k bad fin) : posOf W i = k := by
  unfold posOf
  rw [q.cells.2.1]
  simp [intOf]
theorem EB.frz {W : World} {i : Nat} {h : Hd} (q : EB W i h) (j : Nat) : W.frozen? ⟨i, j, none⟩ = false := by unfold EB at q; simp [World.frozen?, q]
theorem own_nl {W : World} {B : Nat} {v : Value} {l : List ByteArray} (ho : OwnS W B v l) : NL W v l := by
  have hr := World.ownsRow.lt ho
  have ho2 := ho
  obtain ⟨h0, h1⟩ := ho
  rcases h1 with ⟨rfl, e⟩ | ⟨g, cap, cur, rfl, k1, k2, k3, k4, k5, k6⟩
  · exact Or.inl ⟨rfl, List.eq_nil_of_length_eq_zero e⟩
  · refine Or.inr ⟨g, 0, cap, none, rfl, k3, k4, fun _ => ⟨rfl, (hr g rfl).2⟩, fun i hi => ?_⟩
    rw [Nat.zero_add, World.ownsRow.cellAt ho2 i (by simpa using hi)]
    simp [scs, hi]
theorem app_1s {w : World} {ops : Array Oper} {rest : List Oper} {o : Oper} {a : Act} {Q : Exit → Act → World → Prop} (hgd : o.guard = none) (s x : Operand) (ho : o.op = .call { callee := .builtin .append, args := #[s, x], argTypes := #[26, 26] })
    (B : Nat) (v : Value) (n : Nat) (xs : List Value) (hs : a.eval s = v) (hown : w.ownsRow B 9 1 v n xs) (g c : Nat) (hx : a.eval x = .slice (some ⟨g, 0, none⟩) 1 c) (t : ByteArray)
    (hnews : w.cell? ⟨g, 0, none⟩ = some (.string t)) (hm : n ≤ 200000) (hB : B ≤ w.heap.size)
    (h : ∀ av c' w', Hid (w'.ownsRow B 9 1 (.slice av (n + 1) c') (n + 1) (xs ++ [.string t])) → Hid (w.grownBy w' v.ownBlock) → Hid ((Value.slice av (n + 1) c').ownBlock = v.ownBlock ∨ (Value.slice av (n + 1) c').ownBlock = some w.heap.size) → wpList Tryd.prog ops Q rest (a.put o.dst (.slice av (n + 1) c')) w') : wpList Tryd.prog ops Q (o :: rest) a w := by
  obtain ⟨i0, hi, hz0, hz1, hz2⟩ := info_parts info9
  refine wpList_append_own_at w hgd s x 26 ho B 9 i0 _ 1 16 Tryd.underlying26 hi hz0 hz1 hz2 rfl (by decide) v n xs hs hown ⟨g, 0, none⟩ 1 c [.string t] hx rfl ?_ (by simp [Value.oneCell']) (by unfold maxLen; omega) (by omega) hB ?_
  · intro j u hj
    have h0 : j = 0 := by have := (List.getElem?_eq_some_iff.1 hj).1; simpa using this
    subst h0
    cases hj
    exact hnews
  · intro v' w' h1 h2 h3 h4
    rcases h1.2 with ⟨rfl, e⟩ | ⟨g', cap, cur, rfl, _⟩
    · omega
    · exact h _ _ w' h1 h2 h4
theorem may_range {h : Hd} (hm : mayB h = true) : 1 ≤ h.kind ∧ h.kind ≤ 11 := by
  by_cases h10 : h.kind = 10
  · omega
  · by_cases h11 : h.kind = 11
    · omega
    · obtain ⟨m1, m2, _⟩ := may_val ((mayB_iff h).1 hm) h10 h11
      omega
theorem kids_ge (n : Nat) (h : Hd) (l : List (VT n)) : ∀ j, j ≤ l.length → j ≤ (kids n h l j).length
  | 0, _ => Nat.zero_le _
  | j + 1, hj => by
    rw [kids_succ n h l j (by omega)]
    have h1 := kids_ge n h l j (by omega)
    have h2 := fl_pos n l[j]
    simp only [List.length_append]
    omega
theorem Lp.len {k : Nat} {l : List (VT n)} {nms : List ByteArray} (H : Lp es n k0 e s1 k l nms) : l.length ≤ es.length ∧ nms.length ≤ es.length := by
  have h1 := congrArg List.length H.ev
  have h2 := kids_ge n { e with names := nms } l l.length (Nat.le_refl _)
  have h3 := H.kle
  have h4 := H.k0k
  simp only [List.length_append, List.length_cons, List.length_take] at h1
  have h5 : l.length ≤ es.length := by omega
  refine ⟨h5, ?_⟩
  by_cases q : e.kind = 8
  · have := (H.nm8 q).1; omega
  · rw [H.nm0 q]; exact Nat.zero_le _
theorem blk_set {W : World} {i : Nat} {a : Array Value} {T : TypeId} (q : W.heap[i]? = some (.cells a T (0, 0))) (j : Nat) (u : Value) : (W.setCell ⟨i, j, none⟩ u).heap[i]? = some (.cells (a.setIfInBounds j u) T (0, 0)) := by
  rw [setCell_eq_setRow W i j _ _ (0, 0) _ q, setRow_heap W i _ _ _ (0, 0) q]
theorem eb_7 {W : World} {i : Nat} {h : Hd} (q : EB W i h) (h2 : Hd) : EB (((((((W.setCell ⟨i, 0, none⟩ (.int .i64 h2.kind)).setCell ⟨i, 1, none⟩ (.bool h2.flag)).setCell ⟨i, 2, none⟩ (.bool h2.neg)).setCell ⟨i, 3, none⟩ (.string h2.dig)).setCell ⟨i, 4, none⟩ (.int .i64 h2.exp)).setCell ⟨i, 5, none⟩ (.int .u64 h2.bits)).setCell ⟨i, 6, none⟩ (.string h2.text)) i h2 := by
  unfold EB at q ⊢
  have q0 := blk_set q 0 (.int .i64 h2.kind)
  have q1 := blk_set q0 1 (.bool h2.flag)
  have q2 := blk_set q1 2 (.bool h2.neg)
  have q3 := blk_set q2 3 (.string h2.dig)
  have q4 := blk_set q3 4 (.int .i64 h2.exp)
  have q5 := blk_set q4 5 (.int .u64 h2.bits)
  have q6 := blk_set q5 6 (.string h2.text)
  rw [q6]
  simp [evs]
theorem low_7 {W1 : World} {q m : Nat} (hm : q ≠ m) (u0 u1 u2 u3 u4 u5 u6 : Value) : (((((((W1.setCell ⟨m, 0, none⟩ u0).setCell ⟨m, 1, none⟩ u1).setCell ⟨m, 2, none⟩ u2).setCell ⟨m, 3, none⟩ u3).setCell ⟨m, 4, none⟩ u4).setCell ⟨m, 5, none⟩ u5).setCell ⟨m, 6, none⟩ u6).heap[q]? = W1.heap[q]? := by
  simp only [heap_set_ne hm]
end
end Go.Proofs.YthbfopdeaknbkaaDoor
/- calamusref05's one: its loop, walked. -/
namespace Go.Proofs.YthbfopdeaknbkaaDoor
open Go.RowKit
set_option linter.unusedSimpArgs false
set_option linter.unusedVariables false
section
variable {es : List Hd} {v : Value} {n k0 i : Nat} {e : Hd} {s1 : List Pa} {W : World}
set_option maxHeartbeats 8000000 in
set_option maxRecDepth 100000 in
theorem rone_loop (rm : RMay) (w0 : World) (hv : ES w0 v es) (hz : ∀ x ∈ es, EvZ x) (hl : es.length ≤ 50000) (ih : OneOk es v w0 n) (hk : k0 < es.length) (he : es[k0] = e) (hm : mayB e = true) (hR : RB W i v (k0 + 1) false false) (hi0 : w0.heap.size ≤ i) (hb0 : Below w0.heap.size w0 W) (lo : 7 ≤ e.kind) (hi9 : e.kind ≤ 9) (hr : runE (es.take (k0 + 1)) = some (newE e.kind ++ s1, true)) (hn : es.length - (k0 + 1) < n + 1) :
    Calls Tryd.prog 34 #[.pointer (some ⟨i, 0, none⟩), .agg (evs e)] W fun x W' => OneP es v (n + 1) k0 s1 i W x W' := by
  have hi := hR.lt
  have st := hide (fun (W1 : World) (k : Nat) (bad fin : Bool) (q : RB W1 i v k bad fin) => rstop_any q)
  have bw := hide (fun W1 (f : FrR i W W1) => hb0.trans (f.1.mono hi0))
  have nx0 := hide (fun W1 k (q : RB W1 i v k false false) (b : Below w0.heap.size w0 W1) (h1 : es.length ≤ k) (h2 : k ≤ es.length) => rnext_end es q (hv.below b) h1 (by omega))
  have nx1 := hide (fun W1 k (q : RB W1 i v k false false) (b : Below w0.heap.size w0 W1) (h1 : k < es.length) => rnext_any rm es q (hv.below b) h1 (by omega) (hz _ (List.getElem_mem h1)))
  have L0 := hide (Lp.start (n := n) hk he hm lo hi9 hr)
  have e7 : ¬ e.kind < 7 := by omega
  have e9 : ¬ 9 < e.kind := by omega
  have hR' := hide hR
  have ih' := hide ih
  have hi0' := hide hi0
  have hn' := hide hn
  have hl' := hide hl
  have hk0' := hide hk
  simp only [evs, zr] at nx0
  clear hR ih hi0 hb0 hr hm he hv hz hn rm hl hk
  show Calls _ _ #[_, .agg #[.int .i64 e.kind, .bool e.flag, .bool e.neg, .string e.dig, .int .i64 e.exp, .int .u64 e.bits, .string e.text]] _ _
  go_enter Tryd.func34, Tryd.ntmps34
  go_wp2_with (go_at_call 47; refine Stop.out ?_)
  refine Stop.mk ((st.out _ _ _ _ (hR'.out.same ((show Below W.heap.size W _ by repeat (first | exact Below.refl _ _ | refine below_al ?_)).block i hi))).mono ?_)
  rintro x w1 ⟨rfl, rfl⟩
  go_wp2_with fail
  go_loopw [] (fun W' => ∃ (k : Nat) (l : List (VT n)) (nms : List ByteArray) (nv lv : Value), Hid (Lp es n k0 e s1 k l nms ∧ Sw n e i W l nms nv lv W' ∧ RB W' i v k false false)) (fun W' => es.length - posOf W' i)
  case atStart =>
    refine ⟨k0 + 1, [], [], .slice none 0 0, .slice none 0 0, hide ⟨L0.out, ?_, hR'.out.same ((show Below W.heap.size W _ by repeat (first | exact Below.refl _ _ | refine below_al ?_)).block i hi)⟩⟩
    obtain ⟨g1, g2, g3⟩ := e_new W e _ (Below.refl _ _)
    exact ⟨LK.start g3, FrR.of (by repeat (first | exact Below.refl _ _ | refine below_al ?_)) (Nat.le_of_lt hi), g1, g2⟩
  case round =>
    obtain ⟨k, l, nms, nv, lv, HH⟩ := hrel
    obtain ⟨hLP, hSW, hRB⟩ := HH.out
    have LP := hide hLP
    have SS := hide hSW
    have RR := hide hRB
    obtain ⟨na, nc, hna⟩ := own_shape hSW.lk.nrow
    obtain ⟨xs, hx, hall⟩ := hSW.lk.row
    obtain ⟨la, lc, hla⟩ := own_shape hx
    subst hna hla
    have hkle := hLP.kle
    have hpos := hide hRB.pos
    have zz := hSW.z
    clear HH hLP hSW hRB hx hall L0 hR'
    by_cases hkl : k < es.length
    · obtain ⟨h, hh⟩ : ∃ h, es[k] = h := ⟨_, rfl⟩
      have nk := hide (nx1.out _ _ RR.out (bw.out _ SS.out.fr) hkl)
      rw [hh] at nk
      simp only [evs, Bool.false_or] at nk
      have hh' := hide hh
      clear hh
      obtain ⟨mb, hmb⟩ : ∃ mb, mayB h = mb := ⟨_, rfl⟩
      rw [hmb] at nk
      have hmb' := hide hmb
      clear hmb
      go_wp2_with (go_at_call 33; refine Stop.out ?_)
      refine Stop.mk (nk.out.mono ?_)
      rintro x w1 ⟨rfl, hR1, hF1⟩
      have S1 := hide (SS.out.step hi hF1)
      have R1 := hide hR1
      clear hR1 hF1 nk
      go_wp2_with (go_at_call 47; refine Stop.out ?_)
      have z1 := S1.out.z
      refine Stop.mk ((st.out _ _ _ _ (R1.out.same (Below.heap_alloc _ _ _ R1.out.lt))).mono ?_)
      rintro x w2 ⟨rfl, hw2⟩
      have S2 : Hid (Sw n e i W l nms (.slice na nms.length nc) (.slice la l.length lc) w2) := by rw [hw2]; exact S1.out.step hi (FrR.al FrR.refl (by omega))
      have R2 : Hid (RB w2 i v (k + 1) (!mb) false) := by rw [hw2]; exact R1.out.same (Below.heap_alloc _ _ _ R1.out.lt)
      have X2 : Hid (EB w2 w1.heap.size h) := by rw [hw2]; exact EB.new w1 h
      have F2 : Hid (FrR i w1 w2) := by rw [hw2]; exact FrR.al FrR.refl (by omega)
      have z2 : w1.heap.size < w2.heap.size := by rw [hw2]; simp
      clear hw2
      cases mb
      · obtain ⟨d0, d1, d2, d3, d4, d5, d6, d7, d8⟩ := S2.out.at.cells
        have fR := S2.out.rb.frz
        obtain ⟨r0, r1, r2, r3, r4, r5, r6, r7, r8⟩ := S2.out.rb.cells
        simp only [zr] at r0 r1 r2 r3 r4 r5 r6
        go_wp2_with fail
        refine bodyPost_ret (v := .agg #[.int .i64 e.kind, .bool e.flag, .bool e.neg, .string e.dig, .int .i64 e.exp, .int .u64 e.bits, .string e.text, .slice na nms.length nc, .slice la l.length lc]) (by simp [results, Tryd.results34, go_sem, *]) rfl ⟨e, na, nms.length, nc, la, l.length, lc, k + 1, true, false, rfl, rb_9 R2.out (by omega) _ _ _ _ _ _ _ _ _, fr_9 S2.out.fr (by omega) (by omega) _ _ _ _ _ _ _ _ _, by have := LP.out.k0k; omega, by omega, fun _ => run_bad hkl (by rw [hh'.out]; exact hmb'.out), fun q => (by cases q), fun q => (by cases q)⟩
      · have R3 : Hid (RB w2 i v (k + 1) false false) := R2.out
        have hkr := may_range hmb'.out
        have hlen := LP.out.len
        have z0 := S2.out.z
        obtain ⟨c0, c1, c2, c3, fz⟩ := R3.out.cells
        obtain ⟨b0, _, _, _, _, _, _⟩ := S2.out.eb.cells
        obtain ⟨x0, x1, x2, x3, x4, x5, x6⟩ := X2.out.cells
        obtain ⟨d0, d1, d2, d3, d4, d5, d6, d7, d8⟩ := S2.out.at.cells
        have fR := S2.out.rb.frz
        obtain ⟨r0, r1, r2, r3, r4, r5, r6, r7, r8⟩ := S2.out.rb.cells
        simp only [zr] at r0 r1 r2 r3 r4 r5 r6
        have n1 : i ≠ W.heap.size := by omega
        have n2 : i ≠ W.heap.size + 1 := by omega
        have n3 : i ≠ W.heap.size + 1 + 1 := by omega
        have m1 : W.heap.size ≠ i := by omega
        have m2 : W.heap.size + 1 ≠ i := by omega
        have m3 : W.heap.size + 1 + 1 ≠ i := by omega
        by_cases h11 : h.kind = 11
        · have x11 : decide (h.kind = 11) = true := decide_eq_true h11
          have x12 : (h.kind == 11) = true := by simpa using h11
          by_cases h9 : e.kind = 9
          · have q9 : decide (e.kind = 9) = true := decide_eq_true h9
            have q92 : (e.kind == 9) = true := by simpa using h9
            by_cases hl0 : l = []
            · have q0 : decide ((l.length : Int) = 0) = true := by subst hl0; rfl
              have q02 : ((l.length : Int) == 0) = true := by subst hl0; rfl
              have HB := hide (LP.out.endBad hkl (by rw [hh'.out]; exact h11) h9 hl0)
              have h11' := hide h11
              have h9' := hide h9
              have hl0' := hide hl0
              clear h11 h9 hl0 hkr
              go_wp2_with fail
              refine bodyPost_ret (v := .agg #[.int .i64 e.kind, .bool e.flag, .bool e.neg, .string e.dig, .int .i64 e.exp, .int .u64 e.bits, .string e.text, .slice na nms.length nc, .slice la l.length lc]) (by simp [results, Tryd.results34, go_sem, *]) rfl ⟨e, na, nms.length, nc, la, l.length, lc, k + 1, true, false, rfl, rb_9 (R3.out.set2 true) (by omega) _ _ _ _ _ _ _ _ _, fr_9 (FrR.set S2.out.fr) (by omega) (by omega) _ _ _ _ _ _ _ _ _, by have := LP.out.k0k; omega, by omega, fun _ => HB.out, fun q => (by cases q), fun q => (by cases q)⟩
            · have q0 : decide ((l.length : Int) = 0) = false := by have := List.length_pos_iff.2 hl0; exact decide_eq_false (by omega)
              have q02 : ((l.length : Int) == 0) = false := by have := List.length_pos_iff.2 hl0; simp; exact hl0
              have HE := hide (LP.out.endOk hkl (by rw [hh'.out]; exact hmb'.out) (by rw [hh'.out]; exact h11) (fun q => hl0 q.2))
              have h11' := hide h11
              have h9' := hide h9
              have hl0' := hide hl0
              clear h11 h9 hl0 hkr
              go_wp2_with fail
              refine bodyPost_ret (v := .agg #[.int .i64 e.kind, .bool e.flag, .bool e.neg, .string e.dig, .int .i64 e.exp, .int .u64 e.bits, .string e.text, .slice na nms.length nc, .slice la l.length lc]) (by simp [results, Tryd.results34, go_sem, *]) rfl ⟨{ e with names := nms }, na, nms.length, nc, la, l.length, lc, k + 1, false, false, rfl, rb_9 (R3.out.set2 false) (by omega) _ _ _ _ _ _ _ _ _, fr_9 (FrR.set S2.out.fr) (by omega) (by omega) _ _ _ _ _ _ _ _ _, by have := LP.out.k0k; omega, by omega, fun q => (by cases q), fun _ q => (by cases q), fun _ _ => ⟨HE.out.1, ({ e with names := nms }, l), HE.out.2.1, HE.out.2.2, rfl, S2.out.lk.done (by omega) (by simp) (fun q q1 q2 => by rw [low_9 (by omega), heap_set_ne (by omega)])⟩⟩
          · have q9 : decide (e.kind = 9) = false := decide_eq_false h9
            have q92 : (e.kind == 9) = false := by simpa using h9
            have HE := hide (LP.out.endOk hkl (by rw [hh'.out]; exact hmb'.out) (by rw [hh'.out]; exact h11) (fun q => h9 q.1))
            have h11' := hide h11
            have h9' := hide h9
            clear h11 h9 hkr
            go_wp2_with fail
            refine bodyPost_ret (v := .agg #[.int .i64 e.kind, .bool e.flag, .bool e.neg, .string e.dig, .int .i64 e.exp, .int .u64 e.bits, .string e.text, .slice na nms.length nc, .slice la l.length lc]) (by simp [results, Tryd.results34, go_sem, *]) rfl ⟨{ e with names := nms }, na, nms.length, nc, la, l.length, lc, k + 1, false, false, rfl, rb_9 (R3.out.set2 false) (by omega) _ _ _ _ _ _ _ _ _, fr_9 (FrR.set S2.out.fr) (by omega) (by omega) _ _ _ _ _ _ _ _ _, by have := LP.out.k0k; omega, by omega, fun q => (by cases q), fun _ q => (by cases q), fun _ _ => ⟨HE.out.1, ({ e with names := nms }, l), HE.out.2.1, HE.out.2.2, rfl, S2.out.lk.done (by omega) (by simp) (fun q q1 q2 => by rw [low_9 (by omega), heap_set_ne (by omega)])⟩⟩
        · have x11 : decide (h.kind = 11) = false := decide_eq_false h11
          have x12 : (h.kind == 11) = false := by simpa using h11
          by_cases h9l : e.kind = 9 ∧ l.length = 1
          · obtain ⟨h9, hl1⟩ := h9l
            have q9 : decide (e.kind = 9) = true := decide_eq_true h9
            have q92 : (e.kind == 9) = true := by simpa using h9
            have q0 : decide ((l.length : Int) = 1) = true := decide_eq_true (by omega)
            have q02 : ((l.length : Int) == 1) = true := by simp; omega
            have HB := hide (LP.out.tagBad hkl (by rw [hh'.out]; exact h11) h9 hl1)
            have h11' := hide h11
            have h9' := hide h9
            have hl1' := hide hl1
            clear h11 h9 hl1 hkr
            go_wp2_with fail
            refine bodyPost_ret (v := .agg #[.int .i64 e.kind, .bool e.flag, .bool e.neg, .string e.dig, .int .i64 e.exp, .int .u64 e.bits, .string e.text, .slice na nms.length nc, .slice la l.length lc]) (by simp [results, Tryd.results34, go_sem, *]) rfl ⟨e, na, nms.length, nc, la, l.length, lc, k + 1, true, false, rfl, rb_9 (R3.out.set2 true) (by omega) _ _ _ _ _ _ _ _ _, fr_9 (FrR.set S2.out.fr) (by omega) (by omega) _ _ _ _ _ _ _ _ _, by have := LP.out.k0k; omega, by omega, fun _ => HB.out, fun q => (by cases q), fun q => (by cases q)⟩
          · have h9z : Hid (e.kind = 9 → l = []) := fun q => by
              have h1 := LP.out.tag q
              have h2 : l.length ≠ 1 := fun r => h9l ⟨q, r⟩
              exact List.eq_nil_of_length_eq_zero (by omega)
            by_cases h8 : e.kind = 8
            · have q8 : decide (e.kind = 8) = true := decide_eq_true h8
              have q82 : (e.kind == 8) = true := by simpa using h8
              have q9 : decide (e.kind = 9) = false := decide_eq_false (by omega)
              have q92 : (e.kind == 9) = false := by simp; omega
              have h8' := hide h8
              have h11' := hide h11
              clear h9l
              by_cases h10 : h.kind = 10
              · have x10 : decide (h.kind = 10) = true := decide_eq_true h10
                have x102 : (h.kind == 10) = true := by simpa using h10
                have x103 : (h.kind != 10) = false := by simpa using h10
                have h10' := hide h10
                have rin := hide (rin_any (.slice na nms.length nc) nms h.text w2 (own_nl S2.out.lk.nrow) (by have := hl'.out; omega))
                clear h8 h11 h10 hkr
                obtain ⟨ib, hib⟩ : ∃ ib, inN nms h.text = ib := ⟨_, rfl⟩
                rw [hib] at rin
                have hib' := hide hib
                clear hib
                go_wp2_with (go_at_call 48; refine Stop.out ?_)
                refine Stop.mk (rin.out.mono ?_)
                rintro x w2' ⟨rfl, hw2'⟩
                subst w2'
                cases ib
                · have PN := hide (LP.out.pre8 hkl (by rw [hh'.out]; exact hmb'.out) h8'.out (by rw [hh'.out]; exact h10'.out))
                  have RN := hide (LP.out.name hkl (by rw [hh'.out]; exact hmb'.out) h8'.out (by rw [hh'.out]; exact h10'.out) (by rw [hh'.out]; exact hib'.out))
                  rw [hh'.out] at PN RN
                  go_wp2_with (at_builtin; refine Stop.out ?_)
                  refine Stop.mk ?_
                  obtain ⟨w4, hw4⟩ : ∃ w4, w4 = w2.alloc (.cells #[.string h.text] 9) := ⟨_, rfl⟩
                  have z4 : w2.heap.size < w4.heap.size := by rw [hw4]; simp
                  have F24 : Hid (FrR i w2 w4) := by rw [hw4]; exact FrR.al FrR.refl (by omega)
                  have F4 : Hid (FrR i w1 w4) := F2.out.trans F24.out
                  have S4 := hide (S2.out.step hi F24.out)
                  have C4 : w4.cell? ⟨w2.heap.size, 0, none⟩ = some (.string h.text) := by rw [hw4]; exact one_cell (w := w2) (Below.refl _ _) 0
                  have X4 : Hid (EB w4 w1.heap.size h) := X2.out.same (F24.out.2 _ (by omega) (by omega))
                  have R4 : Hid (RB w4 i v (k + 1) false false) := R3.out.same (by rw [hw4, Below.heap_alloc _ _ _ (by omega)])
                  rw [← hw4]
                  clear hw4
                  refine app_1s rfl (.tmp 89) (.tmp 92) rfl (W.heap.size + 1 + 1 + 1) (.slice na nms.length nc) nms.length (scs nms) rfl S4.out.lk.nrow w2.heap.size 1 rfl h.text C4 (by have := hl'.out; omega) (by omega) ?_
                  intro av5 c5 w5 ho5 hg5 hat5
                  have hnl1 := S1.out.lk.nlt
                  have B5 := hide (S4.out.lk.grow_box hg5.out (Or.inl rfl))
                  obtain ⟨j0, j1, j2, j3, j4, j5, j6, j7, j8⟩ := B5.out.cells
                  have fJ := B5.out.frz
                  have z5 := hg5.out.size
                  have R5 : Hid (RB (w5.setCell ⟨W.heap.size + 1 + 1, 7, none⟩ (.slice av5 (nms.length + 1) c5)) i v (k + 1) false false) := R4.out.same (by rw [heap_set_ne (by omega), hg5.out.block i (by omega) (fun q => by have := (hnl1 i q.symm).1; omega)])
                  have X5 : Hid (EB (w5.setCell ⟨W.heap.size + 1 + 1, 7, none⟩ (.slice av5 (nms.length + 1) c5)) w1.heap.size h) := X4.out.same (by rw [heap_set_ne (by omega), hg5.out.block _ (by omega) (fun q => by have := (hnl1 _ q.symm).2; omega)])
                  have S5 : Hid (Sw n e i W l (nms ++ [h.text]) (.slice av5 (nms.length + 1) c5) (.slice la l.length lc) (w5.setCell ⟨W.heap.size + 1 + 1, 7, none⟩ (.slice av5 (nms.length + 1) c5))) := S1.out.name hi F4.out (by omega) hg5.out ho5.out hat5.out (by simp) (fun q _ _ _ => rfl) (Below.refl _ _)
                  clear c0 c1 c2 c3 fz b0 x0 x1 x2 x3 x4 x5 x6 d0 d1 d2 d3 d4 d5 d6 d7 d8 fR r0 r1 r2 r3 r4 r5 r6 r7 r8 C4
                  by_cases hk1 : k + 1 < es.length
                  · obtain ⟨h2, hh2⟩ : ∃ h2, es[k + 1] = h2 := ⟨_, rfl⟩
                    have nk := hide (nx1.out _ _ R5.out (bw.out _ S5.out.fr) hk1)
                    rw [hh2] at nk
                    simp only [evs, Bool.false_or] at nk
                    have hh2' := hide hh2
                    clear hh2
                    obtain ⟨mb2, hmb2⟩ : ∃ mb2, mayB h2 = mb2 := ⟨_, rfl⟩
                    rw [hmb2] at nk
                    have hmb2' := hide hmb2
                    clear hmb2
                    go_wp2_with (go_at_call 33; refine Stop.out ?_)
                    refine Stop.mk (nk.out.mono ?_)
                    rintro x w6 ⟨rfl, hR6, hf6⟩
                    have hF6 := hide hf6
                    have R6 := hide hR6
                    have X6 : Hid (EB w6 w1.heap.size h) := X5.out.same (hf6.2 _ (by simp; omega) (by omega))
                    obtain ⟨x0, x1, x2, x3, x4, x5, x6⟩ := X6.out.cells
                    have fX := X6.out.frz
                    clear hR6 hf6 nk j0 j1 j2 j3 j4 j5 j6 j7 j8 fJ
                    go_wp2_with (go_at_call 47; refine Stop.out ?_)
                    refine Stop.mk ((st.out _ _ _ _ (R6.out.same (low_7 (by omega) _ _ _ _ _ _ _))).mono ?_)
                    rintro x w7 ⟨rfl, hw7⟩
                    have R7 : Hid (RB w7 i v (k + 1 + 1) (!mb2) false) := by rw [hw7]; exact R6.out.same (low_7 (by omega) _ _ _ _ _ _ _)
                    have S7 : Hid (Sw n e i W l (nms ++ [h.text]) (.slice av5 (nms.length + 1) c5) (.slice la l.length lc) w7) := by
                      refine S1.out.name hi F4.out (by omega) hg5.out ho5.out hat5.out ?_ ?_ ?_
                      · rw [hw7]; simp; have := hF6.out.size; simp at this; omega
                      · intro q r1 r2 r3
                        rw [hw7, low_7 r2]
                        exact hF6.out.2 q (by simpa using r1) r3
                      · rw [hw7]
                        iterate 7 refine Below.setCell ?_ (by show i ≤ w1.heap.size; omega) _
                        exact hF6.out.1
                    have X7 : Hid (EB w7 w1.heap.size h2) := by rw [hw7]; exact eb_7 X6.out h2
                    have z7 : w1.heap.size + 1 < w7.heap.size := by rw [hw7]; simp; have := hF6.out.size; simp at this; omega
                    clear hw7 x0 x1 x2 x3 x4 x5 x6 fX
                    cases mb2
                    · obtain ⟨d0, d1, d2, d3, d4, d5, d6, d7, d8⟩ := S7.out.at.cells
                      have fR := S7.out.rb.frz
                      obtain ⟨r0, r1, r2, r3, r4, r5, r6, r7, r8⟩ := S7.out.rb.cells
                      simp only [zr] at r0 r1 r2 r3 r4 r5 r6
                      go_wp2_with fail
                      refine bodyPost_ret (v := .agg #[.int .i64 e.kind, .bool e.flag, .bool e.neg, .string e.dig, .int .i64 e.exp, .int .u64 e.bits, .string e.text, .slice av5 (nms.length + 1) c5, .slice la l.length lc]) (by simp [results, Tryd.results34, go_sem, *]) rfl ⟨e, av5, (nms.length + 1), c5, la, l.length, lc, k + 1 + 1, true, false, rfl, rb_9 R7.out (by omega) _ _ _ _ _ _ _ _ _, fr_9 S7.out.fr (by omega) (by omega) _ _ _ _ _ _ _ _ _, by have := LP.out.k0k; omega, by omega, fun _ => run_bad hk1 (by rw [hh2'.out]; exact hmb2'.out), fun q => (by cases q), fun q => (by cases q)⟩
                    · have R7' : Hid (RB w7 i v (k + 1 + 1) false false) := R7.out
                      have hkr := may_range hmb2'.out
                      have HP := hide hk1
                      have EH : Hid (es[k + 1] = h2) := hh2'.out
                      have MH : Hid (mayB h2 = true) := hmb2'.out
                      have PRE : Hid ((10 ≤ h2.kind ∧ runE es = none) ∨ (h2.kind ≤ 9 ∧ runE (es.take (k + 1 + 1)) = some (newE h2.kind ++ ((e.kind, false, nms ++ [h.text]) :: s1), true))) := by
                        by_cases h10 : h2.kind = 10 ∨ h2.kind = 11
                        · exact Or.inl ⟨by omega, name_bad RN.out hk1 (by rw [hh2'.out]; exact h10)⟩
                        · refine Or.inr ⟨by omega, ?_⟩
                          have := name_val RN.out hk1 (by rw [hh2'.out]; exact hmb2'.out) (by rw [hh2'.out]; exact fun q => h10 (Or.inl q)) (by rw [hh2'.out]; exact fun q => h10 (Or.inr q))
                          rw [hh2'.out] at this
                          rw [h8'.out]
                          exact this
                      clear hkr
                      have zX := S7.out.z
                      have cal := hide (ih'.out (k + 1) h2 ((e.kind, false, (nms ++ [h.text])) :: s1) i w7 HP.out EH.out MH.out R7'.out hi0'.out (bw.out _ S7.out.fr) PRE.out (by have h1 := hn'.out; have h2 := LP.out.k0k; omega))
                      simp only [evs] at cal
                      obtain ⟨y0, y1, y2, y3, y4, y5, y6⟩ := X7.out.cells
                      go_wp2_with (go_at_call 34; refine Stop.out ?_)
                      refine Stop.mk (cal.out.mono ?_)
                      rintro x w8 ⟨hc, a1, m1', d1', a2, m2', d2', k', bad, fin, rfl, hR8, hF8, p1, p2, q1, q2, q3⟩
                      have S8 := hide (S7.out.step hi hF8)
                      have R8 := hide hR8
                      have F8 := hide hF8
                      have Q1 := hide q1
                      have Q2 := hide q2
                      have Q3 := hide q3
                      clear hR8 hF8 q1 q2 q3 cal y0 y1 y2 y3 y4 y5 y6
                      simp only [vals]
                      obtain ⟨v0, v1, v2, v3, v4, v5, v6, v7, v8⟩ := S8.out.at.cells
                      have z8 := S8.out.z
                      go_wp2_with (at_builtin; refine Stop.out ?_)
                      refine Stop.mk ?_
                      obtain ⟨w9, hw9⟩ : ∃ w9, w9 = (w8.alloc (.cells (vals hc (.slice a1 m1' d1') (.slice a2 m2' d2')) 29)).alloc (.cells (vals hc (.slice a1 m1' d1') (.slice a2 m2' d2')) 29) := ⟨_, rfl⟩
                      have z9 : w8.heap.size + 1 < w9.heap.size := by rw [hw9]; simp
                      have F9 : Hid (FrR i w8 w9) := by rw [hw9]; exact FrR.al (FrR.al FrR.refl (by omega)) (by simp; omega)
                      have S9 := hide (S8.out.step hi F9.out)
                      have R9 : Hid (RB w9 i v k' bad fin) := R8.out.same (by rw [hw9, Below.heap_alloc _ _ _ (by simp; omega), Below.heap_alloc _ _ _ (by omega)])
                      have rg : Hid (w9.rangeAt (w8.heap.size + 1) 0 (vals hc (.slice a1 m1' d1') (.slice a2 m2' d2')).toList) := by rw [hw9]; exact range_new_at _ _ _ _ _ (by simp)
                      obtain ⟨xs9, hx9, hall9⟩ := S9.out.lk.row
                      have HX := hide hx9
                      have HA := hide hall9
                      clear hx9 hall9
                      have hw9' := hide hw9
                      simp only [vals] at hw9
                      rw [← hw9]
                      clear hw9
                      refine app_v rfl (.tmp 104) (.tmp 106) rfl (W.heap.size + 1 + 1 + 1) (.slice la l.length lc) l.length xs9 rfl HX.out (w8.heap.size + 1) 1 rfl hc (.slice a1 m1' d1') (.slice a2 m2' d2') rfl rfl rg.out (by have := hl'.out; omega) (by omega) ?_
                      intro av6 c6 w10 ho10 hg10 hat10
                      have J := hide (S9.out.junk (lv' := .slice av6 (l.length + 1) c6) hi hg10.out)
                      obtain ⟨j0, j1, j2, j3, j4, j5, j6, j7, j8⟩ := J.out.1.cells
                      have fJ := J.out.1.frz
                      have z10 := hg10.out.size
                      have hown9 := S9.out.lk.llt
                      have R11 : Hid (RB (w10.setCell ⟨W.heap.size + 1 + 1, 8, none⟩ (.slice av6 (l.length + 1) c6)) i v k' bad fin) := R9.out.same (by rw [heap_set_ne (by omega), hg10.out.block i (by omega) (fun q => by have := (hown9 i q.symm).1; omega)])
                      have P11 : Hid (bad = false → fin = false → ∃ t : VT n, Lp es n k0 e s1 k' (l ++ [t]) (nms ++ [h.text]) ∧ Sw n e i W (l ++ [t]) (nms ++ [h.text]) (.slice av5 (nms.length + 1) c5) (.slice av6 (l.length + 1) c6) (w10.setCell ⟨W.heap.size + 1 + 1, 8, none⟩ (.slice av6 (l.length + 1) c6))) := fun b1 b2 => by
                        obtain ⟨g1, t, g2, g3, g4, g5⟩ := Q3.out b1 b2
                        subst g4
                        refine ⟨t, LP.out.child (fun _ => ⟨h.text, rfl, PN.out.2, hib'.out⟩) (fun q => absurd h8'.out q) h9z.out PN.out.1 g2 g3 g1 (by omega) p2, S9.out.push hi HX.out HA.out (g5.move (by omega) (fun q r1 r2 => by rw [hw9'.out, Below.heap_alloc _ _ _ (by simp; omega), Below.heap_alloc _ _ _ (by omega)])) (by omega) (fun g eg => (S7.out.lk.llt g eg).2) (fun g eg => (S7.out.lk.nlt g eg).2) hg10.out ho10.out hat10.out⟩
                      clear hown9 v0 v1 v2 v3 v4 v5 v6 v7 v8
                      go_wp2_with (go_at_call 47; refine Stop.out ?_)
                      refine Stop.mk ((st.out _ _ _ _ R11.out).mono ?_)
                      rintro x w11 ⟨rfl, hw11⟩
                      rw [← hw11] at J R11 P11
                      clear hw11 j0 j1 j2 j3 j4 j5 j6 j7 j8 fJ ho10 hg10 hat10 HX HA
                      have z11 := J.out.2.1.lt
                      by_cases hbf : bad = false ∧ fin = false
                      · obtain ⟨rfl, rfl⟩ := hbf
                        obtain ⟨t, g1, g2⟩ := P11.out rfl rfl
                        have G1 := hide g1
                        have G2 := hide g2
                        clear g1 g2 P11
                        go_wp2_with fail
                        refine ⟨⟨k', l ++ [t], (nms ++ [h.text]), (.slice av5 (nms.length + 1) c5), .slice av6 (l.length + 1) c6, hide ⟨G1.out, G2.out, R11.out⟩⟩, ?_⟩
                        rw [R11.out.pos, hpos.out]
                        omega
                      · have hor : (bad || fin) = true := by cases bad <;> cases fin <;> simp at hbf ⊢
                        rw [hor]
                        obtain ⟨d0, d1, d2, d3, d4, d5, d6, d7, d8⟩ := J.out.2.1.cells
                        have fR := J.out.2.2.2.frz
                        obtain ⟨r0, r1, r2, r3, r4, r5, r6, r7, r8⟩ := J.out.2.2.2.cells
                        simp only [zr] at r0 r1 r2 r3 r4 r5 r6
                        have hbf' := hide hbf
                        clear hbf hor
                        go_wp2_with fail
                        refine bodyPost_ret (v := .agg #[.int .i64 e.kind, .bool e.flag, .bool e.neg, .string e.dig, .int .i64 e.exp, .int .u64 e.bits, .string e.text, (.slice av5 (nms.length + 1) c5), .slice av6 (l.length + 1) c6]) (by simp [results, Tryd.results34, go_sem, *]) rfl ⟨e, _, _, _, _, _, _, k', bad, fin, rfl, rb_9 R11.out (by omega) _ _ _ _ _ _ _ _ _, fr_9 J.out.2.2.1 (by omega) (by omega) _ _ _ _ _ _ _ _ _, by have := LP.out.k0k; omega, p2, Q1.out, Q2.out, fun b1 b2 => absurd ⟨b1, b2⟩ hbf'.out⟩
                  · go_wp2_with (go_at_call 33; refine Stop.out ?_)
                    refine Stop.mk ((nx0.out _ _ R5.out (bw.out _ S5.out.fr) (by omega) (by omega)).mono ?_)
                    rintro x w6 ⟨rfl, hR6, hf6⟩
                    have hF6 := hide hf6
                    have R6 := hide hR6
                    have X6 : Hid (EB w6 w1.heap.size h) := X5.out.same (hf6.2 _ (by simp; omega) (by omega))
                    obtain ⟨x0, x1, x2, x3, x4, x5, x6⟩ := X6.out.cells
                    have fX := X6.out.frz
                    clear hR6 hf6 j0 j1 j2 j3 j4 j5 j6 j7 j8 fJ
                    go_wp2_with (go_at_call 47; refine Stop.out ?_)
                    refine Stop.mk ((st.out _ _ _ _ (R6.out.same (low_7 (by omega) _ _ _ _ _ _ _))).mono ?_)
                    rintro x w7 ⟨rfl, hw7⟩
                    have R7 : Hid (RB w7 i v (k + 1) false true) := by rw [hw7]; exact R6.out.same (low_7 (by omega) _ _ _ _ _ _ _)
                    have S7 : Hid (Sw n e i W l (nms ++ [h.text]) (.slice av5 (nms.length + 1) c5) (.slice la l.length lc) w7) := by
                      refine S1.out.name hi F4.out (by omega) hg5.out ho5.out hat5.out ?_ ?_ ?_
                      · rw [hw7]; simp; have := hF6.out.size; simp at this; omega
                      · intro q r1 r2 r3
                        rw [hw7, low_7 r2]
                        exact hF6.out.2 q (by simpa using r1) r3
                      · rw [hw7]
                        iterate 7 refine Below.setCell ?_ (by show i ≤ w1.heap.size; omega) _
                        exact hF6.out.1
                    clear hw7 x0 x1 x2 x3 x4 x5 x6 fX
                    obtain ⟨d0, d1, d2, d3, d4, d5, d6, d7, d8⟩ := S7.out.at.cells
                    have fR := S7.out.rb.frz
                    obtain ⟨r0, r1, r2, r3, r4, r5, r6, r7, r8⟩ := S7.out.rb.cells
                    simp only [zr] at r0 r1 r2 r3 r4 r5 r6
                    go_wp2_with fail
                    refine bodyPost_ret (v := .agg #[.int .i64 e.kind, .bool e.flag, .bool e.neg, .string e.dig, .int .i64 e.exp, .int .u64 e.bits, .string e.text, .slice av5 (nms.length + 1) c5, .slice la l.length lc]) (by simp [results, Tryd.results34, go_sem, *]) rfl ⟨e, av5, (nms.length + 1), c5, la, l.length, lc, k + 1, false, true, rfl, rb_9 R7.out (by omega) _ _ _ _ _ _ _ _ _, fr_9 S7.out.fr (by omega) (by omega) _ _ _ _ _ _ _ _ _, by have := LP.out.k0k; omega, by omega, fun q => (by cases q), fun _ _ => ⟨_, by have := RN.out; rw [List.take_of_length_le (by omega)] at this; exact this, by simp⟩, fun _ q => (by cases q)⟩
                · have HB := hide (LP.out.recBad hkl (by rw [hh'.out]; exact h11'.out) h8'.out (Or.inr (by rw [hh'.out]; exact hib'.out)))
                  go_wp2_with fail
                  refine bodyPost_ret (v := .agg #[.int .i64 e.kind, .bool e.flag, .bool e.neg, .string e.dig, .int .i64 e.exp, .int .u64 e.bits, .string e.text, .slice na nms.length nc, .slice la l.length lc]) (by simp [results, Tryd.results34, go_sem, *]) rfl ⟨e, na, nms.length, nc, la, l.length, lc, k + 1, true, false, rfl, rb_9 (R3.out.set2 true) (by omega) _ _ _ _ _ _ _ _ _, fr_9 (FrR.set S2.out.fr) (by omega) (by omega) _ _ _ _ _ _ _ _ _, by have := LP.out.k0k; omega, by omega, fun _ => HB.out, fun q => (by cases q), fun q => (by cases q)⟩
              · have x10 : decide (h.kind = 10) = false := decide_eq_false h10
                have x102 : (h.kind == 10) = false := by simpa using h10
                have x103 : (h.kind != 10) = true := by simpa using h10
                have HB := hide (LP.out.recBad hkl (by rw [hh'.out]; exact h11) h8 (Or.inl (by rw [hh'.out]; exact h10)))
                have h10' := hide h10
                clear h8 h11 h10 hkr
                go_wp2_with fail
                refine bodyPost_ret (v := .agg #[.int .i64 e.kind, .bool e.flag, .bool e.neg, .string e.dig, .int .i64 e.exp, .int .u64 e.bits, .string e.text, .slice na nms.length nc, .slice la l.length lc]) (by simp [results, Tryd.results34, go_sem, *]) rfl ⟨e, na, nms.length, nc, la, l.length, lc, k + 1, true, false, rfl, rb_9 (R3.out.set2 true) (by omega) _ _ _ _ _ _ _ _ _, fr_9 (FrR.set S2.out.fr) (by omega) (by omega) _ _ _ _ _ _ _ _ _, by have := LP.out.k0k; omega, by omega, fun _ => HB.out, fun q => (by cases q), fun q => (by cases q)⟩
            · have q8 : decide (e.kind = 8) = false := decide_eq_false h8
              have q82 : (e.kind == 8) = false := by simpa using h8
              have h8' := hide h8
              have h11' := hide h11
              have h9l' := hide h9l
              have HP := hide hkl
              have EH : Hid (es[k] = h) := hh'.out
              have MH : Hid (mayB h = true) := hmb'.out
              have PRE : Hid ((10 ≤ h.kind ∧ runE es = none) ∨ (h.kind ≤ 9 ∧ runE (es.take (k + 1)) = some (newE h.kind ++ ((e.kind, false, nms) :: s1), true))) := by
                by_cases h10 : h.kind = 10
                · exact Or.inl ⟨by omega, LP.out.valBad hkl h8 (by rw [hh'.out]; exact h10)⟩
                · refine Or.inr ⟨by omega, ?_⟩
                  have := LP.out.val hkl (by rw [hh'.out]; exact hmb'.out) h8 h9z.out (by rw [hh'.out]; exact h10) (by rw [hh'.out]; exact h11)
                  rw [hh'.out] at this
                  exact this
              clear h8 h11
              by_cases h9 : e.kind = 9
              · have q9 : decide (e.kind = 9) = true := decide_eq_true h9
                have q92 : (e.kind == 9) = true := by simpa using h9
                have q0 : decide ((l.length : Int) = 1) = false := decide_eq_false (fun q => h9l ⟨h9, by omega⟩)
                have q02 : ((l.length : Int) == 1) = false := by simp; exact fun q => h9l ⟨h9, by omega⟩
                have h9' := hide h9
                clear h9 h9l hkr
                go_wp2_with (go_at_call 47; refine Stop.out ?_)
                refine Stop.mk ((st.out _ _ _ _ R3.out).mono ?_)
                rintro x w2' ⟨rfl, hw2'⟩
                subst w2'
                have zX := S2.out.z
                have cal := hide (ih'.out k h ((e.kind, false, nms) :: s1) i w2 HP.out EH.out MH.out R3.out hi0'.out (bw.out _ S2.out.fr) PRE.out (by have h1 := hn'.out; have h2 := LP.out.k0k; omega))
                simp only [evs] at cal
                obtain ⟨y0, y1, y2, y3, y4, y5, y6⟩ := X2.out.cells
                go_wp2_with (go_at_call 34; refine Stop.out ?_)
                refine Stop.mk (cal.out.mono ?_)
                rintro x w8 ⟨hc, a1, m1', d1', a2, m2', d2', k', bad, fin, rfl, hR8, hF8, p1, p2, q1, q2, q3⟩
                have S8 := hide (S2.out.step hi hF8)
                have R8 := hide hR8
                have F8 := hide hF8
                have Q1 := hide q1
                have Q2 := hide q2
                have Q3 := hide q3
                clear hR8 hF8 q1 q2 q3 cal y0 y1 y2 y3 y4 y5 y6
                simp only [vals]
                obtain ⟨v0, v1, v2, v3, v4, v5, v6, v7, v8⟩ := S8.out.at.cells
                have z8 := S8.out.z
                go_wp2_with (at_builtin; refine Stop.out ?_)
                refine Stop.mk ?_
                obtain ⟨w9, hw9⟩ : ∃ w9, w9 = (w8.alloc (.cells (vals hc (.slice a1 m1' d1') (.slice a2 m2' d2')) 29)).alloc (.cells (vals hc (.slice a1 m1' d1') (.slice a2 m2' d2')) 29) := ⟨_, rfl⟩
                have z9 : w8.heap.size + 1 < w9.heap.size := by rw [hw9]; simp
                have F9 : Hid (FrR i w8 w9) := by rw [hw9]; exact FrR.al (FrR.al FrR.refl (by omega)) (by simp; omega)
                have S9 := hide (S8.out.step hi F9.out)
                have R9 : Hid (RB w9 i v k' bad fin) := R8.out.same (by rw [hw9, Below.heap_alloc _ _ _ (by simp; omega), Below.heap_alloc _ _ _ (by omega)])
                have rg : Hid (w9.rangeAt (w8.heap.size + 1) 0 (vals hc (.slice a1 m1' d1') (.slice a2 m2' d2')).toList) := by rw [hw9]; exact range_new_at _ _ _ _ _ (by simp)
                obtain ⟨xs9, hx9, hall9⟩ := S9.out.lk.row
                have HX := hide hx9
                have HA := hide hall9
                clear hx9 hall9
                have hw9' := hide hw9
                simp only [vals] at hw9
                rw [← hw9]
                clear hw9
                refine app_v rfl (.tmp 104) (.tmp 106) rfl (W.heap.size + 1 + 1 + 1) (.slice la l.length lc) l.length xs9 rfl HX.out (w8.heap.size + 1) 1 rfl hc (.slice a1 m1' d1') (.slice a2 m2' d2') rfl rfl rg.out (by have := hl'.out; omega) (by omega) ?_
                intro av6 c6 w10 ho10 hg10 hat10
                have J := hide (S9.out.junk (lv' := .slice av6 (l.length + 1) c6) hi hg10.out)
                obtain ⟨j0, j1, j2, j3, j4, j5, j6, j7, j8⟩ := J.out.1.cells
                have fJ := J.out.1.frz
                have z10 := hg10.out.size
                have hown9 := S9.out.lk.llt
                have R11 : Hid (RB (w10.setCell ⟨W.heap.size + 1 + 1, 8, none⟩ (.slice av6 (l.length + 1) c6)) i v k' bad fin) := R9.out.same (by rw [heap_set_ne (by omega), hg10.out.block i (by omega) (fun q => by have := (hown9 i q.symm).1; omega)])
                have P11 : Hid (bad = false → fin = false → ∃ t : VT n, Lp es n k0 e s1 k' (l ++ [t]) nms ∧ Sw n e i W (l ++ [t]) nms (.slice na nms.length nc) (.slice av6 (l.length + 1) c6) (w10.setCell ⟨W.heap.size + 1 + 1, 8, none⟩ (.slice av6 (l.length + 1) c6))) := fun b1 b2 => by
                  obtain ⟨g1, t, g2, g3, g4, g5⟩ := Q3.out b1 b2
                  subst g4
                  refine ⟨t, LP.out.child (fun q => absurd q h8'.out) (fun _ => rfl) h9z.out (LP.out.pre7 h8'.out) g2 g3 g1 (by omega) p2, S9.out.push hi HX.out HA.out (g5.move (by omega) (fun q r1 r2 => by rw [hw9'.out, Below.heap_alloc _ _ _ (by simp; omega), Below.heap_alloc _ _ _ (by omega)])) (by omega) (fun g eg => (S2.out.lk.llt g eg).2) (fun g eg => (S2.out.lk.nlt g eg).2) hg10.out ho10.out hat10.out⟩
                clear hown9 v0 v1 v2 v3 v4 v5 v6 v7 v8
                go_wp2_with (go_at_call 47; refine Stop.out ?_)
                refine Stop.mk ((st.out _ _ _ _ R11.out).mono ?_)
                rintro x w11 ⟨rfl, hw11⟩
                rw [← hw11] at J R11 P11
                clear hw11 j0 j1 j2 j3 j4 j5 j6 j7 j8 fJ ho10 hg10 hat10 HX HA
                have z11 := J.out.2.1.lt
                by_cases hbf : bad = false ∧ fin = false
                · obtain ⟨rfl, rfl⟩ := hbf
                  obtain ⟨t, g1, g2⟩ := P11.out rfl rfl
                  have G1 := hide g1
                  have G2 := hide g2
                  clear g1 g2 P11
                  go_wp2_with fail
                  refine ⟨⟨k', l ++ [t], nms, (.slice na nms.length nc), .slice av6 (l.length + 1) c6, hide ⟨G1.out, G2.out, R11.out⟩⟩, ?_⟩
                  rw [R11.out.pos, hpos.out]
                  omega
                · have hor : (bad || fin) = true := by cases bad <;> cases fin <;> simp at hbf ⊢
                  rw [hor]
                  obtain ⟨d0, d1, d2, d3, d4, d5, d6, d7, d8⟩ := J.out.2.1.cells
                  have fR := J.out.2.2.2.frz
                  obtain ⟨r0, r1, r2, r3, r4, r5, r6, r7, r8⟩ := J.out.2.2.2.cells
                  simp only [zr] at r0 r1 r2 r3 r4 r5 r6
                  have hbf' := hide hbf
                  clear hbf hor
                  go_wp2_with fail
                  refine bodyPost_ret (v := .agg #[.int .i64 e.kind, .bool e.flag, .bool e.neg, .string e.dig, .int .i64 e.exp, .int .u64 e.bits, .string e.text, (.slice na nms.length nc), .slice av6 (l.length + 1) c6]) (by simp [results, Tryd.results34, go_sem, *]) rfl ⟨e, _, _, _, _, _, _, k', bad, fin, rfl, rb_9 R11.out (by omega) _ _ _ _ _ _ _ _ _, fr_9 J.out.2.2.1 (by omega) (by omega) _ _ _ _ _ _ _ _ _, by have := LP.out.k0k; omega, p2, Q1.out, Q2.out, fun b1 b2 => absurd ⟨b1, b2⟩ hbf'.out⟩
              · have q9 : decide (e.kind = 9) = false := decide_eq_false h9
                have q92 : (e.kind == 9) = false := by simpa using h9
                have h9' := hide h9
                clear h9 h9l hkr
                go_wp2_with (go_at_call 47; refine Stop.out ?_)
                refine Stop.mk ((st.out _ _ _ _ R3.out).mono ?_)
                rintro x w2' ⟨rfl, hw2'⟩
                subst w2'
                have zX := S2.out.z
                have cal := hide (ih'.out k h ((e.kind, false, nms) :: s1) i w2 HP.out EH.out MH.out R3.out hi0'.out (bw.out _ S2.out.fr) PRE.out (by have h1 := hn'.out; have h2 := LP.out.k0k; omega))
                simp only [evs] at cal
                obtain ⟨y0, y1, y2, y3, y4, y5, y6⟩ := X2.out.cells
                go_wp2_with (go_at_call 34; refine Stop.out ?_)
                refine Stop.mk (cal.out.mono ?_)
                rintro x w8 ⟨hc, a1, m1', d1', a2, m2', d2', k', bad, fin, rfl, hR8, hF8, p1, p2, q1, q2, q3⟩
                have S8 := hide (S2.out.step hi hF8)
                have R8 := hide hR8
                have F8 := hide hF8
                have Q1 := hide q1
                have Q2 := hide q2
                have Q3 := hide q3
                clear hR8 hF8 q1 q2 q3 cal y0 y1 y2 y3 y4 y5 y6
                simp only [vals]
                obtain ⟨v0, v1, v2, v3, v4, v5, v6, v7, v8⟩ := S8.out.at.cells
                have z8 := S8.out.z
                go_wp2_with (at_builtin; refine Stop.out ?_)
                refine Stop.mk ?_
                obtain ⟨w9, hw9⟩ : ∃ w9, w9 = (w8.alloc (.cells (vals hc (.slice a1 m1' d1') (.slice a2 m2' d2')) 29)).alloc (.cells (vals hc (.slice a1 m1' d1') (.slice a2 m2' d2')) 29) := ⟨_, rfl⟩
                have z9 : w8.heap.size + 1 < w9.heap.size := by rw [hw9]; simp
                have F9 : Hid (FrR i w8 w9) := by rw [hw9]; exact FrR.al (FrR.al FrR.refl (by omega)) (by simp; omega)
                have S9 := hide (S8.out.step hi F9.out)
                have R9 : Hid (RB w9 i v k' bad fin) := R8.out.same (by rw [hw9, Below.heap_alloc _ _ _ (by simp; omega), Below.heap_alloc _ _ _ (by omega)])
                have rg : Hid (w9.rangeAt (w8.heap.size + 1) 0 (vals hc (.slice a1 m1' d1') (.slice a2 m2' d2')).toList) := by rw [hw9]; exact range_new_at _ _ _ _ _ (by simp)
                obtain ⟨xs9, hx9, hall9⟩ := S9.out.lk.row
                have HX := hide hx9
                have HA := hide hall9
                clear hx9 hall9
                have hw9' := hide hw9
                simp only [vals] at hw9
                rw [← hw9]
                clear hw9
                refine app_v rfl (.tmp 104) (.tmp 106) rfl (W.heap.size + 1 + 1 + 1) (.slice la l.length lc) l.length xs9 rfl HX.out (w8.heap.size + 1) 1 rfl hc (.slice a1 m1' d1') (.slice a2 m2' d2') rfl rfl rg.out (by have := hl'.out; omega) (by omega) ?_
                intro av6 c6 w10 ho10 hg10 hat10
                have J := hide (S9.out.junk (lv' := .slice av6 (l.length + 1) c6) hi hg10.out)
                obtain ⟨j0, j1, j2, j3, j4, j5, j6, j7, j8⟩ := J.out.1.cells
                have fJ := J.out.1.frz
                have z10 := hg10.out.size
                have hown9 := S9.out.lk.llt
                have R11 : Hid (RB (w10.setCell ⟨W.heap.size + 1 + 1, 8, none⟩ (.slice av6 (l.length + 1) c6)) i v k' bad fin) := R9.out.same (by rw [heap_set_ne (by omega), hg10.out.block i (by omega) (fun q => by have := (hown9 i q.symm).1; omega)])
                have P11 : Hid (bad = false → fin = false → ∃ t : VT n, Lp es n k0 e s1 k' (l ++ [t]) nms ∧ Sw n e i W (l ++ [t]) nms (.slice na nms.length nc) (.slice av6 (l.length + 1) c6) (w10.setCell ⟨W.heap.size + 1 + 1, 8, none⟩ (.slice av6 (l.length + 1) c6))) := fun b1 b2 => by
                  obtain ⟨g1, t, g2, g3, g4, g5⟩ := Q3.out b1 b2
                  subst g4
                  refine ⟨t, LP.out.child (fun q => absurd q h8'.out) (fun _ => rfl) h9z.out (LP.out.pre7 h8'.out) g2 g3 g1 (by omega) p2, S9.out.push hi HX.out HA.out (g5.move (by omega) (fun q r1 r2 => by rw [hw9'.out, Below.heap_alloc _ _ _ (by simp; omega), Below.heap_alloc _ _ _ (by omega)])) (by omega) (fun g eg => (S2.out.lk.llt g eg).2) (fun g eg => (S2.out.lk.nlt g eg).2) hg10.out ho10.out hat10.out⟩
                clear hown9 v0 v1 v2 v3 v4 v5 v6 v7 v8
                go_wp2_with (go_at_call 47; refine Stop.out ?_)
                refine Stop.mk ((st.out _ _ _ _ R11.out).mono ?_)
                rintro x w11 ⟨rfl, hw11⟩
                rw [← hw11] at J R11 P11
                clear hw11 j0 j1 j2 j3 j4 j5 j6 j7 j8 fJ ho10 hg10 hat10 HX HA
                have z11 := J.out.2.1.lt
                by_cases hbf : bad = false ∧ fin = false
                · obtain ⟨rfl, rfl⟩ := hbf
                  obtain ⟨t, g1, g2⟩ := P11.out rfl rfl
                  have G1 := hide g1
                  have G2 := hide g2
                  clear g1 g2 P11
                  go_wp2_with fail
                  refine ⟨⟨k', l ++ [t], nms, (.slice na nms.length nc), .slice av6 (l.length + 1) c6, hide ⟨G1.out, G2.out, R11.out⟩⟩, ?_⟩
                  rw [R11.out.pos, hpos.out]
                  omega
                · have hor : (bad || fin) = true := by cases bad <;> cases fin <;> simp at hbf ⊢
                  rw [hor]
                  obtain ⟨d0, d1, d2, d3, d4, d5, d6, d7, d8⟩ := J.out.2.1.cells
                  have fR := J.out.2.2.2.frz
                  obtain ⟨r0, r1, r2, r3, r4, r5, r6, r7, r8⟩ := J.out.2.2.2.cells
                  simp only [zr] at r0 r1 r2 r3 r4 r5 r6
                  have hbf' := hide hbf
                  clear hbf hor
                  go_wp2_with fail
                  refine bodyPost_ret (v := .agg #[.int .i64 e.kind, .bool e.flag, .bool e.neg, .string e.dig, .int .i64 e.exp, .int .u64 e.bits, .string e.text, (.slice na nms.length nc), .slice av6 (l.length + 1) c6]) (by simp [results, Tryd.results34, go_sem, *]) rfl ⟨e, _, _, _, _, _, _, k', bad, fin, rfl, rb_9 R11.out (by omega) _ _ _ _ _ _ _ _ _, fr_9 J.out.2.2.1 (by omega) (by omega) _ _ _ _ _ _ _ _ _, by have := LP.out.k0k; omega, p2, Q1.out, Q2.out, fun b1 b2 => absurd ⟨b1, b2⟩ hbf'.out⟩
    · go_wp2_with (go_at_call 33; refine Stop.out ?_)
      refine Stop.mk ((nx0.out _ _ RR.out (bw.out _ SS.out.fr) (by omega) hkle).mono ?_)
      rintro x w1 ⟨rfl, hR1, hF1⟩
      have S1 := hide (SS.out.step hi hF1)
      have R1 := hide hR1
      clear hR1 hF1
      go_wp2_with (go_at_call 47; refine Stop.out ?_)
      have z1 := S1.out.z
      refine Stop.mk ((st.out _ _ _ _ (R1.out.same (Below.heap_alloc _ _ _ R1.out.lt))).mono ?_)
      rintro x w2 ⟨rfl, hw2⟩
      have S2 : Hid (Sw n e i W l nms (.slice na nms.length nc) (.slice la l.length lc) w2) := by rw [hw2]; exact S1.out.step hi (FrR.al FrR.refl (by omega))
      have R2 : Hid (RB w2 i v k false true) := by rw [hw2]; exact R1.out.same (Below.heap_alloc _ _ _ R1.out.lt)
      clear hw2
      obtain ⟨d0, d1, d2, d3, d4, d5, d6, d7, d8⟩ := S2.out.at.cells
      have fR := S2.out.rb.frz
      obtain ⟨r0, r1, r2, r3, r4, r5, r6, r7, r8⟩ := S2.out.rb.cells
      simp only [zr] at r0 r1 r2 r3 r4 r5 r6
      go_wp2_with fail
      refine bodyPost_ret (v := .agg #[.int .i64 e.kind, .bool e.flag, .bool e.neg, .string e.dig, .int .i64 e.exp, .int .u64 e.bits, .string e.text, .slice na nms.length nc, .slice la l.length lc]) (by simp [results, Tryd.results34, go_sem, *]) rfl ⟨e, na, nms.length, nc, la, l.length, lc, k, false, true, rfl, rb_9 R2.out (by omega) _ _ _ _ _ _ _ _ _, fr_9 S2.out.fr (by omega) (by omega) _ _ _ _ _ _ _ _ _, by have := LP.out.k0k; omega, by omega, fun q => (by cases q), fun _ _ => LP.out.full (by omega), fun _ q => (by cases q)⟩
end
end Go.Proofs.YthbfopdeaknbkaaDoor
/- calamusref05.Built: walked. -/
namespace Go.Proofs.YthbfopdeaknbkaaDoor
open Go.RowKit
set_option linter.unusedSimpArgs false
set_option linter.unusedVariables false
theorem rone (rm : RMay) (es : List Hd) (v : Value) (w0 : World) (hv : ES w0 v es) (hz : ∀ x ∈ es, EvZ x) (hl : es.length ≤ 50000) : ∀ n, OneOk es v w0 n := by
  intro n
  induction n with
  | zero =>
    intro k0 e s1 i W hk he hm hR hi hb hp hn
    omega
  | succ n ih =>
    intro k0 e s1 i W hk he hm hR hi hb hp hn
    rcases hp with ⟨h10, hr⟩ | ⟨h9, hr⟩
    · exact rone_far hk hR h10 hr
    · by_cases h7 : e.kind < 7
      · exact rone_leaf hk he hm hR h7 hr
      · exact rone_loop rm w0 hv hz hl ih hk he hm hR hi hb (by omega) h9 hr hn
set_option maxHeartbeats 2000000 in
set_option maxRecDepth 100000 in
/-- one, where something was wrong already. -/
theorem rone_bad {v : Value} {i k : Nat} {e : Hd} {fin : Bool} {W : World} (hR : RB W i v k true fin) :
    Calls Tryd.prog 34 #[.pointer (some ⟨i, 0, none⟩), .agg (evs e)] W fun x W' => x = .returned (.agg (vals e (.slice none 0 0) (.slice none 0 0))) ∧ RB W' i v k true fin ∧ FrR i W W' := by
  have hi := hR.lt
  have st := hide (fun W1 (hb : Below W.heap.size W W1) => rstop_any (hR.same (hb.block i hi)))
  have hR' := hide hR
  clear hR
  show Calls _ _ #[_, .agg #[.int .i64 e.kind, .bool e.flag, .bool e.neg, .string e.dig, .int .i64 e.exp, .int .u64 e.bits, .string e.text]] _ _
  go_enter Tryd.func34, Tryd.ntmps34
  go_wp2_with (go_at_call 47; refine Stop.out ?_)
  refine Stop.mk ((st.out _ (by repeat (first | exact Below.refl _ _ | refine below_al ?_))).mono ?_)
  rintro x w1 ⟨rfl, rfl⟩
  rw [Bool.true_or]
  go_wp2_with fail
  refine bodyPost_ret (v := .agg #[.int .i64 e.kind, .bool e.flag, .bool e.neg, .string e.dig, .int .i64 e.exp, .int .u64 e.bits, .string e.text, .slice none 0 0, .slice none 0 0]) (by simp [results, Tryd.results34, go_sem, *]) rfl ⟨rfl, hR'.out.same ((show Below W.heap.size W _ by repeat (first | exact Below.refl _ _ | refine below_al ?_)).block i hi), FrR.of (by repeat (first | exact Below.refl _ _ | refine below_al ?_)) (Nat.le_of_lt hi)⟩
/-- What Built answers of events, as an error. -/
def bltE (s : Option (List Pa × Bool)) : Int := bif s.isNone then 50 else bif doneS s then 0 else 51
theorem bltE_none : bltE none = 50 := rfl
theorem bltE_done {s : Option (List Pa × Bool)} (h : s = some ([], true)) : bltE s = 0 := by subst h; rfl
theorem bltE_open {s : Option (List Pa × Bool)} {st : List Pa} {b : Bool} (h : s = some (st, b)) (hn : st ≠ [] ∨ b = false) : bltE s = 51 := by
  subst h
  have hd : doneS (some (st, b)) = false := by
    cases hq : doneS (some (st, b)) with
    | false => rfl
    | true =>
      have := (doneS_iff _).1 hq
      cases this
      rcases hn with q | q
      · exact absurd rfl q
      · cases q
  unfold bltE
  rw [hd]
  rfl
/-- What Built answers. -/
def BltP (es : List Hd) (w : World) (e : Ending) (w' : World) : Prop :=
  Below w.heap.size w w' ∧ ∃ (h : Hd) (a1 : Option Addr) (m1 d1 : Nat) (a2 : Option Addr) (m2 d2 : Nat), e = .returned (.tuple #[.agg (vals h (.slice a1 m1 d1) (.slice a2 m2 d2)), .int .i64 (bltE (runE es))]) ∧
    (bltE (runE es) = 0 → ∃ x : VT es.length, IsV es.length x ∧ es = fl es.length x ∧ h = vhd es.length x ∧ ∃ s f, w.heap.size ≤ s ∧ KR es.length w' x (.slice a1 m1 d1) (.slice a2 m2 d2) s f)
theorem step_end1 {es : List Hd} {k : Nat} (h : runE (es.take k) = some ([], true)) (hk : k < es.length) : runE es = none := by
  refine run_none h hk ?_
  unfold stepE
  by_cases h10 : es[k].kind = 10
  · rw [if_pos h10]
  · rw [if_neg h10]
    by_cases h11 : es[k].kind = 11
    · rw [if_pos h11]
    · rw [if_neg h11]; rfl
theorem blow_9 {w W1 : World} {m : Nat} (q : Below w.heap.size w W1) (hm : w.heap.size ≤ m) (u0 u1 u2 u3 u4 u5 u6 u7 u8 : Value) : Below w.heap.size w (((((((((W1.setCell ⟨m, 0, none⟩ u0).setCell ⟨m, 1, none⟩ u1).setCell ⟨m, 2, none⟩ u2).setCell ⟨m, 3, none⟩ u3).setCell ⟨m, 4, none⟩ u4).setCell ⟨m, 5, none⟩ u5).setCell ⟨m, 6, none⟩ u6).setCell ⟨m, 7, none⟩ u7).setCell ⟨m, 8, none⟩ u8) := by
  iterate 9 refine Below.setCell ?_ (by show w.heap.size ≤ m; exact hm) _
  exact q
set_option maxHeartbeats 4000000 in
set_option maxRecDepth 100000 in
theorem rbuilt_any (rm : RMay) (es : List Hd) (v : Value) (w : World) (hv : ES w v es) (hz : ∀ x ∈ es, EvZ x) (hl : es.length ≤ 50000) :
    Calls Tryd.prog 22 #[v] w fun e w' => BltP es w e w' := by
  have hv' := hide hv
  obtain ⟨va, vc, rfl, hv1, hv2, hv3⟩ := hv
  have ro := hide (rone rm es _ w hv'.out hz hl es.length)
  have nx0 := hide (fun W1 i (q : RB W1 i (.slice va es.length vc) 0 false false) (b : Below w.heap.size w W1) (h1 : es.length ≤ 0) => rnext_end es q (hv'.out.below b) h1 (by omega))
  have nx1 := hide (fun W1 i (q : RB W1 i (.slice va es.length vc) 0 false false) (b : Below w.heap.size w W1) (h1 : 0 < es.length) => rnext_any rm es q (hv'.out.below b) h1 (by omega) (hz _ (List.getElem_mem h1)))
  have R0 : Hid (∀ W1, Below (w.heap.size + 1 + 1) ((w.alloc (.cells (vals (zr 0) (.slice none 0 0) (.slice none 0 0)) 29)).alloc (.cells #[.slice va es.length vc, .int .i64 0, .bool false, .bool false] 67)) W1 → RB W1 (w.heap.size + 1) (.slice va es.length vc) 0 false false ∧ Bx W1 w.heap.size (zr 0) (.slice none 0 0) (.slice none 0 0)) := fun W1 hb => by
    refine ⟨?_, ⟨?_⟩⟩
    · unfold RB
      rw [hb.block _ (by omega)]
      have := heap_alloc_last (w.alloc (.cells (vals (zr 0) (.slice none 0 0) (.slice none 0 0)) 29)) (.cells #[.slice va es.length vc, .int .i64 0, .bool false, .bool false] 67)
      rw [World.size_alloc] at this
      exact this
    · rw [hb.block _ (by omega), Below.heap_alloc _ _ _ (by simp)]
      exact heap_alloc_last _ _
  simp only [evs, zr] at nx0
  simp only [vals, zr] at R0
  have hl' := hide hl
  clear hv1 hv2 hv3 hz hl
  go_enter Tryd.func22, Tryd.ntmps22
  go_wp2_with (go_at_call 33; refine Stop.out ?_)
  obtain ⟨w3, hw3⟩ : ∃ w3, w3 = (w.alloc (.cells #[.int .i64 0, .bool false, .bool false, .string ⟨#[]⟩, .int .i64 0, .int .u64 0, .string ⟨#[]⟩, .slice none 0 0, .slice none 0 0] 29)).alloc (.cells #[.slice va es.length vc, .int .i64 0, .bool false, .bool false] 67) := ⟨_, rfl⟩
  rw [← hw3]
  obtain ⟨r3, x3⟩ := R0.out w3 (by rw [hw3]; exact Below.refl _ _)
  have R3 := hide r3
  have X3 : Hid (Bx w3 w.heap.size (zr 0) (.slice none 0 0) (.slice none 0 0)) := x3
  have B3 : Hid (Below w.heap.size w w3) := by rw [hw3]; exact below_al (below_al (Below.refl _ _))
  have z3 : w.heap.size + 1 < w3.heap.size := r3.lt
  clear r3 x3 hw3 R0
  by_cases hk : 0 < es.length
  · obtain ⟨h, hh⟩ : ∃ h, es[0] = h := ⟨_, rfl⟩
    have nk := hide (nx1.out _ _ R3.out B3.out hk)
    rw [hh] at nk
    simp only [evs, Bool.false_or] at nk
    have hh' := hide hh
    clear hh
    obtain ⟨mb, hmb⟩ : ∃ mb, mayB h = mb := ⟨_, rfl⟩
    rw [hmb] at nk
    have hmb' := hide hmb
    clear hmb
    refine Stop.mk (nk.out.mono ?_)
    rintro x w4 ⟨rfl, hR4, hF4⟩
    have R4 := hide hR4
    have X4 : Hid (Bx w4 w.heap.size (zr 0) (.slice none 0 0) (.slice none 0 0)) := ⟨(hF4.2 _ (by omega) (by omega)).trans X3.out.at_⟩
    have B4 : Hid (Below w.heap.size w w4) := B3.out.trans (hF4.1.mono (by omega))
    have z4 : w.heap.size + 1 < w4.heap.size := hR4.lt
    clear hR4 hF4 nk nx0 nx1
    obtain ⟨c0, c1, c2, c3, fz⟩ := R4.out.cells
    have hbn : runE [] = some ([], false) := rfl
    have hbn' := hide hbn
    clear hbn
    cases mb
    · have rb := hide (fun W1 (q : RB W1 (w.heap.size + 1) (.slice va es.length vc) (0 + 1) true false) => rone_bad (e := h) q)
      have hno := hide (run_bad hk (by rw [hh'.out]; exact hmb'.out))
      simp only [evs, vals] at rb
      go_wp2_with (go_at_call 34; refine Stop.out ?_)
      refine Stop.mk ((rb.out _ (R4.out.same (Below.heap_alloc _ _ _ R4.out.lt))).mono ?_)
      rintro x w5 ⟨rfl, hR5, hF5⟩
      have X5 : Hid (Bx w5 w.heap.size (zr 0) (.slice none 0 0) (.slice none 0 0)) := ⟨((hF5.2 _ (by simp; omega) (by omega)).trans (Below.heap_alloc _ _ _ (by omega))).trans X4.out.at_⟩
      have B5 : Hid (Below w.heap.size w w5) := (below_al B4.out).trans (hF5.1.mono (by omega))
      have z5 : w.heap.size + 1 < w5.heap.size := hR5.lt
      have R5 := hide hR5
      obtain ⟨e0, e1, e2, e3, ez⟩ := R5.out.cells
      obtain ⟨r0, r1, r2, r3, r4, r5, r6, r7, r8⟩ := X5.out.cells
      have fR := X5.out.frz
      simp only [zr] at r0 r1 r2 r3 r4 r5 r6
      have z5b : w.heap.size < w5.heap.size := by omega
      clear hR5 hF5 c0 c1 c2 c3 fz
      go_wp2_with fail
      refine bodyPost_ret (v := .tuple #[.agg #[.int .i64 0, .bool false, .bool false, .string ⟨#[]⟩, .int .i64 0, .int .u64 0, .string ⟨#[]⟩, .slice none 0 0, .slice none 0 0], .int .i64 50]) (by simp [results, Tryd.results22, go_sem, *]) rfl ⟨(by repeat (first | (with_reducible exact Hid.out (by assumption)) | (with_reducible refine below_al ?_) | (with_reducible refine Below.setCell ?_ (Nat.le_refl w.heap.size) _))), zr 0, none, 0, 0, none, 0, 0, by rw [hno.out]; rfl, fun q => (by rw [hno.out] at q; cases q)⟩
    · have PRE : Hid ((10 ≤ h.kind ∧ runE es = none) ∨ (h.kind ≤ 9 ∧ runE (es.take (0 + 1)) = some (newE h.kind ++ [], true))) := by
        have hkr := may_range hmb'.out
        by_cases h10 : 10 ≤ h.kind
        · refine Or.inl ⟨h10, run_none (k := 0) (st := []) (bg := false) rfl hk ?_⟩
          rw [hh'.out]
          unfold stepE
          by_cases q : h.kind = 10
          · rw [if_pos q]
          · rw [if_neg q, if_pos (by omega)]
        · refine Or.inr ⟨by omega, ?_⟩
          rw [run_next (k := 0) (st := []) (bg := false) rfl hk (by rw [hh'.out]; exact hmb'.out), hh'.out]
          exact step_val (by omega) (by omega) rfl
      have cal := hide (fun W1 (q : RB W1 (w.heap.size + 1) (.slice va es.length vc) (0 + 1) false false) (b : Below w.heap.size w W1) => ro.out 0 h [] (w.heap.size + 1) W1 hk hh'.out hmb'.out q (by omega) b PRE.out (by omega))
      simp only [evs] at cal
      have R4' : Hid (RB w4 (w.heap.size + 1) (.slice va es.length vc) (0 + 1) false false) := R4.out
      go_wp2_with (go_at_call 34; refine Stop.out ?_)
      refine Stop.mk ((cal.out _ (R4'.out.same (Below.heap_alloc _ _ _ R4'.out.lt)) (below_al B4.out)).mono ?_)
      rintro x w5 ⟨hc, a1, m1, d1, a2, m2, d2, k', bad, fin, rfl, hR5, hF5, p1, p2, q1, q2, q3⟩
      have X5 : Hid (Bx w5 w.heap.size (zr 0) (.slice none 0 0) (.slice none 0 0)) := ⟨((hF5.2 _ (by simp; omega) (by omega)).trans (Below.heap_alloc _ _ _ (by omega))).trans X4.out.at_⟩
      have B5 : Hid (Below w.heap.size w w5) := (below_al B4.out).trans (hF5.1.mono (by omega))
      have z5 : w.heap.size + 1 < w5.heap.size := hR5.lt
      have z5b : w.heap.size < w5.heap.size := by omega
      have R5 := hide hR5
      obtain ⟨e0, e1, e2, e3, ez⟩ := R5.out.cells
      obtain ⟨r0, r1, r2, r3, r4, r5, r6, r7, r8⟩ := X5.out.cells
      have fR := X5.out.frz
      simp only [zr] at r0 r1 r2 r3 r4 r5 r6
      have Q1 := hide q1
      have Q2 := hide q2
      have Q3 := hide q3
      have hk' := hide hk
      have P2 := hide p2
      simp only [vals]
      clear hR5 hF5 c0 c1 c2 c3 fz q1 q2 q3 p1 p2
      cases bad
      · cases fin
        · obtain ⟨g1, t, g2, g3, g4, g5⟩ := Q3.out rfl rfl
          by_cases hlt : k' < es.length
          · have hlt2 : (k' : Int) < (es.length : Int) := by omega
            have hno := hide (step_end1 g1 hlt)
            clear g1 g2 g3 g4 g5 hlt
            go_wp2_with fail
            refine bodyPost_ret (v := .tuple #[.agg #[.int .i64 0, .bool false, .bool false, .string ⟨#[]⟩, .int .i64 0, .int .u64 0, .string ⟨#[]⟩, .slice none 0 0, .slice none 0 0], .int .i64 50]) (by simp [results, Tryd.results22, go_sem, *]) rfl ⟨(by repeat (first | (with_reducible exact Hid.out (by assumption)) | (with_reducible refine below_al ?_) | (with_reducible refine Below.setCell ?_ (Nat.le_refl w.heap.size) _))), zr 0, none, 0, 0, none, 0, 0, by rw [hno.out]; rfl, fun q => (by rw [hno.out] at q; cases q)⟩
          · have hlt2 : ¬ ((k' : Int) < (es.length : Int)) := by omega
            have hk2 : k' = es.length := by have := P2.out; omega
            have hfull : es.take k' = es := by rw [hk2, List.take_length]
            rw [hfull] at g1 g3
            have hdn := hide g1
            have hev := hide g3
            have G2 := hide g2
            have G4 := hide g4
            have G5 := hide g5
            have hlt' := hide hlt
            have hk2' := hide hk2
            have hfull' := hide hfull
            clear g1 g2 g3 g4 g5 hlt hk2 hfull
            go_wp2_with fail
            refine bodyPost_ret (v := .tuple #[.agg #[.int .i64 hc.kind, .bool hc.flag, .bool hc.neg, .string hc.dig, .int .i64 hc.exp, .int .u64 hc.bits, .string hc.text, .slice a1 m1 d1, .slice a2 m2 d2], .int .i64 0]) (by simp [results, Tryd.results22, go_sem, *]) rfl ⟨(by repeat (first | (with_reducible exact Hid.out (by assumption)) | (with_reducible refine below_al ?_) | (with_reducible refine Below.setCell ?_ (Nat.le_refl w.heap.size) _))), hc, a1, m1, d1, a2, m2, d2, by rw [bltE_done hdn.out]; rfl, fun _ => ⟨t, G2.out, by have := hev.out; simpa using this, G4.out, _, _, ?_, G5.out.move (by simp) ?_⟩⟩
            · simp; omega
            · intro q s1 s2
              simp only [World.size_alloc] at s1
              have hq : q ≠ w.heap.size := by omega
              first | (rw [Below.heap_alloc _ _ _ (by simp; omega)]; simp only [heap_set_ne hq]; done) | (simp only [heap_set_ne hq]; rw [Below.heap_alloc _ _ _ s2])
        · obtain ⟨st, g1, g2⟩ := Q2.out rfl rfl
          have hno := hide (bltE_open g1 (Or.inl g2))
          clear g1 g2
          go_wp2_with fail
          refine bodyPost_ret (v := .tuple #[.agg #[.int .i64 0, .bool false, .bool false, .string ⟨#[]⟩, .int .i64 0, .int .u64 0, .string ⟨#[]⟩, .slice none 0 0, .slice none 0 0], .int .i64 51]) (by simp [results, Tryd.results22, go_sem, *]) rfl ⟨(by repeat (first | (with_reducible exact Hid.out (by assumption)) | (with_reducible refine below_al ?_) | (with_reducible refine Below.setCell ?_ (Nat.le_refl w.heap.size) _))), zr 0, none, 0, 0, none, 0, 0, by rw [hno.out]; rfl, fun q => (by rw [hno.out] at q; cases q)⟩
      · have hno := hide (Q1.out rfl)
        go_wp2_with fail
        refine bodyPost_ret (v := .tuple #[.agg #[.int .i64 0, .bool false, .bool false, .string ⟨#[]⟩, .int .i64 0, .int .u64 0, .string ⟨#[]⟩, .slice none 0 0, .slice none 0 0], .int .i64 50]) (by simp [results, Tryd.results22, go_sem, *]) rfl ⟨(by repeat (first | (with_reducible exact Hid.out (by assumption)) | (with_reducible refine below_al ?_) | (with_reducible refine Below.setCell ?_ (Nat.le_refl w.heap.size) _))), zr 0, none, 0, 0, none, 0, 0, by rw [hno.out]; rfl, fun q => (by rw [hno.out] at q; cases q)⟩
  · have h0 : es = [] := List.eq_nil_of_length_eq_zero (by omega)
    have hno : Hid (bltE (runE es) = 51) := by rw [h0]; rfl
    refine Stop.mk ((nx0.out _ _ R3.out B3.out (by omega)).mono ?_)
    rintro x w4 ⟨rfl, hR4, hF4⟩
    have R4 := hide hR4
    have X4 : Hid (Bx w4 w.heap.size (zr 0) (.slice none 0 0) (.slice none 0 0)) := ⟨(hF4.2 _ (by omega) (by omega)).trans X3.out.at_⟩
    have B4 : Hid (Below w.heap.size w w4) := B3.out.trans (hF4.1.mono (by omega))
    have z4 : w.heap.size + 1 < w4.heap.size := hR4.lt
    have z4b : w.heap.size < w4.heap.size := by omega
    have h0' := hide h0
    clear hR4 hF4 nx0 nx1 h0 hk
    obtain ⟨c0, c1, c2, c3, fz⟩ := R4.out.cells
    obtain ⟨r0, r1, r2, r3, r4, r5, r6, r7, r8⟩ := X4.out.cells
    have fR := X4.out.frz
    simp only [zr] at r0 r1 r2 r3 r4 r5 r6
    go_wp2_with fail
    refine bodyPost_ret (v := .tuple #[.agg #[.int .i64 0, .bool false, .bool false, .string ⟨#[]⟩, .int .i64 0, .int .u64 0, .string ⟨#[]⟩, .slice none 0 0, .slice none 0 0], .int .i64 51]) (by simp [results, Tryd.results22, go_sem, *]) rfl ⟨(by repeat (first | (with_reducible exact Hid.out (by assumption)) | (with_reducible refine below_al ?_) | (with_reducible refine Below.setCell ?_ (Nat.le_refl w.heap.size) _))), zr 0, none, 0, 0, none, 0, 0, by rw [hno.out]; rfl, fun q => (by rw [hno.out] at q; cases q)⟩
end Go.Proofs.YthbfopdeaknbkaaDoor
