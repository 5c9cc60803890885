/- calamuslaw06.large, ChunkNil: walked. -/
import Derived.Test.YtpkmgkdgjghpdaaCgPeeks
namespace Go.Proofs.Ytpkmgkdgjghpdaa
open Go.RowKit
set_option linter.unusedSimpArgs false
set_option linter.unusedVariables false
/-- A call: its kind, its number, its bytes. -/
abbrev OpT := Int × Int × List UInt8
/-- A call, as a value. -/
def opV (k n : Int) (v : Value) : Value := .agg #[.int .i64 k, .int .i64 n, v]
/-- What a call's numbers may be, and how long its bytes. -/
def OpOk (o : OpT) : Prop := -9223372036854775808 ≤ o.1 ∧ o.1 ≤ 9223372036854775807 ∧ -9223372036854775808 ≤ o.2.1 ∧ o.2.1 ≤ 9223372036854775807 ∧ o.2.2.length ≤ 281474976710656
/-- A slice of calls reads as os. -/
def OL (w : World) (v : Value) (os : List OpT) : Prop :=
  (v = .slice none 0 0 ∧ os = []) ∨ ∃ (b o c : Nat) (sp : Option Nat), v = .slice (some ⟨b, o, sp⟩) os.length c ∧ os.length ≤ c ∧ c ≤ maxLen ∧ (0 < os.length → sp = none ∧ b < w.heap.size) ∧
    ∀ i (h : i < os.length), ∃ vb, w.cell? ⟨b, o + i * 3, none⟩ = some (.int .i64 os[i].1) ∧ w.cell? ⟨b, o + i * 3 + 1, none⟩ = some (.int .i64 os[i].2.1) ∧ w.cell? ⟨b, o + i * 3 + 2, none⟩ = some vb ∧ SL w vb os[i].2.2 ∧ OpOk os[i]
theorem OL.below {w W : World} {v : Value} {os : List OpT} (h : OL w v os) (hb : Below w.heap.size w W) : OL W v os := by
  rcases h with ⟨rfl, rfl⟩ | ⟨b, o, c, sp, rfl, h1, h2, h3, hc⟩
  · exact Or.inl ⟨rfl, rfl⟩
  · refine Or.inr ⟨b, o, c, sp, rfl, h1, h2, fun h0 => ⟨(h3 h0).1, Nat.lt_of_lt_of_le (h3 h0).2 hb.size⟩, fun i hi => ?_⟩
    obtain ⟨vb, k1, k2, k3, k4, k5⟩ := hc i hi
    have hbl := (h3 (by omega)).2
    exact ⟨vb, (hb.cell (p := ⟨b, _, none⟩) hbl).trans k1, (hb.cell (p := ⟨b, _, none⟩) hbl).trans k2, (hb.cell (p := ⟨b, _, none⟩) hbl).trans k3, k4.below hb, k5⟩
theorem OL.len {w : World} {v : Value} {os : List OpT} (h : OL w v os) : ∃ a c, v = .slice a os.length c ∧ os.length ≤ c ∧ c ≤ maxLen := by
  rcases h with ⟨rfl, rfl⟩ | ⟨b, o, c, sp, rfl, h1, h2, _⟩
  · exact ⟨none, 0, rfl, Nat.le_refl _, by decide⟩
  · exact ⟨_, c, rfl, h1, h2⟩
theorem OL.at {w : World} {v : Value} {os : List OpT} (h : OL w v os) (i : Nat) (hi : i < os.length) : ∃ b o c vb, v = .slice (some ⟨b, o, none⟩) os.length c ∧ os.length ≤ c ∧ c ≤ maxLen ∧ b < w.heap.size ∧ w.cell? ⟨b, o + i * 3, none⟩ = some (.int .i64 os[i].1) ∧ w.cell? ⟨b, o + i * 3 + 1, none⟩ = some (.int .i64 os[i].2.1) ∧ w.cell? ⟨b, o + i * 3 + 2, none⟩ = some vb ∧ SL w vb os[i].2.2 ∧ OpOk os[i] := by
  rcases h with ⟨rfl, rfl⟩ | ⟨b, o, c, sp, rfl, h1, h2, h3, hc⟩
  · simp at hi
  · obtain ⟨vb, k⟩ := hc i hi
    obtain ⟨rfl, hb⟩ := h3 (by omega)
    exact ⟨b, o, c, vb, rfl, h1, h2, hb, k⟩
/-- How many calls and bytes the first k have. -/
def tot (os : List OpT) (k : Nat) : Nat := os.length + ((os.take k).map fun o : OpT => o.2.2.length).sum
theorem tot_succ (os : List OpT) (k : Nat) (h : k < os.length) : tot os (k + 1) = tot os k + os[k].2.2.length := by
  unfold tot
  rw [List.take_succ_eq_append_getElem h, List.map_append, List.sum_append]
  simp; omega
theorem tot_le (os : List OpT) (k : Nat) : tot os k ≤ tot os os.length := by
  unfold tot
  have : (List.map (fun o : OpT => o.2.2.length) os).sum = ((os.take k).map fun o : OpT => o.2.2.length).sum + ((os.drop k).map fun o : OpT => o.2.2.length).sum := by
    rw [← List.sum_append, ← List.map_append, List.take_append_drop]
  rw [List.take_length]
  omega
def lrg (os : List OpT) : Bool := decide (131072 < tot os os.length) || decide (2000 < os.length)
set_option maxHeartbeats 4000000 in
set_option maxRecDepth 100000 in
theorem large_any (v : Value) (os : List OpT) (w : World) (ol : OL w v os) :
    Calls Try.prog 7 #[v] w fun r w' => r = .returned (.bool (lrg os)) ∧ w' = w := by
  have ml : maxLen = 9223372036854775807 := rfl
  obtain ⟨a, c, rfl, h1, h2⟩ := ol.len
  have OLh := hide ol
  clear ol
  have t0 := hide (show tot os 0 = os.length by simp [tot])
  go_enter Try.func7, Try.ntmps7
  go_wp2_with fail
  go_loopw [3, 4] (fun u i w' => ∃ (k p : Nat), u = .int .i64 p ∧ i = .int .i64 k ∧ k ≤ os.length ∧ p ≤ 9223372036854775807 ∧ Hid (p = tot os k) ∧ w' = w) (fun _ i _ => os.length - (intOf i).toNat)
  case atStart => exact ⟨0, os.length, rfl, rfl, Nat.zero_le _, by omega, t0.out.symm, rfl⟩
  case round =>
    obtain ⟨k, p, rfl, rfl, hk, hp63, hp, rfl⟩ := hrel
    by_cases hkl : k < os.length
    · have hki : (k : Int) < (os.length : Int) := by omega
      by_cases hp2 : (p : Int) ≤ 131072
      · obtain ⟨b, o, c', vb, e, k1, k2, k3, k4, k5, k6, k7, k8⟩ := OLh.out.at k hkl
        simp only [Value.slice.injEq] at e
        obtain ⟨rfl, _, rfl⟩ := e
        obtain ⟨ab, cb, rfl, k9, k10⟩ := k7.len
        have hs := tot_succ os k hkl
        obtain ⟨q, hq⟩ : ∃ q, os[k].2.2.length = q := ⟨_, rfl⟩
        have hq2 : q ≤ 281474976710656 := by rw [← hq]; exact k8.2.2.2.2
        rw [hq] at k6 hs
        have hs' := hide hs
        clear hs k7 k8 hq k9
        go_wp2_with fail
        refine ⟨⟨k + 1, p + q, by go_num, by go_num, by omega, by omega, ?_, by trivial⟩, by simp [intOf]; omega⟩
        show _ = _
        rw [hs'.out, hp.out]
      · have hlr : Hid (lrg os = true) := by
          show _ = _
          unfold lrg
          have := tot_le os k
          have := hp.out
          simp; omega
        go_wp2_with fail
        go_ret
        exact ⟨by rw [hlr.out]; rfl, rfl⟩
    · have hke : k = os.length := by omega
      have hki : ¬ ((k : Int) < (os.length : Int)) := by omega
      have hpe := hp.out
      rw [hke] at hpe
      have hlr : Hid (lrg os = (decide (131072 < (p : Int)) || decide (2000 < (os.length : Int)))) := by
        show _ = _
        unfold lrg
        rw [← hpe]
        congr 1 <;> simp <;> omega
      clear hpe hke
      by_cases hb1 : 131072 < (p : Int)
      · have e : Hid (lrg os = true) := by show _ = _; rw [hlr.out, decide_eq_true hb1]; rfl
        go_wp2_with fail
        go_ret
        exact ⟨by rw [e.out]; rfl, rfl⟩
      · by_cases hb2 : 2000 < (os.length : Int)
        · have e : Hid (lrg os = true) := by show _ = _; rw [hlr.out, decide_eq_true hb2]; simp
          go_wp2_with fail
          go_ret
          exact ⟨by rw [e.out]; rfl, rfl⟩
        · have e : Hid (lrg os = false) := by show _ = _; rw [hlr.out, decide_eq_false hb2, decide_eq_false hb1]; rfl
          go_wp2_with fail
          go_ret
          exact ⟨by rw [e.out]; rfl, rfl⟩
theorem OL.one (w : World) (k n : Int) (vb : Value) (l : List UInt8) (T : TypeId) (sl : SL w vb l) (ok : OpOk (k, n, l)) : OL (w.alloc (.cells #[.int .i64 k, .int .i64 n, vb] T)) (.slice (some ⟨w.heap.size, 0, none⟩) 1 1) [(k, n, l)] := by
  refine Or.inr ⟨w.heap.size, 0, 1, none, rfl, Nat.le_refl _, by decide, fun _ => ⟨rfl, by simp⟩, fun i hi => ?_⟩
  simp at hi
  subst hi
  have q : (w.alloc (.cells #[.int .i64 k, .int .i64 n, vb] T)).heap[w.heap.size]? = some (.cells #[.int .i64 k, .int .i64 n, vb] T (0, 0)) := heap_alloc_new _ _
  refine ⟨vb, ?_, ?_, ?_, sl.below (below_al (Below.refl _ _)), ok⟩ <;> (unfold World.cell?; rw [q]; rfl)
set_option maxHeartbeats 4000000 in
set_option maxRecDepth 100000 in
theorem nil_law (k n : Int) (vb : Value) (l : List UInt8) (w : World) (sl : SL w vb l) (ok : OpOk (k, n, l)) :
    Calls Try.prog 5 #[opV k n vb] w fun r w' => r = .returned (.bool true) ∧ Below w.heap.size w w' := by
  obtain ⟨a, c, rfl, h1, h2⟩ := sl.len
  have lg := hide (large_any _ _ _ (OL.one (w.alloc (.cells #[.int .i64 k, .int .i64 n, .slice a l.length c] 35)) k n (.slice a l.length c) l 35 (sl.below (below_al (Below.refl _ _))) ok))
  have hz : (w.alloc (.cells #[.int .i64 k, .int .i64 n, .slice a l.length c] 35)).heap.size = w.heap.size + 1 := by simp
  rw [hz] at lg
  clear hz
  have aw := hide awake_any
  clear sl ok
  unfold opV
  cases hl : lrg [(k, n, l)]
  · rw [hl] at lg
    clear hl
    go_enter Try.func5, Try.ntmps5
    go_wp2_with (first
      | (go_at_call 7; refine lg.out.mono ?_; rintro e w1 ⟨rfl, hw1⟩; have hw1s := hw1.symm; clear hw1; subst hw1s)
      | (go_at_call 13; refine (take_nil _ _).mono ?_; rintro e w1 ⟨rfl, hw1⟩; have hw1s := hw1.symm; clear hw1; subst hw1s)
      | (go_at_call 17; refine (peek_nil _ _).mono ?_; rintro e w1 ⟨rfl, hw1⟩; have hw1s := hw1.symm; clear hw1; subst hw1s)
      | (go_at_call 9; refine (aw.out _).mono ?_; rintro e wc ⟨rfl, hbc⟩; have B5 := hide hbc; have hbs := hbc.size; have d0 := hbc.cell (p := ⟨w.heap.size, 0, none⟩) (by simp; omega); have d1 := hbc.cell (p := ⟨w.heap.size, 1, none⟩) (by simp; omega); have d2 := hbc.cell (p := ⟨w.heap.size, 2, none⟩) (by simp; omega); clear hbc)
      | (go_at_call 12; refine (feed_nil _ _).mono ?_; rintro e w1 ⟨rfl, hw1⟩; have hw1s := hw1.symm; clear hw1; subst hw1s)
      | (go_at_call 14; refine (back_nil _ _).mono ?_; rintro e w1 ⟨rfl, hw1⟩; have hw1s := hw1.symm; clear hw1; subst hw1s)
      | (go_at_call 15; refine (left_nil _).mono ?_; rintro e w1 ⟨rfl, hw1⟩; have hw1s := hw1.symm; clear hw1; subst hw1s)
      | (go_at_call 16; refine (total_nil _).mono ?_; rintro e w1 ⟨rfl, hw1⟩; have hw1s := hw1.symm; clear hw1; subst hw1s))
    go_ret
    exact ⟨rfl, below_then (below_al (below_al (Below.refl _ _))) B5.out⟩
  · rw [hl] at lg
    clear hl
    go_enter Try.func5, Try.ntmps5
    go_wp2_with (go_at_call 7; refine lg.out.mono ?_; rintro e w1 ⟨rfl, hw1⟩; have hw1s := hw1.symm; clear hw1; subst hw1s)
    go_ret
    exact ⟨rfl, below_al (below_al (Below.refl _ _))⟩
end Go.Proofs.Ytpkmgkdgjghpdaa
