/- calamuslaw06.step: walked. -/
import Derived.Test.YtpkmgkdgjghpdaaCmRef
import Derived.Test.YtpkmgkdgjghpdaaCpKeep
namespace Go.Proofs.Ytpkmgkdgjghpdaa
open Go.RowKit
set_option linter.unusedSimpArgs false
set_option linter.unusedVariables false
/-- Where ChunkRuns stands: the source, and the reference's, hold the same. -/
structure Rn (w : World) (v : Value) (gone lim : Nat) (all : List UInt8) (taken once : Nat) (W : World) : Prop where
  ch : Ch W w.heap.size (w.heap.size + 2) v gone lim all taken once
  rs : RS W (w.heap.size + 1) lim all taken once
  below : Below w.heap.size w W
section
variable {w W W1 : World} {v v' : Value} {gone gone' lim taken taken' once once' : Nat} {all all' : List UInt8}
theorem Rn.then (h : Rn w v gone lim all taken once W) (hb : Below W.heap.size W W1) : Rn w v gone lim all taken once W1 := ⟨h.ch.then hb, h.rs.same (hb.block _ h.rs.lt), below_then h.below hb⟩
theorem Rn.lt (h : Rn w v gone lim all taken once W) : w.heap.size + 1 < W.heap.size := h.rs.lt
/-- The source turned. -/
theorem Rn.chs (h : Rn w v gone lim all taken once W) (f : Fr w.heap.size v W W1) : RS W1 (w.heap.size + 1) lim all taken once ∧ Below w.heap.size w W1 :=
  ⟨h.rs.same (f.block _ h.lt (by omega) (fun e => by have := (h.ch.own.row _ e).1; omega)), h.below.trans (f.below (Nat.le_refl _) h.below.size fun k hk => by have := (h.ch.own.row k hk).1; omega)⟩
/-- The reference's turned. -/
theorem Rn.rss (h : Ch W w.heap.size (w.heap.size + 2) v gone lim all taken once) (hb : Below w.heap.size w W) (f : Fr (w.heap.size + 1) (.slice none 0 0) W W1) : Ch W1 w.heap.size (w.heap.size + 2) v gone lim all taken once ∧ Below w.heap.size w W1 :=
  ⟨{ h with cb := h.cb.same (f.block _ h.cb.lt (by omega) (by simp [Value.ownBlock])), own := h.own.of fun k hk hlt => f.block k hlt (by have := (h.own.row k hk).1; omega) (by simp [Value.ownBlock]), hB := Nat.le_trans h.hB f.size }, hb.trans (f.below (by omega) hb.size (by intro k hk; cases hk))⟩
/-- A new row turned. -/
theorem Rn.row (h : Rn w v gone lim all taken once W) {k : Nat} (hk : w.heap.size + 1 < k) (hv : v.ownBlock ≠ some k) (f : Fr k (.slice none 0 0) W W1) : Rn w v gone lim all taken once W1 := by
  have hz := h.lt
  refine ⟨{ h.ch with cb := h.ch.cb.same (f.block _ h.ch.cb.lt (by omega) (by simp [Value.ownBlock])), own := h.ch.own.of fun q hq hlt => f.block q hlt (fun e => hv (e ▸ hq)) (by simp [Value.ownBlock]), hB := Nat.le_trans h.ch.hB f.size }, h.rs.same (f.block _ hz (by omega) (by simp [Value.ownBlock])), h.below.trans (f.below (by omega) h.below.size (by intro q hq; cases hq))⟩
end
/-- A call in a block of its own. -/
def OB (W : World) (i : Nat) (k n : Int) (v : Value) : Prop := W.heap[i]? = some (.cells #[.int .i64 k, .int .i64 n, v] 35 (0, 0))
theorem OB.new (W : World) (k n : Int) (v : Value) : OB (W.alloc (.cells #[.int .i64 k, .int .i64 n, v] 35)) W.heap.size k n v := heap_alloc_new _ _
theorem OB.cells {W : World} {i : Nat} {k n : Int} {v : Value} (q : OB W i k n v) : W.cell? ⟨i, 0, none⟩ = some (.int .i64 k) ∧ W.cell? ⟨i, 1, none⟩ = some (.int .i64 n) ∧ W.cell? ⟨i, 2, none⟩ = some v := by
  unfold OB at q
  simp [World.cell?, q]
theorem OB.same {W W1 : World} {i : Nat} {k n : Int} {v : Value} (q : OB W i k n v) (h : W1.heap[i]? = W.heap[i]?) : OB W1 i k n v := by unfold OB; rw [h]; exact q
/-- Bytes that came in read as before. -/
theorem SL.keep {w W W1 : World} {v vb : Value} {gone lim taken once : Nat} {all l : List UInt8} (h : Rn w v gone lim all taken once W) (hs : SL W vb l) (hsl : l ≠ [] → ∀ q, vb.ownBlock = some q → q < w.heap.size) (hb : Below w.heap.size w W1) : SL W1 vb l := by
  by_cases hl : l = []
  · subst hl
    rcases hs with ⟨rfl, _⟩ | ⟨a, c, rfl, h1, h2, _⟩
    · exact Or.inl ⟨rfl, rfl⟩
    · exact Or.inr ⟨a, c, rfl, h1, h2, fun i hi => by simp at hi⟩
  · rcases hs with ⟨rfl, e⟩ | ⟨a, c, rfl, h1, h2, hc⟩
    · exact absurd e hl
    · have hlt := hsl hl a.block rfl
      refine Or.inr ⟨a, c, rfl, h1, h2, fun i hi => ⟨Nat.lt_of_lt_of_le hlt hb.size, ?_⟩⟩
      rw [← (hc i hi).2]
      refine World.cell?_of_block (a := a.add i) ?_
      rw [add_block, hb.block _ hlt, h.below.block _ hlt]
theorem Ch.frk {W W1 : World} {i B gone lim taken once k : Nat} {v : Value} {all : List UInt8} (h : Ch W i B v gone lim all taken once) (f : Fr k (.slice none 0 0) W W1) (hk : i ≠ k) (hv : v.ownBlock ≠ some k) : Ch W1 i B v gone lim all taken once :=
  { h with cb := h.cb.same (f.block _ h.cb.lt hk (by simp [Value.ownBlock])), own := h.own.of fun q hq hlt => f.block q hlt (fun e => hv (e ▸ hq)) (by simp [Value.ownBlock]), hB := Nat.le_trans h.hB f.size }
theorem RS.frk {W W1 : World} {j lim at' once k : Nat} {all : List UInt8} (h : RS W j lim all at' once) (f : Fr k (.slice none 0 0) W W1) (hk : j ≠ k) : RS W1 j lim all at' once := h.same (f.block _ h.lt hk (by simp [Value.ownBlock]))
theorem OB.frk {W W1 : World} {i k : Nat} {p n : Int} {v : Value} (h : OB W i p n v) (f : Fr k (.slice none 0 0) W W1) (hi : i < W.heap.size) (hk : i ≠ k) : OB W1 i p n v := h.same (f.block _ hi hk (by simp [Value.ownBlock]))
theorem below_frk {w W W1 : World} {k : Nat} (h : Below w.heap.size w W) (f : Fr k (.slice none 0 0) W W1) (hk : w.heap.size ≤ k) : Below w.heap.size w W1 := h.trans (f.below hk h.size (by intro q hq; cases hq))
section
variable {w W : World} {v : Value} {gone lim taken once : Nat} {all : List UInt8}
set_option maxHeartbeats 4000000 in
set_option maxRecDepth 100000 in
theorem step_feed (R : Rn w v gone lim all taken once W) (n : Int) (vb : Value) (l : List UInt8) (sl : SL W vb l) (hsl : l ≠ [] → ∀ q, vb.ownBlock = some q → q < w.heap.size) (hl : l.length ≤ 131072) :
    Calls Try.prog 10 #[.pointer (some ⟨w.heap.size, 0, none⟩), .pointer (some ⟨w.heap.size + 1, 0, none⟩), opV 1 n vb] W fun r w' => r = .returned (.bool true) ∧ ∃ v' gone' all' taken' once', Rn w v' gone' lim all' taken' once' w' := by
  obtain ⟨a, c, rfl, h1, h2⟩ := sl.len
  have ml : maxLen = 2 ^ 63 - 1 := rfl
  have O0 := hide (OB.new W 1 n (.slice a l.length c))
  have R0 : Hid (∀ o, Rn w v gone lim all taken once (W.alloc o)) := fun o => R.then (below_al (Below.refl _ _))
  have KS : Hid (∀ W1, Below w.heap.size w W1 → SL W1 (.slice a l.length c) l) := fun W1 hb => SL.keep R sl hsl hb
  have VW : Hid (∀ k, W.heap.size ≤ k → v.ownBlock ≠ some k) := fun k hk e => by have := (R.ch.own.row _ e).2; omega
  have hz := R.lt
  have hl1 := R.ch.l1
  have hl2 := R.ch.l2
  clear R sl hsl
  unfold opV
  go_enter Try.func10, Try.ntmps10
  go_wp2_with fail
  refine (lend_any _ l _ (KS.out _ (R0.out _).below) (by omega)).mono ?_
  rintro e w2 ⟨rfl, hr2, hb2⟩
  have R2 := hide ((R0.out _).then hb2)
  have X2 := hide hr2
  have z2 := hr2.lt
  have O2 := hide (O0.out.same (hb2.block _ (by simp)))
  have hkz : (W.alloc (.cells #[.int .i64 1, .int .i64 n, .slice a l.length c] 35)).heap.size = W.heap.size + 1 := by simp
  rw [hkz] at X2 z2
  have hx2 : Hid (SL w2 (.slice (some ⟨W.heap.size + 1, 0, none⟩) l.length (l.length + 2)) l) := by
    refine Or.inr ⟨_, _, rfl, by omega, by omega, fun i hi => ⟨X2.out.lt, ?_⟩⟩
    rw [add_z, X2.out.cell i (by simp; omega), List.getElem_append_left hi]
  clear hr2 hb2 O0 R0
  rw [hkz]
  clear hkz
  obtain ⟨c0, c1, c2⟩ := O2.out.cells
  by_cases hroom : l.length ≤ lim - all.length
  · go_wp2_with fail
    refine (feed_any _ l R2.out.ch hx2.out hroom (fun _ q hq => by have hq2 : W.heap.size + 1 = q := (by simpa [Value.ownBlock] using hq); exact ⟨by omega, VW.out q (by omega)⟩)).mono ?_
    rintro e w3 ⟨rfl, v3, g3, hc3, hf3, ho3⟩
    obtain ⟨rs3, bl3⟩ := R2.out.chs hf3
    have X3 := hide (X2.out.same (hf3.block _ z2 (by omega) (VW.out _ (by omega))))
    have O3 := hide (O2.out.same (hf3.block _ (by omega) (by omega) (VW.out _ (Nat.le_refl _))))
    have V3 : Hid (v3.ownBlock ≠ some (W.heap.size + 1)) := fun e => by
      rcases ho3 with h | h
      · exact VW.out _ (by omega) (h ▸ e)
      · have := h _ e; omega
    have C3 := hide hc3
    have S3 := hide rs3
    have B3 := hide bl3
    have z3 := hf3.size
    clear hc3 hf3 ho3 rs3 bl3 c0 c1 c2
    obtain ⟨c0, c1, c2⟩ := O3.out.cells
    go_wp2_with fail
    refine (kback_any _ _ l w3 X3.out (KS.out _ B3.out) (by omega)).mono ?_
    rintro e w4 ⟨rfl, hf4⟩
    have C4 := hide (C3.out.frk hf4 (by omega) V3.out)
    have S4 := hide (S3.out.frk hf4 (by omega))
    have O4 := hide (O3.out.frk hf4 (by omega) (by omega))
    have B4 := hide (below_frk B3.out hf4 (by omega))
    clear hf4 c0 c1 c2
    obtain ⟨c0, c1, c2⟩ := O4.out.cells
    go_wp2_with fail
    refine (rfeed_any _ l S4.out (KS.out _ B4.out) hl1 hl2 hroom).mono ?_
    rintro e w5 ⟨rfl, hs5, hf5⟩
    obtain ⟨hc5, hb5⟩ := Rn.rss C4.out B4.out hf5
    have R5 : Hid (Rn w v3 g3 lim (all ++ l) taken once w5) := ⟨hc5, hs5, hb5⟩
    clear hs5 hf5 hc5 hb5
    go_wp2_with fail
    go_ret
    exact ⟨rfl, _, _, _, _, _, R5.out⟩
  · go_wp2_with fail
    refine (feed_no _ l.length (l.length + 2) R2.out.ch (by omega) (by omega)).mono ?_
    rintro e w3 ⟨rfl, m3, hm3⟩
    have R3 : Hid (Rn w v gone lim all taken once w3) := by subst hm3; exact R2.out.then (below_drewN _ _ _)
    have X3 : Hid (RB w3 (W.heap.size + 1) (l ++ [165, 90])) := by subst hm3; exact X2.out
    have O3 : Hid (OB w3 W.heap.size 1 n (.slice a l.length c)) := by subst hm3; exact O2.out
    have z3 : w2.heap.size ≤ w3.heap.size := by subst hm3; exact Nat.le_refl _
    clear hm3 c0 c1 c2
    obtain ⟨c0, c1, c2⟩ := O3.out.cells
    go_wp2_with fail
    refine (kback_any _ _ l w3 X3.out (KS.out _ R3.out.below) (by omega)).mono ?_
    rintro e w4 ⟨rfl, hf4⟩
    have R4 : Hid (Rn w v gone lim all taken once w4) := ⟨R3.out.ch.frk hf4 (by omega) (VW.out _ (by omega)), R3.out.rs.frk hf4 (by omega), below_frk R3.out.below hf4 (by omega)⟩
    have O4 := hide (O3.out.frk hf4 (by omega) (by omega))
    clear hf4 c0 c1 c2
    obtain ⟨c0, c1, c2⟩ := O4.out.cells
    go_wp2_with fail
    refine (rfeed_no _ l.length c R4.out.rs hl1 hl2 (by omega) (by omega)).mono ?_
    rintro e w5 ⟨rfl, m5, hm5⟩
    have R5 : Hid (Rn w v gone lim all taken once w5) := by subst hm5; exact R4.out.then (below_drewN _ _ _)
    clear hm5
    go_wp2_with fail
    go_ret
    exact ⟨rfl, _, _, _, _, _, R5.out⟩
set_option maxHeartbeats 4000000 in
set_option maxRecDepth 100000 in
theorem step_take (R : Rn w v gone lim all taken once W) (n : Int) (hn1 : -9223372036854775808 ≤ n) (hn2 : n ≤ 9223372036854775807) (vb : Value) (a : Option Addr) (m c : Nat) (hvb : vb = .slice a m c) :
    Calls Try.prog 10 #[.pointer (some ⟨w.heap.size, 0, none⟩), .pointer (some ⟨w.heap.size + 1, 0, none⟩), opV 2 n vb] W fun r w' => r = .returned (.bool true) ∧ ∃ v' gone' all' taken' once', Rn w v' gone' lim all' taken' once' w' := by
  subst hvb
  have O0 := hide (OB.new W 2 n (.slice a m c))
  have R0 : Hid (∀ o, Rn w v gone lim all taken once (W.alloc o)) := fun o => R.then (below_al (Below.refl _ _))
  have VW : Hid (∀ k, W.heap.size ≤ k → v.ownBlock ≠ some k) := fun k hk e => by have := (R.ch.own.row _ e).2; omega
  have hz := R.lt
  have hl1 := R.ch.l1
  have hl2 := R.ch.l2
  have ht1 := R.ch.t1
  have ht3 := R.ch.t3
  have z0 : ∀ o, (W.alloc o).heap.size = W.heap.size + 1 := fun o => by simp
  clear R
  unfold opV
  by_cases hno : n < 0 ∨ ((all.length - taken : Nat) : Int) < n
  · have hno' := hide hno
    clear hno
    go_enter Try.func10, Try.ntmps10
    go_wp2_with fail
    refine (take_no n (R0.out _).ch hno'.out).mono ?_
    rintro e w2 ⟨rfl, m2, hm2⟩
    have R2 : Hid (Rn w v gone lim all taken once w2) := by subst hm2; exact (R0.out _).then (below_drewN _ _ _)
    have O2 : Hid (OB w2 W.heap.size 2 n (.slice a m c)) := by subst hm2; exact O0.out
    clear hm2
    obtain ⟨c0, c1, c2⟩ := O2.out.cells
    go_wp2_with fail
    refine (rtake_no n hn1 hn2 R2.out.rs ht1 ht3 (by omega) hno'.out).mono ?_
    rintro e w3 ⟨rfl, hs3, hf3⟩
    obtain ⟨hc3, hb3⟩ := Rn.rss R2.out.ch R2.out.below hf3
    have R3 : Hid (Rn w v gone lim all taken once w3) := ⟨hc3, hs3, hb3⟩
    clear hs3 hf3 hc3 hb3
    go_wp2_with fail
    refine (told_nil _).mono ?_
    rintro e w4 ⟨rfl, hm4⟩
    have R4 : Hid (Rn w v gone lim all taken once w4) := by subst hm4; exact R3.out
    clear hm4
    go_wp2_with fail
    go_ret
    exact ⟨rfl, _, _, _, _, _, R4.out⟩
  · obtain ⟨q, rfl⟩ := Int.eq_ofNat_of_zero_le (show 0 ≤ n by omega)
    have hq : q ≤ all.length - taken := by omega
    clear hno
    obtain ⟨X, hX⟩ : ∃ X, (all.drop taken).take q = X := ⟨_, rfl⟩
    have hXl := hide (show X.length = q by rw [← hX, List.length_take, List.length_drop]; omega)
    go_enter Try.func10, Try.ntmps10
    go_wp2_with fail
    refine (take_any q (R0.out _).ch hq).mono ?_
    rintro e w2 ⟨rfl, hr2, hc2, hf2⟩
    rw [hX] at hr2
    rw [z0] at hr2 ⊢
    obtain ⟨rs2, bl2⟩ := (R0.out _).chs hf2
    have X2 := hide hr2
    have zz2 := hr2.lt
    have C2 := hide hc2
    have S2 := hide rs2
    have B2 := hide bl2
    have O2 := hide (O0.out.same (hf2.block _ (by simp) (by omega) (VW.out _ (Nat.le_refl _))))
    clear hr2 hc2 hf2 rs2 bl2
    obtain ⟨c0, c1, c2⟩ := O2.out.cells
    go_wp2_with fail
    refine (rtake_any q S2.out ht1 ht3 (by omega) hq).mono ?_
    rintro e w3 ⟨rfl, hs3, hf3⟩
    rw [hX]
    obtain ⟨hc3, hb3⟩ := Rn.rss C2.out B2.out hf3
    have R3 : Hid (Rn w v gone lim all (taken + q) (max once (taken + q)) w3) := ⟨hc3, hs3, hb3⟩
    have X3 := hide (X2.out.same (hf3.block _ zz2 (by omega) (by simp [Value.ownBlock])))
    clear hs3 hf3 hc3 hb3
    have tl : Hid (Calls Try.prog 22 #[.slice (some ⟨W.heap.size + 1, 0, none⟩) q q, .bool true, .string (mkB X), .bool true] w3 fun r w' => r = .returned (.bool true) ∧ Fr (W.heap.size + 1) (.slice none 0 0) w3 w') := by
      have := told_any _ X w3 X3.out (by rw [hXl.out]; omega)
      rw [hXl.out] at this
      exact this
    go_wp2_with fail
    refine tl.out.mono ?_
    rintro e w4 ⟨rfl, hf4⟩
    have R4 : Hid (Rn w v gone lim all (taken + q) (max once (taken + q)) w4) := ⟨R3.out.ch.frk hf4 (by omega) (VW.out _ (by omega)), R3.out.rs.frk hf4 (by omega), below_frk R3.out.below hf4 (by omega)⟩
    clear hf4
    go_wp2_with fail
    go_ret
    exact ⟨rfl, _, _, _, _, _, R4.out⟩
end
end Go.Proofs.Ytpkmgkdgjghpdaa
