/- calamuslaw06.awake: walked. -/
import Derived.Test.YtpkmgkdgjghpdaaCeFeed
import Derived.Lib.SlBytesConst
namespace Go.Proofs.Ytpkmgkdgjghpdaa
open Go.RowKit
set_option linter.unusedSimpArgs false
set_option linter.unusedVariables false
theorem SL.new (w : World) (l : List UInt8) (T : TypeId) (fr : Nat × Nat) (h : l.length ≤ maxLen) : SL (w.alloc (.cells (bcs l).toArray T fr)) (.slice (some ⟨w.heap.size, 0, none⟩) l.length l.length) l := by
  refine Or.inr ⟨_, _, rfl, Nat.le_refl _, h, fun i hi => ⟨by simp, ?_⟩⟩
  rw [add_z]
  have q : (w.alloc (.cells (bcs l).toArray T fr)).heap[w.heap.size]? = some (.cells (bcs l).toArray T fr) := heap_alloc_new _ _
  unfold World.cell?
  rw [q]
  simp [bcs, hi]
/-- Where awake stands. -/
structure Aw (w : World) (v : Value) (gone : Nat) (all : List UInt8) (taken once : Nat) (W : World) : Prop where
  ch : Ch W w.heap.size (w.heap.size + 1) v gone 8 all taken once
  below : Below w.heap.size w W
theorem Aw.then {w W W1 : World} {v : Value} {gone taken once : Nat} {all : List UInt8} (h : Aw w v gone all taken once W) (hb : Below W.heap.size W W1) : Aw w v gone all taken once W1 := ⟨h.ch.then hb, below_then h.below hb⟩
theorem Aw.by {w W W1 : World} {v v' : Value} {gone gone' taken taken' once once' : Nat} {all all' : List UInt8} (h : Aw w v gone all taken once W) (c : Ch W1 w.heap.size (w.heap.size + 1) v' gone' 8 all' taken' once') (f : Fr w.heap.size v W W1) : Aw w v' gone' all' taken' once' W1 :=
  ⟨c, h.below.trans (f.below (Nat.le_refl _) h.below.size fun k hk => by have := (h.ch.own.row k hk).1; omega)⟩
theorem Aw.conv {w W : World} {v : Value} {gone taken once : Nat} {all : List UInt8} (h : Aw w v gone all taken once W) : w.heap.size < W.heap.size := h.ch.cb.lt
set_option maxHeartbeats 4000000 in
set_option maxRecDepth 100000 in
theorem awake_any (w : World) : Calls Try.prog 9 #[] w fun r w' => r = .returned (.bool true) ∧ Below w.heap.size w w' := by
  have hcs : ∀ (w : World) (C : Array Value) (n c : Nat), (convert 33 33 (.slice (some ⟨w.heap.size, 0, none⟩) n c)).run Try.prog (w.alloc (.cells C 5)) = .ok (.slice (some ⟨w.heap.size, 0, none⟩) n c) (w.alloc (.cells C 5 (C.size, C.size + 1))) := fun w C n c => Lib.run_convert_bytes_const w 33 5 C n c Try.underlying33 Try.underlying5
  go_enter Try.func9, Try.ntmps9
  go_wp2_with fail
  refine (new_any 8 (by omega) _).mono ?_
  rintro e w1 ⟨rfl, hc1, hb1⟩
  have A1 : Hid (Aw w (.slice none 0 0) 0 [] 0 0 w1) := ⟨Ch.new hc1 (by omega) (Nat.lt_succ_self _) hc1.lt, hb1⟩
  clear hc1 hb1
  have z1 := A1.out.conv
  go_wp2_with fail
  have A1' := hide (A1.out.then (below_al (o := .cells #[.int .u8 97, .int .u8 98, .int .u8 99] 5 (3, 4)) (Below.refl _ _)))
  refine (feed_any _ [97, 98, 99] A1'.out.ch (SL.new w1 [97, 98, 99] 5 _ (by decide)) (by decide) (by intro _ k hk; have hk' : w1.heap.size = k := (by simpa [Value.ownBlock] using hk); exact ⟨by omega, by simp [Value.ownBlock]⟩)).mono ?_
  rintro e w2 ⟨rfl, v2, g2, hc2, hf2, ho2⟩
  have A2 : Hid (Aw w v2 g2 [97, 98, 99] 0 0 w2) := A1'.out.by hc2 hf2
  have z2 : w1.heap.size < w2.heap.size := Nat.lt_of_lt_of_le (by simp) hf2.size
  clear hc2 hf2 ho2
  go_wp2_with fail
  refine (take_any 2 A2.out.ch (by decide)).mono ?_
  rintro e w3 ⟨rfl, hr3, hc3, hf3⟩
  have A3 : Hid (Aw w v2 g2 [97, 98, 99] 2 2 w3) := A2.out.by hc3 hf3
  have R3 : Hid (RB w3 w2.heap.size [97, 98]) := hr3
  have z3 := hr3.lt
  have V3 : Hid (v2.ownBlock ≠ some w2.heap.size) := fun e => by have := (A2.out.ch.own.row _ e).2; omega
  clear hc3 hf3 hr3
  go_wp2_with fail
  refine (take_no 2 A3.out.ch (by decide)).mono ?_
  rintro e w4 ⟨rfl, m4, hm4⟩
  have A4 : Hid (Aw w v2 g2 [97, 98, 99] 2 2 w4) := by subst hm4; exact A3.out.then (below_drewN _ _ _)
  have R4 : Hid (RB w4 w2.heap.size [97, 98]) := by subst hm4; exact R3.out
  have z4 : w3.heap.size ≤ w4.heap.size := by subst hm4; exact Nat.le_refl _
  clear hm4 A3 R3
  go_wp2_with fail
  have A4' := hide (A4.out.then (below_al (o := .cells #[.int .u8 100, .int .u8 101, .int .u8 102] 5 (3, 4)) (Below.refl _ _)))
  refine (feed_any _ [100, 101, 102] A4'.out.ch (SL.new w4 [100, 101, 102] 5 _ (by decide)) (by decide) (by intro _ k hk; have hk' : w4.heap.size = k := (by simpa [Value.ownBlock] using hk); exact ⟨by omega, fun e => by have := (A4.out.ch.own.row _ e).2; omega⟩)).mono ?_
  rintro e w5 ⟨rfl, v5, g5, hc5, hf5, ho5⟩
  have A5 : Hid (Aw w v5 g5 [97, 98, 99, 100, 101, 102] 2 2 w5) := A4'.out.by hc5 hf5
  have z5 : w4.heap.size < w5.heap.size := Nat.lt_of_lt_of_le (by simp) hf5.size
  have R5 : Hid (RB w5 w2.heap.size [97, 98]) := (R4.out.same (Below.heap_alloc _ _ _ (by omega))).same (hf5.block _ (by simp; omega) (by omega) V3.out)
  have V5 : Hid (v5.ownBlock ≠ some w2.heap.size) := fun e => by
    rcases ho5 with h | h
    · exact V3.out (h ▸ e)
    · have := h _ e; simp at this; omega
  clear hc5 hf5 ho5
  go_wp2_with fail
  refine (take_any 3 A5.out.ch (by decide)).mono ?_
  rintro e w6 ⟨rfl, hr6, hc6, hf6⟩
  have A6 : Hid (Aw w v5 g5 [97, 98, 99, 100, 101, 102] 5 5 w6) := A5.out.by hc6 hf6
  have R6 : Hid (RB w6 w5.heap.size [99, 100, 101]) := hr6
  have z6 := hr6.lt
  have Q6 : Hid (RB w6 w2.heap.size [97, 98]) := R5.out.same (hf6.block _ (by omega) (by omega) V5.out)
  have V6 : Hid (v5.ownBlock ≠ some w5.heap.size) := fun e => by have := (A5.out.ch.own.row _ e).2; omega
  clear hc6 hf6 hr6
  go_wp2_with fail
  refine (back_any 2 (by decide) (by decide) A6.out.ch).mono ?_
  rintro e w7 ⟨rfl, hc7, hf7⟩
  have A7 : Hid (Aw w v5 g5 [97, 98, 99, 100, 101, 102] 3 5 w7) := A6.out.by hc7 hf7
  have Q7 : Hid (RB w7 w2.heap.size [97, 98]) := Q6.out.same (hf7.block _ (by omega) (by omega) V5.out)
  have R7 : Hid (RB w7 w5.heap.size [99, 100, 101]) := R6.out.same (hf7.block _ (by omega) (by omega) V6.out)
  have z7 := hf7.size
  clear hc7 hf7
  rw [show backR 5 5 2 = 0 by decide]
  go_wp2_with fail
  have A7' := hide (A7.out.then (below_al (o := .cells #[.int .u8 103, .int .u8 104, .int .u8 105] 5 (3, 4)) (Below.refl _ _)))
  refine (feed_no _ 3 3 A7'.out.ch (by decide) (by decide)).mono ?_
  rintro e w8 ⟨rfl, m8, hm8⟩
  have A8 : Hid (Aw w v5 g5 [97, 98, 99, 100, 101, 102] 3 5 w8) := by subst hm8; exact A7'.out.then (below_drewN _ _ _)
  have Q8 : Hid (RB w8 w2.heap.size [97, 98]) := by subst hm8; exact Q7.out.same (Below.heap_alloc _ _ _ (by omega))
  have R8 : Hid (RB w8 w5.heap.size [99, 100, 101]) := by subst hm8; exact R7.out.same (Below.heap_alloc _ _ _ (by omega))
  clear hm8
  go_wp2_with fail
  refine (peek_any 3 A8.out.ch (by decide)).mono ?_
  rintro e w9 ⟨rfl, hr9, hb9⟩
  have A9 := hide (A8.out.then hb9)
  have S9 : Hid (SL w9 (.slice (some ⟨w8.heap.size, 0, none⟩) 3 3) [100, 101, 102]) := hr9.sl (l := [100, 101, 102]) (by decide)
  have S8 : Hid (SL w9 (.slice (some ⟨w5.heap.size, 0, none⟩) 3 3) [99, 100, 101]) := (R8.out.sl (l := [99, 100, 101]) (by decide)).below hb9
  have S7 : Hid (SL w9 (.slice (some ⟨w2.heap.size, 0, none⟩) 2 2) [97, 98]) := (Q8.out.sl (l := [97, 98]) (by decide)).below hb9
  clear hr9 hb9
  have hv1 : ∀ d, (convert 33 9 (.slice (some ⟨w2.heap.size, 0, none⟩) 2 2)).run Try.prog (w9.drewN d) = .ok (.string ⟨#[97, 98]⟩) (w9.drewN d) := fun d => (S7.out.below (below_drewN _ _ _)).conv
  have hv2 : ∀ d, (convert 33 9 (.slice (some ⟨w5.heap.size, 0, none⟩) 3 3)).run Try.prog (w9.drewN d) = .ok (.string ⟨#[99, 100, 101]⟩) (w9.drewN d) := fun d => (S8.out.below (below_drewN _ _ _)).conv
  have hv3 : ∀ d, (convert 33 9 (.slice (some ⟨w8.heap.size, 0, none⟩) 3 3)).run Try.prog (w9.drewN d) = .ok (.string ⟨#[100, 101, 102]⟩) (w9.drewN d) := fun d => (S9.out.below (below_drewN _ _ _)).conv
  have tot := hide (fun n => total_any (A9.out.ch.dn n))
  have lef := hide (fun n => left_any (A9.out.ch.dn n))
  have bck := hide (fun n => back_no 17 (by decide) (by decide) (A9.out.ch.dn n) (by decide))
  have hu1 := hv1 0
  have hu2 := hv2 0
  have hu3 := hv3 0
  rw [World.drewN_zero] at hu1 hu2 hu3
  go_wp2_with (first | (go_at_call 16; refine (tot.out 0).mono ?_; rintro e wa ⟨rfl, ma, rfl⟩) | (go_at_call 15; refine (lef.out _).mono ?_; rintro e wb ⟨rfl, mb, rfl⟩) | (go_at_call 14; refine (bck.out _).mono ?_; rintro e wc ⟨rfl, mc, rfl⟩; rw [show backR 3 5 17 = 60 by decide]))
  go_ret
  exact ⟨rfl, A9.out.below.trans (below_drewN _ _ _)⟩
end Go.Proofs.Ytpkmgkdgjghpdaa
