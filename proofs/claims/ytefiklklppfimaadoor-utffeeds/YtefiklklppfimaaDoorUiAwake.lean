/- calamuslaw03.awake: walked. -/
import Derived.Test.YtefiklklppfimaaDoorUhCheck
namespace Go.Proofs.YtefiklklppfimaaDoor
open Go.RowKit
set_option linter.unusedSimpArgs false
set_option linter.unusedVariables false
/-- What the package variables hold, of utf and of Go's library. -/
structure Gx (w : World) : Prop where
  gu : Gu w
  tabs : Lib.Utf8Tabs 2 3 w
  sz : 4 ≤ w.heap.size
theorem Gx.of {w W : World} (g : Gx w) (hs : w.heap.size ≤ W.heap.size) (h : ∀ k, k < 4 → W.heap[k]? = w.heap[k]?) : Gx W := by
  have hc : ∀ k o, k < 4 → W.cell? ⟨k, o, none⟩ = w.cell? ⟨k, o, none⟩ := fun k o hk => World.cell?_of_block (w := w) (h k hk)
  obtain ⟨t, fr, h0⟩ := g.gu.bt
  obtain ⟨t', fr', h1⟩ := g.gu.lg
  refine ⟨⟨⟨t, fr, by rw [h 0 (by omega)]; exact h0⟩, ⟨t', fr', by rw [h 1 (by omega)]; exact h1⟩⟩, ⟨fun c hcc => by rw [hc 2 c (by omega)]; exact g.tabs.1 c hcc, fun i hi => ?_⟩, Nat.le_trans g.sz hs⟩
  rw [hc 3 _ (by omega), hc 3 _ (by omega)]
  exact g.tabs.2 i hi
theorem Gx.below {w W : World} (g : Gx w) (h : Below w.heap.size w W) : Gx W := g.of h.size fun k hk => h.block k (Nat.lt_of_lt_of_le hk g.sz)
theorem Gx.but {i : Nat} {w W : World} (g : Gx w) (h : But i w W) (hi : 4 ≤ i) : Gx W := g.of h.size fun k hk => h.block k (Nat.lt_of_lt_of_le hk g.sz) (by omega)
theorem SL.one (w : World) (c : UInt8) (T : TypeId) : SL (w.alloc (.cells #[.int .u8 (c.toNat : Int)] T)) (.slice (some ⟨w.heap.size, 0, none⟩) 1 1) [c] := by
  refine Or.inr ⟨⟨w.heap.size, 0, none⟩, 1, rfl, Nat.le_refl _, by decide, fun i hi => ⟨by simp, ?_⟩⟩
  simp at hi
  subst hi
  simp [Addr.add]
theorem SL.two (w : World) (c d : UInt8) (T : TypeId) : SL (w.alloc (.cells #[.int .u8 (c.toNat : Int), .int .u8 (d.toNat : Int)] T)) (.slice (some ⟨w.heap.size, 0, none⟩) 2 2) [c, d] := by
  refine Or.inr ⟨⟨w.heap.size, 0, none⟩, 2, rfl, Nat.le_refl _, by decide, fun i hi => ⟨by simp, ?_⟩⟩
  simp at hi
  match i, hi with
  | 0, _ => simp [Addr.add]
  | 1, _ => simp [Addr.add]
/-- The call's own checker: where it lies, and what has turned. -/
structure Ck (w : World) (i : Nat) (o : Option St) (W : World) : Prop where
  below : Below w.heap.size w W
  kb : KB W i o
  le : w.heap.size ≤ i
  gx : Gx W
theorem Ck.then {w W W1 : World} {i : Nat} {o : Option St} (c : Ck w i o W) (h : Below W.heap.size W W1) : Ck w i o W1 := ⟨below_then c.below h, c.kb.then h, c.le, c.gx.below h⟩
theorem Ck.fed {w W W1 : World} {i : Nat} {o o' : Option St} (c : Ck w i o W) (hw : 4 ≤ w.heap.size) (h : But i W W1) (k : KB W1 i o') : Ck w i o' W1 :=
  ⟨c.below.trans (h.below c.le c.below.size), k, c.le, c.gx.but h (by have := c.le; omega)⟩
set_option maxHeartbeats 2000000 in
theorem awake_any (w : World) (g : Gx w) : Calls Tryd.prog 11 #[] w fun r w' => r = .returned (.bool true) ∧ Below w.heap.size w w' := by
  have g0 := hide g
  have hsz := g.sz
  clear g
  go_enter Tryd.func11, Tryd.ntmps11
  go_wp2_with fail
  refine (encode_any 8364 _ (by omega) (by omega)).mono ?_
  rintro e w1 ⟨rfl, hw1⟩
  have hw1' := hw1.symm
  clear hw1
  subst hw1'
  rw [if_pos (show Utf8.valid 8364 = true by decide)]
  have hen : Utf8.encode 8364 = ⟨#[226, 130, 172]⟩ := by decide
  rw [hen]
  go_wp2_with fail
  refine (decode_any ⟨#[97, 226, 130, 172]⟩ 1 _ g0.out.gu g0.out.tabs (by decide)).mono ?_
  rintro e w2 ⟨rfl, hb2⟩
  rw [show decA (bl ⟨#[97, 226, 130, 172]⟩) 1 = (8364, 3, 0) by decide]
  have g2 := hide (g0.out.below hb2)
  have b2 := hide hb2
  clear hb2
  go_wp2_with fail
  refine (decode_any ⟨#[226, 130]⟩ 0 _ g2.out.gu g2.out.tabs (by decide)).mono ?_
  rintro e w3 ⟨rfl, hb3⟩
  rw [show decA (bl ⟨#[226, 130]⟩) 0 = (0, 0, 31) by decide]
  have g3 := hide (g2.out.below hb3)
  have b3 := hide (below_then b2.out hb3)
  clear hb3
  go_wp2_with fail
  refine (count_any ⟨#[195, 169, 97]⟩ _ g3.out.gu (by decide)).mono ?_
  rintro e w4 ⟨rfl, hb4⟩
  rw [if_pos (show okT (bl ⟨#[195, 169, 97]⟩) = true by decide), show chars (bl ⟨#[195, 169, 97]⟩) = 2 by decide]
  have g4 := hide (g3.out.below hb4)
  have b4 := hide (below_then b3.out hb4)
  clear hb4
  go_wp2_with fail
  refine (new_any _).mono ?_
  rintro e w5 ⟨rfl, hk5, hb5⟩
  have C5 : Hid (Ck w w4.heap.size (some .i8) w5) := ⟨below_then b4.out hb5, hk5, b4.out.size, g4.out.below hb5⟩
  clear hk5 hb5
  go_wp2_with fail
  refine (feed_any w4.heap.size (some .i8) _ [226] _ (C5.out.then (below_al (Below.refl _ _))).gx.gu (C5.out.then (below_al (Below.refl _ _))).kb (SL.one w5 226 _) (by decide)).mono ?_
  rintro e w6 ⟨rfl, hk6, hb6⟩
  have C6 : Hid (Ck w w4.heap.size (some .i32) w6) := (C5.out.then (below_al (Below.refl _ _))).fed hsz hb6 hk6
  clear hk6 hb6
  go_wp2_with fail
  refine (end_any w4.heap.size (some .i32) _ C6.out.gx.gu C6.out.kb).mono ?_
  rintro e w7 ⟨rfl, hb7⟩
  have C7 := hide (C6.out.then hb7)
  clear hb7
  go_wp2_with fail
  refine (feed_any w4.heap.size (some .i32) _ [130, 172] _ (C7.out.then (below_al (Below.refl _ _))).gx.gu (C7.out.then (below_al (Below.refl _ _))).kb (SL.two w7 130 172 _) (by decide)).mono ?_
  rintro e w8 ⟨rfl, hk8, hb8⟩
  have C8 : Hid (Ck w w4.heap.size (some .i8) w8) := (C7.out.then (below_al (Below.refl _ _))).fed hsz hb8 hk8
  clear hk8 hb8
  go_wp2_with fail
  refine (end_any w4.heap.size (some .i8) _ C8.out.gx.gu C8.out.kb).mono ?_
  rintro e w9 ⟨rfl, hb9⟩
  have C9 := hide (C8.out.then hb9)
  clear hb9
  go_wp2_with fail
  refine (feed_any w4.heap.size (some .i8) _ [255] _ (C9.out.then (below_al (Below.refl _ _))).gx.gu (C9.out.then (below_al (Below.refl _ _))).kb (SL.one w9 255 _) (by decide)).mono ?_
  rintro e v0 ⟨rfl, hk0, hb0⟩
  have D0 : Hid (Ck w w4.heap.size none v0) := (C9.out.then (below_al (Below.refl _ _))).fed hsz hb0 hk0
  clear hk0 hb0
  go_wp2_with fail
  refine (valid_any ⟨#[237, 160, 128]⟩ _ D0.out.gx.gu (by decide)).mono ?_
  rintro e v1 ⟨rfl, hb1⟩
  rw [show okT (bl ⟨#[237, 160, 128]⟩) = false by decide]
  have D1 := hide (below_then D0.out.below hb1)
  clear hb1
  go_wp2_with fail
  go_ret
  exact ⟨rfl, D1.out⟩
end Go.Proofs.YtefiklklppfimaaDoor
