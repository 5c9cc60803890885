/- calamuslaw05.EventFlattens: walked. -/
import Derived.Test.YthbfopdeaknbkaaDoorEvEvents
import Derived.Test.YthbfopdeaknbkaaDoorEqAwake
import Derived.Test.YthbfopdeaknbkaaDoorXkVal
namespace Go.Proofs.YthbfopdeaknbkaaDoor
open Go.RowKit
set_option linter.unusedSimpArgs false
set_option linter.unusedVariables false
set_option maxHeartbeats 2000000 in
set_option maxRecDepth 100000 in
/-- What the reference's Flatten answers. -/
theorem rflatten_any (n : Nat) (x : VT n) (ns ls : Value) (w : World) (hr : Rdy n w x ns ls) (E : Int) (hE : Chk n x E) :
    Calls Tryd.prog 12 #[.agg (vals (vhd n x) ns ls)] w fun e w' => ∃ v, e = .returned (.tuple #[v, .int .i64 E]) ∧ Below w.heap.size w w' ∧ Hid (ES w' v (if E = 0 then fl n x else [])) := by
  obtain ⟨a1, m1, d1, a2, m2, d2, rfl, rfl⟩ := hr.rd.shape
  have ck := hide (fun W (hb : Below w.heap.size w W) => rcheck_any rval n x (.slice a1 m1 d1) (.slice a2 m2 d2) W (hr.below hb) E hE)
  obtain ⟨h, hh⟩ : ∃ h, vhd n x = h := ⟨_, rfl⟩
  have hB0 := hide (bx_new w h (.slice a1 m1 d1) (.slice a2 m2 d2))
  by_cases h0 : E = 0
  · subst h0
    have hv : IsV n x ∧ Win n x := by rcases hE with ⟨h, _⟩ | ⟨h, _⟩ | ⟨_, h⟩ <;> first | exact h | cases h
    have hl := fl_len n x
    have hs := hv.2.2.2
    have hlen : (fl n x).length ≤ 1000000 := by omega
    have ft := hide (fun W (hb : Below w.heap.size w W) => rflat_any n x (.slice a1 m1 d1) (.slice a2 m2 d2) W (hr.rd.below hb) hv.1 hlen)
    rw [if_pos rfl]
    rw [hh] at ck ft ⊢
    simp only [vals] at ck ft ⊢
    clear hr hE hv hl hs hlen
    go_enter Tryd.func12, Tryd.ntmps12
    go_wp2_with (go_at_call 29; refine Stop.out ?_)
    refine Stop.mk ((ck.out _ (below_al (Below.refl _ _))).mono ?_)
    rintro e w1 ⟨rfl, hb1⟩
    have B1 := hide (below_then (below_al (Below.refl _ _)) hb1)
    obtain ⟨c0, c1, c2, c3, c4, c5, c6, c7, c8⟩ := (hB0.out.below hb1).cells
    clear hb1
    go_wp2_with (go_at_call 30; refine Stop.out ?_)
    refine Stop.mk ((ft.out _ B1.out).mono ?_)
    rintro e w2 ⟨g, c, rfl, ho, hb2⟩
    have R2 := hide (ES.row ho.out rfl)
    have B2 := hide (below_then B1.out hb2.out)
    go_wp2_with fail
    exact bodyPost_ret (v := .tuple #[.slice (some ⟨g, 0, none⟩) (fl n x).length c, .int .i64 0]) (by simp [results, Tryd.results12, go_sem]) rfl ⟨_, rfl, B2.out, R2⟩
  · rw [if_neg h0]
    rw [hh] at ck ⊢
    simp only [vals] at ck ⊢
    clear hr hE
    go_enter Tryd.func12, Tryd.ntmps12
    go_wp2_with (go_at_call 29; refine Stop.out ?_)
    refine Stop.mk ((ck.out _ (below_al (Below.refl _ _))).mono ?_)
    rintro e w1 ⟨rfl, hb1⟩
    have B1 := hide (below_then (below_al (Below.refl _ _)) hb1)
    obtain ⟨c0, c1, c2, c3, c4, c5, c6, c7, c8⟩ := (hB0.out.below hb1).cells
    clear hb1
    go_wp2_with fail
    exact bodyPost_ret (v := .tuple #[.slice none 0 0, .int .i64 E]) (by simp [results, Tryd.results12, go_sem]) rfl ⟨_, rfl, B1.out, hide (ES.nil _)⟩
/-- Flatten's answer as a slice that reads. -/
theorem flatten_es (n : Nat) (x : VT n) (ns ls : Value) (w : World) (hr : Rdy n w x ns ls) (g : Ut.Gu w) (E : Int) (hE : Chk n x E) :
    Calls Tryd.prog 11 #[.agg (vals (vhd n x) ns ls)] w fun e w' => ∃ v, e = .returned (.tuple #[v, .int .i64 E]) ∧ Below w.heap.size w w' ∧ Hid (ES w' v (if E = 0 then fl n x else [])) := by
  refine (flat_any n x ns ls w hr g E hE).mono ?_
  rintro e w' ⟨v, rfl, hb, h0, h1⟩
  refine ⟨v, rfl, hb, ?_⟩
  by_cases e0 : E = 0
  · rw [if_pos e0]
    have ho := h0 e0
    obtain ⟨k, hk⟩ : ∃ k, (fl n x).length = k + 1 := ⟨(fl n x).length - 1, by have := fl_pos n x; omega⟩
    have ho' := ho
    rw [hk] at ho'
    obtain ⟨g', c', rfl⟩ := ownsRow_succ ho'
    rw [← hk] at ho ⊢
    exact hide (ES.row ho rfl)
  · rw [if_neg e0, h1 e0]
    exact hide (ES.nil _)
/-- Where EventFlattens stands: the struct, and its copy. -/
structure Fx (w : World) (n : Nat) (x : VT n) (h : Hd) (ns ls ns2 ls2 : Value) (i2 : Nat) (W : World) : Prop where
  below : Below w.heap.size w W
  ba : Bx W w.heap.size h ns ls
  bb : Bx W i2 h ns2 ls2
  rd : RD n W x ns2 ls2
theorem Fx.then {w W W1 : World} {n i2 : Nat} {x : VT n} {h : Hd} {ns ls ns2 ls2 : Value} (c : Fx w n x h ns ls ns2 ls2 i2 W) (hb : Below W.heap.size W W1) : Fx w n x h ns ls ns2 ls2 i2 W1 :=
  ⟨below_then c.below hb, c.ba.below hb, c.bb.below hb, c.rd.below hb⟩
theorem es_shape {W : World} {v : Value} {es : List Hd} (h : ES W v es) : ∃ a c, v = .slice a es.length c := by
  obtain ⟨a, c, rfl, _⟩ := h
  exact ⟨a, c, rfl⟩
set_option maxHeartbeats 4000000 in
set_option maxRecDepth 100000 in
theorem flattens_law (n : Nat) (x : VT n) (ns ls : Value) (w : World) (hr : RD n w x ns ls) (hz : Sz n x) (g : Ut.Gu w) :
    Calls Tryd.prog 3 #[.agg (vals (vhd n x) ns ls)] w fun e w' => e = .returned (.bool true) ∧ Below w.heap.size w w' := by
  obtain ⟨a1, m1, d1, a2, m2, d2, rfl, rfl⟩ := hr.shape
  obtain ⟨h, hh⟩ : ∃ h, vhd n x = h := ⟨_, rfl⟩
  have hbig := hide (fun o => Go.Proofs.YthbfopdeaknbkaaDoor.big_any n x (.slice a1 m1 d1) (.slice a2 m2 d2) (w.alloc o) (hr.below (below_al (Below.refl _ _))) hz)
  have hB0 := hide (bx_new w h (.slice a1 m1 d1) (.slice a2 m2 d2))
  have hb0 : Hid (∀ o, Below w.heap.size w (w.alloc o)) := fun o => below_al (Below.refl _ _)
  have hcp := hide (fun W (hb : Below w.heap.size w W) (hk : blk n x ≤ 65536) => copy_any n x _ _ W (hr.below hb) (by omega))
  replace hr := hide hr
  replace hz := hide hz
  replace g := hide g
  have hh' := hide hh
  rw [hh] at hbig hcp ⊢
  clear hh
  simp only [vals] at hcp hbig
  show Calls _ _ #[.agg #[.int .i64 h.kind, .bool h.flag, .bool h.neg, .string h.dig, .int .i64 h.exp, .int .u64 h.bits, .string h.text, .slice a1 m1 d1, .slice a2 m2 d2]] _ _
  go_enter Tryd.func3, Tryd.ntmps3
  go_wp2_with (go_at_call 9; refine Stop.out ?_)
  refine Stop.mk ((hbig.out _).mono ?_)
  rintro e w1 ⟨bb, rfl, hsm, hb1⟩
  have hw1 := hide (below_then (hb0.out _) hb1)
  have hB1 := hide (hB0.out.below hb1)
  clear hb1 hbig hB0
  cases bb
  · have hblk := hide (hsm.out rfl)
    obtain ⟨c0, c1, c2, c3, c4, c5, c6, c7, c8⟩ := hB1.out.cells
    go_wp2_with (go_at_call 10; refine Stop.out ?_)
    refine Stop.mk ((hcp.out _ hw1.out hblk.out.1).mono ?_)
    rintro e w2 ⟨ns2, ls2, rfl, hk2, hb2⟩
    obtain ⟨e1, e2, e3, e4, e5, e6, rfl, rfl⟩ := hk2.out.rd.shape
    clear c0 c1 c2 c3 c4 c5 c6 c7 c8
    have C2 : Hid (Fx w n x h (.slice a1 m1 d1) (.slice a2 m2 d2) (.slice e1 e2 e3) (.slice e4 e5 e6) w2.heap.size (w2.alloc (.cells (vals h (.slice e1 e2 e3) (.slice e4 e5 e6)) 29))) :=
      ⟨below_al (below_then hw1.out hb2), (hB1.out.below hb2).below (below_al (Below.refl _ _)), bx_new _ _ _ _, hk2.out.rd.below (below_al (Below.refl _ _))⟩
    clear hb2 hk2 hB1 hw1 hcp
    obtain ⟨E, hE⟩ := chk_ex n x
    have hsz : siz n x ≤ 65536 := Nat.le_trans (siz_blk n x) hblk.out.1
    have k1 := hide (fun W (c : Fx w n x h (.slice a1 m1 d1) (.slice a2 m2 d2) (.slice e1 e2 e3) (.slice e4 e5 e6) w2.heap.size W) => flatten_es n x _ _ W ⟨c.rd, hz.out, by omega⟩ (g.out.below c.below) E hE)
    have k2 := hide (fun W (c : Fx w n x h (.slice a1 m1 d1) (.slice a2 m2 d2) (.slice e1 e2 e3) (.slice e4 e5 e6) w2.heap.size W) => rflatten_any n x _ _ W ⟨hr.out.below c.below, hz.out, by omega⟩ E hE)
    have k7 := hide (fun W (c : Fx w n x h (.slice a1 m1 d1) (.slice a2 m2 d2) (.slice e1 e2 e3) (.slice e4 e5 e6) w2.heap.size W) => Calls.tb (b := true) (requal_any n x x _ _ _ _ W c.rd (hr.out.below c.below)) (by simp))
    rw [hh'.out] at k1 k2 k7
    simp only [vals] at k1 k2 k7
    obtain ⟨es, hes⟩ : ∃ es, (if E = 0 then fl n x else []) = es := ⟨_, rfl⟩
    rw [hes] at k1 k2
    clear hE hsz hes hblk hsm
    go_wp2_with (go_at_call 11; refine Stop.out ?_)
    refine Stop.mk ((k1.out _ C2.out).mono ?_)
    rintro e w3 ⟨v3, rfl, hb3, hs3⟩
    obtain ⟨b1, b2, rfl⟩ := es_shape hs3.out
    have C3 := hide (C2.out.then hb3)
    clear hb3 C2
    obtain ⟨p0, p1, p2, p3, p4, p5, p6, p7, p8⟩ := C3.out.ba.cells
    have zb := C3.out.bb.lt
    go_wp2_with (go_at_call 12; refine Stop.out ?_)
    refine Stop.mk ((k2.out _ C3.out).mono ?_)
    rintro e w4 ⟨v4, rfl, hb4, hs4⟩
    obtain ⟨b3, b4, rfl⟩ := es_shape hs4.out
    have C4 := hide (C3.out.then hb4)
    have S3 := hide (hs3.out.below hb4)
    clear hb4 C3 hs3 p0 p1 p2 p3 p4 p5 p6 p7 p8
    have aw := hide (awake_any w4 (g.out.below C4.out.below))
    go_wp2_with (go_at_call 13; refine Stop.out ?_)
    refine Stop.mk (aw.out.mono ?_)
    rintro e w5 ⟨rfl, hb5⟩
    have C5 := hide (C4.out.then hb5)
    have ev := hide (events_any _ _ es w5 (S3.out.below hb5) (hs4.out.below hb5))
    clear hb5 C4 S3 hs4 aw
    have hEE : (E == E) = true := by simp
    go_wp2_with (go_at_call 14; refine Stop.out ?_)
    refine Stop.mk (ev.out.mono ?_)
    rintro e w6 ⟨rfl, hb6⟩
    have C6 := hide (C5.out.then hb6)
    clear hb6 C5 ev
    obtain ⟨p0, p1, p2, p3, p4, p5, p6, p7, p8⟩ := C6.out.ba.cells
    obtain ⟨q0, q1, q2, q3, q4, q5, q6, q7, q8⟩ := C6.out.bb.cells
    go_wp2_with (go_at_call 15; refine Stop.out ?_)
    refine Stop.mk ((k7.out _ C6.out).mono ?_)
    rintro e w7 ⟨rfl, hb7⟩
    have B7 := hide (below_then C6.out.below hb7)
    clear hb7
    go_wp2_with fail
    go_ret
    exact ⟨rfl, B7.out⟩
  · go_wp2_with fail
    go_ret
    exact ⟨rfl, hw1.out⟩
end Go.Proofs.YthbfopdeaknbkaaDoor
