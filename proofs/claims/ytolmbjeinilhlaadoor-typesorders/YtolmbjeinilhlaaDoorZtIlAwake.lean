/- calamuslaw11.awake: walked, given Join. -/
import Derived.Test.YtolmbjeinilhlaaDoorZtIkEx
import Derived.Test.YtolmbjeinilhlaaDoorZtL
namespace Go.Proofs.YtolmbjeinilhlaaDoor
open Go.RowKit Go.Maps
set_option linter.unusedSimpArgs false
set_option linter.unusedVariables false
theorem sub_is {f : FuncId} {args : Array Value} {w : World} {p : Prop} {b : Bool} (h : Calls Tryd.prog f args w fun e w' => SubP 0 p w e w') (hb : b = true ↔ p) : Calls Tryd.prog f args w fun e w' => e = .returned (.tuple #[.bool b, .int .i64 0]) ∧ Below w.heap.size w w' := by
  refine h.mono ?_
  rintro e w' ⟨b', rfl, hq, hb'⟩
  have : b' = b := by
    have h1 := hq.out
    cases b <;> cases b'
    · rfl
    · exact absurd (hb.2 (h1.1 rfl).2) (by decide)
    · exact absurd (h1.2 ⟨rfl, hb.1 rfl⟩) (by decide)
    · rfl
  subst this
  exact ⟨rfl, hb'⟩
theorem join_ab (hJ : JoinOk) (w : World) (gu : Ut.Gu w) (gt : Gt w) (ns ls ns' ls' : Value) (W : World) (hb : Below w.heap.size w W) (h1 : RT 2 W (unT ⟨#[97]⟩ 5) ns ls) (h2 : RT 2 W (unT ⟨#[98]⟩ 7) ns' ls') :
    Calls Tryd.prog 20 #[.agg #[.int .i64 11, ns, ls], .agg #[.int .i64 11, ns', ls']] W fun e w' => ∃ g o c a2 m2 d2, e = .returned (.tuple #[.agg #[.int .i64 11, .slice (some ⟨g, o, none⟩) 2 c, .slice a2 m2 d2], .int .i64 0]) ∧ Hid (g < w'.heap.size ∧ w'.cell? ⟨g, o + 1, none⟩ = some (.string ⟨#[98]⟩)) ∧ Below W.heap.size W w' := by
  have ha := unT_chk ⟨#[97]⟩ 5 (by decide) (by decide) (by decide)
  have hb2 := unT_chk ⟨#[98]⟩ 7 (by decide) (by decide) (by decide)
  refine (hJ 1 _ _ ns ls ns' ls' W (TRd.of h1 ha) (TRd.of h2 hb2) (gu.below hb) (gt.below hb) 0 0 ha hb2).mono ?_
  rintro e w' (⟨q, _⟩ | ⟨_, j, ns2, ls2, rfl, hj, hb'⟩)
  · exact absurd rfl q
  · have hjj := jn_ab hj.out.1
    have hr := hj.out.2
    subst hjj
    obtain ⟨x1, x2, x3, a2, m2, d2, rfl, rfl⟩ := hr.shape
    obtain ⟨g, o, c, he, hg, h3, h4, h5⟩ := hr.1.at 1 (by decide)
    have he' := Value.slice.inj he
    obtain ⟨rfl, rfl, rfl⟩ := he'
    exact ⟨g, o, x3, a2, m2, d2, rfl, ⟨hg, h5⟩, hb'⟩
set_option maxHeartbeats 2000000 in
set_option maxRecDepth 100000 in
theorem lawake_any (hJ : JoinOk) (w : World) (gu : Ut.Gu w) (gt : Gt w) : Calls Tryd.prog 15 #[] w fun e w' => e = .returned (.bool true) ∧ Below w.heap.size w w' := by
  have c1 := hide (fun W (hb : Below w.heap.size w W) => sub_is (b := true) (has_any 1 (plT 0 5) (.slice none 0 0) (.slice none 0 0) 1 (nuT 0) (.slice none 0 0) (.slice none 0 0) W (plT_rd 0 5 W) (nuT_rd 0 W) (gu.below hb) (gt.below hb) 0 0 (plT_chk 0 5 (by decide)) five_chk) ⟨fun _ => five_in, fun _ => rfl⟩)
  have c2 := hide (fun W (hb : Below w.heap.size w W) => sub_is (b := false) (has_any 1 (plT 0 5) (.slice none 0 0) (.slice none 0 0) 1 (nuT (-1)) (.slice none 0 0) (.slice none 0 0) W (plT_rd 0 5 W) (nuT_rd (-1) W) (gu.below hb) (gt.below hb) 0 0 (plT_chk 0 5 (by decide)) half_chk) ⟨(fun q => by cases q), fun q => absurd q half_in⟩)
  have c3 := hide (fun W (hb : Below w.heap.size w W) => sub_is (b := true) (sub_any 1 (plT 0 5) (plT 0 4) (.slice none 0 0) (.slice none 0 0) (.slice none 0 0) (.slice none 0 0) W (plT_rd 0 5 W) (plT_rd 0 4 W) (gu.below hb) (gt.below hb) 0 0 (plT_chk 0 5 (by decide)) (plT_chk 0 4 (by decide))) ⟨fun _ => prt_54, fun _ => rfl⟩)
  have c4 := hide (fun W (hb : Below w.heap.size w W) => sub_is (b := false) (sub_any 1 (plT 0 4) (plT 0 5) (.slice none 0 0) (.slice none 0 0) (.slice none 0 0) (.slice none 0 0) W (plT_rd 0 4 W) (plT_rd 0 5 W) (gu.below hb) (gt.below hb) 0 0 (plT_chk 0 4 (by decide)) (plT_chk 0 5 (by decide))) ⟨(fun q => by cases q), fun q => absurd q prt_45⟩)
  have c5 := hide (fun ns ls ns' ls' W (hb : Below w.heap.size w W) h1 h2 => join_ab hJ w gu gt ns ls ns' ls' W hb h1 h2)
  have c6 := hide (fun W (hb : Below w.heap.size w W) => tcheck_any 1 (plT 0 0) (.slice none 0 0) (.slice none 0 0) W (plT_rd 0 0 W) (gu.below hb) (gt.below hb) 110 (plT_bad 0 0 (by decide) (by decide)))
  have c7 := hide (fun W (hb : Below w.heap.size w W) => tcheck_any 1 (plT 0 9) (.slice none 0 0) (.slice none 0 0) W (plT_rd 0 9 W) (gu.below hb) (gt.below hb) 110 (plT_bad 0 9 (by decide) (by decide)))
  simp only [plT, nuT, thd, vhd, tvs, vals] at c1 c2 c3 c4 c6 c7
  clear gu gt hJ
  have lp := hide lplain_any
  have lu := hide lunion_any
  obtain ⟨W0, hW0⟩ : ∃ W0, (w.alloc (.cells #[.int .i64 3, .bool false, .bool false, .string ⟨#[53]⟩, .int .i64 0, .int .u64 0, .string ⟨#[]⟩, .slice none 0 0, .slice none 0 0] 33)).alloc (.cells #[.int .i64 3, .bool false, .bool false, .string ⟨#[53]⟩, .int .i64 (-1), .int .u64 0, .string ⟨#[]⟩, .slice none 0 0, .slice none 0 0] 33) = W0 := ⟨_, rfl⟩
  have hb0 : Hid (Below w.heap.size w W0) := by rw [← hW0]; exact below_al (below_al (Below.refl _ _))
  have hA : Hid (Bx W0 w.heap.size (nuT 0).1 (.slice none 0 0) (.slice none 0 0)) := by rw [← hW0]; exact (bx_new w (nuT 0).1 _ _).below (below_al (Below.refl _ _))
  have hB : Hid (Bx W0 (w.heap.size + 1) (nuT (-1)).1 (.slice none 0 0) (.slice none 0 0)) := by
    rw [← hW0]
    have := bx_new (w.alloc (.cells #[.int .i64 3, .bool false, .bool false, .string ⟨#[53]⟩, .int .i64 0, .int .u64 0, .string ⟨#[]⟩, .slice none 0 0, .slice none 0 0] 33)) (nuT (-1)).1 (.slice none 0 0) (.slice none 0 0)
    rw [World.size_alloc] at this
    exact this
  have hW0' := hide hW0
  clear hW0
  go_enter Tryd.func15, Tryd.ntmps15
  go_wp2_with fail
  rw [hW0'.out]
  clear hW0'
  obtain ⟨a0, a1, a2, a3, a4, a5, a6, a7, a8⟩ := hA.out.cells
  simp only [nuT] at a0 a1 a2 a3 a4 a5 a6 a7 a8
  go_region_law (first | (go_simp; go_at_call 22; refine (lp.out 5 _).mono ?_; rintro e w1 ⟨rfl, hb1⟩; have T1 : Hid (Below W0.heap.size W0 w1) := below_then (by repeat (first | exact Below.refl _ _ | refine below_dr ?_ | refine below_al ?_ | refine below_dn ?_ _)) hb1; obtain ⟨b0, b1, b2, b3, b4, b5, b6, b7, b8⟩ := (hA.out.below T1.out).cells; simp only [nuT] at b0 b1 b2 b3 b4 b5 b6 b7 b8; clear hb1; dsimp only) | (go_simp; go_at_call 13; refine (c1.out _ (below_then hb0.out (below_then T1.out (by repeat (first | exact Below.refl _ _ | refine below_dr ?_ | refine below_al ?_ | refine below_dn ?_ _))))).mono ?_; rintro e w2 ⟨rfl, hb2⟩; have T2 : Hid (Below W0.heap.size W0 w2) := below_then (below_then T1.out (by repeat (first | exact Below.refl _ _ | refine below_dr ?_ | refine below_al ?_ | refine below_dn ?_ _))) hb2; clear hb2; dsimp only))
  all_goals
    clear a0 a1 a2 a3 a4 a5 a6 a7 a8 b0 b1 b2 b3 b4 b5 b6 b7 b8 T1
    go_wp2_with fail
    obtain ⟨a0, a1, a2, a3, a4, a5, a6, a7, a8⟩ := (hB.out.below T2.out).cells
    simp only [nuT] at a0 a1 a2 a3 a4 a5 a6 a7 a8
    go_region_law (first | (go_simp; go_at_call 22; refine (lp.out 5 _).mono ?_; rintro e w3 ⟨rfl, hb3⟩; have T3 : Hid (Below W0.heap.size W0 w3) := below_then (below_then T2.out (by repeat (first | exact Below.refl _ _ | refine below_dr ?_ | refine below_al ?_ | refine below_dn ?_ _))) hb3; obtain ⟨b0, b1, b2, b3, b4, b5, b6, b7, b8⟩ := (hB.out.below T3.out).cells; simp only [nuT] at b0 b1 b2 b3 b4 b5 b6 b7 b8; clear hb3; dsimp only) | (go_simp; go_at_call 13; refine (c2.out _ (below_then hb0.out (below_then T3.out (by repeat (first | exact Below.refl _ _ | refine below_dr ?_ | refine below_al ?_ | refine below_dn ?_ _))))).mono ?_; rintro e w4 ⟨rfl, hb4⟩; have T4 : Hid (Below w.heap.size w w4) := below_then (below_then hb0.out (below_then T3.out (by repeat (first | exact Below.refl _ _ | refine below_dr ?_ | refine below_al ?_ | refine below_dn ?_ _)))) hb4; clear hb4; dsimp only))
    all_goals
      clear a0 a1 a2 a3 a4 a5 a6 a7 a8 b0 b1 b2 b3 b4 b5 b6 b7 b8 T3
      go_wp2_with fail
      refine (lp.out 5 _).mono ?_
      rintro e w5 ⟨rfl, hb⟩
      have T5 := hide (below_then T4.out hb)
      clear hb
      go_wp2_with fail
      refine (lp.out 4 _).mono ?_
      rintro e w6 ⟨rfl, hb⟩
      have T6 := hide (below_then T5.out hb)
      clear hb
      go_wp2_with fail
      refine (c3.out _ T6.out).mono ?_
      rintro e w7 ⟨rfl, hb⟩
      have T7 := hide (below_then T6.out hb)
      clear hb
      go_wp2_with fail
      refine (lp.out 4 _).mono ?_
      rintro e w8 ⟨rfl, hb⟩
      have T8 := hide (below_then T7.out hb)
      clear hb
      go_wp2_with fail
      refine (lp.out 5 _).mono ?_
      rintro e w9 ⟨rfl, hb⟩
      have T9 := hide (below_then T8.out hb)
      clear hb
      go_wp2_with fail
      refine (c4.out _ T9.out).mono ?_
      rintro e w10 ⟨rfl, hb⟩
      have T10 := hide (below_then T9.out hb)
      clear hb
      go_wp2_with fail
      refine (lp.out 5 _).mono ?_
      rintro e w11 ⟨rfl, hb⟩
      have T11 := hide (below_then T10.out hb)
      clear hb
      go_wp2_with fail
      refine (lu.out ⟨#[97]⟩ 5 _).mono ?_
      rintro e w12 ⟨p1, p2, rfl, hr1, hb⟩
      have T12 := hide (below_then T11.out hb)
      clear hb
      go_wp2_with fail
      refine (lp.out 7 _).mono ?_
      rintro e w13 ⟨rfl, hb⟩
      have T13 := hide (below_then T12.out hb)
      have hr2 := hide (hr1.out.below hb)
      clear hb
      go_wp2_with fail
      refine (lu.out ⟨#[98]⟩ 7 _).mono ?_
      rintro e w14 ⟨q1, q2, rfl, hr3, hb⟩
      have T14 := hide (below_then T13.out hb)
      have hr4 := hide (hr2.out.below hb)
      clear hb
      go_wp2_with fail
      refine (c5.out _ _ _ _ _ T14.out hr4.out hr3.out).mono ?_
      rintro e w15 ⟨g, o, c, x2, y2, z2, rfl, hj, hb⟩
      have T15 := hide (below_then T14.out hb)
      clear hb
      have hcj : ∀ ob, (w15.alloc ob).cell? ⟨g, o + 1, none⟩ = some (.string ⟨#[98]⟩) := fun ob => ((below_al (Below.refl w15.heap.size w15)).cell (p := ⟨g, o + 1, none⟩) hj.out.1).trans hj.out.2
      go_wp2_with fail
      refine (c6.out _ (below_al T15.out)).mono ?_
      rintro e w16 ⟨rfl, hb⟩
      have T16 := hide (below_then (below_al T15.out) hb)
      clear hb
      go_wp2_with fail
      refine (lp.out 9 _).mono ?_
      rintro e w17 ⟨rfl, hb⟩
      have T17 := hide (below_then T16.out hb)
      clear hb
      go_wp2_with fail
      refine (c7.out _ T17.out).mono ?_
      rintro e w18 ⟨rfl, hb⟩
      have T18 := hide (below_then T17.out hb)
      clear hb
      go_wp2_with fail
      go_ret
      exact ⟨rfl, T18.out⟩
end Go.Proofs.YtolmbjeinilhlaaDoor
