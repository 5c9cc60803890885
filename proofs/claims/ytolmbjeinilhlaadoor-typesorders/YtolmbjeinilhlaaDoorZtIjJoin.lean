/- types.join, Join: walked. -/
import Derived.Test.YtolmbjeinilhlaaDoorZtIaUnited
import Derived.Test.YtolmbjeinilhlaaDoorZtIhM
namespace Go.Proofs.YtolmbjeinilhlaaDoor
open Go.RowKit Go.Maps
set_option linter.unusedSimpArgs false
set_option linter.unusedVariables false
/-- What join answers. -/
def JoinB (n : Nat) (x y : TT (n + 1)) (w : World) (e : Ending) (w' : World) : Prop := ∃ (j : TT (n + 1)) (ns2 ls2 : Value), e = .returned (.agg (tvs j.1 ns2 ls2)) ∧ Hid (Jn n x y j ∧ RT (n + 1) w' j ns2 ls2) ∧ Below w.heap.size w w'
set_option maxHeartbeats 2000000 in
set_option maxRecDepth 100000 in
theorem join_any (n : Nat) (x y : TT (n + 1)) (ns ls ns' ls' : Value) (w : World) (hx : RT (n + 1) w x ns ls) (hy : RT (n + 1) w y ns' ls') (zx : TSz (n + 1) x) (zy : TSz (n + 1) y) (tx : IsT (n + 1) x) (ty : IsT (n + 1) y) (sx : tsiz (n + 1) x ≤ 4096) (sy : tsiz (n + 1) y ≤ 4096) (gu : Ut.Gu w) (gt : Gt w) :
    Calls Tryd.prog 44 #[.agg (tvs x.1 ns ls), .agg (tvs y.1 ns' ls')] w fun e w' => JoinB n x y w e w' := by
  obtain ⟨a1, m1, d1, a2, m2, d2, rfl, rfl⟩ := hx.shape
  obtain ⟨a3, m3, d3, a4, m4, d4, rfl, rfl⟩ := hy.shape
  obtain ⟨b1, h1⟩ := tells (Prt (n + 1) x y)
  obtain ⟨b2, h2⟩ := tells (Prt (n + 1) y x)
  have c1 := hide (fun W (hb : Below w.heap.size w W) => Calls.tb (part_ok (n + 1) x y _ _ _ _ W (hx.below hb) (hy.below hb) zx zy tx ty) h1)
  have c2 := hide (fun W (hb : Below w.heap.size w W) => Calls.tb (part_ok (n + 1) y x _ _ _ _ W (hy.below hb) (hx.below hb) zy zx ty tx) h2)
  obtain ⟨⟨hk, hm⟩, l⟩ := x
  obtain ⟨⟨gk, gm⟩, m⟩ := y
  have c3 := hide (fun (e1 : hk = 11) (e2 : gk = 11) W (hb : Below w.heap.size w W) => united_any n ⟨hk, hm⟩ ⟨gk, gm⟩ l m _ _ _ _ w W hb hx hy zx zy tx ty e1 e2 sx sy (gu.below hb) (gt.below hb))
  have hxr := hide (fun W (hb : Below w.heap.size w W) => hx.below hb)
  have hyr := hide (fun W (hb : Below w.heap.size w W) => hy.below hb)
  have h1' := hide h1
  have h2' := hide h2
  clear h1 h2
  clear hx hy zx zy tx ty sx sy gu gt
  simp only [thd, tvs] at c1 c2 c3
  obtain ⟨W0, hW0⟩ : ∃ W0, ((w.alloc (.cells #[.int .i64 hk, .slice a1 m1 d1, .slice a2 m2 d2] 26)).alloc (.cells #[.int .i64 gk, .slice a3 m3 d3, .slice a4 m4 d4] 26)).alloc (.cells #[.int .i64 0, .slice none 0 0, .slice none 0 0] 26) = W0 := ⟨_, rfl⟩
  have hb0 : Hid (Below w.heap.size w W0) := by rw [← hW0]; exact below_al (below_al (below_al (Below.refl _ _)))
  have hX : Hid (Tx W0 w.heap.size ⟨hk, hm⟩ (.slice a1 m1 d1) (.slice a2 m2 d2)) := by rw [← hW0]; exact (tx_new w ⟨hk, hm⟩ _ _).below (below_al (below_al (Below.refl _ _)))
  have hY : Hid (Tx W0 (w.heap.size + 1) ⟨gk, gm⟩ (.slice a3 m3 d3) (.slice a4 m4 d4)) := by
    rw [← hW0]
    have := tx_new (w.alloc (.cells #[.int .i64 hk, .slice a1 m1 d1, .slice a2 m2 d2] 26)) ⟨gk, gm⟩ (.slice a3 m3 d3) (.slice a4 m4 d4)
    rw [World.size_alloc] at this
    exact this.below (below_al (Below.refl _ _))
  have hZ : Hid (ZT W0 (w.heap.size + 2)) := by
    rw [← hW0]
    have := heap_alloc_last ((w.alloc (.cells #[.int .i64 hk, .slice a1 m1 d1, .slice a2 m2 d2] 26)).alloc (.cells #[.int .i64 gk, .slice a3 m3 d3, .slice a4 m4 d4] 26)) (.cells #[.int .i64 0, .slice none 0 0, .slice none 0 0] 26)
    rw [World.size_alloc, World.size_alloc] at this
    exact this
  obtain ⟨x0, x1, x2⟩ := hX.out.cells
  obtain ⟨y0, y1, y2⟩ := hY.out.cells
  show Calls _ _ #[.agg #[.int .i64 hk, .slice a1 m1 d1, .slice a2 m2 d2], .agg #[.int .i64 gk, .slice a3 m3 d3, .slice a4 m4 d4]] _ _
  go_enter Tryd.func44, Tryd.ntmps44
  go_wp2_with fail
  refine (c1.out _ hb0.out).mono ?_
  rintro e w1 ⟨rfl, hb1⟩
  have hw1 := hide (below_then hb0.out hb1)
  have hX1 := hide (hX.out.below hb1)
  have hY1 := hide (hY.out.below hb1)
  have hZ1 := hide (hZ.out.below hb1)
  clear x0 x1 x2 y0 y1 y2 hW0 hb1 hb0 hX hY hZ
  obtain ⟨x0, x1, x2⟩ := hX1.out.cells
  obtain ⟨y0, y1, y2⟩ := hY1.out.cells
  obtain ⟨z0, z1, z2⟩ := hZ1.out.cells
  have zf := hZ1.out.frz
  cases b1
  · go_wp2_with fail
    refine (c2.out _ hw1.out).mono ?_
    rintro e w2 ⟨rfl, hb2⟩
    have hw2 := hide (below_then hw1.out hb2)
    have hX2 := hide (hX1.out.below hb2)
    have hY2 := hide (hY1.out.below hb2)
    have hZ2 := hide (hZ1.out.below hb2)
    clear x0 x1 x2 y0 y1 y2 z0 z1 z2 zf hb2 hX1 hY1 hZ1 hw1
    obtain ⟨x0, x1, x2⟩ := hX2.out.cells
    obtain ⟨y0, y1, y2⟩ := hY2.out.cells
    obtain ⟨z0, z1, z2⟩ := hZ2.out.cells
    have zf := hZ2.out.frz
    cases b2
    · have np1 : Hid (¬ Prt (n + 1) ((⟨hk, hm⟩, l) : TT (n + 1)) (⟨gk, gm⟩, m)) := fun q => by have := h1'.out.2 q; cases this
      have np2 : Hid (¬ Prt (n + 1) ((⟨gk, gm⟩, m) : TT (n + 1)) (⟨hk, hm⟩, l)) := fun q => by have := h2'.out.2 q; cases this
      have fin : Hid (∀ W, Below w.heap.size w W → (¬ (hk = 11 ∧ gk = 11) ∨ Ubad n ((⟨hk, hm⟩, l) : TT (n + 1)) (⟨gk, gm⟩, m) ∨ ∃ nm ts, US n ((⟨hk, hm⟩, l) : TT (n + 1)) (⟨gk, gm⟩, m) gm.length nm ts ∧ ¬ TChk (n + 1) (⟨11, nm⟩, ts) 0) → JoinB n (⟨hk, hm⟩, l) (⟨gk, gm⟩, m) w (.returned (.agg #[.int .i64 1, .slice none 0 0, .slice none 0 0])) W) := by
        intro W hW hq
        exact ⟨anyT n, .slice none 0 0, .slice none 0 0, rfl, ⟨Or.inr (Or.inr (Or.inr ⟨np1.out, np2.out, hq, rfl⟩)), ⟨Or.inl ⟨rfl, rfl⟩, Or.inl ⟨rfl, rfl⟩⟩⟩, hW⟩
      by_cases e1 : hk = 11
      · by_cases e2 : gk = 11
        · have c4 := hide (c3.out e1 e2)
          have np1' := np1
          have np2' := np2
          subst e1 e2
          clear c1 c2 c3 hxr hyr h1' h2'
          go_wp2_with fail
          refine (c4.out _ hw2.out).mono ?_
          rintro e w3 ⟨hb3, hU⟩
          have hZ3 := hide (hZ2.out.below hb3)
          clear x0 x1 x2 y0 y1 y2 z0 z1 z2 zf
          have hZ4 := hide (fun o => hZ3.out.below (W1 := w3.alloc o) (below_al (Below.refl _ _)))
          have z0 := fun o => (hZ4.out o).cells.1
          have z1 := fun o => (hZ4.out o).cells.2.1
          have z2 := fun o => (hZ4.out o).cells.2.2
          have zf := fun o => (hZ4.out o).frz
          rcases hU with ⟨hbad, rfl⟩ | ⟨nm, ts, nv, lv, q, hus, rfl, ⟨hno0, hlo0⟩, hq0⟩
          · have hb3 := hide hb3
            have hbad := hide hbad
            go_wp2_with fail
            refine bodyPost_ret (v := .agg #[.int .i64 1, .slice none 0 0, .slice none 0 0]) (by simp [results, Tryd.results44, go_sem, *]) rfl ?_
            exact fin.out _ (by repeat (first | exact (below_then hw2.out hb3.out) | refine below_al ?_ | refine Below.setCell ?_ (by show w.heap.size ≤ w.heap.size + 2; omega) _)) (Or.inr (Or.inl hbad.out))
          · have hb3 := hide hb3
            have hus := hide hus
            have hq := hide hq0
            obtain ⟨xs, hxs, _⟩ := id hlo0
            obtain ⟨p1, p3, rfl⟩ := own_shape hno0
            obtain ⟨p4, p6, rfl⟩ := own_shape hxs
            clear hxs
            have hno := hide hno0
            have hlo := hide hlo0
            clear hq0 hno0 hlo0
            simp only [tvs]
            cases q
            · go_wp2_with fail
              refine bodyPost_ret (v := .agg #[.int .i64 1, .slice none 0 0, .slice none 0 0]) (by simp [results, Tryd.results44, go_sem, *]) rfl ?_
              exact fin.out _ (by repeat (first | exact (below_then hw2.out hb3.out) | refine below_al ?_ | refine Below.setCell ?_ (by show w.heap.size ≤ w.heap.size + 2; omega) _)) (Or.inr (Or.inr ⟨nm, ts, hus.out, fun k => by have := hq.out.2 k; cases this⟩))
            · go_wp2_with fail
              refine bodyPost_ret (v := .agg #[.int .i64 11, .slice p1 nm.length p3, .slice p4 ts.length p6]) (by simp [results, Tryd.results44, go_sem, *]) rfl ?_
              have hKlt := hZ2.out.lt
              have hW3 := hb3.out.size
              refine ⟨(⟨11, nm⟩, ts), .slice p1 nm.length p3, .slice p4 ts.length p6, rfl, ⟨Or.inr (Or.inr (Or.inl ⟨np1.out, np2.out, rfl, rfl, nm, ts, hus.out, hq.out.1 (by simp), rfl⟩)), OwnS.nl (ownsRow_of hno.out fun q e hq => ?_), (hlo.out.keep fun q e hq => ?_).vl ?_⟩, ?_⟩
              · have hne : q ≠ w.heap.size + 2 := by have := (World.ownsRow.lt hno.out q e).1; omega
                repeat rw [heap_set_ne hne]
                exact Below.heap_alloc _ _ _ hq
              · have hne : q ≠ w.heap.size + 2 := by have := (hlo.out.lt q e).1; omega
                repeat rw [heap_set_ne hne]
                exact Below.heap_alloc _ _ _ hq
              · repeat (first | exact (below_then hw2.out hb3.out) | refine below_al ?_ | refine Below.setCell ?_ (by show w.heap.size ≤ w.heap.size + 2; omega) _)
              · repeat (first | exact (below_then hw2.out hb3.out) | refine below_al ?_ | refine Below.setCell ?_ (by show w.heap.size ≤ w.heap.size + 2; omega) _)
        · have e2b : (gk == 11) = false := beq_eq_false_iff_ne.2 e2
          have e2d : decide (gk = 11) = false := decide_eq_false e2
          have e2h := hide e2
          have e1h := hide e1
          subst e1
          clear e2 c1 c2 c3
          go_wp2_with fail
          refine bodyPost_ret (v := .agg #[.int .i64 1, .slice none 0 0, .slice none 0 0]) (by simp [results, Tryd.results44, go_sem, *]) rfl ?_
          exact fin.out _ (by repeat (first | exact hw2.out | refine below_al ?_ | refine Below.setCell ?_ (by show w.heap.size ≤ w.heap.size + 2; omega) _)) (Or.inl fun q => e2h.out q.2)
      · have e1b : (hk == 11) = false := beq_eq_false_iff_ne.2 e1
        have e1d : decide (hk = 11) = false := decide_eq_false e1
        have e1h := hide e1
        clear e1 c1 c2 c3
        go_wp2_with fail
        refine bodyPost_ret (v := .agg #[.int .i64 1, .slice none 0 0, .slice none 0 0]) (by simp [results, Tryd.results44, go_sem, *]) rfl ?_
        exact fin.out _ (by repeat (first | exact hw2.out | refine below_al ?_ | refine Below.setCell ?_ (by show w.heap.size ≤ w.heap.size + 2; omega) _)) (Or.inl fun q => e1h.out q.1)
    · go_wp2_with fail
      refine bodyPost_ret (v := .agg #[.int .i64 hk, .slice a1 m1 d1, .slice a2 m2 d2]) (by simp [results, Tryd.results44, go_sem, *]) rfl ?_
      have hB : Below w.heap.size w (((w2.setCell ⟨w.heap.size + 2, 0, none⟩ (.int .i64 hk)).setCell ⟨w.heap.size + 2, 1, none⟩ (.slice a1 m1 d1)).setCell ⟨w.heap.size + 2, 2, none⟩ (.slice a2 m2 d2)) := by
        iterate 3 refine Below.setCell ?_ (by show w.heap.size ≤ w.heap.size + 2; omega) _
        exact hw2.out
      exact ⟨(⟨hk, hm⟩, l), _, _, rfl, ⟨Or.inr (Or.inl ⟨fun q => (by have := h1'.out.2 q; cases this), h2'.out.1 (by simp), rfl⟩), hxr.out _ hB⟩, hB⟩
  · go_wp2_with fail
    refine bodyPost_ret (v := .agg #[.int .i64 gk, .slice a3 m3 d3, .slice a4 m4 d4]) (by simp [results, Tryd.results44, go_sem, *]) rfl ?_
    have hB : Below w.heap.size w (((w1.setCell ⟨w.heap.size + 2, 0, none⟩ (.int .i64 gk)).setCell ⟨w.heap.size + 2, 1, none⟩ (.slice a3 m3 d3)).setCell ⟨w.heap.size + 2, 2, none⟩ (.slice a4 m4 d4)) := by
      iterate 3 refine Below.setCell ?_ (by show w.heap.size ≤ w.heap.size + 2; omega) _
      exact hw1.out
    exact ⟨(⟨gk, gm⟩, m), _, _, rfl, ⟨Or.inl ⟨h1'.out.1 (by simp), rfl⟩, hyr.out _ hB⟩, hB⟩
set_option maxHeartbeats 2000000 in
set_option maxRecDepth 100000 in
theorem Join_any (n : Nat) (x y : TT (n + 1)) (ns ls ns' ls' : Value) (w : World) (hx : TRd (n + 1) w x ns ls) (hy : TRd (n + 1) w y ns' ls') (gu : Ut.Gu w) (gt : Gt w) (E F : Int) (hE : TChk (n + 1) x E) (hF : TChk (n + 1) y F) :
    Calls Tryd.prog 20 #[.agg (tvs x.1 ns ls), .agg (tvs y.1 ns' ls')] w fun e w' => JoinP n (Chk2 E F) x y w e w' := by
  obtain ⟨a1, m1, d1, a2, m2, d2, rfl, rfl⟩ := hx.rd.shape
  obtain ⟨a3, m3, d3, a4, m4, d4, rfl, rfl⟩ := hy.rd.shape
  have c1 := hide (fun W (hb : Below w.heap.size w W) => checkBoth_any (n + 1) (n + 1) x y _ _ _ _ W (hx.below hb) (hy.below hb) (gu.below hb) (gt.below hb) E F hE hF)
  have c2 := hide (fun (q : Chk2 E F = 0) W (hb : Below w.heap.size w W) => join_any n x y _ _ _ _ W (hx.rd.below hb) (hy.rd.below hb) hx.sz hy.sz (by obtain ⟨e1, e2⟩ := chk2_zero q; rw [e1] at hE; exact hE.zero.1) (by obtain ⟨e1, e2⟩ := chk2_zero q; rw [e2] at hF; exact hF.zero.1) (by obtain ⟨e1, e2⟩ := chk2_zero q; rw [e1] at hE; exact hE.zero.2.2.2) (by obtain ⟨e1, e2⟩ := chk2_zero q; rw [e2] at hF; exact hF.zero.2.2.2) (gu.below hb) (gt.below hb))
  have c3 := hide (fun (q : Chk2 E F = 0) (j : TT (n + 1)) (hj : Jn n x y j) ns2 ls2 W (hr : RT (n + 1) W j ns2 ls2) => copied_any (n + 1) j ns2 ls2 W hr (by
    obtain ⟨e1, e2⟩ := chk2_zero q
    rw [e1] at hE
    rw [e2] at hF
    have h1 := (hj.chk hE hF).zero
    have h2 := tcnt_isT _ j h1.1
    have h3 := h1.2.2.2
    omega))
  obtain ⟨C, hC⟩ : ∃ C, Chk2 E F = C := ⟨_, rfl⟩
  rw [hC] at c1 c2 c3 ⊢
  obtain ⟨⟨hk, hm⟩, l⟩ := x
  obtain ⟨⟨gk, gm⟩, m⟩ := y
  clear hx hy gu gt hE hF hC
  simp only [thd, tvs] at c1 c2 c3
  obtain ⟨W0, hW0⟩ : ∃ W0, ((w.alloc (.cells #[.int .i64 hk, .slice a1 m1 d1, .slice a2 m2 d2] 26)).alloc (.cells #[.int .i64 gk, .slice a3 m3 d3, .slice a4 m4 d4] 26)).alloc (.cells #[.int .i64 0, .slice none 0 0, .slice none 0 0] 26) = W0 := ⟨_, rfl⟩
  have hb0 : Hid (Below w.heap.size w W0) := by rw [← hW0]; exact below_al (below_al (below_al (Below.refl _ _)))
  have hX : Hid (Tx W0 w.heap.size ⟨hk, hm⟩ (.slice a1 m1 d1) (.slice a2 m2 d2)) := by rw [← hW0]; exact (tx_new w ⟨hk, hm⟩ _ _).below (below_al (below_al (Below.refl _ _)))
  have hY : Hid (Tx W0 (w.heap.size + 1) ⟨gk, gm⟩ (.slice a3 m3 d3) (.slice a4 m4 d4)) := by
    rw [← hW0]
    have := tx_new (w.alloc (.cells #[.int .i64 hk, .slice a1 m1 d1, .slice a2 m2 d2] 26)) ⟨gk, gm⟩ (.slice a3 m3 d3) (.slice a4 m4 d4)
    rw [World.size_alloc] at this
    exact this.below (below_al (Below.refl _ _))
  have hZ : Hid (ZT W0 (w.heap.size + 2)) := by
    rw [← hW0]
    have := heap_alloc_last ((w.alloc (.cells #[.int .i64 hk, .slice a1 m1 d1, .slice a2 m2 d2] 26)).alloc (.cells #[.int .i64 gk, .slice a3 m3 d3, .slice a4 m4 d4] 26)) (.cells #[.int .i64 0, .slice none 0 0, .slice none 0 0] 26)
    rw [World.size_alloc, World.size_alloc] at this
    exact this
  obtain ⟨x0, x1, x2⟩ := hX.out.cells
  obtain ⟨y0, y1, y2⟩ := hY.out.cells
  show Calls _ _ #[.agg #[.int .i64 hk, .slice a1 m1 d1, .slice a2 m2 d2], .agg #[.int .i64 gk, .slice a3 m3 d3, .slice a4 m4 d4]] _ _
  go_enter Tryd.func20, Tryd.ntmps20
  go_wp2_with fail
  refine (c1.out _ hb0.out).mono ?_
  rintro e w1 ⟨rfl, hb1⟩
  have hw1 := hide (below_then hb0.out hb1)
  have hX1 := hide (hX.out.below hb1)
  have hY1 := hide (hY.out.below hb1)
  have hZ1 := hide (hZ.out.below hb1)
  clear x0 x1 x2 y0 y1 y2 hW0 hb1 hb0 hX hY hZ c1
  obtain ⟨x0, x1, x2⟩ := hX1.out.cells
  obtain ⟨y0, y1, y2⟩ := hY1.out.cells
  obtain ⟨z0, z1, z2⟩ := hZ1.out.cells
  have zf := hZ1.out.frz
  by_cases h0 : C = 0
  · have c2' := hide (c2.out h0)
    have c3' := hide (c3.out h0)
    clear c2 c3
    subst h0
    go_wp2_with fail
    refine (c2'.out _ hw1.out).mono ?_
    rintro e w2 ⟨⟨⟨jk, jm⟩, jl⟩, ns2, ls2, rfl, hj, hb2⟩
    have hw2 := hide (below_then hw1.out hb2)
    have hZ2 := hide (hZ1.out.below hb2)
    obtain ⟨p1, p2, p3, p4, p5, p6, rfl, rfl⟩ := hj.out.2.shape
    have c4 := hide (c3'.out _ hj.out.1 _ _ w2 hj.out.2)
    simp only [tvs] at c4 ⊢
    clear x0 x1 x2 y0 y1 y2 z0 z1 z2 zf hb2
    go_wp2_with fail
    refine c4.out.mono ?_
    rintro e w3 ⟨ns3, ls3, rfl, hk3, hb3⟩
    obtain ⟨q1, q2, q3, q4, q5, q6, rfl, rfl⟩ := hk3.out.rd.shape
    obtain ⟨z0, z1, z2⟩ := (hZ2.out.below hb3).cells
    have zf := (hZ2.out.below hb3).frz
    have hZlt := hide hZ2.out.lt
    have hb3 := hide hb3
    go_wp2_with fail
    refine bodyPost_ret (v := .tuple #[.agg #[.int .i64 jk, .slice q1 q2 q3, .slice q4 q5 q6], .int .i64 0]) (by simp [results, Tryd.results20, go_sem, *]) rfl (Or.inr ⟨rfl, (⟨jk, jm⟩, jl), .slice q1 q2 q3, .slice q4 q5 q6, rfl, ⟨hj.out.1, ?_⟩, ?_⟩)
    · refine hk3.out.2.2 _ fun q h1 h2 => ?_
      have := hZlt.out
      have hne : q ≠ w.heap.size + 2 := by omega
      rw [heap_set_ne hne, heap_set_ne hne, heap_set_ne hne]
    · iterate 3 refine Below.setCell ?_ (by show w.heap.size ≤ w.heap.size + 2; omega) _
      exact below_then hw2.out hb3.out
  · have h1 : (C != 0) = true := by simpa using h0
    have h2 : (C == 0) = false := beq_eq_false_iff_ne.2 h0
    have h3 : decide (C = 0) = false := decide_eq_false h0
    have h0' := hide h0
    clear h0
    go_wp2_with fail
    refine bodyPost_ret (v := .tuple #[.agg #[.int .i64 0, .slice none 0 0, .slice none 0 0], .int .i64 C]) (by simp [results, Tryd.results20, go_sem, *]) rfl (Or.inl ⟨h0'.out, rfl, ?_⟩)
    iterate 3 refine Below.setCell ?_ (by show w.heap.size ≤ w.heap.size + 2; omega) _
    exact hw1.out
theorem joinOk : JoinOk := Join_any
end Go.Proofs.YtolmbjeinilhlaaDoor
