/- Merged by program: IjJoin, IkEx, IlAwake, IcCopyT, IzChecks. -/
import Derived.Test.YtlfnnecpinmjjaaDoorIaUnited
import Derived.Test.YtlfnnecpinmjjaaDoorIhM
import Derived.Test.YtlfnnecpinmjjaaDoorHsHas
import Derived.Test.YtlfnnecpinmjjaaDoorHvCopied
import Derived.Test.YtlfnnecpinmjjaaDoorWcBig
import Derived.Test.YtlfnnecpinmjjaaDoorIuM
import Derived.Test.YtlfnnecpinmjjaaDoorXqCopy
/- types.join, Join: walked. -/
namespace Go.Proofs.YtlfnnecpinmjjaaDoor
open Go.RowKit Go.Maps
set_option linter.unusedSimpArgs false
set_option linter.unusedVariables false
/-- What join answers. -/
def JoinB (n : Nat) (x y : TT (n + 1)) (w : World) (e : Ending) (w' : World) : Prop := ∃ (j : TT (n + 1)) (ns2 ls2 : Value), e = .returned (.agg (tvs j.1 ns2 ls2)) ∧ Hid (Jn n x y j ∧ RT (n + 1) w' j ns2 ls2) ∧ Below w.heap.size w w'
set_option maxHeartbeats 2000000 in
set_option maxRecDepth 100000 in
theorem join_any (n : Nat) (x y : TT (n + 1)) (ns ls ns' ls' : Value) (w : World) (hx : RT (n + 1) w x ns ls) (hy : RT (n + 1) w y ns' ls') (zx : TSz (n + 1) x) (zy : TSz (n + 1) y) (tx : IsT (n + 1) x) (ty : IsT (n + 1) y) (sx : tsiz (n + 1) x ≤ 4096) (sy : tsiz (n + 1) y ≤ 4096) (gu : Ut.Gu w) (gt : Gt w) :
    Calls Tryd.prog 44 #[.agg (tvs x.1 ns ls), .agg (tvs y.1 ns' ls')] w fun e w' => JoinB n x y w e w' := by
  obtain ⟨a1, m1, d1, a2, m2, d2, rfl, rfl⟩ := hx.shape
  obtain ⟨a3, m3, d3, a4, m4, d4, rfl, rfl⟩ := hy.shape
  obtain ⟨b1, h1⟩ := tells (Prt (n + 1) x y)
  obtain ⟨b2, h2⟩ := tells (Prt (n + 1) y x)
  have c1 := hide (fun W (hb : Below w.heap.size w W) => Calls.tb (part_ok (n + 1) x y _ _ _ _ W (hx.below hb) (hy.below hb) zx zy tx ty) h1)
  have c2 := hide (fun W (hb : Below w.heap.size w W) => Calls.tb (part_ok (n + 1) y x _ _ _ _ W (hy.below hb) (hx.below hb) zy zx ty tx) h2)
  obtain ⟨⟨hk, hm⟩, l⟩ := x
  obtain ⟨⟨gk, gm⟩, m⟩ := y
  have c3 := hide (fun (e1 : hk = 11) (e2 : gk = 11) W (hb : Below w.heap.size w W) => united_any n ⟨hk, hm⟩ ⟨gk, gm⟩ l m _ _ _ _ w W hb hx hy zx zy tx ty e1 e2 sx sy (gu.below hb) (gt.below hb))
  have hxr := hide (fun W (hb : Below w.heap.size w W) => hx.below hb)
  have hyr := hide (fun W (hb : Below w.heap.size w W) => hy.below hb)
  have h1' := hide h1
  have h2' := hide h2
  clear h1 h2
  clear hx hy zx zy tx ty sx sy gu gt
  simp only [thd, tvs] at c1 c2 c3
  obtain ⟨W0, hW0⟩ : ∃ W0, ((w.alloc (.cells #[.int .i64 hk, .slice a1 m1 d1, .slice a2 m2 d2] 26)).alloc (.cells #[.int .i64 gk, .slice a3 m3 d3, .slice a4 m4 d4] 26)).alloc (.cells #[.int .i64 0, .slice none 0 0, .slice none 0 0] 26) = W0 := ⟨_, rfl⟩
  have hb0 : Hid (Below w.heap.size w W0) := by rw [← hW0]; exact below_al (below_al (below_al (Below.refl _ _)))
  have hX : Hid (Tx W0 w.heap.size ⟨hk, hm⟩ (.slice a1 m1 d1) (.slice a2 m2 d2)) := by rw [← hW0]; exact (tx_new w ⟨hk, hm⟩ _ _).below (below_al (below_al (Below.refl _ _)))
  have hY : Hid (Tx W0 (w.heap.size + 1) ⟨gk, gm⟩ (.slice a3 m3 d3) (.slice a4 m4 d4)) := by
    rw [← hW0]
    have := tx_new (w.alloc (.cells #[.int .i64 hk, .slice a1 m1 d1, .slice a2 m2 d2] 26)) ⟨gk, gm⟩ (.slice a3 m3 d3) (.slice a4 m4 d4)
    rw [World.size_alloc] at this
    exact this.below (below_al (Below.refl _ _))
  have hZ : Hid (ZT W0 (w.heap.size + 2)) := by
    rw [← hW0]
    have := heap_alloc_last ((w.alloc (.cells #[.int .i64 hk, .slice a1 m1 d1, .slice a2 m2 d2] 26)).alloc (.cells #[.int .i64 gk, .slice a3 m3 d3, .slice a4 m4 d4] 26)) (.cells #[.int .i64 0, .slice none 0 0, .slice none 0 0] 26)
    rw [World.size_alloc, World.size_alloc] at this
    exact this
  obtain ⟨x0, x1, x2⟩ := hX.out.cells
  obtain ⟨y0, y1, y2⟩ := hY.out.cells
  show Calls _ _ #[.agg #[.int .i64 hk, .slice a1 m1 d1, .slice a2 m2 d2], .agg #[.int .i64 gk, .slice a3 m3 d3, .slice a4 m4 d4]] _ _
  go_enter Tryd.func44, Tryd.ntmps44
  go_wp2_with fail
  refine (c1.out _ hb0.out).mono ?_
  rintro e w1 ⟨rfl, hb1⟩
  have hw1 := hide (below_then hb0.out hb1)
  have hX1 := hide (hX.out.below hb1)
  have hY1 := hide (hY.out.below hb1)
  have hZ1 := hide (hZ.out.below hb1)
  clear x0 x1 x2 y0 y1 y2 hW0 hb1 hb0 hX hY hZ
  obtain ⟨x0, x1, x2⟩ := hX1.out.cells
  obtain ⟨y0, y1, y2⟩ := hY1.out.cells
  obtain ⟨z0, z1, z2⟩ := hZ1.out.cells
  have zf := hZ1.out.frz
  cases b1
  · go_wp2_with fail
    refine (c2.out _ hw1.out).mono ?_
    rintro e w2 ⟨rfl, hb2⟩
    have hw2 := hide (below_then hw1.out hb2)
    have hX2 := hide (hX1.out.below hb2)
    have hY2 := hide (hY1.out.below hb2)
    have hZ2 := hide (hZ1.out.below hb2)
    clear x0 x1 x2 y0 y1 y2 z0 z1 z2 zf hb2 hX1 hY1 hZ1 hw1
    obtain ⟨x0, x1, x2⟩ := hX2.out.cells
    obtain ⟨y0, y1, y2⟩ := hY2.out.cells
    obtain ⟨z0, z1, z2⟩ := hZ2.out.cells
    have zf := hZ2.out.frz
    cases b2
    · have np1 : Hid (¬ Prt (n + 1) ((⟨hk, hm⟩, l) : TT (n + 1)) (⟨gk, gm⟩, m)) := fun q => by have := h1'.out.2 q; cases this
      have np2 : Hid (¬ Prt (n + 1) ((⟨gk, gm⟩, m) : TT (n + 1)) (⟨hk, hm⟩, l)) := fun q => by have := h2'.out.2 q; cases this
      have fin : Hid (∀ W, Below w.heap.size w W → (¬ (hk = 11 ∧ gk = 11) ∨ Ubad n ((⟨hk, hm⟩, l) : TT (n + 1)) (⟨gk, gm⟩, m) ∨ ∃ nm ts, US n ((⟨hk, hm⟩, l) : TT (n + 1)) (⟨gk, gm⟩, m) gm.length nm ts ∧ ¬ TChk (n + 1) (⟨11, nm⟩, ts) 0) → JoinB n (⟨hk, hm⟩, l) (⟨gk, gm⟩, m) w (.returned (.agg #[.int .i64 1, .slice none 0 0, .slice none 0 0])) W) := by
        intro W hW hq
        exact ⟨anyT n, .slice none 0 0, .slice none 0 0, rfl, ⟨Or.inr (Or.inr (Or.inr ⟨np1.out, np2.out, hq, rfl⟩)), ⟨Or.inl ⟨rfl, rfl⟩, Or.inl ⟨rfl, rfl⟩⟩⟩, hW⟩
      by_cases e1 : hk = 11
      · by_cases e2 : gk = 11
        · have c4 := hide (c3.out e1 e2)
          have np1' := np1
          have np2' := np2
          subst e1 e2
          clear c1 c2 c3 hxr hyr h1' h2'
          go_wp2_with fail
          refine (c4.out _ hw2.out).mono ?_
          rintro e w3 ⟨hb3, hU⟩
          have hZ3 := hide (hZ2.out.below hb3)
          clear x0 x1 x2 y0 y1 y2 z0 z1 z2 zf
          have hZ4 := hide (fun o => hZ3.out.below (W1 := w3.alloc o) (below_al (Below.refl _ _)))
          have z0 := fun o => (hZ4.out o).cells.1
          have z1 := fun o => (hZ4.out o).cells.2.1
          have z2 := fun o => (hZ4.out o).cells.2.2
          have zf := fun o => (hZ4.out o).frz
          rcases hU with ⟨hbad, rfl⟩ | ⟨nm, ts, nv, lv, q, hus, rfl, ⟨hno0, hlo0⟩, hq0⟩
          · have hb3 := hide hb3
            have hbad := hide hbad
            go_wp2_with fail
            refine bodyPost_ret (v := .agg #[.int .i64 1, .slice none 0 0, .slice none 0 0]) (by simp [results, Tryd.results44, go_sem, *]) rfl ?_
            exact fin.out _ (by repeat (first | exact (below_then hw2.out hb3.out) | refine below_al ?_ | refine Below.setCell ?_ (by show w.heap.size ≤ w.heap.size + 2; omega) _)) (Or.inr (Or.inl hbad.out))
          · have hb3 := hide hb3
            have hus := hide hus
            have hq := hide hq0
            obtain ⟨xs, hxs, _⟩ := id hlo0
            obtain ⟨p1, p3, rfl⟩ := own_shape hno0
            obtain ⟨p4, p6, rfl⟩ := own_shape hxs
            clear hxs
            have hno := hide hno0
            have hlo := hide hlo0
            clear hq0 hno0 hlo0
            simp only [tvs]
            cases q
            · go_wp2_with fail
              refine bodyPost_ret (v := .agg #[.int .i64 1, .slice none 0 0, .slice none 0 0]) (by simp [results, Tryd.results44, go_sem, *]) rfl ?_
              exact fin.out _ (by repeat (first | exact (below_then hw2.out hb3.out) | refine below_al ?_ | refine Below.setCell ?_ (by show w.heap.size ≤ w.heap.size + 2; omega) _)) (Or.inr (Or.inr ⟨nm, ts, hus.out, fun k => by have := hq.out.2 k; cases this⟩))
            · go_wp2_with fail
              refine bodyPost_ret (v := .agg #[.int .i64 11, .slice p1 nm.length p3, .slice p4 ts.length p6]) (by simp [results, Tryd.results44, go_sem, *]) rfl ?_
              have hKlt := hZ2.out.lt
              have hW3 := hb3.out.size
              refine ⟨(⟨11, nm⟩, ts), .slice p1 nm.length p3, .slice p4 ts.length p6, rfl, ⟨Or.inr (Or.inr (Or.inl ⟨np1.out, np2.out, rfl, rfl, nm, ts, hus.out, hq.out.1 (by simp), rfl⟩)), OwnS.nl (ownsRow_of hno.out fun q e hq => ?_), (hlo.out.keep fun q e hq => ?_).vl ?_⟩, ?_⟩
              · have hne : q ≠ w.heap.size + 2 := by have := (World.ownsRow.lt hno.out q e).1; omega
                repeat rw [heap_set_ne hne]
                exact Below.heap_alloc _ _ _ hq
              · have hne : q ≠ w.heap.size + 2 := by have := (hlo.out.lt q e).1; omega
                repeat rw [heap_set_ne hne]
                exact Below.heap_alloc _ _ _ hq
              · repeat (first | exact (below_then hw2.out hb3.out) | refine below_al ?_ | refine Below.setCell ?_ (by show w.heap.size ≤ w.heap.size + 2; omega) _)
              · repeat (first | exact (below_then hw2.out hb3.out) | refine below_al ?_ | refine Below.setCell ?_ (by show w.heap.size ≤ w.heap.size + 2; omega) _)
        · have e2b : (gk == 11) = false := beq_eq_false_iff_ne.2 e2
          have e2d : decide (gk = 11) = false := decide_eq_false e2
          have e2h := hide e2
          have e1h := hide e1
          subst e1
          clear e2 c1 c2 c3
          go_wp2_with fail
          refine bodyPost_ret (v := .agg #[.int .i64 1, .slice none 0 0, .slice none 0 0]) (by simp [results, Tryd.results44, go_sem, *]) rfl ?_
          exact fin.out _ (by repeat (first | exact hw2.out | refine below_al ?_ | refine Below.setCell ?_ (by show w.heap.size ≤ w.heap.size + 2; omega) _)) (Or.inl fun q => e2h.out q.2)
      · have e1b : (hk == 11) = false := beq_eq_false_iff_ne.2 e1
        have e1d : decide (hk = 11) = false := decide_eq_false e1
        have e1h := hide e1
        clear e1 c1 c2 c3
        go_wp2_with fail
        refine bodyPost_ret (v := .agg #[.int .i64 1, .slice none 0 0, .slice none 0 0]) (by simp [results, Tryd.results44, go_sem, *]) rfl ?_
        exact fin.out _ (by repeat (first | exact hw2.out | refine below_al ?_ | refine Below.setCell ?_ (by show w.heap.size ≤ w.heap.size + 2; omega) _)) (Or.inl fun q => e1h.out q.1)
    · go_wp2_with fail
      refine bodyPost_ret (v := .agg #[.int .i64 hk, .slice a1 m1 d1, .slice a2 m2 d2]) (by simp [results, Tryd.results44, go_sem, *]) rfl ?_
      have hB : Below w.heap.size w (((w2.setCell ⟨w.heap.size + 2, 0, none⟩ (.int .i64 hk)).setCell ⟨w.heap.size + 2, 1, none⟩ (.slice a1 m1 d1)).setCell ⟨w.heap.size + 2, 2, none⟩ (.slice a2 m2 d2)) := by
        iterate 3 refine Below.setCell ?_ (by show w.heap.size ≤ w.heap.size + 2; omega) _
        exact hw2.out
      exact ⟨(⟨hk, hm⟩, l), _, _, rfl, ⟨Or.inr (Or.inl ⟨fun q => (by have := h1'.out.2 q; cases this), h2'.out.1 (by simp), rfl⟩), hxr.out _ hB⟩, hB⟩
  · go_wp2_with fail
    refine bodyPost_ret (v := .agg #[.int .i64 gk, .slice a3 m3 d3, .slice a4 m4 d4]) (by simp [results, Tryd.results44, go_sem, *]) rfl ?_
    have hB : Below w.heap.size w (((w1.setCell ⟨w.heap.size + 2, 0, none⟩ (.int .i64 gk)).setCell ⟨w.heap.size + 2, 1, none⟩ (.slice a3 m3 d3)).setCell ⟨w.heap.size + 2, 2, none⟩ (.slice a4 m4 d4)) := by
      iterate 3 refine Below.setCell ?_ (by show w.heap.size ≤ w.heap.size + 2; omega) _
      exact hw1.out
    exact ⟨(⟨gk, gm⟩, m), _, _, rfl, ⟨Or.inl ⟨h1'.out.1 (by simp), rfl⟩, hyr.out _ hB⟩, hB⟩
set_option maxHeartbeats 2000000 in
set_option maxRecDepth 100000 in
theorem Join_any (n : Nat) (x y : TT (n + 1)) (ns ls ns' ls' : Value) (w : World) (hx : TRd (n + 1) w x ns ls) (hy : TRd (n + 1) w y ns' ls') (gu : Ut.Gu w) (gt : Gt w) (E F : Int) (hE : TChk (n + 1) x E) (hF : TChk (n + 1) y F) :
    Calls Tryd.prog 20 #[.agg (tvs x.1 ns ls), .agg (tvs y.1 ns' ls')] w fun e w' => JoinP n (Chk2 E F) x y w e w' := by
  obtain ⟨a1, m1, d1, a2, m2, d2, rfl, rfl⟩ := hx.rd.shape
  obtain ⟨a3, m3, d3, a4, m4, d4, rfl, rfl⟩ := hy.rd.shape
  have c1 := hide (fun W (hb : Below w.heap.size w W) => checkBoth_any (n + 1) (n + 1) x y _ _ _ _ W (hx.below hb) (hy.below hb) (gu.below hb) (gt.below hb) E F hE hF)
  have c2 := hide (fun (q : Chk2 E F = 0) W (hb : Below w.heap.size w W) => join_any n x y _ _ _ _ W (hx.rd.below hb) (hy.rd.below hb) hx.sz hy.sz (by obtain ⟨e1, e2⟩ := chk2_zero q; rw [e1] at hE; exact hE.zero.1) (by obtain ⟨e1, e2⟩ := chk2_zero q; rw [e2] at hF; exact hF.zero.1) (by obtain ⟨e1, e2⟩ := chk2_zero q; rw [e1] at hE; exact hE.zero.2.2.2) (by obtain ⟨e1, e2⟩ := chk2_zero q; rw [e2] at hF; exact hF.zero.2.2.2) (gu.below hb) (gt.below hb))
  have c3 := hide (fun (q : Chk2 E F = 0) (j : TT (n + 1)) (hj : Jn n x y j) ns2 ls2 W (hr : RT (n + 1) W j ns2 ls2) => copied_any (n + 1) j ns2 ls2 W hr (by
    obtain ⟨e1, e2⟩ := chk2_zero q
    rw [e1] at hE
    rw [e2] at hF
    have h1 := (hj.chk hE hF).zero
    have h2 := tcnt_isT _ j h1.1
    have h3 := h1.2.2.2
    omega))
  obtain ⟨C, hC⟩ : ∃ C, Chk2 E F = C := ⟨_, rfl⟩
  rw [hC] at c1 c2 c3 ⊢
  obtain ⟨⟨hk, hm⟩, l⟩ := x
  obtain ⟨⟨gk, gm⟩, m⟩ := y
  clear hx hy gu gt hE hF hC
  simp only [thd, tvs] at c1 c2 c3
  obtain ⟨W0, hW0⟩ : ∃ W0, ((w.alloc (.cells #[.int .i64 hk, .slice a1 m1 d1, .slice a2 m2 d2] 26)).alloc (.cells #[.int .i64 gk, .slice a3 m3 d3, .slice a4 m4 d4] 26)).alloc (.cells #[.int .i64 0, .slice none 0 0, .slice none 0 0] 26) = W0 := ⟨_, rfl⟩
  have hb0 : Hid (Below w.heap.size w W0) := by rw [← hW0]; exact below_al (below_al (below_al (Below.refl _ _)))
  have hX : Hid (Tx W0 w.heap.size ⟨hk, hm⟩ (.slice a1 m1 d1) (.slice a2 m2 d2)) := by rw [← hW0]; exact (tx_new w ⟨hk, hm⟩ _ _).below (below_al (below_al (Below.refl _ _)))
  have hY : Hid (Tx W0 (w.heap.size + 1) ⟨gk, gm⟩ (.slice a3 m3 d3) (.slice a4 m4 d4)) := by
    rw [← hW0]
    have := tx_new (w.alloc (.cells #[.int .i64 hk, .slice a1 m1 d1, .slice a2 m2 d2] 26)) ⟨gk, gm⟩ (.slice a3 m3 d3) (.slice a4 m4 d4)
    rw [World.size_alloc] at this
    exact this.below (below_al (Below.refl _ _))
  have hZ : Hid (ZT W0 (w.heap.size + 2)) := by
    rw [← hW0]
    have := heap_alloc_last ((w.alloc (.cells #[.int .i64 hk, .slice a1 m1 d1, .slice a2 m2 d2] 26)).alloc (.cells #[.int .i64 gk, .slice a3 m3 d3, .slice a4 m4 d4] 26)) (.cells #[.int .i64 0, .slice none 0 0, .slice none 0 0] 26)
    rw [World.size_alloc, World.size_alloc] at this
    exact this
  obtain ⟨x0, x1, x2⟩ := hX.out.cells
  obtain ⟨y0, y1, y2⟩ := hY.out.cells
  show Calls _ _ #[.agg #[.int .i64 hk, .slice a1 m1 d1, .slice a2 m2 d2], .agg #[.int .i64 gk, .slice a3 m3 d3, .slice a4 m4 d4]] _ _
  go_enter Tryd.func20, Tryd.ntmps20
  go_wp2_with fail
  refine (c1.out _ hb0.out).mono ?_
  rintro e w1 ⟨rfl, hb1⟩
  have hw1 := hide (below_then hb0.out hb1)
  have hX1 := hide (hX.out.below hb1)
  have hY1 := hide (hY.out.below hb1)
  have hZ1 := hide (hZ.out.below hb1)
  clear x0 x1 x2 y0 y1 y2 hW0 hb1 hb0 hX hY hZ c1
  obtain ⟨x0, x1, x2⟩ := hX1.out.cells
  obtain ⟨y0, y1, y2⟩ := hY1.out.cells
  obtain ⟨z0, z1, z2⟩ := hZ1.out.cells
  have zf := hZ1.out.frz
  by_cases h0 : C = 0
  · have c2' := hide (c2.out h0)
    have c3' := hide (c3.out h0)
    clear c2 c3
    subst h0
    go_wp2_with fail
    refine (c2'.out _ hw1.out).mono ?_
    rintro e w2 ⟨⟨⟨jk, jm⟩, jl⟩, ns2, ls2, rfl, hj, hb2⟩
    have hw2 := hide (below_then hw1.out hb2)
    have hZ2 := hide (hZ1.out.below hb2)
    obtain ⟨p1, p2, p3, p4, p5, p6, rfl, rfl⟩ := hj.out.2.shape
    have c4 := hide (c3'.out _ hj.out.1 _ _ w2 hj.out.2)
    simp only [tvs] at c4 ⊢
    clear x0 x1 x2 y0 y1 y2 z0 z1 z2 zf hb2
    go_wp2_with fail
    refine c4.out.mono ?_
    rintro e w3 ⟨ns3, ls3, rfl, hk3, hb3⟩
    obtain ⟨q1, q2, q3, q4, q5, q6, rfl, rfl⟩ := hk3.out.rd.shape
    obtain ⟨z0, z1, z2⟩ := (hZ2.out.below hb3).cells
    have zf := (hZ2.out.below hb3).frz
    have hZlt := hide hZ2.out.lt
    have hb3 := hide hb3
    go_wp2_with fail
    refine bodyPost_ret (v := .tuple #[.agg #[.int .i64 jk, .slice q1 q2 q3, .slice q4 q5 q6], .int .i64 0]) (by simp [results, Tryd.results20, go_sem, *]) rfl (Or.inr ⟨rfl, (⟨jk, jm⟩, jl), .slice q1 q2 q3, .slice q4 q5 q6, rfl, ⟨hj.out.1, ?_⟩, ?_⟩)
    · refine hk3.out.2.2 _ fun q h1 h2 => ?_
      have := hZlt.out
      have hne : q ≠ w.heap.size + 2 := by omega
      rw [heap_set_ne hne, heap_set_ne hne, heap_set_ne hne]
    · iterate 3 refine Below.setCell ?_ (by show w.heap.size ≤ w.heap.size + 2; omega) _
      exact below_then hw2.out hb3.out
  · have h1 : (C != 0) = true := by simpa using h0
    have h2 : (C == 0) = false := beq_eq_false_iff_ne.2 h0
    have h3 : decide (C = 0) = false := decide_eq_false h0
    have h0' := hide h0
    clear h0
    go_wp2_with fail
    refine bodyPost_ret (v := .tuple #[.agg #[.int .i64 0, .slice none 0 0, .slice none 0 0], .int .i64 C]) (by simp [results, Tryd.results20, go_sem, *]) rfl (Or.inl ⟨h0'.out, rfl, ?_⟩)
    iterate 3 refine Below.setCell ?_ (by show w.heap.size ≤ w.heap.size + 2; omega) _
    exact hw1.out
theorem joinOk : JoinOk := Join_any
end Go.Proofs.YtlfnnecpinmjjaaDoor
/- The document's examples of layer 11: types and values; plain, union. -/
namespace Go.Proofs.YtlfnnecpinmjjaaDoor
open Go.RowKit Go.Maps
set_option linter.unusedSimpArgs false
set_option linter.unusedVariables false
/-- A type without parts. -/
def plT (n : Nat) (k : Int) : TT (n + 1) := (⟨k, []⟩, [])
theorem plT_rt (n : Nat) (k : Int) (w : World) : RT (n + 1) w (plT n k) (.slice none 0 0) (.slice none 0 0) := ⟨Or.inl ⟨rfl, rfl⟩, Or.inl ⟨rfl, rfl⟩⟩
theorem plT_isT (n : Nat) (k : Int) (h : 1 ≤ k ∧ k ≤ 8) : IsT (n + 1) (plT n k) := ⟨Or.inr (Or.inr ⟨h.1, h.2, rfl, rfl⟩), fun y hy => by simp [plT] at hy⟩
theorem plT_sht (n : Nat) (k : Int) : TSht (n + 1) (plT n k) := ⟨by simp [plT], fun s hs => by simp [plT] at hs, fun y hy => by simp [plT] at hy⟩
theorem plT_chk (n : Nat) (k : Int) (h : 1 ≤ k ∧ k ≤ 8) : TChk (n + 1) (plT n k) 0 :=
  Or.inr (Or.inr ⟨rfl, plT_isT n k h, plT_sht n k, by simp [tdep, plT, mxl], by simp [tsiz, plT, suml]⟩)
theorem plT_rd (n : Nat) (k : Int) (w : World) : TRd (n + 1) w (plT n k) (.slice none 0 0) (.slice none 0 0) := ⟨plT_rt n k w, tsz_of _ _ (plT_sht n k), by simp [tsiz, plT, suml]⟩
theorem plT_bad (n : Nat) (k : Int) (h : ¬ (1 ≤ k ∧ k ≤ 8)) (h2 : k ≠ 10 ∧ k ≠ 11) : TChk (n + 1) (plT n k) 110 := by
  refine Or.inl ⟨rfl, fun q => ?_⟩
  rcases q.1 with ⟨_, _, e⟩ | ⟨e, _⟩ | ⟨e, e', _⟩
  · simp [plT] at e
  · rcases e with e | e
    · exact h2.1 e
    · exact h2.2 e
  · exact h ⟨e, e'⟩
/-- A union of one name. -/
def unT (s : ByteArray) (k : Int) : TT 2 := (⟨11, [s]⟩, [plT 0 k])
/-- The union of two. -/
def unT2 : TT 2 := (⟨11, [⟨#[97]⟩, ⟨#[98]⟩]⟩, [plT 0 5, plT 0 7])
theorem unT_isT (s : ByteArray) (k : Int) (hs : okT s = true) (h : 1 ≤ k ∧ k ≤ 8) : IsT 2 (unT s k) := by
  refine ⟨Or.inr (Or.inl ⟨Or.inr rfl, rfl, fun t ht => ?_, by simp [unT]⟩), fun y hy => ?_⟩
  · have : t = s := by simpa [unT] using ht
    rw [this]; exact hs
  · have : y = plT 0 k := by simpa [unT] using hy
    rw [this]; exact plT_isT 0 k h
theorem unT_chk (s : ByteArray) (k : Int) (hs : okT s = true) (hz : s.size ≤ 64) (h : 1 ≤ k ∧ k ≤ 8) : TChk 2 (unT s k) 0 := by
  refine Or.inr (Or.inr ⟨rfl, unT_isT s k hs h, ⟨by simp [unT], fun t ht => ?_, fun y hy => ?_⟩, (show 2 ≤ 16 by decide), (show 2 ≤ 4096 by decide)⟩)
  · have : t = s := by simpa [unT] using ht
    rw [this]; exact hz
  · have : y = plT 0 k := by simpa [unT] using hy
    rw [this]; exact plT_sht 0 k
theorem unT2_chk : TChk 2 unT2 0 := by
  refine Or.inr (Or.inr ⟨rfl, ⟨Or.inr (Or.inl ⟨Or.inr rfl, rfl, fun t ht => ?_, by simp [unT2]⟩), fun y hy => ?_⟩, ⟨by simp [unT2], fun t ht => ?_, fun y hy => ?_⟩, (show 2 ≤ 16 by decide), (show 3 ≤ 4096 by decide)⟩)
  · have : t = ⟨#[97]⟩ ∨ t = ⟨#[98]⟩ := by simpa [unT2] using ht
    rcases this with rfl | rfl <;> decide
  · have : y = plT 0 5 ∨ y = plT 0 7 := by simpa [unT2] using hy
    rcases this with rfl | rfl
    · exact plT_isT 0 5 (by decide)
    · exact plT_isT 0 7 (by decide)
  · have : t = ⟨#[97]⟩ ∨ t = ⟨#[98]⟩ := by simpa [unT2] using ht
    rcases this with rfl | rfl <;> decide
  · have : y = plT 0 5 ∨ y = plT 0 7 := by simpa [unT2] using hy
    rcases this with rfl | rfl
    · exact plT_sht 0 5
    · exact plT_sht 0 7
theorem unT_np (s t : ByteArray) (k k' : Int) (h : s ≠ t) : ¬ Prt 2 (unT s k) (unT t k') := by
  rintro (q | ⟨q, _⟩ | ⟨_, q⟩)
  · simp [unT] at q
  · simp [unT] at q
  · rcases q with ⟨_, q⟩ | ⟨q, _⟩
    · obtain ⟨i, h3, h4, e, _⟩ := q 0 (by simp [unT]) (by simp [unT])
      have hi : i = 0 := by have : i < 1 := h3; omega
      subst hi
      exact h e.symm
    · exact q rfl
theorem us_ab {nm : List ByteArray} {ts : List (TT 1)} (h : US 1 (unT ⟨#[97]⟩ 5) (unT ⟨#[98]⟩ 7) 1 nm ts) : nm = unT2.1.names ∧ ts = unT2.2 := by
  obtain ⟨nm0, ts0, ⟨rfl, rfl⟩, k⟩ := h
  rcases k with ⟨s, y, e1, e2, _, rfl, rfl⟩ | ⟨j, s, x, y, e1, e2, e3, _⟩
  · have e1 : (some ⟨#[98]⟩ : Option ByteArray) = some s := e1
    have e2 : some (plT 0 7) = some y := e2
    cases e1
    cases e2
    exact ⟨rfl, rfl⟩
  · exfalso
    have e1 : (some ⟨#[98]⟩ : Option ByteArray) = some s := e1
    cases e1
    obtain ⟨g, e⟩ := List.getElem?_eq_some_iff.1 e3
    have hj : j = 0 := by have : j < 1 := g; omega
    subst hj
    have e : (⟨#[97]⟩ : ByteArray) = ⟨#[98]⟩ := e
    exact absurd e (by decide)
theorem jn_ab {j : TT 2} (h : Jn 1 (unT ⟨#[97]⟩ 5) (unT ⟨#[98]⟩ 7) j) : j = unT2 := by
  rcases h with ⟨q, _⟩ | ⟨_, q, _⟩ | ⟨_, _, _, _, nm, ts, hu, _, rfl⟩ | ⟨_, _, q, _⟩
  · exact absurd q (unT_np _ _ _ _ (by decide))
  · exact absurd q (unT_np _ _ _ _ (by decide))
  · obtain ⟨rfl, rfl⟩ := us_ab hu
    rfl
  · exfalso
    rcases q with q | ⟨i, j', s, x, y, e1, _, e3, _⟩ | ⟨nm, ts, hu, hc⟩
    · exact q ⟨rfl, rfl⟩
    · obtain ⟨g, e⟩ := List.getElem?_eq_some_iff.1 e3
      obtain ⟨g', e'⟩ := List.getElem?_eq_some_iff.1 e1
      have hj : j' = 0 := by have : j' < 1 := g; omega
      have hi : i = 0 := by have : i < 1 := g'; omega
      subst hj hi
      have e : (⟨#[97]⟩ : ByteArray) = s := e
      have e' : (⟨#[98]⟩ : ByteArray) = s := e'
      exact absurd (e.trans e'.symm) (by decide)
    · obtain ⟨rfl, rfl⟩ := us_ab hu
      exact hc unT2_chk
/-- The numbers five and a half. -/
def nuT (x : Int) : VT 1 := (⟨3, false, false, ⟨#[53]⟩, x, 0, ⟨#[]⟩, []⟩, [])
theorem five_chk : Chk 1 (nuT 0) 0 := Or.inr (Or.inr ⟨rfl, ⟨⟨(show (1 : Int) ≤ 3 by decide), (show (3 : Int) ≤ 9 by decide), rfl, Or.inr rfl⟩, ⟨fun _ => by decide, fun h => (by cases h), fun h => (by cases h), fun h => (by cases h)⟩, fun y hy => (by cases hy)⟩, ⟨⟨(show (0 : Int) ≤ 4096 by decide), (show 0 ≤ 256 by decide), fun s hs => (by cases hs), fun y hy => (by cases hy)⟩, (show 1 ≤ 16 by decide), (show 1 ≤ 4096 by decide)⟩⟩)
theorem half_chk : Chk 1 (nuT (-1)) 0 := Or.inr (Or.inr ⟨rfl, ⟨⟨(show (1 : Int) ≤ 3 by decide), (show (3 : Int) ≤ 9 by decide), rfl, Or.inr rfl⟩, ⟨fun _ => by decide, fun h => (by cases h), fun h => (by cases h), fun h => (by cases h)⟩, fun y hy => (by cases hy)⟩, ⟨⟨(show (0 : Int) ≤ 4096 by decide), (show 0 ≤ 256 by decide), fun s hs => (by cases hs), fun y hy => (by cases hy)⟩, (show 1 ≤ 16 by decide), (show 1 ≤ 4096 by decide)⟩⟩)
theorem nuT_rd (x : Int) (w : World) : Rdy 1 w (nuT x) (.slice none 0 0) (.slice none 0 0) := ⟨⟨Or.inl ⟨rfl, rfl⟩, Or.inl ⟨rfl, rfl⟩⟩, ⟨(show 0 ≤ 281474976710656 by decide), (show 1 ≤ 281474976710656 by decide), (show 0 ≤ 281474976710656 by decide), fun s hs => (by cases hs), fun y hy => (by cases hy)⟩, (show 1 ≤ 200000 by decide)⟩
theorem five_in : InT 1 (plT 0 5) 1 (nuT 0) := Or.inl ⟨(show (5 : Int) ≤ 8 by decide), Or.inr (Or.inl ⟨rfl, rfl, (show (0 : Int) ≤ 0 by decide)⟩)⟩
theorem half_in : ¬ InT 1 (plT 0 5) 1 (nuT (-1)) := by
  rintro (⟨_, q⟩ | ⟨q, _⟩ | ⟨q, _⟩ | ⟨q, _⟩)
  · rcases q with q | ⟨_, _, q⟩ | ⟨_, q, _⟩
    · exact absurd (show (5 : Int) = 1 from q) (by decide)
    · exact absurd (show (0 : Int) ≤ -1 from q) (by decide)
    · exact q rfl
  · exact absurd (show (5 : Int) = 9 from q) (by decide)
  · exact absurd (show (5 : Int) = 10 from q) (by decide)
  · exact absurd (show (5 : Int) = 11 from q) (by decide)
theorem prt_54 : Prt 1 (plT 0 5) (plT 0 4) := Or.inr (Or.inl ⟨rfl, rfl⟩)
theorem prt_45 : ¬ Prt 1 (plT 0 4) (plT 0 5) := by
  rintro (q | ⟨q, _⟩ | ⟨q, _⟩)
  · exact absurd (show (5 : Int) = 1 from q) (by decide)
  · exact absurd (show (4 : Int) = 5 from q) (by decide)
  · exact absurd (show (4 : Int) = 5 from q) (by decide)
set_option maxHeartbeats 1000000 in
theorem lplain_any (k : Int) (w : World) : Calls Tryd.prog 22 #[.int .i64 k] w fun e w' => e = .returned (.agg #[.int .i64 k, .slice none 0 0, .slice none 0 0]) ∧ Below w.heap.size w w' := by
  go_enter Tryd.func22, Tryd.ntmps22
  go_wp2_with fail
  refine bodyPost_ret (v := .agg #[.int .i64 k, .slice none 0 0, .slice none 0 0]) (by simp [results, Tryd.results22, go_sem, *]) rfl ⟨rfl, ?_⟩
  exact below_al (Below.refl _ _)
set_option maxHeartbeats 1000000 in
theorem lunion_any (s : ByteArray) (k : Int) (w : World) : Calls Tryd.prog 35 #[.string s, .agg #[.int .i64 k, .slice none 0 0, .slice none 0 0]] w fun e w' => ∃ a b, e = .returned (.agg #[.int .i64 11, .slice (some ⟨a, 0, none⟩) 1 1, .slice (some ⟨b, 0, none⟩) 1 1]) ∧ Hid (RT 2 w' (unT s k) (.slice (some ⟨a, 0, none⟩) 1 1) (.slice (some ⟨b, 0, none⟩) 1 1)) ∧ Below w.heap.size w w' := by
  go_enter Tryd.func35, Tryd.ntmps35
  go_wp2_with fail
  refine bodyPost_ret (v := .agg #[.int .i64 11, .slice (some ⟨w.heap.size + 1 + 1, 0, none⟩) 1 1, .slice (some ⟨w.heap.size + 1 + 1 + 1, 0, none⟩) 1 1]) (by simp [results, Tryd.results35, go_sem, *]) rfl ⟨w.heap.size + 1 + 1, w.heap.size + 1 + 1 + 1, rfl, ?_, below_al (below_al (below_al (below_al (Below.refl _ _))))⟩
  obtain ⟨W1, hW1⟩ : ∃ W1, (w.alloc (.cells #[.int .i64 k, .slice none 0 0, .slice none 0 0] 26)).alloc (.cells #[.int .i64 11, .slice (some ⟨w.heap.size + 1 + 1, 0, none⟩) 1 1, .slice (some ⟨w.heap.size + 1 + 1 + 1, 0, none⟩) 1 1] 26) = W1 := ⟨_, rfl⟩
  have hs : W1.heap.size = w.heap.size + 1 + 1 := by rw [← hW1]; simp
  rw [hW1, ← hs]
  have h2 : ((W1.alloc (.cells #[.string s] 9)).alloc (.cells #[.int .i64 k, .slice none 0 0, .slice none 0 0] 26)).heap[W1.heap.size]? = some (.cells #[.string s] 9 (0, 0)) := by
    rw [Below.heap_alloc _ _ _ (by simp)]
    exact heap_alloc_last W1 _
  have h3 := tx_new (W1.alloc (.cells #[.string s] 9)) ⟨k, []⟩ (.slice none 0 0) (.slice none 0 0)
  rw [World.size_alloc] at h3
  refine ⟨Or.inr ⟨W1.heap.size, 0, 1, none, rfl, Nat.le_refl _, by decide, fun _ => ⟨rfl, by simp; omega⟩, fun i hi => ?_⟩, Or.inr ⟨W1.heap.size + 1, 0, 1, none, rfl, Nat.le_refl _, by decide, fun _ => ⟨rfl, h3.lt⟩, fun i hi => ?_⟩⟩
  · have hi0 : i = 0 := by have : i < 1 := hi; omega
    subst hi0
    unfold World.cell?
    rw [h2]
    rfl
  · have hi0 : i = 0 := by have : i < 1 := hi; omega
    subst hi0
    exact ⟨.slice none 0 0, .slice none 0 0, h3.range, plT_rt 0 k _⟩
end Go.Proofs.YtlfnnecpinmjjaaDoor
/- calamuslaw11.awake: walked, given Join. -/
namespace Go.Proofs.YtlfnnecpinmjjaaDoor
open Go.RowKit Go.Maps
set_option linter.unusedSimpArgs false
set_option linter.unusedVariables false
theorem sub_is {f : FuncId} {args : Array Value} {w : World} {p : Prop} {b : Bool} (h : Calls Tryd.prog f args w fun e w' => SubP 0 p w e w') (hb : b = true ↔ p) : Calls Tryd.prog f args w fun e w' => e = .returned (.tuple #[.bool b, .int .i64 0]) ∧ Below w.heap.size w w' := by
  refine h.mono ?_
  rintro e w' ⟨b', rfl, hq, hb'⟩
  have : b' = b := by
    have h1 := hq.out
    cases b <;> cases b'
    · rfl
    · exact absurd (hb.2 (h1.1 rfl).2) (by decide)
    · exact absurd (h1.2 ⟨rfl, hb.1 rfl⟩) (by decide)
    · rfl
  subst this
  exact ⟨rfl, hb'⟩
theorem join_ab (hJ : JoinOk) (w : World) (gu : Ut.Gu w) (gt : Gt w) (ns ls ns' ls' : Value) (W : World) (hb : Below w.heap.size w W) (h1 : RT 2 W (unT ⟨#[97]⟩ 5) ns ls) (h2 : RT 2 W (unT ⟨#[98]⟩ 7) ns' ls') :
    Calls Tryd.prog 20 #[.agg #[.int .i64 11, ns, ls], .agg #[.int .i64 11, ns', ls']] W fun e w' => ∃ g o c a2 m2 d2, e = .returned (.tuple #[.agg #[.int .i64 11, .slice (some ⟨g, o, none⟩) 2 c, .slice a2 m2 d2], .int .i64 0]) ∧ Hid (g < w'.heap.size ∧ w'.cell? ⟨g, o + 1, none⟩ = some (.string ⟨#[98]⟩)) ∧ Below W.heap.size W w' := by
  have ha := unT_chk ⟨#[97]⟩ 5 (by decide) (by decide) (by decide)
  have hb2 := unT_chk ⟨#[98]⟩ 7 (by decide) (by decide) (by decide)
  refine (hJ 1 _ _ ns ls ns' ls' W (TRd.of h1 ha) (TRd.of h2 hb2) (gu.below hb) (gt.below hb) 0 0 ha hb2).mono ?_
  rintro e w' (⟨q, _⟩ | ⟨_, j, ns2, ls2, rfl, hj, hb'⟩)
  · exact absurd rfl q
  · have hjj := jn_ab hj.out.1
    have hr := hj.out.2
    subst hjj
    obtain ⟨x1, x2, x3, a2, m2, d2, rfl, rfl⟩ := hr.shape
    obtain ⟨g, o, c, he, hg, h3, h4, h5⟩ := hr.1.at 1 (by decide)
    have he' := Value.slice.inj he
    obtain ⟨rfl, rfl, rfl⟩ := he'
    exact ⟨g, o, x3, a2, m2, d2, rfl, ⟨hg, h5⟩, hb'⟩
set_option maxHeartbeats 2000000 in
set_option maxRecDepth 100000 in
theorem lawake_any (hJ : JoinOk) (w : World) (gu : Ut.Gu w) (gt : Gt w) : Calls Tryd.prog 15 #[] w fun e w' => e = .returned (.bool true) ∧ Below w.heap.size w w' := by
  have c1 := hide (fun W (hb : Below w.heap.size w W) => sub_is (b := true) (has_any 1 (plT 0 5) (.slice none 0 0) (.slice none 0 0) 1 (nuT 0) (.slice none 0 0) (.slice none 0 0) W (plT_rd 0 5 W) (nuT_rd 0 W) (gu.below hb) (gt.below hb) 0 0 (plT_chk 0 5 (by decide)) five_chk) ⟨fun _ => five_in, fun _ => rfl⟩)
  have c2 := hide (fun W (hb : Below w.heap.size w W) => sub_is (b := false) (has_any 1 (plT 0 5) (.slice none 0 0) (.slice none 0 0) 1 (nuT (-1)) (.slice none 0 0) (.slice none 0 0) W (plT_rd 0 5 W) (nuT_rd (-1) W) (gu.below hb) (gt.below hb) 0 0 (plT_chk 0 5 (by decide)) half_chk) ⟨(fun q => by cases q), fun q => absurd q half_in⟩)
  have c3 := hide (fun W (hb : Below w.heap.size w W) => sub_is (b := true) (sub_any 1 (plT 0 5) (plT 0 4) (.slice none 0 0) (.slice none 0 0) (.slice none 0 0) (.slice none 0 0) W (plT_rd 0 5 W) (plT_rd 0 4 W) (gu.below hb) (gt.below hb) 0 0 (plT_chk 0 5 (by decide)) (plT_chk 0 4 (by decide))) ⟨fun _ => prt_54, fun _ => rfl⟩)
  have c4 := hide (fun W (hb : Below w.heap.size w W) => sub_is (b := false) (sub_any 1 (plT 0 4) (plT 0 5) (.slice none 0 0) (.slice none 0 0) (.slice none 0 0) (.slice none 0 0) W (plT_rd 0 4 W) (plT_rd 0 5 W) (gu.below hb) (gt.below hb) 0 0 (plT_chk 0 4 (by decide)) (plT_chk 0 5 (by decide))) ⟨(fun q => by cases q), fun q => absurd q prt_45⟩)
  have c5 := hide (fun ns ls ns' ls' W (hb : Below w.heap.size w W) h1 h2 => join_ab hJ w gu gt ns ls ns' ls' W hb h1 h2)
  have c6 := hide (fun W (hb : Below w.heap.size w W) => tcheck_any 1 (plT 0 0) (.slice none 0 0) (.slice none 0 0) W (plT_rd 0 0 W) (gu.below hb) (gt.below hb) 110 (plT_bad 0 0 (by decide) (by decide)))
  have c7 := hide (fun W (hb : Below w.heap.size w W) => tcheck_any 1 (plT 0 9) (.slice none 0 0) (.slice none 0 0) W (plT_rd 0 9 W) (gu.below hb) (gt.below hb) 110 (plT_bad 0 9 (by decide) (by decide)))
  simp only [plT, nuT, thd, vhd, tvs, vals] at c1 c2 c3 c4 c6 c7
  clear gu gt hJ
  have lp := hide lplain_any
  have lu := hide lunion_any
  obtain ⟨W0, hW0⟩ : ∃ W0, (w.alloc (.cells #[.int .i64 3, .bool false, .bool false, .string ⟨#[53]⟩, .int .i64 0, .int .u64 0, .string ⟨#[]⟩, .slice none 0 0, .slice none 0 0] 33)).alloc (.cells #[.int .i64 3, .bool false, .bool false, .string ⟨#[53]⟩, .int .i64 (-1), .int .u64 0, .string ⟨#[]⟩, .slice none 0 0, .slice none 0 0] 33) = W0 := ⟨_, rfl⟩
  have hb0 : Hid (Below w.heap.size w W0) := by rw [← hW0]; exact below_al (below_al (Below.refl _ _))
  have hA : Hid (Bx W0 w.heap.size (nuT 0).1 (.slice none 0 0) (.slice none 0 0)) := by rw [← hW0]; exact (bx_new w (nuT 0).1 _ _).below (below_al (Below.refl _ _))
  have hB : Hid (Bx W0 (w.heap.size + 1) (nuT (-1)).1 (.slice none 0 0) (.slice none 0 0)) := by
    rw [← hW0]
    have := bx_new (w.alloc (.cells #[.int .i64 3, .bool false, .bool false, .string ⟨#[53]⟩, .int .i64 0, .int .u64 0, .string ⟨#[]⟩, .slice none 0 0, .slice none 0 0] 33)) (nuT (-1)).1 (.slice none 0 0) (.slice none 0 0)
    rw [World.size_alloc] at this
    exact this
  have hW0' := hide hW0
  clear hW0
  go_enter Tryd.func15, Tryd.ntmps15
  go_wp2_with fail
  rw [hW0'.out]
  clear hW0'
  obtain ⟨a0, a1, a2, a3, a4, a5, a6, a7, a8⟩ := hA.out.cells
  simp only [nuT] at a0 a1 a2 a3 a4 a5 a6 a7 a8
  go_region_law (first | (go_simp; go_at_call 22; refine (lp.out 5 _).mono ?_; rintro e w1 ⟨rfl, hb1⟩; have T1 : Hid (Below W0.heap.size W0 w1) := below_then (by repeat (first | exact Below.refl _ _ | refine below_dr ?_ | refine below_al ?_ | refine below_dn ?_ _)) hb1; obtain ⟨b0, b1, b2, b3, b4, b5, b6, b7, b8⟩ := (hA.out.below T1.out).cells; simp only [nuT] at b0 b1 b2 b3 b4 b5 b6 b7 b8; clear hb1; dsimp only) | (go_simp; go_at_call 13; refine (c1.out _ (below_then hb0.out (below_then T1.out (by repeat (first | exact Below.refl _ _ | refine below_dr ?_ | refine below_al ?_ | refine below_dn ?_ _))))).mono ?_; rintro e w2 ⟨rfl, hb2⟩; have T2 : Hid (Below W0.heap.size W0 w2) := below_then (below_then T1.out (by repeat (first | exact Below.refl _ _ | refine below_dr ?_ | refine below_al ?_ | refine below_dn ?_ _))) hb2; clear hb2; dsimp only))
  all_goals
    clear a0 a1 a2 a3 a4 a5 a6 a7 a8 b0 b1 b2 b3 b4 b5 b6 b7 b8 T1
    go_wp2_with fail
    obtain ⟨a0, a1, a2, a3, a4, a5, a6, a7, a8⟩ := (hB.out.below T2.out).cells
    simp only [nuT] at a0 a1 a2 a3 a4 a5 a6 a7 a8
    go_region_law (first | (go_simp; go_at_call 22; refine (lp.out 5 _).mono ?_; rintro e w3 ⟨rfl, hb3⟩; have T3 : Hid (Below W0.heap.size W0 w3) := below_then (below_then T2.out (by repeat (first | exact Below.refl _ _ | refine below_dr ?_ | refine below_al ?_ | refine below_dn ?_ _))) hb3; obtain ⟨b0, b1, b2, b3, b4, b5, b6, b7, b8⟩ := (hB.out.below T3.out).cells; simp only [nuT] at b0 b1 b2 b3 b4 b5 b6 b7 b8; clear hb3; dsimp only) | (go_simp; go_at_call 13; refine (c2.out _ (below_then hb0.out (below_then T3.out (by repeat (first | exact Below.refl _ _ | refine below_dr ?_ | refine below_al ?_ | refine below_dn ?_ _))))).mono ?_; rintro e w4 ⟨rfl, hb4⟩; have T4 : Hid (Below w.heap.size w w4) := below_then (below_then hb0.out (below_then T3.out (by repeat (first | exact Below.refl _ _ | refine below_dr ?_ | refine below_al ?_ | refine below_dn ?_ _)))) hb4; clear hb4; dsimp only))
    all_goals
      clear a0 a1 a2 a3 a4 a5 a6 a7 a8 b0 b1 b2 b3 b4 b5 b6 b7 b8 T3
      go_wp2_with fail
      refine (lp.out 5 _).mono ?_
      rintro e w5 ⟨rfl, hb⟩
      have T5 := hide (below_then T4.out hb)
      clear hb
      go_wp2_with fail
      refine (lp.out 4 _).mono ?_
      rintro e w6 ⟨rfl, hb⟩
      have T6 := hide (below_then T5.out hb)
      clear hb
      go_wp2_with fail
      refine (c3.out _ T6.out).mono ?_
      rintro e w7 ⟨rfl, hb⟩
      have T7 := hide (below_then T6.out hb)
      clear hb
      go_wp2_with fail
      refine (lp.out 4 _).mono ?_
      rintro e w8 ⟨rfl, hb⟩
      have T8 := hide (below_then T7.out hb)
      clear hb
      go_wp2_with fail
      refine (lp.out 5 _).mono ?_
      rintro e w9 ⟨rfl, hb⟩
      have T9 := hide (below_then T8.out hb)
      clear hb
      go_wp2_with fail
      refine (c4.out _ T9.out).mono ?_
      rintro e w10 ⟨rfl, hb⟩
      have T10 := hide (below_then T9.out hb)
      clear hb
      go_wp2_with fail
      refine (lp.out 5 _).mono ?_
      rintro e w11 ⟨rfl, hb⟩
      have T11 := hide (below_then T10.out hb)
      clear hb
      go_wp2_with fail
      refine (lu.out ⟨#[97]⟩ 5 _).mono ?_
      rintro e w12 ⟨p1, p2, rfl, hr1, hb⟩
      have T12 := hide (below_then T11.out hb)
      clear hb
      go_wp2_with fail
      refine (lp.out 7 _).mono ?_
      rintro e w13 ⟨rfl, hb⟩
      have T13 := hide (below_then T12.out hb)
      have hr2 := hide (hr1.out.below hb)
      clear hb
      go_wp2_with fail
      refine (lu.out ⟨#[98]⟩ 7 _).mono ?_
      rintro e w14 ⟨q1, q2, rfl, hr3, hb⟩
      have T14 := hide (below_then T13.out hb)
      have hr4 := hide (hr2.out.below hb)
      clear hb
      go_wp2_with fail
      refine (c5.out _ _ _ _ _ T14.out hr4.out hr3.out).mono ?_
      rintro e w15 ⟨g, o, c, x2, y2, z2, rfl, hj, hb⟩
      have T15 := hide (below_then T14.out hb)
      clear hb
      have hcj : ∀ ob, (w15.alloc ob).cell? ⟨g, o + 1, none⟩ = some (.string ⟨#[98]⟩) := fun ob => ((below_al (Below.refl w15.heap.size w15)).cell (p := ⟨g, o + 1, none⟩) hj.out.1).trans hj.out.2
      go_wp2_with fail
      refine (c6.out _ (below_al T15.out)).mono ?_
      rintro e w16 ⟨rfl, hb⟩
      have T16 := hide (below_then (below_al T15.out) hb)
      clear hb
      go_wp2_with fail
      refine (lp.out 9 _).mono ?_
      rintro e w17 ⟨rfl, hb⟩
      have T17 := hide (below_then T16.out hb)
      clear hb
      go_wp2_with fail
      refine (c7.out _ T17.out).mono ?_
      rintro e w18 ⟨rfl, hb⟩
      have T18 := hide (below_then T17.out hb)
      clear hb
      go_wp2_with fail
      go_ret
      exact ⟨rfl, T18.out⟩
end Go.Proofs.YtlfnnecpinmjjaaDoor
/- calamuskeep.CopyType: walked. -/
namespace Go.Proofs.YtlfnnecpinmjjaaDoor
open Go.RowKit Go.Maps
set_option linter.unusedSimpArgs false
set_option linter.unusedVariables false
set_option maxHeartbeats 2000000 in
set_option maxRecDepth 100000 in
theorem copyT_any : ∀ (n : Nat) (x : TT n) (ns ls : Value) (w : World), RT n w x ns ls → tblk n x ≤ 200000 →
    Calls Tryd.prog 10 #[.agg (tvs (thd n x) ns ls)] w fun e w' => ∃ ns' ls', e = .returned (.agg (tvs (thd n x) ns' ls')) ∧ Hid (KT n w' x ns' ls' w.heap.size w'.heap.size) ∧ Below w.heap.size w w' := by
  intro n
  induction n with
  | zero => intro x; exact Empty.elim x
  | succ n ih =>
    intro x ns ls w hr hbk
    obtain ⟨h, l⟩ := x
    obtain ⟨al, cl, rfl, hc1, hc2⟩ := hr.len
    obtain ⟨an, cn, rfl, hn1, hn2⟩ := hr.1.len
    have hr := hide hr
    have ih' := hide ih
    clear ih
    have hbn : h.names.length ≤ 200000 := by simp only [tblk] at hbk; omega
    have hbl : l.length ≤ 200000 := by have := tblk_len n l; simp only [tblk] at hbk; omega
    have hbe : Hid (∀ k (hk : k < l.length), tblk n l[k] ≤ 200000) := fun k hk => by have := tblk_at n l k hk; simp only [tblk] at hbk; omega
    clear hbk
    simp only at hn1 hn2 hc1 hc2
    have hB0 := hide (tx_new w h (.slice an h.names.length cn) (.slice al l.length cl))
    have ml : maxLen = 9223372036854775807 := rfl
    show Calls _ _ #[.agg #[.int .i64 h.kind, .slice an h.names.length cn, .slice al l.length cl]] _ _
    go_enter Tryd.func10, Tryd.ntmps10
    go_wp2_with (at_builtin; refine app_names rfl (.tmp 7) (.tmp 9) rfl rfl an _ cn h.names rfl rfl (hr.out.1.below (below_al (below_al (Below.refl _ _)))) (by omega) ?_; intro av c' w1 ho1 hb1)
    have hz1 : Hid (w.heap.size + 2 ≤ w1.heap.size) := by have := hb1.out.size; simp at this; show _ ≤ _; omega
    have hbw : Hid (Below w.heap.size w w1) := (below_al (below_al (Below.refl _ _))).trans (hb1.out.mono (by simp; omega))
    have hX1 : Hid (Tx w1 w.heap.size h (.slice an h.names.length cn) (.slice al l.length cl)) := (hB0.out.below (below_al (Below.refl _ _))).below hb1.out
    have hR1 : Hid (ZT w1 (w.heap.size + 1)) := by
      show _ = _
      rw [hb1.out.block _ (by simp)]
      rw [show w.heap.size + 1 = (w.alloc (.cells (tvs h (.slice an h.names.length cn) (.slice al l.length cl)) 26)).heap.size by simp]
      exact heap_alloc_new _ _
    have hO1 : Hid (OwnS w1 (w.heap.size + 2) (.slice av h.names.length c') h.names) := by have := ho1.out; simp at this; exact this
    clear hB0 ho1 hb1
    go_loopw [4, 5] (fun u i w' => ∃ (k : Nat) (av : Option Addr) (c : Nat), i = .int .i64 k ∧ u = .slice av k c ∧ k ≤ l.length ∧ Hid (LT n l w1 k u w')) (fun _ i _ => l.length - (intOf i).toNat)
    case atStart => exact ⟨0, none, 0, rfl, rfl, Nat.zero_le _, LT.start⟩
    case round =>
      obtain ⟨k, lav, lc, rfl, rfl, hk, H⟩ := hrel
      have hX := hide (hX1.out.below H.out.below)
      obtain ⟨c0, c1, c2⟩ := hX.out.cells
      by_cases hkl : k < l.length
      · have hki : (k : Int) < (l.length : Int) := by omega
        obtain ⟨b, o, c, he, hbl', hlc, hcm, ns', ls', hrg, hrd⟩ := hr.out.at k hkl
        have he' := Value.slice.inj he
        obtain ⟨rfl, _, rfl⟩ := he'
        clear he
        have hwb : Hid (Below w.heap.size w wr) := hbw.out.trans (H.out.below.mono (by have := hz1.out; omega))
        have hrgW := rangeAt_below hrg hwb.out hbl'
        have hrdW := hide (hrd.below hwb.out)
        obtain ⟨d0, d1, d2⟩ := range3 hrgW
        have cal := hide (ih'.out l[k] ns' ls' wr hrdW.out (hbe.out k hkl))
        simp only at d0 d1 d2
        obtain ⟨y, hy⟩ : ∃ y, l[k] = y := ⟨_, rfl⟩
        obtain ⟨hd, hhd⟩ : ∃ hd, thd n l[k] = hd := ⟨_, rfl⟩
        rw [hhd] at d0 cal
        simp only [tvs] at cal
        clear hrg hrd
        obtain ⟨xs, hx, hall⟩ := H.out.row
        have Hx := hide hx
        have Hall := hide hall
        clear hx hall
        go_wp2_with fail
        refine cal.out.mono ?_
        rintro e w2 ⟨ns2, ls2, rfl, hk2, hb2⟩
        rw [← hy] at *
        obtain ⟨q1, q2, q3, q4, q5, q6, rfl, rfl⟩ := hk2.out.rd.shape
        have hz2 := hb2.size
        have hb2' := hide hb2
        clear hb2
        go_wp2_with (at_builtin; refine app_t rfl (.tmp 24) (.tmp 26) rfl w1.heap.size _ k xs rfl (ownsRow_of Hx.out fun g hg hlt => by rw [Below.heap_alloc _ _ _ (by simp; omega), Below.heap_alloc _ _ _ (by omega), hb2'.out.block g hlt]) (w2.heap.size + 1) 1 rfl hd (.slice q1 q2 q3) (.slice q4 q5 q6) rfl rfl (by have := (tx_new (w2.alloc (.cells (tvs hd (.slice q1 q2 q3) (.slice q4 q5 q6)) 26)) hd (.slice q1 q2 q3) (.slice q4 q5 q6)).range; rw [World.size_alloc] at this; exact this) (by omega) (by have := H.out.below.size; simp; omega) ?_; intro av2 c2 w4 ho4 hg4 hat4)
        refine ⟨⟨k + 1, av2, c2, by go_num, rfl, by omega, ?_⟩, by simp [intOf]; omega⟩
        show LT _ _ _ _ _ _
        refine LT.step (w2 := w2) (w3 := (w2.alloc (.cells (tvs hd (.slice q1 q2 q3) (.slice q4 q5 q6)) 26)).alloc (.cells (tvs hd (.slice q1 q2 q3) (.slice q4 q5 q6)) 26)) (ns := .slice q1 q2 q3) (ls := .slice q4 q5 q6) H.out hkl Hx.out Hall.out hk2.out hb2'.out (below_al (below_al (Below.refl _ _))) hg4.out ?_ hat4.out
        rw [hhd]
        exact ho4.out
      · have hke : k = l.length := by omega
        have hki : ¬ ((k : Int) < (l.length : Int)) := by omega
        have hZ : ZT wr (w.heap.size + 1) := (H.out.below.block _ (by have := hz1.out; omega)).trans hR1.out
        obtain ⟨r0, r1, r2⟩ := hZ.cells
        have fz := hZ.frz
        have fx := hX.out.frz
        have hkc := hide hke
        clear hke hZ
        go_wp2_with fail
        refine bodyPost_ret (v := .agg #[.int .i64 h.kind, .slice av h.names.length c', .slice lav k lc]) (by simp [results, Tryd.results10, go_sem, *]) rfl ⟨.slice av h.names.length c', .slice lav k lc, rfl, ?_, ?_⟩
        · have e := hkc.out
          subst e
          refine LT.done (W := wr) H.out hO1.out hz1.out (by simp) ?_
          intro q hq
          simp only [heap_set_ne (show q ≠ w.heap.size by omega), heap_set_ne (show q ≠ w.heap.size + 1 by omega)]
        · have hb0 : Below w.heap.size w wr := hbw.out.trans (H.out.below.mono (by have := hz1.out; omega))
          iterate 5 refine Below.setCell ?_ (by show _ ≤ _; first | exact Nat.le_refl _ | exact Nat.le_succ _) _
          exact hb0
end Go.Proofs.YtlfnnecpinmjjaaDoor
/- calamuslaw11.TypesChecks: walked, given Join. -/
namespace Go.Proofs.YtlfnnecpinmjjaaDoor
open Go.RowKit Go.Maps
set_option linter.unusedSimpArgs false
set_option linter.unusedVariables false
/-- The arguments in their boxes. -/
structure ChecksB (w : World) (h0 : Th) (n0 l0 : Value) (h1 : Hd) (n1 l1 : Value) (W : World) : Prop where
  below : Below w.heap.size w W
  ba : Tx W (w.heap.size) h0 n0 l0
  bb : Bx W (w.heap.size + 1) h1 n1 l1
theorem ChecksB.then {w W W1 : World} {h0 : Th} {n0 l0 : Value} {h1 : Hd} {n1 l1 : Value} (k : ChecksB w h0 n0 l0 h1 n1 l1 W) (hb : Below W.heap.size W W1) : ChecksB w h0 n0 l0 h1 n1 l1 W1 := ⟨below_then k.below hb, k.ba.below hb, k.bb.below hb⟩
theorem ChecksB.new (w : World) (h0 : Th) (n0 l0 : Value) (h1 : Hd) (n1 l1 : Value) : ChecksB w h0 n0 l0 h1 n1 l1 ((w.alloc (.cells (tvs h0 n0 l0) 26)).alloc (.cells (vals h1 n1 l1) 33)) := by
  refine ⟨below_al (below_al (Below.refl _ _)), ?_, ?_⟩
  · have := tx_new (w) h0 n0 l0
    exact this.below (below_al (Below.refl _ _))
  · have := bx_new ((w).alloc (.cells (tvs h0 n0 l0) 26)) h1 n1 l1
    simp only [World.size_alloc] at this
    exact this
set_option maxHeartbeats 4000000 in
set_option maxRecDepth 100000 in
theorem tchecks_law (hJ : JoinOk) (n : Nat) (x : TT n) (m : Nat) (y : VT m) (n0 l0 n1 l1 : Value) (w : World) (hr0 : RT n w x n0 l0) (hz0 : TSz n x) (hr1 : RD m w y n1 l1) (hz1 : Sz m y) (gu : Ut.Gu w) (gt : Gt w) :
    Calls Tryd.prog 3 #[.agg (tvs (thd n x) n0 l0), .agg (vals (vhd m y) n1 l1)] w fun e w' => e = .returned (.bool true) ∧ Below w.heap.size w w' := by
  obtain ⟨a1, a2, a3, a4, a5, a6, rfl, rfl⟩ := hr0.shape
  obtain ⟨hp, hh0⟩ : ∃ h, thd n x = h := ⟨_, rfl⟩
  have g0 := hide (fun W (hb : Below w.heap.size w W) => bigt_any n x _ _ W (hr0.below hb) hz0)
  rw [hh0] at g0 ⊢
  obtain ⟨b1, b2, b3, b4, b5, b6, rfl, rfl⟩ := hr1.shape
  obtain ⟨hq, hh1⟩ : ∃ h, vhd m y = h := ⟨_, rfl⟩
  have g1 := hide (fun W (hb : Below w.heap.size w W) => Go.Proofs.YtlfnnecpinmjjaaDoor.big_any m y _ _ W (hr1.below hb) hz1)
  rw [hh1] at g1 ⊢
  have T0 := hide (ChecksB.new w (h0 := hp) (n0 := .slice a1 a2 a3) (l0 := .slice a4 a5 a6) (h1 := hq) (n1 := .slice b1 b2 b3) (l1 := .slice b4 b5 b6))
  have hAw := hide (fun W (hb : Below w.heap.size w W) => lawake_any hJ W (gu.below hb) (gt.below hb))
  have hr0' := hide hr0
  have hz0' := hide hz0
  have hh0' := hide hh0
  clear hr0 hz0 hh0
  have hr1' := hide hr1
  have hz1' := hide hz1
  have hh1' := hide hh1
  clear hr1 hz1 hh1
  have gu' := hide gu
  have gt' := hide gt
  clear gu gt
  show Calls _ _ #[.agg #[.int .i64 hp.kind, .slice a1 a2 a3, .slice a4 a5 a6], .agg #[.int .i64 hq.kind, .bool hq.flag, .bool hq.neg, .string hq.dig, .int .i64 hq.exp, .int .u64 hq.bits, .string hq.text, .slice b1 b2 b3, .slice b4 b5 b6]] _ _
  go_enter Tryd.func3, Tryd.ntmps3
  go_wp2_with fail
  refine (g0.out _ T0.out.below).mono ?_
  rintro e w1 ⟨bb, rfl, s0, hb⟩
  have T1 := hide (T0.out.then hb)
  clear hb
  cases bb
  rotate_left
  · go_wp2_with fail
    go_ret
    exact ⟨rfl, T1.out.below⟩
  obtain ⟨p0, p1, p2, p3, p4, p5, p6, p7, p8⟩ := T1.out.bb.cells
  go_wp2_with fail
  refine (g1.out _ T1.out.below).mono ?_
  rintro e w2 ⟨bb, rfl, s1, hb⟩
  have T2 := hide (T1.out.then hb)
  clear hb
  clear p0 p1 p2 p3 p4 p5 p6 p7 p8
  cases bb
  rotate_left
  · go_wp2_with fail
    go_ret
    exact ⟨rfl, T2.out.below⟩
  have s0 := hide (s0.out (by simp))
  obtain ⟨E0, hE0⟩ := tchk_ex n x
  have R0 : Hid (∀ W, Below w.heap.size w W → TRd n W x _ _) := fun W hb => ⟨hr0'.out.below hb, hz0'.out, Nat.le_trans (Nat.le_trans (tsiz_tblk n x) s0.out.1) (by omega)⟩
  have s1 := hide (s1.out (by simp))
  obtain ⟨E1, hE1⟩ := chk_ex m y
  have R1 : Hid (∀ W, Below w.heap.size w W → Rdy m W y _ _) := fun W hb => ⟨hr1'.out.below hb, hz1'.out, Nat.le_trans (Nat.le_trans (siz_blk m y) s1.out.1) (by omega)⟩
  have eqb : ∀ (q : Bool) (W : World), Sem.run Tryd.prog (binOp .eql 4 (.bool q) (.bool q)) W = .ok (.bool true) W := fun q W => by cases q <;> kernel_rfl
  have k1 := hide (fun W (hb : Below w.heap.size w W) => copyT_any n x _ _ W (hr0'.out.below hb) (by have := s0.out.1; omega))
  have k2 := hide (fun W (hb : Below w.heap.size w W) => copy_any m y _ _ W (hr1'.out.below hb) (by have := s1.out.1; omega))
  have k3 := hide (fun W ns2 ls2 (hb : Below w.heap.size w W) (h2 : RT n W x ns2 ls2) => tcheck_any n x ns2 ls2 W ⟨h2, hz0'.out, (R0.out W hb).le⟩ (gu'.out.below hb) (gt'.out.below hb) E0 hE0)
  have k4 := hide (fun W ns2 ls2 ns3 ls3 (hb : Below w.heap.size w W) (h2 : RT n W x ns2 ls2) (h3 : RD m W y ns3 ls3) => has_any n x ns2 ls2 m y ns3 ls3 W ⟨h2, hz0'.out, (R0.out W hb).le⟩ ⟨h3, hz1'.out, (R1.out W hb).le⟩ (gu'.out.below hb) (gt'.out.below hb) E0 E1 hE0 hE1)
  have k5 := hide (fun W (hb : Below w.heap.size w W) => rhas_any rval n x _ _ m y _ _ W (R0.out W hb) (R1.out W hb) E0 E1 hE0 hE1)
  have k6 := hide (fun W (hb : Below w.heap.size w W) => rtcheck_any rval n x _ _ W (R0.out W hb) E0 hE0)
  have k7 := hide (fun W ns2 ls2 (hb : Below w.heap.size w W) (h2 : RT n W x ns2 ls2) => Calls.tb (b := true) (rtsame_any n x x ns2 ls2 _ _ W h2 (hr0'.out.below hb)) ⟨fun _ => rfl, fun _ => rfl⟩)
  simp only [hh0'.out, hh1'.out] at k1 k2 k3 k4 k5 k6 k7
  obtain ⟨C1, hC1⟩ : ∃ C, Chk2 E0 E1 = C := ⟨_, rfl⟩
  rw [hC1] at k4 k5
  clear hC1 s0 s1 R0 R1 hE0 hE1
  simp only [tvs, vals] at k1 k2 k3 k4 k5 k6 k7
  obtain ⟨p0, p1, p2⟩ := T2.out.ba.cells
  go_wp2_with fail
  refine (k1.out _ T2.out.below).mono ?_
  rintro e w3 ⟨ns2, ls2, rfl, hk2, hb⟩
  have T3 := hide (T2.out.then hb)
  clear hb
  clear p0 p1 p2
  have hro := hide hk2.out.rd
  obtain ⟨o1, o2, o3, o4, o5, o6, rfl, rfl⟩ := hk2.out.rd.shape
  clear hk2
  have B4 : Hid (Below w3.heap.size w3 (w3.alloc (.cells #[.int .i64 hp.kind, .slice o1 o2 o3, .slice o4 o5 o6] 26))) := below_al (Below.refl _ _)
  have X4 : Hid (Tx (w3.alloc (.cells #[.int .i64 hp.kind, .slice o1 o2 o3, .slice o4 o5 o6] 26)) w3.heap.size hp (.slice o1 o2 o3) (.slice o4 o5 o6)) := tx_new w3 hp _ _
  have T4 := hide (T3.out.then B4.out)
  have hro4 := hide (hro.out.below B4.out)
  obtain ⟨q0, q1, q2, q3, q4, q5, q6, q7, q8⟩ := T4.out.bb.cells
  go_wp2_with fail
  refine (k2.out _ T4.out.below).mono ?_
  rintro e w5 ⟨ns3, ls3, rfl, hk3, hb⟩
  have T5 := hide (T4.out.then hb)
  have X5 := hide (X4.out.below hb)
  have hro5 := hide (hro4.out.below hb)
  clear hb
  clear q0 q1 q2 q3 q4 q5 q6 q7 q8
  have hrm := hide hk3.out.rd
  obtain ⟨m1, m2, m3, m4, m5, m6, rfl, rfl⟩ := hk3.out.rd.shape
  clear hk3 hro hro4 X4 B4 T3 T4
  have B6 : Hid (Below w5.heap.size w5 (w5.alloc (.cells #[.int .i64 hq.kind, .bool hq.flag, .bool hq.neg, .string hq.dig, .int .i64 hq.exp, .int .u64 hq.bits, .string hq.text, .slice m1 m2 m3, .slice m4 m5 m6] 33))) := below_al (Below.refl _ _)
  have Y6 : Hid (Bx (w5.alloc (.cells #[.int .i64 hq.kind, .bool hq.flag, .bool hq.neg, .string hq.dig, .int .i64 hq.exp, .int .u64 hq.bits, .string hq.text, .slice m1 m2 m3, .slice m4 m5 m6] 33)) w5.heap.size hq (.slice m1 m2 m3) (.slice m4 m5 m6)) := bx_new w5 hq _ _
  have T6 := hide (T5.out.then B6.out)
  have X6 := hide (X5.out.below B6.out)
  have hro6 := hide (hro5.out.below B6.out)
  have hrm6 := hide (hrm.out.below B6.out)
  obtain ⟨p0, p1, p2⟩ := X6.out.cells
  simp only [tvs, vals]
  go_wp2_with fail
  refine (k3.out _ _ _ T6.out.below hro6.out).mono ?_
  rintro e w7 ⟨rfl, hb⟩
  have T7 := hide (T6.out.then hb)
  have X7 := hide (X6.out.below hb)
  have Y7 := hide (Y6.out.below hb)
  have hro7 := hide (hro6.out.below hb)
  have hrm7 := hide (hrm6.out.below hb)
  clear hb p0 p1 p2 hro5 hro6 hrm hrm6 X5 X6 Y6 T5 T6 B6
  obtain ⟨p0, p1, p2⟩ := X7.out.cells
  obtain ⟨q0, q1, q2, q3, q4, q5, q6, q7, q8⟩ := Y7.out.cells
  go_wp2_with fail
  refine (k4.out _ _ _ _ _ T7.out.below hro7.out hrm7.out).mono ?_
  rintro e w8 ⟨u1, rfl, u1q, hb⟩
  have T8 := hide (T7.out.then hb)
  have X8 := hide (X7.out.below hb)
  have hro8 := hide (hro7.out.below hb)
  clear hb p0 p1 p2 q0 q1 q2 q3 q4 q5 q6 q7 q8 hro7 hrm7 X7 Y7 T7
  obtain ⟨p0, p1, p2⟩ := T8.out.ba.cells
  obtain ⟨q0, q1, q2, q3, q4, q5, q6, q7, q8⟩ := T8.out.bb.cells
  go_wp2_with fail
  refine (k5.out _ T8.out.below).mono ?_
  rintro e w9 ⟨u2, rfl, u2q, hb⟩
  have T9 := hide (T8.out.then hb)
  have X9 := hide (X8.out.below hb)
  have hro9 := hide (hro8.out.below hb)
  clear hb
  clear p0 p1 p2
  clear q0 q1 q2 q3 q4 q5 q6 q7 q8
  have hu : u1 = u2 := by
    have h1 := u1q.out
    have h2 := u2q.out
    cases u1 <;> cases u2
    · rfl
    · exact absurd (h1.2 (h2.1 rfl)) (by decide)
    · exact absurd (h2.2 (h1.1 rfl)) (by decide)
    · rfl
  subst hu
  have eq1 := eqb u1
  clear u1q u2q k1 k2 k3 k4 k5
  go_wp2_with fail
  refine (hAw.out _ T9.out.below).mono ?_
  rintro e w10 ⟨rfl, hb⟩
  have T10 := hide (T9.out.then hb)
  have X10 := hide (X9.out.below hb)
  have hro10 := hide (hro9.out.below hb)
  clear hb
  obtain ⟨p0, p1, p2⟩ := T10.out.ba.cells
  go_wp2_with fail
  refine (k6.out _ T10.out.below).mono ?_
  rintro e w11 ⟨rfl, hb⟩
  have T11 := hide (T10.out.then hb)
  have X11 := hide (X10.out.below hb)
  have hro11 := hide (hro10.out.below hb)
  clear hb
  clear p0 p1 p2
  obtain ⟨p0, p1, p2⟩ := T11.out.ba.cells
  obtain ⟨r0, r1, r2⟩ := X11.out.cells
  go_wp2_with fail
  refine (k7.out _ _ _ T11.out.below hro11.out).mono ?_
  rintro e w12 ⟨rfl, hb⟩
  have T12 := hide (T11.out.then hb)
  clear hb
  go_wp2_with fail
  go_ret
  exact ⟨rfl, T12.out.below⟩
end Go.Proofs.YtlfnnecpinmjjaaDoor
