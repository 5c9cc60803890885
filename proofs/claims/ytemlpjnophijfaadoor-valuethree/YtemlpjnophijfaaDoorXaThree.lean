/- calamuslaw04.ValueThree: walked. -/
import Derived.Test.YtemlpjnophijfaaDoorWzThree
namespace Go.Proofs.YtemlpjnophijfaaDoor
open Go.RowKit
set_option linter.unusedSimpArgs false
set_option linter.unusedVariables false
set_option maxHeartbeats 4000000 in
set_option maxRecDepth 100000 in
theorem three_law (n : Nat) (x y z : VT n) (ns ls ns' ls' nt lt : Value) (w : World) (hx : RD n w x ns ls) (zx : Sz n x) (hy : RD n w y ns' ls') (zy : Sz n y) (hz : RD n w z nt lt) (zz : Sz n z) (g : Ut.Gu w) :
    Calls Tryd.prog 5 #[.agg (vals (vhd n x) ns ls), .agg (vals (vhd n y) ns' ls'), .agg (vals (vhd n z) nt lt)] w fun e w' => e = .returned (.bool true) ∧ Below w.heap.size w w' := by
  obtain ⟨a1, a2, a3, a4, a5, a6, rfl, rfl⟩ := hx.shape
  obtain ⟨b1, b2, b3, b4, b5, b6, rfl, rfl⟩ := hy.shape
  obtain ⟨c1, c2, c3, c4, c5, c6, rfl, rfl⟩ := hz.shape
  obtain ⟨hp, hhp⟩ : ∃ h, vhd n x = h := ⟨_, rfl⟩
  obtain ⟨hq, hhq⟩ : ∃ h, vhd n y = h := ⟨_, rfl⟩
  obtain ⟨hk, hhk⟩ : ∃ h, vhd n z = h := ⟨_, rfl⟩
  have gx := hide (fun W (hb : Below w.heap.size w W) => Go.Proofs.YtemlpjnophijfaaDoor.big_any n x _ _ W (hx.below hb) zx)
  have gy := hide (fun W (hb : Below w.heap.size w W) => Go.Proofs.YtemlpjnophijfaaDoor.big_any n y _ _ W (hy.below hb) zy)
  have gz := hide (fun W (hb : Below w.heap.size w W) => Go.Proofs.YtemlpjnophijfaaDoor.big_any n z _ _ W (hz.below hb) zz)
  have T0 := hide (tw_new w hp hq hk (.slice a1 a2 a3) (.slice a4 a5 a6) (.slice b1 b2 b3) (.slice b4 b5 b6) (.slice c1 c2 c3) (.slice c4 c5 c6))
  have hx := hide hx
  have zx := hide zx
  have hy := hide hy
  have zy := hide zy
  have hz := hide hz
  have zz := hide zz
  have g := hide g
  rw [hhp] at gx ⊢
  rw [hhq] at gy ⊢
  rw [hhk] at gz ⊢
  have hhp := hide hhp
  have hhq := hide hhq
  have hhk := hide hhk
  show Calls _ _ #[.agg #[.int .i64 hp.kind, .bool hp.flag, .bool hp.neg, .string hp.dig, .int .i64 hp.exp, .int .u64 hp.bits, .string hp.text, .slice a1 a2 a3, .slice a4 a5 a6], .agg #[.int .i64 hq.kind, .bool hq.flag, .bool hq.neg, .string hq.dig, .int .i64 hq.exp, .int .u64 hq.bits, .string hq.text, .slice b1 b2 b3, .slice b4 b5 b6], .agg #[.int .i64 hk.kind, .bool hk.flag, .bool hk.neg, .string hk.dig, .int .i64 hk.exp, .int .u64 hk.bits, .string hk.text, .slice c1 c2 c3, .slice c4 c5 c6]] _ _
  go_enter Tryd.func5, Tryd.ntmps5
  go_wp2_with fail
  refine (gx.out _ T0.out.below).mono ?_
  rintro e w1 ⟨bb, rfl, sx, hb1⟩
  have T1 := hide (T0.out.then hb1)
  clear T0 hb1
  cases bb
  · obtain ⟨p0, p1, p2, p3, p4, p5, p6, p7, p8⟩ := T1.out.bb.cells
    go_wp2_with fail
    refine (gy.out _ T1.out.below).mono ?_
    rintro e w2 ⟨bb, rfl, sy, hb2⟩
    have T2 := hide (T1.out.then hb2)
    clear T1 hb2 p0 p1 p2 p3 p4 p5 p6 p7 p8
    cases bb
    · obtain ⟨p0, p1, p2, p3, p4, p5, p6, p7, p8⟩ := T2.out.bc.cells
      go_wp2_with fail
      refine (gz.out _ T2.out.below).mono ?_
      rintro e w3 ⟨bb, rfl, sz, hb3⟩
      have T3 := hide (T2.out.then hb3)
      clear T2 hb3 p0 p1 p2 p3 p4 p5 p6 p7 p8
      cases bb
      · have sx := hide (sx.out (by simp))
        have sy := hide (sy.out (by simp))
        have sz := hide (sz.out (by simp))
        obtain ⟨E1, h1⟩ := chk_ex n x
        obtain ⟨E2, h2⟩ := chk_ex n y
        obtain ⟨E3, h3⟩ := chk_ex n z
        have Rx : Hid (∀ W, Below w.heap.size w W → Rdy n W x _ _) := fun W hb => ⟨hx.out.below hb, zx.out, Nat.le_trans (Nat.le_trans (siz_blk n x) sx.out.1) (by omega)⟩
        have Ry : Hid (∀ W, Below w.heap.size w W → Rdy n W y _ _) := fun W hb => ⟨hy.out.below hb, zy.out, Nat.le_trans (Nat.le_trans (siz_blk n y) sy.out.1) (by omega)⟩
        have Rz : Hid (∀ W, Below w.heap.size w W → Rdy n W z _ _) := fun W hb => ⟨hz.out.below hb, zz.out, Nat.le_trans (Nat.le_trans (siz_blk n z) sz.out.1) (by omega)⟩
        have kxy := hide (fun W (hb : Below w.heap.size w W) => vcmpA n x y _ _ _ _ W (Rx.out W hb) (Ry.out W hb) (g.out.below hb) E1 E2 h1 h2)
        have kyz := hide (fun W (hb : Below w.heap.size w W) => vcmpA n y z _ _ _ _ W (Ry.out W hb) (Rz.out W hb) (g.out.below hb) E2 E3 h2 h3)
        have kxz := hide (fun W (hb : Below w.heap.size w W) => vcmpA n x z _ _ _ _ W (Rx.out W hb) (Rz.out W hb) (g.out.below hb) E1 E3 h1 h3)
        have kyx := hide (fun W (hb : Below w.heap.size w W) => vcmpA n y x _ _ _ _ W (Ry.out W hb) (Rx.out W hb) (g.out.below hb) E2 E1 h2 h1)
        have kxx := hide (fun W (hb : Below w.heap.size w W) => vcmpA n x x _ _ _ _ W (Rx.out W hb) (Rx.out W hb) (g.out.below hb) E1 E1 h1 h1)
        obtain ⟨q, hq'⟩ := tells (x = y)
        have keq := hide (fun W (hb : Below w.heap.size w W) => Calls.tb (equal_any n x y _ _ _ _ W (Rx.out W hb).rd (Ry.out W hb).rd) hq')
        have kc1 := hide (fun W (hb : Below w.heap.size w W) => check_any n x _ _ W (Rx.out W hb) (g.out.below hb) E1 h1)
        have kc2 := hide (fun W (hb : Below w.heap.size w W) => check_any n y _ _ W (Ry.out W hb) (g.out.below hb) E2 h2)
        have hAw := hide (fun W (hb : Below w.heap.size w W) => awake_any W (g.out.below hb))
        rw [hhp.out] at kxy kxz kyx kxx keq kc1
        rw [hhq.out] at kxy kyz kyx keq kc2
        rw [hhk.out] at kyz kxz
        clear hx hy hz zx zy zz sx sy sz Rx Ry Rz gx gy gz
        obtain ⟨p0, p1, p2, p3, p4, p5, p6, p7, p8⟩ := T3.out.ba.cells
        obtain ⟨q0, q1, q2, q3, q4, q5, q6, q7, q8⟩ := T3.out.bb.cells
        obtain ⟨r0, r1, r2, r3, r4, r5, r6, r7, r8⟩ := T3.out.bc.cells
        obtain ⟨X1, hX1⟩ : ∃ X, (cmpE E1 E2 (cmpV n x y)).1 = X := ⟨_, rfl⟩
        obtain ⟨X2, hX2⟩ : ∃ X, (cmpE E1 E2 (cmpV n x y)).2 = X := ⟨_, rfl⟩
        obtain ⟨Y1, hY1⟩ : ∃ X, (cmpE E2 E3 (cmpV n y z)).1 = X := ⟨_, rfl⟩
        obtain ⟨Y2, hY2⟩ : ∃ X, (cmpE E2 E3 (cmpV n y z)).2 = X := ⟨_, rfl⟩
        obtain ⟨Z1, hZ1⟩ : ∃ X, (cmpE E1 E3 (cmpV n x z)).1 = X := ⟨_, rfl⟩
        obtain ⟨Z2, hZ2⟩ : ∃ X, (cmpE E1 E3 (cmpV n x z)).2 = X := ⟨_, rfl⟩
        rw [hX1, hX2] at kxy
        rw [hY1, hY2] at kyz
        rw [hZ1, hZ2] at kxz
        have hX1 := hide hX1
        have hX2 := hide hX2
        have hY1 := hide hY1
        have hY2 := hide hY2
        have hZ1 := hide hZ1
        have hZ2 := hide hZ2
        have h1 := hide h1
        have h2 := hide h2
        have h3 := hide h3
        go_wp2_with fail
        refine (kxy.out _ T3.out.below).mono ?_
        rintro e w4 ⟨rfl, hb4⟩
        have T4 := hide (T3.out.then hb4)
        clear T3 hb4 p0 p1 p2 p3 p4 p5 p6 p7 p8 q0 q1 q2 q3 q4 q5 q6 q7 q8 r0 r1 r2 r3 r4 r5 r6 r7 r8
        obtain ⟨q0, q1, q2, q3, q4, q5, q6, q7, q8⟩ := T4.out.bb.cells
        obtain ⟨r0, r1, r2, r3, r4, r5, r6, r7, r8⟩ := T4.out.bc.cells
        go_wp2_with fail
        refine (kyz.out _ T4.out.below).mono ?_
        rintro e w5 ⟨rfl, hb5⟩
        have T5 := hide (T4.out.then hb5)
        clear T4 hb5 q0 q1 q2 q3 q4 q5 q6 q7 q8 r0 r1 r2 r3 r4 r5 r6 r7 r8
        obtain ⟨p0, p1, p2, p3, p4, p5, p6, p7, p8⟩ := T5.out.ba.cells
        obtain ⟨r0, r1, r2, r3, r4, r5, r6, r7, r8⟩ := T5.out.bc.cells
        go_wp2_with fail
        refine (kxz.out _ T5.out.below).mono ?_
        rintro e w6 ⟨rfl, hb6⟩
        have T6 := hide (T5.out.then hb6)
        clear T5 hb6 p0 p1 p2 p3 p4 p5 p6 p7 p8 r0 r1 r2 r3 r4 r5 r6 r7 r8
        have hAw6 := hide (hAw.out w6 T6.out.below)
        by_cases x2 : X2 = 0
        · have e1 : E1 = 0 := by
            have q := hX2.out; rw [x2] at q; unfold cmpE at q
            by_cases q1 : E1 = 0
            · exact q1
            · rw [if_neg q1] at q; exact absurd q q1
          have e2 : E2 = 0 := by
            have q := hX2.out; rw [x2] at q; unfold cmpE at q
            rw [if_pos e1] at q
            by_cases q1 : E2 = 0
            · exact q1
            · rw [if_neg q1] at q; exact absurd q q1
          subst x2
          by_cases y2 : Y2 = 0
          · have e3 : E3 = 0 := by
              have q := hY2.out; rw [y2] at q; unfold cmpE at q
              rw [if_pos e2] at q
              by_cases q1 : E3 = 0
              · exact q1
              · rw [if_neg q1] at q; exact absurd q q1
            subst e1 e2 e3
            have z2 : Z2 = 0 := by rw [← hZ2.out]; rfl
            subst y2 z2
            have vx := (chk_ok h1.out rfl).1
            have vy := (chk_ok h2.out rfl).1
            have vz := (chk_ok h3.out rfl).1
            have o := ord_v n
            have hback : cmpV n y x = - X1 := by rw [← hX1.out]; exact o.rev x y vx vy
            have hown : cmpV n x x = 0 := (o.zero x x vx vx).2 rfl
            have hv : X1 = -1 ∨ X1 = 0 ∨ X1 = 1 := by rw [← hX1.out]; exact o.val x y
            have hvy : Y1 = -1 ∨ Y1 = 0 ∨ Y1 = 1 := by rw [← hY1.out]; exact o.val y z
            have hvz : Z1 = -1 ∨ Z1 = 0 ∨ Z1 = 1 := by rw [← hZ1.out]; exact o.val x z
            have heq : X1 = 0 ↔ x = y := by rw [← hX1.out]; exact o.zero x y vx vy
            have htr : X1 ≤ 0 → Y1 ≤ 0 → Z1 ≤ 0 := by rw [← hX1.out, ← hY1.out, ← hZ1.out]; exact o.tr x y z vx vy vz
            have heq : q = true ↔ X1 = 0 := hq'.trans heq.symm
            have kyx := hide (fun W hb => show Calls _ _ _ W fun e w' => e = .returned (.tuple #[.int .i64 (-X1), .int .i64 0]) ∧ Below W.heap.size W w' by have := kyx.out W hb; rw [hback] at this; exact this)
            have kxx := hide (fun W hb => show Calls _ _ _ W fun e w' => e = .returned (.tuple #[.int .i64 0, .int .i64 0]) ∧ Below W.heap.size W w' by have := kxx.out W hb; rw [hown] at this; exact this)
            clear kxy kyz kxz kc1 kc2 hX1 hX2 hY1 hY2 hZ1 hZ2 h1 h2 h3 vx vy vz o hback hown hq'
            have fin : Hid ((X1 = 1 ∧ q = false) ∨ (X1 = -1 ∧ Y1 = 1 ∧ q = false) ∨ (X1 = -1 ∧ Y1 ≤ 0 ∧ Z1 ≤ 0 ∧ q = false) ∨ (X1 = 0 ∧ Y1 = 1 ∧ q = true) ∨ (X1 = 0 ∧ Y1 ≤ 0 ∧ Z1 ≤ 0 ∧ q = true)) := by
              rcases hv with rfl | rfl | rfl
              · have : q = false := by cases q; rfl; exact absurd (heq.1 rfl) (by decide)
                rcases hvy with rfl | rfl | rfl
                · exact Or.inr (Or.inr (Or.inl ⟨rfl, by decide, htr (by decide) (by decide), this⟩))
                · exact Or.inr (Or.inr (Or.inl ⟨rfl, by decide, htr (by decide) (by decide), this⟩))
                · exact Or.inr (Or.inl ⟨rfl, rfl, this⟩)
              · have : q = true := heq.2 rfl
                rcases hvy with rfl | rfl | rfl
                · exact Or.inr (Or.inr (Or.inr (Or.inr ⟨rfl, by decide, htr (by decide) (by decide), this⟩)))
                · exact Or.inr (Or.inr (Or.inr (Or.inr ⟨rfl, by decide, htr (by decide) (by decide), this⟩)))
                · exact Or.inr (Or.inr (Or.inr (Or.inl ⟨rfl, rfl, this⟩)))
              · have : q = false := by cases q; rfl; exact absurd (heq.1 rfl) (by decide)
                exact Or.inl ⟨rfl, this⟩
            clear hv hvy hvz heq htr
            obtain ⟨p0, p1, p2, p3, p4, p5, p6, p7, p8⟩ := T6.out.ba.cells
            obtain ⟨q0, q1, q2, q3, q4, q5, q6, q7, q8⟩ := T6.out.bb.cells
            go_wp2_with fail
            refine (kyx.out _ T6.out.below).mono ?_
            rintro e w7 ⟨rfl, hb7⟩
            have T7 := hide (T6.out.then hb7)
            clear T6 hb7 hAw6 p0 p1 p2 p3 p4 p5 p6 p7 p8 q0 q1 q2 q3 q4 q5 q6 q7 q8
            obtain ⟨p0, p1, p2, p3, p4, p5, p6, p7, p8⟩ := T7.out.ba.cells
            go_wp2_with fail
            refine (kxx.out _ T7.out.below).mono ?_
            rintro e w8 ⟨rfl, hb8⟩
            have T8 := hide (T7.out.then hb8)
            clear T7 hb8 p0 p1 p2 p3 p4 p5 p6 p7 p8
            have hAw8 := hide (hAw.out w8 T8.out.below)
            go_wp2_with fail
            refine hAw8.out.mono ?_
            rintro e w9 ⟨rfl, hb9⟩
            have T9 := hide (T8.out.then hb9)
            clear T8 hb9 hAw8
            have keq9 := hide (keq.out w9 T9.out.below)
            obtain ⟨p0, p1, p2, p3, p4, p5, p6, p7, p8⟩ := T9.out.ba.cells
            obtain ⟨q0, q1, q2, q3, q4, q5, q6, q7, q8⟩ := T9.out.bb.cells
            rcases fin.out with ⟨rfl, rfl⟩ | ⟨rfl, rfl, rfl⟩ | ⟨rfl, y1, z1, rfl⟩ | ⟨x0, y1, rfl⟩ | ⟨x0, y1, z1, rfl⟩
            · go_wp2_with (go_at_call 20; refine keq9.out.mono ?_; rintro e w10 ⟨rfl, hb10⟩)
              go_ret
              exact ⟨by first | rfl | (simp; done), below_then T9.out.below hb10⟩
            · go_wp2_with (go_at_call 20; refine keq9.out.mono ?_; rintro e w10 ⟨rfl, hb10⟩)
              go_ret
              exact ⟨by first | rfl | (simp; done), below_then T9.out.below hb10⟩
            · have y1' : ¬ (0 < Y1) := by omega
              go_wp2_with (go_at_call 20; refine keq9.out.mono ?_; rintro e w10 ⟨rfl, hb10⟩)
              go_ret
              exact ⟨by first | rfl | (simp; done), below_then T9.out.below hb10⟩
            · have y1' : 0 < Y1 := by omega
              have x0' : ¬ (0 < X1) := by omega
              have hbt : ∀ W : World, Sem.run Tryd.prog (binOp BinOp.eql 4 (.bool true) (.bool true)) W = .ok (.bool true) W := fun W => by first | rfl | simp [go_sem]
              go_wp2_with (go_at_call 20; refine keq9.out.mono ?_; rintro e w10 ⟨rfl, hb10⟩)
              go_ret
              exact ⟨by first | rfl | (simp; done), below_then T9.out.below hb10⟩
            · have y1' : ¬ (0 < Y1) := by omega
              have x0' : ¬ (0 < X1) := by omega
              have hbt : ∀ W : World, Sem.run Tryd.prog (binOp BinOp.eql 4 (.bool true) (.bool true)) W = .ok (.bool true) W := fun W => by first | rfl | simp [go_sem]
              go_wp2_with (go_at_call 20; refine keq9.out.mono ?_; rintro e w10 ⟨rfl, hb10⟩)
              go_ret
              exact ⟨by first | rfl | (simp; done), below_then T9.out.below hb10⟩
          · go_wp2_with (go_at_call 11; refine hAw6.out.mono ?_; rintro e w7 ⟨rfl, hb7⟩)
            go_ret
            exact ⟨by first | rfl | (simp; done), below_then T6.out.below hb7⟩
        · go_wp2_with fail
          refine hAw6.out.mono ?_
          rintro e w7 ⟨rfl, hb7⟩
          have T7 := hide (T6.out.then hb7)
          clear T6 hb7 hAw6
          have kc1 := hide (kc1.out w7 T7.out.below)
          obtain ⟨p0, p1, p2, p3, p4, p5, p6, p7, p8⟩ := T7.out.ba.cells
          by_cases e1 : E1 = 0
          · have e2 : E2 ≠ 0 := by
              intro e2
              have q := hX2.out
              rw [e1, e2] at q
              exact x2 q.symm
            subst e1
            go_wp2_with fail
            refine kc1.out.mono ?_
            rintro e w8 ⟨rfl, hb8⟩
            have T8 := hide (T7.out.then hb8)
            clear T7 hb8 p0 p1 p2 p3 p4 p5 p6 p7 p8
            have kc2 := hide (kc2.out w8 T8.out.below)
            obtain ⟨q0, q1, q2, q3, q4, q5, q6, q7, q8⟩ := T8.out.bb.cells
            go_wp2_with (go_at_call 10; refine kc2.out.mono ?_; rintro e w9 ⟨rfl, hb9⟩)
            go_ret
            exact ⟨by first | rfl | (simp; done) | (simp; exact Or.inr e2), below_then T8.out.below hb9⟩
          · go_wp2_with (go_at_call 10; refine kc1.out.mono ?_; rintro e w8 ⟨rfl, hb8⟩)
            go_ret
            exact ⟨by first | rfl | (simp; done), below_then T7.out.below hb8⟩
      · go_wp2_with fail
        go_ret
        exact ⟨rfl, T3.out.below⟩
    · go_wp2_with fail
      go_ret
      exact ⟨rfl, T2.out.below⟩
  · go_wp2_with fail
    go_ret
    exact ⟨rfl, T1.out.below⟩
end Go.Proofs.YtemlpjnophijfaaDoor
