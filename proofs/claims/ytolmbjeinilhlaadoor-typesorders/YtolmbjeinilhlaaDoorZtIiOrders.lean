/- calamuslaw11.TypesOrders: walked, given Join and the reference's Joined. -/
import Derived.Test.YtolmbjeinilhlaaDoorZtIlAwake
import Derived.Test.YtolmbjeinilhlaaDoorZtWcBig
import Derived.Test.YtolmbjeinilhlaaDoorZtS
namespace Go.Proofs.YtolmbjeinilhlaaDoor
open Go.RowKit Go.Maps
set_option linter.unusedSimpArgs false
set_option linter.unusedVariables false
/-- The zero type. -/
def zT (n : Nat) : TT (n + 1) := (⟨0, []⟩, [])
theorem zT_rd (n : Nat) (W : World) : RT (n + 1) W (zT n) (.slice none 0 0) (.slice none 0 0) := ⟨Or.inl ⟨rfl, rfl⟩, Or.inl ⟨rfl, rfl⟩⟩
theorem JoinP.as {n : Nat} {C : Int} {x y : TT (n + 1)} {w : World} {e : Ending} {w' : World} (h : JoinP n C x y w e w') :
    ∃ (j : TT (n + 1)) (ns2 ls2 : Value), e = .returned (.tuple #[.agg (tvs j.1 ns2 ls2), .int .i64 C]) ∧ Hid (((C ≠ 0 ∧ j = zT n) ∨ (C = 0 ∧ Jn n x y j)) ∧ RT (n + 1) w' j ns2 ls2) ∧ Below w.heap.size w w' := by
  rcases h with ⟨h1, rfl, h3⟩ | ⟨rfl, j, ns2, ls2, rfl, h2, h3⟩
  · exact ⟨zT n, _, _, rfl, ⟨Or.inl ⟨h1, rfl⟩, zT_rd n w'⟩, h3⟩
  · exact ⟨j, ns2, ls2, rfl, ⟨Or.inr ⟨rfl, h2.out.1⟩, h2.out.2⟩, h3⟩
theorem RJoinP.as {n : Nat} {C : Int} {x y : TT (n + 1)} {w : World} {e : Ending} {w' : World} (h : RJoinP n C x y w e w') :
    ∃ (j : TT (n + 1)) (ns2 ls2 : Value), e = .returned (.tuple #[.agg (tvs j.1 ns2 ls2), .int .i64 C]) ∧ Hid (((C ≠ 0 ∧ j = zT n) ∨ (C = 0 ∧ RJn n x y j)) ∧ RT (n + 1) w' j ns2 ls2) ∧ Below w.heap.size w w' := by
  rcases h with ⟨h1, rfl, h3⟩ | ⟨rfl, j, ns2, ls2, rfl, h2, h3⟩
  · exact ⟨zT n, _, _, rfl, ⟨Or.inl ⟨h1, rfl⟩, zT_rd n w'⟩, h3⟩
  · exact ⟨j, ns2, ls2, rfl, ⟨Or.inr ⟨rfl, h2.out.1⟩, h2.out.2⟩, h3⟩
theorem eqbool (b : Bool) : (b == b) = true := by cases b <;> rfl
set_option maxHeartbeats 4000000 in
set_option maxRecDepth 100000 in
theorem torders_s (hJ : JoinOk) (rv : RVal) (rj : RJoinedOk) (n : Nat) (x : TT (n + 1)) (y : TT (n + 1)) (n0 l0 n1 l1 : Value) (w : World) (hr0 : RT (n + 1) w x n0 l0) (hz0 : TSz (n + 1) x) (hr1 : RT (n + 1) w y n1 l1) (hz1 : TSz (n + 1) y) (gu : Ut.Gu w) (gt : Gt w) :
    Calls Tryd.prog 4 #[.agg (tvs (thd (n + 1) x) n0 l0), .agg (tvs (thd (n + 1) y) n1 l1)] w fun e w' => e = .returned (.bool true) ∧ Below w.heap.size w w' := by
  obtain ⟨a1, a2, a3, a4, a5, a6, rfl, rfl⟩ := hr0.shape
  obtain ⟨hp, hh0⟩ : ∃ h, thd (n + 1) x = h := ⟨_, rfl⟩
  have g0 := hide (fun W (hb : Below w.heap.size w W) => bigt_any (n + 1) x _ _ W (hr0.below hb) hz0)
  rw [hh0] at g0 ⊢
  obtain ⟨b1, b2, b3, b4, b5, b6, rfl, rfl⟩ := hr1.shape
  obtain ⟨hq, hh1⟩ : ∃ h, thd (n + 1) y = h := ⟨_, rfl⟩
  have g1 := hide (fun W (hb : Below w.heap.size w W) => bigt_any (n + 1) y _ _ W (hr1.below hb) hz1)
  rw [hh1] at g1 ⊢
  have T0 := hide (Bo2.new w hp hq (.slice a1 a2 a3) (.slice a4 a5 a6) (.slice b1 b2 b3) (.slice b4 b5 b6))
  have hAw := hide (fun W (hb : Below w.heap.size w W) => lawake_any hJ W (gu.below hb) (gt.below hb))
  have hr0' := hide hr0
  have hz0' := hide hz0
  have hh0' := hide hh0
  have hx1' := hide (show x.1 = hp from hh0)
  clear hr0 hz0 hh0
  have hr1' := hide hr1
  have hz1' := hide hz1
  have hh1' := hide hh1
  have hy1' := hide (show y.1 = hq from hh1)
  clear hr1 hz1 hh1
  have gu' := hide gu
  have gt' := hide gt
  clear gu gt
  show Calls _ _ #[.agg #[.int .i64 hp.kind, .slice a1 a2 a3, .slice a4 a5 a6], .agg #[.int .i64 hq.kind, .slice b1 b2 b3, .slice b4 b5 b6]] _ _
  go_enter Tryd.func4, Tryd.ntmps4
  go_wp2_with fail
  refine (g0.out _ T0.out.below).mono ?_
  rintro e w1 ⟨bb, rfl, s0, hb⟩
  have T1 := hide (T0.out.then hb)
  clear hb
  cases bb
  rotate_left
  · go_wp2_with fail
    go_ret
    exact ⟨rfl, T1.out.below⟩
  obtain ⟨p0, p1, p2⟩ := T1.out.bb.cells
  go_wp2_with fail
  refine (g1.out _ T1.out.below).mono ?_
  rintro e w2 ⟨bb, rfl, s1, hb⟩
  have T2 := hide (T1.out.then hb)
  clear hb
  clear p0 p1 p2
  cases bb
  rotate_left
  · go_wp2_with fail
    go_ret
    exact ⟨rfl, T2.out.below⟩
  have s0 := hide (s0.out (by simp))
  obtain ⟨E0, hE0⟩ := tchk_ex (n + 1) x
  have R0 : Hid (∀ W, Below w.heap.size w W → TRd (n + 1) W x _ _) := fun W hb => ⟨hr0'.out.below hb, hz0'.out, Nat.le_trans (Nat.le_trans (tsiz_tblk (n + 1) x) s0.out.1) (by omega)⟩
  have s1 := hide (s1.out (by simp))
  obtain ⟨E1, hE1⟩ := tchk_ex (n + 1) y
  have R1 : Hid (∀ W, Below w.heap.size w W → TRd (n + 1) W y _ _) := fun W hb => ⟨hr1'.out.below hb, hz1'.out, Nat.le_trans (Nat.le_trans (tsiz_tblk (n + 1) y) s1.out.1) (by omega)⟩
  have k1 := hide (fun W (hb : Below w.heap.size w W) => sub_any (n + 1) x y _ _ _ _ W (R0.out W hb) (R1.out W hb) (gu'.out.below hb) (gt'.out.below hb) E0 E1 hE0 hE1)
  have k2 := hide (fun W (hb : Below w.heap.size w W) => rsub_any rv n x y _ _ _ _ W (R0.out W hb) (R1.out W hb) E0 E1 hE0 hE1)
  have k3 := hide (fun W (hb : Below w.heap.size w W) => (hJ n x y _ _ _ _ W (R0.out W hb) (R1.out W hb) (gu'.out.below hb) (gt'.out.below hb) E0 E1 hE0 hE1).mono fun _ _ q => q.as)
  have k4 := hide (fun W (hb : Below w.heap.size w W) => (rjoin_any rv rj n x y _ _ _ _ W (R0.out W hb) (R1.out W hb) E0 E1 hE0 hE1).mono fun _ _ q => q.as)
  have hT : Hid (Chk2 E0 E1 = 0 → IsT (n + 1) x ∧ IsT (n + 1) y) := fun q => by
    obtain ⟨q1, q2⟩ := chk2_zero q
    subst q1 q2
    exact ⟨hE0.zero.1, hE1.zero.1⟩
  simp only [hh0'.out, hh1'.out] at k1
  simp only [hx1'.out, hy1'.out] at k2 k3 k4
  simp only [tvs] at k1 k2
  obtain ⟨C, hC⟩ : ∃ C, Chk2 E0 E1 = C := ⟨_, rfl⟩
  rw [hC] at k1 k2 k3 k4 hT
  clear hC R0 R1 s0 s1 hE0 hE1
  obtain ⟨p0, p1, p2⟩ := T2.out.ba.cells
  obtain ⟨q0, q1, q2⟩ := T2.out.bb.cells
  go_wp2_with fail
  refine (k1.out _ T2.out.below).mono ?_
  rintro e w4 ⟨u1, rfl, u1q, hb⟩
  have T4 := hide (T2.out.then hb)
  clear hb p0 p1 p2 q0 q1 q2
  obtain ⟨p0, p1, p2⟩ := T4.out.ba.cells
  obtain ⟨q0, q1, q2⟩ := T4.out.bb.cells
  go_wp2_with fail
  refine (k2.out _ T4.out.below).mono ?_
  rintro e w5 ⟨u2, rfl, u2q, hb⟩
  have T5 := hide (T4.out.then hb)
  clear hb p0 p1 p2 q0 q1 q2
  have hu : u1 = u2 := by
    have h1 := u1q.out
    have h2 := u2q.out
    cases u1 <;> cases u2
    · rfl
    · exact absurd (h1.2 (h2.1 rfl)) (by decide)
    · exact absurd (h2.2 (h1.1 rfl)) (by decide)
    · rfl
  subst hu
  have eq1 := eqbool u1
  clear u1q u2q k1 k2
  obtain ⟨p0, p1, p2⟩ := T5.out.ba.cells
  obtain ⟨q0, q1, q2⟩ := T5.out.bb.cells
  go_wp2_with fail
  refine (k3.out _ T5.out.below).mono ?_
  rintro e w6 ⟨j, ns2, ls2, rfl, hj, hb⟩
  have T6 := hide (T5.out.then hb)
  clear hb p0 p1 p2 q0 q1 q2
  obtain ⟨j1, j2, j3, j4, j5, j6, rfl, rfl⟩ := hj.out.2.shape
  obtain ⟨jh, hjh⟩ : ∃ h, thd (n + 1) j = h := ⟨_, rfl⟩
  have hjh' := hide hjh
  rw [show j.1 = jh from hjh]
  clear hjh
  simp only [tvs]
  have B7 : Hid (Below w6.heap.size w6 (w6.alloc (.cells #[.int .i64 jh.kind, .slice j1 j2 j3, .slice j4 j5 j6] 26))) := below_al (Below.refl _ _)
  have X7 : Hid (Tx (w6.alloc (.cells #[.int .i64 jh.kind, .slice j1 j2 j3, .slice j4 j5 j6] 26)) w6.heap.size jh (.slice j1 j2 j3) (.slice j4 j5 j6)) := tx_new w6 jh _ _
  have T7 := hide (T6.out.then B7.out)
  have J7 := hide (hj.out.2.below B7.out)
  obtain ⟨p0, p1, p2⟩ := T7.out.ba.cells
  obtain ⟨q0, q1, q2⟩ := T7.out.bb.cells
  go_wp2_with fail
  refine (k4.out _ T7.out.below).mono ?_
  rintro e w8 ⟨k, ns3, ls3, rfl, hk, hb⟩
  have T8 := hide (T7.out.then hb)
  have X8 := hide (X7.out.below hb)
  have J8 := hide (J7.out.below hb)
  clear hb p0 p1 p2 q0 q1 q2 B7 X7 T7 J7
  obtain ⟨k1, k2, k3', k4', k5, k6, rfl, rfl⟩ := hk.out.2.shape
  have hjk : Hid (j = k) := by
    rcases hj.out.1 with ⟨h1, h2⟩ | ⟨h1, h2⟩
    · rcases hk.out.1 with ⟨h3, h4⟩ | ⟨h3, h4⟩
      · rw [h2, h4]; exact hide rfl
      · exact absurd h3 h1
    · rcases hk.out.1 with ⟨h3, h4⟩ | ⟨h3, h4⟩
      · exact absurd h1 h3
      · exact jn_rjn (hT.out h1).1 (hT.out h1).2 h2 h4
  have hkh : Hid (thd (n + 1) k = jh) := by rw [← hjk.out]; exact hjh'.out
  rw [show k.1 = jh from hkh.out]
  simp only [tvs]
  have B9 : Hid (Below w8.heap.size w8 (w8.alloc (.cells #[.int .i64 jh.kind, .slice k1 k2 k3', .slice k4' k5 k6] 26))) := below_al (Below.refl _ _)
  have Y9 : Hid (Tx (w8.alloc (.cells #[.int .i64 jh.kind, .slice k1 k2 k3', .slice k4' k5 k6] 26)) w8.heap.size jh (.slice k1 k2 k3') (.slice k4' k5 k6)) := tx_new w8 jh _ _
  have T9 := hide (T8.out.then B9.out)
  have X9 := hide (X8.out.below B9.out)
  have J9 := hide (J8.out.below B9.out)
  have K9 := hide (hk.out.2.below B9.out)
  have eqC : (C == C) = true := by simp
  go_wp2_with fail
  refine (hAw.out _ T9.out.below).mono ?_
  rintro e w10 ⟨rfl, hb⟩
  have T10 := hide (T9.out.then hb)
  have X10 := hide (X9.out.below hb)
  have Y10 := hide (Y9.out.below hb)
  have k7 := Calls.tb (rtsame_any (n + 1) j k _ _ _ _ w10 (J9.out.below hb) (K9.out.below hb)) (b := true) ⟨fun _ => hjk.out, fun _ => rfl⟩
  rw [hjh'.out, hkh.out] at k7
  simp only [tvs] at k7
  have k7 := hide k7
  clear hb B9 T9 X9 Y9 J9 K9 X8 T8 J8
  obtain ⟨p0, p1, p2⟩ := X10.out.cells
  obtain ⟨q0, q1, q2⟩ := Y10.out.cells
  go_wp2_with fail
  refine k7.out.mono ?_
  rintro e w11 ⟨rfl, hb⟩
  have T11 := hide (T10.out.then hb)
  clear hb
  go_wp2_with fail
  go_ret
  exact ⟨rfl, T11.out.below⟩
theorem torders_law (hJ : JoinOk) (rv : RVal) (rj : RJoinedOk) : ∀ (n : Nat) (x : TT n) (y : TT n) (n0 l0 n1 l1 : Value) (w : World), RT n w x n0 l0 → TSz n x → RT n w y n1 l1 → TSz n y → Ut.Gu w → Gt w →
    Calls Tryd.prog 4 #[.agg (tvs (thd n x) n0 l0), .agg (tvs (thd n y) n1 l1)] w fun e w' => e = .returned (.bool true) ∧ Below w.heap.size w w'
  | 0, x, _, _, _, _, _, _, _, _, _, _, _, _ => Empty.elim x
  | n + 1, x, y, n0, l0, n1, l1, w, h1, h2, h3, h4, gu, gt => torders_s hJ rv rj n x y n0 l0 n1 l1 w h1 h2 h3 h4 gu gt
end Go.Proofs.YtolmbjeinilhlaaDoor
