/- calamuslaw04.ValueGrows: walked. -/
import Derived.Test.YtemlpjnophijfaaDoorWmAwake
namespace Go.Proofs.YtemlpjnophijfaaDoor
open Go.RowKit
set_option linter.unusedSimpArgs false
set_option linter.unusedVariables false
/-- The list of one value is a value as that is. -/
theorem isV_list (n : Nat) (x : VT n) : IsV (n + 1) ((zr 7, [x]) : VT (n + 1)) ↔ IsV n x := by
  constructor
  · intro h
    exact h.2.2 x (by show x ∈ [x]; simp)
  · intro h
    refine ⟨⟨by show (1 : Int) ≤ 7; decide, by show (7 : Int) ≤ 9; decide, rfl, Or.inl (by show (7 : Int) ≤ 7; decide)⟩, ⟨fun h => absurd h (by show ¬ (7 : Int) = 3; decide), fun h => absurd h (by show ¬ (7 : Int) = 5; decide), fun h => absurd h (by show ¬ (7 : Int) = 8; decide), fun h => absurd h (by show ¬ (7 : Int) = 9; decide)⟩, ?_⟩
    intro y hy
    have hy' : y ∈ [x] := hy
    rw [List.mem_singleton.1 hy']; exact h
theorem sht_list (n : Nat) (x : VT n) : Sht (n + 1) ((zr 7, [x]) : VT (n + 1)) ↔ Sht n x := by
  constructor
  · intro h
    exact h.2.2.2 x (by show x ∈ [x]; simp)
  · intro h
    refine ⟨by show (0 : Int) ≤ 4096; decide, by show 1 ≤ 256; decide, by intro s hs; simp [zr] at hs, ?_⟩
    intro y hy
    have hy' : y ∈ [x] := hy
    rw [List.mem_singleton.1 hy']; exact h
theorem dep_list (n : Nat) (x : VT n) : dep (n + 1) ((zr 7, [x]) : VT (n + 1)) = dep n x + 1 := by
  show 1 + mxl [dep n x] = _
  simp [mxl]; omega
theorem siz_list (n : Nat) (x : VT n) : siz (n + 1) ((zr 7, [x]) : VT (n + 1)) = siz n x + 1 := by
  show 1 + suml [siz n x] = _
  simp [suml]; omega
theorem sz_list (n : Nat) (x : VT n) (h : Sz n x) : Sz (n + 1) ((zr 7, [x]) : VT (n + 1)) := by
  refine ⟨by show 0 ≤ 281474976710656; omega, by show 0 ≤ 281474976710656; omega, by show 0 ≤ 281474976710656; omega, by intro s hs; simp [zr] at hs, ?_⟩
  intro y hy
  have hy' : y ∈ [x] := hy
  rw [List.mem_singleton.1 hy']; exact h
/-- What Check answers of the list, from what it answers of the value. -/
theorem chk_list {n : Nat} {x : VT n} {E : Int} (h : Chk n x E) : ∃ F, Chk (n + 1) ((zr 7, [x]) : VT (n + 1)) F ∧ (E ≠ 0 → F = E) ∧ (E = 0 → (F = 0 ∧ dep n x < 16 ∧ siz n x < 4096) ∨ (F = 2 ∧ ¬ (dep n x < 16 ∧ siz n x < 4096))) := by
  rcases h with ⟨rfl, h⟩ | ⟨rfl, h, k⟩ | ⟨rfl, h, k⟩
  · exact ⟨40, Or.inl ⟨rfl, fun q => h ((isV_list n x).1 q)⟩, fun _ => rfl, fun q => by cases q⟩
  · refine ⟨2, Or.inr (Or.inl ⟨rfl, (isV_list n x).2 h, fun q => k ?_⟩), fun _ => rfl, fun q => by cases q⟩
    have q2 := q.2.1
    have q3 := q.2.2
    rw [dep_list] at q2
    rw [siz_list] at q3
    exact ⟨(sht_list n x).1 q.1, by omega, by omega⟩
  · by_cases hw : dep n x < 16 ∧ siz n x < 4096
    · refine ⟨0, Or.inr (Or.inr ⟨rfl, (isV_list n x).2 h, (sht_list n x).2 k.1, ?_, ?_⟩), fun q => absurd rfl q, fun _ => Or.inl ⟨rfl, hw⟩⟩
      · rw [dep_list]; omega
      · rw [siz_list]; omega
    · refine ⟨2, Or.inr (Or.inl ⟨rfl, (isV_list n x).2 h, fun q => hw ?_⟩), fun q => absurd rfl q, fun _ => Or.inr ⟨rfl, hw⟩⟩
      have q2 := q.2.1
      have q3 := q.2.2
      rw [dep_list] at q2
      rw [siz_list] at q3
      exact ⟨by omega, by omega⟩
/-- What ValueGrows holds: the value, the list's element, the list. -/
structure Gr (w : World) (h : Hd) (ns ls : Value) (p q : Nat) (W : World) : Prop where
  below : Below w.heap.size w W
  bv : Bx W w.heap.size h ns ls
  el : Bx W p h ns ls
  bl : Bx W q (zr 7) (.slice none 0 0) (.slice (some ⟨p, 0, none⟩) 1 1)
theorem Gr.then {w : World} {h : Hd} {ns ls : Value} {p q : Nat} {W W1 : World} (k : Gr w h ns ls p q W) (hb : Below W.heap.size W W1) : Gr w h ns ls p q W1 := ⟨below_then k.below hb, k.bv.below hb, k.el.below hb, k.bl.below hb⟩
set_option maxHeartbeats 2000000 in
set_option maxRecDepth 100000 in
theorem grows_law (n : Nat) (x : VT n) (ns ls : Value) (w : World) (hr : RD n w x ns ls) (hz : Sz n x) (g : Ut.Gu w) :
    Calls Tryd.prog 6 #[.agg (vals (vhd n x) ns ls)] w fun e w' => e = .returned (.bool true) ∧ Below w.heap.size w w' := by
  obtain ⟨a1, m1, d1, a2, m2, d2, rfl, rfl⟩ := hr.shape
  obtain ⟨h, hh⟩ : ∃ h, vhd n x = h := ⟨_, rfl⟩
  have hbig := hide (fun o => Go.Proofs.YtemlpjnophijfaaDoor.big_any n x (.slice a1 m1 d1) (.slice a2 m2 d2) (w.alloc o) (hr.below (below_al (Below.refl _ _))) hz)
  have hB0 := hide (bx_new w h (.slice a1 m1 d1) (.slice a2 m2 d2))
  have hb0 : Hid (∀ o, Below w.heap.size w (w.alloc o)) := fun o => below_al (Below.refl _ _)
  have hr := hide hr
  have hz := hide hz
  have g := hide g
  have hL := hide list_any
  have hh' := hide hh
  rw [hh] at hbig ⊢
  clear hh
  show Calls _ _ #[.agg #[.int .i64 h.kind, .bool h.flag, .bool h.neg, .string h.dig, .int .i64 h.exp, .int .u64 h.bits, .string h.text, .slice a1 m1 d1, .slice a2 m2 d2]] _ _
  go_enter Tryd.func6, Tryd.ntmps6
  go_wp2_with fail
  refine (hbig.out _).mono ?_
  rintro e w1 ⟨bb, rfl, hsm, hb1⟩
  have hw1 := hide (below_then (hb0.out _) hb1)
  have hB1 := hide (hB0.out.below hb1)
  cases bb
  · have hblk := hide (hsm.out rfl)
    obtain ⟨c0, c1, c2, c3, c4, c5, c6, c7, c8⟩ := hB1.out.cells
    go_wp2_with fail
    refine (hL.out _ _ _ _).mono ?_
    rintro e w2 ⟨rfl, hb2⟩
    clear c0 c1 c2 c3 c4 c5 c6 c7 c8
    have G3 : Hid (Gr w h (.slice a1 m1 d1) (.slice a2 m2 d2) w1.heap.size w2.heap.size (w2.alloc (.cells #[.int .i64 7, .bool false, .bool false, .string ⟨#[]⟩, .int .i64 0, .int .u64 0, .string ⟨#[]⟩, .slice none 0 0, .slice (some ⟨w1.heap.size, 0, none⟩) 1 1] 29))) :=
      ⟨below_al (below_then (below_al hw1.out) hb2), ((hB1.out.below (below_al (Below.refl _ _))).below hb2).below (below_al (Below.refl _ _)), (Bx.below (bx_new w1 h (.slice a1 m1 d1) (.slice a2 m2 d2)) hb2).below (below_al (Below.refl _ _)), bx_new w2 (zr 7) (.slice none 0 0) (.slice (some ⟨w1.heap.size, 0, none⟩) 1 1)⟩
    have hRv : Hid (∀ W, Below w.heap.size w W → Rdy n W x (.slice a1 m1 d1) (.slice a2 m2 d2)) := fun W hb => ⟨hr.out.below hb, hz.out, Nat.le_trans (Nat.le_trans (siz_blk n x) hblk.out.1) (by omega)⟩
    have hRl : Hid (∀ W, Gr w h (.slice a1 m1 d1) (.slice a2 m2 d2) w1.heap.size w2.heap.size W → Rdy (n + 1) W (zr 7, [x]) (.slice none 0 0) (.slice (some ⟨w1.heap.size, 0, none⟩) 1 1)) := fun W hG =>
      ⟨rd_list1 (by rw [hh'.out]; exact hG.el.at_) (hr.out.below hG.below), sz_list n x hz.out, by have h1 := siz_blk n x; have h2 := hblk.out.1; rw [siz_list]; omega⟩
    obtain ⟨E, hE⟩ := chk_ex n x
    obtain ⟨F, hF, hF1, hF2⟩ := chk_list hE
    obtain ⟨D, hD⟩ : ∃ D, dep n x = D := ⟨_, rfl⟩
    obtain ⟨Z, hZ⟩ : ∃ Z, siz n x = Z := ⟨_, rfl⟩
    have hDZ : D ≤ Z := by rw [← hD, ← hZ]; exact dep_le n x
    have hZ2 : Z ≤ 65536 := by rw [← hZ]; exact Nat.le_trans (siz_blk n x) hblk.out.1
    have cD := hide (fun W (hb : Below w.heap.size w W) => depth_any n x _ _ W (hRv.out W hb).rd (hRv.out W hb).le)
    have cZ := hide (fun W (hb : Below w.heap.size w W) => size_any n x _ _ W (hRv.out W hb).rd (hRv.out W hb).le)
    have cE := hide (fun W (hb : Below w.heap.size w W) => check_any n x _ _ W (hRv.out W hb) (g.out.below hb) E hE)
    have cF := hide (fun W (hG : Gr w h (.slice a1 m1 d1) (.slice a2 m2 d2) w1.heap.size w2.heap.size W) => check_any (n + 1) (zr 7, [x]) _ _ W (hRl.out W hG) (g.out.below hG.below) F hF)
    have cDl := hide (fun W (hG : Gr w h (.slice a1 m1 d1) (.slice a2 m2 d2) w1.heap.size w2.heap.size W) => depth_any (n + 1) (zr 7, [x]) _ _ W (hRl.out W hG).rd (hRl.out W hG).le)
    have cZl := hide (fun W (hG : Gr w h (.slice a1 m1 d1) (.slice a2 m2 d2) w1.heap.size w2.heap.size W) => size_any (n + 1) (zr 7, [x]) _ _ W (hRl.out W hG).rd (hRl.out W hG).le)
    rw [hh'.out] at cD cZ cE
    rw [hD] at cD hF2
    rw [hZ] at cZ hF2
    rw [dep_list, hD] at cDl
    rw [siz_list, hZ] at cZl
    rw [show ((D + 1 : Nat) : Int) = (D : Int) + 1 by omega] at cDl
    rw [show ((Z + 1 : Nat) : Int) = (Z : Int) + 1 by omega] at cZl
    have hDZi : ¬ (Z : Int) < (D : Int) := by omega
    have hZi : (Z : Int) ≤ 65536 := by omega
    have hDi : (D : Int) ≤ 65536 := by omega
    have hDZ' := hide hDZ
    clear hDZ hZ2
    have hF1' := hide hF1
    have hF2' := hide hF2
    clear hE hF hD hZ hF1 hF2 hb2 hb1 hB1
    obtain ⟨c0, c1, c2, c3, c4, c5, c6, c7, c8⟩ := G3.out.bv.cells
    go_wp2_with fail
    refine (cD.out _ G3.out.below).mono ?_
    rintro e w4 ⟨rfl, hb4⟩
    have G4 := hide (G3.out.then hb4)
    clear G3 hb4 c0 c1 c2 c3 c4 c5 c6 c7 c8
    obtain ⟨c0, c1, c2, c3, c4, c5, c6, c7, c8⟩ := G4.out.bv.cells
    go_wp2_with fail
    refine (cZ.out _ G4.out.below).mono ?_
    rintro e w5 ⟨rfl, hb5⟩
    have G5 := hide (G4.out.then hb5)
    clear G4 hb5 c0 c1 c2 c3 c4 c5 c6 c7 c8
    obtain ⟨c0, c1, c2, c3, c4, c5, c6, c7, c8⟩ := G5.out.bv.cells
    go_wp2_with fail
    refine (cE.out _ G5.out.below).mono ?_
    rintro e w6 ⟨rfl, hb6⟩
    have G6 := hide (G5.out.then hb6)
    clear G5 hb6 c0 c1 c2 c3 c4 c5 c6 c7 c8
    obtain ⟨c0, c1, c2, c3, c4, c5, c6, c7, c8⟩ := G6.out.bl.cells
    simp only [zr] at c0 c1 c2 c3 c4 c5 c6
    go_wp2_with fail
    refine (cF.out _ G6.out).mono ?_
    rintro e w7 ⟨rfl, hb7⟩
    have G7 := hide (G6.out.then hb7)
    clear G6 hb7 c0 c1 c2 c3 c4 c5 c6 c7 c8
    obtain ⟨c0, c1, c2, c3, c4, c5, c6, c7, c8⟩ := G7.out.bl.cells
    simp only [zr] at c0 c1 c2 c3 c4 c5 c6
    go_wp2_with fail
    refine (cDl.out _ G7.out).mono ?_
    rintro e w8 ⟨rfl, hb8⟩
    have G8 := hide (G7.out.then hb8)
    clear G7 hb8 c0 c1 c2 c3 c4 c5 c6 c7 c8
    obtain ⟨c0, c1, c2, c3, c4, c5, c6, c7, c8⟩ := G8.out.bl.cells
    simp only [zr] at c0 c1 c2 c3 c4 c5 c6
    go_wp2_with fail
    refine (cZl.out _ G8.out).mono ?_
    rintro e w9 ⟨rfl, hb9⟩
    have G9 := hide (G8.out.then hb9)
    clear G8 hb9 c0 c1 c2 c3 c4 c5 c6 c7 c8
    have hAw := hide (awake_any w9 (g.out.below G9.out.below))
    by_cases hE0 : E = 0
    · subst hE0
      rcases hF2'.out rfl with ⟨rfl, hd, hz⟩ | ⟨rfl, hdz⟩
      · have hdi : (D : Int) < 16 := by omega
        have hzi : (Z : Int) < 4096 := by omega
        go_wp2_with (go_at_call 11; refine hAw.out.mono ?_; rintro e w10 ⟨rfl, hb10⟩)
        go_ret
        exact ⟨by first | rfl | (simp; done) | (simp; omega), below_then G9.out.below hb10⟩
      · by_cases hd : (D : Int) < 16
        · have hzi : ¬ (Z : Int) < 4096 := by
            intro q
            exact hdz ⟨by omega, by omega⟩
          go_wp2_with (go_at_call 11; refine hAw.out.mono ?_; rintro e w10 ⟨rfl, hb10⟩)
          go_ret
          exact ⟨by first | rfl | (simp; done) | (simp; omega), below_then G9.out.below hb10⟩
        · go_wp2_with (go_at_call 11; refine hAw.out.mono ?_; rintro e w10 ⟨rfl, hb10⟩)
          go_ret
          exact ⟨by first | rfl | (simp; done) | (simp; omega), below_then G9.out.below hb10⟩
    · have hFE := hF1'.out hE0
      subst hFE
      go_wp2_with (go_at_call 11; refine hAw.out.mono ?_; rintro e w10 ⟨rfl, hb10⟩)
      go_ret
      exact ⟨by first | rfl | (simp; done) | (simp; omega), below_then G9.out.below hb10⟩
  · go_wp2_with fail
    go_ret
    exact ⟨rfl, hw1.out⟩
end Go.Proofs.YtemlpjnophijfaaDoor
