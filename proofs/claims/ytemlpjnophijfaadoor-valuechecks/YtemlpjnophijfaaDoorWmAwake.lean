/- The laws' awake: walked. -/
import Derived.Test.YtemlpjnophijfaaDoorWlAwake
namespace Go.Proofs.YtemlpjnophijfaaDoor
open Go.RowKit
set_option linter.unusedSimpArgs false
set_option linter.unusedVariables false
theorem Bx.frozen {W : World} {i : Nat} {h : Hd} {ns ls : Value} (k : Bx W i h ns ls) (j : Nat) : W.frozen? ⟨i, j, none⟩ = false := by simp [World.frozen?, k.at_]
theorem size_al (w : World) (o : Obj) : (w.alloc o).heap.size = w.heap.size + 1 := by show (w.heap.push o).size = _; simp
set_option maxHeartbeats 2000000 in
set_option maxRecDepth 100000 in
theorem awake_any (w : World) (g : Ut.Gu w) : Calls Tryd.prog 11 #[] w fun e w' => e = .returned (.bool true) ∧ Below w.heap.size w w' := by
  have g := hide g
  have hT := hide text_any
  have hL := hide list_any
  have N0 := hide (bx_new w (zr 1) (.slice none 0 0) (.slice none 0 0))
  go_enter Tryd.func11, Tryd.ntmps11
  go_wp2_with fail
  refine (hT.out _ _).mono ?_
  rintro e w1 ⟨rfl, hb1⟩
  go_wp2_with fail
  refine (hT.out _ _).mono ?_
  rintro e w2 ⟨rfl, hb2⟩
  have B2 := hide (below_then (below_then (below_al (Below.refl _ _)) hb1) hb2)
  have N2 := hide ((N0.out.below hb1).below hb2)
  clear N0 hb1 hb2
  go_wp2_with fail
  refine (cmp_one _ (g.out.below B2.out)).mono ?_
  rintro e w3 ⟨rfl, hb3⟩
  have B3 := hide (below_then B2.out hb3)
  have N3 := hide (N2.out.below hb3)
  clear B2 N2 hb3
  go_wp2_with fail
  refine (hL.out _ _ _ _).mono ?_
  rintro e w4 ⟨rfl, hb4⟩
  go_wp2_with fail
  refine (hT.out _ _).mono ?_
  rintro e w5 ⟨rfl, hb5⟩
  have B5 := hide (below_then (below_then B3.out hb4) hb5)
  have N5 := hide ((N3.out.below hb4).below hb5)
  clear B3 N3 hb4 hb5
  go_wp2_with fail
  refine (cmp_two _ (g.out.below B5.out)).mono ?_
  rintro e w6 ⟨rfl, hb6⟩
  have B6 := hide (below_then B5.out hb6)
  have N6 := hide (N5.out.below hb6)
  clear B5 N5 hb6
  obtain ⟨c0, c1, c2, c3, c4, c5, c6, c7, c8⟩ := N6.out.cells
  simp only [zr] at c0 c1 c2 c3 c4 c5 c6
  have l6 := N6.out.lt
  have l7 : w.heap.size < w6.heap.size + 1 := by omega
  have l8 : w.heap.size < w6.heap.size + 1 + 1 := by omega
  have l9 : w.heap.size < w6.heap.size + 1 + 1 + 1 := by omega
  go_wp2_with fail
  go_loopw [8] (fun i W => ∃ k ls, i = .int .i64 (k : Nat) ∧ k ≤ 16 ∧ Hid (Aw w w6.heap.size k ls W)) (fun i _ => 16 - (intOf i).toNat)
  case atStart =>
    refine ⟨0, .slice none 0 0, rfl, by omega, ?_⟩
    have P : ∀ (W : World) (o : Obj) (i : Nat) (x : Obj), W.heap[i]? = some x → (W.alloc o).heap[i]? = some x := fun W o i x h => ((below_al (o := o) (Below.refl W.heap.size W)).block i (heap_lt h)).trans h
    refine ⟨below_al (below_al (below_al (below_al B6.out))), l6, P _ _ _ _ (P _ _ _ _ (P _ _ _ _ (P _ _ _ _ N6.out.at_))), P _ _ _ _ (P _ _ _ _ (P _ _ _ _ (heap_alloc_last _ _))), P _ _ _ _ (P _ _ _ _ ?_), P _ _ _ _ ?_, ?_, rfl⟩
    · have := heap_alloc_last (w6.alloc (.cells #[.string ⟨#[97]⟩, .string ⟨#[97]⟩] 9)) (.cells #[.int .i64 1, .bool false, .bool false, .string ⟨#[]⟩, .int .i64 0, .int .u64 0, .string ⟨#[]⟩, .slice none 0 0, .slice none 0 0, .int .i64 1, .bool false, .bool false, .string ⟨#[]⟩, .int .i64 0, .int .u64 0, .string ⟨#[]⟩, .slice none 0 0, .slice none 0 0] 29)
      simp only [size_al] at this
      exact this
    · have := heap_alloc_last ((w6.alloc (.cells #[.string ⟨#[97]⟩, .string ⟨#[97]⟩] 9)).alloc (.cells #[.int .i64 1, .bool false, .bool false, .string ⟨#[]⟩, .int .i64 0, .int .u64 0, .string ⟨#[]⟩, .slice none 0 0, .slice none 0 0, .int .i64 1, .bool false, .bool false, .string ⟨#[]⟩, .int .i64 0, .int .u64 0, .string ⟨#[]⟩, .slice none 0 0, .slice none 0 0] 29)) (.cells (vals twH (.slice (some ⟨w6.heap.size, 0, none⟩) 2 2) (.slice (some ⟨w6.heap.size + 1, 0, none⟩) 2 2)) 29)
      simp only [size_al] at this
      exact this
    · rw [← size_al, ← size_al, ← size_al]
      exact heap_alloc_last _ _
  case round =>
    clear c0 c1 c2 c3 c4 c5 c6 c7 c8
    obtain ⟨k, ls, rfl, hk, H⟩ := hrel
    obtain ⟨al, m0, k0, rfl⟩ := H.out.ds.slice
    have D := Bx.mk H.out.dp
    obtain ⟨c0, c1, c2, c3, c4, c5, c6, c7, c8⟩ := D.cells
    by_cases hk16 : (k : Int) < 16
    · have hD := hide D
      clear D
      go_wp2_with fail
      refine (hL.out _ _ _ _).mono ?_
      rintro e v1 ⟨rfl, hb1⟩
      have H1 := hide ((H.out.then (below_al (Below.refl _ _))).then hb1)
      have hel : Hid (v1.heap[wr.heap.size]? = some (.cells (vals (hdk k) (.slice none 0 0) (.slice al m0 k0)) 29 (0, 0))) := (hb1.block _ (by rw [size_al]; omega)).trans (heap_alloc_last _ _)
      have hBw := hide (heap_lt H.out.dp)
      have D1 := Bx.mk H1.out.dp
      clear c0 c1 c2 c3 c4 c5 c6 c7 c8
      obtain ⟨c0, c1, c2, c3, c4, c5, c6, c7, c8⟩ := D1.cells
      have fz := D1.frozen
      have f0 := fz 0
      have f1 := fz 1
      have f2 := fz 2
      have f3 := fz 3
      have f4 := fz 4
      have f5 := fz 5
      have f6 := fz 6
      have f7 := fz 7
      have f8 := fz 8
      have D1' := hide D1
      clear D1 fz hD
      have hk63 : (k : Int) < 9223372036854775807 := by omega
      go_wp2_with fail
      refine ⟨⟨k + 1, .slice (some ⟨wr.heap.size, 0, none⟩) 1 1, by go_num, by omega, ?_⟩, by simp [intOf]; omega⟩
      exact H1.out.step wr.heap.size hBw.out hel.out
    · have hk2 : k = 16 := by omega
      subst hk2
      clear D c0 c1 c2 c3 c4 c5 c6 c7 c8
      go_wp2_with fail
      refine (check_any 1 (zr 0, []) (.slice none 0 0) (.slice none 0 0) _ (rdy0 _ rfl _ (by decide) (by decide)) (g.out.below H.out.below) 40 chk_no).mono ?_
      rintro e v1 ⟨rfl, hb1⟩
      have H1 := hide (H.out.then hb1)
      clear H hb1
      obtain ⟨c0, c1, c2, c3, c4, c5, c6, c7, c8⟩ := (Bx.mk H1.out.two).cells
      simp only [twH] at c0 c1 c2 c3 c4 c5 c6
      go_wp2_with fail
      refine (check_any 2 twice _ _ _ H1.out.rdT (g.out.below H1.out.below) 40 chk_tw).mono ?_
      rintro e v2 ⟨rfl, hb2⟩
      have H2 := hide (H1.out.then hb2)
      clear H1 hb2 c0 c1 c2 c3 c4 c5 c6 c7 c8
      obtain ⟨c0, c1, c2, c3, c4, c5, c6, c7, c8⟩ := (Bx.mk H2.out.dp).cells
      simp only [hdk, zr] at c0 c1 c2 c3 c4 c5 c6
      go_wp2_with fail
      refine (check_any 17 (nest 16) _ _ _ (H2.out.rdD (by omega)) (g.out.below H2.out.below) 2 chk_deep).mono ?_
      rintro e v3 ⟨rfl, hb3⟩
      have H3 := hide (H2.out.then hb3)
      clear H2 hb3 c0 c1 c2 c3 c4 c5 c6 c7 c8
      obtain ⟨c0, c1, c2, c3, c4, c5, c6, c7, c8⟩ := (Bx.mk H3.out.nul).cells
      simp only [zr] at c0 c1 c2 c3 c4 c5 c6
      go_wp2_with fail
      refine (check_any 1 (zr 1, []) _ _ _ (rdy0 _ rfl _ (by decide) (by decide)) (g.out.below H3.out.below) 0 chk_nl).mono ?_
      rintro e v4 ⟨rfl, hb4⟩
      have H4 := hide (H3.out.then hb4)
      clear H3 hb4 c0 c1 c2 c3 c4 c5 c6 c7 c8
      go_wp2_with fail
      refine (hL.out _ _ _ _).mono ?_
      rintro e v5 ⟨rfl, hb5⟩
      have H5 := hide (H4.out.then hb5)
      clear H4 hb5
      go_wp2_with fail
      refine (hL.out _ _ _ _).mono ?_
      rintro e v6 ⟨rfl, hb6⟩
      have R6 := hide (rd_list1 (n := 1) (x := (zr 7, [])) (ns := .slice none 0 0) (ls := .slice none 0 0) ((hb6.block _ (by rw [size_al]; omega)).trans (heap_alloc_last v5 (.cells (vals (zr 7) (.slice none 0 0) (.slice none 0 0)) 29))) ⟨Or.inl ⟨rfl, rfl⟩, Or.inl ⟨rfl, rfl⟩⟩)
      have H6 := hide ((H5.out.then (below_al (Below.refl _ _))).then hb6)
      clear H5 hb6
      go_wp2_with fail
      refine (depth_any 2 (zr 7, [(zr 7, [])]) _ _ _ R6.out (by decide)).mono ?_
      rintro e v7 ⟨rfl, hb7⟩
      have H7 := hide (H6.out.then hb7)
      clear H6 hb7 R6
      obtain ⟨c0, c1, c2, c3, c4, c5, c6, c7, c8⟩ := (Bx.mk H7.out.nul).cells
      simp only [zr] at c0 c1 c2 c3 c4 c5 c6
      rw [show dep 2 ((zr 7, [((zr 7, []) : VT 1)]) : VT 2) = 2 from rfl]
      go_wp2_with fail
      refine (hL.out _ _ _ _).mono ?_
      rintro e v8 ⟨rfl, hb8⟩
      have R8 := hide (rd_list2 (n := 1) (x := (zr 1, [])) (y := (zr 1, [])) (ns := .slice none 0 0) (ls := .slice none 0 0) (ns' := .slice none 0 0) (ls' := .slice none 0 0) rfl ((hb8.block _ (by rw [size_al]; omega)).trans (heap_alloc_last v7 (.cells (vals (zr 1) (.slice none 0 0) (.slice none 0 0) ++ vals (zr 1) (.slice none 0 0) (.slice none 0 0)) 29))) ⟨Or.inl ⟨rfl, rfl⟩, Or.inl ⟨rfl, rfl⟩⟩ ⟨Or.inl ⟨rfl, rfl⟩, Or.inl ⟨rfl, rfl⟩⟩)
      have H8 := hide ((H7.out.then (below_al (Below.refl _ _))).then hb8)
      clear H7 hb8 c0 c1 c2 c3 c4 c5 c6 c7 c8
      go_wp2_with fail
      refine (size_any 2 (zr 7, [(zr 1, []), (zr 1, [])]) _ _ _ R8.out (by decide)).mono ?_
      rintro e v9 ⟨rfl, hb9⟩
      have H9 := hide (H8.out.then hb9)
      clear H8 hb9 R8
      rw [show siz 2 ((zr 7, [((zr 1, []) : VT 1), (zr 1, [])]) : VT 2) = 3 from rfl]
      go_wp2_with fail
      go_ret
      exact ⟨by first | rfl | simp, H9.out.below⟩
end Go.Proofs.YtemlpjnophijfaaDoor
