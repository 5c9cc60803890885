/- num.Parse: walked. -/
import Derived.Test.YtjidnceccpmheaaGreatDoorZlNzParse
import Derived.Deep.RegionWith
namespace Go.Proofs.YtjidnceccpmheaaGreatDoor
open Go.RowKit
set_option linter.unusedSimpArgs false
set_option linter.unusedVariables false
set_option maxHeartbeats 2000000 in
set_option maxRecDepth 1000000 in
theorem parse_some_b (s : ByteArray) (w : World) (hs : s.size ≤ 512) (n : Bool) (wh fr : List UInt8) (pn : Bool) (pw : List UInt8) (h : splitL (bl s) = some (n, wh, fr, pn, pw)) (hfr : fr.length = 0) (hw5 : ¬ wh.length < 512) :
    Calls Tryz.prog 44 #[.string s] w fun e w' => e = retF (formF n (dlu wh ++ dlu fr) (powF pn pw - fr.length)) ∧ Below w.heap.size w w' := by
  obtain ⟨a1, a2, a3, a4, a5, a6⟩ := splitL_facts h
  rw [bl_length] at a5 a6
  have hB := hide (box_new w false ⟨#[]⟩ 0)
  have h := hide h
  have a1 := hide a1
  have a2 := hide a2
  have a3 := hide a3
  go_enter Tryz.func44, Tryz.ntmps44
  go_wp2_with fail
  refine (split_any s _ (by omega)).mono ?_
  rw [h.out]
  rintro e w1 ⟨rfl, hb1⟩
  have hB1 := hide (hB.out.below hb1 (by simp))
  have hl := hB1.out.lt
  have hb := hide (below_alloc hb1)
  clear hb1
  simp only [splitE, partsE, if_true, Bool.false_eq_true, if_false]
  go_wp2_with fail
  obtain ⟨W2, hW2⟩ : ∃ W2, (w1.alloc (.cells #[.bool n, .string (mkB wh), .string (mkB fr), .bool pn, .string (mkB pw)] 68)).alloc (.cells Tryz.zeroCells71 71) = W2 := ⟨_, rfl⟩
  rw [hW2]
  have hA2 : Hid (Arr W2 (w1.heap.size + 1) 71 (List.replicate 512 0)) := by
    show Arr _ _ _ _
    rw [← hW2, show w1.heap.size + 1 = (w1.alloc (.cells #[.bool n, .string (mkB wh), .string (mkB fr), .bool pn, .string (mkB pw)] 68)).heap.size from by simp]
    exact arr_new _ _ 512 _ (by kernel_rfl)
  have hP2 : Hid (PBox W2 w1.heap.size n (mkB wh) (mkB fr) pn (mkB pw)) := by
    show PBox _ _ _ _ _ _ _
    rw [← hW2]; exact (pbox_new w1 n (mkB wh) (mkB fr) pn (mkB pw)).alloc _
  have hB2 : Hid (Box W2 w.heap.size false ⟨#[]⟩ 0) := by
    show Box _ _ _ _ _
    rw [← hW2]; exact (hB1.out.alloc _).alloc _
  have hb2 : Hid (Below w.heap.size w W2) := by
    show Below _ _ _
    rw [← hW2]; exact below_al (below_al hb.out)
  clear hW2 hb hB1 hB
  obtain ⟨p0, p1, p2, p3, p4, r0, r1, r2, r3, r4⟩ := hP2.out.cells
  have hdlw := hide (dlu_mkB wh)
  have hdlf := hide (dlu_mkB fr)
  have hlw : (dlu wh).length = wh.length := by simp [dlu]
  have hlf : (dlu fr).length = fr.length := by simp [dlu]
  have hsw := mkB_size wh
  have hsf := mkB_size fr
  go_region_with (go_at_call 54; refine (lay_any (w1.heap.size + 1) 0 512 512 71 (List.replicate 512 0) (mkB wh) W2.drew hA2.out.drew (by omega) (by simp) (by rw [bl_mkB]; exact a1.out) (by simp)).mono ?_; rw [hsw, hdlw.out]; rintro e W3 ⟨rfl, hA3, hO3⟩; have hA3 := hide hA3; have hO3 := hide hO3)
  have hP3 := hide (hP2.out.drew.only hO3.out (by omega))
  have hB3 : Hid (Box W3 w.heap.size false ⟨#[]⟩ 0) := Box.only (W := W2.drew) hB2.out hO3.out (by omega)
  have hb3 : Hid (Below w.heap.size w W3) := hb2.out.drew.trans (hO3.out.below (by omega))
  have hz3 : w1.heap.size + 1 < W3.heap.size := hA3.out.lt
  clear p0 p1 p2 p3 p4 r0 r1 r2 r3 r4 hA2 hP2 hB2 hb2 hO3
  obtain ⟨p0, p1, p2, p3, p4, r0, r1, r2, r3, r4⟩ := hP3.out.cells
  have hdgs : Hid (Dgs (dlu wh ++ dlu fr)) := by
    intro d hd
    rcases List.mem_append.1 hd with h | h
    · exact dlu_dgs wh a1.out d h
    · exact dlu_dgs fr a2.out d h
  have hwi : (wh.length : Int) ≤ 512 := by omega
  have hwi0 : (0 : Int) ≤ (wh.length : Int) := by omega
  have hwr0 : IntKind.i64.wrap (wh.length : Int) = wh.length := by rw [IntKind.wrap_i64]; omega
  have hwr1 : IntKind.i64.wrap ((wh.length : Int) + (fr.length : Int)) = (wh.length : Int) + (fr.length : Int) := by rw [IntKind.wrap_i64]; omega
  have hwr2 : IntKind.i64.wrap (powF pn pw - (fr.length : Int)) = powF pn pw - (fr.length : Int) := by
    have := powF_bounds pn pw a3.out
    rw [IntKind.wrap_i64]; omega
  obtain ⟨q3, hq3⟩ : ∃ q3, layR (List.replicate 512 0) 0 (dlu wh) = q3 := ⟨_, rfl⟩
  rw [hq3] at hA3
  have hq3l : q3.length = 512 := by rw [← hq3, layR_len _ _ _ (by rw [List.length_replicate]; omega), List.length_replicate]
  have hq3 := hide hq3
  have hq3l := hide hq3l
  have hfr0 := hide hfr
  clear hfr
  have hwl' : 512 - wh.length = 0 := by omega
  clear hw5
  go_wp2_with fail
  go_region_with (go_at_call 54; go_fit (lay_none _ (mkB fr) W3.drew (by rw [hsf]; exact hfr0.out)); rintro e W4 ⟨rfl, rfl⟩)
  have hA4 : Hid (Arr W3.drew (w1.heap.size + 1) 71 (layR q3 wh.length (dlu fr))) := by
    show Arr _ _ _ _
    rw [List.eq_nil_of_length_eq_zero (hlf.trans hfr0.out), layR_nil]; exact hA3.out.drew
  have hP4 := hide hP3.out.drew
  have hB4 : Hid (Box W3.drew w.heap.size false ⟨#[]⟩ 0) := hB3.out
  have hb4 := hide hb3.out.drew
  have hz4 : w1.heap.size + 1 < W3.drew.heap.size := hA4.out.lt
  clear p0 p1 p2 p3 p4 r0 r1 r2 r3 r4 hA3 hP3 hB3 hb3
  obtain ⟨p0, p1, p2, p3, p4, r0, r1, r2, r3, r4⟩ := hP4.out.cells
  obtain ⟨hpw1, hpw2⟩ := powF_bounds pn pw a3.out
  have hcells : Hid (∀ i (h : i < (dlu wh ++ dlu fr).length), W3.drew.cell? ⟨w1.heap.size + 1, 0 + i, none⟩ = some (.int .u8 ((dlu wh ++ dlu fr)[i] : Nat))) := by
    show ∀ i (h : i < (dlu wh ++ dlu fr).length), _
    intro i hi
    have hi2 : i < wh.length + fr.length := by rw [List.length_append, hlw, hlf] at hi; exact hi
    have hlen : (layR q3 wh.length (dlu fr)).length = 512 := by rw [layR_len _ _ _ (by have := hq3l.out; omega)]; exact hq3l.out
    rw [Nat.zero_add, hA4.out.cell i (by omega)]
    have e := layR_two (dlu wh) (dlu fr) 512 (by omega) i hi (by rw [hlw, hq3.out]; omega)
    simp only [hlw, hq3.out] at e
    rw [e]
  go_wp2_with fail
  have S4 : Hid (PSt w w1.heap.size n (mkB wh) (mkB fr) pn (mkB pw) (dlu wh ++ dlu fr) W3.drew) := ⟨hb4.out, hP4.out, hB4.out, hz4, hcells.out⟩
  have hpl : (mkB pw).size ≤ 100000 := by rw [mkB_size]; omega
  have hpb := hide (bl_mkB pw)
  have hpa := hide (show allD (bl (mkB pw)) = true by rw [bl_mkB]; exact a3.out)
  have hdl := hide (show (dlu wh ++ dlu fr).length = wh.length by rw [List.length_append, hlw, hlf]; have := hfr0.out; omega)
  go_region_with (first | (go_at_call 56; go_fit (powerOf_any n (mkB wh) (mkB fr) pn (mkB pw) W3.drew.drew hpl hpa.out); rw [hpb.out]; rintro e W5 ⟨rfl, hb5⟩; have S5 := hide (S4.out.drew.then hb5); clear hb5; obtain ⟨u0, u1, u2, u3, u4, s0, s1, s2, s3, s4⟩ := S5.out.hp.cells) | (go_at_call 55; go_fit (form_any n (w1.heap.size + 1) 0 wh.length wh.length (dlu wh ++ dlu fr) (powF pn pw - fr.length) W5 hdl.out (by omega) (by omega) (by omega) (by omega) S5.out.hz S5.out.hc (by omega) (by omega) hdgs.out); rintro e W6 ⟨rfl, hb6⟩; obtain ⟨fb, fs, fx, fe, hfe⟩ : ∃ fb fs fx fe, formF n (dlu wh ++ dlu fr) (powF pn pw - fr.length) = (fb, fs, fx, fe) := ⟨_, _, _, _, rfl⟩; rw [hfe]; have hfe := hide hfe; have S6 := hide (S5.out.then hb6); clear hb6; obtain ⟨d20, d21, d22, g20, g21, g22⟩ := S6.out.hb.cells; simp only [retF]))
  all_goals
    go_wp2
    refine bodyPost_ret (v := .tuple #[.agg #[.bool fb, .string fs, .int .i64 fx], .int .i64 fe]) (by simp [results, Tryz.results44, go_sem, d20, d21, d22]) rfl ⟨by rw [hfe.out]; rfl, ?_⟩
    exact ((S6.out.below.setCell (Nat.le_refl _) _).setCell (Nat.le_refl _) _).setCell (Nat.le_refl _) _
end Go.Proofs.YtjidnceccpmheaaGreatDoor
