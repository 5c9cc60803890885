/- num's appendPointed with a point inside; Print where there is no power. -/
import Derived.Test.YtjpdlibncmldlaaDoorOgPrint
import Derived.Test.YtjpdlibncmldlaaDoorQlCut
namespace Go.Proofs.YtjpdlibncmldlaaDoor
open Go.RowKit
set_option linter.unusedSimpArgs false
set_option linter.unusedVariables false
set_option maxRecDepth 100000 in
set_option maxHeartbeats 1000000 in
theorem appendPointed_gt (B : Nat) (v : Value) (l : List UInt8) (s : ByteArray) (bh : Nat) (w : World) (hown : Own w B v l) (hB : B ≤ w.heap.size) (hl : l.length ≤ 100) (hs : bh < s.size) (hs1 : s.size ≤ 100) :
    Calls Tryd.prog 36 #[v, .string s, .int .i64 bh] w fun e w' => ∃ v', e = .returned v' ∧ Hid (Own w' B v' (l ++ pointed (bl s) bh)) ∧ Hid (Below B w w') := by
  have hown := hide hown
  obtain ⟨k, hk⟩ : ∃ k : Nat, s.size = bh + k := ⟨s.size - bh, by omega⟩
  have hfin := hide (show l ++ pointed (bl s) bh = l ++ bl (s.extract 0 k) ++ [46] ++ bl (s.extract k s.size) by
    unfold pointed; rw [bl_length, if_neg (by omega), drop_mkB, extract_mkB, bl_mkB, bl_mkB, show s.size - bh = k by omega]; simp)
  have hx1 := hide (show (s.extract 0 k).size = k by rw [extract_mkB, mkB_size]; simp [bl_length]; omega)
  have hx2 := hide (show (s.extract k s.size).size = bh by rw [drop_mkB, mkB_size]; simp [bl_length]; omega)
  have hx1b := hide (show (bl (s.extract 0 k)).length = k by rw [bl_length]; exact hx1.out)
  have hki : (s.size : Int) - (bh : Int) = (k : Int) := by omega
  have hkk := hide hk
  clear hk
  have hkp : (0 : Int) < (k : Int) := by have := hkk.out; omega
  have hc : ¬ ((k : Int) ≤ 0) := by omega
  have hkl : (k : Int) ≤ s.size := by have := hkk.out; omega
  go_enter Tryd.func36, Tryd.ntmps36
  go_wp2_with (first | (at_builtin; refine app_str rfl (.tmp 24) (.tmp 27) rfl B _ l rfl hown.out (s.extract 0 k) rfl (by rw [hx1.out]; omega) hB ?_; intro v1 w1 h1 h2 h3; have hn1 := hide (news_one w1 46 5); have hB1 : B ≤ w1.heap.size := (by omega)) | (at_builtin; refine app_bytes rfl (.tmp 29) (.tmp 30) rfl B _ _ rfl (h1.out.alloc _) ⟨w1.heap.size, 0, none⟩ 1 1 [46] rfl rfl hn1.out (by rw [List.length_append, hx1b.out]; omega) (by simp; omega) ?_; intro v2 w2 h4 h5 h6; simp at h6; have hB2 : B ≤ w2.heap.size := (by omega)) | (at_builtin; refine app_str rfl (.tmp 32) (.tmp 35) rfl B _ _ rfl h4.out (s.extract k s.size) rfl (by rw [hx2.out, List.length_append, List.length_append, hx1b.out, List.length_singleton]; omega) hB2 ?_; intro v3 w3 h7 h8 h9))
  go_ret
  refine ⟨_, rfl, ?_, ?_⟩
  · show Own _ _ _ _
    rw [hfin.out]; exact h7.out
  · exact (((((Below.refl B w).trans h2.out).alloc hB1 _).trans h5.out).trans h8.out)
/-- appendPointed, wherever the point stands. -/
theorem appendPointed_any (B : Nat) (v : Value) (l : List UInt8) (s : ByteArray) (bh : Nat) (w : World) (hown : Own w B v l) (hB : B ≤ w.heap.size) (hl : l.length ≤ 100) (hs1 : s.size ≤ 100) (hbh : bh ≤ 100) :
    Calls Tryd.prog 36 #[v, .string s, .int .i64 bh] w fun e w' => ∃ v', e = .returned v' ∧ Hid (Own w' B v' (l ++ pointed (bl s) bh)) ∧ Hid (Below B w w') := by
  by_cases h : s.size ≤ bh
  · exact appendPointed_le B v l s bh w hown hB hl h hbh
  · exact appendPointed_gt B v l s bh w hown hB hl (by omega) hs1
end Go.Proofs.YtjpdlibncmldlaaDoor
