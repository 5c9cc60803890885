/- num's appendPower, at every power. -/
import Derived.Test.YtjpdlibncmldlaaDoorRfInt
import Derived.Outline
namespace Go.Proofs.YtjpdlibncmldlaaDoor
open Go.RowKit
set_option linter.unusedSimpArgs false
set_option linter.unusedVariables false
set_option maxHeartbeats 1000000 in
theorem appendPower_more (B : Nat) (v : Value) (l : List UInt8) (s : ByteArray) (p : Int) (w : World) (hown : Own w B v l) (hB : B ≤ w.heap.size) (hl : l.length ≤ 100) (hs : 1 < s.size) (hs' : s.size ≤ 100) (hp0 : -100000 ≤ p) (hp1 : p ≤ 100000) (ht : Tab B w) :
    Calls Tryd.prog 37 #[v, .string s, .int .i64 p] w fun e w' => ∃ v', e = .returned v' ∧ Hid (Own w' B v' (l ++ powered (bl s) (Lib.itoa p))) ∧ Hid (Below B w w') := by
  have hown := hide hown
  have ht := hide ht
  have hn := hide (news_one w s[0] 5)
  have hsi : (1 : Int) < s.size := by omega
  have hfin := hide (show l ++ powered (bl s) (Lib.itoa p) = l ++ [s[0]] ++ [46] ++ bl (s.extract 1 s.size) ++ [101] ++ Lib.itoa p by
    unfold powered; rw [bl_length, if_pos hs, drop_mkB, bl_mkB]
    have e : (bl s).take 1 = [s[0]] := by
      rw [List.take_one, head_bl s (by omega)]; rfl
    rw [e]; simp)
  have hx2 := hide (show (s.extract 1 s.size).size = s.size - 1 by rw [drop_mkB, mkB_size]; simp [bl_length])
  have hx2b := hide (show (bl (s.extract 1 s.size)).length = s.size - 1 by rw [bl_length]; exact hx2.out)
  go_enter Tryd.func37, Tryd.ntmps37
  go_wp2_with (first | (at_builtin; refine app_bytes rfl (.tmp 7) (.tmp 10) rfl B _ l rfl (hown.out.alloc _) ⟨w.heap.size, 0, none⟩ 1 1 [s[0]] rfl rfl hn.out (by omega) (by simp; omega) ?_; intro v1 w1 h1 h2 h3; simp at h3; have hn1 := hide (news_one w1 46 5); have hB1 : B ≤ w1.heap.size := (by omega)) | (at_builtin; refine app_bytes rfl (.tmp 15) (.tmp 16) rfl B _ _ rfl (h1.out.alloc _) ⟨w1.heap.size, 0, none⟩ 1 1 [46] rfl rfl hn1.out (by simp; omega) (by simp; omega) ?_; intro v2 w2 h4 h5 h6; simp at h6; have hB2 : B ≤ w2.heap.size := (by omega)) | (at_builtin; refine app_str rfl (.tmp 18) (.tmp 20) rfl B _ _ rfl h4.out (s.extract 1 s.size) rfl (by rw [hx2.out]; simp; omega) hB2 ?_; intro v3 w3 h7 h8 h9; have hn3 := hide (news_one w3 101 5); have hB3 : B ≤ w3.heap.size := (by omega)) | (at_builtin; refine app_bytes rfl (.tmp 22) (.tmp 23) rfl B _ _ rfl (h7.out.alloc _) ⟨w3.heap.size, 0, none⟩ 1 1 [101] rfl rfl hn3.out (by have := hx2b.out; simp; omega) (by simp; omega) ?_; intro v4 w4 h10 h11 h12; simp at h12; have hB4 : B ≤ w4.heap.size := (by omega)))
  go_wp2_with fail
  have hb4 := hide (((((((Below.refl B w).alloc hB _).trans h2.out).alloc hB1 _).trans h5.out).trans h8.out).alloc hB3 _ |>.trans h11.out)
  go_fit (appendInt_any B v4 _ p w4 h10.out hB4 (by have := hx2b.out; simp; omega) hp0 hp1 (ht.out.on hb4.out))
  rintro e w5 ⟨v5, rfl, h13, h14⟩
  go_wp2
  go_ret
  refine ⟨_, rfl, ?_, ?_⟩
  · show Own _ _ _ _
    rw [hfin.out]; exact h13.out
  · exact (((((((Below.refl B w).alloc hB _).trans h2.out).alloc hB1 _).trans h5.out).trans h8.out).alloc hB3 _).trans (h11.out.trans h14.out)
set_option maxHeartbeats 1000000 in
theorem appendPower_one (B : Nat) (v : Value) (l : List UInt8) (s : ByteArray) (p : Int) (w : World) (hown : Own w B v l) (hB : B ≤ w.heap.size) (hl : l.length ≤ 100) (hs : s.size = 1) (hp0 : -100000 ≤ p) (hp1 : p ≤ 100000) (ht : Tab B w) :
    Calls Tryd.prog 37 #[v, .string s, .int .i64 p] w fun e w' => ∃ v', e = .returned v' ∧ Hid (Own w' B v' (l ++ powered (bl s) (Lib.itoa p))) ∧ Hid (Below B w w') := by
  have hown := hide hown
  have ht := hide ht
  have hs0 : 0 < s.size := by omega
  have hn := hide (news_one w s[0] 5)
  have hfin := hide (show l ++ powered (bl s) (Lib.itoa p) = l ++ [s[0]] ++ [101] ++ Lib.itoa p by
    unfold powered; rw [bl_length, if_neg (by omega)]
    have e : (bl s).take 1 = [s[0]] := by
      rw [List.take_one, head_bl s (by omega)]; rfl
    rw [e]; simp)
  go_enter Tryd.func37, Tryd.ntmps37
  go_wp2_with (first | (at_builtin; refine app_bytes rfl (.tmp 7) (.tmp 10) rfl B _ l rfl (hown.out.alloc _) ⟨w.heap.size, 0, none⟩ 1 1 [s[0]] rfl rfl hn.out (by omega) (by simp; omega) ?_; intro v1 w1 h1 h2 h3; simp at h3; have hn1 := hide (news_one w1 101 5); have hB1 : B ≤ w1.heap.size := (by omega)) | (at_builtin; refine app_bytes rfl (.tmp 22) (.tmp 23) rfl B _ _ rfl (h1.out.alloc _) ⟨w1.heap.size, 0, none⟩ 1 1 [101] rfl rfl hn1.out (by simp; omega) (by simp; omega) ?_; intro v4 w4 h10 h11 h12; simp at h12; have hB4 : B ≤ w4.heap.size := (by omega)))
  go_wp2_with fail
  have hb4 := hide (((((Below.refl B w).alloc hB _).trans h2.out).alloc hB1 _).trans h11.out)
  go_fit (appendInt_any B v4 _ p w4 h10.out hB4 (by simp; omega) hp0 hp1 (ht.out.on hb4.out))
  rintro e w5 ⟨v5, rfl, h13, h14⟩
  go_wp2
  go_ret
  refine ⟨_, rfl, ?_, ?_⟩
  · show Own _ _ _ _
    rw [hfin.out]; exact h13.out
  · exact hb4.out.trans h14.out
theorem appendPower_any (B : Nat) (v : Value) (l : List UInt8) (s : ByteArray) (p : Int) (w : World) (hown : Own w B v l) (hB : B ≤ w.heap.size) (hl : l.length ≤ 100) (hs : 0 < s.size) (hs' : s.size ≤ 100) (hp0 : -100000 ≤ p) (hp1 : p ≤ 100000) (ht : Tab B w) :
    Calls Tryd.prog 37 #[v, .string s, .int .i64 p] w fun e w' => ∃ v', e = .returned v' ∧ Hid (Own w' B v' (l ++ powered (bl s) (Lib.itoa p))) ∧ Hid (Below B w w') := by
  by_cases h : 1 < s.size
  · exact appendPower_more B v l s p w hown hB hl h hs' hp0 hp1 ht
  · exact appendPower_one B v l s p w hown hB hl (by omega) hp0 hp1 ht
end Go.Proofs.YtjpdlibncmldlaaDoor
