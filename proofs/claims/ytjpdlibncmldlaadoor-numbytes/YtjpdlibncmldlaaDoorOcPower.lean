/- num's appendPointed and appendPower: walked. -/
import Derived.Test.YtjpdlibncmldlaaDoorObPower
import Derived.Outline
namespace Go.Proofs.YtjpdlibncmldlaaDoor
open Go.RowKit
set_option linter.unusedSimpArgs false
set_option linter.unusedVariables false
set_option maxHeartbeats 400000 in
set_option maxRecDepth 100000 in
theorem appendUint_small (B : Nat) (v : Value) (l : List UInt8) (n : Nat) (w : World) (hown : Own w B v l) (hB : B ≤ w.heap.size) (hl : l.length ≤ 1000) (hn : n < 100) :
    Calls Tryd.prog 76 #[v, .int .u64 n, .int .i64 10] w fun e w' => ∃ v', e = .returned v' ∧ Hid (Own w' B v' (l ++ dec3 n)) ∧ Hid (Below B w w') := by
  have hown := hide hown
  have hsz : (mkB (dec3 n)).size ≤ 3 := by
    rw [mkB_size]; unfold dec3; split <;> (try split) <;> simp
  go_enter Tryd.func76, Tryd.ntmps76
  go_wp2_with (first | (go_at_call 78; go_fit (small_any n w hn); rintro e w' ⟨rfl, rfl⟩) | (at_builtin; refine app_str rfl (.tmp 13) (.tmp 16) rfl B _ l rfl hown.out (mkB (dec3 n)) rfl (by omega) hB ?_; intro v1 w1 h1 h2 h3))
  go_ret
  refine ⟨_, rfl, ?_, h2⟩
  have := h1.out
  rw [bl_mkB] at this
  exact this
set_option maxHeartbeats 400000 in
theorem appendInt_small (B : Nat) (v : Value) (l : List UInt8) (n : Nat) (w : World) (hown : Own w B v l) (hB : B ≤ w.heap.size) (hl : l.length ≤ 1000) (hn : n < 100) :
    Calls Tryd.prog 59 #[v, .int .i64 n, .int .i64 10] w fun e w' => ∃ v', e = .returned v' ∧ Hid (Own w' B v' (l ++ dec3 n)) ∧ Hid (Below B w w') := by
  have hown := hide hown
  have key : ∀ w : World, Own w B v l → B ≤ w.heap.size → Calls Tryd.prog 70 #[v, .int .i64 n, .int .i64 10] w fun e w' => ∃ v', e = .returned v' ∧ Hid (Own w' B v' (l ++ dec3 n)) ∧ Hid (Below B w w') := by
    intro w ho hB
    have ho := hide ho
    clear hown
    go_enter Tryd.func70, Tryd.ntmps70
    go_wp2_with fail
    go_fit (appendUint_small B v l n w ho.out hB hl hn)
    rintro e w1 ⟨v1, rfl, h1, h2⟩
    go_wp2
    go_ret
    exact ⟨_, rfl, h1, h2⟩
  have key := hide key
  go_enter Tryd.func59, Tryd.ntmps59
  go_wp2_with fail
  go_fit (key.out w hown.out hB)
  rintro e w1 ⟨v1, rfl, h1, h2⟩
  go_wp2
  go_ret
  exact ⟨_, rfl, h1, h2⟩
/-- digits with a point behind the first one, and a power of ten. -/
def powered (l : List UInt8) (p : List UInt8) : List UInt8 := l.take 1 ++ (if 1 < l.length then 46 :: l.drop 1 else []) ++ 101 :: p
set_option maxHeartbeats 1000000 in
theorem appendPower_small (B : Nat) (v : Value) (l : List UInt8) (s : ByteArray) (p : Nat) (w : World) (hown : Own w B v l) (hB : B ≤ w.heap.size) (hl : l.length ≤ 100) (hs : 1 < s.size) (hs' : s.size ≤ 100) (hp : p < 100) :
    Calls Tryd.prog 37 #[v, .string s, .int .i64 p] w fun e w' => ∃ v', e = .returned v' ∧ Hid (Own w' B v' (l ++ powered (bl s) (dec3 p))) ∧ Hid (Below B w w') := by
  have hown := hide hown
  have hn := hide (news_one w s[0] 5)
  have hsi : (1 : Int) < s.size := by omega
  have hfin := hide (show l ++ powered (bl s) (dec3 p) = l ++ [s[0]] ++ [46] ++ bl (s.extract 1 s.size) ++ [101] ++ dec3 p by
    unfold powered; rw [bl_length, if_pos hs, drop_mkB, bl_mkB]
    have e : (bl s).take 1 = [s[0]] := by
      rw [List.take_one, head_bl s (by omega)]; rfl
    rw [e]; simp)
  have hx2 := hide (show (s.extract 1 s.size).size = s.size - 1 by rw [drop_mkB, mkB_size]; simp [bl_length])
  have hx2b := hide (show (bl (s.extract 1 s.size)).length = s.size - 1 by rw [bl_length]; exact hx2.out)
  go_enter Tryd.func37, Tryd.ntmps37
  go_wp2_with (first | (at_builtin; refine app_bytes rfl (.tmp 7) (.tmp 10) rfl B _ l rfl (hown.out.alloc _) ⟨w.heap.size, 0, none⟩ 1 1 [s[0]] rfl rfl hn.out (by omega) (by simp; omega) ?_; intro v1 w1 h1 h2 h3; simp at h3; have hn1 := hide (news_one w1 46 5); have hB1 : B ≤ w1.heap.size := (by omega)) | (at_builtin; refine app_bytes rfl (.tmp 15) (.tmp 16) rfl B _ _ rfl (h1.out.alloc _) ⟨w1.heap.size, 0, none⟩ 1 1 [46] rfl rfl hn1.out (by simp; omega) (by simp; omega) ?_; intro v2 w2 h4 h5 h6; simp at h6; have hB2 : B ≤ w2.heap.size := (by omega)) | (at_builtin; refine app_str rfl (.tmp 18) (.tmp 20) rfl B _ _ rfl h4.out (s.extract 1 s.size) rfl (by rw [hx2.out]; simp; omega) hB2 ?_; intro v3 w3 h7 h8 h9; have hn3 := hide (news_one w3 101 5); have hB3 : B ≤ w3.heap.size := (by omega)) | (at_builtin; refine app_bytes rfl (.tmp 22) (.tmp 23) rfl B _ _ rfl (h7.out.alloc _) ⟨w3.heap.size, 0, none⟩ 1 1 [101] rfl rfl hn3.out (by have := hx2b.out; simp; omega) (by simp; omega) ?_; intro v4 w4 h10 h11 h12; simp at h12; have hB4 : B ≤ w4.heap.size := (by omega)))
  go_wp2_with fail
  go_fit (appendInt_small B v4 _ p w4 h10.out hB4 (by have := hx2b.out; simp; omega) hp)
  rintro e w5 ⟨v5, rfl, h13, h14⟩
  go_wp2
  go_ret
  refine ⟨_, rfl, ?_, ?_⟩
  · show Own _ _ _ _
    rw [hfin.out]; exact h13.out
  · exact (((((((Below.refl B w).alloc hB _).trans h2.out).alloc hB1 _).trans h5.out).trans h8.out).alloc hB3 _).trans (h11.out.trans h14.out)
end Go.Proofs.YtjpdlibncmldlaaDoor
