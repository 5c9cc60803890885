/- calamusref03's number, bytes, Encode: walked. -/
import Derived.Test.YtemlpjnophijfaaDoorUtRef
namespace Go.Proofs.YtemlpjnophijfaaDoor.Ut
open Go.RowKit
set_option linter.unusedSimpArgs false
set_option linter.unusedVariables false
theorem getD_bl (s : ByteArray) (k : Nat) (h : k < s.size) : (bl s).getD k 0 = s[k] := by
  rw [List.getD, List.getElem?_eq_getElem (by rw [bl_length]; exact h), bl_get s k h]; rfl
theorem numA_le (l : List UInt8) (n : Nat) : ∀ k, 1 ≤ k → k ≤ 4 → numA l n k ≤ 200000000
  | 0, h, _ => by omega
  | 1, _, _ => by
    simp only [numA]
    have := (l.getD 0 0).toNat_lt
    have := Nat.mod_le (l.getD 0 0).toNat (2 ^ (7 - n))
    omega
  | 2, _, _ => by
    have h1 : numA l n 1 ≤ 255 := by
      simp only [numA]
      have := (l.getD 0 0).toNat_lt
      have := Nat.mod_le (l.getD 0 0).toNat (2 ^ (7 - n))
      omega
    have e : numA l n 2 = 64 * numA l n 1 + (l.getD 1 0).toNat % 64 := rfl
    omega
  | 3, _, _ => by
    have h1 : numA l n 1 ≤ 255 := by
      simp only [numA]
      have := (l.getD 0 0).toNat_lt
      have := Nat.mod_le (l.getD 0 0).toNat (2 ^ (7 - n))
      omega
    have e : numA l n 2 = 64 * numA l n 1 + (l.getD 1 0).toNat % 64 := rfl
    have e3 : numA l n 3 = 64 * numA l n 2 + (l.getD 2 0).toNat % 64 := rfl
    omega
  | 4, _, _ => by
    have h1 : numA l n 1 ≤ 255 := by
      simp only [numA]
      have := (l.getD 0 0).toNat_lt
      have := Nat.mod_le (l.getD 0 0).toNat (2 ^ (7 - n))
      omega
    have e : numA l n 2 = 64 * numA l n 1 + (l.getD 1 0).toNat % 64 := rfl
    have e3 : numA l n 3 = 64 * numA l n 2 + (l.getD 2 0).toNat % 64 := rfl
    have e4 : numA l n 4 = 64 * numA l n 3 + (l.getD 3 0).toNat % 64 := rfl
    omega
  | k + 5, _, h => by omega
set_option maxHeartbeats 1000000 in
set_option maxRecDepth 100000 in
theorem rnumber_2 (s : ByteArray) (w : World) (h : 2 ≤ s.size) (hs : s.size ≤ 281474976710656) :
    Calls Tryd.prog 79 #[.string s, .int .i64 2] w fun e w' => e = .returned (.int .i64 (numA (bl s) 2 2 : Nat)) ∧ Below w.heap.size w w' := by
  have hg0 := getD_bl s 0 (by omega)
  have hx0 := s[0].toNat_lt
  have hb1 : numA (bl s) 2 1 = s[0].toNat % 32 := by simp only [numA]; rw [hg0]
  have hz0 : (0 : Int) < (s.size : Int) := by omega
  go_enter Tryd.func79, Tryd.ntmps79
  go_wp2_with fail
  go_region_with fail
  all_goals
    go_wp2_with fail
    go_loopw [5, 6] (fun r i w' => ∃ k : Nat, r = .int .i64 (numA (bl s) 2 k : Nat) ∧ i = .int .i64 k ∧ 1 ≤ k ∧ k ≤ 2 ∧ w' = w.drew) (fun _ i _ => 2 - (intOf i).toNat)
    case atStart => exact ⟨1, by rw [hb1]; first | rfl | (congr 1; omega), rfl, Nat.le_refl _, by omega, rfl⟩
    case round =>
      obtain ⟨k, rfl, rfl, hk1, hk2, rfl⟩ := hrel
      have hbd := numA_le (bl s) 2 k hk1 (by omega)
      by_cases hkn : k < 2
      · have hgk := getD_bl s k (by omega)
        have hxk := s[k].toNat_lt
        have hst : numA (bl s) 2 (k + 1) = 64 * numA (bl s) 2 k + s[k].toNat % 64 := by
          obtain ⟨j, rfl⟩ : ∃ j, k = j + 1 := ⟨k - 1, by omega⟩
          simp only [numA]
          rw [hgk]
        have hki : (k : Int) < 2 := by omega
        have hks : (k : Int) < (s.size : Int) := by omega
        obtain ⟨N, hN⟩ : ∃ N, numA (bl s) 2 k = N := ⟨_, rfl⟩
        rw [hN] at hst hbd ⊢
        have hst := hide hst
        clear hN hgk hg0 hb1
        go_wp2
        refine ⟨⟨k + 1, ?_, by go_num, by omega, by omega, by first | rfl | trivial⟩, by simp [intOf]; omega⟩
        rw [hst.out]
        show Value.int _ _ = Value.int _ _
        first | rfl | (congr 1; omega)
      · obtain rfl : k = 2 := by omega
        go_wp2
        go_ret
        exact ⟨rfl, (Below.refl _ _).drew⟩
set_option maxHeartbeats 1000000 in
set_option maxRecDepth 100000 in
theorem rnumber_3 (s : ByteArray) (w : World) (h : 3 ≤ s.size) (hs : s.size ≤ 281474976710656) :
    Calls Tryd.prog 79 #[.string s, .int .i64 3] w fun e w' => e = .returned (.int .i64 (numA (bl s) 3 3 : Nat)) ∧ Below w.heap.size w w' := by
  have hg0 := getD_bl s 0 (by omega)
  have hx0 := s[0].toNat_lt
  have hb1 : numA (bl s) 3 1 = s[0].toNat % 16 := by simp only [numA]; rw [hg0]
  have hz0 : (0 : Int) < (s.size : Int) := by omega
  go_enter Tryd.func79, Tryd.ntmps79
  go_wp2_with fail
  go_region_with fail
  all_goals
    go_wp2_with fail
    go_loopw [5, 6] (fun r i w' => ∃ k : Nat, r = .int .i64 (numA (bl s) 3 k : Nat) ∧ i = .int .i64 k ∧ 1 ≤ k ∧ k ≤ 3 ∧ w' = w.drew) (fun _ i _ => 3 - (intOf i).toNat)
    case atStart => exact ⟨1, by rw [hb1]; first | rfl | (congr 1; omega), rfl, Nat.le_refl _, by omega, rfl⟩
    case round =>
      obtain ⟨k, rfl, rfl, hk1, hk2, rfl⟩ := hrel
      have hbd := numA_le (bl s) 3 k hk1 (by omega)
      by_cases hkn : k < 3
      · have hgk := getD_bl s k (by omega)
        have hxk := s[k].toNat_lt
        have hst : numA (bl s) 3 (k + 1) = 64 * numA (bl s) 3 k + s[k].toNat % 64 := by
          obtain ⟨j, rfl⟩ : ∃ j, k = j + 1 := ⟨k - 1, by omega⟩
          simp only [numA]
          rw [hgk]
        have hki : (k : Int) < 3 := by omega
        have hks : (k : Int) < (s.size : Int) := by omega
        obtain ⟨N, hN⟩ : ∃ N, numA (bl s) 3 k = N := ⟨_, rfl⟩
        rw [hN] at hst hbd ⊢
        have hst := hide hst
        clear hN hgk hg0 hb1
        go_wp2
        refine ⟨⟨k + 1, ?_, by go_num, by omega, by omega, by first | rfl | trivial⟩, by simp [intOf]; omega⟩
        rw [hst.out]
        show Value.int _ _ = Value.int _ _
        first | rfl | (congr 1; omega)
      · obtain rfl : k = 3 := by omega
        go_wp2
        go_ret
        exact ⟨rfl, (Below.refl _ _).drew⟩
set_option maxHeartbeats 1000000 in
set_option maxRecDepth 100000 in
theorem rnumber_4 (s : ByteArray) (w : World) (h : 4 ≤ s.size) (hs : s.size ≤ 281474976710656) :
    Calls Tryd.prog 79 #[.string s, .int .i64 4] w fun e w' => e = .returned (.int .i64 (numA (bl s) 4 4 : Nat)) ∧ Below w.heap.size w w' := by
  have hg0 := getD_bl s 0 (by omega)
  have hx0 := s[0].toNat_lt
  have hb1 : numA (bl s) 4 1 = s[0].toNat % 8 := by simp only [numA]; rw [hg0]
  have hz0 : (0 : Int) < (s.size : Int) := by omega
  go_enter Tryd.func79, Tryd.ntmps79
  go_wp2_with fail
  go_region_with fail
  all_goals
    go_wp2_with fail
    go_loopw [5, 6] (fun r i w' => ∃ k : Nat, r = .int .i64 (numA (bl s) 4 k : Nat) ∧ i = .int .i64 k ∧ 1 ≤ k ∧ k ≤ 4 ∧ w' = w.drew) (fun _ i _ => 4 - (intOf i).toNat)
    case atStart => exact ⟨1, by rw [hb1]; first | rfl | (congr 1; omega), rfl, Nat.le_refl _, by omega, rfl⟩
    case round =>
      obtain ⟨k, rfl, rfl, hk1, hk2, rfl⟩ := hrel
      have hbd := numA_le (bl s) 4 k hk1 (by omega)
      by_cases hkn : k < 4
      · have hgk := getD_bl s k (by omega)
        have hxk := s[k].toNat_lt
        have hst : numA (bl s) 4 (k + 1) = 64 * numA (bl s) 4 k + s[k].toNat % 64 := by
          obtain ⟨j, rfl⟩ : ∃ j, k = j + 1 := ⟨k - 1, by omega⟩
          simp only [numA]
          rw [hgk]
        have hki : (k : Int) < 4 := by omega
        have hks : (k : Int) < (s.size : Int) := by omega
        obtain ⟨N, hN⟩ : ∃ N, numA (bl s) 4 k = N := ⟨_, rfl⟩
        rw [hN] at hst hbd ⊢
        have hst := hide hst
        clear hN hgk hg0 hb1
        go_wp2
        refine ⟨⟨k + 1, ?_, by go_num, by omega, by omega, by first | rfl | trivial⟩, by simp [intOf]; omega⟩
        rw [hst.out]
        show Value.int _ _ = Value.int _ _
        first | rfl | (congr 1; omega)
      · obtain rfl : k = 4 := by omega
        go_wp2
        go_ret
        exact ⟨rfl, (Below.refl _ _).drew⟩
theorem rnumber_any (s : ByteArray) (n : Nat) (w : World) (h1 : 1 ≤ n) (h4 : n ≤ 4) (h : n ≤ s.size) (hs : s.size ≤ 281474976710656) :
    Calls Tryd.prog 79 #[.string s, .int .i64 n] w fun e w' => e = .returned (.int .i64 (numV (bl s) n : Nat)) ∧ Below w.heap.size w w' := by
  match n, h1, h4 with
  | 1, _, _ =>
    have hg0 := getD_bl s 0 (by omega)
    have e : numV (bl s) 1 = s[0].toNat := by unfold numV; rw [if_pos rfl, hg0]
    rw [e]
    have hz0 : (0 : Int) < (s.size : Int) := by omega
    have hx0 := s[0].toNat_lt
    clear e hg0
    go_enter Tryd.func79, Tryd.ntmps79
    go_wp2
    go_ret
    exact ⟨rfl, Below.refl _ _⟩
  | 2, _, _ => exact rnumber_2 s w h hs
  | 3, _, _ => exact rnumber_3 s w h hs
  | 4, _, _ => exact rnumber_4 s w h hs
theorem numV_le (l : List UInt8) (n : Nat) (h1 : 1 ≤ n) (h4 : n ≤ 4) : numV l n ≤ 200000000 := by
  unfold numV
  split
  · have := (l.getD 0 0).toNat_lt; omega
  · exact numA_le l n n h1 h4
theorem SL.cells (w : World) (l : List UInt8) (T : TypeId) (cs : Array Value) (hc : cs = (l.map fun c : UInt8 => Value.int .u8 (c.toNat : Int)).toArray) (hl : l.length ≤ 100) : SL (w.alloc (.cells cs T)) (.slice (some ⟨w.heap.size, 0, none⟩) l.length l.length) l := by
  have ml : maxLen = 2 ^ 63 - 1 := rfl
  refine Or.inr ⟨⟨w.heap.size, 0, none⟩, l.length, rfl, Nat.le_refl _, by omega, fun i hi => ⟨by simp, ?_⟩⟩
  have e1 : (⟨w.heap.size, 0, none⟩ : Addr).add i = ⟨w.heap.size, i, none⟩ := by unfold Addr.add; split <;> simp_all
  rw [e1, hc]
  simp [hi]
theorem u8n {k : Nat} (h : k < 256) : ((UInt8.ofNat k).toNat : Int) = k := by rw [UInt8.toNat_ofNat']; omega
theorem u8w {z : Int} (h : 0 ≤ z) (h2 : z < 256) : IntKind.u8.wrap z = z := by rw [IntKind.wrap_u8]; omega
set_option maxHeartbeats 1000000 in
set_option maxRecDepth 100000 in
theorem rbytes_any (r : Nat) (w : World) (hv : Utf8.valid (r : Int) = true) :
    Calls Tryd.prog 81 #[.int .i64 r] w fun e w' => e = .returned (.string (Utf8.encode (r : Int))) ∧ Below w.heap.size w w' := by
  have hr := (valid_iff r).1 hv
  have henc : Utf8.encode (r : Int) = if r < 128 then mkB [UInt8.ofNat r] else if r < 2048 then mkB [UInt8.ofNat (192 + r / 64), UInt8.ofNat (128 + r % 64)] else if r < 65536 then mkB [UInt8.ofNat (224 + r / 4096), UInt8.ofNat (128 + r / 64 % 64), UInt8.ofNat (128 + r % 64)] else mkB [UInt8.ofNat (240 + r / 262144), UInt8.ofNat (128 + r / 4096 % 64), UInt8.ofNat (128 + r / 64 % 64), UInt8.ofNat (128 + r % 64)] := by
    simp only [Utf8.encode, hv, if_true, Int.toNat_natCast]
    rfl
  rw [henc]
  clear henc hv
  by_cases c1 : (r : Int) < 128
  · rw [if_pos (by omega)]
    have hw : IntKind.u8.wrap (r : Int) = r := u8w (by omega) (by omega)
    have hcv := (SL.cells w [UInt8.ofNat r] 5 #[.int .u8 (r : Int)] (by simp only [List.map_cons, List.map_nil]; rw [u8n (by omega)]) (by simp)).conv
    simp only [List.length_cons, List.length_nil] at hcv
    clear hr
    go_enter Tryd.func81, Tryd.ntmps81
    go_wp2
    go_ret
    exact ⟨rfl, below_al (Below.refl _ _)⟩
  · rw [if_neg (by omega)]
    by_cases c2 : (r : Int) < 2048
    · rw [if_pos (by omega)]
      obtain ⟨y0, hy0⟩ : ∃ y0, 192 + r / 64 = y0 := ⟨_, rfl⟩
      obtain ⟨y1, hy1⟩ : ∃ y1, 128 + r % 64 = y1 := ⟨_, rfl⟩
      have z0 : (192 : Int) + (r : Int) / 64 = (y0 : Int) := by omega
      have z1 : (128 : Int) + (r : Int) % 64 = (y1 : Int) := by omega
      rw [hy0, hy1]
      have b0 : y0 < 256 := by omega
      have b1 : y1 < 256 := by omega
      have u0 : IntKind.u8.wrap (y0 : Int) = y0 := u8w (by omega) (by omega)
      have u1 : IntKind.u8.wrap (y1 : Int) = y1 := u8w (by omega) (by omega)
      have hcv := (SL.cells w [UInt8.ofNat y0, UInt8.ofNat y1] 5 #[.int .u8 (y0 : Int), .int .u8 (y1 : Int)] (by simp only [List.map_cons, List.map_nil]; rw [u8n b0, u8n b1]) (by simp)).conv
      simp only [List.length_cons, List.length_nil] at hcv
      clear hy0 hy1
      go_enter Tryd.func81, Tryd.ntmps81
      go_wp2
      go_ret
      exact ⟨rfl, below_al (Below.refl _ _)⟩
    · rw [if_neg (by omega)]
      by_cases c3 : (r : Int) < 65536
      · rw [if_pos (by omega)]
        obtain ⟨y0, hy0⟩ : ∃ y0, 224 + r / 4096 = y0 := ⟨_, rfl⟩
        obtain ⟨y1, hy1⟩ : ∃ y1, 128 + r / 64 % 64 = y1 := ⟨_, rfl⟩
        obtain ⟨y2, hy2⟩ : ∃ y2, 128 + r % 64 = y2 := ⟨_, rfl⟩
        have z0 : (224 : Int) + (r : Int) / 4096 = (y0 : Int) := by omega
        have z1 : (128 : Int) + (r : Int) / 64 % 64 = (y1 : Int) := by omega
        have z2 : (128 : Int) + (r : Int) % 64 = (y2 : Int) := by omega
        rw [hy0, hy1, hy2]
        have b0 : y0 < 256 := by omega
        have b1 : y1 < 256 := by omega
        have b2 : y2 < 256 := by omega
        have u0 : IntKind.u8.wrap (y0 : Int) = y0 := u8w (by omega) (by omega)
        have u1 : IntKind.u8.wrap (y1 : Int) = y1 := u8w (by omega) (by omega)
        have u2 : IntKind.u8.wrap (y2 : Int) = y2 := u8w (by omega) (by omega)
        have hcv := (SL.cells w [UInt8.ofNat y0, UInt8.ofNat y1, UInt8.ofNat y2] 5 #[.int .u8 (y0 : Int), .int .u8 (y1 : Int), .int .u8 (y2 : Int)] (by simp only [List.map_cons, List.map_nil]; rw [u8n b0, u8n b1, u8n b2]) (by simp)).conv
        simp only [List.length_cons, List.length_nil] at hcv
        clear hy0 hy1 hy2
        go_enter Tryd.func81, Tryd.ntmps81
        go_wp2
        go_ret
        exact ⟨rfl, below_al (Below.refl _ _)⟩
      · rw [if_neg (by omega)]
        obtain ⟨y0, hy0⟩ : ∃ y0, 240 + r / 262144 = y0 := ⟨_, rfl⟩
        obtain ⟨y1, hy1⟩ : ∃ y1, 128 + r / 4096 % 64 = y1 := ⟨_, rfl⟩
        obtain ⟨y2, hy2⟩ : ∃ y2, 128 + r / 64 % 64 = y2 := ⟨_, rfl⟩
        obtain ⟨y3, hy3⟩ : ∃ y3, 128 + r % 64 = y3 := ⟨_, rfl⟩
        have z0 : (240 : Int) + (r : Int) / 262144 = (y0 : Int) := by omega
        have z1 : (128 : Int) + (r : Int) / 4096 % 64 = (y1 : Int) := by omega
        have z2 : (128 : Int) + (r : Int) / 64 % 64 = (y2 : Int) := by omega
        have z3 : (128 : Int) + (r : Int) % 64 = (y3 : Int) := by omega
        rw [hy0, hy1, hy2, hy3]
        have b0 : y0 < 256 := by omega
        have b1 : y1 < 256 := by omega
        have b2 : y2 < 256 := by omega
        have b3 : y3 < 256 := by omega
        have u0 : IntKind.u8.wrap (y0 : Int) = y0 := u8w (by omega) (by omega)
        have u1 : IntKind.u8.wrap (y1 : Int) = y1 := u8w (by omega) (by omega)
        have u2 : IntKind.u8.wrap (y2 : Int) = y2 := u8w (by omega) (by omega)
        have u3 : IntKind.u8.wrap (y3 : Int) = y3 := u8w (by omega) (by omega)
        have hcv := (SL.cells w [UInt8.ofNat y0, UInt8.ofNat y1, UInt8.ofNat y2, UInt8.ofNat y3] 5 #[.int .u8 (y0 : Int), .int .u8 (y1 : Int), .int .u8 (y2 : Int), .int .u8 (y3 : Int)] (by simp only [List.map_cons, List.map_nil]; rw [u8n b0, u8n b1, u8n b2, u8n b3]) (by simp)).conv
        simp only [List.length_cons, List.length_nil] at hcv
        clear hy0 hy1 hy2 hy3
        go_enter Tryd.func81, Tryd.ntmps81
        go_wp2
        go_ret
        exact ⟨rfl, below_al (Below.refl _ _)⟩
end Go.Proofs.YtemlpjnophijfaaDoor.Ut
