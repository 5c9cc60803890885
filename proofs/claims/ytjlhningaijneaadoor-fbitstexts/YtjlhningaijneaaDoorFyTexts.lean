/- calamusref02's Digit, Unhex, Hex; calamuslaw02.FbitsTexts: walked. -/
import Derived.Test.YtjlhningaijneaaDoorFmHex
import Derived.Test.YtjlhningaijneaaDoorFnAwake
namespace Go.Proofs.YtjlhningaijneaaDoor
open Go.RowKit
set_option linter.unusedSimpArgs false
set_option linter.unusedVariables false
theorem digit_some (c : UInt8) (d : Nat) (w : World) (h : hv c = some d) :
    Calls Tryd.prog 32 #[.int .u8 c.toNat] w fun e w' => e = .returned (.int .i64 d) ∧ w' = w := by
  unfold hv at h
  by_cases c1 : 48 ≤ c.toNat ∧ c.toNat ≤ 57
  · rw [if_pos c1] at h
    have hd := hide (Option.some.inj h)
    obtain ⟨c1, c2⟩ := c1
    have c1' : (48 : Int) ≤ c.toNat := by omega
    have c2' : (c.toNat : Int) ≤ 57 := by omega
    clear h
    go_enter Tryd.func32, Tryd.ntmps32
    go_wp2
    go_ret
    exact ⟨ret_int (by rw [← hd.out]; omega), rfl⟩
  · rw [if_neg c1] at h
    by_cases c3 : 97 ≤ c.toNat ∧ c.toNat ≤ 102
    · rw [if_pos c3] at h
      have hd := hide (Option.some.inj h)
      obtain ⟨c3, c4⟩ := c3
      have c3' : (97 : Int) ≤ c.toNat := by omega
      have c4' : (c.toNat : Int) ≤ 102 := by omega
      clear h
      go_enter Tryd.func32, Tryd.ntmps32
      go_wp2
      go_ret
      exact ⟨ret_int (by rw [← hd.out]; omega), rfl⟩
    · rw [if_neg c3] at h; cases h
theorem digit_none (c : UInt8) (w : World) (h : hv c = none) :
    Calls Tryd.prog 32 #[.int .u8 c.toNat] w fun e w' => e = .returned (.int .i64 (-1)) ∧ w' = w := by
  unfold hv at h
  have c1 : ¬ (48 ≤ c.toNat ∧ c.toNat ≤ 57) := by intro q; rw [if_pos q] at h; cases h
  rw [if_neg c1] at h
  have c3 : ¬ (97 ≤ c.toNat ∧ c.toNat ≤ 102) := by intro q; rw [if_pos q] at h; cases h
  clear h
  by_cases a1 : c.toNat < 48
  · go_enter Tryd.func32, Tryd.ntmps32
    go_wp2
    go_ret
    exact ⟨rfl, rfl⟩
  · by_cases a2 : c.toNat < 97
    · have a1' : (48 : Int) ≤ c.toNat := by omega
      have a3 : ¬ ((c.toNat : Int) ≤ 57) := by omega
      have a2' : ¬ (97 : Int) ≤ c.toNat := by omega
      go_enter Tryd.func32, Tryd.ntmps32
      go_wp2
      go_ret
      exact ⟨rfl, rfl⟩
    · have a3 : ¬ ((c.toNat : Int) ≤ 57) := by omega
      have a2' : (97 : Int) ≤ c.toNat := by omega
      have a4 : ¬ ((c.toNat : Int) ≤ 102) := by omega
      go_enter Tryd.func32, Tryd.ntmps32
      go_wp2
      go_ret
      exact ⟨rfl, rfl⟩
set_option maxHeartbeats 1000000 in
theorem runhex_any (s : ByteArray) (w : World) (hs : s.size ≤ maxLen) :
    Calls Tryd.prog 19 #[.string s] w fun e w' => e = .returned (.tuple #[.int .u64 (unh s).1, .int .i64 (unh s).2]) ∧ w' = w := by
  unfold maxLen at hs
  by_cases h16 : s.size = 16
  · have H16 := hide h16
    go_enter Tryd.func19, Tryd.ntmps19
    go_wp2
    go_loop [4, 5] (fun b i => ∃ k a : Nat, k ≤ 16 ∧ a < 16 ^ k ∧ i = .int .i64 k ∧ b = .int .u64 a ∧ Hid (uh ((bl s).take k) = some a)) (fun b i => 16 - (intOf i).toNat)
    case atStart => exact ⟨0, 0, by omega, by omega, rfl, rfl, rfl⟩
    case round =>
      obtain ⟨k, a, hk, ha, rfl, rfl, hu⟩ := hrel
      by_cases hlt : k < 16
      · have hks : k < s.size := by omega
        have hks' : (k : Int) < s.size := by omega
        have ht := hide (uh_take s k hks)
        rw [hu.out] at ht
        cases hc : hv s[k] with
        | none =>
          have hr := hide (show unh s = (0, 20) by
            refine unh_none s h16 ?_
            have := uh_none ((bl s).take (k + 1)) ((bl s).drop (k + 1)) (by rw [ht.out]; unfold uhS; rw [hc])
            rw [List.take_append_drop] at this
            exact this)
          go_wp2_with (go_at_call 32; refine (digit_none s[k] _ hc).mono ?_; rintro e w' ⟨rfl, rfl⟩)
          exact bodyPost_ret (v := .tuple #[.int .u64 0, .int .i64 20]) (by simp [results, Tryd.results19, go_sem]) rfl ⟨by rw [hr.out]; rfl, rfl⟩
        | some d =>
          have hd := hv_lt hc
          have hp : 16 ^ k ≤ 16 ^ 15 := Nat.pow_le_pow_right (by decide) (by omega)
          have hp2 := hide (show 16 ^ (k + 1) = 16 ^ k * 16 from Nat.pow_succ ..)
          have hv16 : (16 : Nat) ^ 15 = 1152921504606846976 := rfl
          rw [hv16] at hp
          have ha' : a < 1152921504606846976 := by omega
          have hn := hide (show uh ((bl s).take (k + 1)) = some (a * 16 + d) by rw [ht.out]; unfold uhS; rw [hc])
          have hA := hide ha
          clear hp hv16 ha
          go_wp2_with (go_at_call 32; refine (digit_some s[k] d _ hc).mono ?_; rintro e w' ⟨rfl, rfl⟩)
          refine ⟨⟨k + 1, a * 16 + d, by omega, ?_, by go_num, ?_, hn.out⟩, by simp [intOf]; omega⟩
          · rw [hp2.out]
            have := hA.out
            omega
          · exact congrArg (Value.int IntKind.u64) (by omega)
      · have hke : k = 16 := by omega
        subst hke
        have hr := hide (show unh s = (a, 0) by
          refine unh_some s h16 a ?_
          have := hu.out
          rw [List.take_of_length_le (by rw [bl_length, h16]; exact Nat.le_refl _)] at this
          exact this)
        go_wp2
        exact bodyPost_ret (v := .tuple #[.int .u64 a, .int .i64 0]) (by simp [results, Tryd.results19, go_sem]) rfl ⟨by rw [hr.out]; rfl, rfl⟩
  · have hr := hide (unh_len s h16)
    have h16' : ¬ ((s.size : Int) = 16) := by omega
    go_enter Tryd.func19, Tryd.ntmps19
    go_wp2
    exact bodyPost_ret (v := .tuple #[.int .u64 0, .int .i64 20]) (by simp [results, Tryd.results19, go_sem]) rfl ⟨by rw [hr.out]; rfl, rfl⟩
/-- The text of a row of bytes. -/
def sN (l : List Nat) : ByteArray := strOfNums (l.map fun v : Nat => (v : Int))
theorem sN_bl (l : List Nat) : bl (sN l) = l.map fun v => UInt8.ofNat v := by
  unfold bl sN
  rw [strOfNums_data, List.map_map]
  apply List.map_congr_left
  intro v _
  show UInt8.ofNat ((v : Int)).toNat = _
  rw [Int.toNat_natCast]
theorem sN_app (a b : List Nat) : sN a ++ sN b = sN (a ++ b) := by
  apply ByteArray.ext
  apply Array.toList_inj.1
  show (sN a ++ sN b).data.toList = bl (sN (a ++ b))
  rw [sN_bl, List.map_append, ← sN_bl, ← sN_bl]
  simp [bl]
theorem sN_size (l : List Nat) : (sN l).size = l.length := by simp [sN, strOfNums_size]
theorem hex_piece (d : Nat) (h : d < 16) : (⟨#[48, 49, 50, 51, 52, 53, 54, 55, 56, 57, 97, 98, 99, 100, 101, 102]⟩ : ByteArray).extract d (d + 1) = sN [hd d] := by
  have : d = 0 ∨ d = 1 ∨ d = 2 ∨ d = 3 ∨ d = 4 ∨ d = 5 ∨ d = 6 ∨ d = 7 ∨ d = 8 ∨ d = 9 ∨ d = 10 ∨ d = 11 ∨ d = 12 ∨ d = 13 ∨ d = 14 ∨ d = 15 := by omega
  rcases this with rfl | rfl | rfl | rfl | rfl | rfl | rfl | rfl | rfl | rfl | rfl | rfl | rfl | rfl | rfl | rfl <;> rfl
theorem uh_low (b : Nat) : ∀ (k a : Nat), ((lowL b k).map fun v => UInt8.ofNat v).foldl uhS (some a) = some (a * 16 ^ k + b % 16 ^ k)
  | 0, a => by simp [lowL, Nat.mod_one]
  | k + 1, a => by
    have hd16 : b / 16 ^ k % 16 < 16 := Nat.mod_lt _ (by decide)
    have h1 : ∀ d, d < 16 → hv (UInt8.ofNat (hd d)) = some d := by decide
    have h2 : uhS (some a) (UInt8.ofNat (hd (b / 16 ^ k % 16))) = some (a * 16 + b / 16 ^ k % 16) := by unfold uhS; rw [h1 _ hd16]
    simp only [lowL, List.map_cons, List.foldl_cons]
    rw [h2, uh_low b k, Nat.mod_pow_succ, Nat.add_mul, Nat.pow_succ]
    congr 1
    rw [Nat.mul_assoc, Nat.mul_comm 16, Nat.mul_comm (b / 16 ^ k % 16)]
    omega
theorem unh_hex (b : Nat) (hb : b < 18446744073709551616) : unh (hexS b) = (b, 0) := by
  have hsz : (sN (lowL b 16)).size = 16 := by rw [sN_size, lowL_len]
  refine unh_some (sN (lowL b 16)) hsz b ?_
  unfold uh
  rw [sN_bl, uh_low b 16 0]
  have : (16 : Nat) ^ 16 = 18446744073709551616 := rfl
  rw [Nat.zero_mul, Nat.zero_add, this, Nat.mod_eq_of_lt hb]
set_option maxHeartbeats 1000000 in
theorem rhex_any (b : Nat) (w : World) (hb : b < 18446744073709551616) :
    Calls Tryd.prog 21 #[.int .u64 b] w fun e w' => e = .returned (.string (hexS b)) ∧ w' = w := by
  go_enter Tryd.func21, Tryd.ntmps21
  go_wp2
  go_loop [0, 3, 4] (fun x s i => ∃ k : Nat, k ≤ 16 ∧ i = .int .i64 k ∧ x = .int .u64 (b / 16 ^ k : Nat) ∧ s = .string (sN (lowL b k))) (fun x s i => 16 - (intOf i).toNat)
  case atStart => exact ⟨0, by omega, rfl, by simp, rfl⟩
  case round =>
    obtain ⟨k, hk, rfl, rfl, rfl⟩ := hrel
    obtain ⟨y, hy⟩ : ∃ y, b / 16 ^ k = y := ⟨_, rfl⟩
    have hyb : y < 18446744073709551616 := by rw [← hy]; exact Nat.lt_of_le_of_lt (Nat.div_le_self _ _) hb
    have hy1 := hide (show b / 16 ^ (k + 1) = y / 16 by rw [Nat.pow_succ, ← Nat.div_div_eq_div_mul, hy])
    rw [hy]
    by_cases hlt : k < 16
    · obtain ⟨d, hdd⟩ : ∃ d, y % 16 = d := ⟨_, rfl⟩
      have hd16 : d < 16 := by omega
      have hlow := hide (show lowL b (k + 1) = hd d :: lowL b k by simp only [lowL]; rw [hy, hdd])
      have hsz : (sN (lowL b k)).size = k := by rw [sN_size, lowL_len]
      have t1 : (y : Int).tmod 16 = d := by rw [Int.tmod_eq_emod_of_nonneg (by omega)]; omega
      have t2 : (y : Int).tdiv 16 = ((y / 16 : Nat) : Int) := by rw [Int.tdiv_eq_ediv_of_nonneg (by omega)]; omega
      have hY := hide hy
      have hp := hide (hex_piece d hd16)
      clear hy hdd
      go_wp2
      refine ⟨⟨k + 1, by omega, by go_num, by rw [hy1.out]; rfl, ?_⟩, by simp [intOf]; omega⟩
      rw [hp.out, sN_app, hlow.out]
      rfl
    · have hke : k = 16 := by omega
      subst hke
      go_wp2
      go_ret
      exact ⟨rfl, rfl⟩
set_option maxHeartbeats 1000000 in
theorem texts_any (b : Nat) (s : ByteArray) (w : World) (g : Gl w) (hb : b < 18446744073709551616) (hs : s.size ≤ maxLen) :
    Calls Tryd.prog 5 #[.int .u64 b, .string s] w fun e w' => e = .returned (.bool true) ∧ Below w.heap.size w w' := by
  have g := hide g
  have hs' := hs
  unfold maxLen at hs'
  by_cases hbig : 65536 < s.size
  · have hbig' : (65536 : Int) < s.size := by omega
    go_enter Tryd.func5, Tryd.ntmps5
    go_wp2
    go_ret
    exact ⟨rfl, Below.refl _ _⟩
  · have hbig' : ¬ (65536 : Int) < s.size := by omega
    have HH := hide hs
    have hh := hide (unh_hex b hb)
    have hsz := hide (show (hexS b).size ≤ maxLen by
      have : (sN (lowL b 16)).size = 16 := by rw [sN_size, lowL_len]
      show (sN (lowL b 16)).size ≤ maxLen
      rw [this]; decide)
    obtain ⟨a, c, hac⟩ : ∃ a c, unh s = (a, c) := ⟨_, _, rfl⟩
    have hac := hide hac
    clear hs
    go_enter Tryd.func5, Tryd.ntmps5
    go_wp2_with fail
    refine (unhex_any s _ HH.out).mono ?_
    rintro e w1 ⟨rfl, rfl⟩
    rw [hac.out]
    go_wp2_with fail
    refine (runhex_any s _ HH.out).mono ?_
    rintro e w1 ⟨rfl, rfl⟩
    rw [hac.out]
    go_wp2_with fail
    refine (hex_any b _ hb).mono ?_
    rintro e w1 ⟨rfl, hB1⟩
    go_wp2_with fail
    refine (unhex_any (hexS b) _ hsz.out).mono ?_
    rintro e w2 ⟨rfl, he2⟩
    have he2 := he2.symm
    subst he2
    rw [hh.out]
    have G1 := hide (g.out.below hB1)
    go_wp2_with fail
    refine (awake_any _ G1.out).mono ?_
    rintro e w3 ⟨rfl, hB3⟩
    go_wp2_with fail
    refine (hex_any b _ hb).mono ?_
    rintro e w4 ⟨rfl, hB4⟩
    go_wp2_with fail
    refine (rhex_any b _ hb).mono ?_
    rintro e w5 ⟨rfl, he5⟩
    have he5 := he5.symm
    subst he5
    go_wp2
    go_ret
    exact ⟨rfl, below_then (below_then hB1 hB3) hB4⟩
end Go.Proofs.YtjlhningaijneaaDoor
