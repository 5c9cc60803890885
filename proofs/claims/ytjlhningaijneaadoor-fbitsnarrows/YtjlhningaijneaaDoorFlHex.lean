/- fbits.Unhex, Hex: walked. -/
import Derived.Test.YtjlhningaijneaaDoorFkClass
namespace Go.Proofs.YtjlhningaijneaaDoor
open Go.RowKit
set_option linter.unusedSimpArgs false
set_option linter.unusedVariables false
/-- A text's bytes. -/
def bl (s : ByteArray) : List UInt8 := s.data.toList
theorem bl_length (s : ByteArray) : (bl s).length = s.size := by show s.data.toList.length = s.data.size; simp
theorem bl_get (s : ByteArray) (k : Nat) (h : k < s.size) : (bl s)[k]'(by rw [bl_length]; exact h) = s[k] := by
  simp [bl]; rfl
/-- One digit more. -/
def uhS (o : Option Nat) (c : UInt8) : Option Nat := match o, hv c with
  | some a, some d => some (a * 16 + d)
  | _, _ => none
/-- What a row of digits is worth, if it is one. -/
def uh (l : List UInt8) : Option Nat := l.foldl uhS (some 0)
theorem uh_snoc (l : List UInt8) (c : UInt8) : uh (l ++ [c]) = uhS (uh l) c := by simp [uh]
theorem uh_none (l m : List UInt8) (h : uh l = none) : uh (l ++ m) = none := by
  unfold uh at h ⊢
  rw [List.foldl_append, h]
  induction m with
  | nil => rfl
  | cons a m ih => exact ih
theorem uh_take (s : ByteArray) (k : Nat) (h : k < s.size) : uh ((bl s).take (k + 1)) = uhS (uh ((bl s).take k)) s[k] := by
  rw [List.take_succ_eq_append_getElem (by rw [bl_length]; exact h), uh_snoc, bl_get s k h]
/-- Unhex's answer. -/
def unh (s : ByteArray) : Nat × Nat := if s.size = 16 then (match uh (bl s) with | some b => (b, 0) | none => (0, 20)) else (0, 20)
theorem unh_len (s : ByteArray) (h : s.size ≠ 16) : unh s = (0, 20) := by unfold unh; rw [if_neg h]
theorem unh_some (s : ByteArray) (h : s.size = 16) (b : Nat) (hb : uh (bl s) = some b) : unh s = (b, 0) := by unfold unh; rw [if_pos h, hb]
theorem unh_none (s : ByteArray) (h : s.size = 16) (hb : uh (bl s) = none) : unh s = (0, 20) := by unfold unh; rw [if_pos h, hb]
set_option maxHeartbeats 1000000 in
theorem unhex_any (s : ByteArray) (w : World) (hs : s.size ≤ maxLen) :
    Calls Tryd.prog 18 #[.string s] w fun e w' => e = .returned (.tuple #[.int .u64 (unh s).1, .int .i64 (unh s).2]) ∧ w' = w := by
  unfold maxLen at hs
  by_cases h16 : s.size = 16
  · have H16 := hide h16
    go_enter Tryd.func18, Tryd.ntmps18
    go_wp2
    go_loop [4, 13] (fun b i => ∃ k a : Nat, k ≤ 16 ∧ a < 16 ^ k ∧ i = .int .i64 k ∧ b = .int .u64 a ∧ Hid (uh ((bl s).take k) = some a)) (fun b i => 16 - (intOf i).toNat)
    case atStart => exact ⟨0, 0, by omega, by omega, rfl, rfl, rfl⟩
    case round =>
      obtain ⟨k, a, hk, ha, rfl, rfl, hu⟩ := hrel
      by_cases hlt : k < 16
      · have hks : k < s.size := by omega
        have hks' : (k : Int) < s.size := by omega
        have ht := hide (uh_take s k hks)
        rw [hu.out] at ht
        cases hc : hv s[k] with
        | none =>
          have hr := hide (show unh s = (0, 20) by
            refine unh_none s h16 ?_
            have := uh_none ((bl s).take (k + 1)) ((bl s).drop (k + 1)) (by rw [ht.out]; unfold uhS; rw [hc])
            rw [List.take_append_drop] at this
            exact this)
          go_wp2_with (go_at_call 31; refine (hexDigit_none s[k] _ hc).mono ?_; rintro e w' ⟨rfl, rfl⟩)
          exact bodyPost_ret (v := .tuple #[.int .u64 0, .int .i64 20]) (by simp [results, Tryd.results18, go_sem]) rfl ⟨by rw [hr.out]; rfl, rfl⟩
        | some d =>
          have hd := hv_lt hc
          have hp : 16 ^ k ≤ 16 ^ 15 := Nat.pow_le_pow_right (by decide) (by omega)
          have hp2 := hide (show 16 ^ (k + 1) = 16 ^ k * 16 from Nat.pow_succ ..)
          have hv16 : (16 : Nat) ^ 15 = 1152921504606846976 := rfl
          rw [hv16] at hp
          have ha' : a < 1152921504606846976 := by omega
          have hor : bits .or .u64 ((a : Int) * 16) (d : Int) = ((a * 16 + d : Nat) : Int) := by
            have := u64_or_nat (a * 16) d (by omega) (by omega)
            rw [nat_join 4 (a * 16) d (by show _ % 16 = 0; omega) (by show _ < 16; omega)] at this
            rw [← this]; rfl
          have hn := hide (show uh ((bl s).take (k + 1)) = some (a * 16 + d) by rw [ht.out]; unfold uhS; rw [hc])
          have hA := hide ha
          clear hp hv16 ha
          go_wp2_with (go_at_call 31; refine (hexDigit_some s[k] d _ hc).mono ?_; rintro e w' ⟨rfl, rfl⟩)
          refine ⟨⟨k + 1, a * 16 + d, by omega, ?_, by go_num, rfl, hn.out⟩, by simp [intOf]; omega⟩
          rw [hp2.out]
          have := hA.out
          omega
      · have hke : k = 16 := by omega
        subst hke
        have hr := hide (show unh s = (a, 0) by
          refine unh_some s h16 a ?_
          have := hu.out
          rw [List.take_of_length_le (by rw [bl_length, h16]; exact Nat.le_refl _)] at this
          exact this)
        go_wp2
        exact bodyPost_ret (v := .tuple #[.int .u64 a, .int .i64 0]) (by simp [results, Tryd.results18, go_sem]) rfl ⟨by rw [hr.out]; rfl, rfl⟩
  · have hr := hide (unh_len s h16)
    have h16' : ¬ ((s.size : Int) = 16) := by omega
    go_enter Tryd.func18, Tryd.ntmps18
    go_wp2
    exact bodyPost_ret (v := .tuple #[.int .u64 0, .int .i64 20]) (by simp [results, Tryd.results18, go_sem]) rfl ⟨by rw [hr.out]; rfl, rfl⟩
end Go.Proofs.YtjlhningaijneaaDoor
