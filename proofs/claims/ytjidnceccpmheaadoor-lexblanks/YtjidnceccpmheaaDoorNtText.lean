/- num's cutByte and cutDigits: walked; the plain words for a number's text. -/
import Derived.Test.YtjidnceccpmheaaDoorNbCount
import Derived.WalkKit
import Derived.WalkSpells
import Derived.WalkLawsBesides
import Derived.Deep.RegionWith
import Derived.Outline
import Derived.Lib.Strings
namespace Go.Proofs.YtjidnceccpmheaaDoor
open Go.RowKit
set_option linter.unusedSimpArgs false
set_option linter.unusedVariables false
/-- A text of bytes. -/
def mkB (l : List UInt8) : ByteArray := ⟨l.toArray⟩
theorem bl_mkB (l : List UInt8) : bl (mkB l) = l := by simp [bl, mkB]
theorem mkB_size (l : List UInt8) : (mkB l).size = l.length := by rw [← bl_length, bl_mkB]
theorem mkB_bl (s : ByteArray) : mkB (bl s) = s := by cases s; simp [bl, mkB]
theorem mkB_nil (l : List UInt8) : (mkB l).toList.isEmpty = l.isEmpty := by rw [bl_toList, bl_mkB]
theorem extract_mkB (s : ByteArray) (a b : Nat) : s.extract a b = mkB (((bl s).drop a).take (b - a)) := Lib.extract_eq s a b
theorem drop_mkB (s : ByteArray) (a : Nat) : s.extract a s.size = mkB ((bl s).drop a) := by
  rw [extract_mkB, List.take_of_length_le (by rw [List.length_drop, bl_length]; omega)]
/-- Does a row begin with c? -/
def hdB (c : UInt8) (l : List UInt8) : Bool := l.head? == some c
/-- What is behind c then. -/
def tlB (c : UInt8) (l : List UInt8) : List UInt8 := if hdB c l then l.drop 1 else l
theorem hdB_size (c : UInt8) (s : ByteArray) (h : 0 < s.size) : hdB c (bl s) = (s[0] == c) := by
  unfold hdB; rw [head_bl s h]; rfl
theorem tlB_length (c : UInt8) (l : List UInt8) : (tlB c l).length ≤ l.length := by
  unfold tlB; split <;> simp
theorem take_tw (p : UInt8 → Bool) (l : List UInt8) : l.take (l.takeWhile p).length = l.takeWhile p := by
  induction l with
  | nil => rfl
  | cons a l ih => by_cases h : p a = true <;> simp [h, ih]
theorem drop_tw (p : UInt8 → Bool) (l : List UInt8) : l.drop (l.takeWhile p).length = l.dropWhile p := by
  induction l with
  | nil => rfl
  | cons a l ih => by_cases h : p a = true <;> simp [h, ih]
theorem cutByte_any (s : ByteArray) (c : UInt8) (ci : Int) (w : World) (hci : ci = c.toNat) (hs : s.size ≤ 100000) :
    Calls Tryd.prog 48 #[.string s, .int .u8 ci] w fun e w' => e = .returned (.tuple #[.bool (hdB c (bl s)), .string (mkB (tlB c (bl s)))]) ∧ Below w.heap.size w w' := by
  by_cases h0 : s.size = 0
  · have hl : bl s = [] := List.eq_nil_of_length_eq_zero (by rw [bl_length]; exact h0)
    have he : s.toList.isEmpty = true := by rw [bl_toList, hl]; rfl
    have e1 := hide (show hdB c (bl s) = false by rw [hl]; rfl)
    have e2 := hide (show mkB (tlB c (bl s)) = s by rw [tlB, e1.out]; simp [mkB_bl])
    clear hl h0
    go_enter Tryd.func48, Tryd.ntmps48
    go_wp2
    go_ret2
    exact ⟨by rw [e1.out, e2.out]; rfl, Below.refl _ _⟩
  · have he : s.toList.isEmpty = false := by
      rw [bl_toList]; cases hb : bl s with
      | nil => have := bl_length s; rw [hb] at this; simp at this; omega
      | cons _ _ => rfl
    have hsz : 0 < s.size := by omega
    have hsz' : (0 : Int) < s.size := by omega
    have hh := hide (hdB_size c s hsz)
    cases hc : hdB c (bl s)
    · have hb : ((s[0].toNat : Int) != ci) = true := by
        rw [hh.out] at hc
        rw [bne_iff_ne, hci]; intro e
        have := UInt8.toNat_inj.1 (by omega : s[0].toNat = c.toNat)
        rw [this] at hc; simp at hc
      have e2 := hide (show mkB (tlB c (bl s)) = s by rw [tlB, hc]; simp [mkB_bl])
      clear hci h0
      go_enter Tryd.func48, Tryd.ntmps48
      go_wp2
      go_ret2
      exact ⟨by rw [e2.out]; rfl, Below.refl _ _⟩
    · have hb : ((s[0].toNat : Int) != ci) = false := by
        rw [hh.out] at hc
        simp only [beq_iff_eq] at hc
        rw [hc, hci]; simp
      have e2 := hide (show mkB (tlB c (bl s)) = s.extract 1 s.size by rw [drop_mkB, tlB, hc]; rfl)
      have h1 : (1 : Int) ≤ s.size := by omega
      clear hci h0
      go_enter Tryd.func48, Tryd.ntmps48
      go_wp2
      go_region
      all_goals
        go_wp2
        go_ret2
        exact ⟨by rw [e2.out]; rfl, (Below.refl _ _).drew⟩
theorem cutDigits_any (s : ByteArray) (w : World) (hs : s.size ≤ 100000) :
    Calls Tryd.prog 49 #[.string s] w fun e w' => e = .returned (.tuple #[.string (mkB ((bl s).takeWhile isDig)), .string (mkB ((bl s).dropWhile isDig))]) ∧ Below w.heap.size w w' := by
  have ml : maxLen = 2 ^ 63 - 1 := rfl
  obtain ⟨k, hk⟩ : ∃ k, cntD (bl s) = k := ⟨_, rfl⟩
  have hle : k ≤ s.size := by rw [← hk, ← bl_length]; exact cntD_le _
  have e0 : (bl s).takeWhile isDig ++ (bl s).dropWhile isDig = bl s := List.takeWhile_append_dropWhile
  have hl1 : ((bl s).takeWhile isDig).length = k := hk
  have e1 := hide (show mkB ((bl s).takeWhile isDig) = s.extract 0 k by
    rw [extract_mkB, List.drop_zero, Nat.sub_zero]
    congr 1
    rw [← hl1]; exact (take_tw isDig (bl s)).symm)
  have e2 := hide (show mkB ((bl s).dropWhile isDig) = s.extract k s.size by
    rw [drop_mkB]
    congr 1
    rw [← hl1]; exact (drop_tw isDig (bl s)).symm)
  have hk := hide hk
  clear e0 hl1
  go_enter Tryd.func49, Tryd.ntmps49
  go_wp2_with (go_at_call 57; refine (countDigits_any _ _ (by omega)).mono ?_; rw [hk.out]; rintro e w' ⟨rfl, rfl⟩)
  go_region
  all_goals
    go_wp2
    go_ret2
    exact ⟨by rw [e1.out, e2.out]; rfl, (Below.refl _ _).drew⟩
end Go.Proofs.YtjidnceccpmheaaDoor
