/- calamusref01's cut, exponent: walked. -/
import Derived.Test.YtjpdlibncmldlaaDoorQfMade
import Derived.Test.YtjpdlibncmldlaaDoorNxLay
import Derived.Deep.RegionHeld3
namespace Go.Proofs.YtjpdlibncmldlaaDoor
open Go.RowKit
set_option linter.unusedSimpArgs false
set_option linter.unusedVariables false
set_option maxHeartbeats 1000000 in
theorem rcut_any (s : ByteArray) (w : World) (hs : s.size ≤ 100000) :
    Calls Tryd.prog 32 #[.string s] w fun e w' => e = .returned (.tuple #[.string (mkB ((bl s).takeWhile isDig)), .string (mkB ((bl s).dropWhile isDig))]) ∧ Below w.heap.size w w' := by
  obtain ⟨k, hk⟩ : ∃ k, cntD (bl s) = k := ⟨_, rfl⟩
  have hle : k ≤ s.size := by rw [← hk, ← bl_length]; exact cntD_le _
  have hl1 : ((bl s).takeWhile isDig).length = k := hk
  have e1 := hide (show mkB ((bl s).takeWhile isDig) = s.extract 0 k by
    rw [extract_mkB, List.drop_zero, Nat.sub_zero]
    congr 1
    rw [← hl1]; exact (take_tw isDig (bl s)).symm)
  have e2 := hide (show mkB ((bl s).dropWhile isDig) = s.extract k s.size by
    rw [drop_mkB]
    congr 1
    rw [← hl1]; exact (drop_tw isDig (bl s)).symm)
  have hdig : Hid (∀ j (h : j < s.size), j < k → isDig s[j] = true) := fun j h hj => by
    rw [← bl_get s j h]
    have hj' : j < ((bl s).takeWhile isDig).length := by rw [hl1]; exact hj
    have e : (bl s)[j]'(by rw [bl_length]; exact h) = ((bl s).takeWhile isDig)[j] := by
      have := List.IsPrefix.getElem (List.takeWhile_prefix isDig (l := bl s)) hj'
      exact this.symm
    rw [e]
    exact List.all_eq_true.1 (List.all_takeWhile (p := isDig) (l := bl s)) _ (List.getElem_mem _)
  have hnot : Hid (∀ h : k < s.size, isDig s[k] = false) := fun h => by
    rw [← bl_get s k h]
    have h2 : 0 < ((bl s).dropWhile isDig).length := by
      have := congrArg List.length (List.takeWhile_append_dropWhile (p := isDig) (l := bl s))
      rw [List.length_append, hl1, bl_length] at this
      omega
    have h3 := List.head_dropWhile_not isDig (l := bl s) (by intro q; rw [q] at h2; simp at h2)
    have e : (bl s)[k]'(by rw [bl_length]; exact h) = ((bl s).dropWhile isDig).head (by intro q; rw [q] at h2; simp at h2) := by
      have q := drop_tw isDig (bl s)
      rw [hl1] at q
      rw [List.head_eq_getElem]
      simp only [← q, List.getElem_drop]
      rfl
    rw [e]; exact h3
  clear hk hl1
  go_enter Tryd.func32, Tryd.ntmps32
  go_wp2
  go_loop [4] (fun i => ∃ j : Nat, j ≤ k ∧ i = .int .i64 j) (fun i => k - (intOf i).toNat)
  case atStart => exact ⟨0, Nat.zero_le _, rfl⟩
  case round =>
    obtain ⟨j, hj, rfl⟩ := hrel
    by_cases hlt : j < k
    · have hjs : j < s.size := by omega
      have hd := (isDig_iff _).1 (hdig.out j hjs hlt)
      have d1 := hd.1
      have d2 := hd.2
      clear hd
      go_wp2
      exact ⟨⟨j + 1, by omega, by go_num⟩, by simp [intOf]; omega⟩
    · have hje : j = k := by omega
      subst hje
      by_cases hend : j < s.size
      · have hd' : ¬ (48 ≤ (s[j].toNat : Int) ∧ (s[j].toNat : Int) ≤ 57) := fun q => by
          have := hnot.out hend
          rw [(isDig_iff _).2 q] at this
          cases this
        have hj0 : (0 : Int) ≤ j := by omega
        have hjl : (j : Int) ≤ s.size := by omega
        go_wp2
        all_goals
          go_region
          all_goals
            go_wp2
            go_ret2
            exact ⟨by rw [e1.out, e2.out]; rfl, (Below.refl _ _).drew⟩
      · have hjs : j = s.size := by omega
        have e1' := hide (show mkB ((bl s).takeWhile isDig) = s by rw [e1.out, hjs, extract_mkB, List.drop_zero, Nat.sub_zero, List.take_of_length_le (by rw [bl_length]; exact Nat.le_refl _), mkB_bl])
        have e2' := hide (show mkB ((bl s).dropWhile isDig) = ByteArray.empty by rw [e2.out, hjs, drop_mkB, List.drop_of_length_le (by rw [bl_length]; exact Nat.le_refl _)]; rfl)
        have hj0 : (0 : Int) ≤ j := by omega
        have hjl : (j : Int) ≤ s.size := by omega
        have hjn : ¬ (j : Int) < s.size := by omega
        go_wp2
        all_goals
          go_region
          all_goals
            go_wp2
            go_ret2
            exact ⟨by rw [e1'.out, e2'.out]; rfl, (Below.refl _ _).drew⟩
end Go.Proofs.YtjpdlibncmldlaaDoor
