/- calamusref01's all, Is, Check, Made: walked. -/
import Derived.Test.YtemlpjnophijfaaDoorNpFormF
import Derived.Test.YtemlpjnophijfaaDoorNtText
import Derived.Test.YtemlpjnophijfaaDoorNqAdd
import Derived.Test.YtemlpjnophijfaaDoorNrSum
import Derived.Outline
namespace Go.Proofs.YtemlpjnophijfaaDoor
open Go.RowKit
set_option linter.unusedSimpArgs false
set_option linter.unusedVariables false
theorem allD_of (s : ByteArray) (h : ∀ j (h : j < s.size), isDig s[j] = true) : allD (bl s) = true := by
  unfold allD; rw [List.all_eq_true]
  intro c hc
  obtain ⟨i, hi, rfl⟩ := List.getElem_of_mem hc
  rw [bl_length] at hi
  rw [bl_get s i hi]; exact h i hi
set_option maxHeartbeats 400000 in
theorem rall_any (s : ByteArray) (w : World) (hs : s.size ≤ maxLen) :
    Calls Tryd.prog 63 #[.string s] w fun e w' => e = .returned (.bool (allD (bl s) && decide (0 < s.size))) ∧ w' = w := by
  unfold maxLen at hs
  go_enter Tryd.func63, Tryd.ntmps63
  go_wp2
  go_loop [3] (fun i => ∃ k : Nat, k ≤ s.size ∧ i = .int .i64 k ∧ Hid (∀ j (hj : j < k) (h : j < s.size), isDig s[j] = true)) (fun i => s.size - (intOf i).toNat)
  case atStart => exact ⟨0, Nat.zero_le _, rfl, fun j hj => by omega⟩
  case round =>
    obtain ⟨k, hk, rfl, hall⟩ := hrel
    by_cases hlt : k < s.size
    · by_cases hd : isDig s[k] = true
      · have hd' := (isDig_iff _).1 hd
        have h1 := hd'.1
        have h2 := hd'.2
        have HH := hide hd
        clear hd hd'
        go_wp2
        go_round
        case rel => exact ⟨k + 1, by omega, by go_num, fun j hj h => by
          by_cases e : j = k
          · subst e; exact HH.out
          · exact hall.out j (by omega) h⟩
        case measure => simp [intOf]; omega
      · have hno := hide (show allD (bl s) = false by
          cases ha : allD (bl s)
          · rfl
          · exfalso; apply hd
            have := allD_get s ha k hlt
            rw [isDig_iff]; omega)
        have hd' : ¬ (48 ≤ (s[k].toNat : Int) ∧ (s[k].toNat : Int) ≤ 57) := fun h => hd ((isDig_iff _).2 h)
        clear hd
        go_wp2
        all_goals
          go_ret
          exact ⟨ret_bool (by rw [hno.out]; rfl), rfl⟩
    · have hyes := hide (allD_of s (fun j h => hall.out j (by omega) h))
      go_wp2
      go_ret
      refine ⟨ret_bool ?_, rfl⟩
      rw [hyes.out, Bool.true_and]
theorem isN_zero_digits (n : Bool) (s : ByteArray) (x : Int) (h : s.toList = [48]) : isN n s x = (!n && x == 0) := by
  rw [bl_toList] at h
  have ho : isO [48] x = false := by unfold isO; simp
  simp [isN, isZ, h, ho]
theorem isN_other (n : Bool) (s : ByteArray) (x : Int) (h : ¬ s.toList = [48]) : isN n s x = isO (bl s) x := by
  rw [bl_toList] at h
  have hz : isZ n s x = false := by simp [isZ, h]
  simp [isN, hz]
set_option maxHeartbeats 1000000 in
theorem ris_any (n : Bool) (s : ByteArray) (x : Int) (w : World) (hs : s.size ≤ maxLen) :
    Calls Tryd.prog 51 #[.agg #[.bool n, .string s, .int .i64 x]] w fun e w' => e = .returned (.bool (isN n s x)) ∧ Below w.heap.size w w' := by
  by_cases hz : s.toList = [48]
  · have hr := hide (isN_zero_digits n s x hz)
    cases n
    all_goals
      go_enter Tryd.func51, Tryd.ntmps51
      go_wp2
      go_ret
      exact ⟨ret_bool (by rw [hr.out]; rfl), (Below.refl _ _).alloc (Nat.le_refl _) _⟩
  · have hr := hide (isN_other n s x hz)
    have hzb : (s.toList == [48]) = false := by simpa using hz
    clear hz
    by_cases h0 : 0 < s.size
    · have hO := hide (isO_at s x h0)
      have h0i : (0 : Int) < s.size := by omega
      cases had : allD (bl s)
      · have had' := hide (show (allD (bl s) && decide (0 < s.size)) = false by rw [had]; rfl)
        go_enter Tryd.func51, Tryd.ntmps51
        go_wp2_with (go_at_call 63; go_fit (rall_any s _ hs); rw [had'.out]; rintro e w' ⟨rfl, rfl⟩)
        go_ret
        exact ⟨ret_bool (by rw [hr.out, hO.out, had]; simp), (Below.refl _ _).alloc (Nat.le_refl _) _⟩
      · have had' := hide (show (allD (bl s) && decide (0 < s.size)) = true by rw [had]; simp [h0])
        by_cases h40 : (s.size : Int) ≤ 40
        · by_cases hx1 : -400 ≤ x
          · go_enter Tryd.func51, Tryd.ntmps51
            go_wp2_with (go_at_call 63; go_fit (rall_any s _ hs); rw [had'.out]; rintro e w' ⟨rfl, rfl⟩)
            all_goals
              go_ret
              refine ⟨ret_bool ?_, (Below.refl _ _).alloc (Nat.le_refl _) _⟩
              have h40' : s.size ≤ 40 := by omega
              rw [hr.out, hO.out, had]
              simp only [← bne48]
              simp [h40', hx1, *]
              try rw [Bool.and_comm, Bool.and_assoc]
          · have hx1' : decide (-400 ≤ x) = false := decide_eq_false hx1
            go_enter Tryd.func51, Tryd.ntmps51
            go_wp2_with (go_at_call 63; go_fit (rall_any s _ hs); rw [had'.out]; rintro e w' ⟨rfl, rfl⟩)
            all_goals
              go_ret
              refine ⟨ret_bool ?_, (Below.refl _ _).alloc (Nat.le_refl _) _⟩
              rw [hr.out, hO.out, had]
              simp
              intros
              omega
        · have h40' : decide ((s.size : Int) ≤ 40) = false := decide_eq_false h40
          go_enter Tryd.func51, Tryd.ntmps51
          go_wp2_with (go_at_call 63; go_fit (rall_any s _ hs); rw [had'.out]; rintro e w' ⟨rfl, rfl⟩)
          go_ret
          refine ⟨ret_bool ?_, (Below.refl _ _).alloc (Nat.le_refl _) _⟩
          rw [hr.out, hO.out, had]
          simp; omega
    · have hOz := hide (show isO (bl s) x = false by unfold isO; rw [bl_length]; simp; omega)
      have had' := hide (show (allD (bl s) && decide (0 < s.size)) = false by simp [h0])
      go_enter Tryd.func51, Tryd.ntmps51
      go_wp2_with (go_at_call 63; go_fit (rall_any s _ hs); rw [had'.out]; rintro e w' ⟨rfl, rfl⟩)
      go_ret
      exact ⟨ret_bool (by rw [hr.out, hOz.out]), (Below.refl _ _).alloc (Nat.le_refl _) _⟩
end Go.Proofs.YtemlpjnophijfaaDoor
