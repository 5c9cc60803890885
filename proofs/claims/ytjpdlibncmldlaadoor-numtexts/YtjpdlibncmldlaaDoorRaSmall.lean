/- calamusref01's Small: walked. -/
import Derived.Test.YtjpdlibncmldlaaDoorQfMade
namespace Go.Proofs.YtjpdlibncmldlaaDoor
open Go.RowKit
set_option linter.unusedSimpArgs false
set_option linter.unusedVariables false
/-- What Small knows behind k digits. -/
structure SmI (n k m : Nat) (l : List Nat) : Prop where
  len : l.length = k
  dgs : Dgs l
  le : k ≤ 13
  eq : n = m * 10 ^ k + val l
theorem SmI.step {n k m : Nat} {l : List Nat} (h : SmI n k m l) (hn : n < 10000000000000) (hk : k = 0 ∨ 0 < m) : SmI n (k + 1) (m / 10) (m % 10 :: l) := by
  refine ⟨by simp [h.len], h.dgs.put (by omega), ?_, ?_⟩
  · rcases hk with rfl | hm
    · omega
    · have h1 : 10 ^ k ≤ m * 10 ^ k := Nat.le_mul_of_pos_left _ hm
      have h2 := h.eq
      have h3 : 10 ^ k < 10 ^ 13 := by
        have : (10 : Nat) ^ 13 = 10000000000000 := rfl
        omega
      have := (Nat.pow_lt_pow_iff_right (by decide : 1 < 10)).1 h3
      omega
  · have h2 := h.eq
    show n = m / 10 * 10 ^ (k + 1) + (m % 10 * 10 ^ l.length + val l)
    rw [h.len, Nat.pow_succ]
    have e3 : (10 * (m / 10) + m % 10) * 10 ^ k = m * 10 ^ k := by rw [Nat.div_add_mod]
    rw [Nat.add_mul] at e3
    have e4 : m / 10 * (10 ^ k * 10) = 10 * (m / 10) * 10 ^ k := by rw [Nat.mul_comm (10 ^ k), ← Nat.mul_assoc, Nat.mul_comm (m / 10)]
    omega
theorem mkS_isEmpty (l : List Nat) : (mkS l).toList.isEmpty = l.isEmpty := by
  rw [bl_toList, mkS_bl]
  cases l <;> rfl
def natOf : Value → Nat
  | .int _ n => n.toNat
  | _ => 0
set_option maxHeartbeats 1000000 in
theorem rsmall_any (n : Nat) (w : World) (hn : n < 10000000000000) :
    Calls Tryd.prog 40 #[.int .i64 n] w fun e w' => (∃ l, e = .returned (.string (mkS l)) ∧ Dgs l ∧ l.length ≤ 13 ∧ val l = n) ∧ w' = w := by
  go_enter Tryd.func40, Tryd.ntmps40
  go_wp2
  go_loop [0, 4] (fun x s => ∃ (k m : Nat) (l : List Nat), m ≤ n ∧ x = .int .i64 m ∧ s = .string (mkS l) ∧ Hid (SmI n k m l)) (fun x s => natOf x + (if lenS s = 0 then 1 else 0))
  case atStart => exact ⟨0, n, [], Nat.le_refl _, rfl, rfl, ⟨rfl, fun x hx => by simp at hx, by omega, by simp [val]⟩⟩
  case round =>
    obtain ⟨k, m, l, hm, rfl, rfl, hI⟩ := hrel
    have hk13 : k ≤ 13 := hI.out.le
    have hsz : (mkS l).size = k := by rw [mkS_size]; exact hI.out.len
    have hemp := mkS_isEmpty l
    by_cases hgo : k = 0 ∨ 0 < m
    · have hst := hide (hI.out.step hn hgo)
      obtain ⟨r, hr⟩ : ∃ r, m % 10 = r := ⟨_, rfl⟩
      have hr9 : r ≤ 9 := by omega
      have t1 : (m : Int).tdiv 10 = ((m / 10 : Nat) : Int) := by rw [Int.tdiv_eq_ediv_of_nonneg (by omega)]; omega
      have t2 : (m : Int).tmod 10 = (r : Int) := by rw [Int.tmod_eq_emod_of_nonneg (by omega)]; omega
      have hp := hide (dig_piece r hr9)
      rw [hr] at hst
      have hmeas := hide (show m / 10 < m + (if k = 0 then 1 else 0) by
        rcases hgo with rfl | h
        · simp; omega
        · split <;> omega)
      have hdiv := hide (show m / 10 ≤ n by omega)
      have hes := hide (show (⟨#[48, 49, 50, 51, 52, 53, 54, 55, 56, 57]⟩ : ByteArray).extract r (r + 1) ++ mkS l = mkS (r :: l) by rw [hp.out, mkS_app]; rfl)
      have hfin : Hid ((∃ (k' m' : Nat) (l' : List Nat), m' ≤ n ∧ Value.int IntKind.i64 ((m : Int) / 10) = .int .i64 m' ∧ Value.string ((⟨#[48, 49, 50, 51, 52, 53, 54, 55, 56, 57]⟩ : ByteArray).extract r (r + 1) ++ mkS l) = .string (mkS l') ∧ Hid (SmI n k' m' l')) ∧
          (natOf (Value.int IntKind.i64 ((m : Int) / 10)) + if lenS (Value.string ((⟨#[48, 49, 50, 51, 52, 53, 54, 55, 56, 57]⟩ : ByteArray).extract r (r + 1) ++ mkS l)) = 0 then 1 else 0) < natOf (Value.int IntKind.i64 (m : Int)) + if lenS (Value.string (mkS l)) = 0 then 1 else 0) := by
        refine ⟨⟨k + 1, m / 10, r :: l, hdiv.out, rfl, congrArg Value.string hes.out, hst.out⟩, ?_⟩
        rw [hes.out]
        have e1 : lenS (Value.string (mkS (r :: l))) = k + 1 := by show (mkS _).size = _; rw [mkS_size]; simp [hI.out.len]
        have e2 : lenS (Value.string (mkS l)) = k := hsz
        have e3 : natOf (Value.int IntKind.i64 ((m : Int) / 10)) = m / 10 := by show ((m : Int) / 10).toNat = _; omega
        have e4 : natOf (Value.int IntKind.i64 (m : Int)) = m := by show ((m : Int)).toNat = _; omega
        rw [e1, e2, e3, e4, if_neg (by omega)]
        exact hmeas.out
      by_cases hk0 : k = 0
      · have hl0 : l = [] := by
          have := hI.out.len
          rw [hk0] at this
          exact List.length_eq_zero_iff.1 this
        subst hl0
        simp only [List.isEmpty_nil] at hemp
        clear hr hgo
        go_wp2
        exact hfin.out
      · have hm0 : 0 < m := by omega
        have hm0' : (0 : Int) < m := by omega
        have hne : l.isEmpty = false := by
          cases l with
          | nil => have := hI.out.len; simp at this; omega
          | cons => rfl
        rw [hne] at hemp
        clear hr hgo hne
        go_wp2
        exact hfin.out
    · have hm0 : m = 0 := by omega
      subst hm0
      have hne : l.isEmpty = false := by
        cases l with
        | nil => have := hI.out.len; simp at this; omega
        | cons => rfl
      rw [hne] at hemp
      have hv := hide (show val l = n by have := hI.out.eq; omega)
      have hD := hide hI.out.dgs
      have hL := hide (show l.length ≤ 13 by rw [hI.out.len]; exact hk13)
      clear hne
      go_wp2
      go_ret
      refine ⟨⟨l, ?_, hD.out, hL.out, hv.out⟩, rfl⟩
      exact congrArg (fun s => Ending.returned (Value.string s)) (mkS_app [] l)
end Go.Proofs.YtjpdlibncmldlaaDoor
