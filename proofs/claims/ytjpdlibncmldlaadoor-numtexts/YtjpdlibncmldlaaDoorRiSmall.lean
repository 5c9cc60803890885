/- calamusref01's Small: it writes the numeral. -/
import Derived.Test.YtjpdlibncmldlaaDoorRaSmall
import Derived.Test.YtjpdlibncmldlaaDoorRhPrint
namespace Go.Proofs.YtjpdlibncmldlaaDoor
open Go.RowKit
set_option linter.unusedSimpArgs false
set_option linter.unusedVariables false
/-- Digits as bytes. -/
def dby (l : List Nat) : List UInt8 := l.map fun v => UInt8.ofNat (v + 48)
theorem mkS_dby (l : List Nat) : mkS l = mkB (dby l) := by
  rw [← mkB_bl (mkS l), mkS_bl]; rfl
structure SmJ (n k m : Nat) (l : List Nat) : Prop where
  base : SmI n k m l
  dec : Lib.decDigits n = (if k = 0 ∨ 0 < m then Lib.decDigits m else []) ++ dby l
theorem SmJ.len {n k m : Nat} {l : List Nat} (h : SmJ n k m l) : l.length = k := h.base.len
theorem SmJ.dgs {n k m : Nat} {l : List Nat} (h : SmJ n k m l) : Dgs l := h.base.dgs
theorem SmJ.le {n k m : Nat} {l : List Nat} (h : SmJ n k m l) : k ≤ 13 := h.base.le
theorem SmJ.start (n : Nat) : SmJ n 0 n [] := ⟨⟨rfl, fun x hx => by simp at hx, by omega, by simp [val]⟩, by simp [dby]⟩
theorem SmJ.step {n k m : Nat} {l : List Nat} (h : SmJ n k m l) (hn : n < 10000000000000) (hk : k = 0 ∨ 0 < m) : SmJ n (k + 1) (m / 10) (m % 10 :: l) := by
  refine ⟨h.base.step hn hk, ?_⟩
  rw [h.dec, if_pos hk, Lib.decDigits]
  have e : dby (m % 10 :: l) = UInt8.ofNat (48 + m % 10) :: dby l := by rw [Nat.add_comm]; rfl
  rw [e]
  split
  · rename_i q
    rw [if_neg (by omega), Nat.mod_eq_of_lt q]
    simp
  · rename_i q
    rw [if_pos (by omega)]
    simp
set_option maxHeartbeats 1000000 in
theorem rsmall_dec (n : Nat) (w : World) (hn : n < 10000000000000) :
    Calls Tryd.prog 40 #[.int .i64 n] w fun e w' => e = .returned (.string (mkB (Lib.decDigits n))) ∧ w' = w := by
  go_enter Tryd.func40, Tryd.ntmps40
  go_wp2
  go_loop [0, 4] (fun x s => ∃ (k m : Nat) (l : List Nat), m ≤ n ∧ x = .int .i64 m ∧ s = .string (mkS l) ∧ Hid (SmJ n k m l)) (fun x s => natOf x + (if lenS s = 0 then 1 else 0))
  case atStart => exact ⟨0, n, [], Nat.le_refl _, rfl, rfl, SmJ.start n⟩
  case round =>
    obtain ⟨k, m, l, hm, rfl, rfl, hI⟩ := hrel
    have hk13 : k ≤ 13 := hI.out.le
    have hsz : (mkS l).size = k := by rw [mkS_size]; exact hI.out.len
    have hemp := mkS_isEmpty l
    by_cases hgo : k = 0 ∨ 0 < m
    · have hst := hide (hI.out.step hn hgo)
      obtain ⟨r, hr⟩ : ∃ r, m % 10 = r := ⟨_, rfl⟩
      have hr9 : r ≤ 9 := by omega
      have t1 : (m : Int).tdiv 10 = ((m / 10 : Nat) : Int) := by rw [Int.tdiv_eq_ediv_of_nonneg (by omega)]; omega
      have t2 : (m : Int).tmod 10 = (r : Int) := by rw [Int.tmod_eq_emod_of_nonneg (by omega)]; omega
      have hp := hide (dig_piece r hr9)
      rw [hr] at hst
      have hmeas := hide (show m / 10 < m + (if k = 0 then 1 else 0) by
        rcases hgo with rfl | h
        · simp; omega
        · split <;> omega)
      have hdiv := hide (show m / 10 ≤ n by omega)
      have hes := hide (show (⟨#[48, 49, 50, 51, 52, 53, 54, 55, 56, 57]⟩ : ByteArray).extract r (r + 1) ++ mkS l = mkS (r :: l) by rw [hp.out, mkS_app]; rfl)
      have hfin : Hid ((∃ (k' m' : Nat) (l' : List Nat), m' ≤ n ∧ Value.int IntKind.i64 ((m : Int) / 10) = .int .i64 m' ∧ Value.string ((⟨#[48, 49, 50, 51, 52, 53, 54, 55, 56, 57]⟩ : ByteArray).extract r (r + 1) ++ mkS l) = .string (mkS l') ∧ Hid (SmJ n k' m' l')) ∧
          (natOf (Value.int IntKind.i64 ((m : Int) / 10)) + if lenS (Value.string ((⟨#[48, 49, 50, 51, 52, 53, 54, 55, 56, 57]⟩ : ByteArray).extract r (r + 1) ++ mkS l)) = 0 then 1 else 0) < natOf (Value.int IntKind.i64 (m : Int)) + if lenS (Value.string (mkS l)) = 0 then 1 else 0) := by
        refine ⟨⟨k + 1, m / 10, r :: l, hdiv.out, rfl, congrArg Value.string hes.out, hst.out⟩, ?_⟩
        rw [hes.out]
        have e1 : lenS (Value.string (mkS (r :: l))) = k + 1 := by show (mkS _).size = _; rw [mkS_size]; simp [hI.out.len]
        have e2 : lenS (Value.string (mkS l)) = k := hsz
        have e3 : natOf (Value.int IntKind.i64 ((m : Int) / 10)) = m / 10 := by show ((m : Int) / 10).toNat = _; omega
        have e4 : natOf (Value.int IntKind.i64 (m : Int)) = m := by show ((m : Int)).toNat = _; omega
        rw [e1, e2, e3, e4, if_neg (by omega)]
        exact hmeas.out
      by_cases hk0 : k = 0
      · have hl0 : l = [] := by
          have := hI.out.len
          rw [hk0] at this
          exact List.length_eq_zero_iff.1 this
        subst hl0
        simp only [List.isEmpty_nil] at hemp
        clear hr hgo
        go_wp2
        exact hfin.out
      · have hm0 : 0 < m := by omega
        have hm0' : (0 : Int) < m := by omega
        have hne : l.isEmpty = false := by
          cases l with
          | nil => have := hI.out.len; simp at this; omega
          | cons => rfl
        rw [hne] at hemp
        clear hr hgo hne
        go_wp2
        exact hfin.out
    · have hm0 : m = 0 := by omega
      subst hm0
      have hne : l.isEmpty = false := by
        cases l with
        | nil => have := hI.out.len; simp at this; omega
        | cons => rfl
      rw [hne] at hemp
      have hdec := hide (show mkS l = mkB (Lib.decDigits n) by rw [hI.out.dec, if_neg hgo, mkS_dby]; rfl)
      clear hne hgo
      go_wp2
      go_ret
      refine ⟨?_, rfl⟩
      exact congrArg (fun s => Ending.returned (Value.string s)) ((mkS_app [] l).trans hdec.out)
set_option maxHeartbeats 1000000 in
theorem rsmall_neg (n : Nat) (w : World) (h0 : 0 < n) (hn : n < 10000000000000) :
    Calls Tryd.prog 40 #[.int .i64 (-(n : Int))] w fun e w' => e = .returned (.string (mkB (45 :: Lib.decDigits n))) ∧ w' = w := by
  have h0' : (0 : Int) < (n : Int) := by omega
  go_enter Tryd.func40, Tryd.ntmps40
  go_wp2
  go_loop [0, 4] (fun x s => ∃ (k m : Nat) (l : List Nat), m ≤ n ∧ x = .int .i64 m ∧ s = .string (mkS l) ∧ Hid (SmJ n k m l)) (fun x s => natOf x + (if lenS s = 0 then 1 else 0))
  case atStart => exact ⟨0, n, [], Nat.le_refl _, rfl, rfl, SmJ.start n⟩
  case round =>
    obtain ⟨k, m, l, hm, rfl, rfl, hI⟩ := hrel
    have hk13 : k ≤ 13 := hI.out.le
    have hsz : (mkS l).size = k := by rw [mkS_size]; exact hI.out.len
    have hemp := mkS_isEmpty l
    by_cases hgo : k = 0 ∨ 0 < m
    · have hst := hide (hI.out.step hn hgo)
      obtain ⟨r, hr⟩ : ∃ r, m % 10 = r := ⟨_, rfl⟩
      have hr9 : r ≤ 9 := by omega
      have t1 : (m : Int).tdiv 10 = ((m / 10 : Nat) : Int) := by rw [Int.tdiv_eq_ediv_of_nonneg (by omega)]; omega
      have t2 : (m : Int).tmod 10 = (r : Int) := by rw [Int.tmod_eq_emod_of_nonneg (by omega)]; omega
      have hp := hide (dig_piece r hr9)
      rw [hr] at hst
      have hmeas := hide (show m / 10 < m + (if k = 0 then 1 else 0) by
        rcases hgo with rfl | h
        · simp; omega
        · split <;> omega)
      have hdiv := hide (show m / 10 ≤ n by omega)
      have hes := hide (show (⟨#[48, 49, 50, 51, 52, 53, 54, 55, 56, 57]⟩ : ByteArray).extract r (r + 1) ++ mkS l = mkS (r :: l) by rw [hp.out, mkS_app]; rfl)
      have hfin : Hid ((∃ (k' m' : Nat) (l' : List Nat), m' ≤ n ∧ Value.int IntKind.i64 ((m : Int) / 10) = .int .i64 m' ∧ Value.string ((⟨#[48, 49, 50, 51, 52, 53, 54, 55, 56, 57]⟩ : ByteArray).extract r (r + 1) ++ mkS l) = .string (mkS l') ∧ Hid (SmJ n k' m' l')) ∧
          (natOf (Value.int IntKind.i64 ((m : Int) / 10)) + if lenS (Value.string ((⟨#[48, 49, 50, 51, 52, 53, 54, 55, 56, 57]⟩ : ByteArray).extract r (r + 1) ++ mkS l)) = 0 then 1 else 0) < natOf (Value.int IntKind.i64 (m : Int)) + if lenS (Value.string (mkS l)) = 0 then 1 else 0) := by
        refine ⟨⟨k + 1, m / 10, r :: l, hdiv.out, rfl, congrArg Value.string hes.out, hst.out⟩, ?_⟩
        rw [hes.out]
        have e1 : lenS (Value.string (mkS (r :: l))) = k + 1 := by show (mkS _).size = _; rw [mkS_size]; simp [hI.out.len]
        have e2 : lenS (Value.string (mkS l)) = k := hsz
        have e3 : natOf (Value.int IntKind.i64 ((m : Int) / 10)) = m / 10 := by show ((m : Int) / 10).toNat = _; omega
        have e4 : natOf (Value.int IntKind.i64 (m : Int)) = m := by show ((m : Int)).toNat = _; omega
        rw [e1, e2, e3, e4, if_neg (by omega)]
        exact hmeas.out
      by_cases hk0 : k = 0
      · have hl0 : l = [] := by
          have := hI.out.len
          rw [hk0] at this
          exact List.length_eq_zero_iff.1 this
        subst hl0
        simp only [List.isEmpty_nil] at hemp
        clear hr hgo
        go_wp2
        exact hfin.out
      · have hm0 : 0 < m := by omega
        have hm0' : (0 : Int) < m := by omega
        have hne : l.isEmpty = false := by
          cases l with
          | nil => have := hI.out.len; simp at this; omega
          | cons => rfl
        rw [hne] at hemp
        clear hr hgo hne
        go_wp2
        exact hfin.out
    · have hm0 : m = 0 := by omega
      subst hm0
      have hne : l.isEmpty = false := by
        cases l with
        | nil => have := hI.out.len; simp at this; omega
        | cons => rfl
      rw [hne] at hemp
      have hdec := hide (show mkS l = mkB (Lib.decDigits n) by rw [hI.out.dec, if_neg hgo, mkS_dby]; rfl)
      clear hne hgo
      go_wp2
      go_ret
      refine ⟨?_, rfl⟩
      refine congrArg (fun s => Ending.returned (Value.string s)) ?_
      rw [hdec.out]
      exact mkB_app [45] _
/-- Small writes the numeral. -/
theorem rsmall_itoa (n : Int) (w : World) (h0 : -10000 ≤ n) (h1 : n ≤ 10000) :
    Calls Tryd.prog 40 #[.int .i64 n] w fun e w' => e = .returned (.string (mkB (Lib.itoa n))) ∧ w' = w := by
  by_cases h : n < 0
  · obtain ⟨u, rfl⟩ : ∃ u : Nat, n = -(u : Int) := ⟨n.natAbs, by omega⟩
    rw [Lib.itoa_neg u (by omega)]
    exact rsmall_neg u w (by omega) (by omega)
  · obtain ⟨u, rfl⟩ : ∃ u : Nat, n = u := ⟨n.toNat, by omega⟩
    rw [Lib.itoa_nonneg u]
    exact rsmall_dec u w (by omega)
end Go.Proofs.YtjpdlibncmldlaaDoor
