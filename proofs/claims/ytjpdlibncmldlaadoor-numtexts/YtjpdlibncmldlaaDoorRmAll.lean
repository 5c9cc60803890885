/- Merged by program: RaSmall, RiSmall, RjPrint, RkPrint, RlTexts, RmTexts. -/
import Derived.Test.YtjpdlibncmldlaaDoorQfMade
import Derived.Test.YtjpdlibncmldlaaDoorRhPrint
import Derived.Test.YtjpdlibncmldlaaDoorQrAll
import Derived.Test.YtjpdlibncmldlaaDoorOjAdds
import Derived.Test.YtjpdlibncmldlaaDoorOiAwake
import Derived.Deep.RegionHeld3
/- calamusref01's Small: walked. -/
namespace Go.Proofs.YtjpdlibncmldlaaDoor
open Go.RowKit
set_option linter.unusedSimpArgs false
set_option linter.unusedVariables false
/-- What Small knows behind k digits. -/
structure SmI (n k m : Nat) (l : List Nat) : Prop where
  len : l.length = k
  dgs : Dgs l
  le : k ≤ 13
  eq : n = m * 10 ^ k + val l
theorem SmI.step {n k m : Nat} {l : List Nat} (h : SmI n k m l) (hn : n < 10000000000000) (hk : k = 0 ∨ 0 < m) : SmI n (k + 1) (m / 10) (m % 10 :: l) := by
  refine ⟨by simp [h.len], h.dgs.put (by omega), ?_, ?_⟩
  · rcases hk with rfl | hm
    · omega
    · have h1 : 10 ^ k ≤ m * 10 ^ k := Nat.le_mul_of_pos_left _ hm
      have h2 := h.eq
      have h3 : 10 ^ k < 10 ^ 13 := by
        have : (10 : Nat) ^ 13 = 10000000000000 := rfl
        omega
      have := (Nat.pow_lt_pow_iff_right (by decide : 1 < 10)).1 h3
      omega
  · have h2 := h.eq
    show n = m / 10 * 10 ^ (k + 1) + (m % 10 * 10 ^ l.length + val l)
    rw [h.len, Nat.pow_succ]
    have e3 : (10 * (m / 10) + m % 10) * 10 ^ k = m * 10 ^ k := by rw [Nat.div_add_mod]
    rw [Nat.add_mul] at e3
    have e4 : m / 10 * (10 ^ k * 10) = 10 * (m / 10) * 10 ^ k := by rw [Nat.mul_comm (10 ^ k), ← Nat.mul_assoc, Nat.mul_comm (m / 10)]
    omega
theorem mkS_isEmpty (l : List Nat) : (mkS l).toList.isEmpty = l.isEmpty := by
  rw [bl_toList, mkS_bl]
  cases l <;> rfl
def natOf : Value → Nat
  | .int _ n => n.toNat
  | _ => 0
set_option maxHeartbeats 1000000 in
theorem rsmall_any (n : Nat) (w : World) (hn : n < 10000000000000) :
    Calls Tryd.prog 40 #[.int .i64 n] w fun e w' => (∃ l, e = .returned (.string (mkS l)) ∧ Dgs l ∧ l.length ≤ 13 ∧ val l = n) ∧ w' = w := by
  go_enter Tryd.func40, Tryd.ntmps40
  go_wp2
  go_loop [0, 4] (fun x s => ∃ (k m : Nat) (l : List Nat), m ≤ n ∧ x = .int .i64 m ∧ s = .string (mkS l) ∧ Hid (SmI n k m l)) (fun x s => natOf x + (if lenS s = 0 then 1 else 0))
  case atStart => exact ⟨0, n, [], Nat.le_refl _, rfl, rfl, ⟨rfl, fun x hx => by simp at hx, by omega, by simp [val]⟩⟩
  case round =>
    obtain ⟨k, m, l, hm, rfl, rfl, hI⟩ := hrel
    have hk13 : k ≤ 13 := hI.out.le
    have hsz : (mkS l).size = k := by rw [mkS_size]; exact hI.out.len
    have hemp := mkS_isEmpty l
    by_cases hgo : k = 0 ∨ 0 < m
    · have hst := hide (hI.out.step hn hgo)
      obtain ⟨r, hr⟩ : ∃ r, m % 10 = r := ⟨_, rfl⟩
      have hr9 : r ≤ 9 := by omega
      have t1 : (m : Int).tdiv 10 = ((m / 10 : Nat) : Int) := by rw [Int.tdiv_eq_ediv_of_nonneg (by omega)]; omega
      have t2 : (m : Int).tmod 10 = (r : Int) := by rw [Int.tmod_eq_emod_of_nonneg (by omega)]; omega
      have hp := hide (dig_piece r hr9)
      rw [hr] at hst
      have hmeas := hide (show m / 10 < m + (if k = 0 then 1 else 0) by
        rcases hgo with rfl | h
        · simp; omega
        · split <;> omega)
      have hdiv := hide (show m / 10 ≤ n by omega)
      have hes := hide (show (⟨#[48, 49, 50, 51, 52, 53, 54, 55, 56, 57]⟩ : ByteArray).extract r (r + 1) ++ mkS l = mkS (r :: l) by rw [hp.out, mkS_app]; rfl)
      have hfin : Hid ((∃ (k' m' : Nat) (l' : List Nat), m' ≤ n ∧ Value.int IntKind.i64 ((m : Int) / 10) = .int .i64 m' ∧ Value.string ((⟨#[48, 49, 50, 51, 52, 53, 54, 55, 56, 57]⟩ : ByteArray).extract r (r + 1) ++ mkS l) = .string (mkS l') ∧ Hid (SmI n k' m' l')) ∧
          (natOf (Value.int IntKind.i64 ((m : Int) / 10)) + if lenS (Value.string ((⟨#[48, 49, 50, 51, 52, 53, 54, 55, 56, 57]⟩ : ByteArray).extract r (r + 1) ++ mkS l)) = 0 then 1 else 0) < natOf (Value.int IntKind.i64 (m : Int)) + if lenS (Value.string (mkS l)) = 0 then 1 else 0) := by
        refine ⟨⟨k + 1, m / 10, r :: l, hdiv.out, rfl, congrArg Value.string hes.out, hst.out⟩, ?_⟩
        rw [hes.out]
        have e1 : lenS (Value.string (mkS (r :: l))) = k + 1 := by show (mkS _).size = _; rw [mkS_size]; simp [hI.out.len]
        have e2 : lenS (Value.string (mkS l)) = k := hsz
        have e3 : natOf (Value.int IntKind.i64 ((m : Int) / 10)) = m / 10 := by show ((m : Int) / 10).toNat = _; omega
        have e4 : natOf (Value.int IntKind.i64 (m : Int)) = m := by show ((m : Int)).toNat = _; omega
        rw [e1, e2, e3, e4, if_neg (by omega)]
        exact hmeas.out
      by_cases hk0 : k = 0
      · have hl0 : l = [] := by
          have := hI.out.len
          rw [hk0] at this
          exact List.length_eq_zero_iff.1 this
        subst hl0
        simp only [List.isEmpty_nil] at hemp
        clear hr hgo
        go_wp2
        exact hfin.out
      · have hm0 : 0 < m := by omega
        have hm0' : (0 : Int) < m := by omega
        have hne : l.isEmpty = false := by
          cases l with
          | nil => have := hI.out.len; simp at this; omega
          | cons => rfl
        rw [hne] at hemp
        clear hr hgo hne
        go_wp2
        exact hfin.out
    · have hm0 : m = 0 := by omega
      subst hm0
      have hne : l.isEmpty = false := by
        cases l with
        | nil => have := hI.out.len; simp at this; omega
        | cons => rfl
      rw [hne] at hemp
      have hv := hide (show val l = n by have := hI.out.eq; omega)
      have hD := hide hI.out.dgs
      have hL := hide (show l.length ≤ 13 by rw [hI.out.len]; exact hk13)
      clear hne
      go_wp2
      go_ret
      refine ⟨⟨l, ?_, hD.out, hL.out, hv.out⟩, rfl⟩
      exact congrArg (fun s => Ending.returned (Value.string s)) (mkS_app [] l)
end Go.Proofs.YtjpdlibncmldlaaDoor
/- calamusref01's Small: it writes the numeral. -/
namespace Go.Proofs.YtjpdlibncmldlaaDoor
open Go.RowKit
set_option linter.unusedSimpArgs false
set_option linter.unusedVariables false
/-- Digits as bytes. -/
def dby (l : List Nat) : List UInt8 := l.map fun v => UInt8.ofNat (v + 48)
theorem mkS_dby (l : List Nat) : mkS l = mkB (dby l) := by
  rw [← mkB_bl (mkS l), mkS_bl]; rfl
structure SmJ (n k m : Nat) (l : List Nat) : Prop where
  base : SmI n k m l
  dec : Lib.decDigits n = (if k = 0 ∨ 0 < m then Lib.decDigits m else []) ++ dby l
theorem SmJ.len {n k m : Nat} {l : List Nat} (h : SmJ n k m l) : l.length = k := h.base.len
theorem SmJ.dgs {n k m : Nat} {l : List Nat} (h : SmJ n k m l) : Dgs l := h.base.dgs
theorem SmJ.le {n k m : Nat} {l : List Nat} (h : SmJ n k m l) : k ≤ 13 := h.base.le
theorem SmJ.start (n : Nat) : SmJ n 0 n [] := ⟨⟨rfl, fun x hx => by simp at hx, by omega, by simp [val]⟩, by simp [dby]⟩
theorem SmJ.step {n k m : Nat} {l : List Nat} (h : SmJ n k m l) (hn : n < 10000000000000) (hk : k = 0 ∨ 0 < m) : SmJ n (k + 1) (m / 10) (m % 10 :: l) := by
  refine ⟨h.base.step hn hk, ?_⟩
  rw [h.dec, if_pos hk, Lib.decDigits]
  have e : dby (m % 10 :: l) = UInt8.ofNat (48 + m % 10) :: dby l := by rw [Nat.add_comm]; rfl
  rw [e]
  split
  · rename_i q
    rw [if_neg (by omega), Nat.mod_eq_of_lt q]
    simp
  · rename_i q
    rw [if_pos (by omega)]
    simp
set_option maxHeartbeats 1000000 in
theorem rsmall_dec (n : Nat) (w : World) (hn : n < 10000000000000) :
    Calls Tryd.prog 40 #[.int .i64 n] w fun e w' => e = .returned (.string (mkB (Lib.decDigits n))) ∧ w' = w := by
  go_enter Tryd.func40, Tryd.ntmps40
  go_wp2
  go_loop [0, 4] (fun x s => ∃ (k m : Nat) (l : List Nat), m ≤ n ∧ x = .int .i64 m ∧ s = .string (mkS l) ∧ Hid (SmJ n k m l)) (fun x s => natOf x + (if lenS s = 0 then 1 else 0))
  case atStart => exact ⟨0, n, [], Nat.le_refl _, rfl, rfl, SmJ.start n⟩
  case round =>
    obtain ⟨k, m, l, hm, rfl, rfl, hI⟩ := hrel
    have hk13 : k ≤ 13 := hI.out.le
    have hsz : (mkS l).size = k := by rw [mkS_size]; exact hI.out.len
    have hemp := mkS_isEmpty l
    by_cases hgo : k = 0 ∨ 0 < m
    · have hst := hide (hI.out.step hn hgo)
      obtain ⟨r, hr⟩ : ∃ r, m % 10 = r := ⟨_, rfl⟩
      have hr9 : r ≤ 9 := by omega
      have t1 : (m : Int).tdiv 10 = ((m / 10 : Nat) : Int) := by rw [Int.tdiv_eq_ediv_of_nonneg (by omega)]; omega
      have t2 : (m : Int).tmod 10 = (r : Int) := by rw [Int.tmod_eq_emod_of_nonneg (by omega)]; omega
      have hp := hide (dig_piece r hr9)
      rw [hr] at hst
      have hmeas := hide (show m / 10 < m + (if k = 0 then 1 else 0) by
        rcases hgo with rfl | h
        · simp; omega
        · split <;> omega)
      have hdiv := hide (show m / 10 ≤ n by omega)
      have hes := hide (show (⟨#[48, 49, 50, 51, 52, 53, 54, 55, 56, 57]⟩ : ByteArray).extract r (r + 1) ++ mkS l = mkS (r :: l) by rw [hp.out, mkS_app]; rfl)
      have hfin : Hid ((∃ (k' m' : Nat) (l' : List Nat), m' ≤ n ∧ Value.int IntKind.i64 ((m : Int) / 10) = .int .i64 m' ∧ Value.string ((⟨#[48, 49, 50, 51, 52, 53, 54, 55, 56, 57]⟩ : ByteArray).extract r (r + 1) ++ mkS l) = .string (mkS l') ∧ Hid (SmJ n k' m' l')) ∧
          (natOf (Value.int IntKind.i64 ((m : Int) / 10)) + if lenS (Value.string ((⟨#[48, 49, 50, 51, 52, 53, 54, 55, 56, 57]⟩ : ByteArray).extract r (r + 1) ++ mkS l)) = 0 then 1 else 0) < natOf (Value.int IntKind.i64 (m : Int)) + if lenS (Value.string (mkS l)) = 0 then 1 else 0) := by
        refine ⟨⟨k + 1, m / 10, r :: l, hdiv.out, rfl, congrArg Value.string hes.out, hst.out⟩, ?_⟩
        rw [hes.out]
        have e1 : lenS (Value.string (mkS (r :: l))) = k + 1 := by show (mkS _).size = _; rw [mkS_size]; simp [hI.out.len]
        have e2 : lenS (Value.string (mkS l)) = k := hsz
        have e3 : natOf (Value.int IntKind.i64 ((m : Int) / 10)) = m / 10 := by show ((m : Int) / 10).toNat = _; omega
        have e4 : natOf (Value.int IntKind.i64 (m : Int)) = m := by show ((m : Int)).toNat = _; omega
        rw [e1, e2, e3, e4, if_neg (by omega)]
        exact hmeas.out
      by_cases hk0 : k = 0
      · have hl0 : l = [] := by
          have := hI.out.len
          rw [hk0] at this
          exact List.length_eq_zero_iff.1 this
        subst hl0
        simp only [List.isEmpty_nil] at hemp
        clear hr hgo
        go_wp2
        exact hfin.out
      · have hm0 : 0 < m := by omega
        have hm0' : (0 : Int) < m := by omega
        have hne : l.isEmpty = false := by
          cases l with
          | nil => have := hI.out.len; simp at this; omega
          | cons => rfl
        rw [hne] at hemp
        clear hr hgo hne
        go_wp2
        exact hfin.out
    · have hm0 : m = 0 := by omega
      subst hm0
      have hne : l.isEmpty = false := by
        cases l with
        | nil => have := hI.out.len; simp at this; omega
        | cons => rfl
      rw [hne] at hemp
      have hdec := hide (show mkS l = mkB (Lib.decDigits n) by rw [hI.out.dec, if_neg hgo, mkS_dby]; rfl)
      clear hne hgo
      go_wp2
      go_ret
      refine ⟨?_, rfl⟩
      exact congrArg (fun s => Ending.returned (Value.string s)) ((mkS_app [] l).trans hdec.out)
set_option maxHeartbeats 1000000 in
theorem rsmall_neg (n : Nat) (w : World) (h0 : 0 < n) (hn : n < 10000000000000) :
    Calls Tryd.prog 40 #[.int .i64 (-(n : Int))] w fun e w' => e = .returned (.string (mkB (45 :: Lib.decDigits n))) ∧ w' = w := by
  have h0' : (0 : Int) < (n : Int) := by omega
  go_enter Tryd.func40, Tryd.ntmps40
  go_wp2
  go_loop [0, 4] (fun x s => ∃ (k m : Nat) (l : List Nat), m ≤ n ∧ x = .int .i64 m ∧ s = .string (mkS l) ∧ Hid (SmJ n k m l)) (fun x s => natOf x + (if lenS s = 0 then 1 else 0))
  case atStart => exact ⟨0, n, [], Nat.le_refl _, rfl, rfl, SmJ.start n⟩
  case round =>
    obtain ⟨k, m, l, hm, rfl, rfl, hI⟩ := hrel
    have hk13 : k ≤ 13 := hI.out.le
    have hsz : (mkS l).size = k := by rw [mkS_size]; exact hI.out.len
    have hemp := mkS_isEmpty l
    by_cases hgo : k = 0 ∨ 0 < m
    · have hst := hide (hI.out.step hn hgo)
      obtain ⟨r, hr⟩ : ∃ r, m % 10 = r := ⟨_, rfl⟩
      have hr9 : r ≤ 9 := by omega
      have t1 : (m : Int).tdiv 10 = ((m / 10 : Nat) : Int) := by rw [Int.tdiv_eq_ediv_of_nonneg (by omega)]; omega
      have t2 : (m : Int).tmod 10 = (r : Int) := by rw [Int.tmod_eq_emod_of_nonneg (by omega)]; omega
      have hp := hide (dig_piece r hr9)
      rw [hr] at hst
      have hmeas := hide (show m / 10 < m + (if k = 0 then 1 else 0) by
        rcases hgo with rfl | h
        · simp; omega
        · split <;> omega)
      have hdiv := hide (show m / 10 ≤ n by omega)
      have hes := hide (show (⟨#[48, 49, 50, 51, 52, 53, 54, 55, 56, 57]⟩ : ByteArray).extract r (r + 1) ++ mkS l = mkS (r :: l) by rw [hp.out, mkS_app]; rfl)
      have hfin : Hid ((∃ (k' m' : Nat) (l' : List Nat), m' ≤ n ∧ Value.int IntKind.i64 ((m : Int) / 10) = .int .i64 m' ∧ Value.string ((⟨#[48, 49, 50, 51, 52, 53, 54, 55, 56, 57]⟩ : ByteArray).extract r (r + 1) ++ mkS l) = .string (mkS l') ∧ Hid (SmJ n k' m' l')) ∧
          (natOf (Value.int IntKind.i64 ((m : Int) / 10)) + if lenS (Value.string ((⟨#[48, 49, 50, 51, 52, 53, 54, 55, 56, 57]⟩ : ByteArray).extract r (r + 1) ++ mkS l)) = 0 then 1 else 0) < natOf (Value.int IntKind.i64 (m : Int)) + if lenS (Value.string (mkS l)) = 0 then 1 else 0) := by
        refine ⟨⟨k + 1, m / 10, r :: l, hdiv.out, rfl, congrArg Value.string hes.out, hst.out⟩, ?_⟩
        rw [hes.out]
        have e1 : lenS (Value.string (mkS (r :: l))) = k + 1 := by show (mkS _).size = _; rw [mkS_size]; simp [hI.out.len]
        have e2 : lenS (Value.string (mkS l)) = k := hsz
        have e3 : natOf (Value.int IntKind.i64 ((m : Int) / 10)) = m / 10 := by show ((m : Int) / 10).toNat = _; omega
        have e4 : natOf (Value.int IntKind.i64 (m : Int)) = m := by show ((m : Int)).toNat = _; omega
        rw [e1, e2, e3, e4, if_neg (by omega)]
        exact hmeas.out
      by_cases hk0 : k = 0
      · have hl0 : l = [] := by
          have := hI.out.len
          rw [hk0] at this
          exact List.length_eq_zero_iff.1 this
        subst hl0
        simp only [List.isEmpty_nil] at hemp
        clear hr hgo
        go_wp2
        exact hfin.out
      · have hm0 : 0 < m := by omega
        have hm0' : (0 : Int) < m := by omega
        have hne : l.isEmpty = false := by
          cases l with
          | nil => have := hI.out.len; simp at this; omega
          | cons => rfl
        rw [hne] at hemp
        clear hr hgo hne
        go_wp2
        exact hfin.out
    · have hm0 : m = 0 := by omega
      subst hm0
      have hne : l.isEmpty = false := by
        cases l with
        | nil => have := hI.out.len; simp at this; omega
        | cons => rfl
      rw [hne] at hemp
      have hdec := hide (show mkS l = mkB (Lib.decDigits n) by rw [hI.out.dec, if_neg hgo, mkS_dby]; rfl)
      clear hne hgo
      go_wp2
      go_ret
      refine ⟨?_, rfl⟩
      refine congrArg (fun s => Ending.returned (Value.string s)) ?_
      rw [hdec.out]
      exact mkB_app [45] _
/-- Small writes the numeral. -/
theorem rsmall_itoa (n : Int) (w : World) (h0 : -10000 ≤ n) (h1 : n ≤ 10000) :
    Calls Tryd.prog 40 #[.int .i64 n] w fun e w' => e = .returned (.string (mkB (Lib.itoa n))) ∧ w' = w := by
  by_cases h : n < 0
  · obtain ⟨u, rfl⟩ : ∃ u : Nat, n = -(u : Int) := ⟨n.natAbs, by omega⟩
    rw [Lib.itoa_neg u (by omega)]
    exact rsmall_neg u w (by omega) (by omega)
  · obtain ⟨u, rfl⟩ : ∃ u : Nat, n = u := ⟨n.toNat, by omega⟩
    rw [Lib.itoa_nonneg u]
    exact rsmall_dec u w (by omega)
end Go.Proofs.YtjpdlibncmldlaaDoor
/- calamusref01's Print: walked at every number. -/
namespace Go.Proofs.YtjpdlibncmldlaaDoor
open Go.RowKit
set_option linter.unusedSimpArgs false
set_option linter.unusedVariables false
theorem add_run (a b c : ByteArray) (hc : bl a ++ bl b = bl c) (h : c.size ≤ 100000) : ∀ w, (Op.stringOp .add a b).run Tryd.prog w = .ok (.string c) w := fun w => by
  have e : a ++ b = c := by
    rw [← mkB_bl a, ← mkB_bl b, mkB_app, hc, mkB_bl]
  have hs : a.size + b.size = c.size := by rw [← bl_length, ← bl_length, ← bl_length, ← hc, List.length_append]
  rw [← e]
  exact run_string_add_sum w _ _ (by omega)
set_option maxHeartbeats 1000000 in
theorem rprint_no (n : Bool) (s : ByteArray) (x : Int) (w : World) (hs : s.size ≤ 100000) (h : isN n s x = false) :
    Calls Tryd.prog 13 #[.agg #[.bool n, .string s, .int .i64 x]] w fun e w' => e = .returned (.tuple #[.string ⟨#[]⟩, .int .i64 10]) ∧ Below w.heap.size w w' := by
  have ml : maxLen = 2 ^ 63 - 1 := rfl
  have hB := hide (box_new w n s x)
  go_enter Tryd.func13, Tryd.ntmps13
  go_wp2_with fail
  refine (ris_any n s _ _ (by omega)).mono ?_
  rw [h]
  rintro e w1 ⟨rfl, hb1⟩
  have hb := hide (below_alloc hb1)
  clear hb1 hB
  go_wp2
  go_ret2
  exact ⟨rfl, hb.out⟩
set_option maxRecDepth 100000 in
set_option maxHeartbeats 1000000 in
theorem rprint_plain_false (s : ByteArray) (k : Nat) (hx21 : s.size + k ≤ 21) (w : World) (h : isN false s (k : Int) = true) :
    Calls Tryd.prog 13 #[.agg #[.bool false, .string s, .int .i64 (k : Int)]] w fun e w' => e = .returned (.tuple #[.string (mkB ([] ++ (bl s ++ List.replicate k 48))), .int .i64 0]) ∧ Below w.heap.size w w' := by
  have ml : maxLen = 2 ^ 63 - 1 := rfl
  obtain ⟨had, hl1, hl40, hx1, hx2, hdg⟩ := isN_all h
  clear had hdg
  have hB := hide (box_new w false s (k : Int))
  obtain ⟨R, hR⟩ : ∃ R, mkB ([] ++ (bl s ++ List.replicate k 48)) = R := ⟨_, rfl⟩
  rw [hR]
  have hg1 : decide ((s.size : Int) + (k : Int) ≤ 21) = true := decide_eq_true (by omega)
  obtain ⟨A1, hA1⟩ : ∃ A1, mkB ([] ++ bl s) = A1 := ⟨_, rfl⟩
  have hc1 := add_run ⟨#[]⟩ s A1 (by rw [← hA1, bl_mkB]; rfl) (by rw [← hA1, mkB_size, List.length_append, bl_length]; simp; omega)
  have hc2 := add_run A1 (mkS (List.replicate k 0)) R (by rw [← hA1, ← hR, bl_mkB, bl_mkB, mkS_dby, bl_mkB, dby, List.map_replicate, List.append_assoc]; rfl) (by rw [← hR, mkB_size]; simp [bl_length]; omega)
  clear hA1
  clear hR
  go_enter Tryd.func13, Tryd.ntmps13
  go_wp2_with fail
  refine (ris_any false s _ _ (by omega)).mono ?_
  rw [h]
  rintro e w1 ⟨rfl, hb1⟩
  have hB1 := hide (hB.out.below hb1 (by simp))
  have hlw := hB1.out.lt
  obtain ⟨c0, c1, c2, f0, f1, f2⟩ := hB1.out.cells
  have hb := hide (below_alloc hb1)
  clear hb1 hB
  go_wp2_with fail
  go_fit (zeros_any k _ (by omega))
  rintro e w2 ⟨rfl, rfl⟩
  go_wp2
  go_ret2
  exact ⟨rfl, hb.out⟩
set_option maxRecDepth 100000 in
set_option maxHeartbeats 1000000 in
theorem rprint_in_false (s : ByteArray) (bh j : Nat) (hj : s.size = bh + j) (h0 : 0 < bh) (hj0 : 0 < j) (hx21 : bh ≤ 21) (w : World) (h : isN false s (-(bh : Int)) = true) :
    Calls Tryd.prog 13 #[.agg #[.bool false, .string s, .int .i64 (-(bh : Int))]] w fun e w' => e = .returned (.tuple #[.string (mkB ([] ++ ((bl s).take j ++ 46 :: (bl s).drop j))), .int .i64 0]) ∧ Below w.heap.size w w' := by
  have ml : maxLen = 2 ^ 63 - 1 := rfl
  obtain ⟨had, hl1, hl40, hx1, hx2, hdg⟩ := isN_all h
  clear had hdg
  have hB := hide (box_new w false s (-(bh : Int)))
  obtain ⟨R, hR⟩ : ∃ R, mkB ([] ++ ((bl s).take j ++ 46 :: (bl s).drop j)) = R := ⟨_, rfl⟩
  rw [hR]
  have hg0 : decide ((0 : Int) ≤ -(bh : Int)) = false := decide_eq_false (by omega)
  have hsj := hide hj
  have hbn : (- -(bh : Int)) = (bh : Int) := by omega
  have hg1 : decide ((bh : Int) ≤ 21) = true := decide_eq_true (by omega)
  have hg2 : decide ((s.size : Int) ≤ (bh : Int)) = false := decide_eq_false (by omega)
  have hjs : (s.size : Int) + -(bh : Int) = (j : Int) := by omega
  have hjl : (j : Int) ≤ (s.size : Int) := by omega
  obtain ⟨A1, hA1⟩ : ∃ A1, mkB ([] ++ (bl s).take j) = A1 := ⟨_, rfl⟩
  obtain ⟨A2, hA2⟩ : ∃ A2, mkB ([] ++ (bl s).take j ++ [46]) = A2 := ⟨_, rfl⟩
  have hc1 := add_run ⟨#[]⟩ (s.extract 0 j) A1 (by rw [← hA1, bl_mkB, extract_mkB, bl_mkB]; simp; rfl) (by rw [← hA1, mkB_size]; simp [bl_length]; omega)
  have hc2 := add_run A1 ⟨#[46]⟩ A2 (by rw [← hA1, ← hA2, bl_mkB, bl_mkB]; rfl) (by rw [← hA2, mkB_size]; simp [bl_length]; omega)
  have hc3 := add_run A2 (s.extract j s.size) R (by rw [← hA2, ← hR, bl_mkB, bl_mkB, drop_mkB, bl_mkB]; simp) (by rw [← hR, mkB_size]; simp [bl_length]; omega)
  clear hA1 hA2
  clear hj
  clear hR
  go_enter Tryd.func13, Tryd.ntmps13
  go_wp2_with fail
  refine (ris_any false s _ _ (by omega)).mono ?_
  rw [h]
  rintro e w1 ⟨rfl, hb1⟩
  have hB1 := hide (hB.out.below hb1 (by simp))
  have hlw := hB1.out.lt
  obtain ⟨c0, c1, c2, f0, f1, f2⟩ := hB1.out.cells
  have hb := hide (below_alloc hb1)
  clear hb1 hB
  have hwr : IntKind.i64.wrap ((s.size : Int) + -(bh : Int)) = (j : Int) := by rw [IntKind.wrap_i64]; have := hsj.out; omega
  have hj0i : (0 : Int) ≤ (j : Int) := by omega
  go_wp2
  all_goals
    go_region
    all_goals
      go_wp2
      go_ret2
      exact ⟨rfl, hb.out.drew⟩
set_option maxRecDepth 100000 in
set_option maxHeartbeats 1000000 in
theorem rprint_le_false (s : ByteArray) (bh y : Nat) (hy : bh = s.size + y) (h0 : 0 < bh) (hx21 : bh ≤ 21) (w : World) (h : isN false s (-(bh : Int)) = true) :
    Calls Tryd.prog 13 #[.agg #[.bool false, .string s, .int .i64 (-(bh : Int))]] w fun e w' => e = .returned (.tuple #[.string (mkB ([] ++ (48 :: 46 :: (List.replicate y 48 ++ bl s)))), .int .i64 0]) ∧ Below w.heap.size w w' := by
  have ml : maxLen = 2 ^ 63 - 1 := rfl
  obtain ⟨had, hl1, hl40, hx1, hx2, hdg⟩ := isN_all h
  clear had hdg
  have hB := hide (box_new w false s (-(bh : Int)))
  obtain ⟨R, hR⟩ : ∃ R, mkB ([] ++ (48 :: 46 :: (List.replicate y 48 ++ bl s))) = R := ⟨_, rfl⟩
  rw [hR]
  have hg0 : decide ((0 : Int) ≤ -(bh : Int)) = false := decide_eq_false (by omega)
  have hsj := hide hy
  have hbn : (- -(bh : Int)) = (bh : Int) := by omega
  have hg1 : decide ((bh : Int) ≤ 21) = true := decide_eq_true (by omega)
  have hg2 : decide ((s.size : Int) ≤ (bh : Int)) = true := decide_eq_true (by omega)
  have hg3 : (s.size : Int) ≤ (bh : Int) := by omega
  obtain ⟨z, hz⟩ : ∃ z : Nat, y + 1 = z := ⟨_, rfl⟩
  have hzi : (1 : Int) + (bh : Int) - (s.size : Int) = (z : Int) := by omega
  have hz100 : z ≤ 100 := by omega
  obtain ⟨D, hD⟩ : ∃ D, mkB (List.replicate (y + 1) 48 ++ bl s) = D := ⟨_, rfl⟩
  have hDs := hide (show D.size = bh + 1 by rw [← hD, mkB_size, List.length_append, List.length_replicate, bl_length]; omega)
  have hji : (D.size : Int) + -(bh : Int) = 1 := by rw [hDs.out]; omega
  have hwr : IntKind.i64.wrap ((D.size : Int) + -(bh : Int)) = 1 := by rw [hji]; rfl
  have h1D : (1 : Int) ≤ (D.size : Int) := by rw [hDs.out]; omega
  have hc0 := add_run (mkS (List.replicate z 0)) s D (by rw [← hD, ← hz, bl_mkB, mkS_dby, bl_mkB, dby, List.map_replicate]; rfl) (by rw [hDs.out]; omega)
  obtain ⟨A1, hA1⟩ : ∃ A1, mkB ([] ++ [48]) = A1 := ⟨_, rfl⟩
  obtain ⟨A2, hA2⟩ : ∃ A2, mkB ([] ++ [48, 46]) = A2 := ⟨_, rfl⟩
  have hc1 := add_run ⟨#[]⟩ (D.extract 0 1) A1 (by rw [← hA1, bl_mkB, extract_mkB, bl_mkB, ← hD, bl_mkB, List.replicate_succ]; rfl) (by rw [← hA1, mkB_size]; simp)
  have hc2 := add_run A1 ⟨#[46]⟩ A2 (by rw [← hA1, ← hA2, bl_mkB, bl_mkB]; rfl) (by rw [← hA2, mkB_size]; simp)
  have hc3 := add_run A2 (D.extract 1 D.size) R (by rw [← hA2, ← hR, bl_mkB, bl_mkB, drop_mkB, bl_mkB, ← hD, bl_mkB, List.replicate_succ]; rfl) (by rw [← hR, mkB_size]; simp [bl_length]; omega)
  clear hA1 hA2 hD hy hz
  clear hR
  go_enter Tryd.func13, Tryd.ntmps13
  go_wp2_with fail
  refine (ris_any false s _ _ (by omega)).mono ?_
  rw [h]
  rintro e w1 ⟨rfl, hb1⟩
  have hB1 := hide (hB.out.below hb1 (by simp))
  have hlw := hB1.out.lt
  obtain ⟨c0, c1, c2, f0, f1, f2⟩ := hB1.out.cells
  have hb := hide (below_alloc hb1)
  clear hb1 hB
  go_wp2_with fail
  go_fit (zeros_any z _ (by omega))
  rintro e w2 ⟨rfl, rfl⟩
  go_wp2
  all_goals
    go_region
    all_goals
      go_wp2
      go_ret2
      exact ⟨rfl, hb.out.drew⟩
set_option maxRecDepth 100000 in
set_option maxHeartbeats 1000000 in
theorem rprint_upm_false (s : ByteArray) (x : Int) (hs1 : 1 < s.size) (hx0 : 0 ≤ x) (hx21 : 21 < (s.size : Int) + x) (w : World) (h : isN false s x = true) :
    Calls Tryd.prog 13 #[.agg #[.bool false, .string s, .int .i64 x]] w fun e w' => e = .returned (.tuple #[.string (mkB ([] ++ ((bl s).take 1 ++ 46 :: (bl s).drop 1 ++ 101 :: Lib.itoa (x + s.size - 1)))), .int .i64 0]) ∧ Below w.heap.size w w' := by
  have ml : maxLen = 2 ^ 63 - 1 := rfl
  obtain ⟨had, hl1, hl40, hx1, hx2, hdg⟩ := isN_all h
  clear had hdg
  have hB := hide (box_new w false s x)
  obtain ⟨R, hR⟩ : ∃ R, mkB ([] ++ ((bl s).take 1 ++ 46 :: (bl s).drop 1 ++ 101 :: Lib.itoa (x + s.size - 1))) = R := ⟨_, rfl⟩
  rw [hR]
  have hg0 : decide ((0 : Int) ≤ x) = true := decide_eq_true hx0
  have hg1 : decide ((s.size : Int) + x ≤ 21) = false := decide_eq_false (by omega)
  have hg2 : decide (x < 0) = false := decide_eq_false (by omega)
  have hil := Lib.itoa_length_le (x + s.size - 1) (by omega) (by omega)
  have h1s : (1 : Int) ≤ (s.size : Int) := by omega
  have e1 : (bl s).length = s.size := bl_length s
  have hs1i : (1 : Int) < (s.size : Int) := by omega
  obtain ⟨H1, hH1⟩ : ∃ H1, mkB ((bl s).take 1 ++ [46]) = H1 := ⟨_, rfl⟩
  obtain ⟨H2, hH2⟩ : ∃ H2, mkB ((bl s).take 1 ++ 46 :: (bl s).drop 1) = H2 := ⟨_, rfl⟩
  obtain ⟨A1, hA1⟩ : ∃ A1, mkB ([] ++ ((bl s).take 1 ++ 46 :: (bl s).drop 1)) = A1 := ⟨_, rfl⟩
  obtain ⟨A2, hA2⟩ : ∃ A2, mkB ([] ++ ((bl s).take 1 ++ 46 :: (bl s).drop 1) ++ [101]) = A2 := ⟨_, rfl⟩
  have hc1 := add_run (s.extract 0 1) ⟨#[46]⟩ H1 (by rw [← hH1, bl_mkB, extract_mkB, bl_mkB]; rfl) (by rw [← hH1, mkB_size]; simp; omega)
  have hc2 := add_run H1 (s.extract 1 s.size) H2 (by rw [← hH1, ← hH2, bl_mkB, bl_mkB, drop_mkB, bl_mkB]; simp) (by rw [← hH2, mkB_size]; simp [e1]; omega)
  have hc3 := add_run ⟨#[]⟩ H2 A1 (by rw [← hH2, ← hA1, bl_mkB, bl_mkB]; rfl) (by rw [← hA1, mkB_size]; simp [e1]; omega)
  have hc4 := add_run A1 ⟨#[101]⟩ A2 (by rw [← hA1, ← hA2, bl_mkB, bl_mkB]; rfl) (by rw [← hA2, mkB_size]; simp [e1]; omega)
  have hc5 := add_run A2 (mkB (Lib.itoa (x + s.size - 1))) R (by rw [← hA2, ← hR, bl_mkB, bl_mkB, bl_mkB]; simp) (by rw [← hR, mkB_size]; simp [e1]; omega)
  clear hH1 hH2 hA1 hA2 e1
  clear hR
  go_enter Tryd.func13, Tryd.ntmps13
  go_wp2_with fail
  refine (ris_any false s _ _ (by omega)).mono ?_
  rw [h]
  rintro e w1 ⟨rfl, hb1⟩
  have hB1 := hide (hB.out.below hb1 (by simp))
  have hlw := hB1.out.lt
  obtain ⟨c0, c1, c2, f0, f1, f2⟩ := hB1.out.cells
  have hb := hide (below_alloc hb1)
  clear hb1 hB
  go_wp2_with fail
  go_fit (rsmall_itoa (x + s.size - 1) _ (by omega) (by omega))
  rintro e w2 ⟨rfl, rfl⟩
  go_wp2
  go_ret2
  exact ⟨rfl, hb.out⟩
set_option maxRecDepth 100000 in
set_option maxHeartbeats 1000000 in
theorem rprint_upo_false (s : ByteArray) (x : Int) (hs1 : s.size = 1) (hx0 : 0 ≤ x) (hx21 : 21 < (s.size : Int) + x) (w : World) (h : isN false s x = true) :
    Calls Tryd.prog 13 #[.agg #[.bool false, .string s, .int .i64 x]] w fun e w' => e = .returned (.tuple #[.string (mkB ([] ++ ((bl s).take 1 ++ 101 :: Lib.itoa (x + s.size - 1)))), .int .i64 0]) ∧ Below w.heap.size w w' := by
  have ml : maxLen = 2 ^ 63 - 1 := rfl
  obtain ⟨had, hl1, hl40, hx1, hx2, hdg⟩ := isN_all h
  clear had hdg
  have hB := hide (box_new w false s x)
  obtain ⟨R, hR⟩ : ∃ R, mkB ([] ++ ((bl s).take 1 ++ 101 :: Lib.itoa (x + s.size - 1))) = R := ⟨_, rfl⟩
  rw [hR]
  have hg0 : decide ((0 : Int) ≤ x) = true := decide_eq_true hx0
  have hg1 : decide ((s.size : Int) + x ≤ 21) = false := decide_eq_false (by omega)
  have hg2 : decide (x < 0) = false := decide_eq_false (by omega)
  have hil := Lib.itoa_length_le (x + s.size - 1) (by omega) (by omega)
  have h1s : (1 : Int) ≤ (s.size : Int) := by omega
  have e1 : (bl s).length = s.size := bl_length s
  obtain ⟨A1, hA1⟩ : ∃ A1, mkB ([] ++ (bl s).take 1) = A1 := ⟨_, rfl⟩
  obtain ⟨A2, hA2⟩ : ∃ A2, mkB ([] ++ (bl s).take 1 ++ [101]) = A2 := ⟨_, rfl⟩
  have hc3 := add_run ⟨#[]⟩ (s.extract 0 1) A1 (by rw [← hA1, extract_mkB, bl_mkB, bl_mkB]; rfl) (by rw [← hA1, mkB_size]; simp [e1]; omega)
  have hc4 := add_run A1 ⟨#[101]⟩ A2 (by rw [← hA1, ← hA2, bl_mkB, bl_mkB]; rfl) (by rw [← hA2, mkB_size]; simp [e1]; omega)
  have hc5 := add_run A2 (mkB (Lib.itoa (x + s.size - 1))) R (by rw [← hA2, ← hR, bl_mkB, bl_mkB, bl_mkB]; simp) (by rw [← hR, mkB_size]; simp [e1]; omega)
  have hsn : ¬ (1 : Int) < (s.size : Int) := by omega
  clear hA1 hA2 e1 hs1
  clear hR
  go_enter Tryd.func13, Tryd.ntmps13
  go_wp2_with fail
  refine (ris_any false s _ _ (by omega)).mono ?_
  rw [h]
  rintro e w1 ⟨rfl, hb1⟩
  have hB1 := hide (hB.out.below hb1 (by simp))
  have hlw := hB1.out.lt
  obtain ⟨c0, c1, c2, f0, f1, f2⟩ := hB1.out.cells
  have hb := hide (below_alloc hb1)
  clear hb1 hB
  go_wp2_with fail
  go_fit (rsmall_itoa (x + s.size - 1) _ (by omega) (by omega))
  rintro e w2 ⟨rfl, rfl⟩
  go_wp2
  go_ret2
  exact ⟨rfl, hb.out⟩
set_option maxRecDepth 100000 in
set_option maxHeartbeats 1000000 in
theorem rprint_downm_false (s : ByteArray) (x : Int) (hs1 : 1 < s.size) (hx0 : x < 0) (hx21 : x < -21) (w : World) (h : isN false s x = true) :
    Calls Tryd.prog 13 #[.agg #[.bool false, .string s, .int .i64 x]] w fun e w' => e = .returned (.tuple #[.string (mkB ([] ++ ((bl s).take 1 ++ 46 :: (bl s).drop 1 ++ 101 :: Lib.itoa (x + s.size - 1)))), .int .i64 0]) ∧ Below w.heap.size w w' := by
  have ml : maxLen = 2 ^ 63 - 1 := rfl
  obtain ⟨had, hl1, hl40, hx1, hx2, hdg⟩ := isN_all h
  clear had hdg
  have hB := hide (box_new w false s x)
  obtain ⟨R, hR⟩ : ∃ R, mkB ([] ++ ((bl s).take 1 ++ 46 :: (bl s).drop 1 ++ 101 :: Lib.itoa (x + s.size - 1))) = R := ⟨_, rfl⟩
  rw [hR]
  have hg0 : decide ((0 : Int) ≤ x) = false := decide_eq_false (by omega)
  have hg1 : decide (x < 0) = true := decide_eq_true hx0
  have hg2 : decide (-x ≤ 21) = false := decide_eq_false (by omega)
  have hil := Lib.itoa_length_le (x + s.size - 1) (by omega) (by omega)
  have h1s : (1 : Int) ≤ (s.size : Int) := by omega
  have e1 : (bl s).length = s.size := bl_length s
  have hs1i : (1 : Int) < (s.size : Int) := by omega
  obtain ⟨H1, hH1⟩ : ∃ H1, mkB ((bl s).take 1 ++ [46]) = H1 := ⟨_, rfl⟩
  obtain ⟨H2, hH2⟩ : ∃ H2, mkB ((bl s).take 1 ++ 46 :: (bl s).drop 1) = H2 := ⟨_, rfl⟩
  obtain ⟨A1, hA1⟩ : ∃ A1, mkB ([] ++ ((bl s).take 1 ++ 46 :: (bl s).drop 1)) = A1 := ⟨_, rfl⟩
  obtain ⟨A2, hA2⟩ : ∃ A2, mkB ([] ++ ((bl s).take 1 ++ 46 :: (bl s).drop 1) ++ [101]) = A2 := ⟨_, rfl⟩
  have hc1 := add_run (s.extract 0 1) ⟨#[46]⟩ H1 (by rw [← hH1, bl_mkB, extract_mkB, bl_mkB]; rfl) (by rw [← hH1, mkB_size]; simp; omega)
  have hc2 := add_run H1 (s.extract 1 s.size) H2 (by rw [← hH1, ← hH2, bl_mkB, bl_mkB, drop_mkB, bl_mkB]; simp) (by rw [← hH2, mkB_size]; simp [e1]; omega)
  have hc3 := add_run ⟨#[]⟩ H2 A1 (by rw [← hH2, ← hA1, bl_mkB, bl_mkB]; rfl) (by rw [← hA1, mkB_size]; simp [e1]; omega)
  have hc4 := add_run A1 ⟨#[101]⟩ A2 (by rw [← hA1, ← hA2, bl_mkB, bl_mkB]; rfl) (by rw [← hA2, mkB_size]; simp [e1]; omega)
  have hc5 := add_run A2 (mkB (Lib.itoa (x + s.size - 1))) R (by rw [← hA2, ← hR, bl_mkB, bl_mkB, bl_mkB]; simp) (by rw [← hR, mkB_size]; simp [e1]; omega)
  clear hH1 hH2 hA1 hA2 e1
  clear hR
  go_enter Tryd.func13, Tryd.ntmps13
  go_wp2_with fail
  refine (ris_any false s _ _ (by omega)).mono ?_
  rw [h]
  rintro e w1 ⟨rfl, hb1⟩
  have hB1 := hide (hB.out.below hb1 (by simp))
  have hlw := hB1.out.lt
  obtain ⟨c0, c1, c2, f0, f1, f2⟩ := hB1.out.cells
  have hb := hide (below_alloc hb1)
  clear hb1 hB
  go_wp2_with fail
  go_fit (rsmall_itoa (x + s.size - 1) _ (by omega) (by omega))
  rintro e w2 ⟨rfl, rfl⟩
  go_wp2
  go_ret2
  exact ⟨rfl, hb.out⟩
set_option maxRecDepth 100000 in
set_option maxHeartbeats 1000000 in
theorem rprint_downo_false (s : ByteArray) (x : Int) (hs1 : s.size = 1) (hx0 : x < 0) (hx21 : x < -21) (w : World) (h : isN false s x = true) :
    Calls Tryd.prog 13 #[.agg #[.bool false, .string s, .int .i64 x]] w fun e w' => e = .returned (.tuple #[.string (mkB ([] ++ ((bl s).take 1 ++ 101 :: Lib.itoa (x + s.size - 1)))), .int .i64 0]) ∧ Below w.heap.size w w' := by
  have ml : maxLen = 2 ^ 63 - 1 := rfl
  obtain ⟨had, hl1, hl40, hx1, hx2, hdg⟩ := isN_all h
  clear had hdg
  have hB := hide (box_new w false s x)
  obtain ⟨R, hR⟩ : ∃ R, mkB ([] ++ ((bl s).take 1 ++ 101 :: Lib.itoa (x + s.size - 1))) = R := ⟨_, rfl⟩
  rw [hR]
  have hg0 : decide ((0 : Int) ≤ x) = false := decide_eq_false (by omega)
  have hg1 : decide (x < 0) = true := decide_eq_true hx0
  have hg2 : decide (-x ≤ 21) = false := decide_eq_false (by omega)
  have hil := Lib.itoa_length_le (x + s.size - 1) (by omega) (by omega)
  have h1s : (1 : Int) ≤ (s.size : Int) := by omega
  have e1 : (bl s).length = s.size := bl_length s
  obtain ⟨A1, hA1⟩ : ∃ A1, mkB ([] ++ (bl s).take 1) = A1 := ⟨_, rfl⟩
  obtain ⟨A2, hA2⟩ : ∃ A2, mkB ([] ++ (bl s).take 1 ++ [101]) = A2 := ⟨_, rfl⟩
  have hc3 := add_run ⟨#[]⟩ (s.extract 0 1) A1 (by rw [← hA1, extract_mkB, bl_mkB, bl_mkB]; rfl) (by rw [← hA1, mkB_size]; simp [e1]; omega)
  have hc4 := add_run A1 ⟨#[101]⟩ A2 (by rw [← hA1, ← hA2, bl_mkB, bl_mkB]; rfl) (by rw [← hA2, mkB_size]; simp [e1]; omega)
  have hc5 := add_run A2 (mkB (Lib.itoa (x + s.size - 1))) R (by rw [← hA2, ← hR, bl_mkB, bl_mkB, bl_mkB]; simp) (by rw [← hR, mkB_size]; simp [e1]; omega)
  have hsn : ¬ (1 : Int) < (s.size : Int) := by omega
  clear hA1 hA2 e1 hs1
  clear hR
  go_enter Tryd.func13, Tryd.ntmps13
  go_wp2_with fail
  refine (ris_any false s _ _ (by omega)).mono ?_
  rw [h]
  rintro e w1 ⟨rfl, hb1⟩
  have hB1 := hide (hB.out.below hb1 (by simp))
  have hlw := hB1.out.lt
  obtain ⟨c0, c1, c2, f0, f1, f2⟩ := hB1.out.cells
  have hb := hide (below_alloc hb1)
  clear hb1 hB
  go_wp2_with fail
  go_fit (rsmall_itoa (x + s.size - 1) _ (by omega) (by omega))
  rintro e w2 ⟨rfl, rfl⟩
  go_wp2
  go_ret2
  exact ⟨rfl, hb.out⟩
set_option maxRecDepth 100000 in
set_option maxHeartbeats 1000000 in
theorem rprint_plain_true (s : ByteArray) (k : Nat) (hx21 : s.size + k ≤ 21) (w : World) (h : isN true s (k : Int) = true) :
    Calls Tryd.prog 13 #[.agg #[.bool true, .string s, .int .i64 (k : Int)]] w fun e w' => e = .returned (.tuple #[.string (mkB ([45] ++ (bl s ++ List.replicate k 48))), .int .i64 0]) ∧ Below w.heap.size w w' := by
  have ml : maxLen = 2 ^ 63 - 1 := rfl
  obtain ⟨had, hl1, hl40, hx1, hx2, hdg⟩ := isN_all h
  clear had hdg
  have hB := hide (box_new w true s (k : Int))
  obtain ⟨R, hR⟩ : ∃ R, mkB ([45] ++ (bl s ++ List.replicate k 48)) = R := ⟨_, rfl⟩
  rw [hR]
  have hg1 : decide ((s.size : Int) + (k : Int) ≤ 21) = true := decide_eq_true (by omega)
  obtain ⟨A1, hA1⟩ : ∃ A1, mkB ([45] ++ bl s) = A1 := ⟨_, rfl⟩
  have hc1 := add_run ⟨#[45]⟩ s A1 (by rw [← hA1, bl_mkB]; rfl) (by rw [← hA1, mkB_size, List.length_append, bl_length]; simp; omega)
  have hc2 := add_run A1 (mkS (List.replicate k 0)) R (by rw [← hA1, ← hR, bl_mkB, bl_mkB, mkS_dby, bl_mkB, dby, List.map_replicate, List.append_assoc]; rfl) (by rw [← hR, mkB_size]; simp [bl_length]; omega)
  clear hA1
  clear hR
  go_enter Tryd.func13, Tryd.ntmps13
  go_wp2_with fail
  refine (ris_any true s _ _ (by omega)).mono ?_
  rw [h]
  rintro e w1 ⟨rfl, hb1⟩
  have hB1 := hide (hB.out.below hb1 (by simp))
  have hlw := hB1.out.lt
  obtain ⟨c0, c1, c2, f0, f1, f2⟩ := hB1.out.cells
  have hb := hide (below_alloc hb1)
  clear hb1 hB
  go_wp2_with fail
  go_fit (zeros_any k _ (by omega))
  rintro e w2 ⟨rfl, rfl⟩
  go_wp2
  go_ret2
  exact ⟨rfl, hb.out⟩
set_option maxRecDepth 100000 in
set_option maxHeartbeats 1000000 in
theorem rprint_in_true (s : ByteArray) (bh j : Nat) (hj : s.size = bh + j) (h0 : 0 < bh) (hj0 : 0 < j) (hx21 : bh ≤ 21) (w : World) (h : isN true s (-(bh : Int)) = true) :
    Calls Tryd.prog 13 #[.agg #[.bool true, .string s, .int .i64 (-(bh : Int))]] w fun e w' => e = .returned (.tuple #[.string (mkB ([45] ++ ((bl s).take j ++ 46 :: (bl s).drop j))), .int .i64 0]) ∧ Below w.heap.size w w' := by
  have ml : maxLen = 2 ^ 63 - 1 := rfl
  obtain ⟨had, hl1, hl40, hx1, hx2, hdg⟩ := isN_all h
  clear had hdg
  have hB := hide (box_new w true s (-(bh : Int)))
  obtain ⟨R, hR⟩ : ∃ R, mkB ([45] ++ ((bl s).take j ++ 46 :: (bl s).drop j)) = R := ⟨_, rfl⟩
  rw [hR]
  have hg0 : decide ((0 : Int) ≤ -(bh : Int)) = false := decide_eq_false (by omega)
  have hsj := hide hj
  have hbn : (- -(bh : Int)) = (bh : Int) := by omega
  have hg1 : decide ((bh : Int) ≤ 21) = true := decide_eq_true (by omega)
  have hg2 : decide ((s.size : Int) ≤ (bh : Int)) = false := decide_eq_false (by omega)
  have hjs : (s.size : Int) + -(bh : Int) = (j : Int) := by omega
  have hjl : (j : Int) ≤ (s.size : Int) := by omega
  obtain ⟨A1, hA1⟩ : ∃ A1, mkB ([45] ++ (bl s).take j) = A1 := ⟨_, rfl⟩
  obtain ⟨A2, hA2⟩ : ∃ A2, mkB ([45] ++ (bl s).take j ++ [46]) = A2 := ⟨_, rfl⟩
  have hc1 := add_run ⟨#[45]⟩ (s.extract 0 j) A1 (by rw [← hA1, bl_mkB, extract_mkB, bl_mkB]; simp; rfl) (by rw [← hA1, mkB_size]; simp [bl_length]; omega)
  have hc2 := add_run A1 ⟨#[46]⟩ A2 (by rw [← hA1, ← hA2, bl_mkB, bl_mkB]; rfl) (by rw [← hA2, mkB_size]; simp [bl_length]; omega)
  have hc3 := add_run A2 (s.extract j s.size) R (by rw [← hA2, ← hR, bl_mkB, bl_mkB, drop_mkB, bl_mkB]; simp) (by rw [← hR, mkB_size]; simp [bl_length]; omega)
  clear hA1 hA2
  clear hj
  clear hR
  go_enter Tryd.func13, Tryd.ntmps13
  go_wp2_with fail
  refine (ris_any true s _ _ (by omega)).mono ?_
  rw [h]
  rintro e w1 ⟨rfl, hb1⟩
  have hB1 := hide (hB.out.below hb1 (by simp))
  have hlw := hB1.out.lt
  obtain ⟨c0, c1, c2, f0, f1, f2⟩ := hB1.out.cells
  have hb := hide (below_alloc hb1)
  clear hb1 hB
  have hwr : IntKind.i64.wrap ((s.size : Int) + -(bh : Int)) = (j : Int) := by rw [IntKind.wrap_i64]; have := hsj.out; omega
  have hj0i : (0 : Int) ≤ (j : Int) := by omega
  go_wp2
  all_goals
    go_region
    all_goals
      go_wp2
      go_ret2
      exact ⟨rfl, hb.out.drew⟩
set_option maxRecDepth 100000 in
set_option maxHeartbeats 1000000 in
theorem rprint_le_true (s : ByteArray) (bh y : Nat) (hy : bh = s.size + y) (h0 : 0 < bh) (hx21 : bh ≤ 21) (w : World) (h : isN true s (-(bh : Int)) = true) :
    Calls Tryd.prog 13 #[.agg #[.bool true, .string s, .int .i64 (-(bh : Int))]] w fun e w' => e = .returned (.tuple #[.string (mkB ([45] ++ (48 :: 46 :: (List.replicate y 48 ++ bl s)))), .int .i64 0]) ∧ Below w.heap.size w w' := by
  have ml : maxLen = 2 ^ 63 - 1 := rfl
  obtain ⟨had, hl1, hl40, hx1, hx2, hdg⟩ := isN_all h
  clear had hdg
  have hB := hide (box_new w true s (-(bh : Int)))
  obtain ⟨R, hR⟩ : ∃ R, mkB ([45] ++ (48 :: 46 :: (List.replicate y 48 ++ bl s))) = R := ⟨_, rfl⟩
  rw [hR]
  have hg0 : decide ((0 : Int) ≤ -(bh : Int)) = false := decide_eq_false (by omega)
  have hsj := hide hy
  have hbn : (- -(bh : Int)) = (bh : Int) := by omega
  have hg1 : decide ((bh : Int) ≤ 21) = true := decide_eq_true (by omega)
  have hg2 : decide ((s.size : Int) ≤ (bh : Int)) = true := decide_eq_true (by omega)
  have hg3 : (s.size : Int) ≤ (bh : Int) := by omega
  obtain ⟨z, hz⟩ : ∃ z : Nat, y + 1 = z := ⟨_, rfl⟩
  have hzi : (1 : Int) + (bh : Int) - (s.size : Int) = (z : Int) := by omega
  have hz100 : z ≤ 100 := by omega
  obtain ⟨D, hD⟩ : ∃ D, mkB (List.replicate (y + 1) 48 ++ bl s) = D := ⟨_, rfl⟩
  have hDs := hide (show D.size = bh + 1 by rw [← hD, mkB_size, List.length_append, List.length_replicate, bl_length]; omega)
  have hji : (D.size : Int) + -(bh : Int) = 1 := by rw [hDs.out]; omega
  have hwr : IntKind.i64.wrap ((D.size : Int) + -(bh : Int)) = 1 := by rw [hji]; rfl
  have h1D : (1 : Int) ≤ (D.size : Int) := by rw [hDs.out]; omega
  have hc0 := add_run (mkS (List.replicate z 0)) s D (by rw [← hD, ← hz, bl_mkB, mkS_dby, bl_mkB, dby, List.map_replicate]; rfl) (by rw [hDs.out]; omega)
  obtain ⟨A1, hA1⟩ : ∃ A1, mkB ([45] ++ [48]) = A1 := ⟨_, rfl⟩
  obtain ⟨A2, hA2⟩ : ∃ A2, mkB ([45] ++ [48, 46]) = A2 := ⟨_, rfl⟩
  have hc1 := add_run ⟨#[45]⟩ (D.extract 0 1) A1 (by rw [← hA1, bl_mkB, extract_mkB, bl_mkB, ← hD, bl_mkB, List.replicate_succ]; rfl) (by rw [← hA1, mkB_size]; simp)
  have hc2 := add_run A1 ⟨#[46]⟩ A2 (by rw [← hA1, ← hA2, bl_mkB, bl_mkB]; rfl) (by rw [← hA2, mkB_size]; simp)
  have hc3 := add_run A2 (D.extract 1 D.size) R (by rw [← hA2, ← hR, bl_mkB, bl_mkB, drop_mkB, bl_mkB, ← hD, bl_mkB, List.replicate_succ]; rfl) (by rw [← hR, mkB_size]; simp [bl_length]; omega)
  clear hA1 hA2 hD hy hz
  clear hR
  go_enter Tryd.func13, Tryd.ntmps13
  go_wp2_with fail
  refine (ris_any true s _ _ (by omega)).mono ?_
  rw [h]
  rintro e w1 ⟨rfl, hb1⟩
  have hB1 := hide (hB.out.below hb1 (by simp))
  have hlw := hB1.out.lt
  obtain ⟨c0, c1, c2, f0, f1, f2⟩ := hB1.out.cells
  have hb := hide (below_alloc hb1)
  clear hb1 hB
  go_wp2_with fail
  go_fit (zeros_any z _ (by omega))
  rintro e w2 ⟨rfl, rfl⟩
  go_wp2
  all_goals
    go_region
    all_goals
      go_wp2
      go_ret2
      exact ⟨rfl, hb.out.drew⟩
set_option maxRecDepth 100000 in
set_option maxHeartbeats 1000000 in
theorem rprint_upm_true (s : ByteArray) (x : Int) (hs1 : 1 < s.size) (hx0 : 0 ≤ x) (hx21 : 21 < (s.size : Int) + x) (w : World) (h : isN true s x = true) :
    Calls Tryd.prog 13 #[.agg #[.bool true, .string s, .int .i64 x]] w fun e w' => e = .returned (.tuple #[.string (mkB ([45] ++ ((bl s).take 1 ++ 46 :: (bl s).drop 1 ++ 101 :: Lib.itoa (x + s.size - 1)))), .int .i64 0]) ∧ Below w.heap.size w w' := by
  have ml : maxLen = 2 ^ 63 - 1 := rfl
  obtain ⟨had, hl1, hl40, hx1, hx2, hdg⟩ := isN_all h
  clear had hdg
  have hB := hide (box_new w true s x)
  obtain ⟨R, hR⟩ : ∃ R, mkB ([45] ++ ((bl s).take 1 ++ 46 :: (bl s).drop 1 ++ 101 :: Lib.itoa (x + s.size - 1))) = R := ⟨_, rfl⟩
  rw [hR]
  have hg0 : decide ((0 : Int) ≤ x) = true := decide_eq_true hx0
  have hg1 : decide ((s.size : Int) + x ≤ 21) = false := decide_eq_false (by omega)
  have hg2 : decide (x < 0) = false := decide_eq_false (by omega)
  have hil := Lib.itoa_length_le (x + s.size - 1) (by omega) (by omega)
  have h1s : (1 : Int) ≤ (s.size : Int) := by omega
  have e1 : (bl s).length = s.size := bl_length s
  have hs1i : (1 : Int) < (s.size : Int) := by omega
  obtain ⟨H1, hH1⟩ : ∃ H1, mkB ((bl s).take 1 ++ [46]) = H1 := ⟨_, rfl⟩
  obtain ⟨H2, hH2⟩ : ∃ H2, mkB ((bl s).take 1 ++ 46 :: (bl s).drop 1) = H2 := ⟨_, rfl⟩
  obtain ⟨A1, hA1⟩ : ∃ A1, mkB ([45] ++ ((bl s).take 1 ++ 46 :: (bl s).drop 1)) = A1 := ⟨_, rfl⟩
  obtain ⟨A2, hA2⟩ : ∃ A2, mkB ([45] ++ ((bl s).take 1 ++ 46 :: (bl s).drop 1) ++ [101]) = A2 := ⟨_, rfl⟩
  have hc1 := add_run (s.extract 0 1) ⟨#[46]⟩ H1 (by rw [← hH1, bl_mkB, extract_mkB, bl_mkB]; rfl) (by rw [← hH1, mkB_size]; simp; omega)
  have hc2 := add_run H1 (s.extract 1 s.size) H2 (by rw [← hH1, ← hH2, bl_mkB, bl_mkB, drop_mkB, bl_mkB]; simp) (by rw [← hH2, mkB_size]; simp [e1]; omega)
  have hc3 := add_run ⟨#[45]⟩ H2 A1 (by rw [← hH2, ← hA1, bl_mkB, bl_mkB]; rfl) (by rw [← hA1, mkB_size]; simp [e1]; omega)
  have hc4 := add_run A1 ⟨#[101]⟩ A2 (by rw [← hA1, ← hA2, bl_mkB, bl_mkB]; rfl) (by rw [← hA2, mkB_size]; simp [e1]; omega)
  have hc5 := add_run A2 (mkB (Lib.itoa (x + s.size - 1))) R (by rw [← hA2, ← hR, bl_mkB, bl_mkB, bl_mkB]; simp) (by rw [← hR, mkB_size]; simp [e1]; omega)
  clear hH1 hH2 hA1 hA2 e1
  clear hR
  go_enter Tryd.func13, Tryd.ntmps13
  go_wp2_with fail
  refine (ris_any true s _ _ (by omega)).mono ?_
  rw [h]
  rintro e w1 ⟨rfl, hb1⟩
  have hB1 := hide (hB.out.below hb1 (by simp))
  have hlw := hB1.out.lt
  obtain ⟨c0, c1, c2, f0, f1, f2⟩ := hB1.out.cells
  have hb := hide (below_alloc hb1)
  clear hb1 hB
  go_wp2_with fail
  go_fit (rsmall_itoa (x + s.size - 1) _ (by omega) (by omega))
  rintro e w2 ⟨rfl, rfl⟩
  go_wp2
  go_ret2
  exact ⟨rfl, hb.out⟩
set_option maxRecDepth 100000 in
set_option maxHeartbeats 1000000 in
theorem rprint_upo_true (s : ByteArray) (x : Int) (hs1 : s.size = 1) (hx0 : 0 ≤ x) (hx21 : 21 < (s.size : Int) + x) (w : World) (h : isN true s x = true) :
    Calls Tryd.prog 13 #[.agg #[.bool true, .string s, .int .i64 x]] w fun e w' => e = .returned (.tuple #[.string (mkB ([45] ++ ((bl s).take 1 ++ 101 :: Lib.itoa (x + s.size - 1)))), .int .i64 0]) ∧ Below w.heap.size w w' := by
  have ml : maxLen = 2 ^ 63 - 1 := rfl
  obtain ⟨had, hl1, hl40, hx1, hx2, hdg⟩ := isN_all h
  clear had hdg
  have hB := hide (box_new w true s x)
  obtain ⟨R, hR⟩ : ∃ R, mkB ([45] ++ ((bl s).take 1 ++ 101 :: Lib.itoa (x + s.size - 1))) = R := ⟨_, rfl⟩
  rw [hR]
  have hg0 : decide ((0 : Int) ≤ x) = true := decide_eq_true hx0
  have hg1 : decide ((s.size : Int) + x ≤ 21) = false := decide_eq_false (by omega)
  have hg2 : decide (x < 0) = false := decide_eq_false (by omega)
  have hil := Lib.itoa_length_le (x + s.size - 1) (by omega) (by omega)
  have h1s : (1 : Int) ≤ (s.size : Int) := by omega
  have e1 : (bl s).length = s.size := bl_length s
  obtain ⟨A1, hA1⟩ : ∃ A1, mkB ([45] ++ (bl s).take 1) = A1 := ⟨_, rfl⟩
  obtain ⟨A2, hA2⟩ : ∃ A2, mkB ([45] ++ (bl s).take 1 ++ [101]) = A2 := ⟨_, rfl⟩
  have hc3 := add_run ⟨#[45]⟩ (s.extract 0 1) A1 (by rw [← hA1, extract_mkB, bl_mkB, bl_mkB]; rfl) (by rw [← hA1, mkB_size]; simp [e1]; omega)
  have hc4 := add_run A1 ⟨#[101]⟩ A2 (by rw [← hA1, ← hA2, bl_mkB, bl_mkB]; rfl) (by rw [← hA2, mkB_size]; simp [e1]; omega)
  have hc5 := add_run A2 (mkB (Lib.itoa (x + s.size - 1))) R (by rw [← hA2, ← hR, bl_mkB, bl_mkB, bl_mkB]; simp) (by rw [← hR, mkB_size]; simp [e1]; omega)
  have hsn : ¬ (1 : Int) < (s.size : Int) := by omega
  clear hA1 hA2 e1 hs1
  clear hR
  go_enter Tryd.func13, Tryd.ntmps13
  go_wp2_with fail
  refine (ris_any true s _ _ (by omega)).mono ?_
  rw [h]
  rintro e w1 ⟨rfl, hb1⟩
  have hB1 := hide (hB.out.below hb1 (by simp))
  have hlw := hB1.out.lt
  obtain ⟨c0, c1, c2, f0, f1, f2⟩ := hB1.out.cells
  have hb := hide (below_alloc hb1)
  clear hb1 hB
  go_wp2_with fail
  go_fit (rsmall_itoa (x + s.size - 1) _ (by omega) (by omega))
  rintro e w2 ⟨rfl, rfl⟩
  go_wp2
  go_ret2
  exact ⟨rfl, hb.out⟩
set_option maxRecDepth 100000 in
set_option maxHeartbeats 1000000 in
theorem rprint_downm_true (s : ByteArray) (x : Int) (hs1 : 1 < s.size) (hx0 : x < 0) (hx21 : x < -21) (w : World) (h : isN true s x = true) :
    Calls Tryd.prog 13 #[.agg #[.bool true, .string s, .int .i64 x]] w fun e w' => e = .returned (.tuple #[.string (mkB ([45] ++ ((bl s).take 1 ++ 46 :: (bl s).drop 1 ++ 101 :: Lib.itoa (x + s.size - 1)))), .int .i64 0]) ∧ Below w.heap.size w w' := by
  have ml : maxLen = 2 ^ 63 - 1 := rfl
  obtain ⟨had, hl1, hl40, hx1, hx2, hdg⟩ := isN_all h
  clear had hdg
  have hB := hide (box_new w true s x)
  obtain ⟨R, hR⟩ : ∃ R, mkB ([45] ++ ((bl s).take 1 ++ 46 :: (bl s).drop 1 ++ 101 :: Lib.itoa (x + s.size - 1))) = R := ⟨_, rfl⟩
  rw [hR]
  have hg0 : decide ((0 : Int) ≤ x) = false := decide_eq_false (by omega)
  have hg1 : decide (x < 0) = true := decide_eq_true hx0
  have hg2 : decide (-x ≤ 21) = false := decide_eq_false (by omega)
  have hil := Lib.itoa_length_le (x + s.size - 1) (by omega) (by omega)
  have h1s : (1 : Int) ≤ (s.size : Int) := by omega
  have e1 : (bl s).length = s.size := bl_length s
  have hs1i : (1 : Int) < (s.size : Int) := by omega
  obtain ⟨H1, hH1⟩ : ∃ H1, mkB ((bl s).take 1 ++ [46]) = H1 := ⟨_, rfl⟩
  obtain ⟨H2, hH2⟩ : ∃ H2, mkB ((bl s).take 1 ++ 46 :: (bl s).drop 1) = H2 := ⟨_, rfl⟩
  obtain ⟨A1, hA1⟩ : ∃ A1, mkB ([45] ++ ((bl s).take 1 ++ 46 :: (bl s).drop 1)) = A1 := ⟨_, rfl⟩
  obtain ⟨A2, hA2⟩ : ∃ A2, mkB ([45] ++ ((bl s).take 1 ++ 46 :: (bl s).drop 1) ++ [101]) = A2 := ⟨_, rfl⟩
  have hc1 := add_run (s.extract 0 1) ⟨#[46]⟩ H1 (by rw [← hH1, bl_mkB, extract_mkB, bl_mkB]; rfl) (by rw [← hH1, mkB_size]; simp; omega)
  have hc2 := add_run H1 (s.extract 1 s.size) H2 (by rw [← hH1, ← hH2, bl_mkB, bl_mkB, drop_mkB, bl_mkB]; simp) (by rw [← hH2, mkB_size]; simp [e1]; omega)
  have hc3 := add_run ⟨#[45]⟩ H2 A1 (by rw [← hH2, ← hA1, bl_mkB, bl_mkB]; rfl) (by rw [← hA1, mkB_size]; simp [e1]; omega)
  have hc4 := add_run A1 ⟨#[101]⟩ A2 (by rw [← hA1, ← hA2, bl_mkB, bl_mkB]; rfl) (by rw [← hA2, mkB_size]; simp [e1]; omega)
  have hc5 := add_run A2 (mkB (Lib.itoa (x + s.size - 1))) R (by rw [← hA2, ← hR, bl_mkB, bl_mkB, bl_mkB]; simp) (by rw [← hR, mkB_size]; simp [e1]; omega)
  clear hH1 hH2 hA1 hA2 e1
  clear hR
  go_enter Tryd.func13, Tryd.ntmps13
  go_wp2_with fail
  refine (ris_any true s _ _ (by omega)).mono ?_
  rw [h]
  rintro e w1 ⟨rfl, hb1⟩
  have hB1 := hide (hB.out.below hb1 (by simp))
  have hlw := hB1.out.lt
  obtain ⟨c0, c1, c2, f0, f1, f2⟩ := hB1.out.cells
  have hb := hide (below_alloc hb1)
  clear hb1 hB
  go_wp2_with fail
  go_fit (rsmall_itoa (x + s.size - 1) _ (by omega) (by omega))
  rintro e w2 ⟨rfl, rfl⟩
  go_wp2
  go_ret2
  exact ⟨rfl, hb.out⟩
set_option maxRecDepth 100000 in
set_option maxHeartbeats 1000000 in
theorem rprint_downo_true (s : ByteArray) (x : Int) (hs1 : s.size = 1) (hx0 : x < 0) (hx21 : x < -21) (w : World) (h : isN true s x = true) :
    Calls Tryd.prog 13 #[.agg #[.bool true, .string s, .int .i64 x]] w fun e w' => e = .returned (.tuple #[.string (mkB ([45] ++ ((bl s).take 1 ++ 101 :: Lib.itoa (x + s.size - 1)))), .int .i64 0]) ∧ Below w.heap.size w w' := by
  have ml : maxLen = 2 ^ 63 - 1 := rfl
  obtain ⟨had, hl1, hl40, hx1, hx2, hdg⟩ := isN_all h
  clear had hdg
  have hB := hide (box_new w true s x)
  obtain ⟨R, hR⟩ : ∃ R, mkB ([45] ++ ((bl s).take 1 ++ 101 :: Lib.itoa (x + s.size - 1))) = R := ⟨_, rfl⟩
  rw [hR]
  have hg0 : decide ((0 : Int) ≤ x) = false := decide_eq_false (by omega)
  have hg1 : decide (x < 0) = true := decide_eq_true hx0
  have hg2 : decide (-x ≤ 21) = false := decide_eq_false (by omega)
  have hil := Lib.itoa_length_le (x + s.size - 1) (by omega) (by omega)
  have h1s : (1 : Int) ≤ (s.size : Int) := by omega
  have e1 : (bl s).length = s.size := bl_length s
  obtain ⟨A1, hA1⟩ : ∃ A1, mkB ([45] ++ (bl s).take 1) = A1 := ⟨_, rfl⟩
  obtain ⟨A2, hA2⟩ : ∃ A2, mkB ([45] ++ (bl s).take 1 ++ [101]) = A2 := ⟨_, rfl⟩
  have hc3 := add_run ⟨#[45]⟩ (s.extract 0 1) A1 (by rw [← hA1, extract_mkB, bl_mkB, bl_mkB]; rfl) (by rw [← hA1, mkB_size]; simp [e1]; omega)
  have hc4 := add_run A1 ⟨#[101]⟩ A2 (by rw [← hA1, ← hA2, bl_mkB, bl_mkB]; rfl) (by rw [← hA2, mkB_size]; simp [e1]; omega)
  have hc5 := add_run A2 (mkB (Lib.itoa (x + s.size - 1))) R (by rw [← hA2, ← hR, bl_mkB, bl_mkB, bl_mkB]; simp) (by rw [← hR, mkB_size]; simp [e1]; omega)
  have hsn : ¬ (1 : Int) < (s.size : Int) := by omega
  clear hA1 hA2 e1 hs1
  clear hR
  go_enter Tryd.func13, Tryd.ntmps13
  go_wp2_with fail
  refine (ris_any true s _ _ (by omega)).mono ?_
  rw [h]
  rintro e w1 ⟨rfl, hb1⟩
  have hB1 := hide (hB.out.below hb1 (by simp))
  have hlw := hB1.out.lt
  obtain ⟨c0, c1, c2, f0, f1, f2⟩ := hB1.out.cells
  have hb := hide (below_alloc hb1)
  clear hb1 hB
  go_wp2_with fail
  go_fit (rsmall_itoa (x + s.size - 1) _ (by omega) (by omega))
  rintro e w2 ⟨rfl, rfl⟩
  go_wp2
  go_ret2
  exact ⟨rfl, hb.out⟩
end Go.Proofs.YtjpdlibncmldlaaDoor
/- The two Prints write the same text. -/
namespace Go.Proofs.YtjpdlibncmldlaaDoor
open Go.RowKit
set_option linter.unusedSimpArgs false
set_option linter.unusedVariables false
/-- The reference's Print, at every number. -/
theorem rprint_any (n : Bool) (s : ByteArray) (x : Int) (w : World) (h : isN n s x = true) :
    Calls Tryd.prog 13 #[.agg #[.bool n, .string s, .int .i64 x]] w fun e w' => e = .returned (.tuple #[.string (mkB (printL n (bl s) x)), .int .i64 0]) ∧ Below w.heap.size w w' := by
  obtain ⟨had, hl1, hl40, hx1, hx2, hdg⟩ := isN_all h
  clear had hdg
  unfold printL
  rw [bl_length]
  by_cases h1 : 0 ≤ x ∧ (s.size : Int) + x ≤ 21
  · rw [if_pos h1]
    obtain ⟨k, rfl⟩ : ∃ k : Nat, x = k := ⟨x.toNat, by omega⟩
    rw [Int.toNat_natCast]
    cases n
    · exact rprint_plain_false s k (by omega) w h
    · exact rprint_plain_true s k (by omega) w h
  · rw [if_neg h1]
    by_cases h2 : x < 0 ∧ -21 ≤ x
    · rw [if_pos h2]
      obtain ⟨bh, rfl⟩ : ∃ bh : Nat, x = -(bh : Int) := ⟨(-x).toNat, by omega⟩
      rw [show (- -(bh : Int)).toNat = bh by omega]
      unfold pointed
      rw [bl_length]
      by_cases h3 : s.size ≤ bh
      · rw [if_pos h3]
        cases n
        · exact rprint_le_false s bh (bh - s.size) (by omega) (by omega) (by omega) w h
        · exact rprint_le_true s bh (bh - s.size) (by omega) (by omega) (by omega) w h
      · rw [if_neg h3]
        cases n
        · exact rprint_in_false s bh (s.size - bh) (by omega) (by omega) (by omega) (by omega) w h
        · exact rprint_in_true s bh (s.size - bh) (by omega) (by omega) (by omega) (by omega) w h
    · rw [if_neg h2]
      unfold powered
      rw [bl_length]
      by_cases h4 : 1 < s.size
      · rw [if_pos h4]
        by_cases h3 : x < 0
        · cases n
          · exact rprint_downm_false s x h4 h3 (by omega) w h
          · exact rprint_downm_true s x h4 h3 (by omega) w h
        · cases n
          · exact rprint_upm_false s x h4 (by omega) (by omega) w h
          · exact rprint_upm_true s x h4 (by omega) (by omega) w h
      · rw [if_neg h4, List.append_nil]
        by_cases h3 : x < 0
        · cases n
          · exact rprint_downo_false s x (by omega) h3 (by omega) w h
          · exact rprint_downo_true s x (by omega) h3 (by omega) w h
        · cases n
          · exact rprint_upo_false s x (by omega) (by omega) (by omega) w h
          · exact rprint_upo_true s x (by omega) (by omega) (by omega) w h
end Go.Proofs.YtjpdlibncmldlaaDoor
/- What calamuslaw01.NumTexts calls, as it wants it. -/
namespace Go.Proofs.YtjpdlibncmldlaaDoor
open Go.RowKit
set_option linter.unusedSimpArgs false
set_option linter.unusedVariables false
/-- What Print answers. -/
def prF (n : Bool) (s : ByteArray) (x : Int) : ByteArray × Int := if isN n s x then (mkB (printL n (bl s) x), 0) else (⟨#[]⟩, 10)
theorem printA_any (n : Bool) (s : ByteArray) (x : Int) (w : World) (hs : s.size ≤ 4096) (ht : Tab w.heap.size w) :
    Calls Tryd.prog 12 #[.agg #[.bool n, .string s, .int .i64 x]] w fun e w' => e = .returned (.tuple #[.string (prF n s x).1, .int .i64 (prF n s x).2]) ∧ Below w.heap.size w w' := by
  unfold prF
  cases h : isN n s x
  · exact print_no n s x w (by omega) h
  · exact print_any n s x w h ht
theorem rprintA_any (n : Bool) (s : ByteArray) (x : Int) (w : World) (hs : s.size ≤ 4096) :
    Calls Tryd.prog 13 #[.agg #[.bool n, .string s, .int .i64 x]] w fun e w' => e = .returned (.tuple #[.string (prF n s x).1, .int .i64 (prF n s x).2]) ∧ Below w.heap.size w w' := by
  unfold prF
  cases h : isN n s x
  · exact rprint_no n s x w (by omega) h
  · exact rprint_any n s x w h
theorem checkA_any (n : Bool) (s : ByteArray) (x : Int) (w : World) (hs : s.size ≤ maxLen) (b : Bool) (hb : isN n s x = b) :
    Calls Tryd.prog 15 #[.agg #[.bool n, .string s, .int .i64 x]] w fun e w' => e = .returned (.int .i64 (bif b then 0 else 10)) ∧ Below w.heap.size w w' := by
  cases b
  · exact check_no n s x w hs hb
  · exact check_ok n s x w hs hb
/-- One struct of the call's own. -/
structure Uno (w : World) (n : Bool) (s : ByteArray) (x : Int) (W : World) : Prop where
  below : Below w.heap.size w W
  box : Box W w.heap.size n s x
theorem Uno.then {w : World} {n : Bool} {s : ByteArray} {x : Int} {W W1 : World} (h : Uno w n s x W) (hb : Below W.heap.size W W1) : Uno w n s x W1 := ⟨below_then h.below hb, h.box.below hb h.box.lt⟩
theorem uno_new (w : World) (n : Bool) (s : ByteArray) (x : Int) : Uno w n s x (w.alloc (.cells #[.bool n, .string s, .int .i64 x] 23)) := ⟨below_al (Below.refl _ _), box_new w n s x⟩
end Go.Proofs.YtjpdlibncmldlaaDoor
/- calamuslaw01.NumTexts: walked. -/
namespace Go.Proofs.YtjpdlibncmldlaaDoor
open Go.RowKit
set_option linter.unusedSimpArgs false
set_option linter.unusedVariables false
theorem keep9 {W w1 : World} (hB : Below W.heap.size W w1) (b c d : Nat) (hb : b < W.heap.size) (hc : c < W.heap.size) (hd : d < W.heap.size) {x0 x1 x2 y0 y1 y2 z0 z1 z2 : Value}
    (h : W.cell? ⟨b, 0, none⟩ = some x0 ∧ W.cell? ⟨b, 1, none⟩ = some x1 ∧ W.cell? ⟨b, 2, none⟩ = some x2 ∧ W.cell? ⟨c, 0, none⟩ = some y0 ∧ W.cell? ⟨c, 1, none⟩ = some y1 ∧ W.cell? ⟨c, 2, none⟩ = some y2 ∧ W.cell? ⟨d, 0, none⟩ = some z0 ∧ W.cell? ⟨d, 1, none⟩ = some z1 ∧ W.cell? ⟨d, 2, none⟩ = some z2) :
    w1.cell? ⟨b, 0, none⟩ = some x0 ∧ w1.cell? ⟨b, 1, none⟩ = some x1 ∧ w1.cell? ⟨b, 2, none⟩ = some x2 ∧ w1.cell? ⟨c, 0, none⟩ = some y0 ∧ w1.cell? ⟨c, 1, none⟩ = some y1 ∧ w1.cell? ⟨c, 2, none⟩ = some y2 ∧ w1.cell? ⟨d, 0, none⟩ = some z0 ∧ w1.cell? ⟨d, 1, none⟩ = some z1 ∧ w1.cell? ⟨d, 2, none⟩ = some z2 := by
  obtain ⟨h1, h2, h3, h4, h5, h6, h7, h8, h9⟩ := h
  have k : ∀ (g o : Nat) (v : Value), g < W.heap.size → W.cell? ⟨g, o, none⟩ = some v → w1.cell? ⟨g, o, none⟩ = some v := fun g o v hg hv => (hB.cell (p := ⟨g, o, none⟩) hg).trans hv
  exact ⟨k _ _ _ hb h1, k _ _ _ hb h2, k _ _ _ hb h3, k _ _ _ hc h4, k _ _ _ hc h5, k _ _ _ hc h6, k _ _ _ hd h7, k _ _ _ hd h8, k _ _ _ hd h9⟩
set_option maxHeartbeats 2000000 in
theorem texts_any (t : ByteArray) (n : Bool) (s : ByteArray) (x : Int) (w : World) (htl : t.size ≤ maxLen) (hs : s.size ≤ maxLen) (hT : Tab w.heap.size w) :
    Calls Tryd.prog 3 #[.string t, .agg #[.bool n, .string s, .int .i64 x]] w fun e w' => e = .returned (.bool true) ∧ Below w.heap.size w w' := by
  have hT := hide hT
  have U0 := hide (uno_new w n s x)
  by_cases hlong : (4096 : Int) < (t.size : Int)
  · go_enter Tryd.func3, Tryd.ntmps3
    go_wp2
    go_ret
    exact ⟨rfl, U0.out.below⟩
  · cases hA : decide (4096 < s.size)
    · have sa : s.size ≤ 4096 := by have := of_decide_eq_false hA; omega
      have st : t.size ≤ 4096 := by omega
      obtain ⟨pb, ps, px, pe, hp⟩ : ∃ pb ps px pe, parseF (bl t) = (pb, ps, px, pe) := ⟨_, _, _, _, rfl⟩
      obtain ⟨q1, q2, hq⟩ : ∃ q1 q2, prF n s x = (q1, q2) := ⟨_, _, rfl⟩
      obtain ⟨ib, hib⟩ : ∃ ib, isN n s x = ib := ⟨_, rfl⟩
      have HP := hide hp
      have HQ := hide hq
      have HI := hide hib
      clear hp hq hib
      go_enter Tryd.func3, Tryd.ntmps3
      go_wp2_with fail
      refine (big_any n s x _ _ hA hs).mono ?_
      rintro e w1 ⟨rfl, hb1⟩
      have U1 := hide (U0.out.then hb1)
      clear hb1
      go_wp2_with fail
      refine (parse_any t _ (by omega)).mono ?_
      rintro e w2 ⟨rfl, hb2⟩
      rw [HP.out]
      have U2 := hide (U1.out.then hb2)
      clear hb2
      simp only [retF]
      have U3 := hide (U2.out.then (below_al (o := .cells #[.bool pb, .string ps, .int .i64 px] 23) (Below.refl w2.heap.size w2)))
      have X3 := hide (box_new w2 pb ps px)
      go_wp2_with fail
      refine (rparse_same t _ (by omega)).mono ?_
      rintro e w4 ⟨rfl, hb4⟩
      rw [HP.out]
      have U4 := hide (U3.out.then hb4)
      have X4 := hide (X3.out.below hb4 X3.out.lt)
      clear hb4
      simp only [retF]
      have U5 := hide (U4.out.then (below_al (o := .cells #[.bool pb, .string ps, .int .i64 px] 23) (Below.refl w4.heap.size w4)))
      have X5 := hide (X4.out.alloc (.cells #[.bool pb, .string ps, .int .i64 px] 23))
      have Y5 := hide (box_new w4 pb ps px)
      obtain ⟨c0, c1, c2, f0, f1, f2⟩ := U5.out.box.cells
      have hT5 : Hid (Tab _ _) := Tab.up (Lib.TabBelow.on hT.out U5.out.below) U5.out.below.size
      go_wp2_with fail
      refine (printA_any n s x _ sa hT5.out).mono ?_
      rintro e w6 ⟨rfl, hb6⟩
      rw [HQ.out]
      have U6 := hide (U5.out.then hb6)
      have X6 := hide (X5.out.below hb6 X5.out.lt)
      have Y6 := hide (Y5.out.below hb6 Y5.out.lt)
      clear hb6 c0 c1 c2 f0 f1 f2
      obtain ⟨c0, c1, c2, f0, f1, f2⟩ := U6.out.box.cells
      go_wp2_with fail
      refine (rprintA_any n s x _ sa).mono ?_
      rintro e w7 ⟨rfl, hb7⟩
      rw [HQ.out]
      have U7 := hide (U6.out.then hb7)
      have X7 := hide (X6.out.below hb7 X6.out.lt)
      have Y7 := hide (Y6.out.below hb7 Y6.out.lt)
      clear hb7 c0 c1 c2 f0 f1 f2
      have l1 := U7.out.box.lt
      have l2 := X7.out.lt
      have l3 := Y7.out.lt
      obtain ⟨m0, m1, m2, _, _, _⟩ := U7.out.box.cells
      obtain ⟨c0, c1, c2, _, _, _⟩ := X7.out.cells
      obtain ⟨k0, k1, k2, _, _, _⟩ := Y7.out.cells
      go_wp2_with fail
      go_region_held3 (fun w' => w'.cell? ⟨w.heap.size, 0, none⟩ = some (.bool n) ∧ w'.cell? ⟨w.heap.size, 1, none⟩ = some (.string s) ∧ w'.cell? ⟨w.heap.size, 2, none⟩ = some (.int .i64 x) ∧ w'.cell? ⟨w2.heap.size, 0, none⟩ = some (.bool pb) ∧ w'.cell? ⟨w2.heap.size, 1, none⟩ = some (.string ps) ∧ w'.cell? ⟨w2.heap.size, 2, none⟩ = some (.int .i64 px) ∧ w'.cell? ⟨w4.heap.size, 0, none⟩ = some (.bool pb) ∧ w'.cell? ⟨w4.heap.size, 1, none⟩ = some (.string ps) ∧ w'.cell? ⟨w4.heap.size, 2, none⟩ = some (.int .i64 px)) (first | (simp [go_sem]; done) | go_keep) (first | (go_at_call 14; refine (awake_any _).mono ?_; rintro e v1 ⟨rfl, hB1⟩; obtain ⟨k1, k2, k3, k4, k5, k6, k7, k8, k9⟩ := keep9 hB1 w.heap.size w2.heap.size w4.heap.size (by first | assumption | (simp <;> omega)) (by first | assumption | (simp <;> omega)) (by first | assumption | (simp <;> omega)) (by first | assumption | simp [go_sem, *]); have l1 := Nat.lt_of_lt_of_le (show w.heap.size < _ by first | assumption | (simp <;> omega)) hB1.size; have l2 := Nat.lt_of_lt_of_le (show w2.heap.size < _ by first | assumption | (simp <;> omega)) hB1.size; have l3 := Nat.lt_of_lt_of_le (show w4.heap.size < _ by first | assumption | (simp <;> omega)) hB1.size) | (go_at_call 15; refine (checkA_any n s x _ hs ib HI.out).mono ?_; rintro e v2 ⟨rfl, hB2⟩; obtain ⟨k1, k2, k3, k4, k5, k6, k7, k8, k9⟩ := keep9 hB2 w.heap.size w2.heap.size w4.heap.size (by first | assumption | (simp <;> omega)) (by first | assumption | (simp <;> omega)) (by first | assumption | (simp <;> omega)) (by first | assumption | simp [go_sem, *]); have l1 := Nat.lt_of_lt_of_le (show w.heap.size < _ by first | assumption | (simp <;> omega)) hB2.size; have l2 := Nat.lt_of_lt_of_le (show w2.heap.size < _ by first | assumption | (simp <;> omega)) hB2.size; have l3 := Nat.lt_of_lt_of_le (show w4.heap.size < _ by first | assumption | (simp <;> omega)) hB2.size) | (go_at_call 16; refine (rcheck_any n s x _ hs ib HI.out).mono ?_; rintro e v3 ⟨rfl, hB3⟩; obtain ⟨k1, k2, k3, k4, k5, k6, k7, k8, k9⟩ := keep9 hB3 w.heap.size w2.heap.size w4.heap.size (by first | assumption | (simp <;> omega)) (by first | assumption | (simp <;> omega)) (by first | assumption | (simp <;> omega)) (by first | assumption | simp [go_sem, *]); have l1 := Nat.lt_of_lt_of_le (show w.heap.size < _ by first | assumption | (simp <;> omega)) hB3.size; have l2 := Nat.lt_of_lt_of_le (show w2.heap.size < _ by first | assumption | (simp <;> omega)) hB3.size; have l3 := Nat.lt_of_lt_of_le (show w4.heap.size < _ by first | assumption | (simp <;> omega)) hB3.size))
      have hF := hide (below_then (below_then (below_then U7.out.below.drew hB1) hB2) hB3)
      go_wp2
      go_ret
      exact ⟨rfl, hF.out⟩
    · go_enter Tryd.func3, Tryd.ntmps3
      go_wp2_with fail
      refine (big_any n s x _ _ hA hs).mono ?_
      rintro e w1 ⟨rfl, hb1⟩
      go_wp2
      go_ret
      exact ⟨rfl, (U0.out.then hb1).below⟩
end Go.Proofs.YtjpdlibncmldlaaDoor
