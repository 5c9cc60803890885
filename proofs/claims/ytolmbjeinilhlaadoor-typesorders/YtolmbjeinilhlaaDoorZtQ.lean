/- Merged by program: QaRef, QbZeros, QcLess, QdMath, QePlus, QfMade, QgAlign, QhCmp. -/
import Derived.Test.YtolmbjeinilhlaaDoorZtN
import Derived.Outline
import Derived.Deep.RegionHeld3
/- calamusref01's all, Is, Check, Made: walked. -/
namespace Go.Proofs.YtolmbjeinilhlaaDoor
open Go.RowKit
set_option linter.unusedSimpArgs false
set_option linter.unusedVariables false
theorem allD_of (s : ByteArray) (h : ∀ j (h : j < s.size), isDig s[j] = true) : allD (bl s) = true := by
  unfold allD; rw [List.all_eq_true]
  intro c hc
  obtain ⟨i, hi, rfl⟩ := List.getElem_of_mem hc
  rw [bl_length] at hi
  rw [bl_get s i hi]; exact h i hi
set_option maxHeartbeats 400000 in
theorem rall_any (s : ByteArray) (w : World) (hs : s.size ≤ maxLen) :
    Calls Tryd.prog 91 #[.string s] w fun e w' => e = .returned (.bool (allD (bl s) && decide (0 < s.size))) ∧ w' = w := by
  unfold maxLen at hs
  go_enter Tryd.func91, Tryd.ntmps91
  go_wp2
  go_loop [3] (fun i => ∃ k : Nat, k ≤ s.size ∧ i = .int .i64 k ∧ Hid (∀ j (hj : j < k) (h : j < s.size), isDig s[j] = true)) (fun i => s.size - (intOf i).toNat)
  case atStart => exact ⟨0, Nat.zero_le _, rfl, fun j hj => by omega⟩
  case round =>
    obtain ⟨k, hk, rfl, hall⟩ := hrel
    by_cases hlt : k < s.size
    · by_cases hd : isDig s[k] = true
      · have hd' := (isDig_iff _).1 hd
        have h1 := hd'.1
        have h2 := hd'.2
        have HH := hide hd
        clear hd hd'
        go_wp2
        go_round
        case rel => exact ⟨k + 1, by omega, by go_num, fun j hj h => by
          by_cases e : j = k
          · subst e; exact HH.out
          · exact hall.out j (by omega) h⟩
        case measure => simp [intOf]; omega
      · have hno := hide (show allD (bl s) = false by
          cases ha : allD (bl s)
          · rfl
          · exfalso; apply hd
            have := allD_get s ha k hlt
            rw [isDig_iff]; omega)
        have hd' : ¬ (48 ≤ (s[k].toNat : Int) ∧ (s[k].toNat : Int) ≤ 57) := fun h => hd ((isDig_iff _).2 h)
        clear hd
        go_wp2
        all_goals
          go_ret
          exact ⟨ret_bool (by rw [hno.out]; rfl), rfl⟩
    · have hyes := hide (allD_of s (fun j h => hall.out j (by omega) h))
      go_wp2
      go_ret
      refine ⟨ret_bool ?_, rfl⟩
      rw [hyes.out, Bool.true_and]
theorem isN_zero_digits (n : Bool) (s : ByteArray) (x : Int) (h : s.toList = [48]) : isN n s x = (!n && x == 0) := by
  rw [bl_toList] at h
  have ho : isO [48] x = false := by unfold isO; simp
  simp [isN, isZ, h, ho]
theorem isN_other (n : Bool) (s : ByteArray) (x : Int) (h : ¬ s.toList = [48]) : isN n s x = isO (bl s) x := by
  rw [bl_toList] at h
  have hz : isZ n s x = false := by simp [isZ, h]
  simp [isN, hz]
set_option maxHeartbeats 1000000 in
theorem ris_any (n : Bool) (s : ByteArray) (x : Int) (w : World) (hs : s.size ≤ maxLen) :
    Calls Tryd.prog 84 #[.agg #[.bool n, .string s, .int .i64 x]] w fun e w' => e = .returned (.bool (isN n s x)) ∧ Below w.heap.size w w' := by
  by_cases hz : s.toList = [48]
  · have hr := hide (isN_zero_digits n s x hz)
    cases n
    all_goals
      go_enter Tryd.func84, Tryd.ntmps84
      go_wp2
      go_ret
      exact ⟨ret_bool (by rw [hr.out]; rfl), (Below.refl _ _).alloc (Nat.le_refl _) _⟩
  · have hr := hide (isN_other n s x hz)
    have hzb : (s.toList == [48]) = false := by simpa using hz
    clear hz
    by_cases h0 : 0 < s.size
    · have hO := hide (isO_at s x h0)
      have h0i : (0 : Int) < s.size := by omega
      cases had : allD (bl s)
      · have had' := hide (show (allD (bl s) && decide (0 < s.size)) = false by rw [had]; rfl)
        go_enter Tryd.func84, Tryd.ntmps84
        go_wp2_with (go_at_call 91; go_fit (rall_any s _ hs); rw [had'.out]; rintro e w' ⟨rfl, rfl⟩)
        go_ret
        exact ⟨ret_bool (by rw [hr.out, hO.out, had]; simp), (Below.refl _ _).alloc (Nat.le_refl _) _⟩
      · have had' := hide (show (allD (bl s) && decide (0 < s.size)) = true by rw [had]; simp [h0])
        by_cases h40 : (s.size : Int) ≤ 40
        · by_cases hx1 : -400 ≤ x
          · go_enter Tryd.func84, Tryd.ntmps84
            go_wp2_with (go_at_call 91; go_fit (rall_any s _ hs); rw [had'.out]; rintro e w' ⟨rfl, rfl⟩)
            all_goals
              go_ret
              refine ⟨ret_bool ?_, (Below.refl _ _).alloc (Nat.le_refl _) _⟩
              have h40' : s.size ≤ 40 := by omega
              rw [hr.out, hO.out, had]
              simp only [← bne48]
              simp [h40', hx1, *]
              try rw [Bool.and_comm, Bool.and_assoc]
          · have hx1' : decide (-400 ≤ x) = false := decide_eq_false hx1
            go_enter Tryd.func84, Tryd.ntmps84
            go_wp2_with (go_at_call 91; go_fit (rall_any s _ hs); rw [had'.out]; rintro e w' ⟨rfl, rfl⟩)
            all_goals
              go_ret
              refine ⟨ret_bool ?_, (Below.refl _ _).alloc (Nat.le_refl _) _⟩
              rw [hr.out, hO.out, had]
              simp
              intros
              omega
        · have h40' : decide ((s.size : Int) ≤ 40) = false := decide_eq_false h40
          go_enter Tryd.func84, Tryd.ntmps84
          go_wp2_with (go_at_call 91; go_fit (rall_any s _ hs); rw [had'.out]; rintro e w' ⟨rfl, rfl⟩)
          go_ret
          refine ⟨ret_bool ?_, (Below.refl _ _).alloc (Nat.le_refl _) _⟩
          rw [hr.out, hO.out, had]
          simp; omega
    · have hOz := hide (show isO (bl s) x = false by unfold isO; rw [bl_length]; simp; omega)
      have had' := hide (show (allD (bl s) && decide (0 < s.size)) = false by simp [h0])
      go_enter Tryd.func84, Tryd.ntmps84
      go_wp2_with (go_at_call 91; go_fit (rall_any s _ hs); rw [had'.out]; rintro e w' ⟨rfl, rfl⟩)
      go_ret
      exact ⟨ret_bool (by rw [hr.out, hOz.out]), (Below.refl _ _).alloc (Nat.le_refl _) _⟩
end Go.Proofs.YtolmbjeinilhlaaDoor
/- calamusref01's Zeros, less: walked. -/
namespace Go.Proofs.YtolmbjeinilhlaaDoor
open Go.RowKit
set_option linter.unusedSimpArgs false
set_option linter.unusedVariables false
def lenS : Value → Nat | .string s => s.size | _ => 0
theorem mkB_app (a b : List UInt8) : mkB a ++ mkB b = mkB (a ++ b) := by
  apply ByteArray.ext
  simp [mkB]
theorem mkS_mkB (l : List Nat) : mkS l = mkB (l.map fun v => UInt8.ofNat (v + 48)) := by rw [← mkS_bl, mkB_bl]
theorem mkS_app (a b : List Nat) : mkS a ++ mkS b = mkS (a ++ b) := by rw [mkS_mkB, mkS_mkB, mkS_mkB, mkB_app, List.map_append]
theorem mkS_nil : mkS [] = ⟨#[]⟩ := rfl
theorem mkS_0 : mkS [0] = ⟨#[48]⟩ := rfl
theorem mkS_1 : mkS [1] = ⟨#[49]⟩ := rfl
theorem mkS_of (s : ByteArray) (h : allD (bl s) = true) : mkS (dg s) = s := by
  rw [mkS_mkB]
  conv => rhs; rw [← mkB_bl s]
  congr 1
  unfold dg
  rw [List.map_map]
  conv => rhs; rw [← List.map_id (bl s)]
  apply List.map_congr_left
  intro c hc
  have := (isDig_iff c).1 ((List.all_eq_true.1 h) c hc)
  apply UInt8.toNat_inj.1
  show (UInt8.ofNat (c.toNat - 48 + 48)).toNat = _
  rw [UInt8.toNat_ofNat']
  show _ = c.toNat
  omega
theorem mkS_get (l : List Nat) (hd : Dgs l) (k : Nat) (h : k < l.length) (h' : k < (mkS l).size) : (mkS l)[k].toNat = l[k] + 48 := by
  rw [← bl_get _ k h']
  simp only [mkS_bl, List.getElem_map]
  exact ofNat_toNat _ (hd _ (List.getElem_mem _))
/-- Rows of one length stand in the order of their first unlike digits. -/
theorem val_first (a b : List Nat) (ha : Dgs a) (hb : Dgs b) (hl : a.length = b.length) (k : Nat) (hk : k < a.length) (he : a.take k = b.take k) (hlt : a[k] < b[k]'(by omega)) : val a < val b := by
  have h1 := val_split a k
  have h2 := val_split b k
  rw [he, hl] at h1
  have h3 : a.drop k = a[k] :: a.drop (k + 1) := List.drop_eq_getElem_cons hk
  have h4 : b.drop k = b[k]'(by omega) :: b.drop (k + 1) := List.drop_eq_getElem_cons (by omega)
  rw [h3] at h1
  rw [h4] at h2
  simp only [val, List.length_drop] at h1 h2
  have h5 := val_lt (a.drop (k + 1)) (fun x hx => ha x (List.mem_of_mem_drop hx))
  rw [List.length_drop] at h5
  rw [hl] at h1 h5
  have h6 : (a[k] + 1) * 10 ^ (b.length - (k + 1)) ≤ b[k]'(by omega) * 10 ^ (b.length - (k + 1)) := Nat.mul_le_mul_right _ hlt
  rw [Nat.add_mul] at h6
  omega
theorem take_more {a b : List Nat} {k : Nat} (h : a.take k = b.take k) (ha : k < a.length) (hb : k < b.length) (he : a[k] = b[k]) : a.take (k + 1) = b.take (k + 1) := by
  rw [List.take_succ_eq_append_getElem ha, List.take_succ_eq_append_getElem hb, h, he]
end Go.Proofs.YtolmbjeinilhlaaDoor
/- calamusref01's less: walked. -/
namespace Go.Proofs.YtolmbjeinilhlaaDoor
open Go.RowKit
set_option linter.unusedSimpArgs false
set_option linter.unusedVariables false
end Go.Proofs.YtolmbjeinilhlaaDoor
/- Sums and differences of rows of digits, one by one: no program in sight. -/
namespace Go.Proofs.YtolmbjeinilhlaaDoor
open Go.RowKit
set_option linter.unusedSimpArgs false
set_option linter.unusedVariables false
/-- What plus knows behind k digits. -/
structure PInv (a b : List Nat) (n k : Nat) (l : List Nat) (c : Nat) : Prop where
  len : l.length = k
  dgs : Dgs l
  le : c ≤ 1
  eq : val l + c * 10 ^ k = val (a.drop (n - k)) + val (b.drop (n - k))
theorem Dgs.put {d : Nat} {l : List Nat} (h : d ≤ 9) (hl : Dgs l) : Dgs (d :: l) := by
  intro x hx
  rcases List.mem_cons.1 hx with e | e
  · rw [e]; exact h
  · exact hl x e
theorem PInv.start (a b : List Nat) (n : Nat) (ha : a.length = n) (hb : b.length = n) : PInv a b n 0 [] 0 := by
  refine ⟨rfl, fun x hx => by simp at hx, by omega, ?_⟩
  rw [List.drop_of_length_le (by omega), List.drop_of_length_le (by omega)]
  simp [val]
theorem PInv.step {a b : List Nat} {n k : Nat} {l : List Nat} {c : Nat} (h : PInv a b n k l c) (hda : Dgs a) (hdb : Dgs b) (ha : a.length = n) (hb : b.length = n) (hk : k < n) (x y : Nat) (hx : a[n - 1 - k]'(by omega) = x) (hy : b[n - 1 - k]'(by omega) = y) (v : Nat) (hv : v = x + y + c) :
    PInv a b n (k + 1) ((v % 10) :: l) (v / 10) := by
  have h1 := val_drop_succ a n k ha hk
  have h2 := val_drop_succ b n k hb hk
  rw [hx] at h1
  rw [hy] at h2
  have hx9 : x ≤ 9 := by rw [← hx]; exact hda _ (List.getElem_mem _)
  have hy9 : y ≤ 9 := by rw [← hy]; exact hdb _ (List.getElem_mem _)
  have hc := h.le
  refine ⟨by simp [h.len], h.dgs.put (by omega), by omega, ?_⟩
  have e := h.eq
  rw [h1, h2]
  show (v % 10) * 10 ^ l.length + val l + _ = _
  rw [h.len]
  have e3 : (10 * (v / 10) + v % 10) * 10 ^ k = (x + y + c) * 10 ^ k := by rw [Nat.div_add_mod, hv]
  rw [Nat.add_mul, Nat.add_mul, Nat.add_mul, Nat.mul_right_comm] at e3
  have e4 : v / 10 * 10 ^ (k + 1) = 10 * 10 ^ k * (v / 10) := by rw [Nat.pow_succ, Nat.mul_comm, Nat.mul_comm (10 ^ k)]
  rw [e4]
  omega
theorem PInv.done {a b : List Nat} {n : Nat} {l : List Nat} {c : Nat} (h : PInv a b n n l c) : val (if 0 < c then 1 :: l else l) = val a + val b ∧ Dgs (if 0 < c then 1 :: l else l) ∧ (if 0 < c then 1 :: l else l).length ≤ n + 1 := by
  have e := h.eq
  rw [Nat.sub_self, List.drop_zero, List.drop_zero] at e
  have hc := h.le
  by_cases h0 : 0 < c
  · rw [if_pos h0]
    have : c = 1 := by omega
    subst this
    refine ⟨?_, h.dgs.put (by omega), by simp [h.len]⟩
    show 1 * 10 ^ l.length + val l = _
    rw [h.len]; omega
  · rw [if_neg h0]
    have : c = 0 := by omega
    subst this
    exact ⟨by omega, h.dgs, by rw [h.len]; omega⟩
/-- What minus knows behind k digits. -/
structure SInv (a b : List Nat) (n k : Nat) (l : List Nat) (o : Nat) : Prop where
  len : l.length = k
  dgs : Dgs l
  le : o ≤ 1
  eq : val l + val (b.drop (n - k)) = val (a.drop (n - k)) + o * 10 ^ k
theorem SInv.start (a b : List Nat) (n : Nat) (ha : a.length = n) (hb : b.length = n) : SInv a b n 0 [] 0 := by
  refine ⟨rfl, fun x hx => by simp at hx, by omega, ?_⟩
  rw [List.drop_of_length_le (by omega), List.drop_of_length_le (by omega)]
  simp [val]
theorem SInv.step {a b : List Nat} {n k : Nat} {l : List Nat} {o : Nat} (h : SInv a b n k l o) (hda : Dgs a) (hdb : Dgs b) (ha : a.length = n) (hb : b.length = n) (hk : k < n) (x y : Nat) (hx : a[n - 1 - k]'(by omega) = x) (hy : b[n - 1 - k]'(by omega) = y) (v : Nat) (hv : v + y + o = x + 10) :
    SInv a b n (k + 1) ((v % 10) :: l) (1 - v / 10) := by
  have h1 := val_drop_succ a n k ha hk
  have h2 := val_drop_succ b n k hb hk
  rw [hx] at h1
  rw [hy] at h2
  have hx9 : x ≤ 9 := by rw [← hx]; exact hda _ (List.getElem_mem _)
  have hy9 : y ≤ 9 := by rw [← hy]; exact hdb _ (List.getElem_mem _)
  have hc := h.le
  refine ⟨by simp [h.len], h.dgs.put (by omega), by omega, ?_⟩
  have e := h.eq
  rw [h1, h2]
  show (v % 10) * 10 ^ l.length + val l + _ = _
  rw [h.len]
  have e3 : (10 * (v / 10) + v % 10) * 10 ^ k + y * 10 ^ k + o * 10 ^ k = (x + 10) * 10 ^ k := by rw [Nat.div_add_mod, ← Nat.add_mul, ← Nat.add_mul, hv]
  rw [Nat.add_mul, Nat.add_mul] at e3
  have e4 : (1 - v / 10) * 10 ^ (k + 1) + 10 * (v / 10) * 10 ^ k = 10 * 10 ^ k := by
    have : 10 ^ (k + 1) = 10 * 10 ^ k := by rw [Nat.pow_succ, Nat.mul_comm]
    rw [this, ← Nat.mul_assoc, ← Nat.add_mul]
    congr 1
    omega
  omega
theorem SInv.done {a b : List Nat} {n : Nat} {l : List Nat} {o : Nat} (h : SInv a b n n l o) (hle : val b ≤ val a) : val l + val b = val a := by
  have e := h.eq
  rw [Nat.sub_self, List.drop_zero, List.drop_zero] at e
  have hc := h.le
  have hlt := val_lt l h.dgs
  rw [h.len] at hlt
  by_cases h0 : o = 0
  · subst h0; omega
  · have : o = 1 := by omega
    subst this; omega
/-- A piece of the ten digits. -/
theorem dig_piece (r : Nat) (h : r ≤ 9) : (⟨#[48, 49, 50, 51, 52, 53, 54, 55, 56, 57]⟩ : ByteArray).extract r (r + 1) = mkS [r] := by
  have : r = 0 ∨ r = 1 ∨ r = 2 ∨ r = 3 ∨ r = 4 ∨ r = 5 ∨ r = 6 ∨ r = 7 ∨ r = 8 ∨ r = 9 := by omega
  rcases this with rfl | rfl | rfl | rfl | rfl | rfl | rfl | rfl | rfl | rfl <;> rfl
end Go.Proofs.YtolmbjeinilhlaaDoor
/- calamusref01's plus and minus: walked. -/
namespace Go.Proofs.YtolmbjeinilhlaaDoor
open Go.RowKit
set_option linter.unusedSimpArgs false
set_option linter.unusedVariables false
end Go.Proofs.YtolmbjeinilhlaaDoor
/- calamusref01's Made: walked. -/
namespace Go.Proofs.YtolmbjeinilhlaaDoor
open Go.RowKit
set_option linter.unusedSimpArgs false
set_option linter.unusedVariables false
theorem mkS_drop (l : List Nat) : (mkS l).extract 1 (mkS l).size = mkS (l.drop 1) := by
  rw [drop_mkB, mkS_bl, mkS_mkB, List.map_drop]
theorem mkS_take (l : List Nat) (k : Nat) : (mkS l).extract 0 k = mkS (l.take k) := by
  rw [extract_mkB, List.drop_zero, Nat.sub_zero, mkS_bl, mkS_mkB, List.map_take]
theorem lz_zero (d : List Nat) (j : Nat) (h : j < lz d) (h' : j < d.length) : d[j] = 0 := by
  have e := take_lz d
  have h1 : (d.take (lz d))[j]'(by simp; omega) = d[j] := List.getElem_take
  rw [← h1]
  simp only [e]
  exact List.getElem_replicate ..
theorem tz_zero (d : List Nat) (k : Nat) (h : k < tz d) (h' : d.length - 1 - k < d.length) : d[d.length - 1 - k] = 0 := by
  have h0 := lz_zero d.reverse k h (by have := tz_le d; simp; omega)
  rw [List.getElem_reverse] at h0
  exact h0
theorem tz_ne (d : List Nat) (h : tz d < d.length) : d[d.length - 1 - tz d]'(by omega) ≠ 0 := by
  have h0 := lz_ne d.reverse (by simpa [tz] using h)
  rw [List.getElem_reverse] at h0
  exact h0
/-- Made's answer. -/
def retM (r : Bool × ByteArray × Int × Int) : Ending := .returned (.tuple #[.agg #[.bool r.1, .string r.2.1, .int .i64 r.2.2.1], .bool (r.2.2.2 == 0)])
theorem core_isN (neg : Bool) (d : List Nat) (x : Int) (h : lz d < d.length) (hd : Dgs d) : isN neg (mkS (core d)) x = decide ((core d).length ≤ 40 ∧ -400 ≤ x ∧ x ≤ 400) := by
  obtain ⟨hc, hne⟩ := core_can d h hd
  by_cases hf : (core d).length ≤ 40 ∧ -400 ≤ x ∧ x ≤ 400
  · rw [decide_eq_true hf]
    have := mkS_isO (core d) x hc hne hf.1 hf.2.1 hf.2.2
    simp [isN, this]
  · rw [decide_eq_false hf]
    cases hn : isN neg (mkS (core d)) x
    · rfl
    · exfalso
      apply hf
      simp only [isN, Bool.or_eq_true] at hn
      rcases hn with hz | ho
      · have h1 := (isZ_mag hz).1
        rw [mkS_dg _ hc.dgs] at h1
        exact absurd rfl (hc.first 0 (by rw [h1]; rfl))
      · obtain ⟨b1, b2, b3, b4, _⟩ := isO_facts ho
        rw [mkS_size] at b2
        exact ⟨b2, b3, b4⟩
end Go.Proofs.YtolmbjeinilhlaaDoor
/- calamusref01's aligned: walked. -/
namespace Go.Proofs.YtolmbjeinilhlaaDoor
open Go.RowKit
set_option linter.unusedSimpArgs false
set_option linter.unusedVariables false
/-- What a number's digits and power come to. -/
theorem isN_digits {n : Bool} {s : ByteArray} {x : Int} (h : isN n s x = true) : ∃ l : List Nat, s = mkS l ∧ Dgs l ∧ l.length ≤ 40 ∧ -400 ≤ x ∧ x ≤ 400 ∧ mag s x = val l * 10 ^ (x + 400).toNat := by
  have key : allD (bl s) = true ∧ s.size ≤ 40 ∧ -400 ≤ x ∧ x ≤ 400 := by
    simp only [isN, Bool.or_eq_true] at h
    rcases h with h | h
    · obtain ⟨_, h2, h3⟩ := isZ_facts h
      have h4 := (isZ_mag h).2.1
      exact ⟨by rw [h2]; rfl, by omega, by omega, by omega⟩
    · obtain ⟨b1, b2, b3, b4, b5, _⟩ := isO_facts h
      exact ⟨b5, b2, b3, b4⟩
  exact ⟨dg s, (mkS_of s key.1).symm, dg_dgs s key.1, by rw [dg_length]; exact key.2.1, key.2.2.1, key.2.2.2, rfl⟩
theorem Dgs.zeros (n : Nat) : Dgs (List.replicate n 0) := fun d hd => by rw [List.eq_of_mem_replicate hd]; omega
theorem Dgs.both {a b : List Nat} (ha : Dgs a) (hb : Dgs b) : Dgs (a ++ b) := fun x hx => by
  rcases List.mem_append.1 hx with h | h
  · exact ha x h
  · exact hb x h
theorem qcat_run (a b c : ByteArray) (w : World) (h : a ++ b = c) (hs : a.size + b.size ≤ 100000) : (Op.stringOp .add a b).run Tryd.prog w = .ok (.string c) w := by
  rw [← h]; exact run_string_add_sum w a b (by omega)
end Go.Proofs.YtolmbjeinilhlaaDoor
/- calamusref01's Less, Cmp; num.Cmp of structs that are no numbers: walked. -/
namespace Go.Proofs.YtolmbjeinilhlaaDoor
open Go.RowKit
set_option linter.unusedSimpArgs false
set_option linter.unusedVariables false
/-- Two boxes. -/
structure Duo (w W : World) (na : Bool) (a : ByteArray) (xa : Int) (nb : Bool) (b : ByteArray) (xb : Int) : Prop where
  below : Below w.heap.size w W
  b0 : Box W w.heap.size na a xa
  b1 : Box W (w.heap.size + 1) nb b xb
theorem Duo.then {w W W1 : World} {na nb : Bool} {a b : ByteArray} {xa xb : Int} (h : Duo w W na a xa nb b xb) (hb : Below W.heap.size W W1) : Duo w W1 na a xa nb b xb :=
  ⟨below_then h.below hb, h.b0.below hb h.b0.lt, h.b1.below hb h.b1.lt⟩
theorem duo_new (w : World) (na : Bool) (a : ByteArray) (xa : Int) (nb : Bool) (b : ByteArray) (xb : Int) :
    Duo w ((w.alloc (.cells #[.bool na, .string a, .int .i64 xa] 29)).alloc (.cells #[.bool nb, .string b, .int .i64 xb] 29)) na a xa nb b xb := by
  refine ⟨below_al (below_al (Below.refl _ _)), (box_new w na a xa).alloc _, ?_⟩
  have := box_new (w.alloc (.cells #[.bool na, .string a, .int .i64 xa] 29)) nb b xb
  simpa using this
theorem isN_neg_pos {s : ByteArray} {x : Int} (h : isN true s x = true) : 0 < mag s x := by
  simp only [isN, Bool.or_eq_true] at h
  rcases h with h | h
  · have := (isZ_facts h).1; cases this
  · exact isO_pos h
theorem lt_scale {p q k : Nat} (hk : 0 < k) : (p * k < q * k) = (p < q) := by
  apply propext
  exact ⟨fun h => Nat.lt_of_mul_lt_mul_right h, fun h => Nat.mul_lt_mul_of_pos_right h hk⟩
/-- Cmp's answer of any two structs. -/
def cmpR (na : Bool) (a : ByteArray) (xa : Int) (nb : Bool) (b : ByteArray) (xb : Int) : Int × Int :=
  if isN na a xa = true ∧ isN nb b xb = true then (cmpI (Zv na a xa) (Zv nb b xb), 0) else (0, 10)
theorem ris_of (n : Bool) (s : ByteArray) (x : Int) (w : World) (hs : s.size ≤ maxLen) (r : Bool) (h : isN n s x = r) :
    Calls Tryd.prog 84 #[.agg #[.bool n, .string s, .int .i64 x]] w fun e w' => e = .returned (.bool r) ∧ Below w.heap.size w w' := by
  rw [← h]; exact ris_any n s x w hs
end Go.Proofs.YtolmbjeinilhlaaDoor
