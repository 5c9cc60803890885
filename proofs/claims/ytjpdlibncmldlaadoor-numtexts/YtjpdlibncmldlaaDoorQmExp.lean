/- calamusref01's exponent: walked. -/
import Derived.Test.YtjpdlibncmldlaaDoorQlCut
import Derived.Test.YtjpdlibncmldlaaDoorNvSplit
namespace Go.Proofs.YtjpdlibncmldlaaDoor
open Go.RowKit
set_option linter.unusedSimpArgs false
set_option linter.unusedVariables false
/-- The power that digits say, cut off at a million. -/
def pwB (acc : Nat) : List UInt8 → Nat
  | [] => acc
  | c :: l => pwB (min (10 * acc + (c.toNat - 48)) 1000000) l
theorem pwB_le : ∀ (l : List UInt8) (acc : Nat), acc ≤ 1000000 → pwB acc l ≤ 1000000
  | [], acc, h => h
  | c :: l, acc, h => by unfold pwB; exact pwB_le l _ (Nat.min_le_right _ _)
theorem pwB_snoc : ∀ (l : List UInt8) (acc : Nat) (c : UInt8), pwB acc (l ++ [c]) = min (10 * pwB acc l + (c.toNat - 48)) 1000000
  | [], acc, c => rfl
  | a :: l, acc, c => by show pwB _ (l ++ [c]) = _; rw [pwB_snoc l]; rfl
/-- What exponent answers. -/
def expV : List UInt8 → Int × Bool
  | [] => (0, true)
  | c :: r => if c == 101 || c == 69 then (if spOk r then ((if spPn r then -(pwB 0 (spL r) : Int) else (pwB 0 (spL r) : Int)), true) else (0, false)) else (0, false)
theorem mkB_ext (c : UInt8) (r : List UInt8) : (mkB (c :: r)).extract 1 (r.length + 1) = mkB r := by
  have h := drop_mkB (mkB (c :: r)) 1
  rw [mkB_size, bl_mkB] at h
  exact h
theorem dw_nil (l : List UInt8) (h : allD l = true) : l.dropWhile isDig = [] := by
  induction l with
  | nil => rfl
  | cons a l ih =>
    simp only [allD, List.all_cons, Bool.and_eq_true] at h
    rw [List.dropWhile_cons, if_pos h.1]
    exact ih h.2
theorem spOk_cut (l : List UInt8) : (!(l.takeWhile isDig).isEmpty && (l.dropWhile isDig).isEmpty) = (!l.isEmpty && allD l) := by
  cases hd : allD l
  · have : (l.dropWhile isDig).isEmpty = false := by
      cases hq : l.dropWhile isDig with
      | nil =>
        exfalso
        have h1 := List.takeWhile_append_dropWhile (p := isDig) (l := l)
        rw [hq, List.append_nil] at h1
        have h2 := List.all_takeWhile (p := isDig) (l := l)
        rw [h1] at h2
        unfold allD at hd
        rw [h2] at hd; cases hd
      | cons => rfl
    rw [this]; simp
  · have h1 : l.dropWhile isDig = [] := dw_nil l hd
    have h2 : l.takeWhile isDig = l := by
      have := List.takeWhile_append_dropWhile (p := isDig) (l := l)
      rw [h1, List.append_nil] at this
      exact this
    rw [h1, h2]; rfl
theorem mkB_isEmpty (l : List UInt8) : (mkB l).toList.isEmpty = l.isEmpty := mkB_nil l
/-- Behind e and the sign: the digits. -/
def tailE (pn : Bool) (l : List UInt8) : Ending := if !(l.takeWhile isDig).isEmpty && (l.dropWhile isDig).isEmpty then .returned (.tuple #[.int .i64 (if pn then -(pwB 0 (l.takeWhile isDig) : Int) else (pwB 0 (l.takeWhile isDig) : Int)), .bool true]) else .returned (.tuple #[.int .i64 0, .bool false])
theorem exp_tail (c : UInt8) (r : List UInt8) (h : (c == 101 || c == 69) = true) : tailE (spPn r) (spL r) = .returned (.tuple #[.int .i64 (expV (c :: r)).1, .bool (expV (c :: r)).2]) := by
  have h1 := spOk_cut (spL r)
  have h0 : expV (c :: r) = if spOk r then ((if spPn r then -(pwB 0 (spL r) : Int) else (pwB 0 (spL r) : Int)), true) else (0, false) := by
    show (if c == 101 || c == 69 then _ else _) = _
    rw [if_pos h]
  unfold tailE
  rw [h1, h0]
  have h2 : spOk r = (!(spL r).isEmpty && allD (spL r)) := rfl
  rw [h2]
  cases hq : (!(spL r).isEmpty && allD (spL r))
  · rfl
  · have hal : allD (spL r) = true := by
      cases ha : allD (spL r)
      · rw [ha] at hq; simp at hq
      · rfl
    have : (spL r).takeWhile isDig = spL r := by
      have h3 := List.takeWhile_append_dropWhile (p := isDig) (l := spL r)
      have h4 : (spL r).dropWhile isDig = [] := dw_nil _ hal
      rw [h4, List.append_nil] at h3
      exact h3
    rw [this]
    rfl
end Go.Proofs.YtjpdlibncmldlaaDoor
