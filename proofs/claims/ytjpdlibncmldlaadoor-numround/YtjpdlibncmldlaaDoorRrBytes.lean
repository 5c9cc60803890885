/- num.Bytes where it refuses; what is parsed is a number. -/
import Derived.Test.YtjpdlibncmldlaaDoorRqOf
namespace Go.Proofs.YtjpdlibncmldlaaDoor
open Go.RowKit
set_option linter.unusedSimpArgs false
set_option linter.unusedVariables false
theorem formF_isN {neg : Bool} {d : List Nat} {x : Int} (hd : Dgs d) {b : Bool} {s : ByteArray} {y : Int} (h : formF neg d x = (b, s, y, 0)) : isN b s y = true := by
  unfold formF at h
  by_cases hz : lz d = d.length
  · rw [if_pos hz] at h
    simp only [Prod.mk.injEq] at h
    obtain ⟨rfl, rfl, rfl, _⟩ := h
    rfl
  · rw [if_neg hz] at h
    have hlt : lz d < d.length := by have := lz_le d; omega
    obtain ⟨hc, hne⟩ := core_can d hlt hd
    by_cases hf : (core d).length ≤ 40 ∧ -400 ≤ x + tz (dz d) ∧ x + tz (dz d) ≤ 400
    · rw [if_pos hf] at h
      simp only [Prod.mk.injEq] at h
      obtain ⟨rfl, rfl, rfl, _⟩ := h
      have ho := mkS_isO (core d) (x + tz (dz d)) hc hne hf.1 hf.2.1 hf.2.2
      simp [isN, ho]
    · rw [if_neg hf] at h
      simp only [Prod.mk.injEq] at h
      exact absurd h.2.2.2 (by decide)
theorem parseF_isN {l : List UInt8} {b : Bool} {s : ByteArray} {y : Int} (h : parseF l = (b, s, y, 0)) : isN b s y = true := by
  unfold parseF at h
  cases hs : splitL l with
  | none =>
    rw [hs] at h
    simp only [Prod.mk.injEq] at h
    exact absurd h.2.2.2 (by decide)
  | some r =>
    obtain ⟨n, wh, fr, pn, pw⟩ := r
    rw [hs] at h
    simp only at h
    obtain ⟨f1, f2, _⟩ := splitL_facts hs
    split at h
    · simp only [Prod.mk.injEq] at h
      exact absurd h.2.2.2 (by decide)
    · refine formF_isN (fun d hd => ?_) h
      rcases List.mem_append.1 hd with q | q
      · exact dlu_dgs wh f1 d q
      · exact dlu_dgs fr f2 d q
theorem parseF_err (l : List UInt8) : (parseF l).2.2.2 = 0 ∨ (parseF l).2.2.2 = 10 ∨ (parseF l).2.2.2 = 2 := by
  unfold parseF
  cases splitL l with
  | none => exact Or.inr (Or.inl rfl)
  | some r =>
    obtain ⟨n, wh, fr, pn, pw⟩ := r
    simp only
    split
    · exact Or.inr (Or.inr rfl)
    · unfold formF
      split
      · exact Or.inl rfl
      · split
        · exact Or.inl rfl
        · exact Or.inr (Or.inr rfl)
theorem parseF_size {l : List UInt8} (h : (parseF l).2.2.2 ≠ 0) : parseF l = (false, ⟨#[]⟩, 0, (parseF l).2.2.2) := by
  revert h
  unfold parseF
  cases splitL l with
  | none => intro _; rfl
  | some r =>
    obtain ⟨n, wh, fr, pn, pw⟩ := r
    simp only
    split
    · intro _; rfl
    · unfold formF
      split
      · intro h; exact absurd rfl h
      · split
        · intro h; exact absurd rfl h
        · intro _; rfl
set_option maxHeartbeats 1000000 in
theorem bytes_form (n : Bool) (s : ByteArray) (x : Int) (w : World) (hs : s.size ≤ 100000) (h : isN n s x = false) :
    Calls Tryd.prog 24 #[.agg #[.bool n, .string s, .int .i64 x]] w fun e w' => e = .returned (.tuple #[.slice none 0 0, .int .i64 10]) ∧ Below w.heap.size w w' := by
  have ml : maxLen = 2 ^ 63 - 1 := rfl
  have hB := hide (box_new w n s x)
  go_enter Tryd.func24, Tryd.ntmps24
  go_wp2_with fail
  refine (check_no n s x _ (by omega) h).mono ?_
  rintro e w1 ⟨rfl, hb1⟩
  go_wp2
  go_ret2
  exact ⟨rfl, below_alloc hb1⟩
set_option maxHeartbeats 1000000 in
theorem bytes_whole (n : Bool) (s : ByteArray) (x : Int) (w : World) (h : isN n s x = true) (hx : x < 0) :
    Calls Tryd.prog 24 #[.agg #[.bool n, .string s, .int .i64 x]] w fun e w' => e = .returned (.tuple #[.slice none 0 0, .int .i64 11]) ∧ Below w.heap.size w w' := by
  have ml : maxLen = 2 ^ 63 - 1 := rfl
  obtain ⟨had, hl1, hl40, hx1, hx2, hdg⟩ := isN_all h
  clear had hdg
  have hx0 : decide (x < 0) = true := decide_eq_true hx
  have hB := hide (box_new w n s x)
  go_enter Tryd.func24, Tryd.ntmps24
  go_wp2_with fail
  refine (check_ok n s x _ (by omega) h).mono ?_
  rintro e w1 ⟨rfl, hb1⟩
  have hB1 := hide (hB.out.below hb1 (by simp))
  obtain ⟨c0, c1, c2, f0, f1, f2⟩ := hB1.out.cells
  go_wp2
  go_ret2
  exact ⟨rfl, below_alloc hb1⟩
set_option maxHeartbeats 1000000 in
theorem bytes_limit (n : Bool) (s : ByteArray) (x : Int) (w : World) (h : isN n s x = true) (hx : 0 ≤ x) (hsx : 40 < (s.size : Int) + x) :
    Calls Tryd.prog 24 #[.agg #[.bool n, .string s, .int .i64 x]] w fun e w' => e = .returned (.tuple #[.slice none 0 0, .int .i64 2]) ∧ Below w.heap.size w w' := by
  have ml : maxLen = 2 ^ 63 - 1 := rfl
  obtain ⟨had, hl1, hl40, hx1, hx2, hdg⟩ := isN_all h
  clear had hdg
  have hx0 : decide (x < 0) = false := decide_eq_false (by omega)
  have hx40 : decide (40 < (s.size : Int) + x) = true := decide_eq_true hsx
  have hB := hide (box_new w n s x)
  go_enter Tryd.func24, Tryd.ntmps24
  go_wp2_with fail
  refine (check_ok n s x _ (by omega) h).mono ?_
  rintro e w1 ⟨rfl, hb1⟩
  have hB1 := hide (hB.out.below hb1 (by simp))
  obtain ⟨c0, c1, c2, f0, f1, f2⟩ := hB1.out.cells
  go_wp2
  go_ret2
  exact ⟨rfl, below_alloc hb1⟩
/-- What Bytes refuses with. -/
def bytesE (n : Bool) (s : ByteArray) (x : Int) : Int := if isN n s x then (if x < 0 then 11 else if 40 < (s.size : Int) + x then 2 else 0) else 10
theorem bytes_no (n : Bool) (s : ByteArray) (x : Int) (w : World) (hs : s.size ≤ 100000) (h : bytesE n s x ≠ 0) :
    Calls Tryd.prog 24 #[.agg #[.bool n, .string s, .int .i64 x]] w fun e w' => e = .returned (.tuple #[.slice none 0 0, .int .i64 (bytesE n s x)]) ∧ Below w.heap.size w w' := by
  unfold bytesE at h ⊢
  cases hN : isN n s x
  · exact bytes_form n s x w hs hN
  · rw [hN] at h
    simp only [if_true] at h ⊢
    by_cases hx : x < 0
    · rw [if_pos hx]; exact bytes_whole n s x w hN hx
    · rw [if_neg hx] at h ⊢
      by_cases h40 : 40 < (s.size : Int) + x
      · rw [if_pos h40]; exact bytes_limit n s x w hN (by omega) h40
      · rw [if_neg h40] at h; exact absurd rfl h
theorem bytes_yes {n : Bool} {s : ByteArray} {x : Int} (h : bytesE n s x = 0) : isN n s x = true ∧ 0 ≤ x ∧ (s.size : Int) + x ≤ 40 := by
  unfold bytesE at h
  cases hN : isN n s x
  · rw [hN] at h; simp at h
  · rw [hN] at h
    simp only [if_true] at h
    split at h
    · exact absurd h (by decide)
    · split at h
      · exact absurd h (by decide)
      · exact ⟨rfl, by omega, by omega⟩
end Go.Proofs.YtjpdlibncmldlaaDoor
