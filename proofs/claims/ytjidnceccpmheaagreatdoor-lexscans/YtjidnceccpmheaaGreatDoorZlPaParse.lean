/- num.Parse, as a whole. -/
import Derived.Test.YtjidnceccpmheaaGreatDoorZlNzParseA
import Derived.Test.YtjidnceccpmheaaGreatDoorZlNzParseB
import Derived.Test.YtjidnceccpmheaaGreatDoorZlNzParseC
namespace Go.Proofs.YtjidnceccpmheaaGreatDoor
open Go.RowKit
set_option linter.unusedSimpArgs false
set_option linter.unusedVariables false
/-- Parse is parseF. -/
theorem parse_any (s : ByteArray) (w : World) (hs : s.size ≤ 100000) :
    Calls Tryz.prog 44 #[.string s] w fun e w' => e = retF (parseF (bl s)) ∧ Below w.heap.size w w' := by
  unfold parseF
  cases h : splitL (bl s) with
  | none => exact parse_none s w hs h
  | some r =>
    obtain ⟨n, wh, fr, pn, pw⟩ := r
    simp only
    rw [bl_length]
    by_cases hl : 512 < s.size
    · rw [if_pos hl]; exact parse_long s w hs n wh fr pn pw h hl
    · rw [if_neg hl]
      by_cases hfr : fr.length = 0
      · by_cases hw : wh.length < 512
        · exact parse_some_a s w (by omega) n wh fr pn pw h hfr hw
        · exact parse_some_b s w (by omega) n wh fr pn pw h hfr hw
      · exact parse_some_c s w (by omega) n wh fr pn pw h hfr
theorem formF_isN {neg : Bool} {d : List Nat} {x : Int} (hd : Dgs d) {b : Bool} {s : ByteArray} {y : Int} (h : formF neg d x = (b, s, y, 0)) : isN b s y = true := by
  unfold formF at h
  by_cases hz : lz d = d.length
  · rw [if_pos hz] at h
    simp only [Prod.mk.injEq] at h
    obtain ⟨rfl, rfl, rfl, _⟩ := h
    rfl
  · rw [if_neg hz] at h
    have hlt : lz d < d.length := by have := lz_le d; omega
    obtain ⟨hc, hne⟩ := core_can d hlt hd
    by_cases hf : (core d).length ≤ 40 ∧ -400 ≤ x + tz (dz d) ∧ x + tz (dz d) ≤ 400
    · rw [if_pos hf] at h
      simp only [Prod.mk.injEq] at h
      obtain ⟨rfl, rfl, rfl, _⟩ := h
      have ho := mkS_isO (core d) (x + tz (dz d)) hc hne hf.1 hf.2.1 hf.2.2
      simp [isN, ho]
    · rw [if_neg hf] at h
      simp only [Prod.mk.injEq] at h
      exact absurd h.2.2.2 (by decide)
theorem parseF_isN {l : List UInt8} {b : Bool} {s : ByteArray} {y : Int} (h : parseF l = (b, s, y, 0)) : isN b s y = true := by
  unfold parseF at h
  cases hs : splitL l with
  | none =>
    rw [hs] at h
    simp only [Prod.mk.injEq] at h
    exact absurd h.2.2.2 (by decide)
  | some r =>
    obtain ⟨n, wh, fr, pn, pw⟩ := r
    rw [hs] at h
    simp only at h
    obtain ⟨f1, f2, _⟩ := splitL_facts hs
    split at h
    · simp only [Prod.mk.injEq] at h
      exact absurd h.2.2.2 (by decide)
    · refine formF_isN (fun d hd => ?_) h
      rcases List.mem_append.1 hd with q | q
      · exact dlu_dgs wh f1 d q
      · exact dlu_dgs fr f2 d q
theorem parseF_err (l : List UInt8) : (parseF l).2.2.2 = 0 ∨ (parseF l).2.2.2 = 10 ∨ (parseF l).2.2.2 = 2 := by
  unfold parseF
  cases splitL l with
  | none => exact Or.inr (Or.inl rfl)
  | some r =>
    obtain ⟨n, wh, fr, pn, pw⟩ := r
    simp only
    split
    · exact Or.inr (Or.inr rfl)
    · unfold formF
      split
      · exact Or.inl rfl
      · split
        · exact Or.inl rfl
        · exact Or.inr (Or.inr rfl)
theorem parseF_size {l : List UInt8} (h : (parseF l).2.2.2 ≠ 0) : parseF l = (false, ⟨#[]⟩, 0, (parseF l).2.2.2) := by
  revert h
  unfold parseF
  cases splitL l with
  | none => intro _; rfl
  | some r =>
    obtain ⟨n, wh, fr, pn, pw⟩ := r
    simp only
    split
    · intro _; rfl
    · unfold formF
      split
      · intro h; exact absurd rfl h
      · split
        · intro h; exact absurd rfl h
        · intro _; rfl
end Go.Proofs.YtjidnceccpmheaaGreatDoor
