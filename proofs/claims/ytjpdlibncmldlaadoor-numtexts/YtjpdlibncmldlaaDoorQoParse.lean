/- calamusref01's Parse: walked. -/
import Derived.Test.YtjpdlibncmldlaaDoorQnExp
import Derived.Test.YtjpdlibncmldlaaDoorNzParse
namespace Go.Proofs.YtjpdlibncmldlaaDoor
open Go.RowKit
set_option linter.unusedSimpArgs false
set_option linter.unusedVariables false
/-- The power that the pieces say, cut off at a million. -/
def powB (pn : Bool) (l : List UInt8) : Int := if pn then -(pwB 0 l : Int) else pwB 0 l
/-- What the reference's Parse makes of a text. -/
def parseR (l : List UInt8) : Bool × ByteArray × Int × Int :=
  match splitL l with
  | none => (false, ⟨#[]⟩, 0, 10)
  | some (n, wh, fr, pn, pw) => if 512 < l.length then (false, ⟨#[]⟩, 0, 2) else formF n (dlu wh ++ dlu fr) (powB pn pw - fr.length)
theorem expV_none (n : Bool) (wh fr l4 : List UInt8) (h : (expV l4).2 = false) : splitT n wh fr l4 = none ∧ expV l4 = (0, false) := by
  cases l4 with
  | nil => cases h
  | cons c r =>
    have h0 : expV (c :: r) = if c == 101 || c == 69 then (if spOk r then ((if spPn r then -(pwB 0 (spL r) : Int) else (pwB 0 (spL r) : Int)), true) else (0, false)) else (0, false) := rfl
    have h1 : splitT n wh fr (c :: r) = if c == 101 || c == 69 then (if spOk r then some (n, wh, fr, spPn r, spL r) else none) else none := rfl
    rw [h0] at h ⊢
    rw [h1]
    split at h
    · rename_i q
      rw [if_pos q, if_pos q]
      split at h
      · cases h
      · rename_i q2
        rw [if_neg q2, if_neg q2]
        exact ⟨rfl, rfl⟩
    · rename_i q
      rw [if_neg q, if_neg q]
      exact ⟨rfl, rfl⟩
theorem expV_some (n : Bool) (wh fr l4 : List UInt8) (h : (expV l4).2 = true) : ∃ pn pw, splitT n wh fr l4 = some (n, wh, fr, pn, pw) ∧ expV l4 = (powB pn pw, true) ∧ pwB 0 pw ≤ 1000000 := by
  cases l4 with
  | nil => exact ⟨false, [], rfl, rfl, by unfold pwB; omega⟩
  | cons c r =>
    have h0 : expV (c :: r) = if c == 101 || c == 69 then (if spOk r then ((if spPn r then -(pwB 0 (spL r) : Int) else (pwB 0 (spL r) : Int)), true) else (0, false)) else (0, false) := rfl
    have h1 : splitT n wh fr (c :: r) = if c == 101 || c == 69 then (if spOk r then some (n, wh, fr, spPn r, spL r) else none) else none := rfl
    rw [h0] at h ⊢
    rw [h1]
    split at h
    · rename_i q
      rw [if_pos q, if_pos q]
      split at h
      · rename_i q2
        rw [if_pos q2, if_pos q2]
        exact ⟨spPn r, spL r, rfl, rfl, pwB_le _ _ (by omega)⟩
      · cases h
    · cases h
theorem rexp_any (l : List UInt8) (w : World) (hl : l.length ≤ 90000) :
    Calls Tryd.prog 33 #[.string (mkB l)] w fun e w' => e = .returned (.tuple #[.int .i64 (expV l).1, .bool (expV l).2]) ∧ Below w.heap.size w w' := by
  cases l with
  | nil => exact rexp_nil w
  | cons c r =>
    cases h : (c == 101 || c == 69)
    · have h0 : expV (c :: r) = (0, false) := by
        show (if c == 101 || c == 69 then _ else _) = _
        rw [h]; rfl
      rw [h0]
      exact rexp_no c r w h (by simp at hl; omega)
    · rw [← exp_tail c r h]
      exact rexp_e c r w h (by simp at hl; omega)
theorem formF_err2 (neg : Bool) (l : List Nat) (x : Int) {fb : Bool} {fs : ByteArray} {fx fe : Int} (h : formF neg l x = (fb, fs, fx, fe)) : fe = 0 ∨ (fb = false ∧ fs = ⟨#[]⟩ ∧ fx = 0 ∧ fe = 2) := by
  unfold formF at h
  split at h
  · left; exact (congrArg (fun r => r.2.2.2) h).symm
  · split at h
    · left; exact (congrArg (fun r => r.2.2.2) h).symm
    · right
      exact ⟨(congrArg (fun r => r.1) h).symm, (congrArg (fun r => r.2.1) h).symm, (congrArg (fun r => r.2.2.1) h).symm, (congrArg (fun r => r.2.2.2) h).symm⟩
theorem dlu_len (l : List UInt8) : (dlu l).length = l.length := by simp [dlu]
theorem mkB_dlu (l : List UInt8) (h : allD l = true) : mkB l = mkS (dlu l) := by
  have := mkS_of (mkB l) (by rw [bl_mkB]; exact h)
  rw [dlu_mkB] at this
  exact this.symm
/-- What is behind the power: Made, and its answer told. -/
structure Fin (w W : World) : Prop where
  below : Below w.heap.size w W
  box : Box W w.heap.size false ⟨#[]⟩ 0
theorem Fin.then {w W W1 : World} (h : Fin w W) (hb : Below W.heap.size W W1) : Fin w W1 := ⟨below_then h.below hb, h.box.below hb h.box.lt⟩
theorem Fin.drew {w W : World} (h : Fin w W) : Fin w W.drew := ⟨h.below.drew, h.box⟩
theorem fin_new (w : World) : Fin w (w.alloc (.cells #[.bool false, .string ⟨#[]⟩, .int .i64 0] 23)) := ⟨below_al (Below.refl _ _), box_new w false ⟨#[]⟩ 0⟩
end Go.Proofs.YtjpdlibncmldlaaDoor
