/- utf's Count, Decode: walked. -/
import Derived.Test.YtemlpjnophijfaaDoorUvBegins
import Derived.Lib.RuneCount
namespace Go.Proofs.YtemlpjnophijfaaDoor.Ut
open Go.RowKit
set_option linter.unusedSimpArgs false
set_option linter.unusedVariables false
/-- How far a range over a text goes at a time. -/
def wid (l : List UInt8) : Nat := ((chr l).getD (65533, 1)).2
/-- How many rounds a range over a text has. -/
def cnt : Nat → List UInt8 → Nat
  | 0, _ => 0
  | _ + 1, [] => 0
  | f + 1, a :: l => 1 + cnt f ((a :: l).drop (wid (a :: l)))
theorem wid_pos (l : List UInt8) : 1 ≤ wid l := by
  unfold wid
  cases h : chr l with
  | none => simp
  | some rn => obtain ⟨r, n⟩ := rn; exact (chr_some h).1
theorem wid_le {l : List UInt8} (h : l ≠ []) : wid l ≤ l.length := by
  unfold wid
  cases hc : chr l with
  | none => cases l with
    | nil => exact absurd rfl h
    | cons a l => simp
  | some rn => obtain ⟨r, n⟩ := rn; exact (chr_some hc).2.2.1
theorem cnt_le : ∀ (f : Nat) (l : List UInt8), cnt f l ≤ f
  | 0, _ => Nat.le_refl _
  | _ + 1, [] => Nat.zero_le _
  | f + 1, a :: l => by have := cnt_le f ((a :: l).drop (wid (a :: l))); simp only [cnt]; omega
/-- More rounds than bytes change nothing. -/
theorem cnt_more : ∀ (f : Nat) (l : List UInt8), l.length ≤ f → cnt f l = cnt l.length l
  | 0, l, h => by have : l = [] := List.length_eq_zero_iff.1 (by omega); subst this; rfl
  | f + 1, [], h => rfl
  | f + 1, a :: l, h => by
    have hw := wid_pos (a :: l)
    have hd : ((a :: l).drop (wid (a :: l))).length ≤ l.length := by rw [List.length_drop, List.length_cons]; omega
    simp only [List.length_cons] at h
    simp only [cnt, List.length_cons]
    rw [cnt_more f _ (by omega), cnt_more l.length _ hd]
/-- How many characters a text has. -/
def chars (l : List UInt8) : Nat := cnt l.length l
theorem chars_nil : chars [] = 0 := rfl
theorem chars_step {l : List UInt8} (h : l ≠ []) : chars l = 1 + chars (l.drop (wid l)) := by
  cases l with
  | nil => exact absurd rfl h
  | cons a l =>
    unfold chars
    have hw := wid_pos (a :: l)
    have hd : ((a :: l).drop (wid (a :: l))).length ≤ l.length := by rw [List.length_drop, List.length_cons]; omega
    simp only [List.length_cons, cnt]
    rw [cnt_more l.length _ hd]
theorem chars_le (l : List UInt8) : chars l ≤ l.length := cnt_le _ _
theorem decode_wid (s : ByteArray) (i : Nat) (h : i < s.size) : (Utf8.decode s i).2 = wid ((bl s).drop i) := by rw [decode_chr s i h]; rfl
/-- What stands at the front: a character and its length, or an error. -/
def decF (l : List UInt8) : Nat × Nat × Nat := match chr l with
  | some (r, n) => (r, n, 0)
  | none => if (run .i8 l).isSome then (0, 0, 31) else (0, 0, 30)
/-- What Decode answers. -/
def decA (l : List UInt8) (at' : Int) : Nat × Nat × Nat := if 0 ≤ at' ∧ at' < l.length then decF (l.drop at'.toNat) else (0, 0, 1)
theorem extract_bl (s : ByteArray) (pos : Nat) : bl (s.extract pos s.size) = (bl s).drop pos := by
  have := Lib.extract_eq s pos s.size
  rw [this]
  show (((bl s).drop pos).take (s.size - pos)) = _
  exact List.take_of_length_le (by rw [List.length_drop, bl_length]; omega)
theorem decodeGo_chr (s : ByteArray) (h : 0 < s.size) : Lib.decodeGo s = (chr (bl s)).getD (65533, 1) := by
  unfold Lib.decodeGo
  rw [if_neg (by omega), decode_chr s 0 h, List.drop_zero]
end Go.Proofs.YtemlpjnophijfaaDoor.Ut
