/- The two Parses make the same of every text. -/
import Derived.Test.YtjpdlibncmldlaaDoorQqParse
import Derived.Test.YtjpdlibncmldlaaDoorOhAwake
namespace Go.Proofs.YtjpdlibncmldlaaDoor
open Go.RowKit
set_option linter.unusedSimpArgs false
set_option linter.unusedVariables false
theorem pwB_ge : ∀ (l : List UInt8) (acc : Nat), 913 ≤ acc → 913 ≤ pwB acc l
  | [], acc, h => h
  | c :: l, acc, h => by
    unfold pwB
    exact pwB_ge l _ (by omega)
theorem u8_sub (c : UInt8) : c.toNat - 48 ≤ 207 := by have := c.toNat_lt; omega
/-- The two powers: the same, or both far out. -/
theorem pw_same : ∀ (l : List UInt8) (acc : Nat), pwA acc l = pwB acc l ∨ (913 ≤ pwA acc l ∧ 913 ≤ pwB acc l)
  | [], acc => Or.inl rfl
  | c :: l, acc => by
    by_cases h : acc ≤ 912
    · have hc := u8_sub c
      have e1 : pwA acc (c :: l) = pwA (acc * 10 + (c.toNat - 48)) l := if_pos h
      have e2 : pwB acc (c :: l) = pwB (min (10 * acc + (c.toNat - 48)) 1000000) l := rfl
      have e3 : min (10 * acc + (c.toNat - 48)) 1000000 = acc * 10 + (c.toNat - 48) := by omega
      rw [e1, e2, e3]
      exact pw_same l _
    · right
      rw [pwA_far acc (c :: l) h]
      exact ⟨by omega, pwB_ge (c :: l) acc (by omega)⟩
theorem pow_same (pn : Bool) (l : List UInt8) : powB pn l = powF pn l ∨ (913 ≤ powB pn l ∧ 913 ≤ powF pn l) ∨ (powB pn l ≤ -913 ∧ powF pn l ≤ -913) := by
  unfold powB powF
  rcases pw_same l 0 with h | ⟨h1, h2⟩
  · left; rw [h]
  · right
    cases pn
    · left; simp; omega
    · right; simp; omega
theorem formF_far (n : Bool) (d : List Nat) (x y : Int) (h : (∀ t : Nat, t ≤ d.length → ¬ (-400 ≤ x + t ∧ x + t ≤ 400)) ∧ (∀ t : Nat, t ≤ d.length → ¬ (-400 ≤ y + t ∧ y + t ≤ 400))) : formF n d x = formF n d y := by
  have ht : tz (dz d) ≤ d.length := Nat.le_trans (tz_le _) (by unfold dz; rw [List.length_drop]; omega)
  unfold formF
  split
  · rfl
  · rw [if_neg (fun q => h.1 _ ht q.2), if_neg (fun q => h.2 _ ht q.2)]
theorem parse_same (l : List UInt8) : parseR l = parseF l := by
  unfold parseR parseF
  cases h : splitL l with
  | none => rfl
  | some r =>
    obtain ⟨n, wh, fr, pn, pw⟩ := r
    have hf := splitL_facts h
    show (if 512 < l.length then _ else _) = (if 512 < l.length then _ else _)
    split
    · rfl
    · rename_i hs
      have hl : wh.length + fr.length ≤ 512 := by omega
      have hdl : (dlu wh ++ dlu fr).length = wh.length + fr.length := by rw [List.length_append, dlu_len, dlu_len]
      rcases pow_same pn pw with e | ⟨e1, e2⟩ | ⟨e1, e2⟩
      · rw [e]
      · exact formF_far _ _ _ _ ⟨fun t ht => by omega, fun t ht => by omega⟩
      · exact formF_far _ _ _ _ ⟨fun t ht => by omega, fun t ht => by omega⟩
/-- The reference's Parse, at every text: what num.Parse makes of it. -/
theorem rparse_same (s : ByteArray) (w : World) (hs : s.size ≤ 80000) :
    Calls Tryd.prog 11 #[.string s] w fun e w' => e = retF (parseF (bl s)) ∧ Below w.heap.size w w' := by
  have h := rparse_any (bl s) w (by rw [bl_length]; exact hs)
  rw [mkB_bl, parse_same] at h
  exact h
end Go.Proofs.YtjpdlibncmldlaaDoor
