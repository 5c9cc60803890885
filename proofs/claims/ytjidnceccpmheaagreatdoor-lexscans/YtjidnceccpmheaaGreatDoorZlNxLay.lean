/- num's lay and powerOf: walked. -/
import Derived.Test.YtjidnceccpmheaaGreatDoorZlNuSplit
import Derived.Test.YtjidnceccpmheaaGreatDoorZlN
namespace Go.Proofs.YtjidnceccpmheaaGreatDoor
open Go.RowKit
set_option linter.unusedSimpArgs false
set_option linter.unusedVariables false
/-- A power of ten's digits, as a number; far beyond it is just beyond. -/
def pwA (acc : Nat) : List UInt8 → Nat
  | [] => acc
  | c :: l => if acc ≤ 912 then pwA (acc * 10 + (c.toNat - 48)) l else acc
theorem pwA_far (acc : Nat) (l : List UInt8) (h : ¬ acc ≤ 912) : pwA acc l = acc := by cases l <;> simp [pwA, h]
/-- The power that the pieces say. -/
def powF (pn : Bool) (l : List UInt8) : Int := if pn then -(pwA 0 l : Int) else pwA 0 l
theorem pwA_le : ∀ (l : List UInt8) (acc : Nat), allD l = true → acc ≤ 9129 → pwA acc l ≤ 9129
  | [], acc, _, h => h
  | c :: l, acc, hd, h => by
    simp only [allD, List.all_cons, Bool.and_eq_true] at hd
    have := (isDig_iff c).1 hd.1
    unfold pwA
    split
    · exact pwA_le l _ hd.2 (by omega)
    · exact h
set_option maxHeartbeats 1000000 in
theorem powerOf_any (n : Bool) (wh fr : ByteArray) (pn : Bool) (pw : ByteArray) (w : World) (hs : pw.size ≤ 100000) (hd : allD (bl pw) = true) :
    Calls Tryz.prog 56 #[.agg #[.bool n, .string wh, .string fr, .bool pn, .string pw]] w fun e w' => e = .returned (.int .i64 (powF pn (bl pw))) ∧ Below w.heap.size w w' := by
  have hd := hide hd
  go_enter Tryz.func56, Tryz.ntmps56
  go_wp2
  go_loop [3, 4] (fun p i => ∃ k acc : Nat, k ≤ pw.size ∧ i = .int .i64 k ∧ p = .int .i64 acc ∧ acc ≤ 9129 ∧ Hid (pwA 0 (bl pw) = pwA acc ((bl pw).drop k))) (fun _ i => pw.size - (intOf i).toNat)
  case atStart => exact ⟨0, 0, Nat.zero_le _, rfl, rfl, by omega, rfl⟩
  case round =>
    obtain ⟨k, acc, hk, rfl, rfl, hacc, hp⟩ := hrel
    by_cases hlt : k < pw.size
    · have hdrop : (bl pw).drop k = pw[k] :: (bl pw).drop (k + 1) := by
        rw [List.drop_eq_getElem_cons (by rw [bl_length]; exact hlt), bl_get pw k hlt]
      have hdg := allD_get pw hd.out k hlt
      by_cases hf : acc ≤ 912
      · have hp' : Hid (pwA 0 (bl pw) = pwA (acc * 10 + (pw[k].toNat - 48)) ((bl pw).drop (k + 1))) := by
          show _ = _
          rw [hp.out, hdrop]; simp [pwA, hf]
        clear hdrop
        go_wp2
        go_round
        case rel => exact ⟨k + 1, acc * 10 + (pw[k].toNat - 48), by omega, by go_num, by
          show Value.int _ _ = Value.int _ _
          congr 1
          omega, by omega, hp'.out⟩
        case measure => simp [intOf]; omega
      · have hp' : Hid (pwA 0 (bl pw) = acc) := by
          show _ = _
          rw [hp.out, pwA_far acc _ hf]
        have hf' : decide ((acc : Int) ≤ 912) = false := decide_eq_false (by omega)
        clear hdrop
        cases pn
        all_goals
          go_wp2
          go_ret
          refine ⟨ret_int ?_, (Below.refl _ _).alloc (Nat.le_refl _) _⟩
          simp [powF, hp'.out]
    · have hp' : Hid (pwA 0 (bl pw) = acc) := by
        show _ = _
        rw [hp.out, List.drop_of_length_le (by rw [bl_length]; omega)]; rfl
      cases pn
      all_goals
        go_wp2
        go_ret
        refine ⟨ret_int ?_, (Below.refl _ _).alloc (Nat.le_refl _) _⟩
        simp [powF, hp'.out]
/-- A row with the digits of a text laid into it from o on. -/
def layR (p : List Nat) (o : Nat) (d : List Nat) : List Nat := p.take o ++ d ++ p.drop (o + d.length)
theorem layR_len (p : List Nat) (o : Nat) (d : List Nat) (h : o + d.length ≤ p.length) : (layR p o d).length = p.length := by
  unfold layR; simp; omega
theorem layR_step (p : List Nat) (o k : Nat) (d : List Nat) (hk : k < d.length) (h : o + d.length ≤ p.length) : (layR p o (d.take k)).set (o + k) d[k] = layR p o (d.take (k + 1)) := by
  have hl : (p.take o ++ d.take k).length = o + k := by simp; omega
  unfold layR
  rw [List.set_append_right _ _ (by rw [hl]; exact Nat.le_refl _), hl, Nat.sub_self]
  have e1 : (d.take k).length = k := by simp; omega
  have e2 : (d.take (k + 1)).length = k + 1 := by simp; omega
  rw [e1, e2, List.drop_eq_getElem_cons (by omega), List.set_cons_zero, List.take_succ_eq_append_getElem hk]
  simp only [List.append_assoc, List.cons_append, List.nil_append, Nat.add_assoc]
set_option maxHeartbeats 1000000 in
theorem lay_any (b o n c : Nat) (T : TypeId) (p : List Nat) (s : ByteArray) (w : World) (hA : Arr w b T p) (hsn : s.size ≤ n) (hon : o + n ≤ p.length) (hd : allD (bl s) = true) (hn : p.length ≤ 100000) :
    Calls Tryz.prog 54 #[.slice (some ⟨b, o, none⟩) n c, .string s] w fun e w' => e = .returned (.int .i64 s.size) ∧ Arr w' b T (layR p o (dg s)) ∧ Only b w w' := by
  have hd := hide hd
  have hA := hide hA
  go_enter Tryz.func54, Tryz.ntmps54
  go_wp2
  go_loopw [8] (fun i wr => ∃ k : Nat, k ≤ s.size ∧ i = .int .i64 k ∧ Hid (Arr wr b T (layR p o ((dg s).take k))) ∧ Hid (Only b w wr)) (fun i _ => s.size - (intOf i).toNat)
  case atStart => exact ⟨0, Nat.zero_le _, rfl, by show Arr _ _ _ _; simpa [layR] using hA.out, Only.refl _ _⟩
  case round =>
    obtain ⟨k, hk, rfl, hAr, hO⟩ := hrel
    by_cases hlt : k < s.size
    · have hdg := allD_get s hd.out k hlt
      have hl : (layR p o ((dg s).take k)).length = p.length := layR_len _ _ _ (by simp [dg_length]; omega)
      have hcl := hAr.out.cell (o + k) (by omega)
      have hfz := hAr.out.frozen (o + k)
      have hst := hide (layR_step p o k (dg s) (by rw [dg_length]; exact hlt) (by rw [dg_length]; omega))
      have hdk := hide (dg_get s k hlt)
      go_wp2
      refine ⟨⟨k + 1, by omega, by go_num, ?_, ?_⟩, by simp [intOf]; omega⟩
      · show Arr _ _ _ _
        rw [← hst.out, hdk.out]
        have := hAr.out.set (o + k) (s[k].toNat - 48)
        rw [show (((s[k].toNat - 48 : Nat) : Int)) = (s[k].toNat : Int) - 48 by omega] at this
        exact this
      · exact hO.out.set _ _
    · have htk : (dg s).take k = dg s := List.take_of_length_le (by rw [dg_length]; omega)
      rw [htk] at hAr
      clear htk
      go_wp2
      go_ret
      exact ⟨rfl, hAr.out, hO.out⟩
theorem lay_none (v : Value) (s : ByteArray) (w : World) (hs : s.size = 0) :
    Calls Tryz.prog 54 #[v, .string s] w fun e w' => e = .returned (.int .i64 0) ∧ w' = w := by
  have hs' : (s.size : Int) = 0 := by omega
  go_enter Tryz.func54, Tryz.ntmps54
  go_wp2
  refine wp_loop_rounds 1 ?_
  rw [rounds_succ]
  go_wp2
  go_ret
  exact ⟨rfl, rfl⟩
end Go.Proofs.YtjidnceccpmheaaGreatDoor
