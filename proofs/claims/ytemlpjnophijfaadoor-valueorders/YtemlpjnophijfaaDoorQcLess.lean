/- calamusref01's less: walked. -/
import Derived.Test.YtemlpjnophijfaaDoorQbZeros
namespace Go.Proofs.YtemlpjnophijfaaDoor
open Go.RowKit
set_option linter.unusedSimpArgs false
set_option linter.unusedVariables false
set_option maxHeartbeats 1000000 in
theorem less_any (a b : List Nat) (n : Nat) (w : World) (ha : Dgs a) (hb : Dgs b) (hla : a.length = n) (hlb : b.length = n) (hn : n ≤ 100000) :
    Calls Tryd.prog 68 #[.string (mkS a), .string (mkS b)] w fun e w' => e = .returned (.bool (decide (val a < val b))) ∧ Below w.heap.size w w' := by
  have hsa : (mkS a).size = n := by rw [mkS_size, hla]
  have hsb : (mkS b).size = n := by rw [mkS_size, hlb]
  have Ha := hide ha
  have Hb := hide hb
  have Hla := hide hla
  have Hlb := hide hlb
  clear ha hb hla hlb
  obtain ⟨sa, hsA⟩ : ∃ s, s = mkS a := ⟨_, rfl⟩
  obtain ⟨sb, hsB⟩ : ∃ s, s = mkS b := ⟨_, rfl⟩
  rw [← hsA] at hsa ⊢
  rw [← hsB] at hsb ⊢
  have ga : Hid (∀ k (h : k < sa.size) (h' : k < a.length), sa[k].toNat = a[k] + 48) := fun k h h' => by subst hsA; exact mkS_get a Ha.out k h' h
  have gb : Hid (∀ k (h : k < sb.size) (h' : k < b.length), sb[k].toNat = b[k] + 48) := fun k h h' => by subst hsB; exact mkS_get b Hb.out k h' h
  clear hsA hsB
  go_enter Tryd.func68, Tryd.ntmps68
  go_wp2
  go_loopw [5] (fun i wr => ∃ k : Nat, k ≤ n ∧ i = .int .i64 k ∧ Hid (a.take k = b.take k) ∧ Hid (Below w.heap.size w wr)) (fun i _ => n - (intOf i).toNat)
  case atStart => exact ⟨0, Nat.zero_le _, rfl, rfl, Below.refl _ _⟩
  case round =>
    obtain ⟨k, hk, rfl, hall, hB⟩ := hrel
    by_cases hlt : k < n
    · have hka : k < sa.size := by omega
      have hkb : k < sb.size := by omega
      have hka' : (k : Int) < sa.size := by omega
      have hkb' : (k : Int) < sb.size := by omega
      have h1 := hide (ga.out k hka (by rw [Hla.out]; exact hlt))
      have h2 := hide (gb.out k hkb (by rw [Hlb.out]; exact hlt))
      by_cases he : a[k]'(by rw [Hla.out]; exact hlt) = b[k]'(by rw [Hlb.out]; exact hlt)
      · have hx : ((sa[k].toNat : Int) != sb[k].toNat) = false := by
          rw [h1.out, h2.out, he]; simp
        have hm := hide (take_more hall.out _ _ he)
        clear he
        go_wp2
        go_region
        all_goals
          go_wp2
          exact ⟨⟨k + 1, by omega, by go_num, hm.out, hB.out.drew⟩, by simp [intOf]; omega⟩
      · have hx : ((sa[k].toNat : Int) != sb[k].toNat) = true := by
          rw [h1.out, h2.out, bne_iff_ne]; omega
        have hr := hide (show decide (sa[k].toNat < sb[k].toNat) = decide (val a < val b) by
          rw [h1.out, h2.out]
          have hl : a.length = b.length := Hla.out.trans Hlb.out.symm
          by_cases q : a[k]'(by rw [Hla.out]; exact hlt) < b[k]'(by rw [Hlb.out]; exact hlt)
          · rw [decide_eq_true (by omega), decide_eq_true (val_first a b Ha.out Hb.out hl k _ hall.out q)]
          · have := val_first b a Hb.out Ha.out hl.symm k (by rw [Hlb.out]; exact hlt) hall.out.symm (by omega)
            rw [decide_eq_false (by omega), decide_eq_false (by omega)])
        clear he
        go_wp2
        go_region
        all_goals
          go_wp2
          go_region
          all_goals
            go_wp2
            go_ret
            exact ⟨ret_bool hr.out, hB.out.drew.drew⟩
    · have hke : k = n := by omega
      subst hke
      have hf := hide (show decide (val a < val b) = false by
        have h1 := hall.out
        rw [List.take_of_length_le (by rw [Hla.out]; exact Nat.le_refl _), List.take_of_length_le (by rw [Hlb.out]; exact Nat.le_refl _)] at h1
        rw [h1]; simp)
      go_wp2
      go_ret
      exact ⟨ret_bool hf.out.symm, hB.out⟩
end Go.Proofs.YtemlpjnophijfaaDoor
