/- calamusref01's Whole: walked. -/
import Derived.Test.YtjpdlibncmldlabDoorRaSmall
namespace Go.Proofs.YtjpdlibncmldlabDoor
open Go.RowKit
set_option linter.unusedSimpArgs false
set_option linter.unusedVariables false
/-- Ten to the power of 400: one, in the units of Zv. -/
def K400 : Nat := 10 ^ ((0 : Int) + 400).toNat
theorem K400_pos : 0 < K400 := Nat.pow_pos (by decide)
theorem formF_fits (neg : Bool) (l : List Nat) (h : l.length ≤ 13) : (formF neg l 0).2.2.2 = 0 := by
  unfold formF
  split
  · rfl
  · rw [if_pos]
    have h1 := core_len l
    have h2 : (dz l).length ≤ l.length := by rw [dz, List.length_drop]; omega
    have h3 := tz_le (dz l)
    refine ⟨by omega, by omega, by omega⟩
/-- A small whole number, made of its digits, is a number, and worth itself. -/
theorem whole_made (neg : Bool) (l : List Nat) (hd : Dgs l) (hl : l.length ≤ 13) (z : Int) (hz : z = if neg then -(val l : Int) else (val l : Int)) :
    isN (formF neg l 0).1 (formF neg l 0).2.1 (formF neg l 0).2.2.1 = true ∧ Zv (formF neg l 0).1 (formF neg l 0).2.1 (formF neg l 0).2.2.1 = z * (K400 : Int) := by
  have h := formF_sum neg l 0 hd (by omega)
  have he := formF_fits neg l hl
  have hk : (10 : Nat) ^ ((0 : Int) + 400).toNat = K400 := rfl
  rw [hk] at h
  generalize K400 = K at h ⊢
  rcases h with ⟨_, h2, h3⟩ | ⟨h1, _⟩
  · refine ⟨h2, ?_⟩
    rw [h3, hz]
    cases neg
    · simp
    · simp [Int.neg_mul]
  · rw [h1] at he; simp at he
theorem Dgs.both' {l : List Nat} {d : Nat} (h : Dgs l) (hd : d ≤ 9) : Dgs (l ++ [d]) := fun x hx => by
  rcases List.mem_append.1 hx with h' | h'
  · exact h x h'
  · simp at h'; omega
theorem digits_of : ∀ (k n : Nat), n < 10 ^ k → ∃ l : List Nat, Dgs l ∧ l.length = k ∧ val l = n
  | 0, n, h => ⟨[], fun x hx => by simp at hx, rfl, by simp [val]; simp at h; exact h.symm⟩
  | k + 1, n, h => by
    obtain ⟨l, h1, h2, h3⟩ := digits_of k (n / 10) (by rw [Nat.pow_succ] at h; omega)
    refine ⟨l ++ [n % 10], h1.both' (by omega), by simp [h2], ?_⟩
    rw [val_append, h3]
    simp [val]
    omega
/-- Each small whole number is a number. -/
theorem whole_is (z : Int) (h1 : -1000000000000 < z) (h2 : z < 1000000000000) : ∃ n s x, isN n s x = true ∧ Zv n s x = z * (K400 : Int) := by
  have hp : (10 : Nat) ^ 13 = 10000000000000 := rfl
  obtain ⟨l, d1, d2, d3⟩ := digits_of 13 z.natAbs (by omega)
  by_cases hneg : z < 0
  · obtain ⟨a1, a2⟩ := whole_made true l d1 (by omega) z (by rw [d3]; simp; omega)
    exact ⟨_, _, _, a1, a2⟩
  · obtain ⟨a1, a2⟩ := whole_made false l d1 (by omega) z (by rw [d3]; simp; omega)
    exact ⟨_, _, _, a1, a2⟩
set_option maxHeartbeats 1000000 in
theorem whole_any (z : Int) (w : World) (h1 : -1000000000000 < z) (h2 : z < 1000000000000) :
    Calls Tryd.prog 4 #[.int .i64 z] w fun e w' => (∃ n s x, e = .returned (.agg #[.bool n, .string s, .int .i64 x]) ∧ Hid (isN n s x = true) ∧ Hid (Zv n s x = z * (K400 : Int))) ∧ Below w.heap.size w w' := by
  have B0 := hide (box_new w false ⟨#[]⟩ 0)
  by_cases hneg : z < 0
  · obtain ⟨m, hm⟩ : ∃ m : Nat, -z = m := ⟨(-z).toNat, by omega⟩
    have hml : m < 10000000000000 := by omega
    go_enter Tryd.func4, Tryd.ntmps4
    go_wp2_with fail
    go_fit (rsmall_any m _ hml)
    rintro e w1 ⟨⟨l, rfl, l1, l2, l3⟩, rfl⟩
    have W := hide (whole_made true l l1 l2 z (by simp; omega))
    have L1 := hide l1
    obtain ⟨fb, fs, fx, fe, hfe⟩ : ∃ fb fs fx fe, formF true l 0 = (fb, fs, fx, fe) := ⟨_, _, _, _, rfl⟩
    rw [hfe] at W
    have HF := hide hfe
    clear hfe l1 l3
    go_wp2_with fail
    go_fit (made_any true l 0 _ L1.out (by omega) (by omega) (by omega))
    rw [HF.out]
    rintro e w2 ⟨rfl, hb2⟩
    simp only [retM]
    have B2 := hide ((B0.out.below hb2 B0.out.lt).alloc (.cells #[.bool fb, .string fs, .int .i64 fx] 23))
    obtain ⟨c0, c1, c2, f0, f1, f2⟩ := B2.out.cells
    obtain ⟨q0, q1, q2, k0, k1, k2⟩ := (box_new w2 fb fs fx).cells
    obtain ⟨r0, r1, r2, _, _, _⟩ := (B2.out.set (n' := fb) (s' := fs) (x' := fx)).cells
    go_wp2
    refine bodyPost_ret (v := .agg #[.bool fb, .string fs, .int .i64 fx]) (by simp [results, Tryd.results4, go_sem, r0, r1, r2]) rfl ⟨⟨fb, fs, fx, rfl, W.out.1, W.out.2⟩, ?_⟩
    iterate 3 refine Below.setCell ?_ (by show w.heap.size ≤ w.heap.size; omega) _
    exact below_al (below_alloc hb2)
  · obtain ⟨m, hm⟩ : ∃ m : Nat, z = m := ⟨z.toNat, by omega⟩
    subst hm
    have hml : m < 10000000000000 := by omega
    have hnn : ¬ ((m : Int) < 0) := hneg
    go_enter Tryd.func4, Tryd.ntmps4
    go_wp2_with fail
    go_fit (rsmall_any m _ hml)
    rintro e w1 ⟨⟨l, rfl, l1, l2, l3⟩, rfl⟩
    have W := hide (whole_made false l l1 l2 (m : Int) (by simp; omega))
    have L1 := hide l1
    obtain ⟨fb, fs, fx, fe, hfe⟩ : ∃ fb fs fx fe, formF false l 0 = (fb, fs, fx, fe) := ⟨_, _, _, _, rfl⟩
    rw [hfe] at W
    have HF := hide hfe
    clear hfe l1 l3
    go_wp2_with fail
    go_fit (made_any false l 0 _ L1.out (by omega) (by omega) (by omega))
    rw [HF.out]
    rintro e w2 ⟨rfl, hb2⟩
    simp only [retM]
    have B2 := hide ((B0.out.below hb2 B0.out.lt).alloc (.cells #[.bool fb, .string fs, .int .i64 fx] 23))
    obtain ⟨c0, c1, c2, f0, f1, f2⟩ := B2.out.cells
    obtain ⟨q0, q1, q2, k0, k1, k2⟩ := (box_new w2 fb fs fx).cells
    obtain ⟨r0, r1, r2, _, _, _⟩ := (B2.out.set (n' := fb) (s' := fs) (x' := fx)).cells
    go_wp2
    refine bodyPost_ret (v := .agg #[.bool fb, .string fs, .int .i64 fx]) (by simp [results, Tryd.results4, go_sem, r0, r1, r2]) rfl ⟨⟨fb, fs, fx, rfl, W.out.1, W.out.2⟩, ?_⟩
    iterate 3 refine Below.setCell ?_ (by show w.heap.size ≤ w.heap.size; omega) _
    exact below_al (below_alloc hb2)
end Go.Proofs.YtjpdlibncmldlabDoor
