/- fbits.Hex: walked. -/
import Derived.Test.YtjlhningaijneaaDoorFlHex
namespace Go.Proofs.YtjlhningaijneaaDoor
open Go.RowKit
set_option linter.unusedSimpArgs false
set_option linter.unusedVariables false
/-- A digit's byte. -/
def hd (d : Nat) : Nat := if d < 10 then 48 + d else 87 + d
/-- The lowest k digits of a pattern, the highest first. -/
def lowL (b : Nat) : Nat → List Nat
  | 0 => []
  | k + 1 => hd (b / 16 ^ k % 16) :: lowL b k
theorem lowL_len (b k : Nat) : (lowL b k).length = k := by
  induction k with
  | zero => rfl
  | succ k ih => simp [lowL, ih]
/-- A pattern's text. -/
def hexS (b : Nat) : ByteArray := strOfNums ((lowL b 16).map fun v : Nat => (v : Int))
theorem hexd_get (d : Nat) (h : d < 16) (h' : d < (⟨#[48, 49, 50, 51, 52, 53, 54, 55, 56, 57, 97, 98, 99, 100, 101, 102]⟩ : ByteArray).size) : ((⟨#[48, 49, 50, 51, 52, 53, 54, 55, 56, 57, 97, 98, 99, 100, 101, 102]⟩ : ByteArray)[d]).toNat = hd d := by
  have : d = 0 ∨ d = 1 ∨ d = 2 ∨ d = 3 ∨ d = 4 ∨ d = 5 ∨ d = 6 ∨ d = 7 ∨ d = 8 ∨ d = 9 ∨ d = 10 ∨ d = 11 ∨ d = 12 ∨ d = 13 ∨ d = 14 ∨ d = 15 := by omega
  rcases this with rfl | rfl | rfl | rfl | rfl | rfl | rfl | rfl | rfl | rfl | rfl | rfl | rfl | rfl | rfl | rfl <;> rfl
set_option maxHeartbeats 1000000 in
theorem hex_any (b : Nat) (w : World) (hb : b < 18446744073709551616) :
    Calls Tryd.prog 20 #[.int .u64 b] w fun e w' => e = .returned (.string (hexS b)) ∧ Below w.heap.size w w' := by
  go_enter Tryd.func20, Tryd.ntmps20
  go_wp2
  go_loopw [0, 5] (fun x i wr => ∃ k : Nat, k ≤ 16 ∧ i = .int .i64 k ∧ x = .int .u64 (b / 16 ^ k : Nat) ∧ Hid (Arr wr w.heap.size 60 (List.replicate (16 - k) 0 ++ lowL b k)) ∧ Hid (Below w.heap.size w wr)) (fun x i _ => 16 - (intOf i).toNat)
  case atStart =>
    refine ⟨0, by omega, rfl, by simp, ?_, ?_⟩
    · exact arr_new _ _ 16 _ rfl
    · exact below_al (Below.refl _ _)
  case round =>
    obtain ⟨k, hk, rfl, rfl, hAr, hB⟩ := hrel
    obtain ⟨y, hy⟩ : ∃ y, b / 16 ^ k = y := ⟨_, rfl⟩
    have hyb : y < 18446744073709551616 := by rw [← hy]; exact Nat.lt_of_le_of_lt (Nat.div_le_self _ _) hb
    have hy1 := hide (show b / 16 ^ (k + 1) = y / 16 by rw [Nat.pow_succ, ← Nat.div_div_eq_div_mul, hy])
    rw [hy]
    by_cases hlt : k < 16
    · obtain ⟨d, hdd⟩ : ∃ d, y % 16 = d := ⟨_, rfl⟩
      have hd16 : d < 16 := by omega
      have hm : bits .and .u64 (y : Int) 15 = (d : Int) := by
        have := u64_and_nat y 15 hyb (by omega)
        rw [nat_mask4, hdd] at this
        exact this
      have hds : d < (⟨#[48, 49, 50, 51, 52, 53, 54, 55, 56, 57, 97, 98, 99, 100, 101, 102]⟩ : ByteArray).size := hd16
      have hg := hexd_get d hd16 hds
      have hcs := hAr.out.cell (15 - k) (by simp; omega)
      have hfz := hAr.out.frozen (15 - k)
      have hlow := hide (show lowL b (k + 1) = hd d :: lowL b k by simp only [lowL]; rw [hy, hdd])
      have hy := hide hy
      have hi1 : (0 : Int) ≤ 15 - (k : Int) := by omega
      have hi2 : (15 : Int) - (k : Int) < 16 := by omega
      have hi3 : ((15 : Int) - (k : Int)).toNat = 15 - k := by omega
      have hset : Hid ((List.replicate (16 - k) 0 ++ lowL b k).set (15 - k) (hd d) = List.replicate (16 - (k + 1)) 0 ++ lowL b (k + 1)) := by
        show _ = _
        rw [hlow.out, show 16 - k = (16 - (k + 1)) + 1 by omega, List.replicate_succ', List.append_assoc, List.set_append_right _ _ (by simp <;> omega), List.length_replicate, show 15 - k - (16 - (k + 1)) = 0 by omega]
        rfl
      go_wp2
      refine ⟨⟨k + 1, by omega, by go_num, by rw [hy1.out]; rfl, ?_, ?_⟩, by simp [intOf]; omega⟩
      · show Arr _ _ _ _
        rw [← hset.out]
        exact hAr.out.set (15 - k) (hd d)
      · exact hB.out.setCell (Nat.le_refl _) _
    · have hke : k = 16 := by omega
      subst hke
      have hAr' : Hid (Arr wr w.heap.size 60 (lowL b 16)) := by
        have := hAr.out
        show Arr _ _ _ _
        simpa using this
      have hl := lowL_len b 16
      have hconv : (convert 61 9 (.slice (some ⟨w.heap.size, 0, none⟩) 16 16)).run Tryd.prog wr = .ok (.string (hexS b)) wr := by
        refine run_convert_bytes_arg (P := Tryd.prog) wr 61 5 Tryd.underlying61 Tryd.underlying5 w.heap.size 0 16 16 ((lowL b 16).map fun v : Nat => (v : Int)) (by simp [hl]) (fun i hi => ?_) 9 Tryd.underlying9
        rw [Nat.zero_add, hAr'.out.cell i (by omega)]
        congr 2
        rw [List.getD_eq_getElem?_getD, List.getElem?_map, List.getElem?_eq_getElem (by omega)]
        rfl
      clear hl
      go_wp2
      go_ret
      exact ⟨rfl, hB.out⟩
end Go.Proofs.YtjlhningaijneaaDoor
