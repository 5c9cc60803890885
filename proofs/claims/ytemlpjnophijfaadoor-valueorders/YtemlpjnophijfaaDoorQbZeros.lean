/- calamusref01's Zeros, less: walked. -/
import Derived.Test.YtemlpjnophijfaaDoorQaRef
namespace Go.Proofs.YtemlpjnophijfaaDoor
open Go.RowKit
set_option linter.unusedSimpArgs false
set_option linter.unusedVariables false
def lenS : Value → Nat | .string s => s.size | _ => 0
theorem mkB_app (a b : List UInt8) : mkB a ++ mkB b = mkB (a ++ b) := by
  apply ByteArray.ext
  simp [mkB]
theorem mkS_mkB (l : List Nat) : mkS l = mkB (l.map fun v => UInt8.ofNat (v + 48)) := by rw [← mkS_bl, mkB_bl]
theorem mkS_app (a b : List Nat) : mkS a ++ mkS b = mkS (a ++ b) := by rw [mkS_mkB, mkS_mkB, mkS_mkB, mkB_app, List.map_append]
theorem mkS_nil : mkS [] = ⟨#[]⟩ := rfl
theorem mkS_0 : mkS [0] = ⟨#[48]⟩ := rfl
theorem mkS_1 : mkS [1] = ⟨#[49]⟩ := rfl
theorem mkS_of (s : ByteArray) (h : allD (bl s) = true) : mkS (dg s) = s := by
  rw [mkS_mkB]
  conv => rhs; rw [← mkB_bl s]
  congr 1
  unfold dg
  rw [List.map_map]
  conv => rhs; rw [← List.map_id (bl s)]
  apply List.map_congr_left
  intro c hc
  have := (isDig_iff c).1 ((List.all_eq_true.1 h) c hc)
  apply UInt8.toNat_inj.1
  show (UInt8.ofNat (c.toNat - 48 + 48)).toNat = _
  rw [UInt8.toNat_ofNat']
  show _ = c.toNat
  omega
theorem mkS_get (l : List Nat) (hd : Dgs l) (k : Nat) (h : k < l.length) (h' : k < (mkS l).size) : (mkS l)[k].toNat = l[k] + 48 := by
  rw [← bl_get _ k h']
  simp only [mkS_bl, List.getElem_map]
  exact ofNat_toNat _ (hd _ (List.getElem_mem _))
set_option maxHeartbeats 400000 in
theorem zeros_any (n : Nat) (w : World) (hn : n ≤ 100000) :
    Calls Tryd.prog 74 #[.int .i64 n] w fun e w' => e = .returned (.string (mkS (List.replicate n 0))) ∧ w' = w := by
  go_enter Tryd.func74, Tryd.ntmps74
  go_wp2
  go_loop [3, 4] (fun s i => ∃ k : Nat, k ≤ n ∧ i = .int .i64 k ∧ s = .string (mkS (List.replicate k 0))) (fun s i => n - (intOf i).toNat)
  case atStart => exact ⟨0, Nat.zero_le _, rfl, rfl⟩
  case round =>
    obtain ⟨k, hk, rfl, rfl⟩ := hrel
    by_cases hlt : k < n
    · have hsz : (mkS (List.replicate k 0)).size = k := by rw [mkS_size, List.length_replicate]
      go_wp2
      refine ⟨⟨k + 1, by omega, by go_num, ?_⟩, by simp [intOf]; omega⟩
      show Value.string _ = Value.string _
      congr 1
      rw [← mkS_0, mkS_app, ← List.replicate_succ']
    · have hke : k = n := by omega
      subst hke
      go_wp2
      go_ret
      exact ⟨rfl, rfl⟩
/-- Rows of one length stand in the order of their first unlike digits. -/
theorem val_first (a b : List Nat) (ha : Dgs a) (hb : Dgs b) (hl : a.length = b.length) (k : Nat) (hk : k < a.length) (he : a.take k = b.take k) (hlt : a[k] < b[k]'(by omega)) : val a < val b := by
  have h1 := val_split a k
  have h2 := val_split b k
  rw [he, hl] at h1
  have h3 : a.drop k = a[k] :: a.drop (k + 1) := List.drop_eq_getElem_cons hk
  have h4 : b.drop k = b[k]'(by omega) :: b.drop (k + 1) := List.drop_eq_getElem_cons (by omega)
  rw [h3] at h1
  rw [h4] at h2
  simp only [val, List.length_drop] at h1 h2
  have h5 := val_lt (a.drop (k + 1)) (fun x hx => ha x (List.mem_of_mem_drop hx))
  rw [List.length_drop] at h5
  rw [hl] at h1 h5
  have h6 : (a[k] + 1) * 10 ^ (b.length - (k + 1)) ≤ b[k]'(by omega) * 10 ^ (b.length - (k + 1)) := Nat.mul_le_mul_right _ hlt
  rw [Nat.add_mul] at h6
  omega
theorem take_more {a b : List Nat} {k : Nat} (h : a.take k = b.take k) (ha : k < a.length) (hb : k < b.length) (he : a[k] = b[k]) : a.take (k + 1) = b.take (k + 1) := by
  rw [List.take_succ_eq_append_getElem ha, List.take_succ_eq_append_getElem hb, h, he]
end Go.Proofs.YtemlpjnophijfaaDoor
