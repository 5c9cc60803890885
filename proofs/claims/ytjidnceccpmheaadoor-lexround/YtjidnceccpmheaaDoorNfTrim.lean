/- bytes.TrimLeft at the cutset of one nought: walked. -/
import Derived.Test.YtjidnceccpmheaaDoorRows
import Derived.Test.YtjidnceccpmheaaDoorNaPlain
import Derived.Test.YtjidnceccpmheaaDoorNeArr
import Derived.WalkKit
import Derived.WalkSpells
import Derived.WalkLawsBesides
namespace Go.Proofs.YtjidnceccpmheaaDoor
open Go.RowKit
set_option linter.unusedSimpArgs false
set_option linter.unusedVariables false
/-- How many noughts a row begins with. -/
def lz (d : List Nat) : Nat := (d.takeWhile (· == 0)).length
theorem lz_of (d : List Nat) (k : Nat) (hk : k ≤ d.length) (h1 : ∀ i (h : i < d.length), i < k → d[i] = 0) (h2 : ∀ h : k < d.length, d[k] ≠ 0) : lz d = k :=
  takeWhile_of _ d k hk (fun j h hj => by simp [h1 j h hj]) (fun h => by simpa using h2 h)
def lenOf : Value → Nat | .slice _ m _ => m | _ => 0
set_option maxHeartbeats 400000 in
theorem trimByte_any (b o n c : Nat) (d : List Nat) (w : World) (hd : d.length = n) (hn0 : 0 < n) (hn : n ≤ 100000) (hc : n ≤ c) (hc' : c ≤ 100000)
    (hcell : ∀ i (h : i < d.length), w.cell? ⟨b, o + i, none⟩ = some (.int .u8 (d[i] : Nat))) :
    Calls Tryd.prog 59 #[.slice (some ⟨b, o, none⟩) n c, .int .u8 0] w fun e w' => (lz d < n → e = .returned (.slice (some ⟨b, o + lz d, none⟩) (n - lz d) (c - lz d))) ∧ (lz d = n → e = .returned (.slice none 0 0)) ∧ w' = w := by
  go_enter Tryd.func59, Tryd.ntmps59
  go_wp2
  go_loop [0] (fun s => ∃ k : Nat, k ≤ n ∧ (∀ i (h : i < d.length), i < k → d[i] = 0) ∧ ((k < n ∧ s = .slice (some ⟨b, o + k, none⟩) (n - k) (c - k)) ∨ (k = n ∧ ∃ a cc, s = .slice a 0 cc))) (fun s => lenOf s)
  case atStart => exact ⟨0, Nat.zero_le _, fun i h hi => by omega, Or.inl ⟨hn0, rfl⟩⟩
  case round =>
    obtain ⟨k, hk, hz, hs⟩ := hrel
    rcases hs with ⟨hlt, rfl⟩ | ⟨rfl, a, cc, rfl⟩
    · have hck := hcell k (by omega)
      by_cases h0 : d[k]'(by omega) = 0
      · rw [h0] at hck
        have hz' : ∀ i (h : i < d.length), i < k + 1 → d[i] = 0 := fun i h hi => by
          by_cases e : i = k
          · subst e; exact h0
          · exact hz i h (by omega)
        have hz' := hide hz'
        go_wp2
        refine ⟨⟨k + 1, by omega, hz'.out, ?_⟩, by simp [lenOf]; omega⟩
        by_cases hl : k + 1 < n
        · exact Or.inl ⟨hl, by rw [if_neg (by omega)]; simp [Nat.sub_sub, Nat.add_assoc]⟩
        · exact Or.inr ⟨by omega, _, _, by rw [show n - k - 1 = 0 by omega]⟩
      · have h1 : ((d[k]'(by omega) : Int) == 0) = false := by simp; exact h0
        have h2 : (((n - k : Nat) : Int) == 0) = false := by simp; omega
        have hl := hide (lz_of d k (by omega) hz (fun _ => h0))
        clear h0
        go_wp2
        go_ret
        exact ⟨fun _ => by rw [hl.out]; rfl, fun h => by rw [hl.out] at h; omega, rfl⟩
    · have hl := hide (lz_of d k (by omega) hz (fun h => by omega))
      go_wp2
      go_ret
      exact ⟨fun h => by rw [hl.out] at h; omega, fun h => rfl, rfl⟩

set_option maxRecDepth 100000 in
/-- What bytes.TrimLeft leaves of a slice. -/
theorem trimLeft_any (b o n c : Nat) (d : List Nat) (w : World) (hd : d.length = n) (hn0 : 0 < n) (hn : n ≤ 100000) (hc : n ≤ c) (hc' : c ≤ 100000)
    (hcell : ∀ i (h : i < d.length), w.cell? ⟨b, o + i, none⟩ = some (.int .u8 (d[i] : Nat))) :
    Calls Tryd.prog 51 #[.slice (some ⟨b, o, none⟩) n c, .string ⟨#[0]⟩] w fun e w' => (lz d < n → e = .returned (.slice (some ⟨b, o + lz d, none⟩) (n - lz d) (c - lz d))) ∧ (lz d = n → e = .returned (.slice none 0 0)) ∧ w' = w := by
  have h2 : ((n : Int) == 0) = false := by simp; omega
  have hcell := hide hcell
  by_cases hl : lz d < n
  · go_enter Tryd.func51, Tryd.ntmps51
    go_wp2_with (go_at_call 59; refine (trimByte_any b o n c d _ hd hn0 hn hc hc' hcell.out).mono ?_; rintro e w' ⟨h1, _, rfl⟩; obtain rfl := h1 hl)
    go_ret
    exact ⟨fun _ => rfl, fun h => by omega, rfl⟩
  · have hl' : Hid (lz d = n) := by
      have : lz d ≤ n := by
        unfold lz; rw [← hd]; exact (List.takeWhile_prefix _).length_le
      show lz d = n
      omega
    go_enter Tryd.func51, Tryd.ntmps51
    go_wp2_with (go_at_call 59; refine (trimByte_any b o n c d _ hd hn0 hn hc hc' hcell.out).mono ?_; rintro e w' ⟨_, h1, rfl⟩; obtain rfl := h1 hl'.out)
    go_ret
    exact ⟨fun h => by omega, fun _ => rfl, rfl⟩
set_option maxRecDepth 100000 in
theorem trimLeft_none (a : Option Addr) (c : Nat) (w : World) :
    Calls Tryd.prog 51 #[.slice a 0 c, .string ⟨#[0]⟩] w fun e w' => e = .returned (.slice none 0 0) ∧ w' = w := by
  go_enter Tryd.func51, Tryd.ntmps51
  go_wp2
  go_ret
  exact ⟨rfl, rfl⟩
end Go.Proofs.YtjidnceccpmheaaDoor
