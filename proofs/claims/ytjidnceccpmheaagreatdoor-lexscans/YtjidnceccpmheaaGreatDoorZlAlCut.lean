/- lex: cut, kindOf: walked. -/
import Derived.Test.YtjidnceccpmheaaGreatDoorZlAkUnq
namespace Go.Proofs.YtjidnceccpmheaaGreatDoor
namespace Lx
open Go.RowKit
set_option linter.unusedSimpArgs false
set_option linter.unusedVariables false
def cutE (x : List UInt8 × Nat) : Ending := .returned (.tuple #[.string (mkB x.1), .int .i64 (x.2 : Nat)])
set_option maxHeartbeats 1000000 in
set_option maxRecDepth 100000 in
theorem cut_any (hP : ParseOk) (k : Nat) (hk : k < 5) (s : ByteArray) (w : World) (g : Gg w) (h0 : 0 < s.size) (hs : s.size ≤ 40000 ∨ (k ≠ 3 ∧ s.size ≤ 100000)) :
    Calls Tryz.prog 12 #[.int .i64 (k : Nat), .string s] w fun e w' => e = cutE (cutK nok k (bl s)) ∧ Below w.heap.size w w' := by
  obtain ⟨l, hl⟩ := bl_cons s h0
  have hs1 : s.size ≤ 100000 := by omega
  have hle := hide (cutK_le nok k s[0] l)
  rw [← hl, bl_length] at hle
  have tk := take_mk s
  have : k = 0 ∨ k = 1 ∨ k = 2 ∨ k = 3 ∨ k = 4 := by omega
  rcases this with rfl | rfl | rfl | rfl | rfl
  · have hc := hide (xblank_any s w h0 hs1)
    have he : cutK nok 0 (bl s) = ([], blS (bl s)) := rfl
    rw [he]
    obtain ⟨n, hn⟩ : ∃ n, blS (bl s) = n := ⟨_, rfl⟩
    rw [hn] at hc ⊢
    clear hn he hl g tk hle
    go_enter Tryz.func12, Tryz.ntmps12
    go_wp2_with (go_at_call 22; refine hc.out.mono ?_; rintro e w1 ⟨rfl, hw1⟩; have hw1s := hw1.symm; clear hw1; subst hw1s)
    go_ret2
    exact ⟨rfl, Below.refl _ _⟩
  · have hc := hide (xname_any s w h0 hs1)
    have he : cutK nok 1 (bl s) = ((bl s).take (nmS (bl s)), nmS (bl s)) := rfl
    rw [he] at hle ⊢
    obtain ⟨n, hn⟩ : ∃ n, nmS (bl s) = n := ⟨_, rfl⟩
    rw [hn] at hc hle ⊢
    have hni : (0 : Int) ≤ (n : Int) ∧ (n : Int) ≤ (s.size : Int) := by have := hle.out; simp only at this; omega
    obtain ⟨hn0, hn1⟩ := hni
    have ht := (tk n).symm
    unfold cutE
    simp only
    rw [ht]
    clear hn he hl g tk hle ht
    go_enter Tryz.func12, Tryz.ntmps12
    go_wp2_with (go_at_call 24; refine hc.out.mono ?_; rintro e w1 ⟨rfl, hw1⟩; have hw1s := hw1.symm; clear hw1; subst hw1s)
    go_ret2
    exact ⟨rfl, Below.refl _ _⟩
  · have hc := hide (xnum_any hP s w h0 hs1)
    have he : cutK nok 2 (bl s) = ((bl s).take (nuS nok (bl s)), nuS nok (bl s)) := rfl
    rw [he] at hle ⊢
    obtain ⟨n, hn⟩ : ∃ n, nuS nok (bl s) = n := ⟨_, rfl⟩
    rw [hn] at hc hle ⊢
    have hni : (0 : Int) ≤ (n : Int) ∧ (n : Int) ≤ (s.size : Int) := by have := hle.out; simp only at this; omega
    obtain ⟨hn0, hn1⟩ := hni
    have ht := (tk n).symm
    unfold cutE
    simp only
    rw [ht]
    clear hn he hl g tk hle ht
    go_enter Tryz.func12, Tryz.ntmps12
    go_wp2_with (go_at_call 25; refine hc.out.mono ?_; rintro e w1 ⟨rfl, hb1⟩; have hb1 := hide hb1)
    go_ret2
    exact ⟨rfl, hb1.out⟩
  · have hc := hide (unq_any s w g h0 (by omega))
    have he : cutK nok 3 (bl s) = (quS (bl s)).getD ([], 0) := rfl
    rw [he]
    obtain ⟨o, ho⟩ : ∃ o, quS (bl s) = o := ⟨_, rfl⟩
    rw [ho] at hc ⊢
    clear ho he hl g tk hle
    cases o with
    | none =>
      have hc2 : Hid (Calls Tryz.prog 23 #[.string s] w fun e w' => e = .returned (.tuple #[.string ⟨#[]⟩, .int .i64 0]) ∧ Below w.heap.size w w') := hc
      clear hc
      go_enter Tryz.func12, Tryz.ntmps12
      go_wp2_with (go_at_call 23; refine hc2.out.mono ?_; rintro e w1 ⟨rfl, hb1⟩; have hb1 := hide hb1)
      go_ret2
      exact ⟨rfl, hb1.out⟩
    | some x =>
      obtain ⟨x1, x2⟩ := x
      have hc2 : Hid (Calls Tryz.prog 23 #[.string s] w fun e w' => e = .returned (.tuple #[.string (mkB x1), .int .i64 (x2 : Nat)]) ∧ Below w.heap.size w w') := hc
      clear hc
      go_enter Tryz.func12, Tryz.ntmps12
      go_wp2_with (go_at_call 23; refine hc2.out.mono ?_; rintro e w1 ⟨rfl, hb1⟩; have hb1 := hide hb1)
      go_ret2
      exact ⟨rfl, hb1.out⟩
  · have hc := hide (xmark_any s w h0 hs1)
    have he : cutK nok 4 (bl s) = ((bl s).take (mkS (bl s)), mkS (bl s)) := rfl
    rw [he] at hle ⊢
    obtain ⟨n, hn⟩ : ∃ n, mkS (bl s) = n := ⟨_, rfl⟩
    rw [hn] at hc hle ⊢
    have hni : (0 : Int) ≤ (n : Int) ∧ (n : Int) ≤ (s.size : Int) := by have := hle.out; simp only at this; omega
    obtain ⟨hn0, hn1⟩ := hni
    have ht := (tk n).symm
    unfold cutE
    simp only
    rw [ht]
    clear hn he hl g tk hle ht
    go_enter Tryz.func12, Tryz.ntmps12
    go_wp2_with (go_at_call 26; refine hc.out.mono ?_; rintro e w1 ⟨rfl, hw1⟩; have hw1s := hw1.symm; clear hw1; subst hw1s)
    go_ret2
    exact ⟨rfl, Below.refl _ _⟩
end Lx
end Go.Proofs.YtjidnceccpmheaaGreatDoor
