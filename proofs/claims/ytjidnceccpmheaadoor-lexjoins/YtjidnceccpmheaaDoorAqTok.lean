/- lex: kindOf, isToken, spell: walked. -/
import Derived.Test.YtjidnceccpmheaaDoorAmScan
import Derived.Test.YtjidnceccpmheaaDoorAnQuote
namespace Go.Proofs.YtjidnceccpmheaaDoor
namespace Lx
open Go.RowKit
set_option linter.unusedSimpArgs false
set_option linter.unusedVariables false
theorem kdW_hit {w : Int} {k : Nat} (h1 : 1 ≤ k) (h5 : k < 5) (h : ((wdK k : Nat) : Int) = w) : kdW w = k := by
  have : k = 1 ∨ k = 2 ∨ k = 3 ∨ k = 4 := by omega
  rcases this with rfl | rfl | rfl | rfl <;> (subst h; rfl)
theorem kdW_miss {w : Int} (h : ∀ i, 1 ≤ i → i < 5 → ¬ ((wdK i : Nat) : Int) = w) : kdW w = 0 := by
  have a1 := h 1 (by omega) (by omega)
  have a2 := h 2 (by omega) (by omega)
  have a3 := h 3 (by omega) (by omega)
  have a4 := h 4 (by omega) (by omega)
  simp only [wdK] at a1 a2 a3 a4
  unfold kdW
  (repeat' split) <;> simp_all
set_option maxHeartbeats 1000000 in
theorem kindOf_any (x : Int) (w : World) (g : Gg w) : Calls Tryd.prog 13 #[.int .i64 x] w fun e w' => e = .returned (.int .i64 (kdW x : Nat)) ∧ w' = w := by
  have wo := hide g.wo
  clear g
  go_enter Tryd.func13, Tryd.ntmps13
  go_wp2
  go_loop [3] (fun i => ∃ k : Nat, i = .int .i64 k ∧ 1 ≤ k ∧ k ≤ 5 ∧ Hid (∀ i, 1 ≤ i → i < k → ¬ ((wdK i : Nat) : Int) = x)) (fun i => 5 - (intOf i).toNat)
  case atStart => exact ⟨1, rfl, by omega, by omega, fun i h1 h2 => by omega⟩
  case round =>
    obtain ⟨k, rfl, h1, h5, H⟩ := hrel
    by_cases hk : k < 5
    · have hki : (k : Int) < 5 := by omega
      have hk0 : (0 : Int) ≤ (k : Int) := by omega
      have hc := wo.out k hk
      by_cases he : ((wdK k : Nat) : Int) = x
      · have hd := hide (kdW_hit h1 hk he)
        have e1 : (((wdK k : Nat) : Int) == x) = true := by simpa using he
        clear he
        go_wp2
        go_ret
        exact ⟨by rw [hd.out]; rfl, rfl⟩
      · have e1 : (((wdK k : Nat) : Int) == x) = false := by simpa using he
        have H2 : Hid (∀ i, 1 ≤ i → i < k + 1 → ¬ ((wdK i : Nat) : Int) = x) := fun i a b => by
          by_cases hi : i = k
          · subst hi; exact he
          · exact H.out i a (by omega)
        clear he H
        go_wp2
        go_round
        case rel => exact ⟨k + 1, by go_num, by omega, by omega, H2⟩
        case measure => simp [intOf]; omega
    · have hki : ¬ (k : Int) < 5 := by omega
      have hd : Hid (kdW x = 0) := kdW_miss fun i a b => H.out i a (by omega)
      clear H
      go_wp2
      go_ret
      exact ⟨by rw [hd.out]; rfl, rfl⟩
def tkA (t : Tk) : Value := .agg #[.int .i64 t.w, .string (mkB t.s), .int .i64 t.p]
theorem tok3 (w : World) (x : Int) (s : ByteArray) (p : Int) (T : TypeId) : (w.alloc (.cells #[.int .i64 x, .string s, .int .i64 p] T)).cell? ⟨w.heap.size, 0, none⟩ = some (.int .i64 x) ∧ (w.alloc (.cells #[.int .i64 x, .string s, .int .i64 p] T)).cell? ⟨w.heap.size, 1, none⟩ = some (.string s) ∧ (w.alloc (.cells #[.int .i64 x, .string s, .int .i64 p] T)).cell? ⟨w.heap.size, 2, none⟩ = some (.int .i64 p) := by
  simp
set_option maxHeartbeats 2000000 in
set_option maxRecDepth 100000 in
theorem isTok_any (hP : ParseOk) (t : Tk) (w : World) (g : Gg w) (hs : t.s.length ≤ 70000) : Calls Tryd.prog 12 #[.agg #[.int .i64 t.w, .string (mkB t.s), .int .i64 t.p]] w fun e w' => e = .returned (.bool (isT nok t.w t.s)) ∧ Below w.heap.size w w' := by
  obtain ⟨x, l, p⟩ := t
  simp only at hs ⊢
  have g1 : Hid (∀ o, Gg (w.alloc o)) := fun o => g.below (below_al (Below.refl _ _)) g.sz
  obtain ⟨s, hsd⟩ : ∃ s, mkB l = s := ⟨_, rfl⟩
  have hsb : bl s = l := by rw [← hsd, bl_mkB]
  have hsz : s.size = l.length := by rw [← hsd, mkB_size]
  rw [hsd]
  have hko := hide (fun o => kindOf_any x (w.alloc o) (g1.out o))
  have hB0 : Hid (∀ o, Below w.heap.size w (w.alloc o)) := fun o => below_al (Below.refl _ _)
  unfold isT
  obtain ⟨k, hk⟩ : ∃ k, kdW x = k := ⟨_, rfl⟩
  have hk5 : k < 5 := by rw [← hk]; unfold kdW; (repeat' split) <;> omega
  rw [hk] at hko ⊢
  clear hk g hsd
  by_cases h0 : k = 0
  · subst h0
    rw [if_pos rfl]
    clear hsb
    go_enter Tryd.func12, Tryd.ntmps12
    go_wp2_with (go_at_call 13; refine (hko.out _).mono ?_; rintro e w1 ⟨rfl, hw1⟩; have hw1s := hw1.symm; clear hw1; subst hw1s)
    go_ret
    exact ⟨rfl, hB0.out _⟩
  · rw [if_neg h0]
    have e0 : ((k : Int) == 0) = false := by simp; omega
    by_cases h3 : k = 3
    · subst h3
      rw [if_pos rfl]
      have hva := hide (fun o => Ut.valid_any s (w.alloc o) (g1.out o).gu (by omega))
      have hvt : Ut.okT (Ut.bl s) = okT l := by rw [← hsb]; rfl
      rw [hvt] at hva
      obtain ⟨b, hb⟩ : ∃ b, okT l = b := ⟨_, rfl⟩
      rw [hb] at hva ⊢
      clear hsb hvt hb h0
      go_enter Tryd.func12, Tryd.ntmps12
      go_wp2_with (first | (go_at_call 13; refine (hko.out _).mono ?_; rintro e w1 ⟨rfl, hw1⟩; have hw1s := hw1.symm; clear hw1; subst hw1s) | (go_at_call 16; refine (hva.out _).mono ?_; rintro e w2 ⟨rfl, hb2⟩; have hb2 := hide (below_then (hB0.out _) hb2)))
      go_ret
      exact ⟨rfl, hb2.out⟩
    · rw [if_neg h3]
      have e3 : ((k : Int) == 3) = false := by simp; omega
      by_cases hn : l = []
      · rw [if_pos hn]
        have hs0 : s = ⟨#[]⟩ := by rw [← mkB_bl s, hsb, hn]; rfl
        subst hs0
        clear hsb hsz hn
        go_enter Tryd.func12, Tryd.ntmps12
        go_wp2_with (go_at_call 13; refine (hko.out _).mono ?_; rintro e w1 ⟨rfl, hw1⟩; have hw1s := hw1.symm; clear hw1; subst hw1s)
        go_ret
        exact ⟨rfl, hB0.out _⟩
      · rw [if_neg hn]
        have hpos : 0 < s.size := by rw [hsz]; exact List.length_pos_iff.2 hn
        have hne : ¬ s.toList = [] := by rw [bl_toList, hsb]; exact hn
        have hneb : s.toList.isEmpty = false := by rw [bl_toList, hsb]; cases l with | nil => exact absurd rfl hn | cons a t => rfl
        have hcut := hide (fun o => cut_any hP k hk5 s (w.alloc o) (g1.out o) hpos (Or.inr ⟨h3, by omega⟩))
        rw [hsb] at hcut
        obtain ⟨xn, hxn⟩ : ∃ xn, cutK nok k l = xn := ⟨_, rfl⟩
        rw [hxn] at hcut ⊢
        obtain ⟨y, n⟩ := xn
        simp only [cutE] at hcut ⊢
        have hnl : ((n : Int) == (s.size : Int)) = (n == l.length) := by rw [hsz]; cases h : (n == l.length) <;> simp at h ⊢ <;> omega
        obtain ⟨b, hb⟩ : ∃ b, (n == l.length) = b := ⟨_, rfl⟩
        rw [hb] at hnl ⊢
        clear hsb hsz hn hxn hb h0 h3 hpos
        go_enter Tryd.func12, Tryd.ntmps12
        go_wp2_with (first | (go_at_call 13; refine (hko.out _).mono ?_; rintro e w1 ⟨rfl, hw1⟩; have hw1s := hw1.symm; clear hw1; subst hw1s) | (go_at_call 15; refine (hcut.out _).mono ?_; rintro e w2 ⟨rfl, hb2⟩; have hc2 : w2.cell? ⟨w.heap.size, 1, none⟩ = some (.string s) := (World.cell?_of_block (hb2.block w.heap.size (by simp))).trans (by simp); have hb2 := hide (below_then (hB0.out _) hb2)))
        go_ret
        exact ⟨rfl, hb2.out⟩
set_option maxHeartbeats 1000000 in
set_option maxRecDepth 100000 in
theorem spell_any (t : Tk) (w : World) (hs : t.s.length ≤ 5000) : Calls Tryd.prog 14 #[.agg #[.int .i64 t.w, .string (mkB t.s), .int .i64 t.p]] w fun e w' => e = .returned (.string (mkB (splT t))) ∧ Below w.heap.size w w' := by
  obtain ⟨x, l, p⟩ := t
  simp only at hs ⊢
  unfold splT spl
  simp only
  obtain ⟨s, hsd⟩ : ∃ s, mkB l = s := ⟨_, rfl⟩
  have hsb : bl s = l := by rw [← hsd, bl_mkB]
  have hsz : s.size = l.length := by rw [← hsd, mkB_size]
  have hB0 : Hid (∀ o, Below w.heap.size w (w.alloc o)) := fun o => below_al (Below.refl _ _)
  have hq := hide (fun o => quote_any s (w.alloc o) (by omega))
  rw [hsb] at hq
  obtain ⟨Z, hZ⟩ : ∃ Z, mkB (quo l) = Z := ⟨_, rfl⟩
  rw [hZ] at hq
  rw [hsd]
  by_cases h2 : x = 2
  · subst h2
    rw [if_pos rfl, hZ]
    clear hsd hsb hsz hZ
    go_enter Tryd.func14, Tryd.ntmps14
    go_wp2_with (go_at_call 17; refine (hq.out _).mono ?_; rintro e w2 ⟨rfl, hb2⟩; have hb2 := hide (below_then (hB0.out _) hb2))
    go_ret
    exact ⟨rfl, hb2.out⟩
  · rw [if_neg h2, hsd]
    have e2 : (x == 2) = false := by simpa using h2
    clear hsd hsb hsz hZ h2
    go_enter Tryd.func14, Tryd.ntmps14
    go_wp2
    go_ret
    exact ⟨rfl, hB0.out _⟩
end Lx
end Go.Proofs.YtjidnceccpmheaaDoor
