/- The reference of layer 13: char, text: walked. -/
import Derived.Test.YtjidnceccpmheaaGreatDoorZlGfIs
import Derived.Test.YtjidnceccpmheaaGreatDoorZlAkUnq
namespace Go.Proofs.YtjidnceccpmheaaGreatDoor
namespace Lx
open Go.RowKit
set_option linter.unusedSimpArgs false
set_option linter.unusedVariables false
def dgV (c : UInt8) : Int := if 48 ≤ c.toNat ∧ c.toNat ≤ 57 then (c.toNat : Int) - 48 else if 97 ≤ c.toNat ∧ c.toNat ≤ 102 then (c.toNat : Int) - 87 else -1
theorem rdigit_any (c : UInt8) (w : World) : Calls Tryz.prog 61 #[.int .u8 (c.toNat : Int)] w fun e w' => e = .returned (.int .i64 (dgV c)) ∧ w' = w := by
  have hc := c.toNat_lt
  unfold dgV
  by_cases h1 : 48 ≤ c.toNat ∧ c.toNat ≤ 57
  · rw [if_pos h1]
    obtain ⟨a, b⟩ := h1
    have i1 : (48 : Int) ≤ (c.toNat : Int) := by omega
    have i2 : (c.toNat : Int) ≤ 57 := by omega
    go_enter Tryz.func61, Tryz.ntmps61
    go_wp2
    go_ret
    exact ⟨by first | rfl | (congr 2; omega), rfl⟩
  · rw [if_neg h1]
    by_cases h2 : 97 ≤ c.toNat ∧ c.toNat ≤ 102
    · rw [if_pos h2]
      obtain ⟨a, b⟩ := h2
      have i1 : (48 : Int) ≤ (c.toNat : Int) := by omega
      have i2 : ¬ ((c.toNat : Int) ≤ 57) := by omega
      have i3 : (97 : Int) ≤ (c.toNat : Int) := by omega
      have i4 : (c.toNat : Int) ≤ 102 := by omega
      have hw : IntKind.i64.wrap ((c.toNat : Int) - 97 + 10) = (c.toNat : Int) - 97 + 10 := by rw [IntKind.wrap_i64]; omega
      go_enter Tryz.func61, Tryz.ntmps61
      go_wp2
      go_ret
      exact ⟨by first | rfl | (congr 2; omega) | (show Ending.returned (.int .i64 ((c.toNat : Int) - 97 + 10)) = _; congr 2; omega), rfl⟩
    · rw [if_neg h2]
      by_cases a : 48 ≤ c.toNat
      · have i1 : (48 : Int) ≤ (c.toNat : Int) := by omega
        have i2 : ¬ ((c.toNat : Int) ≤ 57) := by omega
        by_cases b : 97 ≤ c.toNat
        · have i3 : (97 : Int) ≤ (c.toNat : Int) := by omega
          have i4 : ¬ ((c.toNat : Int) ≤ 102) := by omega
          go_enter Tryz.func61, Tryz.ntmps61
          go_wp2
          go_ret
          exact ⟨rfl, rfl⟩
        · have i3 : ¬ ((97 : Int) ≤ (c.toNat : Int)) := by omega
          go_enter Tryz.func61, Tryz.ntmps61
          go_wp2
          go_ret
          exact ⟨rfl, rfl⟩
      · have i1 : ¬ ((48 : Int) ≤ (c.toNat : Int)) := by omega
        have i3 : ¬ ((97 : Int) ≤ (c.toNat : Int)) := by omega
        go_enter Tryz.func61, Tryz.ntmps61
        go_wp2
        go_ret
        exact ⟨rfl, rfl⟩
/-- A character by its number. -/
def byF (o : Option Nat) : Option (List UInt8 × Nat) := match o with
  | none => none
  | some r => if Utf8.valid (r : Int) then some (Ut.bl (Utf8.encode (r : Int)), 6) else none
theorem byN_eq (l : List UInt8) : byN l = if l.length < 4 then none else byF (hxN 0 (l.take 4)) := by
  unfold byN byF
  rfl
theorem hxU_big {c : UInt8} (h : 65 ≤ c.toNat ∧ c.toNat ≤ 70) : hxU c = some (c.toNat - 55) := by
  unfold hxU
  rw [if_neg (by omega), if_neg (by omega), if_pos h]
theorem hxU_dg {c : UInt8} (h : ¬ (65 ≤ c.toNat ∧ c.toNat ≤ 70)) : (dgV c < 0 ∧ hxU c = none) ∨ ∃ d : Nat, d < 16 ∧ dgV c = (d : Int) ∧ hxU c = some d := by
  unfold dgV hxU
  by_cases h1 : 48 ≤ c.toNat ∧ c.toNat ≤ 57
  · rw [if_pos h1, if_pos h1]
    exact Or.inr ⟨c.toNat - 48, by omega, by omega, rfl⟩
  · rw [if_neg h1, if_neg h1]
    by_cases h2 : 97 ≤ c.toNat ∧ c.toNat ≤ 102
    · rw [if_pos h2, if_pos h2]
      exact Or.inr ⟨c.toNat - 87, by omega, by omega, rfl⟩
    · rw [if_neg h2, if_neg h2, if_neg h]
      exact Or.inl ⟨by decide, rfl⟩
set_option maxHeartbeats 4000000 in
set_option maxRecDepth 100000 in
theorem rchar_any (s : ByteArray) (w : World) (h34 : ∀ h : 0 < s.size, ¬ s[0].toNat = 34) (hs : s.size ≤ 100000) : Calls Tryz.prog 46 #[.string s] w fun e w' => e = chE (chO (bl s)) ∧ Below w.heap.size w w' := by
  by_cases h0 : 0 < s.size
  · have hne : ¬ s.toList = [] := by rw [bl_toList]; intro e; have := congrArg List.length e; rw [bl_length, List.length_nil] at this; omega
    have hneb : s.toList.isEmpty = false := by rw [bl_toList]; cases hq : bl s with | nil => have := congrArg List.length hq; rw [bl_length, List.length_nil] at this; omega | cons a t => rfl
    have h0i : (0 : Int) < (s.size : Int) := by omega
    have j0 : ((s[0].toNat : Int) == 34) = false := by have := h34 h0; simp; omega
    obtain ⟨l, hl⟩ := bl_cons s h0
    have hch : chO (bl s) = if s[0].toNat = 92 then escO l else if s[0].toNat < 32 then none else match Ut.chr (bl s) with | none => none | some (_, n) => some ((bl s).take n, n) := by rw [hl]; rfl
    rw [hch]
    clear hch h34
    by_cases h32 : s[0].toNat < 32
    · rw [if_neg (by omega), if_pos h32, chE_none]
      have j2 : (s[0].toNat : Int) < 32 := by omega
      clear hl
      go_enter Tryz.func46, Tryz.ntmps46
      go_wp2
      go_ret2
      exact ⟨rfl, Below.refl _ _⟩
    · have j2 : ¬ (s[0].toNat : Int) < 32 := by omega
      by_cases h92 : s[0].toNat = 92
      · rw [if_pos h92]
        have j1 : ((s[0].toNat : Int) != 92) = false := by simp; omega
        have j1' : ((s[0].toNat : Int) == 92) = true := by simp; omega
        clear h92 h32
        by_cases hz1 : s.size = 1
        · have hl0 : l = [] := by have := congrArg List.length hl; rw [bl_length, List.length_cons] at this; exact List.length_eq_zero_iff.1 (by omega)
          subst hl0
          have i2 : ¬ ((2 : Int) ≤ (s.size : Int)) := by omega
          have i6 : (s.size : Int) < 6 := by omega
          show Calls _ _ _ _ fun e w' => e = .returned (.tuple #[.string ⟨#[]⟩, .int .i64 0]) ∧ Below w.heap.size w w'
          clear hl
          go_enter Tryz.func46, Tryz.ntmps46
          go_wp2
          go_ret2
          exact ⟨rfl, Below.refl _ _⟩
        · have h2 : 1 < s.size := by omega
          have i2 : (2 : Int) ≤ (s.size : Int) := by omega
          have i2' : (1 : Int) < (s.size : Int) := by omega
          obtain ⟨l2, hl2⟩ := bl_two s h2
          have hll : l = s[1] :: l2 := by rw [hl2] at hl; exact (List.cons.inj hl).2.symm
          rw [hll]
          have hd2 : (bl s).drop 2 = l2 := by rw [hl2]; rfl
          have hl2l : l2.length = s.size - 2 := by rw [← hd2, List.length_drop, bl_length]
          have hext : s.extract 1 2 = mkB [s[1]] := by rw [extract_mkB, show (bl s).drop 1 = s[1] :: l2 by rw [hl2]; rfl]; rfl
          obtain ⟨c, hc⟩ : ∃ c, s[1] = c := ⟨_, rfl⟩
          rw [hc] at hext ⊢
          simp only [escO]
          clear hl hll
          by_cases c34 : c.toNat = 34
          · rw [if_pos (Or.inl c34), chE_some]
            have k1 : ((c.toNat : Int) == 34) = true := by simp; omega
            clear c34 hl2 hd2 hl2l
            go_enter Tryz.func46, Tryz.ntmps46
            go_wp2
            go_ret2
            exact ⟨rfl, Below.refl _ _⟩
          · have k1 : ((c.toNat : Int) == 34) = false := by simp; omega
            by_cases c92 : c.toNat = 92
            · rw [if_pos (Or.inr c92), chE_some]
              have k2 : ((c.toNat : Int) == 92) = true := by simp; omega
              clear c34 c92 hl2 hd2 hl2l
              go_enter Tryz.func46, Tryz.ntmps46
              go_wp2
              go_ret2
              exact ⟨rfl, Below.refl _ _⟩
            · rw [if_neg (by omega)]
              have k2 : ((c.toNat : Int) == 92) = false := by simp; omega
              by_cases h6 : s.size < 6
              · have i6 : (s.size : Int) < 6 := by omega
                have hn : (if c.toNat = 117 then byN l2 else none) = none := by
                  split
                  · unfold byN; rw [if_pos (by omega)]
                  · rfl
                rw [hn, chE_none]
                clear c34 c92 hl2 hd2 hl2l hn
                go_enter Tryz.func46, Tryz.ntmps46
                go_wp2
                go_ret2
                exact ⟨rfl, Below.refl _ _⟩
              · have i6 : ¬ (s.size : Int) < 6 := by omega
                have i6' : (6 : Int) ≤ (s.size : Int) := by omega
                by_cases c117 : c.toNat = 117
                · rw [if_pos c117]
                  have k3 : ((c.toNat : Int) != 117) = false := by simp; omega
                  have k3' : ((c.toNat : Int) == 117) = true := by simp; omega
                  rw [byN_eq, if_neg (by omega)]
                  have hq4 : (l2.take 4).length = 4 := by rw [List.length_take]; omega
                  have hqa : Hid (∀ i (h2 : 2 ≤ i) (h6 : i < 6), (l2.take 4).drop (i - 2) = s[i]'(by omega) :: (l2.take 4).drop (i + 1 - 2)) := fun i h2 h6 => by
                    have h1 : i - 2 < (l2.take 4).length := by omega
                    rw [List.drop_eq_getElem_cons h1, show i - 2 + 1 = i + 1 - 2 by omega]
                    congr 1
                    rw [List.getElem_take]
                    have : l2[i - 2]'(by omega) = (bl s)[i]'(by rw [bl_length]; omega) := by
                      simp only [← hd2, List.getElem_drop]
                      congr 1
                      omega
                    rw [this, bl_get s i (by omega)]
                  obtain ⟨R, hR⟩ : ∃ R, chE (byF (hxN 0 (l2.take 4))) = R := ⟨_, rfl⟩
                  rw [hR]
                  have HR := hide hR
                  clear c34 c92 hl2 hd2 hl2l c117 hR
                  go_enter Tryz.func46, Tryz.ntmps46
                  go_wp2
                  go_loop [7, 8] (fun vn vi => ∃ (i acc : Nat), vi = .int .i64 (i : Nat) ∧ vn = .int .i64 (acc : Nat) ∧ 2 ≤ i ∧ i ≤ 6 ∧ Hid (acc < 16 ^ (i - 2) ∧ hxN 0 (l2.take 4) = hxN acc ((l2.take 4).drop (i - 2)))) (fun _ vi => 6 - (intOf vi).toNat)
                  case atStart => exact ⟨2, 0, rfl, rfl, by omega, by omega, by simp, rfl⟩
                  case round =>
                    obtain ⟨i, acc, rfl, rfl, hi2, hi6, H⟩ := hrel
                    obtain ⟨hacc, hhx⟩ := H.out
                    have hp : 16 ^ (i - 2) ≤ 16 ^ 4 := Nat.pow_le_pow_right (by omega) (by omega)
                    have hacc4 : acc < 65536 := by have : (16 : Nat) ^ 4 = 65536 := by decide
                                                   omega
                    by_cases hi : i < 6
                    · have hii : (i : Int) < 6 := by omega
                      have his : (i : Int) < (s.size : Int) := by omega
                      have hdr := hqa.out i hi2 hi
                      rw [hdr] at hhx
                      have hd := hide (fun w => rdigit_any (s[i]'(by omega)) w)
                      obtain ⟨d, hdd⟩ : ∃ d, s[i]'(by omega) = d := ⟨_, rfl⟩
                      rw [hdd] at hd hhx
                      have hstep : Hid (∀ x, hxU d = some x → x < 16 → (16 * acc + x < 16 ^ (i + 1 - 2) ∧ hxN 0 (l2.take 4) = hxN (16 * acc + x) ((l2.take 4).drop (i + 1 - 2)))) := fun x hx hx16 => by
                        refine ⟨?_, by rw [hhx, hxN, hx]⟩
                        rw [show i + 1 - 2 = (i - 2) + 1 by omega, Nat.pow_succ]
                        omega
                      have hnone : Hid (hxU d = none → hxN 0 (l2.take 4) = none) := fun hx => by rw [hhx, hxN, hx]
                      clear hdr hhx hacc H hp
                      have hd256 := d.toNat_lt
                      by_cases hbig : 65 ≤ d.toNat ∧ d.toNat ≤ 70
                      · have hs2 := hide (hstep.out _ (hxU_big hbig) (by omega))
                        obtain ⟨b1, b2⟩ := hbig
                        have q1 : (65 : Int) ≤ (d.toNat : Int) := by omega
                        have q2 : (d.toNat : Int) ≤ 70 := by omega
                        have q3 : ¬ ((d.toNat : Int) - 65 + 10 < 0) := by omega
                        have hw1 : IntKind.i64.wrap ((d.toNat : Int) - 65 + 10) = (d.toNat : Int) - 65 + 10 := by rw [IntKind.wrap_i64]; omega
                        have hw2 : IntKind.i64.wrap (16 * (acc : Int)) = 16 * (acc : Int) := by rw [IntKind.wrap_i64]; omega
                        have hw3 : IntKind.i64.wrap (16 * (acc : Int) + ((d.toNat : Int) - 65 + 10)) = 16 * (acc : Int) + ((d.toNat : Int) - 65 + 10) := by rw [IntKind.wrap_i64]; omega
                        go_wp2_with (go_at_call 61; refine (hd.out _).mono ?_; rintro e w1 ⟨rfl, hw1⟩; have hw1s := hw1.symm; clear hw1; subst hw1s)
                        go_round
                        case rel => exact ⟨i + 1, 16 * acc + (d.toNat - 55), by go_num, by first | go_num | (congr 1; omega), by omega, by omega, hs2⟩
                        case measure => simp [intOf]; omega
                      · have hnb : ¬ ((65 : Int) ≤ (d.toNat : Int)) ∨ ((65 : Int) ≤ (d.toNat : Int) ∧ ¬ ((d.toNat : Int) ≤ 70)) := by omega
                        rcases hxU_dg hbig with ⟨g1, g2⟩ | ⟨x, g1, g2, g3⟩
                        · have hno := hnone.out g2
                          have R2 : Hid (R = .returned (.tuple #[.string ⟨#[]⟩, .int .i64 0])) := by show _ = _; rw [← HR.out, hno]; rfl
                          obtain ⟨y, hy⟩ : ∃ y, dgV d = y := ⟨_, rfl⟩
                          rw [hy] at hd g1
                          clear hbig g2 hno hy hstep hnone HR
                          rcases hnb with q1 | ⟨q1, q2⟩
                          all_goals
                            go_wp2_with (go_at_call 61; refine (hd.out _).mono ?_; rintro e w1 ⟨rfl, hw1⟩; have hw1s := hw1.symm; clear hw1; subst hw1s)
                            go_ret2
                            exact ⟨R2.out.symm, Below.refl _ _⟩
                        · have hs2 := hide (hstep.out x g3 g1)
                          rw [g2] at hd
                          have q3 : ¬ ((x : Int) < 0) := by omega
                          have hw2 : IntKind.i64.wrap (16 * (acc : Int)) = 16 * (acc : Int) := by rw [IntKind.wrap_i64]; omega
                          have hw3 : IntKind.i64.wrap (16 * (acc : Int) + (x : Int)) = 16 * (acc : Int) + (x : Int) := by rw [IntKind.wrap_i64]; omega
                          clear hbig g2 g3 hstep hnone
                          rcases hnb with q1 | ⟨q1, q2⟩
                          all_goals
                            go_wp2_with (go_at_call 61; refine (hd.out _).mono ?_; rintro e w1 ⟨rfl, hw1⟩; have hw1s := hw1.symm; clear hw1; subst hw1s)
                            go_round
                            case rel => exact ⟨i + 1, 16 * acc + x, by go_num, by first | go_num | (congr 1; omega), by omega, by omega, hs2⟩
                            case measure => simp [intOf]; omega
                    · have hii : ¬ (i : Int) < 6 := by omega
                      have hsm : hxN 0 (l2.take 4) = some acc := by rw [hhx, List.drop_of_length_le (by omega)]; rfl
                      have hen := hide (fun w => Ut.rencode_any (acc : Int) w (by omega) (by omega))
                      have R2 : Hid (R = chE (if Utf8.valid (acc : Int) then some (Ut.bl (Utf8.encode (acc : Int)), 6) else none)) := by show _ = _; rw [← HR.out, hsm]; rfl
                      clear H hacc hhx hsm HR hqa hp
                      cases hv : Utf8.valid (acc : Int)
                      · have R3 : Hid (R = .returned (.tuple #[.string ⟨#[]⟩, .int .i64 0])) := by show _ = _; rw [R2.out, hv]; rfl
                        simp only [hv, Bool.false_eq_true, if_false] at hen
                        clear R2
                        go_wp2_with (go_at_call 62; refine (hen.out _).mono ?_; rintro e w2 ⟨rfl, hb2⟩; have B2 := hide hb2; clear hb2)
                        go_ret2
                        exact ⟨R3.out.symm, B2.out⟩
                      · have R3 : Hid (R = .returned (.tuple #[.string (Utf8.encode (acc : Int)), .int .i64 6])) := by show _ = _; rw [R2.out, hv]; show chE (some (_, 6)) = _; rw [chE_some, show mkB (Ut.bl (Utf8.encode (acc : Int))) = Utf8.encode (acc : Int) from mkB_bl _]; rfl
                        simp only [hv, if_true] at hen
                        obtain ⟨E, hE⟩ : ∃ E, Utf8.encode (acc : Int) = E := ⟨_, rfl⟩
                        rw [hE] at hen R3
                        clear hE R2
                        go_wp2_with (go_at_call 62; refine (hen.out _).mono ?_; rintro e w2 ⟨rfl, hb2⟩; have B2 := hide hb2; clear hb2)
                        go_ret2
                        exact ⟨R3.out.symm, B2.out⟩
                · rw [if_neg c117, chE_none]
                  have k3 : ((c.toNat : Int) != 117) = true := by simp; omega
                  have k3' : ((c.toNat : Int) == 117) = false := by simp; omega
                  clear c34 c92 hl2 hd2 hl2l c117
                  go_enter Tryz.func46, Tryz.ntmps46
                  go_wp2
                  go_ret2
                  exact ⟨rfl, Below.refl _ _⟩
      · rw [if_neg h92, if_neg h32]
        have j1 : ((s[0].toNat : Int) != 92) = true := by simp; omega
        have j1' : ((s[0].toNat : Int) == 92) = false := by simp; omega
        have hdc := hide (Ut.rdecode_any s 0 w (by omega))
        have hda : Ut.decA (Ut.bl s) 0 = Ut.decF (bl s) := by unfold Ut.decA; rw [if_pos ⟨by omega, by rw [Ut.bl_length]; omega⟩]; rfl
        rw [hda] at hdc
        clear h92 hl hda
        cases hq : Ut.chr (bl s) with
        | none =>
          have hz : (Ut.decF (bl s)).2.2 ≠ 0 := by unfold Ut.decF; rw [hq]; simp only; split <;> decide
          obtain ⟨x, hx⟩ : ∃ x, Ut.decF (bl s) = x := ⟨_, rfl⟩
          rw [hx] at hz hdc
          obtain ⟨x1, x2, x3⟩ := x
          simp only at hz
          have e3 : ((x3 : Int) != 0) = true := by simp; omega
          have e3' : ((x3 : Int) == 0) = false := by simp; omega
          simp only [chE_none]
          clear hx hq hz
          go_enter Tryz.func46, Tryz.ntmps46
          go_wp2_with (go_at_call 60; refine hdc.out.mono ?_; rintro e w1 ⟨rfl, hb1⟩; have hb1 := hide hb1)
          go_ret2
          exact ⟨rfl, hb1.out⟩
        | some rn =>
          obtain ⟨r, n⟩ := rn
          have hz : Ut.decF (bl s) = (r, n, 0) := by unfold Ut.decF; rw [hq]
          rw [hz] at hdc
          have hn := (Ut.chr_some hq).2.2.1
          rw [bl_length] at hn
          have hni : (0 : Int) ≤ (n : Int) ∧ (n : Int) ≤ (s.size : Int) := by omega
          obtain ⟨hn0, hn1⟩ := hni
          simp only [chE_some]
          have he := take_mk s n
          clear hq hz hn
          go_enter Tryz.func46, Tryz.ntmps46
          go_wp2_with (go_at_call 60; refine hdc.out.mono ?_; rintro e w1 ⟨rfl, hb1⟩; have hb1 := hide hb1)
          go_ret2
          exact ⟨by first | rfl | (rw [← he]; rfl) | simp [he], hb1.out⟩
  · have hl : bl s = [] := List.length_eq_zero_iff.1 (by rw [bl_length]; omega)
    have hs0 : s = ⟨#[]⟩ := by rw [← mkB_bl s, hl]; rfl
    rw [hl]
    subst hs0
    show Calls _ _ _ _ fun e w' => e = .returned (.tuple #[.string ⟨#[]⟩, .int .i64 0]) ∧ Below w.heap.size w w'
    clear hl h34
    go_enter Tryz.func46, Tryz.ntmps46
    go_wp2
    go_ret2
    exact ⟨rfl, Below.refl _ _⟩
end Lx
end Go.Proofs.YtjidnceccpmheaaGreatDoor
