/- The reference of layer 13: blanks, Scan: walked. -/
import Derived.Test.YtjidnceccpmheaaGreatDoorZlGlToken
import Derived.WalkMore
namespace Go.Proofs.YtjidnceccpmheaaGreatDoor
namespace Lx
open Go.RowKit
set_option linter.unusedSimpArgs false
set_option linter.unusedVariables false
def bkN : Nat → List UInt8 → Nat
  | 0, _ => 0
  | f + 1, l => if blS l = 0 then 0 else blS l + bkN f (l.drop (blS l))
theorem blS_le (l : List UInt8) : blS l ≤ l.length := by
  cases l with
  | nil => simp [blS]
  | cons c l => simp only [blS]; split; exact wh_le _ _; split <;> simp
theorem bkN_more : ∀ (f : Nat) (l : List UInt8), l.length ≤ f → bkN f l = bkN l.length l
  | 0, l, h => by have : l = [] := List.length_eq_zero_iff.1 (by omega); subst this; rfl
  | f + 1, [], h => by simp [bkN, blS]
  | f + 1, c :: l, h => by
    simp only [List.length_cons] at h
    simp only [bkN, List.length_cons]
    by_cases h0 : blS (c :: l) = 0
    · rw [if_pos h0, if_pos h0]
    · rw [if_neg h0, if_neg h0]
      have hd : ((c :: l).drop (blS (c :: l))).length ≤ l.length := by rw [List.length_drop, List.length_cons]; omega
      rw [bkN_more f _ (by omega), bkN_more l.length _ hd]
/-- How many blanks stand at the front. -/
def bk (l : List UInt8) : Nat := bkN l.length l
theorem bk_zero {l : List UInt8} (h : blS l = 0) : bk l = 0 := by
  unfold bk
  cases l with
  | nil => rfl
  | cons c l => simp [bkN, h]
theorem bk_step {l : List UInt8} (h : blS l ≠ 0) : bk l = blS l + bk (l.drop (blS l)) := by
  unfold bk
  cases l with
  | nil => exact absurd rfl h
  | cons c l =>
    have hd : ((c :: l).drop (blS (c :: l))).length ≤ l.length := by rw [List.length_drop, List.length_cons]; omega
    simp only [List.length_cons, bkN]
    rw [if_neg h, bkN_more l.length _ hd]
theorem bk_all : ∀ (m : Nat) (l : List UInt8), l.length ≤ m → bk l ≤ l.length ∧ blS (l.drop (bk l)) = 0 ∧ ∀ p acc, scnA nok l p acc = scnA nok (l.drop (bk l)) (p + bk l) acc
  | m, [], h => ⟨by simp [bk, bkN], rfl, fun p acc => by simp [bk, bkN, scnA_nil]⟩
  | 0, c :: l, h => by simp at h
  | m + 1, c :: l, h => by
    by_cases h0 : blS (c :: l) = 0
    · rw [bk_zero h0]
      exact ⟨by simp, h0, fun p acc => rfl⟩
    · have hle := blS_le (c :: l)
      have hd : ((c :: l).drop (blS (c :: l))).length ≤ m := by rw [List.length_drop, List.length_cons]; simp only [List.length_cons] at h; omega
      obtain ⟨a, b, d⟩ := bk_all m _ hd
      rw [List.length_drop] at a
      rw [bk_step h0]
      refine ⟨by omega, by rw [← List.drop_drop]; exact b, fun p acc => ?_⟩
      have ht : tok nok (c :: l) = some (0, [], blS (c :: l)) := by simp [tok, fstK, cutK, h0]
      rw [scnA_cons, ht]
      simp only [if_true]
      rw [d, List.drop_drop, Nat.add_assoc]
theorem blS_35 (s : ByteArray) (p : Nat) (h : p < s.size) (h35 : s[p].toNat = 35) : blS ((bl s).drop p) = wh notNl ((bl s).drop p) := by
  have hpl : p < (bl s).length := by rw [bl_length]; exact h
  have hd : (bl s).drop p = s[p] :: (bl s).drop (p + 1) := by rw [List.drop_eq_getElem_cons hpl]; exact congrArg (· :: (bl s).drop (p + 1)) (bl_get s p h)
  rw [hd]
  simp only [blS]
  exact if_pos h35
theorem blS_at (s : ByteArray) (p : Nat) (h : p < s.size) (h35 : ¬ s[p].toNat = 35) : blS ((bl s).drop p) = if isBlk s[p] then 1 else 0 := by
  have hpl : p < (bl s).length := by rw [bl_length]; exact h
  have hd : (bl s).drop p = s[p] :: (bl s).drop (p + 1) := by rw [List.drop_eq_getElem_cons hpl]; exact congrArg (· :: (bl s).drop (p + 1)) (bl_get s p h)
  rw [hd]
  simp only [blS]
  exact if_neg h35
set_option maxHeartbeats 4000000 in
set_option maxRecDepth 100000 in
theorem rblanks_any (s : ByteArray) (p0 : Nat) (w : World) (hp0 : p0 ≤ s.size) (hs : s.size ≤ 100000) : Calls Tryz.prog 13 #[.string s, .int .i64 (p0 : Nat)] w fun e w' => e = .returned (.int .i64 ((p0 + bk ((bl s).drop p0) : Nat) : Int)) ∧ w' = w := by
  obtain ⟨R, hR⟩ : ∃ R, p0 + bk ((bl s).drop p0) = R := ⟨_, rfl⟩
  rw [hR]
  have HR := hide hR
  clear hR
  go_enter Tryz.func13, Tryz.ntmps13
  go_wp2
  go_loop [1] (fun i => ∃ p : Nat, i = .int .i64 (p : Nat) ∧ p ≤ s.size ∧ Hid (R = p + bk ((bl s).drop p))) (fun i => s.size - (intOf i).toNat)
  case atStart => exact ⟨p0, rfl, hp0, HR.out.symm⟩
  case round =>
    obtain ⟨p, rfl, hp, H⟩ := hrel
    by_cases hps : p < s.size
    · have hpi : (p : Int) < (s.size : Int) := by omega
      by_cases h35 : s[p].toNat = 35
      · have hb := blS_35 s p hps h35
        have hnz : blS ((bl s).drop p) ≠ 0 := by
          rw [hb, wh_drop notNl s p hps]
          simp [notNl, h35]
        have hstep := bk_step hnz
        rw [hb, List.drop_drop] at hstep
        have H2 : Hid (R = (p + wh notNl ((bl s).drop p)) + bk ((bl s).drop (p + wh notNl ((bl s).drop p)))) := by show _ = _; rw [H.out, hstep]; omega
        have hpos : 1 ≤ wh notNl ((bl s).drop p) := by rw [hb] at hnz; omega
        have e0 : ((s[p].toNat : Int) == 32) = false := by simp; omega
        have e1 : ((s[p].toNat : Int) == 9) = false := by simp; omega
        have e2 : ((s[p].toNat : Int) == 10) = false := by simp; omega
        have e3 : ((s[p].toNat : Int) == 13) = false := by simp; omega
        have e4 : ((s[p].toNat : Int) == 35) = true := by simp; omega
        obtain ⟨N, hN⟩ : ∃ N, wh notNl ((bl s).drop p) = N := ⟨_, rfl⟩
        rw [hN] at H2 hpos
        have HN := hide hN
        clear hb hnz hstep h35 H hN
        go_wp2
        go_hide hQ
        go_loop [1] (fun i => ∃ k : Nat, i = .int .i64 (k : Nat) ∧ p ≤ k ∧ k ≤ s.size ∧ Hid (p + N = k + wh notNl ((bl s).drop k))) (fun i => s.size - (intOf i).toNat)
        case atStart => exact ⟨p, rfl, by omega, by omega, by show _ = _; rw [HN.out]⟩
        case round =>
          obtain ⟨k, rfl, hk1, hk, K⟩ := hrel
          by_cases hks : k < s.size
          · have hki : (k : Int) < (s.size : Int) := by omega
            have hwd := wh_drop notNl s k hks
            by_cases h10 : s[k].toNat = 10
            · have hn : notNl s[k] = false := by simp [notNl, h10]
              rw [hn] at hwd
              have K2 : p + N = k := by rw [K.out, hwd]; simp
              have f1 : ((s[k].toNat : Int) != 10) = false := by simp; omega
              have f1' : ((s[k].toNat : Int) == 10) = true := by simp; omega
              have K3 : Hid (R = k + bk ((bl s).drop k)) := by have := H2.out; rw [K2] at this; exact this
              have hkp : p < k := by omega
              clear hwd hn h10 K K2 H2
              go_wp2
              subst hQ
              go_wp2
              go_round
              case rel => exact ⟨k, rfl, by omega, K3⟩
              case measure => simp [intOf]; omega
            · have hn : notNl s[k] = true := by simp [notNl, h10]
              rw [hn] at hwd
              have K2 : Hid (p + N = (k + 1) + wh notNl ((bl s).drop (k + 1))) := by show _ = _; rw [K.out, hwd]; simp only [if_true]; omega
              have f1 : ((s[k].toNat : Int) != 10) = true := by simp; omega
              have f1' : ((s[k].toNat : Int) == 10) = false := by simp; omega
              clear hwd hn h10 K
              go_wp2
              go_round
              case rel => exact ⟨k + 1, by go_num, by omega, by omega, K2⟩
              case measure => simp [intOf]; omega
          · have hki : ¬ (k : Int) < (s.size : Int) := by omega
            have K2 : p + N = k := by rw [K.out, wh_end _ s k hks]; rfl
            have K3 : Hid (R = k + bk ((bl s).drop k)) := by have := H2.out; rw [K2] at this; exact this
            have hkp : p < k := by omega
            clear K K2 H2
            go_wp2
            subst hQ
            go_wp2
            go_round
            case rel => exact ⟨k, rfl, by omega, K3⟩
            case measure => simp [intOf]; omega
      · have hb := blS_at s p hps h35
        have e4 : ((s[p].toNat : Int) == 35) = false := by simp; omega
        cases hq : isBlk s[p]
        · rw [hq] at hb
          have H2 : Hid (R = p) := by show _ = _; rw [H.out, bk_zero (by simpa using hb)]; rfl
          have hq4 : ¬ s[p].toNat = 32 ∧ ¬ s[p].toNat = 9 ∧ ¬ s[p].toNat = 10 ∧ ¬ s[p].toNat = 13 := by
            simp only [isBlk, Bool.or_eq_false_iff, beq_eq_false_iff_ne] at hq
            omega
          have e0 : ((s[p].toNat : Int) == 32) = false := by simp; omega
          have e1 : ((s[p].toNat : Int) == 9) = false := by simp; omega
          have e2 : ((s[p].toNat : Int) == 10) = false := by simp; omega
          have e3 : ((s[p].toNat : Int) == 13) = false := by simp; omega
          clear hb hq h35 H hq4
          go_wp2
          go_ret
          exact ⟨by rw [H2.out]; rfl, rfl⟩
        · rw [hq] at hb
          simp only [if_true] at hb
          have hstep := bk_step (l := (bl s).drop p) (by omega)
          rw [hb, List.drop_drop] at hstep
          have H2 : Hid (R = (p + 1) + bk ((bl s).drop (p + 1))) := by show _ = _; rw [H.out, hstep]; omega
          have hw : s[p].toNat = 32 ∨ (¬ s[p].toNat = 32 ∧ s[p].toNat = 9) ∨ (¬ s[p].toNat = 32 ∧ ¬ s[p].toNat = 9 ∧ s[p].toNat = 10) ∨ (¬ s[p].toNat = 32 ∧ ¬ s[p].toNat = 9 ∧ ¬ s[p].toNat = 10 ∧ s[p].toNat = 13) := by
            simp only [isBlk, Bool.or_eq_true, beq_iff_eq] at hq
            omega
          clear hb hq hstep h35 H
          rcases hw with h | ⟨a, h⟩ | ⟨a, b, h⟩ | ⟨a, b, c, h⟩
          · have e0 : ((s[p].toNat : Int) == 32) = true := by simp; omega
            clear h
            go_wp2
            go_round
            case rel => exact ⟨p + 1, by go_num, by omega, H2⟩
            case measure => simp [intOf]; omega
          · have e0 : ((s[p].toNat : Int) == 32) = false := by simp; omega
            have e1 : ((s[p].toNat : Int) == 9) = true := by simp; omega
            clear h a
            go_wp2
            go_round
            case rel => exact ⟨p + 1, by go_num, by omega, H2⟩
            case measure => simp [intOf]; omega
          · have e0 : ((s[p].toNat : Int) == 32) = false := by simp; omega
            have e1 : ((s[p].toNat : Int) == 9) = false := by simp; omega
            have e2 : ((s[p].toNat : Int) == 10) = true := by simp; omega
            clear h a b
            go_wp2
            go_round
            case rel => exact ⟨p + 1, by go_num, by omega, H2⟩
            case measure => simp [intOf]; omega
          · have e0 : ((s[p].toNat : Int) == 32) = false := by simp; omega
            have e1 : ((s[p].toNat : Int) == 9) = false := by simp; omega
            have e2 : ((s[p].toNat : Int) == 10) = false := by simp; omega
            have e3 : ((s[p].toNat : Int) == 13) = true := by simp; omega
            clear h a b c
            go_wp2
            go_round
            case rel => exact ⟨p + 1, by go_num, by omega, H2⟩
            case measure => simp [intOf]; omega
    · have hpi : ¬ (p : Int) < (s.size : Int) := by omega
      have H2 : Hid (R = p) := by
        show _ = _
        rw [H.out, List.drop_of_length_le (by rw [bl_length]; omega)]
        rfl
      clear H
      go_wp2
      go_ret
      exact ⟨by rw [H2.out]; rfl, rfl⟩
theorem unq_len2 : ∀ (f : Nat) (l s : List UInt8) (n : Nat), unq f l = some (s, n) → s.length ≤ n
  | 0, l, s, n, h => by cases h
  | f + 1, [], s, n, h => by cases h
  | f + 1, c :: l, s, n, h => by
    simp only [unq] at h
    split at h
    · cases h; simp
    · split at h
      · cases h
      · rename_i s1 n1 hc
        split at h
        · cases h
        · rename_i s2 n2 hu
          cases h
          have h1 := chO_len hc
          have h2 := unq_len2 f _ _ _ hu
          rw [List.length_append]
          omega
theorem cut_len2 {k : Nat} {c : UInt8} {l : List UInt8} : (cutK nok k (c :: l)).1.length ≤ (cutK nok k (c :: l)).2 := by
  unfold cutK
  split
  · simp
  · split
    · simp only [List.length_take]; omega
    · split
      · simp only [List.length_take]; omega
      · split
        · simp only [quS]
          split
          · split
            · simp
            · rename_i s n h
              have := unq_len2 _ _ _ _ h
              simp only [Option.getD_some]
              omega
          · simp
        · split
          · simp only [List.length_take]; omega
          · simp
theorem tok_4 {c : UInt8} {l x : List UInt8} {n : Nat} (h : tok nok (c :: l) = some (4, x, n)) : x.length = 1 := by
  obtain ⟨h1, h2, h3, h4, _⟩ := tok_n h
  have e : cutK nok 4 (c :: l) = ((c :: l).take (mkS (c :: l)), mkS (c :: l)) := rfl
  rw [e] at h4
  simp only [Prod.mk.injEq] at h4
  obtain ⟨rfl, rfl⟩ := h4
  have hm : mkS (c :: l) = 1 := by
    simp only [mkS] at h1 ⊢
    split at h1
    · rename_i hc; rw [if_pos hc]
    · omega
  rw [hm]
  rfl
theorem tok_lon {c : UInt8} {l x : List UInt8} {k n : Nat} (h : tok nok (c :: l) = some (k, x, n)) (hb : blS (c :: l) = 0) : k ≠ 0 ∧ lonR ⟨(wdK k : Nat), x, 0⟩ = decide (lgK k < x.length) := by
  obtain ⟨h1, h2, h3, h4, _⟩ := tok_n h
  have hk : k ≠ 0 := fun e => by
    subst e
    have e : cutK nok 0 (c :: l) = ([], blS (c :: l)) := rfl
    rw [e] at h4
    simp only [Prod.mk.injEq] at h4
    omega
  refine ⟨hk, ?_⟩
  have : k = 1 ∨ k = 2 ∨ k = 3 ∨ k = 4 := by omega
  rcases this with rfl | rfl | rfl | rfl
  · rfl
  · rfl
  · rfl
  · have := tok_4 h
    simp [lonR, wdK, lgK, this]
end Lx
end Go.Proofs.YtjidnceccpmheaaGreatDoor
