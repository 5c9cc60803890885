/- The reference of layer 13: text: walked. -/
import Derived.Test.YtjidnceccpmheaaGreatDoorZlGjChar
namespace Go.Proofs.YtjidnceccpmheaaGreatDoor
namespace Lx
open Go.RowKit
set_option linter.unusedSimpArgs false
set_option linter.unusedVariables false
set_option maxHeartbeats 2000000 in
set_option maxRecDepth 100000 in
theorem rtext_any (s : ByteArray) (w : World) (h0 : 0 < s.size) (h34 : s[0].toNat = 34) (hs : s.size ≤ 40000) : Calls Tryz.prog 31 #[.string s] w fun e w' => e = chE (quS (bl s)) ∧ Below w.heap.size w w' := by
  obtain ⟨l, hl⟩ := bl_cons s h0
  have hq0 : quS (bl s) = addU [] 1 (rst (bl s) 1) := by rw [hl]; exact quS_rst _ _ h34
  obtain ⟨U, hU⟩ : ∃ U, quS (bl s) = U := ⟨_, rfl⟩
  rw [hU] at hq0 ⊢
  have HQ := hide hq0
  clear hl h34 hU hq0
  go_enter Tryz.func31, Tryz.ntmps31
  go_wp2
  go_loopw [4, 5] (fun v i W => ∃ (p : Nat) (A : List UInt8), i = .int .i64 (p : Nat) ∧ v = .string (mkB A) ∧ p ≤ s.size ∧ Hid (A.length ≤ p ∧ U = addU A p (rst (bl s) p) ∧ Below w.heap.size w W ∧ 1 ≤ p)) (fun _ i _ => s.size - (intOf i).toNat)
  case atStart => exact ⟨1, [], rfl, rfl, by omega, by simp, HQ.out, Below.refl _ _, by omega⟩
  case round =>
    obtain ⟨p, A, rfl, rfl, hp, H⟩ := hrel
    obtain ⟨hAl, hUp, hB, hp1⟩ := H.out
    have B1 := hide hB
    have U1 := hide hUp
    have A1 := hide hAl
    clear H hB hUp hAl
    obtain ⟨t, ht⟩ : ∃ t, s.extract p s.size = t := ⟨_, rfl⟩
    have htb : bl t = (bl s).drop p := by rw [← ht, drop_mkB, bl_mkB]
    have hts : t.size = s.size - p := by rw [← bl_length, htb, List.length_drop, bl_length]
    by_cases hps : p < s.size
    · have hpi : (p : Int) < (s.size : Int) := by omega
      have hple : (p : Int) ≤ (s.size : Int) := by omega
      have hmin : min (p : Int) (s.size : Int) = (p : Int) := by omega
      have hpl : p < (bl s).length := by rw [bl_length]; exact hps
      have hd : (bl s).drop p = s[p] :: (bl s).drop (p + 1) := by rw [List.drop_eq_getElem_cons hpl]; exact congrArg (· :: (bl s).drop (p + 1)) (bl_get s p hps)
      by_cases hc : s[p].toNat = 34
      · have hr := rst_34 (bl s) p _ _ hd hc
        have U2 : Hid (U = some (A, p + 1)) := by show _ = _; rw [U1.out, hr]; simp [addU]
        have j1 : ((s[p].toNat : Int) == 34) = true := by simp; omega
        clear hr hc hd U1 htb hts
        go_wp2
        go_ret2
        exact ⟨by rw [U2.out]; rfl, B1.out⟩
      · have j1 : ((s[p].toNat : Int) == 34) = false := by simp; omega
        have ht0 : ∀ h : 0 < t.size, ¬ t[0].toNat = 34 := fun h => by
          have : t[0] = s[p] := by
            rw [← bl_get t 0 h]
            simp only [htb, hd, List.getElem_cons_zero]
          rw [this]; exact hc
        have hch := hide (rchar_any t wr ht0 (by omega))
        rw [htb] at hch
        clear ht0
        cases ho : chO ((bl s).drop p) with
        | none =>
          have hr := rst_none (bl s) p _ _ hd hc ho
          have U2 : Hid (U = none) := by show _ = _; rw [U1.out, hr]; rfl
          rw [ho] at hch
          simp only [chE_none] at hch
          clear hr hc hd U1 ho htb hts
          go_wp2_with (go_at_call 46; refine hch.out.mono ?_; rintro e w1 ⟨rfl, hb1⟩; have hb1 := hide (below_then B1.out hb1))
          go_ret2
          exact ⟨by rw [U2.out]; rfl, hb1.out⟩
        | some x =>
          obtain ⟨c, n⟩ := x
          have hr := rst_some (bl s) p _ _ hd hc ho
          have U2 : Hid (U = addU (A ++ c) (p + n) (rst (bl s) (p + n))) := by show _ = _; rw [U1.out, hr, addU_addU]
          have hnn : 1 ≤ n ∧ n ≤ s.size - p := by
            have hh := chO_n (by rw [← hd]; exact ho)
            rw [← hd, List.length_drop, bl_length] at hh
            exact hh
          have hcl := hide (chO_len ho)
          rw [ho] at hch
          simp only [chE_some] at hch
          have jn1 : ((n : Int) == 0) = false := by simp; omega
          have hcat0 := append_mkB A c
          obtain ⟨C, hC⟩ : ∃ C, mkB c = C := ⟨_, rfl⟩
          obtain ⟨Am, hAm⟩ : ∃ Am, mkB A = Am := ⟨_, rfl⟩
          obtain ⟨Y, hY⟩ : ∃ Y, mkB (A ++ c) = Y := ⟨_, rfl⟩
          have hYd := hide hY
          have hz1 : Am.size + C.size ≤ 1000000 := by rw [← hC, ← hAm, mkB_size, mkB_size]; have := A1.out; have := hcl.out; omega
          rw [hC] at hch hcat0
          rw [hAm, hY] at hcat0
          rw [hAm]
          have hrun : ∀ w, (Op.stringOp .add Am C).run Tryz.prog w = .ok (.string Y) w := fun w => cat_run _ _ _ w hcat0 hz1
          clear hr hc hd U1 ho htb hts hC hAm hcat0 hz1 hY
          have jp : (p : Int) + (n : Int) ≤ 9223372036854775807 := by omega
          go_wp2_with (go_at_call 46; refine hch.out.mono ?_; rintro e w1 ⟨rfl, hb1⟩; have hb1 := hide (below_then B1.out hb1))
          go_roundw
          case rel => exact ⟨p + n, A ++ c, by go_num, by rw [hYd.out], by omega, by rw [List.length_append]; have := A1.out; have := hcl.out; omega, U2.out, hb1.out, by omega⟩
          case measure => simp [intOf]; omega
    · have hpe : p = s.size := by omega
      subst hpe
      have hr := rst_end (bl s) s.size (by rw [bl_length]; omega)
      have U2 : Hid (U = none) := by show _ = _; rw [U1.out, hr]; rfl
      have hch2 : Hid (Calls Tryz.prog 46 #[.string ByteArray.empty] wr fun e w' => e = .returned (.tuple #[.string ⟨#[]⟩, .int .i64 0]) ∧ Below wr.heap.size wr w') := rchar_any ByteArray.empty wr (fun h => by exact absurd h (by decide)) (by decide)
      clear hr U1 htb hts hps
      go_wp2_with (go_at_call 46; refine hch2.out.mono ?_; rintro e w1 ⟨rfl, hb1⟩; have hb1 := hide (below_then B1.out hb1))
      go_ret2
      exact ⟨by rw [U2.out]; rfl, hb1.out⟩
end Lx
end Go.Proofs.YtjidnceccpmheaaGreatDoor
