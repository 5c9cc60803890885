/- num's (*places).merge: walked. -/
import Derived.Test.YtjpdlibncmldlaaDoorNbCount
import Derived.Test.YtjpdlibncmldlaaDoorNeArr
import Derived.Test.YtjpdlibncmldlaaDoorNmMath
import Derived.WalkKit
import Derived.WalkSpells
import Derived.WalkLawsBesides
import Derived.Deep.RegionWith
import Derived.Outline
namespace Go.Proofs.YtjpdlibncmldlaaDoor
open Go.RowKit
set_option linter.unusedSimpArgs false
set_option linter.unusedVariables false
set_option maxHeartbeats 1000000 in
theorem merge_any (b : Nat) (T : TypeId) (P0 : List Nat) (s : ByteArray) (t : Nat) (less : Bool) (w : World) (h0 : P0.length = 42) (hd0 : Dgs P0) (hA : Arr w b T P0) (hs : allD (bl s) = true) (hl : t + s.size ≤ 42)
    (b1 : less = false → val P0 + val (dg s) * 10 ^ t < 10 ^ 42) (b2 : less = true → val (dg s) * 10 ^ t ≤ val P0) :
    Calls Tryd.prog 46 #[.pointer (some ⟨b, 0, none⟩), .string s, .int .i64 t, .bool less] w fun e w' => e = .returned (.tuple #[]) ∧
      ∃ P, P.length = 42 ∧ Dgs P ∧ (less = false → val P = val P0 + val (dg s) * 10 ^ t) ∧ (less = true → val P + val (dg s) * 10 ^ t = val P0) ∧ Arr w' b T P ∧ Only b w w' := by
  have hb1 := hide b1
  have hb2 := hide b2
  have hd0' := hide hd0
  have hs' := hide hs
  clear b1 b2 hd0 hs
  go_enter Tryd.func46, Tryd.ntmps46
  go_wp2
  go_step3
  go_wp2
  go_step3
  go_wp2
  go_loopw [8, 9] (fun c i w' => ∃ (P : List Nat) (ci ii : Nat), c = .int .i64 ci ∧ i = .int .i64 ii ∧ t ≤ ii ∧ ii ≤ 42 ∧ Hid (MInv P0 (dg s) t less P ci ii) ∧ Hid (Arr w' b T P) ∧ Hid (Only b w w')) (fun _ i _ => 42 - (intOf i).toNat)
  case atStart => exact ⟨P0, 0, t, rfl, rfl, by omega, by omega, MInv.start _ _ _ h0 hd0'.out, hA, Only.refl _ _⟩
  case round =>
    obtain ⟨P, ci, ii, rfl, rfl, ht, hi, hM, hAr, hO⟩ := hrel
    have hPl := hM.out.1
    have hc1 := hM.out.2.2.1
    by_cases hlt : ii < 42
    · have hcell := hAr.out.cell (41 - ii) (by omega)
      have hfz := hAr.out.frozen (41 - ii)
      have hq9 : P[41 - ii]'(by omega) ≤ 9 := hM.out.2.1 _ (List.getElem_mem _)
      obtain ⟨q, hq⟩ : ∃ q, P[41 - ii]'(by omega) = q := ⟨_, rfl⟩
      rw [hq] at hcell hq9
      have hq := hide hq
      have hwq : IntKind.i64.wrap (q : Int) = (q : Int) := by rw [IntKind.wrap_i64]; omega
      have ei : (41 - (ii : Int)).toNat = 41 - ii := by omega
      by_cases hk : ii - t < s.size
      · have hdig := allD_get s hs'.out (s.size - 1 - (ii - t)) (by omega)
        have hmd : Hid (mdig (dg s) (ii - t) = (s[s.size - 1 - (ii - t)]'(by omega)).toNat - 48) := by
          show mdig _ _ = _
          unfold mdig
          rw [dif_pos (by rw [dg_length]; exact hk)]
          simp only [dg_length]
          exact dg_get s _ (by omega)
        go_wp2_with fail
        go_region_with (go_at_call 64; refine (settle_any _ _ _ _ (by omega) (by omega) (by omega) (by omega)).mono ?_; rintro e w1 ⟨v, c, rfl, rfl, hv0, hv9, hc0, hc9, el, eg⟩; obtain ⟨v, rfl⟩ := Int.eq_ofNat_of_zero_le hv0; obtain ⟨c, rfl⟩ := Int.eq_ofNat_of_zero_le hc0; have el := hide el; have eg := hide eg)
        go_wp2
        go_roundw
        case rel =>
          refine ⟨P.set (41 - ii) v, c, ii + 1, rfl, by go_num, by omega, by omega, ?_, ?_, ?_⟩
          · refine MInv.step h0 hM.out ht hlt (by omega) (by omega) (fun e => ?_) (fun e => ?_)
            · have := eg.out e; rw [hq.out, hmd.out]; omega
            · have := el.out e; rw [hq.out, hmd.out]; omega
          · exact hAr.out.drew.set (41 - ii) v
          · exact hO.out.drew.set (41 - ii) _
        case measure => simp [intOf]; omega
      · by_cases hcz : ci = 0
        · subst hcz
          have hfin := hide (MInv.done h0 hd0'.out hM.out (by rw [dg_length]; omega) hi (Or.inl rfl) hb1.out hb2.out)
          go_wp2
          rw [Exit.noGoto_normal]
          go_end0
          exact ⟨rfl, P, hfin.out.1, hfin.out.2.1, hfin.out.2.2.1, hfin.out.2.2.2, hAr.out, hO.out⟩
        · have hmd : Hid (mdig (dg s) (ii - t) = 0) := by
            show mdig _ _ = _
            unfold mdig
            rw [dif_neg (by rw [dg_length]; exact hk)]
          have hcb : ((ci : Int) == 0) = false := by simp; omega
          go_wp2_with fail
          go_region_with (go_at_call 64; refine (settle_any _ _ _ _ (by omega) (by omega) (by omega) (by omega)).mono ?_; rintro e w1 ⟨v, c, rfl, rfl, hv0, hv9, hc0, hc9, el, eg⟩; obtain ⟨v, rfl⟩ := Int.eq_ofNat_of_zero_le hv0; obtain ⟨c, rfl⟩ := Int.eq_ofNat_of_zero_le hc0; have el := hide el; have eg := hide eg)
          go_wp2
          go_roundw
          case rel =>
            refine ⟨P.set (41 - ii) v, c, ii + 1, rfl, by go_num, by omega, by omega, ?_, ?_, ?_⟩
            · refine MInv.step h0 hM.out ht hlt (by omega) (by omega) (fun e => ?_) (fun e => ?_)
              · have := eg.out e; rw [hq.out, hmd.out]; omega
              · have := el.out e; rw [hq.out, hmd.out]; omega
            · exact hAr.out.drew.set (41 - ii) v
            · exact hO.out.drew.set (41 - ii) _
          case measure => simp [intOf]; omega
    · have hfin := hide (MInv.done h0 hd0'.out hM.out (by rw [dg_length]; omega) hi (Or.inr (by omega)) hb1.out hb2.out)
      go_wp2
      rw [Exit.noGoto_normal]
      go_end0
      exact ⟨rfl, P, hfin.out.1, hfin.out.2.1, hfin.out.2.2.1, hfin.out.2.2.2, hAr.out, hO.out⟩
end Go.Proofs.YtjpdlibncmldlaaDoor
