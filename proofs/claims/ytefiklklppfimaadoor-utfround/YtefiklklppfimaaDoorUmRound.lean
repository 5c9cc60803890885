/- calamuslaw03.UtfRound: walked. -/
import Derived.Test.YtefiklklppfimaaDoorUjLaw
namespace Go.Proofs.YtefiklklppfimaaDoor
open Go.RowKit
set_option linter.unusedSimpArgs false
set_option linter.unusedVariables false
theorem append_mkB (a b : List UInt8) : mkB a ++ mkB b = mkB (a ++ b) := by
  apply ByteArray.ext
  simp [mkB, ByteArray.data_append]
theorem cat_run (a b c : ByteArray) (w : World) (h : a ++ b = c) (hs : a.size + b.size ≤ 1000000) : (Op.stringOp .add a b).run Tryd.prog w = .ok (.string c) w := by
  rw [← h]; exact run_string_add_sum w a b (by omega)
/-- A text begins with a character. -/
theorem ok_chr {l : List UInt8} (hl : l ≠ []) (h : run .i8 l = some .i8) : ∃ r n, chr l = some (r, n) ∧ run .i8 (l.drop n) = some .i8 := by
  cases hc : chr l with
  | none =>
    rcases chr_none hl hc with e | ⟨p, hp, e, _⟩
    · rw [h] at e; cases e
    · rw [h] at e; exact absurd (Option.some.inj e).symm hp
  | some rn =>
    obtain ⟨r, n⟩ := rn
    refine ⟨r, n, rfl, ?_⟩
    have := (chr_some hc).2.2.2.1
    rw [← List.take_append_drop n l, run_app this] at h
    exact h
/-- What is encoded is decoded as itself. -/
theorem encode_back (r : Int) (hv : Utf8.valid r = true) : decA (bl (Utf8.encode r)) 0 = (r.toNat, (Utf8.encode r).size, 0) ∧ okT (bl (Utf8.encode r)) = true ∧ 0 ≤ r ∧ r ≤ 1114111 ∧ (Utf8.encode r).size ≤ 4 ∧ 0 < (Utf8.encode r).size := by
  have hr : 0 ≤ r ∧ r ≤ 1114111 := by
    simp only [Utf8.valid, Bool.or_eq_true, Bool.and_eq_true, decide_eq_true_eq] at hv
    omega
  obtain ⟨k, rfl⟩ := Int.eq_ofNat_of_zero_le hr.1
  have h := chr_encode k hv []
  rw [List.append_nil] at h
  obtain ⟨u, hu⟩ : ∃ u, Utf8.encode (k : Int) = u := ⟨_, rfl⟩
  rw [hu] at h ⊢
  clear hu hv
  obtain ⟨n1, n4, nl, hrun, _, _⟩ := chr_some h
  rw [List.take_length] at hrun
  rw [bl_length] at h n1 n4
  have hd : decA (bl u) 0 = (k, u.size, 0) := by
    unfold decA
    rw [if_pos ⟨Int.le_refl 0, by rw [bl_length]; omega⟩]
    simp only [Int.toNat_zero, List.drop_zero]
    unfold decF
    rw [h]
  rw [hd, Int.toNat_natCast]
  exact ⟨rfl, (okT_iff _).2 hrun, hr.1, hr.2, n4, n1⟩
theorem decA_chr {l : List UInt8} {pos r n : Nat} (hp : pos < l.length) (h : chr (l.drop pos) = some (r, n)) : decA l (pos : Int) = (r, n, 0) := by
  unfold decA
  rw [if_pos ⟨by omega, by omega⟩, Int.toNat_natCast]
  unfold decF
  rw [h]
/-- Where UtfRound stands in its loop. -/
structure Rd (w : World) (s : ByteArray) (pos : Nat) (W : World) : Prop where
  below : Below w.heap.size w W
  gx : Gx W
  le : pos ≤ s.size
  ok : run .i8 ((bl s).drop pos) = some .i8
theorem Rd.then {w W W1 : World} {s : ByteArray} {pos : Nat} (c : Rd w s pos W) (h : Below W.heap.size W W1) : Rd w s pos W1 := ⟨below_then c.below h, c.gx.below h, c.le, c.ok⟩
set_option maxHeartbeats 2000000 in
set_option maxRecDepth 100000 in
theorem round_loop (r : Int) (s : ByteArray) (w : World) (g : Gx w) (h0 : -9223372036854775808 ≤ r) (h1 : r ≤ 9223372036854775807) (hs : s.size ≤ maxLen) :
    Calls Tryd.prog 7 #[.int .i64 r, .string s] w fun e w' => e = .returned (.bool true) ∧ Below w.heap.size w w' := by
  have ml : maxLen = 2 ^ 63 - 1 := rfl
  have g0 := hide g
  clear g
  by_cases hlong : (16384 : Int) < (s.size : Int)
  · go_enter Tryd.func7, Tryd.ntmps7
    go_wp2
    go_ret
    exact ⟨rfl, Below.refl _ _⟩
  · have hen := hide (encode_any r w h0 h1)
    have hva := hide (fun W (g : Gx W) => valid_any s W g.gu (by omega))
    cases hv : Utf8.valid r
    · rw [hv] at hen
      cases hk : okT (bl s)
      · rw [hk] at hva
        go_enter Tryd.func7, Tryd.ntmps7
        go_wp2_with (first | (go_at_call 13; refine hen.out.mono ?_; rintro e w1 ⟨rfl, hw1⟩; have hw1s := hw1.symm; clear hw1; subst hw1s) | (go_at_call 12; refine (hva.out _ g0.out).mono ?_; rintro e w2 ⟨rfl, hb2⟩) | (go_at_call 11; refine (awake_any _ (g0.out.below hb2)).mono ?_; rintro e w3 ⟨rfl, hb3⟩))
        go_ret
        exact ⟨rfl, below_then hb2 hb3⟩
      · rw [hk] at hva
        have hok := hide ((okT_iff _).1 hk)
        clear hk
        go_enter Tryd.func7, Tryd.ntmps7
        go_wp2_with (first | (go_at_call 13; refine hen.out.mono ?_; rintro e w1 ⟨rfl, hw1⟩; have hw1s := hw1.symm; clear hw1; subst hw1s) | (go_at_call 12; refine (hva.out _ g0.out).mono ?_; rintro e w2 ⟨rfl, hb2⟩; have R0 : Hid (Rd w s 0 w2) := ⟨hb2, g0.out.below hb2, Nat.zero_le _, by rw [List.drop_zero]; exact hok.out⟩; clear hb2))
        go_loopw [10, 11] (fun a i w' => ∃ pos : Nat, a = .string (mkB ((bl s).take pos)) ∧ i = .int .i64 pos ∧ Hid (Rd w s pos w')) (fun _ i _ => s.size - (intOf i).toNat)
        case atStart => exact ⟨0, rfl, rfl, R0.out⟩
        case round =>
          obtain ⟨pos, rfl, rfl, R⟩ := hrel
          have hpl := R.out.le
          by_cases hlt : pos < s.size
          · have hne : (bl s).drop pos ≠ [] := by intro q; have := congrArg List.length q; rw [List.length_drop, bl_length] at this; simp at this; omega
            obtain ⟨c, n, hc, hrn⟩ := ok_chr hne R.out.ok
            obtain ⟨n1, n4, nl, _, hv', hb'⟩ := chr_some hc
            rw [List.length_drop, bl_length] at nl
            have hdA := decA_chr (by rw [bl_length]; exact hlt) hc
            have hde := hide (decode_any s pos wr R.out.gx.gu R.out.gx.tabs (by omega))
            rw [hdA] at hde
            have hcr := (valid_iff c).1 hv'
            have hen' := hide (fun W => encode_any (c : Int) W (by omega) (by omega))
            simp only [hv', if_true] at hen'
            obtain ⟨u, hu⟩ : ∃ u, Utf8.encode (c : Int) = u := ⟨_, rfl⟩
            rw [hu] at hen' hb'
            have hus : u.size = n := by rw [← bl_length, hb', List.length_take, List.length_drop, bl_length]; omega
            obtain ⟨A, hA1⟩ : ∃ A, mkB ((bl s).take (pos + n)) = A := ⟨_, rfl⟩
            obtain ⟨A0, hA0⟩ : ∃ A0, mkB ((bl s).take pos) = A0 := ⟨_, rfl⟩
            have hcat : ∀ w, (Op.stringOp .add A0 u).run Tryd.prog w = .ok (.string A) w := fun w => cat_run _ _ _ w (by
              rw [← hA1, ← hA0, List.take_add, ← hb', ← append_mkB, mkB_bl]) (by rw [← hA0, mkB_size, List.length_take, hus]; omega)
            have hR' : Hid (∀ W, Below wr.heap.size wr W → Rd w s (pos + n) W) := fun W hW => ⟨below_then R.out.below hW, R.out.gx.below hW, by omega, by rw [List.drop_drop] at hrn; exact hrn⟩
            have n1i : ¬ ((n : Int) < 1) := by omega
            rw [hA0]
            have hA := hide hA1
            clear hA1 hc hrn hdA hu hb' hA0 hne hcr hv' hus
            go_wp2_with (first | (go_at_call 15; refine hde.out.mono ?_; rintro e w4 ⟨rfl, hb4⟩; have hb4 := hide hb4) | (go_at_call 13; refine (hen'.out _).mono ?_; rintro e w5 ⟨rfl, hw5⟩; have hw5s := hw5.symm; clear hw5; subst hw5s))
            refine ⟨⟨pos + n, by rw [hA.out], by go_num, hR'.out _ hb4.out⟩, by simp [intOf]; omega⟩
          · have hpe : pos = s.size := by omega
            have htk : mkB ((bl s).take pos) = s := by rw [List.take_of_length_le (by rw [bl_length]; omega), mkB_bl]
            rw [htk]
            clear hpe htk
            go_wp2_with (first | (go_at_call 11; refine (awake_any _ R.out.gx).mono ?_; rintro e w3 ⟨rfl, hb3⟩))
            go_ret
            exact ⟨by simp, below_then R.out.below hb3⟩
    · rw [hv] at hen
      obtain ⟨hd1, hk1, hr0, hr1, hz4, hz0⟩ := encode_back r hv
      obtain ⟨u, hu⟩ : ∃ u, Utf8.encode r = u := ⟨_, rfl⟩
      rw [hu] at hen hd1 hk1 hz4 hz0
      simp only [if_true] at hen
      obtain ⟨rn, rfl⟩ := Int.eq_ofNat_of_zero_le hr0
      have hdt := hide (decode_any u 0 w g0.out.gu g0.out.tabs (by omega))
      rw [hd1] at hdt
      have hvt := hide (fun W (g : Gx W) => valid_any u W g.gu (by omega))
      rw [hk1] at hvt
      simp only [Int.toNat_natCast] at hdt
      clear hu hd1 hk1 hv
      cases hk : okT (bl s)
      · rw [hk] at hva
        go_enter Tryd.func7, Tryd.ntmps7
        go_wp2_with (first | (go_at_call 13; refine hen.out.mono ?_; rintro e w1 ⟨rfl, hw1⟩; have hw1s := hw1.symm; clear hw1; subst hw1s) | (go_at_call 15; refine hdt.out.mono ?_; rintro e wd ⟨rfl, hbd⟩; have hbd := hide hbd) | (go_at_call 12; first | (go_fit (hvt.out _ (g0.out.below hbd.out)); rintro e we ⟨rfl, hbe⟩; have hbe := hide (below_then hbd.out hbe)) | (go_fit (hva.out _ (g0.out.below hbe.out)); rintro e w2 ⟨rfl, hb2⟩; have hb2 := hide (below_then hbe.out hb2))) | (go_at_call 11; refine (awake_any _ (g0.out.below hb2.out)).mono ?_; rintro e w3 ⟨rfl, hb3⟩))
        go_ret
        exact ⟨rfl, below_then hb2.out hb3⟩
      · rw [hk] at hva
        have hok := hide ((okT_iff _).1 hk)
        clear hk
        go_enter Tryd.func7, Tryd.ntmps7
        go_wp2_with (first | (go_at_call 13; refine hen.out.mono ?_; rintro e w1 ⟨rfl, hw1⟩; have hw1s := hw1.symm; clear hw1; subst hw1s) | (go_at_call 15; refine hdt.out.mono ?_; rintro e wd ⟨rfl, hbd⟩; have hbd := hide hbd) | (go_at_call 12; first | (go_fit (hvt.out _ (g0.out.below hbd.out)); rintro e we ⟨rfl, hbe⟩; have hbe := hide (below_then hbd.out hbe)) | (go_fit (hva.out _ (g0.out.below hbe.out)); rintro e w2 ⟨rfl, hb2⟩; have hb2 := hide (below_then hbe.out hb2); have R0 : Hid (Rd w s 0 w2) := ⟨hb2.out, g0.out.below hb2.out, Nat.zero_le _, by rw [List.drop_zero]; exact hok.out⟩; clear hb2)))
        go_loopw [10, 11] (fun a i w' => ∃ pos : Nat, a = .string (mkB ((bl s).take pos)) ∧ i = .int .i64 pos ∧ Hid (Rd w s pos w')) (fun _ i _ => s.size - (intOf i).toNat)
        case atStart => exact ⟨0, rfl, rfl, R0.out⟩
        case round =>
          obtain ⟨pos, rfl, rfl, R⟩ := hrel
          have hpl := R.out.le
          by_cases hlt : pos < s.size
          · have hne : (bl s).drop pos ≠ [] := by intro q; have := congrArg List.length q; rw [List.length_drop, bl_length] at this; simp at this; omega
            obtain ⟨c, n, hc, hrn⟩ := ok_chr hne R.out.ok
            obtain ⟨n1, n4, nl, _, hv', hb'⟩ := chr_some hc
            rw [List.length_drop, bl_length] at nl
            have hdA := decA_chr (by rw [bl_length]; exact hlt) hc
            have hde := hide (decode_any s pos wr R.out.gx.gu R.out.gx.tabs (by omega))
            rw [hdA] at hde
            have hcr := (valid_iff c).1 hv'
            have hen' := hide (fun W => encode_any (c : Int) W (by omega) (by omega))
            simp only [hv', if_true] at hen'
            obtain ⟨u, hu⟩ : ∃ u, Utf8.encode (c : Int) = u := ⟨_, rfl⟩
            rw [hu] at hen' hb'
            have hus : u.size = n := by rw [← bl_length, hb', List.length_take, List.length_drop, bl_length]; omega
            obtain ⟨A, hA1⟩ : ∃ A, mkB ((bl s).take (pos + n)) = A := ⟨_, rfl⟩
            obtain ⟨A0, hA0⟩ : ∃ A0, mkB ((bl s).take pos) = A0 := ⟨_, rfl⟩
            have hcat : ∀ w, (Op.stringOp .add A0 u).run Tryd.prog w = .ok (.string A) w := fun w => cat_run _ _ _ w (by
              rw [← hA1, ← hA0, List.take_add, ← hb', ← append_mkB, mkB_bl]) (by rw [← hA0, mkB_size, List.length_take, hus]; omega)
            have hR' : Hid (∀ W, Below wr.heap.size wr W → Rd w s (pos + n) W) := fun W hW => ⟨below_then R.out.below hW, R.out.gx.below hW, by omega, by rw [List.drop_drop] at hrn; exact hrn⟩
            have n1i : ¬ ((n : Int) < 1) := by omega
            rw [hA0]
            have hA := hide hA1
            clear hA1 hc hrn hdA hu hb' hA0 hne hcr hv' hus
            go_wp2_with (first | (go_at_call 15; refine hde.out.mono ?_; rintro e w4 ⟨rfl, hb4⟩; have hb4 := hide hb4) | (go_at_call 13; refine (hen'.out _).mono ?_; rintro e w5 ⟨rfl, hw5⟩; have hw5s := hw5.symm; clear hw5; subst hw5s))
            refine ⟨⟨pos + n, by rw [hA.out], by go_num, hR'.out _ hb4.out⟩, by simp [intOf]; omega⟩
          · have hpe : pos = s.size := by omega
            have htk : mkB ((bl s).take pos) = s := by rw [List.take_of_length_le (by rw [bl_length]; omega), mkB_bl]
            rw [htk]
            clear hpe htk
            go_wp2_with (first | (go_at_call 11; refine (awake_any _ R.out.gx).mono ?_; rintro e w3 ⟨rfl, hb3⟩))
            go_ret
            exact ⟨by simp, below_then R.out.below hb3⟩
end Go.Proofs.YtefiklklppfimaaDoor
