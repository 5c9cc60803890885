/- The reference of layer 13: Scan: walked. -/
import Derived.Test.YtjidnceccpmheaaGreatDoorZlGmScan
namespace Go.Proofs.YtjidnceccpmheaaGreatDoor
namespace Lx
open Go.RowKit
set_option linter.unusedSimpArgs false
set_option linter.unusedVariables false
set_option maxHeartbeats 4000000 in
set_option maxRecDepth 100000 in
theorem rscan_any (s : ByteArray) (w : World) (hs : s.size ≤ 1000000) : Calls Tryz.prog 6 #[.string s] w fun e w' => ScP w (scR (bl s)) e w' := by
  unfold scR
  rw [bl_length]
  by_cases hbig : 4096 < s.size
  · have ib : (4096 : Int) < (s.size : Int) := by omega
    rw [if_pos hbig]
    go_enter Tryz.func6, Tryz.ntmps6
    go_wp2
    go_ret3
    exact ⟨_, rfl, OT.nil _ _, Below.refl _ _⟩
  · have ib : ¬ (4096 : Int) < (s.size : Int) := by omega
    rw [if_neg hbig]
    show Calls _ _ _ _ fun e w' => ScP w (scO (scnA nok (bl s) 0 [])) e w'
    obtain ⟨U, hU⟩ : ∃ U, scO (scnA nok (bl s) 0 []) = U := ⟨_, rfl⟩
    rw [hU]
    have HU := hide hU
    have hbl0 := hide (rblanks_any s 0 w (by omega) (by omega))
    obtain ⟨a1, a2, a3⟩ := bk_all _ (bl s) (Nat.le_refl _)
    rw [bl_length] at a1
    have A2 := hide a2
    have U0 : Hid (U = scO (scnA nok ((bl s).drop (0 + bk ((bl s).drop 0))) (0 + bk ((bl s).drop 0)) [])) := by
      show _ = _
      rw [← HU.out, a3, List.drop_zero]
      simp
    rw [List.drop_zero] at hbl0 U0
    obtain ⟨q, hq⟩ : ∃ q, bk (bl s) = q := ⟨_, rfl⟩
    rw [hq] at hbl0 a1 A2 U0
    rw [Nat.zero_add] at hbl0 U0
    clear hU hs HU a2 a3 hq
    go_enter Tryz.func6, Tryz.ntmps6
    go_wp2_with (go_at_call 13; refine hbl0.out.mono ?_; rintro e w1 ⟨rfl, hw1⟩; have hw1s := hw1.symm; clear hw1; subst hw1s)
    go_loopw [5, 6] (fun v i W => ∃ (p : Nat) (ts : List Tk), i = .int .i64 (p : Nat) ∧ p ≤ s.size ∧ Hid (OT W w.heap.size v ts ∧ ts.length ≤ 1024 ∧ U = scO (scnA nok ((bl s).drop p) p ts) ∧ Below w.heap.size w W ∧ blS ((bl s).drop p) = 0)) (fun _ i _ => s.size - (intOf i).toNat)
    case atStart => exact ⟨q, [], rfl, a1, OT.nil _ _, by simp, U0.out, Below.refl _ _, A2.out⟩
    case round =>
      obtain ⟨p, ts, rfl, hp, H⟩ := hrel
      by_cases hps : p < s.size
      · have hpi : (p : Int) < (s.size : Int) := by omega
        obtain ⟨a, c, hv⟩ := H.out.1.shape
        have hH := H.out
        clear H
        rw [hv] at hH ⊢
        clear hv
        obtain ⟨hO, hts, hUp, hB, hbz⟩ := hH
        have O1 := hide hO
        have B1 := hide hB
        have U1 := hide hUp
        have BZ := hide hbz
        clear hO hB hUp
        obtain ⟨t, ht⟩ : ∃ t, s.extract p s.size = t := ⟨_, rfl⟩
        have htb : bl t = (bl s).drop p := by rw [← ht, drop_mkB, bl_mkB]
        have htz : t.size = s.size - p := by rw [← bl_length, htb, List.length_drop, bl_length]
        have htk := hide (rtoken_any t wr (by omega) (by omega) (by rw [htb]; exact hbz))
        rw [htb] at htk
        obtain ⟨c0, l0, hdc⟩ : ∃ c0 l0, (bl s).drop p = c0 :: l0 := by
          cases hd : (bl s).drop p with
          | nil => have := congrArg List.length hd; rw [List.length_drop, bl_length, List.length_nil] at this; omega
          | cons c0 l0 => exact ⟨c0, l0, rfl⟩
        have HD := hide hdc
        clear htb htz hbz
        cases htok : tok nok ((bl s).drop p) with
        | none =>
          rw [htok] at htk
          have U2 : Hid (U = (130, p, [])) := by
            show _ = _
            rw [U1.out, hdc, scnA_cons, ← hdc, htok]
            rfl
          clear hdc htok U1
          have htk2 : Hid (Calls Tryz.prog 14 #[.string t] wr fun e w' => (∃ (x : Int) (y : ByteArray), e = .returned (.tuple #[.agg #[.int .i64 x, .string y, .int .i64 0], .int .i64 0])) ∧ Below wr.heap.size wr w') := htk
          go_wp2_with (go_at_call 14; refine htk2.out.mono ?_; rintro e w1 ⟨⟨x, y, rfl⟩, hb1⟩; have B2 := hide (below_then B1.out hb1); clear hb1)
          go_ret3
          exact ⟨_, by rw [U2.out]; rfl, by rw [U2.out]; exact OT.nil _ _, below_al B2.out⟩
        | some x =>
          obtain ⟨k, x, n⟩ := x
          rw [htok] at htk
          have hlo := tok_lon (c := c0) (l := l0) (by rw [← hdc]; exact htok) (by rw [← hdc]; exact BZ.out)
          have hn := tok_n (c := c0) (l := l0) (by rw [← hdc]; exact htok)
          have hnl : 1 ≤ n ∧ n ≤ s.size - p := by
            refine ⟨hn.1, ?_⟩
            have := hn.2.1
            rw [← hdc, List.length_drop, bl_length] at this
            exact this
          have US : Hid (U = scO (if lgK k < x.length ∨ ts.length = 1024 then .inl (2, p) else scnA nok ((bl s).drop (p + n)) (p + n) (ts ++ [⟨wdK k, x, p⟩]))) := by
            show _ = _
            rw [U1.out, hdc, scnA_cons, ← hdc, htok]
            simp only [hlo.1, if_false, List.drop_drop]
          have htk2 : Hid (Calls Tryz.prog 14 #[.string t] wr fun e w' => e = .returned (.tuple #[.agg #[.int .i64 (wdK k : Nat), .string (mkB x), .int .i64 0], .int .i64 (n : Nat)]) ∧ Below wr.heap.size wr w') := htk
          have hxl : x.length ≤ 70000 := by
            have := cut_len2 (k := k) (c := c0) (l := l0)
            rw [hn.2.2.2.1] at this
            simp only at this
            omega
          have hlg : Hid (∀ W, Calls Tryz.prog 15 #[.agg #[.int .i64 (wdK k : Nat), .string (mkB x), .int .i64 0]] W fun e w' => e = .returned (.bool (decide (lgK k < x.length))) ∧ Below W.heap.size W w') := fun W => by
            have := rlong_any ⟨(wdK k : Nat), x, 0⟩ W hxl
            rw [hlo.2] at this
            exact this
          have hbl1 := hide (fun W => rblanks_any s (p + n) W (by omega) (by omega))
          have jn1 : ((n : Int) == 0) = false := by simp; omega
          have jp : (p : Int) + (n : Int) ≤ 9223372036854775807 := by omega
          have hcast : (((p + n : Nat)) : Int) = (p : Int) + (n : Int) := by omega
          rw [hcast] at hbl1
          obtain ⟨b1, b2, b3⟩ := bk_all _ ((bl s).drop (p + n)) (Nat.le_refl _)
          rw [List.length_drop, bl_length] at b1
          obtain ⟨m, hm⟩ : ∃ m, bk ((bl s).drop (p + n)) = m := ⟨_, rfl⟩
          rw [hm] at hbl1 b1 b2 b3
          rw [List.drop_drop] at b2 b3
          have BZ2 := hide b2
          have SC := hide b3
          obtain ⟨y, hy⟩ : ∃ y, mkB x = y := ⟨_, rfl⟩
          have hyd := hide hy
          rw [hy] at htk2 hlg
          clear hdc htok U1 hlo hn htk hxl b2 b3 hm hy hcast
          by_cases hlim : lgK k < x.length ∨ ts.length = 1024
          · have U2 : Hid (U = (2, p, [])) := by have := US.out; rw [if_pos hlim] at this; exact this
            by_cases hl1 : lgK k < x.length
            · rw [decide_eq_true hl1] at hlg
              clear US hlim hl1
              go_wp2_with (first | (go_at_call 14; refine htk2.out.mono ?_; rintro e w1 ⟨rfl, hb1⟩; have O2 := hide (O1.out.keep hb1); have Z1 := hide hb1.size; have B2 := hide (below_then B1.out hb1); clear hb1) | (go_at_call 15; refine (hlg.out _).mono ?_; rintro e w2 ⟨rfl, hb2⟩; have O3 := hide ((O2.out.keep (below_al (Below.refl _ _))).keep hb2); have B3 := hide (below_then (below_al B2.out) hb2); have G2 : Hid (w2.heap[w1.heap.size]? = some (.cells #[.int .i64 (wdK k : Nat), .string y, .int .i64 0] 32 (0, 0))) := (hb2.block _ (by simp)).trans (heap_alloc_new _ _); clear hb2))
              go_ret3
              exact ⟨_, by rw [U2.out]; rfl, by rw [U2.out]; exact OT.nil _ _, B3.out⟩
            · rw [decide_eq_false hl1] at hlg
              have i2 : ((ts.length : Int) == 1024) = true := by simp; omega
              have i3 : decide ((ts.length : Int) = 1024) = true := by simp; omega
              clear US hlim hl1
              go_wp2_with (first | (go_at_call 14; refine htk2.out.mono ?_; rintro e w1 ⟨rfl, hb1⟩; have O2 := hide (O1.out.keep hb1); have Z1 := hide hb1.size; have B2 := hide (below_then B1.out hb1); clear hb1) | (go_at_call 15; refine (hlg.out _).mono ?_; rintro e w2 ⟨rfl, hb2⟩; have O3 := hide ((O2.out.keep (below_al (Below.refl _ _))).keep hb2); have B3 := hide (below_then (below_al B2.out) hb2); have G2 : Hid (w2.heap[w1.heap.size]? = some (.cells #[.int .i64 (wdK k : Nat), .string y, .int .i64 0] 32 (0, 0))) := (hb2.block _ (by simp)).trans (heap_alloc_new _ _); clear hb2))
              go_ret3
              exact ⟨_, by rw [U2.out]; rfl, by rw [U2.out]; exact OT.nil _ _, B3.out⟩
          · have hl1 : ¬ lgK k < x.length := fun h => hlim (Or.inl h)
            have hl2 : ¬ ts.length = 1024 := fun h => hlim (Or.inr h)
            rw [decide_eq_false hl1] at hlg
            have i2 : ((ts.length : Int) == 1024) = false := by simp; omega
            have i3 : decide ((ts.length : Int) = 1024) = false := by simp; omega
            have hts3 : Hid (ts.length < 1024) := by show _ < _; omega
            have U2 : Hid (U = scO (scnA nok ((bl s).drop (p + n + m)) (p + n + m) (ts ++ [⟨wdK k, x, p⟩]))) := by
              show _ = _
              have := US.out
              rw [if_neg hlim] at this
              rw [this, SC.out]
            clear US hlim hl1 hl2 hts SC
            go_wp2_with (first | (go_at_call 14; refine htk2.out.mono ?_; rintro e w1 ⟨rfl, hb1⟩; have O2 := hide (O1.out.keep hb1); have Z1 := hide hb1.size; have B2 := hide (below_then B1.out hb1); clear hb1) | (go_at_call 15; refine (hlg.out _).mono ?_; rintro e w2 ⟨rfl, hb2⟩; have O3 := hide ((O2.out.keep (below_al (Below.refl _ _))).keep hb2); have B3 := hide (below_then (below_al B2.out) hb2); have G2 : Hid (w2.heap[w1.heap.size]? = some (.cells #[.int .i64 (wdK k : Nat), .string y, .int .i64 0] 32 (0, 0))) := (hb2.block _ (by simp)).trans (heap_alloc_new _ _); have d0 : w2.cell? ⟨w1.heap.size, 0, none⟩ = some (.int .i64 (wdK k : Nat)) := (by simp [World.cell?, G2.out]); have d1 : w2.cell? ⟨w1.heap.size, 1, none⟩ = some (.string y) := (by simp [World.cell?, G2.out]); have d2 : w2.cell? ⟨w1.heap.size, 2, none⟩ = some (.int .i64 0) := (by simp [World.cell?, G2.out]); have fz : ∀ j, w2.frozen? ⟨w1.heap.size, j, none⟩ = false := (fun j => by simp [World.frozen?, G2.out]); clear hb2) | (at_builtin; refine Sto.out ?_))
            refine Sto.mk ?_
            obtain ⟨W3, hW3⟩ : ∃ W3, W3 = w2.setCell ⟨w1.heap.size, 2, none⟩ (.int .i64 (p : Nat)) := ⟨_, rfl⟩
            have hz3 : W3.heap.size = w2.heap.size := by rw [hW3]; simp
            have B4 : Hid (Below w.heap.size w W3) := by rw [hW3]; exact hide (Below.setCell B3.out (by show w.heap.size ≤ w1.heap.size; exact B2.out.size) _)
            have O4 : Hid (OT W3 w.heap.size (.slice a ts.length c) ts) := by
              rw [hW3]
              refine hide (ownsRow_of O3.out fun g hg _ => ?_)
              have h1 := (World.ownsRow.lt O1.out g hg).2
              exact Below.heap_setCell _ _ _ _ (by show g ≠ w1.heap.size; have := Z1.out; omega)
            rw [← hW3]
            clear hW3 O3 d0 d1 d2 fz G2
            have O5 := hide (O4.out.keep (below_al (o := .cells #[.int .i64 (wdK k : Nat), .string y, .int .i64 (p : Nat)] 32) (Below.refl _ W3)))
            have hnw := hide (news_tk W3 ⟨(wdK k : Nat), x, (p : Nat)⟩ 32)
            simp only [hyd.out, hz3] at hnw
            refine app_tk rfl (.tmp 38) (.tmp 40) rfl w.heap.size _ ts rfl O5.out ⟨w2.heap.size, 0, none⟩ 1 rfl ⟨(wdK k : Nat), x, (p : Nat)⟩ hnw.out (by have := hts3.out; omega) (by have := B4.out.size; simp; omega) ?_
            intro g' c' w' ho hb
            have B5 : Hid (Below w.heap.size w w') := (below_al B4.out).trans hb.out
            clear hb
            go_wp2_with (go_at_call 13; refine (hbl1.out _).mono ?_; rintro e w6 ⟨rfl, hw6⟩; have hw6s := hw6.symm; clear hw6; subst hw6s)
            go_roundw
            case rel => exact ⟨p + n + m, ts ++ [⟨(wdK k : Nat), x, (p : Nat)⟩], by go_num, by omega, ho.out, by have := hts3.out; simp; omega, U2.out, B5.out, BZ2.out⟩
            case measure => simp [intOf]; omega
      · have hpi : ¬ (p : Int) < (s.size : Int) := by omega
        have hU2 : Hid (U = (0, 0, ts)) := by
          show _ = _
          rw [H.out.2.2.1, List.drop_of_length_le (by rw [bl_length]; omega)]
          rfl
        go_wp2
        go_ret3
        exact ⟨_, by rw [hU2.out]; rfl, by rw [hU2.out]; exact H.out.1, H.out.2.2.2.1⟩
end Lx
end Go.Proofs.YtjidnceccpmheaaGreatDoor
