/- calamusref03's Decode: walked. -/
import Derived.Test.YtemlpjnophijfaaDoorUvBegins
import Derived.Test.YtemlpjnophijfaaDoorUgDecodeV
import Derived.Deep.RegionHeld3
import Derived.BigQuiet
namespace Go.Proofs.YtemlpjnophijfaaDoor.Ut
open Go.RowKit
set_option linter.unusedSimpArgs false
set_option linter.unusedVariables false
theorem below_dn {B : Nat} {w W : World} (h : Below B w W) (n : Nat) : Below B w (W.drewN n) := ⟨h.os, h.tape, h.output, h.size, h.block⟩
theorem lng_le (x : Nat) : lng x ≤ 4 := by
  unfold lng
  repeat' split
  all_goals omega
theorem str_head (u t : ByteArray) (n : Nat) : (u.toList == (t.extract 0 n).toList) = (bl u == (bl t).take n) := by
  rw [Lib.toList_data, Lib.toList_data]
  have e1 : (t.extract 0 n).data.toList = (bl t).take n := by
    have := Lib.extract_eq t 0 n
    rw [this]
    simp [bl]
  rw [e1]
  rfl
theorem bl_cons (t : ByteArray) (h : 0 < t.size) : ∃ q, bl t = t[0] :: q := by
  have := drop_cons t 0 h
  rw [List.drop_zero] at this
  exact ⟨_, this⟩
set_option maxHeartbeats 4000000 in
set_option maxRecDepth 100000 in
theorem rdecode_any (s : ByteArray) (at' : Int) (w : World) (hs : s.size ≤ 281474976710656) :
    Calls Tryd.prog 73 #[.string s, .int .i64 at'] w fun r w' => r = .returned (.tuple #[.int .i64 (decA (bl s) at').1, .int .i64 (decA (bl s) at').2.1, .int .i64 (decA (bl s) at').2.2]) ∧ Below w.heap.size w w' := by
  unfold decA
  rw [bl_length]
  by_cases hr : 0 ≤ at' ∧ at' < (s.size : Int)
  · rw [if_pos hr]
    obtain ⟨pos, rfl⟩ := Int.eq_ofNat_of_zero_le hr.1
    rw [Int.toNat_natCast]
    have hp : pos < s.size := by omega
    obtain ⟨t, ht⟩ : ∃ t, s.extract pos s.size = t := ⟨_, rfl⟩
    have htb : bl t = (bl s).drop pos := by rw [← ht]; exact extract_bl s pos
    have hts : t.size = s.size - pos := by rw [← bl_length, htb, List.length_drop, bl_length]
    rw [← htb]
    have hh : (0 : Int) ≤ (pos : Int) ∧ ¬ ((pos : Int) < 0) ∧ ¬ ((s.size : Int) ≤ (pos : Int)) := by omega
    obtain ⟨g1, g2, g3⟩ := hh
    have ht0 : 0 < t.size := by omega
    have htm : t.size ≤ 281474976710656 := by omega
    obtain ⟨q, hq⟩ := bl_cons t ht0
    obtain ⟨n, hn⟩ : ∃ n, lng t[0].toNat = n := ⟨_, rfl⟩
    have h4 : n ≤ 4 := by rw [← hn]; exact lng_le _
    have hlong := hide (fun w => rlong_any t[0].toNat w (by have := t[0].toNat_lt; omega))
    rw [hn] at hlong
    have hz0 : (0 : Int) < (t.size : Int) := by omega
    have hnone : t.size < n ∨ n = 0 → chr (bl t) = none := by
      intro h
      cases hc : chr (bl t) with
      | none => rfl
      | some rn =>
        obtain ⟨r, k⟩ := rn
        obtain ⟨n1, n4', nl, _⟩ := chr_some hc
        rw [hq] at hc
        have := (chr_num hc).1
        rw [bl_length] at nl
        omega
    have hfull : chr (bl t) = none → n ≤ t.size → run .i8 (bl t) = none := by
      intro h1 h2
      have := bl_length t
      rw [hq] at h1 this ⊢
      exact full_none h1 (by omega)
    clear htb hr
    rcases Nat.eq_zero_or_pos n with hn0 | hn1
    · have hd : decF (bl t) = (0, 0, 30) := by
        unfold decF
        rw [hnone (.inr hn0), hfull (hnone (.inr hn0)) (by omega)]
        rfl
      rw [hd]
      clear hd hnone hfull hq hn hts
      subst hn0
      go_enter Tryd.func73, Tryd.ntmps73
      go_wp2_with (go_at_call 78; refine (hlong.out _).mono ?_; rintro e w1 ⟨rfl, hw1⟩; have hw1s := hw1.symm; clear hw1; subst hw1s)
      go_ret3
      exact ⟨rfl, Below.refl _ _⟩
    · rcases Nat.lt_or_ge t.size n with hlt | hge
      · have hcn := hnone (.inl hlt)
        have hbg := hide (fun w => begins_any t n w ht0 hn hlt h4)
        obtain ⟨o, ho⟩ : ∃ o, (run .i8 (bl t)).isSome = o := ⟨_, rfl⟩
        have hd : decF (bl t) = if o then (0, 0, 31) else (0, 0, 30) := by
          unfold decF
          rw [hcn, ← ho]
        rw [hd]
        rw [ho] at hbg
        have i1 : (0 : Int) < (n : Int) := by omega
        have i2 : ¬ ((n : Int) ≤ (t.size : Int)) := by omega
        have i3 : (t.size : Int) < (n : Int) := by omega
        clear hd hnone hfull hq hn hts hcn ho hlt hn1
        cases o
        · go_enter Tryd.func73, Tryd.ntmps73
          go_wp2_with (first | (go_at_call 78; refine (hlong.out _).mono ?_; rintro e w1 ⟨rfl, hw1⟩; have hw1s := hw1.symm; clear hw1; subst hw1s) | (go_at_call 82; refine (hbg.out _).mono ?_; rintro e w2 ⟨rfl, hb2⟩))
          go_ret3
          exact ⟨rfl, hb2⟩
        · go_enter Tryd.func73, Tryd.ntmps73
          go_wp2_with (first | (go_at_call 78; refine (hlong.out _).mono ?_; rintro e w1 ⟨rfl, hw1⟩; have hw1s := hw1.symm; clear hw1; subst hw1s) | (go_at_call 82; refine (hbg.out _).mono ?_; rintro e w2 ⟨rfl, hb2⟩))
          go_ret3
          exact ⟨rfl, hb2⟩
      · have hnum := hide (fun w => rnumber_any t n w hn1 h4 hge (by omega))
        have hR1 : numV (bl t) n ≤ 200000000 := numV_le _ n hn1 h4
        have hcs : ∀ r k, chr (bl t) = some (r, k) → k = n ∧ r = numV (bl t) n := by
          intro r k h
          have h' := h
          rw [hq] at h'
          obtain ⟨e1, e2⟩ := chr_num h'
          rw [hn] at e1
          subst e1
          rw [← hq] at e2
          exact ⟨rfl, e2⟩
        obtain ⟨R, hR⟩ : ∃ R, numV (bl t) n = R := ⟨_, rfl⟩
        rw [hR] at hnum hR1 hcs
        have hIs := hide (fun w => ris_any (R : Int) w (by omega) (by omega))
        have i1 : (0 : Int) < (n : Int) := by omega
        have i2 : (n : Int) ≤ (t.size : Int) := by omega
        have i3 : ¬ ((t.size : Int) < (n : Int)) := by omega
        cases hv : Utf8.valid (R : Int)
        · have hcn : chr (bl t) = none := by
            cases hc : chr (bl t) with
            | none => rfl
            | some rk =>
              obtain ⟨r, k⟩ := rk
              have e := (hcs r k hc).2
              have := (chr_some hc).2.2.2.2.1
              rw [e, hv] at this
              cases this
          have hd : decF (bl t) = (0, 0, 30) := by
            unfold decF
            rw [hcn, hfull hcn hge]
            rfl
          rw [hd]
          rw [hv] at hIs
          clear hd hnone hfull hq hn hts hcn hcs hR hv hge hn1
          go_enter Tryd.func73, Tryd.ntmps73
          go_wp2_with (first | (go_at_call 78; refine (hlong.out _).mono ?_; rintro e w1 ⟨rfl, hw1⟩; have hw1s := hw1.symm; clear hw1; subst hw1s) | (go_at_call 79; refine (hnum.out _).mono ?_; rintro e w2 ⟨rfl, hb2⟩; have hb2 := hide hb2))
          go_quiet (first | (go_at_call 80; exact Calls.quiet_of_same (hIs.out _)))
          go_wp2
          go_ret3
          exact ⟨rfl, below_dn hb2.out _⟩
        · have hBy := hide (fun w => rbytes_any R w hv)
          rw [hv] at hIs
          cases hc : chr (bl t) with
          | none =>
            have hd : decF (bl t) = (0, 0, 30) := by
              unfold decF
              rw [hc, hfull hc hge]
              rfl
            rw [hd]
            obtain ⟨u, hu⟩ : ∃ u, Utf8.encode (R : Int) = u := ⟨_, rfl⟩
            have heq : (u.toList == (t.extract 0 n).toList) = false := by
              rw [str_head, beq_eq_false_iff_ne]
              intro e
              have := chr_of_bytes (l := bl t) (n := n) hv (by rw [hu]; exact e) (by rw [bl_length]; exact hge)
              rw [hc] at this
              cases this
            rw [hu] at hBy
            clear hd hnone hfull hq hn hts hc hcs hR hv hge hn1 hu
            go_enter Tryd.func73, Tryd.ntmps73
            go_wp2_with (first | (go_at_call 78; refine (hlong.out _).mono ?_; rintro e w1 ⟨rfl, hw1⟩; have hw1s := hw1.symm; clear hw1; subst hw1s) | (go_at_call 79; refine (hnum.out _).mono ?_; rintro e w2 ⟨rfl, hb2⟩; have hb2 := hide hb2))
            go_region_held3 (fun _ => True) (first | trivial | go_keep) (first | (go_at_call 80; refine (hIs.out _).mono ?_; rintro e w3 ⟨rfl, hw3⟩; have hw3s := hw3.symm; clear hw3; subst hw3s) | (go_at_call 81; refine (hBy.out _).mono ?_; rintro e w4 ⟨rfl, hb4⟩; have hb4 := hide hb4))
            go_wp2
            go_ret3
            exact ⟨rfl, below_then hb2.out.drew hb4.out⟩
          | some rk =>
            obtain ⟨r, k⟩ := rk
            obtain ⟨e1, e2⟩ := hcs r k hc
            have hb := (chr_some hc).2.2.2.2.2
            subst e1 e2
            have hd : decF (bl t) = (r, k, 0) := by
              unfold decF
              rw [hc]
            rw [hd]
            obtain ⟨u, hu⟩ : ∃ u, Utf8.encode (r : Int) = u := ⟨_, rfl⟩
            rw [hu] at hBy hb
            have heq : (u.toList == (t.extract 0 k).toList) = true := by
              rw [str_head, hb]
              exact beq_self_eq_true _
            clear hd hnone hfull hq hn hts hc hcs hR hv hge hn1 hu hb
            go_enter Tryd.func73, Tryd.ntmps73
            go_wp2_with (first | (go_at_call 78; refine (hlong.out _).mono ?_; rintro e w1 ⟨rfl, hw1⟩; have hw1s := hw1.symm; clear hw1; subst hw1s) | (go_at_call 79; refine (hnum.out _).mono ?_; rintro e w2 ⟨rfl, hb2⟩; have hb2 := hide hb2))
            go_region_held3 (fun _ => True) (first | trivial | go_keep) (first | (go_at_call 80; refine (hIs.out _).mono ?_; rintro e w3 ⟨rfl, hw3⟩; have hw3s := hw3.symm; clear hw3; subst hw3s) | (go_at_call 81; refine (hBy.out _).mono ?_; rintro e w4 ⟨rfl, hb4⟩; have hb4 := hide hb4))
            go_wp2
            go_ret3
            exact ⟨rfl, below_then hb2.out.drew hb4.out⟩
  · rw [if_neg hr]
    by_cases h1 : at' < 0
    · go_enter Tryd.func73, Tryd.ntmps73
      go_wp2
      go_ret3
      exact ⟨rfl, Below.refl _ _⟩
    · have h2 : (s.size : Int) ≤ at' := by omega
      have h3 : (0 : Int) ≤ at' := by omega
      clear hr
      go_enter Tryd.func73, Tryd.ntmps73
      go_wp2
      go_ret3
      exact ⟨rfl, Below.refl _ _⟩
end Go.Proofs.YtemlpjnophijfaaDoor.Ut
