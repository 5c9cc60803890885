/- calamuslaw06.ChunkPeeks: walked. -/
import Derived.Test.YtpkmgkdgjghpdaaCfAwake
namespace Go.Proofs.Ytpkmgkdgjghpdaa
open Go.RowKit
set_option linter.unusedSimpArgs false
set_option linter.unusedVariables false
/-- A law's source: made by it, above what was there. -/
structure Sr (w : World) (v : Value) (gone lim : Nat) (all : List UInt8) (taken once : Nat) (W : World) : Prop where
  ch : Ch W w.heap.size (w.heap.size + 1) v gone lim all taken once
  below : Below w.heap.size w W
theorem Sr.then {w W W1 : World} {v : Value} {gone lim taken once : Nat} {all : List UInt8} (h : Sr w v gone lim all taken once W) (hb : Below W.heap.size W W1) : Sr w v gone lim all taken once W1 := ⟨h.ch.then hb, below_then h.below hb⟩
theorem Sr.by {w W W1 : World} {v v' : Value} {gone gone' lim taken taken' once once' : Nat} {all all' : List UInt8} (h : Sr w v gone lim all taken once W) (c : Ch W1 w.heap.size (w.heap.size + 1) v' gone' lim all' taken' once') (f : Fr w.heap.size v W W1) : Sr w v' gone' lim all' taken' once' W1 :=
  ⟨c, h.below.trans (f.below (Nat.le_refl _) h.below.size fun k hk => by have := (h.ch.own.row k hk).1; omega)⟩
theorem Sr.lt {w W : World} {v : Value} {gone lim taken once : Nat} {all : List UInt8} (h : Sr w v gone lim all taken once W) : w.heap.size < W.heap.size := h.ch.cb.lt
section
variable {W : World} {i B gone lim taken once : Nat} {v : Value} {all : List UInt8}
/-- Take, whatever it answers. -/
theorem take_some (n : Int) (c : Ch W i B v gone lim all taken once) : Calls Try.prog 13 #[.pointer (some ⟨i, 0, none⟩), .int .i64 n] W fun r w' => ∃ r0, r = .returned r0 ∧ ∃ t o, Ch w' i B v gone lim all t o ∧ Fr i v W w' := by
  by_cases h : n < 0 ∨ ((all.length - taken : Nat) : Int) < n
  · refine (take_no n c h).mono ?_
    rintro r w' ⟨rfl, m, rfl⟩
    exact ⟨_, rfl, _, _, c.dn m, Fr.of_below (below_drewN _ _ _)⟩
  · obtain ⟨m, rfl⟩ := Int.eq_ofNat_of_zero_le (show 0 ≤ n by omega)
    refine (take_any m c (by omega)).mono ?_
    rintro r w' ⟨rfl, _, h2, h3⟩
    exact ⟨_, rfl, _, _, h2, h3⟩
end
set_option maxHeartbeats 4000000 in
set_option maxRecDepth 100000 in
theorem peeks_law (vb : Value) (l : List UInt8) (n m : Int) (w : World) (sl : SL w vb l) (hn1 : -9223372036854775808 ≤ n) (hn2 : n ≤ 9223372036854775807) (hm1 : -9223372036854775808 ≤ m) (hm2 : m ≤ 9223372036854775807) :
    Calls Try.prog 6 #[vb, .int .i64 n, .int .i64 m] w fun r w' => r = .returned (.bool true) ∧ Below w.heap.size w w' := by
  have ml : maxLen = 2 ^ 63 - 1 := rfl
  obtain ⟨a, c, rfl, h1, h2⟩ := sl.len
  have S := hide sl
  clear sl
  by_cases hlong : (65536 : Int) < (l.length : Int)
  · go_enter Try.func6, Try.ntmps6
    go_wp2
    go_ret
    exact ⟨rfl, Below.refl _ _⟩
  · go_enter Try.func6, Try.ntmps6
    go_wp2_with fail
    refine (new_any 65536 (by omega) _).mono ?_
    rintro e w1 ⟨rfl, hc1, hb1⟩
    have A1 : Hid (Sr w (.slice none 0 0) 0 65536 [] 0 0 w1) := ⟨Ch.new hc1 (by omega) (Nat.lt_succ_self _) hc1.lt, hb1⟩
    clear hc1 hb1
    have z1 := A1.out.lt
    go_wp2_with fail
    refine (feed_any _ l A1.out.ch (S.out.below A1.out.below) (by simp; omega) (fun hne k hk => ⟨by have := S.out.lt hne k hk; omega, by simp [Value.ownBlock]⟩)).mono ?_
    rintro e w2 ⟨rfl, v2, g2, hc2, hf2, ho2⟩
    have A2 : Hid (Sr w v2 g2 65536 l 0 0 w2) := A1.out.by hc2 hf2
    clear hc2 hf2 ho2
    go_wp2_with fail
    refine (take_some n A2.out.ch).mono ?_
    rintro e w3 ⟨r3, rfl, t, o, hc3, hf3⟩
    have A3 : Hid (Sr w v2 g2 65536 l t o w3) := A2.out.by hc3 hf3
    have ht1 := hc3.t1
    have ht3 := hc3.t3
    clear hc3 hf3
    go_wp2_with fail
    refine (left_any A3.out.ch).mono ?_
    rintro e w4 ⟨rfl, m4, hm4⟩
    have A4 : Hid (Sr w v2 g2 65536 l t o w4) := by subst hm4; exact A3.out.then (below_drewN _ _ _)
    clear hm4
    obtain ⟨lf, hlf⟩ : ∃ lf, l.length - t = lf := ⟨_, rfl⟩
    rw [hlf]
    have hlf' := hide hlf
    have hlf2 : lf ≤ 65536 := by omega
    clear hlf
    by_cases hok : m < 0 ∨ (lf : Int) < m
    · have pk := hide (fun n => peek_no m (A4.out.ch.dn n) (by rw [hlf'.out]; exact hok))
      have tk := hide (fun n => take_no m (A4.out.ch.dn n) (by rw [hlf'.out]; exact hok))
      have lef : Hid (∀ n, Calls Try.prog 15 #[.pointer (some ⟨w.heap.size, 0, none⟩)] (w4.drewN n) fun r w' => r = .returned (.int .i64 lf) ∧ ∃ m, w' = (w4.drewN n).drewN m) := fun n => by have := left_any (A4.out.ch.dn n); rw [hlf'.out] at this; exact this
      have aw := hide awake_any
      have hcn : ∀ w, (convert 33 9 (.slice none 0 0)).run Try.prog w = .ok (.string ⟨#[]⟩) w := fun w => (SL.conv (l := []) (Or.inl ⟨rfl, rfl⟩))
      have hb0 : (decide (0 ≤ m) && decide (m ≤ (lf : Int))) = false := by simp; omega
      go_wp2_with (first
        | (go_at_call 17; refine (pk.out 0).mono ?_; rintro e wa ⟨rfl, ma, rfl⟩)
        | (go_at_call 13; refine (tk.out _).mono ?_; rintro e wb ⟨rfl, mb, rfl⟩)
        | (go_at_call 9; refine (aw.out _).mono ?_; rintro e wc ⟨rfl, hbc⟩; have A5 := hide ((A4.out.then (below_drewN _ _ _)).then hbc); clear hbc; have lef2 := hide (left_any A5.out.ch); rw [hlf'.out] at lef2)
        | (go_at_call 15; first | (refine lef2.out.mono ?_; rintro e we ⟨rfl, me, rfl⟩) | (refine (lef.out _).mono ?_; rintro e wd ⟨rfl, md, rfl⟩)))
      all_goals
        go_ret
        refine ⟨?_, A5.out.below.trans (below_drewN _ _ _)⟩
        first | rfl | (have hq : (m ≤ (lf : Int)) = False := eq_false (by omega); simp only [hq, decide_false, Bool.not_false]; rfl)
    · obtain ⟨mn, rfl⟩ := Int.eq_ofNat_of_zero_le (show 0 ≤ m by omega)
      have hmn : mn ≤ lf := by omega
      clear hok
      have pk := hide (peek_any mn A4.out.ch (by rw [hlf'.out]; exact hmn))
      have aw := hide awake_any
      have hb1 : decide ((mn : Int) ≤ (lf : Int)) = true := decide_eq_true (by omega)
      have hb2 : decide (mn ≤ lf) = true := decide_eq_true (by omega)
      have z4 := A4.out.lt
      have V4 : Hid (v2.ownBlock ≠ some w4.heap.size) := fun e => by have := (A4.out.ch.own.row _ e).2; omega
      obtain ⟨X, hX⟩ : ∃ X, (l.drop t).take mn = X := ⟨_, rfl⟩
      have hXl : X.length = mn := by rw [← hX, List.length_take, List.length_drop, hlf'.out]; omega
      have hlt2 := hide (show l.length - (t + mn) = lf - mn by have := hlf'.out; omega)
      have hXl' := hide hXl
      rw [hX] at pk
      go_wp2_with (first
        | (go_at_call 17; refine pk.out.mono ?_; rintro e wa ⟨rfl, hra, hba⟩; have R5 := hide hra; have A5 := hide (A4.out.then hba); have z5 := hra.lt; clear hra hba; have lef : Hid (Calls Try.prog 15 #[.pointer (some ⟨w.heap.size, 0, none⟩)] wa fun r w' => r = .returned (.int .i64 lf) ∧ ∃ m, w' = wa.drewN m) := (by have := left_any A5.out.ch; rw [hlf'.out] at this; exact this); have tk := hide (fun d => take_any mn (A5.out.ch.dn d) (by rw [hlf'.out]; exact hmn)); rw [hX] at tk)
        | (go_at_call 13; refine (tk.out _).mono ?_; rintro e wb ⟨rfl, hrb, hcb, hfb⟩; have R6 : Hid (RB wb wa.heap.size X) := hrb; have Q6 : Hid (RB wb w4.heap.size X) := R5.out.same (hfb.block _ z5 (by omega) V4.out); have A6 := hide ((A5.out.then (below_drewN _ _ _)).by hcb hfb); clear hrb hcb hfb)
        | (go_at_call 9; refine (aw.out _).mono ?_; rintro e wc ⟨rfl, hbc⟩; have A7 := hide (A6.out.then hbc); have S1 := ((R6.out.sl (by omega)).below hbc).conv; have S2 := ((Q6.out.sl (by omega)).below hbc).conv; rw [hXl'.out] at S1 S2; clear hbc; have lef2 := hide (left_any A7.out.ch); rw [hlt2.out] at lef2)
        | (go_at_call 15; first | (refine lef2.out.mono ?_; rintro e we ⟨rfl, me, rfl⟩) | (refine lef.out.mono ?_; rintro e wd ⟨rfl, md, rfl⟩)))
      go_ret
      refine ⟨?_, A7.out.below.trans (below_drewN _ _ _)⟩
      first | rfl | (show Ending.returned (Value.bool _) = _; congr 2; rw [beq_iff_eq]; omega)
end Go.Proofs.Ytpkmgkdgjghpdaa
