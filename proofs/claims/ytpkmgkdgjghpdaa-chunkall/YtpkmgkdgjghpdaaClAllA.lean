/- calamuslaw06.ChunkAll: walked (CkAll has what it leans on). -/
import Derived.Test.YtpkmgkdgjghpdaaCkAll
namespace Go.Proofs.Ytpkmgkdgjghpdaa
open Go.RowKit
set_option linter.unusedSimpArgs false
set_option linter.unusedVariables false
set_option maxHeartbeats 4000000 in
set_option maxRecDepth 100000 in
theorem all_lawA (vz : Value) (z : List Int) (vy : Value) (y : List Int) (w : World) (si : SI w vz z) (sy : SI w vy y) :
    Calls Try.prog 4 #[.slice none 0 0, vz, vy] w fun r w' => r = .returned (.bool true) ∧ Below w.heap.size w w' := by
  have ml : maxLen = 2 ^ 63 - 1 := rfl
  obtain ⟨az, cz, rfl, hz1, hz2⟩ := si.len
  obtain ⟨ay, cy, rfl, hy1, hy2⟩ := sy.len
  replace si := hide si
  replace sy := hide sy
  by_cases hl2 : (500 : Int) < (z.length : Int)
  · go_enter Try.func4, Try.ntmps4
    go_wp2
    go_ret
    exact ⟨rfl, Below.refl _ _⟩
  by_cases hl3 : (500 : Int) < (y.length : Int)
  · go_enter Try.func4, Try.ntmps4
    go_wp2
    go_ret
    exact ⟨rfl, Below.refl _ _⟩
  go_enter Try.func4, Try.ntmps4
  go_wp2_with fail
  refine (new_any 0 (by omega) _).mono ?_
  rintro e w1 ⟨rfl, hc1, hb1⟩
  have A1 : Hid (Al w [] 0 0 (.slice none 0 0) (.slice none 0 0) 0 w1) := ⟨⟨Ch.new (n := 0) hc1 (by decide) (Nat.lt_succ_self _) hc1.lt, hb1⟩, own_nil _ _, by simp [Value.ownBlock], Nat.le_refl _, Nat.zero_le _⟩
  clear hc1 hb1
  go_wp2_with fail
  go_loopw [9, 10, 11] (fun u gv i w' => ∃ (k : Nat) (ga : Option Addr) (gc : Nat) (v : Value) (gone : Nat), u = .int .i64 0 ∧ gv = .slice ga 0 gc ∧ i = .int .i64 k ∧ k ≤ z.length + 1 ∧ Hid (Al w [] 0 0 gv v gone w')) (fun _ _ i _ => z.length + 1 - (intOf i).toNat)
  case atStart => exact ⟨0, none, 0, _, 0, rfl, rfl, rfl, by omega, A1.out⟩
  case round =>
    obtain ⟨k, ga, gc, v, gone, rfl, rfl, rfl, hk, A⟩ := hrel
    by_cases hk1 : (k : Int) ≤ (z.length : Int)
    · have ct : Hid (Calls Try.prog 11 #[.slice az z.length cz, .int .i64 k, .int .i64 0, .int .i64 0] wr fun r w' => r = .returned (.int .i64 0) ∧ ∃ m, w' = wr.drewN m) := by
        have q := cut_any _ z k 0 0 wr (si.out.below A.out.sr.below) (by omega) (by omega) (by omega)
        rw [show cutE z k 0 0 = 0 by have := (cutE_le z k 0 0 (Nat.le_refl _)).2; omega] at q
        exact q
      have hsep : Hid (∀ v' : Value, ([] : List UInt8) ≠ [] → ∀ k, (Value.slice none 0 0).ownBlock = some k → k ≠ w.heap.size ∧ v'.ownBlock ≠ some k) := fun v' hne => absurd rfl hne
      have hsl : Hid (∀ d, SL (wr.drewN d) (.slice none 0 0) ([] : List UInt8)) := fun d => Or.inl ⟨rfl, rfl⟩
      by_cases hky : k < y.length
      · have hky1 : (k : Int) < (y.length : Int) := by omega
        have hky2 : ¬ ((y.length : Int) ≤ (k : Int)) := by omega
        have hky3 : ¬ (y.length ≤ k) := by omega
        obtain ⟨a1, c1, e1, _, _, hyc, hq1, hq2, hyb⟩ := sy.out.at k hky
        simp only [Value.slice.injEq] at e1
        obtain ⟨rfl, _, rfl⟩ := e1
        obtain ⟨q, hq⟩ : ∃ q, y[k] = q := ⟨_, rfl⟩
        rw [hq] at hyc hq1 hq2
        clear hq
        by_cases hq3 : q < 0
        · go_wp2_with (first
            | (go_at_call 11; refine ct.out.mono ?_; rintro e w2 ⟨rfl, m2, rfl⟩; have A2 := hide (A.out.then (below_drewN _ m2 _)); have hsl2 := hide (hsl.out m2))
            | (go_at_call 12; refine (feed_any _ [] A2.out.sr.ch hsl2.out (Nat.zero_le _) (hsep.out v)).mono ?_; rintro e w3 ⟨rfl, v3, g3, hc3, hf3, ho3⟩; have A3 : Hid (Al w [] 0 0 (.slice ga 0 gc) v3 g3 w3) := A2.out.fed (pos' := 0) (Nat.le_refl _) (Nat.le_refl _) hc3 hf3 ho3; clear hc3 hf3 ho3; have hyc3 := (A3.out.sr.below.cell (p := a1.add k) (by rw [add_block]; exact hyb)).trans hyc))
          refine ⟨⟨k + 1, ga, gc, v3, g3, rfl, rfl, by go_num, by omega, A3.out⟩, by simp [intOf]; omega⟩
        by_cases hq4 : 1000 < q
        · go_wp2_with (first
            | (go_at_call 11; refine ct.out.mono ?_; rintro e w2 ⟨rfl, m2, rfl⟩; have A2 := hide (A.out.then (below_drewN _ m2 _)); have hsl2 := hide (hsl.out m2))
            | (go_at_call 12; refine (feed_any _ [] A2.out.sr.ch hsl2.out (Nat.zero_le _) (hsep.out v)).mono ?_; rintro e w3 ⟨rfl, v3, g3, hc3, hf3, ho3⟩; have A3 : Hid (Al w [] 0 0 (.slice ga 0 gc) v3 g3 w3) := A2.out.fed (pos' := 0) (Nat.le_refl _) (Nat.le_refl _) hc3 hf3 ho3; clear hc3 hf3 ho3; have hyc3 := (A3.out.sr.below.cell (p := a1.add k) (by rw [add_block]; exact hyb)).trans hyc))
          refine ⟨⟨k + 1, ga, gc, v3, g3, rfl, rfl, by go_num, by omega, A3.out⟩, by simp [intOf]; omega⟩
        obtain ⟨qn, rfl⟩ := Int.eq_ofNat_of_zero_le (show 0 ≤ q by omega)
        by_cases hq5 : 0 < qn
        · go_wp2_with (first
            | (go_at_call 11; refine ct.out.mono ?_; rintro e w2 ⟨rfl, m2, rfl⟩; have A2 := hide (A.out.then (below_drewN _ m2 _)); have hsl2 := hide (hsl.out m2))
            | (go_at_call 12; refine (feed_any _ [] A2.out.sr.ch hsl2.out (Nat.zero_le _) (hsep.out v)).mono ?_; rintro e w3 ⟨rfl, v3, g3, hc3, hf3, ho3⟩; have A3 : Hid (Al w [] 0 0 (.slice ga 0 gc) v3 g3 w3) := A2.out.fed (pos' := 0) (Nat.le_refl _) (Nat.le_refl _) hc3 hf3 ho3; clear hc3 hf3 ho3; have hyc3 := (A3.out.sr.below.cell (p := a1.add k) (by rw [add_block]; exact hyb)).trans hyc; have tk := hide (take_no qn A3.out.sr.ch (Or.inr (by simp; omega))))
            | (go_at_call 13; refine tk.out.mono ?_; rintro e w4 ⟨rfl, m4, rfl⟩; have A4 := hide (A3.out.then (below_drewN _ m4 _))))
          refine ⟨⟨k + 1, ga, gc, v3, g3, rfl, rfl, by go_num, by omega, A4.out⟩, by simp [intOf]; omega⟩
        have hqn : qn = 0 := by omega
        subst hqn
        go_wp2_with (first
          | (go_at_call 11; refine ct.out.mono ?_; rintro e w2 ⟨rfl, m2, rfl⟩; have A2 := hide (A.out.then (below_drewN _ m2 _)); have hsl2 := hide (hsl.out m2))
          | (go_at_call 12; refine (feed_any _ [] A2.out.sr.ch hsl2.out (Nat.zero_le _) (hsep.out v)).mono ?_; rintro e w3 ⟨rfl, v3, g3, hc3, hf3, ho3⟩; have A3 : Hid (Al w [] 0 0 (.slice ga 0 gc) v3 g3 w3) := A2.out.fed (pos' := 0) (Nat.le_refl _) (Nat.le_refl _) hc3 hf3 ho3; clear hc3 hf3 ho3; have hyc3 := (A3.out.sr.below.cell (p := a1.add k) (by rw [add_block]; exact hyb)).trans hyc))
        have z3 := A3.out.sr.lt
        have V3 : Hid (v3.ownBlock ≠ some w3.heap.size) := fun e => absurd (A3.out.sr.ch.own.row _ e).2 (Nat.lt_irrefl _)
        refine (take_any 0 A3.out.sr.ch (Nat.zero_le _)).mono ?_
        rintro e w4 ⟨rfl, hr4, hc4, hf4⟩
        have X4 : Hid (RB w4 w3.heap.size []) := hr4
        have z4 := hr4.lt
        have C4 : Hid (Ch w4 w.heap.size (w.heap.size + 1) v3 g3 0 [] 0 0) := hc4
        have F4 := hide hf4
        clear hr4 hc4 hf4
        go_wp2_with fail
        refine (back_any 0 (by omega) (by omega) C4.out).mono ?_
        rintro e w5 ⟨rfl, hc5, hf5⟩
        rw [show backR 0 0 0 = 0 by decide]
        have X5 := hide (X4.out.same (hf5.block _ z4 (by omega) V3.out))
        have z5 := hf5.size
        have C5 : Hid (Ch w5 w.heap.size (w.heap.size + 1) v3 g3 0 [] 0 0) := hc5
        have F5 := hide (F4.out.trans hf5)
        clear hc5 hf5 C4 F4 X4
        go_wp2_with fail
        refine (take_any 0 C5.out (Nat.zero_le _)).mono ?_
        rintro e w6 ⟨rfl, hr6, hc6, hf6⟩
        have z6 := hr6.lt
        have R6 : Hid (RB w6 w5.heap.size []) := hr6
        have X6 := hide (X5.out.same (hf6.block _ (by omega) (by omega) V3.out))
        have C6 : Hid (Ch w6 w.heap.size (w.heap.size + 1) v3 g3 0 [] 0 0) := hc6
        have F6 := hide (F5.out.trans hf6)
        have sy6 : ∀ d, (convert 33 9 (.slice (some ⟨w5.heap.size, 0, none⟩) 0 0)).run Try.prog (w6.drewN d) = .ok (.string ⟨#[]⟩) (w6.drewN d) := fun d => ((R6.out.sl (l := []) (by decide)).below (below_drewN _ d _)).conv
        have sx6 : ∀ d, (convert 33 9 (.slice (some ⟨w3.heap.size, 0, none⟩) 0 0)).run Try.prog (w6.drewN d) = .ok (.string ⟨#[]⟩) (w6.drewN d) := fun d => ((X6.out.sl (l := []) (by decide)).below (below_drewN _ d _)).conv
        have own6 : Hid (∀ d, Own (w6.drewN d) (w.heap.size + 1) (.slice ga 0 gc) []) := fun d => (A3.out.own.of (W1 := w6.drewN d) fun q hq hlt => F6.out.block q hlt (by have := (A3.out.own.row q hq).1; omega) (A3.out.sep q hq))
        clear hr6 hc6 hf6 C5 F5 X5
        have hnew : Hid (∀ d j u, (bcs [])[j]? = some u → (w6.drewN d).cell? ((⟨w3.heap.size, 0, none⟩ : Addr).add j) = some u) := fun d j u hj => by simp [bcs] at hj
        have hBz := hide (show w.heap.size + 1 ≤ w6.heap.size by omega)
        have hwz : IntKind.i64.wrap 0 = 0 := rfl
        go_wp2_with fail
        go_quiet (fail)
        go_wp2_with (at_builtin; refine app_at rfl (.tmp 120) (.tmp 121) rfl (w.heap.size + 1) _ [] rfl (own6.out _) ⟨w3.heap.size, 0, none⟩ 0 0 [] rfl rfl (hnew.out _) (by decide) hBz.out ?_; intro gv7 w7 ho7 hg7 hat7; obtain ⟨a7, c7, hv7, _, _⟩ := ho7.out.sl.len; replace hv7 : gv7 = .slice a7 0 c7 := hv7; subst hv7)
        refine ⟨⟨k + 1, a7, c7, v3, g3, rfl, rfl, by go_num, by omega, ?_⟩, by simp [intOf]; omega⟩
        exact A3.out.got (n := 0) (Nat.le_refl _) (C6.out.dn _) (F6.out.then (below_drewN _ _ _)) ho7.out hg7.out hat7.out
      · have hky2 : (y.length : Int) ≤ (k : Int) := by omega
        have hky3 : y.length ≤ k := by omega
        go_wp2_with (first
          | (go_at_call 11; refine ct.out.mono ?_; rintro e w2 ⟨rfl, m2, rfl⟩; have A2 := hide (A.out.then (below_drewN _ m2 _)); have hsl2 := hide (hsl.out m2))
          | (go_at_call 12; refine (feed_any _ [] A2.out.sr.ch hsl2.out (Nat.zero_le _) (hsep.out v)).mono ?_; rintro e w3 ⟨rfl, v3, g3, hc3, hf3, ho3⟩; have A3 : Hid (Al w [] 0 0 (.slice ga 0 gc) v3 g3 w3) := A2.out.fed (pos' := 0) (Nat.le_refl _) (Nat.le_refl _) hc3 hf3 ho3; clear hc3 hf3 ho3))
        refine ⟨⟨k + 1, ga, gc, v3, g3, rfl, rfl, by go_num, by omega, A3.out⟩, by simp [intOf]; omega⟩
    · have hke : k = z.length + 1 := by omega
      have hk2 : ¬ ((k : Int) ≤ (z.length : Int)) := by omega
      have hk3 : ¬ (k ≤ z.length) := by omega
      replace hke := hide hke
      have lef : Hid (Calls Try.prog 15 #[.pointer (some ⟨w.heap.size, 0, none⟩)] wr fun r w' => r = .returned (.int .i64 0) ∧ ∃ m, w' = wr.drewN m) := left_any A.out.sr.ch
      have z0 := A.out.sr.lt
      go_wp2_with fail
      refine lef.out.mono ?_
      rintro e w2 ⟨rfl, m2, hm2⟩
      have A2 : Hid (Al w [] 0 0 (.slice ga 0 gc) v gone w2) := by rw [hm2]; exact A.out.then (below_drewN _ _ _)
      clear hm2
      have z2 := A2.out.sr.lt
      go_wp2_with fail
      refine (take_any 0 A2.out.sr.ch (Nat.zero_le _)).mono ?_
      rintro e w3 ⟨rfl, hr3, hc3, hf3⟩
      have z3 := hr3.lt
      have C3 : Hid (Ch w3 w.heap.size (w.heap.size + 1) v gone 0 [] 0 0) := hc3
      have F3 := hide hf3
      have own3 : Hid (Own w3 (w.heap.size + 1) (.slice ga 0 gc) []) := A2.out.own.of fun q hq hlt => hf3.block q hlt (by have := (A2.out.own.row q hq).1; omega) (A2.out.sep q hq)
      have hnew : Hid (∀ j u, (bcs [])[j]? = some u → w3.cell? ((⟨w2.heap.size, 0, none⟩ : Addr).add j) = some u) := fun j u hj => by simp [bcs] at hj
      have hBz := hide (show w.heap.size + 1 ≤ w3.heap.size by omega)
      have aw := hide awake_any
      clear hr3 hc3 hf3
      have s2 : ∀ w, (convert 33 9 (.slice none 0 0)).run Try.prog w = .ok (.string ⟨#[]⟩) w := fun w => (SL.conv (l := []) (Or.inl ⟨rfl, rfl⟩))
      go_wp2_with (first
        | (at_builtin; refine app_at rfl (.tmp 130) (.tmp 131) rfl (w.heap.size + 1) _ [] rfl own3.out ⟨w2.heap.size, 0, none⟩ 0 0 [] rfl rfl hnew.out (by decide) hBz.out ?_; intro gv4 w4 ho4 hg4 hat4; obtain ⟨a4, c4, hv4, _, _⟩ := ho4.out.sl.len; replace hv4 : gv4 = .slice a4 0 c4 := hv4; subst hv4; have A4 : Hid (Al w [] 0 0 (.slice a4 0 c4) v gone w4) := A2.out.got (n := 0) (Nat.le_refl _) C3.out F3.out ho4.out hg4.out hat4.out)
        | (go_at_call 9; refine (aw.out _).mono ?_; rintro e w5 ⟨rfl, hb5⟩; have A5 := hide (A4.out.then hb5); clear hb5; have s1 : ∀ d, (convert 33 9 (.slice a4 0 c4)).run Try.prog (w5.drewN d) = .ok (.string ⟨#[]⟩) (w5.drewN d) := (fun d => (A5.out.own.sl.below (below_drewN _ d _)).conv); have s3 := s1 0; rw [World.drewN_zero] at s3; have lef2 : Hid (Calls Try.prog 15 #[.pointer (some ⟨w.heap.size, 0, none⟩)] w5 fun r w' => r = .returned (.int .i64 0) ∧ ∃ m, w' = w5.drewN m) := left_any A5.out.sr.ch)
        | (go_at_call 15; refine lef2.out.mono ?_; rintro e w6 ⟨rfl, m6, rfl⟩; have A6 := hide (A5.out.then (below_drewN _ m6 _)))
        | (go_at_call 16; refine (total_any A6.out.sr.ch).mono ?_; rintro e w7 ⟨rfl, m7, rfl⟩; rw [show (([] : List UInt8).take 0).length = 0 from rfl]))
      go_ret
      exact ⟨rfl, A5.out.sr.below.trans (below_drewN _ _ _)⟩
end Go.Proofs.Ytpkmgkdgjghpdaa
