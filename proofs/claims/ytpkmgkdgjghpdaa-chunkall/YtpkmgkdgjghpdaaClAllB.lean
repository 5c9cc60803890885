/- calamuslaw06.ChunkAll: walked (CkAll has what it leans on). -/
import Derived.Test.YtpkmgkdgjghpdaaCkAll
namespace Go.Proofs.Ytpkmgkdgjghpdaa
open Go.RowKit
set_option linter.unusedSimpArgs false
set_option linter.unusedVariables false
set_option maxHeartbeats 4000000 in
set_option maxRecDepth 100000 in
theorem all_lawB (vb : Value) (l : List UInt8) (vz : Value) (z : List Int) (vy : Value) (y : List Int) (w : World) (sl : SL w vb l) (si : SI w vz z) (sy : SI w vy y) (hv : ∀ n c, vb ≠ .slice none n c) :
    Calls Try.prog 4 #[vb, vz, vy] w fun r w' => r = .returned (.bool true) ∧ Below w.heap.size w w' := by
  have ml : maxLen = 2 ^ 63 - 1 := rfl
  obtain ⟨a, c, rfl, h1, h2⟩ := sl.len
  obtain ⟨az, cz, rfl, hz1, hz2⟩ := si.len
  obtain ⟨ay, cy, rfl, hy1, hy2⟩ := sy.len
  replace hv := hide hv
  replace sl := hide sl
  replace si := hide si
  replace sy := hide sy
  by_cases hl1 : (65536 : Int) < (l.length : Int)
  · go_enter Try.func4, Try.ntmps4
    go_wp2
    go_ret
    exact ⟨rfl, Below.refl _ _⟩
  by_cases hl2 : (500 : Int) < (z.length : Int)
  · go_enter Try.func4, Try.ntmps4
    go_wp2
    go_ret
    exact ⟨rfl, Below.refl _ _⟩
  by_cases hl3 : (500 : Int) < (y.length : Int)
  · go_enter Try.func4, Try.ntmps4
    go_wp2
    go_ret
    exact ⟨rfl, Below.refl _ _⟩
  go_enter Try.func4, Try.ntmps4
  go_wp2_with fail
  refine (new_any l.length (by omega) _).mono ?_
  rintro e w1 ⟨rfl, hc1, hb1⟩
  have A1 : Hid (Al w l 0 0 (.slice none 0 0) (.slice none 0 0) 0 w1) := ⟨⟨Ch.new hc1 (by omega) (Nat.lt_succ_self _) hc1.lt, hb1⟩, own_nil _ _, by simp [Value.ownBlock], Nat.le_refl _, Nat.zero_le _⟩
  clear hc1 hb1
  go_wp2_with fail
  go_loopw [9, 10, 11] (fun u gv i w' => ∃ (pos t k : Nat) (ga : Option Addr) (gc : Nat) (v : Value) (gone : Nat), u = .int .i64 pos ∧ gv = .slice ga t gc ∧ i = .int .i64 k ∧ k ≤ z.length + 1 ∧ Hid (k = z.length + 1 → pos = l.length) ∧ Hid (Al w l pos t gv v gone w')) (fun _ _ i _ => z.length + 1 - (intOf i).toNat)
  case atStart => exact ⟨0, 0, 0, none, 0, _, 0, rfl, rfl, rfl, by omega, (fun h => by omega), A1.out⟩
  case round =>
    obtain ⟨pos, t, k, ga, gc, v, gone, rfl, rfl, rfl, hk, hlast, A⟩ := hrel
    have htp := A.out.tp
    have hpl := A.out.pl
    by_cases hk1 : (k : Int) ≤ (z.length : Int)
    · obtain ⟨en, hen⟩ : ∃ en, cutE z k pos l.length = en := ⟨_, rfl⟩
      have hle := cutE_le z k pos l.length hpl
      rw [hen] at hle
      have hlast2 : Hid (k + 1 = z.length + 1 → en = l.length) := fun h => by rw [← hen]; unfold cutE; rw [dif_neg (by omega)]
      have ct := hide (cut_any _ z k pos l.length wr (si.out.below A.out.sr.below) (by omega) hpl (by omega))
      rw [hen] at ct
      obtain ⟨hle1, hle2⟩ := hle
      clear hen
      have hab : (a = none ∧ l = [] ∧ c = 0) ∨ (∃ a0, a = some a0 ∧ pos < c) ∨ (∃ a0, a = some a0 ∧ pos = c) := by
        rcases sl.out with ⟨e, e2⟩ | ⟨a1, c1, e, _⟩
        · simp only [Value.slice.injEq] at e; exact Or.inl ⟨e.1, e2, e.2.2⟩
        · simp only [Value.slice.injEq] at e
          rcases Nat.lt_or_ge pos c with h | h
          · exact Or.inr (Or.inl ⟨a1, e.1, h⟩)
          · exact Or.inr (Or.inr ⟨a1, e.1, by omega⟩)
      rcases hab with ⟨rfl, hl0, rfl⟩ | ⟨a0, rfl, hpc⟩ | ⟨a0, rfl, hpc⟩
      · exact absurd rfl (hv.out _ _)
      · have hpc2 : ¬ (c - pos = 0) := by omega
        have hpc3 : ¬ ((c : Int) - (pos : Int) = 0) := by omega
        have hpc4 : ¬ (c = pos) := by omega
        have hsep : Hid (∀ v' : Value, (∀ k, v'.ownBlock = some k → w.heap.size + 1 ≤ k) → (l.drop pos).take (en - pos) ≠ [] → ∀ k, (Value.slice (some (a0.add pos)) (en - pos) (c - pos)).ownBlock = some k → k ≠ w.heap.size ∧ v'.ownBlock ≠ some k) := fun v' hv hne k hk => by
          have hk2 : a0.block = k := (by simpa [Value.ownBlock, add_block] using hk)
          have hlt := sl.out.lt (fun e => hne (by rw [e]; simp)) k (by simpa [Value.ownBlock] using hk2)
          exact ⟨by omega, fun e => by have := hv k e; omega⟩
        have hsl : Hid (∀ d, SL (wr.drewN d) (.slice (some (a0.add pos)) (en - pos) (c - pos)) ((l.drop pos).take (en - pos))) := fun d => ((sl.out.below A.out.sr.below).piece pos en hle1 hle2).below (below_drewN _ _ _)
        by_cases hky : k < y.length
        · have hky1 : (k : Int) < (y.length : Int) := by omega
          have hky2 : ¬ ((y.length : Int) ≤ (k : Int)) := by omega
          have hky3 : ¬ (y.length ≤ k) := by omega
          obtain ⟨a1, c1, e1, _, _, hyc, hq1, hq2, hyb⟩ := sy.out.at k hky
          simp only [Value.slice.injEq] at e1
          obtain ⟨rfl, _, rfl⟩ := e1
          obtain ⟨q, hq⟩ : ∃ q, y[k] = q := ⟨_, rfl⟩
          rw [hq] at hyc hq1 hq2
          clear hq
          by_cases hq3 : q < 0
          · go_wp2_with (first
              | (go_at_call 11; refine ct.out.mono ?_; rintro e w2 ⟨rfl, m2, rfl⟩; have A2 := hide (A.out.then (below_drewN _ m2 _)); have hsl2 := hide (hsl.out m2))
              | (go_at_call 12; refine (feed_any _ _ A2.out.sr.ch hsl2.out (by rw [List.length_take, List.length_drop, List.length_take]; omega) (hsep.out v (fun k hk => (A2.out.sr.ch.own.row k hk).1))).mono ?_; rintro e w3 ⟨rfl, v3, g3, hc3, hf3, ho3⟩; have A3 := hide (A2.out.fed hle1 hle2 hc3 hf3 ho3); clear hc3 hf3 ho3; have hyc3 := (A3.out.sr.below.cell (p := a1.add k) (by rw [add_block]; exact hyb)).trans hyc))
            refine ⟨⟨en, t, k + 1, ga, gc, v3, g3, rfl, rfl, by go_num, by omega, hlast2.out, A3.out⟩, by simp [intOf]; omega⟩
          by_cases hq4 : 1000 < q
          · go_wp2_with (first
              | (go_at_call 11; refine ct.out.mono ?_; rintro e w2 ⟨rfl, m2, rfl⟩; have A2 := hide (A.out.then (below_drewN _ m2 _)); have hsl2 := hide (hsl.out m2))
              | (go_at_call 12; refine (feed_any _ _ A2.out.sr.ch hsl2.out (by rw [List.length_take, List.length_drop, List.length_take]; omega) (hsep.out v (fun k hk => (A2.out.sr.ch.own.row k hk).1))).mono ?_; rintro e w3 ⟨rfl, v3, g3, hc3, hf3, ho3⟩; have A3 := hide (A2.out.fed hle1 hle2 hc3 hf3 ho3); clear hc3 hf3 ho3; have hyc3 := (A3.out.sr.below.cell (p := a1.add k) (by rw [add_block]; exact hyb)).trans hyc))
            refine ⟨⟨en, t, k + 1, ga, gc, v3, g3, rfl, rfl, by go_num, by omega, hlast2.out, A3.out⟩, by simp [intOf]; omega⟩
          obtain ⟨qn, rfl⟩ := Int.eq_ofNat_of_zero_le (show 0 ≤ q by omega)
          by_cases hq5 : en - t < qn
          · go_wp2_with (first
              | (go_at_call 11; refine ct.out.mono ?_; rintro e w2 ⟨rfl, m2, rfl⟩; have A2 := hide (A.out.then (below_drewN _ m2 _)); have hsl2 := hide (hsl.out m2))
              | (go_at_call 12; refine (feed_any _ _ A2.out.sr.ch hsl2.out (by rw [List.length_take, List.length_drop, List.length_take]; omega) (hsep.out v (fun k hk => (A2.out.sr.ch.own.row k hk).1))).mono ?_; rintro e w3 ⟨rfl, v3, g3, hc3, hf3, ho3⟩; have A3 := hide (A2.out.fed hle1 hle2 hc3 hf3 ho3); clear hc3 hf3 ho3; have hyc3 := (A3.out.sr.below.cell (p := a1.add k) (by rw [add_block]; exact hyb)).trans hyc; have tk := hide (take_no qn A3.out.sr.ch (Or.inr (by rw [List.length_take]; omega))))
              | (go_at_call 13; refine tk.out.mono ?_; rintro e w4 ⟨rfl, m4, rfl⟩; have A4 := hide (A3.out.then (below_drewN _ m4 _))))
            refine ⟨⟨en, t, k + 1, ga, gc, v3, g3, rfl, rfl, by go_num, by omega, hlast2.out, A4.out⟩, by simp [intOf]; omega⟩
          have hmt := hide (show max t (t + qn) = t + qn by omega)
          rcases (show qn = 0 ∨ (0 < qn ∧ qn < 16) ∨ 16 < qn ∨ qn = 16 by omega) with hqz | hqz | hqz | hqz
          · have hm1 : (qn : Int) < 16 := by omega
            replace hqz := hide hqz
            have hb0 := hide (show backR (t + qn) (t + qn) (qn : Int) = 0 by unfold backR; rw [if_neg (by omega), if_neg (by omega)])
            have hb1 := hide (show backT (t + qn) (t + qn) (qn : Int) = t + qn - qn by unfold backT; rw [hb0.out]; simp)
            have hbq : qn ≤ qn := by omega
            go_wp2_with (first
              | (go_at_call 11; refine ct.out.mono ?_; rintro e w2 ⟨rfl, m2, rfl⟩; have A2 := hide (A.out.then (below_drewN _ m2 _)); have hsl2 := hide (hsl.out m2))
              | (go_at_call 12; refine (feed_any _ _ A2.out.sr.ch hsl2.out (by rw [List.length_take, List.length_drop, List.length_take]; omega) (hsep.out v (fun k hk => (A2.out.sr.ch.own.row k hk).1))).mono ?_; rintro e w3 ⟨rfl, v3, g3, hc3, hf3, ho3⟩; have A3 := hide (A2.out.fed hle1 hle2 hc3 hf3 ho3); clear hc3 hf3 ho3; have hyc3 := (A3.out.sr.below.cell (p := a1.add k) (by rw [add_block]; exact hyb)).trans hyc))
            have z3 := A3.out.sr.lt
            have V3 : Hid (v3.ownBlock ≠ some w3.heap.size) := fun e => absurd (A3.out.sr.ch.own.row _ e).2 (Nat.lt_irrefl _)
            refine (take_any qn A3.out.sr.ch (by rw [List.length_take]; omega)).mono ?_
            rintro e w4 ⟨rfl, hr4, hc4, hf4⟩
            obtain ⟨X, hX⟩ : ∃ X, ((l.take en).drop t).take qn = X := ⟨_, rfl⟩
            have hXl := hide (show X.length = qn by rw [← hX, List.length_take, List.length_drop, List.length_take]; omega)
            rw [hX] at hr4
            rw [hmt.out] at hc4
            have X4 := hide hr4
            have z4 := hr4.lt
            have C4 := hide hc4
            have F4 := hide hf4
            clear hr4 hc4 hf4
            go_wp2_with fail
            refine (back_any (qn : Int) (by omega) (by omega) C4.out).mono ?_
            rintro e w5 ⟨rfl, hc5, hf5⟩
            rw [hb0.out]
            rw [hb1.out] at hc5
            have X5 := hide (X4.out.same (hf5.block _ z4 (by omega) V3.out))
            have z5 := hf5.size
            have C5 := hide hc5
            have F5 := hide (F4.out.trans hf5)
            clear hc5 hf5 C4 F4 X4
            go_wp2_with fail
            refine (take_any qn C5.out (by rw [List.length_take]; omega)).mono ?_
            rintro e w6 ⟨rfl, hr6, hc6, hf6⟩
            have z6 := hr6.lt
            have hY : Hid (((l.take en).drop (t + qn - qn)).take qn = X.drop (qn - qn)) := by
              show _ = _
              rw [← hX]
              exact last_piece _ _ _ _ hbq
            rw [hY.out] at hr6
            have hmt2 := hide (show t + qn - qn + qn = t + qn by omega)
            rw [hmt2.out, show max (t + qn) (t + qn) = t + qn by omega] at hc6
            have X6 := hide (X5.out.same (hf6.block _ (by omega) (by omega) V3.out))
            have C6 := hide hc6
            have F6 := hide (F5.out.trans hf6)
            have ml2 : (65536 : Nat) ≤ maxLen := by omega
            have sy6 : ∀ d, (convert 33 9 (.slice (some ⟨w5.heap.size, 0, none⟩) qn qn)).run Try.prog (w6.drewN d) = .ok (.string (mkB (X.drop (qn - qn)))) (w6.drewN d) := by
              intro d
              have := ((hr6.sl (by rw [List.length_drop, hXl.out]; omega)).below (below_drewN _ d _)).conv
              rw [List.length_drop, hXl.out, show qn - (qn - qn) = qn by omega] at this
              exact this
            have SX6 : Hid (SL w6 (.slice (some ⟨w3.heap.size, 0, none⟩) X.length X.length) X) := X6.out.sl (by rw [hXl.out]; omega)
            have sx6 : ∀ d, (convert 33 9 (.slice (some ⟨w3.heap.size, 0, none⟩) 0 0)).run Try.prog (w6.drewN d) = .ok (.string (mkB (X.drop (qn - qn)))) (w6.drewN d) := by
              intro d
              rw [Nat.sub_self, List.drop_zero]
              have := (SX6.out.below (below_drewN _ d _)).conv
              rw [hXl.out, hqz.out] at this
              exact this
            have own6 : Hid (∀ d, Own (w6.drewN d) (w.heap.size + 1) (.slice ga t gc) (l.take t)) := fun d => (A3.out.own.of (W1 := w6.drewN d) fun q hq hlt => F6.out.block q hlt (by have := (A3.out.own.row q hq).1; omega) (A3.out.sep q hq))
            have hX' := hide hX
            clear hr6 hc6 hf6 C5 F5 X5 hX
            have hnew : Hid (∀ d j u, (bcs X)[j]? = some u → (w6.drewN d).cell? ((⟨w3.heap.size, 0, none⟩ : Addr).add j) = some u) := fun d => (SX6.out.below (below_drewN _ d _)).news
            have htl := hide (show (l.take t).length + qn ≤ 200000 by rw [List.length_take]; omega)
            have hBz := hide (show w.heap.size + 1 ≤ w6.heap.size by omega)
            have hwq : IntKind.i64.wrap ((qn : Int) - (qn : Int)) = ((qn - qn : Nat) : Int) := by rw [IntKind.wrap_i64] <;> omega
            have hcq : qn - (qn - qn) = qn := by omega
            have hwz : IntKind.i64.wrap 0 = 0 := rfl
            have hq0 := hqz.out
            subst hq0
            go_wp2_with fail
            go_quiet (fail)
            go_wp2_with (at_builtin; refine app_at rfl (.tmp 120) (.tmp 121) rfl (w.heap.size + 1) _ (l.take t) rfl (own6.out _) ⟨w3.heap.size, 0, none⟩ 0 0 X rfl hXl.out (hnew.out _) htl.out hBz.out ?_; intro gv7 w7 ho7 hg7 hat7; obtain ⟨a7, c7, hv7, _, _⟩ := ho7.out.sl.len; rw [List.length_append, List.length_take, hXl.out, show min t l.length + 0 = t + 0 by omega] at hv7; subst hv7)
            refine ⟨⟨en, t + 0, k + 1, a7, c7, v3, g3, rfl, rfl, by go_num, by omega, hlast2.out, ?_⟩, by simp [intOf]; omega⟩
            show Al _ _ _ _ _ _ _ _
            refine A3.out.got (by omega) (C6.out.dn _) (F6.out.then (below_drewN _ _ _)) ?_ hg7.out hat7.out
            rw [hX'.out]
            exact ho7.out
          · have hm1 : (qn : Int) < 16 := by omega
            have hb0 := hide (show backR (t + qn) (t + qn) (qn : Int) = 0 by unfold backR; rw [if_neg (by omega), if_neg (by omega)])
            have hb1 := hide (show backT (t + qn) (t + qn) (qn : Int) = t + qn - qn by unfold backT; rw [hb0.out]; simp)
            have hbq : qn ≤ qn := by omega
            go_wp2_with (first
              | (go_at_call 11; refine ct.out.mono ?_; rintro e w2 ⟨rfl, m2, rfl⟩; have A2 := hide (A.out.then (below_drewN _ m2 _)); have hsl2 := hide (hsl.out m2))
              | (go_at_call 12; refine (feed_any _ _ A2.out.sr.ch hsl2.out (by rw [List.length_take, List.length_drop, List.length_take]; omega) (hsep.out v (fun k hk => (A2.out.sr.ch.own.row k hk).1))).mono ?_; rintro e w3 ⟨rfl, v3, g3, hc3, hf3, ho3⟩; have A3 := hide (A2.out.fed hle1 hle2 hc3 hf3 ho3); clear hc3 hf3 ho3; have hyc3 := (A3.out.sr.below.cell (p := a1.add k) (by rw [add_block]; exact hyb)).trans hyc))
            have z3 := A3.out.sr.lt
            have V3 : Hid (v3.ownBlock ≠ some w3.heap.size) := fun e => absurd (A3.out.sr.ch.own.row _ e).2 (Nat.lt_irrefl _)
            refine (take_any qn A3.out.sr.ch (by rw [List.length_take]; omega)).mono ?_
            rintro e w4 ⟨rfl, hr4, hc4, hf4⟩
            obtain ⟨X, hX⟩ : ∃ X, ((l.take en).drop t).take qn = X := ⟨_, rfl⟩
            have hXl := hide (show X.length = qn by rw [← hX, List.length_take, List.length_drop, List.length_take]; omega)
            rw [hX] at hr4
            rw [hmt.out] at hc4
            have X4 := hide hr4
            have z4 := hr4.lt
            have C4 := hide hc4
            have F4 := hide hf4
            clear hr4 hc4 hf4
            go_wp2_with fail
            refine (back_any (qn : Int) (by omega) (by omega) C4.out).mono ?_
            rintro e w5 ⟨rfl, hc5, hf5⟩
            rw [hb0.out]
            rw [hb1.out] at hc5
            have X5 := hide (X4.out.same (hf5.block _ z4 (by omega) V3.out))
            have z5 := hf5.size
            have C5 := hide hc5
            have F5 := hide (F4.out.trans hf5)
            clear hc5 hf5 C4 F4 X4
            go_wp2_with fail
            refine (take_any qn C5.out (by rw [List.length_take]; omega)).mono ?_
            rintro e w6 ⟨rfl, hr6, hc6, hf6⟩
            have z6 := hr6.lt
            have hY : Hid (((l.take en).drop (t + qn - qn)).take qn = X.drop (qn - qn)) := by
              show _ = _
              rw [← hX]
              exact last_piece _ _ _ _ hbq
            rw [hY.out] at hr6
            have hmt2 := hide (show t + qn - qn + qn = t + qn by omega)
            rw [hmt2.out, show max (t + qn) (t + qn) = t + qn by omega] at hc6
            have X6 := hide (X5.out.same (hf6.block _ (by omega) (by omega) V3.out))
            have C6 := hide hc6
            have F6 := hide (F5.out.trans hf6)
            have ml2 : (65536 : Nat) ≤ maxLen := by omega
            have sy6 : ∀ d, (convert 33 9 (.slice (some ⟨w5.heap.size, 0, none⟩) qn qn)).run Try.prog (w6.drewN d) = .ok (.string (mkB (X.drop (qn - qn)))) (w6.drewN d) := by
              intro d
              have := ((hr6.sl (by rw [List.length_drop, hXl.out]; omega)).below (below_drewN _ d _)).conv
              rw [List.length_drop, hXl.out, show qn - (qn - qn) = qn by omega] at this
              exact this
            have SX6 : Hid (SL w6 (.slice (some ⟨w3.heap.size, 0, none⟩) X.length X.length) X) := X6.out.sl (by rw [hXl.out]; omega)
            have sx6 : ∀ d, (convert 33 9 (.slice (some ⟨w3.heap.size, 0, none⟩) qn qn)).run Try.prog (w6.drewN d) = .ok (.string (mkB (X.drop (qn - qn)))) (w6.drewN d) := by
              intro d
              rw [Nat.sub_self, List.drop_zero]
              have := (SX6.out.below (below_drewN _ d _)).conv
              rw [hXl.out] at this
              exact this
            have own6 : Hid (∀ d, Own (w6.drewN d) (w.heap.size + 1) (.slice ga t gc) (l.take t)) := fun d => (A3.out.own.of (W1 := w6.drewN d) fun q hq hlt => F6.out.block q hlt (by have := (A3.out.own.row q hq).1; omega) (A3.out.sep q hq))
            have hX' := hide hX
            clear hr6 hc6 hf6 C5 F5 X5 hX
            have hnew : Hid (∀ d j u, (bcs X)[j]? = some u → (w6.drewN d).cell? ((⟨w3.heap.size, 0, none⟩ : Addr).add j) = some u) := fun d => (SX6.out.below (below_drewN _ d _)).news
            have htl := hide (show (l.take t).length + qn ≤ 200000 by rw [List.length_take]; omega)
            have hBz := hide (show w.heap.size + 1 ≤ w6.heap.size by omega)
            have hwq : IntKind.i64.wrap ((qn : Int) - (qn : Int)) = ((qn - qn : Nat) : Int) := by rw [IntKind.wrap_i64] <;> omega
            have hcq : qn - (qn - qn) = qn := by omega
            have hwz : IntKind.i64.wrap 0 = 0 := rfl
            go_wp2_with fail
            go_quiet (fail)
            go_wp2_with (at_builtin; refine app_at rfl (.tmp 120) (.tmp 121) rfl (w.heap.size + 1) _ (l.take t) rfl (own6.out _) ⟨w3.heap.size, 0, none⟩ qn qn X rfl hXl.out (hnew.out _) htl.out hBz.out ?_; intro gv7 w7 ho7 hg7 hat7; obtain ⟨a7, c7, hv7, _, _⟩ := ho7.out.sl.len; rw [List.length_append, List.length_take, hXl.out, show min t l.length + qn = t + qn by omega] at hv7; subst hv7)
            refine ⟨⟨en, t + qn, k + 1, a7, c7, v3, g3, rfl, rfl, by go_num, by omega, hlast2.out, ?_⟩, by simp [intOf]; omega⟩
            show Al _ _ _ _ _ _ _ _
            refine A3.out.got (by omega) (C6.out.dn _) (F6.out.then (below_drewN _ _ _)) ?_ hg7.out hat7.out
            rw [hX'.out]
            exact ho7.out
          · have hm1 : ¬ ((qn : Int) < 16) := by omega
            have hm2 : ¬ ((qn : Int) ≤ 16) := by omega
            have hb0 := hide (show backR (t + qn) (t + qn) 16 = 0 by unfold backR; rw [if_neg (by omega), if_neg (by omega)])
            have hb1 := hide (show backT (t + qn) (t + qn) 16 = t + qn - 16 by unfold backT; rw [hb0.out]; simp)
            have hbq : 16 ≤ qn := by omega
            go_wp2_with (first
              | (go_at_call 11; refine ct.out.mono ?_; rintro e w2 ⟨rfl, m2, rfl⟩; have A2 := hide (A.out.then (below_drewN _ m2 _)); have hsl2 := hide (hsl.out m2))
              | (go_at_call 12; refine (feed_any _ _ A2.out.sr.ch hsl2.out (by rw [List.length_take, List.length_drop, List.length_take]; omega) (hsep.out v (fun k hk => (A2.out.sr.ch.own.row k hk).1))).mono ?_; rintro e w3 ⟨rfl, v3, g3, hc3, hf3, ho3⟩; have A3 := hide (A2.out.fed hle1 hle2 hc3 hf3 ho3); clear hc3 hf3 ho3; have hyc3 := (A3.out.sr.below.cell (p := a1.add k) (by rw [add_block]; exact hyb)).trans hyc))
            have z3 := A3.out.sr.lt
            have V3 : Hid (v3.ownBlock ≠ some w3.heap.size) := fun e => absurd (A3.out.sr.ch.own.row _ e).2 (Nat.lt_irrefl _)
            refine (take_any qn A3.out.sr.ch (by rw [List.length_take]; omega)).mono ?_
            rintro e w4 ⟨rfl, hr4, hc4, hf4⟩
            obtain ⟨X, hX⟩ : ∃ X, ((l.take en).drop t).take qn = X := ⟨_, rfl⟩
            have hXl := hide (show X.length = qn by rw [← hX, List.length_take, List.length_drop, List.length_take]; omega)
            rw [hX] at hr4
            rw [hmt.out] at hc4
            have X4 := hide hr4
            have z4 := hr4.lt
            have C4 := hide hc4
            have F4 := hide hf4
            clear hr4 hc4 hf4
            go_wp2_with fail
            refine (back_any 16 (by omega) (by omega) C4.out).mono ?_
            rintro e w5 ⟨rfl, hc5, hf5⟩
            rw [hb0.out]
            rw [hb1.out] at hc5
            have X5 := hide (X4.out.same (hf5.block _ z4 (by omega) V3.out))
            have z5 := hf5.size
            have C5 := hide hc5
            have F5 := hide (F4.out.trans hf5)
            clear hc5 hf5 C4 F4 X4
            go_wp2_with fail
            refine (take_any 16 C5.out (by rw [List.length_take]; omega)).mono ?_
            rintro e w6 ⟨rfl, hr6, hc6, hf6⟩
            have z6 := hr6.lt
            have hY : Hid (((l.take en).drop (t + qn - 16)).take 16 = X.drop (qn - 16)) := by
              show _ = _
              rw [← hX]
              exact last_piece _ _ _ _ hbq
            rw [hY.out] at hr6
            have hmt2 := hide (show t + qn - 16 + 16 = t + qn by omega)
            rw [hmt2.out, show max (t + qn) (t + qn) = t + qn by omega] at hc6
            have X6 := hide (X5.out.same (hf6.block _ (by omega) (by omega) V3.out))
            have C6 := hide hc6
            have F6 := hide (F5.out.trans hf6)
            have ml2 : (65536 : Nat) ≤ maxLen := by omega
            have sy6 : ∀ d, (convert 33 9 (.slice (some ⟨w5.heap.size, 0, none⟩) 16 16)).run Try.prog (w6.drewN d) = .ok (.string (mkB (X.drop (qn - 16)))) (w6.drewN d) := by
              intro d
              have := ((hr6.sl (by rw [List.length_drop, hXl.out]; omega)).below (below_drewN _ d _)).conv
              rw [List.length_drop, hXl.out, show qn - (qn - 16) = 16 by omega] at this
              exact this
            have SX6 : Hid (SL w6 (.slice (some ⟨w3.heap.size, 0, none⟩) X.length X.length) X) := X6.out.sl (by rw [hXl.out]; omega)
            have sx6 : ∀ d, (convert 33 9 (.slice (some ⟨w3.heap.size, qn - 16, none⟩) 16 16)).run Try.prog (w6.drewN d) = .ok (.string (mkB (X.drop (qn - 16)))) (w6.drewN d) := by
              intro d
              have h := ((SX6.out.piece (qn - 16) qn (by omega) (by rw [hXl.out]; exact Nat.le_refl _)).below (below_drewN _ d _)).conv
              rw [add_z, hXl.out, show qn - (qn - 16) = 16 by omega, List.take_of_length_le (by rw [List.length_drop, hXl.out]; omega)] at h
              exact h
            have own6 : Hid (∀ d, Own (w6.drewN d) (w.heap.size + 1) (.slice ga t gc) (l.take t)) := fun d => (A3.out.own.of (W1 := w6.drewN d) fun q hq hlt => F6.out.block q hlt (by have := (A3.out.own.row q hq).1; omega) (A3.out.sep q hq))
            have hX' := hide hX
            clear hr6 hc6 hf6 C5 F5 X5 hX
            have hnew : Hid (∀ d j u, (bcs X)[j]? = some u → (w6.drewN d).cell? ((⟨w3.heap.size, 0, none⟩ : Addr).add j) = some u) := fun d => (SX6.out.below (below_drewN _ d _)).news
            have htl := hide (show (l.take t).length + qn ≤ 200000 by rw [List.length_take]; omega)
            have hBz := hide (show w.heap.size + 1 ≤ w6.heap.size by omega)
            have hwq : IntKind.i64.wrap ((qn : Int) - 16) = ((qn - 16 : Nat) : Int) := by rw [IntKind.wrap_i64] <;> omega
            have hcq : qn - (qn - 16) = 16 := by omega
            have hnz : ¬ (qn = qn - 16) := by omega
            have hnz2 : ¬ (qn - (qn - 16) = 0) := by omega
            have hnz3 : qn - 16 ≤ qn := by omega
            go_wp2_with fail
            go_quiet (fail)
            go_wp2_with (at_builtin; refine app_at rfl (.tmp 120) (.tmp 121) rfl (w.heap.size + 1) _ (l.take t) rfl (own6.out _) ⟨w3.heap.size, 0, none⟩ qn qn X rfl hXl.out (hnew.out _) htl.out hBz.out ?_; intro gv7 w7 ho7 hg7 hat7; obtain ⟨a7, c7, hv7, _, _⟩ := ho7.out.sl.len; rw [List.length_append, List.length_take, hXl.out, show min t l.length + qn = t + qn by omega] at hv7; subst hv7)
            refine ⟨⟨en, t + qn, k + 1, a7, c7, v3, g3, rfl, rfl, by go_num, by omega, hlast2.out, ?_⟩, by simp [intOf]; omega⟩
            show Al _ _ _ _ _ _ _ _
            refine A3.out.got (by omega) (C6.out.dn _) (F6.out.then (below_drewN _ _ _)) ?_ hg7.out hat7.out
            rw [hX'.out]
            exact ho7.out
          · have hm1 : ¬ ((qn : Int) < 16) := by omega
            have hm2 : (qn : Int) ≤ 16 := by omega
            replace hqz := hide hqz
            have hb0 := hide (show backR (t + qn) (t + qn) (qn : Int) = 0 by unfold backR; rw [if_neg (by omega), if_neg (by omega)])
            have hb1 := hide (show backT (t + qn) (t + qn) (qn : Int) = t + qn - qn by unfold backT; rw [hb0.out]; simp)
            have hbq : qn ≤ qn := by omega
            go_wp2_with (first
              | (go_at_call 11; refine ct.out.mono ?_; rintro e w2 ⟨rfl, m2, rfl⟩; have A2 := hide (A.out.then (below_drewN _ m2 _)); have hsl2 := hide (hsl.out m2))
              | (go_at_call 12; refine (feed_any _ _ A2.out.sr.ch hsl2.out (by rw [List.length_take, List.length_drop, List.length_take]; omega) (hsep.out v (fun k hk => (A2.out.sr.ch.own.row k hk).1))).mono ?_; rintro e w3 ⟨rfl, v3, g3, hc3, hf3, ho3⟩; have A3 := hide (A2.out.fed hle1 hle2 hc3 hf3 ho3); clear hc3 hf3 ho3; have hyc3 := (A3.out.sr.below.cell (p := a1.add k) (by rw [add_block]; exact hyb)).trans hyc))
            have z3 := A3.out.sr.lt
            have V3 : Hid (v3.ownBlock ≠ some w3.heap.size) := fun e => absurd (A3.out.sr.ch.own.row _ e).2 (Nat.lt_irrefl _)
            refine (take_any qn A3.out.sr.ch (by rw [List.length_take]; omega)).mono ?_
            rintro e w4 ⟨rfl, hr4, hc4, hf4⟩
            obtain ⟨X, hX⟩ : ∃ X, ((l.take en).drop t).take qn = X := ⟨_, rfl⟩
            have hXl := hide (show X.length = qn by rw [← hX, List.length_take, List.length_drop, List.length_take]; omega)
            rw [hX] at hr4
            rw [hmt.out] at hc4
            have X4 := hide hr4
            have z4 := hr4.lt
            have C4 := hide hc4
            have F4 := hide hf4
            clear hr4 hc4 hf4
            go_wp2_with fail
            refine (back_any (qn : Int) (by omega) (by omega) C4.out).mono ?_
            rintro e w5 ⟨rfl, hc5, hf5⟩
            rw [hb0.out]
            rw [hb1.out] at hc5
            have X5 := hide (X4.out.same (hf5.block _ z4 (by omega) V3.out))
            have z5 := hf5.size
            have C5 := hide hc5
            have F5 := hide (F4.out.trans hf5)
            clear hc5 hf5 C4 F4 X4
            go_wp2_with fail
            refine (take_any qn C5.out (by rw [List.length_take]; omega)).mono ?_
            rintro e w6 ⟨rfl, hr6, hc6, hf6⟩
            have z6 := hr6.lt
            have hY : Hid (((l.take en).drop (t + qn - qn)).take qn = X.drop (qn - qn)) := by
              show _ = _
              rw [← hX]
              exact last_piece _ _ _ _ hbq
            rw [hY.out] at hr6
            have hmt2 := hide (show t + qn - qn + qn = t + qn by omega)
            rw [hmt2.out, show max (t + qn) (t + qn) = t + qn by omega] at hc6
            have X6 := hide (X5.out.same (hf6.block _ (by omega) (by omega) V3.out))
            have C6 := hide hc6
            have F6 := hide (F5.out.trans hf6)
            have ml2 : (65536 : Nat) ≤ maxLen := by omega
            have sy6 : ∀ d, (convert 33 9 (.slice (some ⟨w5.heap.size, 0, none⟩) qn qn)).run Try.prog (w6.drewN d) = .ok (.string (mkB (X.drop (qn - qn)))) (w6.drewN d) := by
              intro d
              have := ((hr6.sl (by rw [List.length_drop, hXl.out]; omega)).below (below_drewN _ d _)).conv
              rw [List.length_drop, hXl.out, show qn - (qn - qn) = qn by omega] at this
              exact this
            have SX6 : Hid (SL w6 (.slice (some ⟨w3.heap.size, 0, none⟩) X.length X.length) X) := X6.out.sl (by rw [hXl.out]; omega)
            have sx6 : ∀ d, (convert 33 9 (.slice (some ⟨w3.heap.size, 0, none⟩) qn qn)).run Try.prog (w6.drewN d) = .ok (.string (mkB (X.drop (qn - qn)))) (w6.drewN d) := by
              intro d
              rw [Nat.sub_self, List.drop_zero]
              have := (SX6.out.below (below_drewN _ d _)).conv
              rw [hXl.out] at this
              exact this
            have own6 : Hid (∀ d, Own (w6.drewN d) (w.heap.size + 1) (.slice ga t gc) (l.take t)) := fun d => (A3.out.own.of (W1 := w6.drewN d) fun q hq hlt => F6.out.block q hlt (by have := (A3.out.own.row q hq).1; omega) (A3.out.sep q hq))
            have hX' := hide hX
            clear hr6 hc6 hf6 C5 F5 X5 hX
            have hnew : Hid (∀ d j u, (bcs X)[j]? = some u → (w6.drewN d).cell? ((⟨w3.heap.size, 0, none⟩ : Addr).add j) = some u) := fun d => (SX6.out.below (below_drewN _ d _)).news
            have htl := hide (show (l.take t).length + qn ≤ 200000 by rw [List.length_take]; omega)
            have hBz := hide (show w.heap.size + 1 ≤ w6.heap.size by omega)
            have hwq : IntKind.i64.wrap ((qn : Int) - (qn : Int)) = ((qn - qn : Nat) : Int) := by rw [IntKind.wrap_i64] <;> omega
            have hcq : qn - (qn - qn) = qn := by omega
            have hwz : IntKind.i64.wrap 0 = 0 := rfl
            go_wp2_with fail
            go_quiet (fail)
            go_wp2_with (at_builtin; refine app_at rfl (.tmp 120) (.tmp 121) rfl (w.heap.size + 1) _ (l.take t) rfl (own6.out _) ⟨w3.heap.size, 0, none⟩ qn qn X rfl hXl.out (hnew.out _) htl.out hBz.out ?_; intro gv7 w7 ho7 hg7 hat7; obtain ⟨a7, c7, hv7, _, _⟩ := ho7.out.sl.len; rw [List.length_append, List.length_take, hXl.out, show min t l.length + qn = t + qn by omega] at hv7; subst hv7)
            refine ⟨⟨en, t + qn, k + 1, a7, c7, v3, g3, rfl, rfl, by go_num, by omega, hlast2.out, ?_⟩, by simp [intOf]; omega⟩
            show Al _ _ _ _ _ _ _ _
            refine A3.out.got (by omega) (C6.out.dn _) (F6.out.then (below_drewN _ _ _)) ?_ hg7.out hat7.out
            rw [hX'.out]
            exact ho7.out
        · have hky2 : (y.length : Int) ≤ (k : Int) := by omega
          have hky3 : y.length ≤ k := by omega
          go_wp2_with (first
            | (go_at_call 11; refine ct.out.mono ?_; rintro e w2 ⟨rfl, m2, rfl⟩; have A2 := hide (A.out.then (below_drewN _ m2 _)); have hsl2 := hide (hsl.out m2))
            | (go_at_call 12; refine (feed_any _ _ A2.out.sr.ch hsl2.out (by rw [List.length_take, List.length_drop, List.length_take]; omega) (hsep.out v (fun k hk => (A2.out.sr.ch.own.row k hk).1))).mono ?_; rintro e w3 ⟨rfl, v3, g3, hc3, hf3, ho3⟩; have A3 := hide (A2.out.fed hle1 hle2 hc3 hf3 ho3); clear hc3 hf3 ho3))
          refine ⟨⟨en, t, k + 1, ga, gc, v3, g3, rfl, rfl, by go_num, by omega, hlast2.out, A3.out⟩, by simp [intOf]; omega⟩
      · have hll : pos = l.length := by omega
        subst hll
        have hen0 : en = l.length := by omega
        subst hen0
        have hcc : l.length = c := by omega
        subst hcc
        have hsep : Hid (∀ v' : Value, (∀ k, v'.ownBlock = some k → w.heap.size + 1 ≤ k) → (l.drop l.length).take (l.length - l.length) ≠ [] → ∀ k, (Value.slice (some a0) 0 0).ownBlock = some k → k ≠ w.heap.size ∧ v'.ownBlock ≠ some k) := fun v' _ hne => absurd (by simp) hne
        have hsl : Hid (∀ d, SL (wr.drewN d) (.slice (some a0) 0 0) ((l.drop l.length).take (l.length - l.length))) := fun d => by rw [Nat.sub_self, List.take_zero]; exact Or.inr ⟨a0, 0, rfl, Nat.le_refl _, by decide, fun i hi => by simp at hi⟩
        by_cases hky : k < y.length
        · have hky1 : (k : Int) < (y.length : Int) := by omega
          have hky2 : ¬ ((y.length : Int) ≤ (k : Int)) := by omega
          have hky3 : ¬ (y.length ≤ k) := by omega
          obtain ⟨a1, c1, e1, _, _, hyc, hq1, hq2, hyb⟩ := sy.out.at k hky
          simp only [Value.slice.injEq] at e1
          obtain ⟨rfl, _, rfl⟩ := e1
          obtain ⟨q, hq⟩ : ∃ q, y[k] = q := ⟨_, rfl⟩
          rw [hq] at hyc hq1 hq2
          clear hq
          by_cases hq3 : q < 0
          · go_wp2_with (first
              | (go_at_call 11; refine ct.out.mono ?_; rintro e w2 ⟨rfl, m2, rfl⟩; have A2 := hide (A.out.then (below_drewN _ m2 _)); have hsl2 := hide (hsl.out m2))
              | (go_at_call 12; refine (feed_any _ _ A2.out.sr.ch hsl2.out (by rw [List.length_take, List.length_drop, List.length_take]; omega) (hsep.out v (fun k hk => (A2.out.sr.ch.own.row k hk).1))).mono ?_; rintro e w3 ⟨rfl, v3, g3, hc3, hf3, ho3⟩; have A3 := hide (A2.out.fed hle1 hle2 hc3 hf3 ho3); clear hc3 hf3 ho3; have hyc3 := (A3.out.sr.below.cell (p := a1.add k) (by rw [add_block]; exact hyb)).trans hyc))
            refine ⟨⟨l.length, t, k + 1, ga, gc, v3, g3, rfl, rfl, by go_num, by omega, (fun _ => rfl), A3.out⟩, by simp [intOf]; omega⟩
          by_cases hq4 : 1000 < q
          · go_wp2_with (first
              | (go_at_call 11; refine ct.out.mono ?_; rintro e w2 ⟨rfl, m2, rfl⟩; have A2 := hide (A.out.then (below_drewN _ m2 _)); have hsl2 := hide (hsl.out m2))
              | (go_at_call 12; refine (feed_any _ _ A2.out.sr.ch hsl2.out (by rw [List.length_take, List.length_drop, List.length_take]; omega) (hsep.out v (fun k hk => (A2.out.sr.ch.own.row k hk).1))).mono ?_; rintro e w3 ⟨rfl, v3, g3, hc3, hf3, ho3⟩; have A3 := hide (A2.out.fed hle1 hle2 hc3 hf3 ho3); clear hc3 hf3 ho3; have hyc3 := (A3.out.sr.below.cell (p := a1.add k) (by rw [add_block]; exact hyb)).trans hyc))
            refine ⟨⟨l.length, t, k + 1, ga, gc, v3, g3, rfl, rfl, by go_num, by omega, (fun _ => rfl), A3.out⟩, by simp [intOf]; omega⟩
          obtain ⟨qn, rfl⟩ := Int.eq_ofNat_of_zero_le (show 0 ≤ q by omega)
          by_cases hq5 : l.length - t < qn
          · go_wp2_with (first
              | (go_at_call 11; refine ct.out.mono ?_; rintro e w2 ⟨rfl, m2, rfl⟩; have A2 := hide (A.out.then (below_drewN _ m2 _)); have hsl2 := hide (hsl.out m2))
              | (go_at_call 12; refine (feed_any _ _ A2.out.sr.ch hsl2.out (by rw [List.length_take, List.length_drop, List.length_take]; omega) (hsep.out v (fun k hk => (A2.out.sr.ch.own.row k hk).1))).mono ?_; rintro e w3 ⟨rfl, v3, g3, hc3, hf3, ho3⟩; have A3 := hide (A2.out.fed hle1 hle2 hc3 hf3 ho3); clear hc3 hf3 ho3; have hyc3 := (A3.out.sr.below.cell (p := a1.add k) (by rw [add_block]; exact hyb)).trans hyc; have tk := hide (take_no qn A3.out.sr.ch (Or.inr (by rw [List.length_take]; omega))))
              | (go_at_call 13; refine tk.out.mono ?_; rintro e w4 ⟨rfl, m4, rfl⟩; have A4 := hide (A3.out.then (below_drewN _ m4 _))))
            refine ⟨⟨l.length, t, k + 1, ga, gc, v3, g3, rfl, rfl, by go_num, by omega, (fun _ => rfl), A4.out⟩, by simp [intOf]; omega⟩
          have hmt := hide (show max t (t + qn) = t + qn by omega)
          rcases (show qn = 0 ∨ (0 < qn ∧ qn < 16) ∨ 16 < qn ∨ qn = 16 by omega) with hqz | hqz | hqz | hqz
          · have hm1 : (qn : Int) < 16 := by omega
            replace hqz := hide hqz
            have hb0 := hide (show backR (t + qn) (t + qn) (qn : Int) = 0 by unfold backR; rw [if_neg (by omega), if_neg (by omega)])
            have hb1 := hide (show backT (t + qn) (t + qn) (qn : Int) = t + qn - qn by unfold backT; rw [hb0.out]; simp)
            have hbq : qn ≤ qn := by omega
            go_wp2_with (first
              | (go_at_call 11; refine ct.out.mono ?_; rintro e w2 ⟨rfl, m2, rfl⟩; have A2 := hide (A.out.then (below_drewN _ m2 _)); have hsl2 := hide (hsl.out m2))
              | (go_at_call 12; refine (feed_any _ _ A2.out.sr.ch hsl2.out (by rw [List.length_take, List.length_drop, List.length_take]; omega) (hsep.out v (fun k hk => (A2.out.sr.ch.own.row k hk).1))).mono ?_; rintro e w3 ⟨rfl, v3, g3, hc3, hf3, ho3⟩; have A3 := hide (A2.out.fed hle1 hle2 hc3 hf3 ho3); clear hc3 hf3 ho3; have hyc3 := (A3.out.sr.below.cell (p := a1.add k) (by rw [add_block]; exact hyb)).trans hyc))
            have z3 := A3.out.sr.lt
            have V3 : Hid (v3.ownBlock ≠ some w3.heap.size) := fun e => absurd (A3.out.sr.ch.own.row _ e).2 (Nat.lt_irrefl _)
            refine (take_any qn A3.out.sr.ch (by rw [List.length_take]; omega)).mono ?_
            rintro e w4 ⟨rfl, hr4, hc4, hf4⟩
            obtain ⟨X, hX⟩ : ∃ X, ((l.take l.length).drop t).take qn = X := ⟨_, rfl⟩
            have hXl := hide (show X.length = qn by rw [← hX, List.length_take, List.length_drop, List.length_take]; omega)
            rw [hX] at hr4
            rw [hmt.out] at hc4
            have X4 := hide hr4
            have z4 := hr4.lt
            have C4 := hide hc4
            have F4 := hide hf4
            clear hr4 hc4 hf4
            go_wp2_with fail
            refine (back_any (qn : Int) (by omega) (by omega) C4.out).mono ?_
            rintro e w5 ⟨rfl, hc5, hf5⟩
            rw [hb0.out]
            rw [hb1.out] at hc5
            have X5 := hide (X4.out.same (hf5.block _ z4 (by omega) V3.out))
            have z5 := hf5.size
            have C5 := hide hc5
            have F5 := hide (F4.out.trans hf5)
            clear hc5 hf5 C4 F4 X4
            go_wp2_with fail
            refine (take_any qn C5.out (by rw [List.length_take]; omega)).mono ?_
            rintro e w6 ⟨rfl, hr6, hc6, hf6⟩
            have z6 := hr6.lt
            have hY : Hid (((l.take l.length).drop (t + qn - qn)).take qn = X.drop (qn - qn)) := by
              show _ = _
              rw [← hX]
              exact last_piece _ _ _ _ hbq
            rw [hY.out] at hr6
            have hmt2 := hide (show t + qn - qn + qn = t + qn by omega)
            rw [hmt2.out, show max (t + qn) (t + qn) = t + qn by omega] at hc6
            have X6 := hide (X5.out.same (hf6.block _ (by omega) (by omega) V3.out))
            have C6 := hide hc6
            have F6 := hide (F5.out.trans hf6)
            have ml2 : (65536 : Nat) ≤ maxLen := by omega
            have sy6 : ∀ d, (convert 33 9 (.slice (some ⟨w5.heap.size, 0, none⟩) qn qn)).run Try.prog (w6.drewN d) = .ok (.string (mkB (X.drop (qn - qn)))) (w6.drewN d) := by
              intro d
              have := ((hr6.sl (by rw [List.length_drop, hXl.out]; omega)).below (below_drewN _ d _)).conv
              rw [List.length_drop, hXl.out, show qn - (qn - qn) = qn by omega] at this
              exact this
            have SX6 : Hid (SL w6 (.slice (some ⟨w3.heap.size, 0, none⟩) X.length X.length) X) := X6.out.sl (by rw [hXl.out]; omega)
            have sx6 : ∀ d, (convert 33 9 (.slice (some ⟨w3.heap.size, 0, none⟩) 0 0)).run Try.prog (w6.drewN d) = .ok (.string (mkB (X.drop (qn - qn)))) (w6.drewN d) := by
              intro d
              rw [Nat.sub_self, List.drop_zero]
              have := (SX6.out.below (below_drewN _ d _)).conv
              rw [hXl.out, hqz.out] at this
              exact this
            have own6 : Hid (∀ d, Own (w6.drewN d) (w.heap.size + 1) (.slice ga t gc) (l.take t)) := fun d => (A3.out.own.of (W1 := w6.drewN d) fun q hq hlt => F6.out.block q hlt (by have := (A3.out.own.row q hq).1; omega) (A3.out.sep q hq))
            have hX' := hide hX
            clear hr6 hc6 hf6 C5 F5 X5 hX
            have hnew : Hid (∀ d j u, (bcs X)[j]? = some u → (w6.drewN d).cell? ((⟨w3.heap.size, 0, none⟩ : Addr).add j) = some u) := fun d => (SX6.out.below (below_drewN _ d _)).news
            have htl := hide (show (l.take t).length + qn ≤ 200000 by rw [List.length_take]; omega)
            have hBz := hide (show w.heap.size + 1 ≤ w6.heap.size by omega)
            have hwq : IntKind.i64.wrap ((qn : Int) - (qn : Int)) = ((qn - qn : Nat) : Int) := by rw [IntKind.wrap_i64] <;> omega
            have hcq : qn - (qn - qn) = qn := by omega
            have hwz : IntKind.i64.wrap 0 = 0 := rfl
            have hq0 := hqz.out
            subst hq0
            go_wp2_with fail
            go_quiet (fail)
            go_wp2_with (at_builtin; refine app_at rfl (.tmp 120) (.tmp 121) rfl (w.heap.size + 1) _ (l.take t) rfl (own6.out _) ⟨w3.heap.size, 0, none⟩ 0 0 X rfl hXl.out (hnew.out _) htl.out hBz.out ?_; intro gv7 w7 ho7 hg7 hat7; obtain ⟨a7, c7, hv7, _, _⟩ := ho7.out.sl.len; rw [List.length_append, List.length_take, hXl.out, show min t l.length + 0 = t + 0 by omega] at hv7; subst hv7)
            refine ⟨⟨l.length, t + 0, k + 1, a7, c7, v3, g3, rfl, rfl, by go_num, by omega, (fun _ => rfl), ?_⟩, by simp [intOf]; omega⟩
            show Al _ _ _ _ _ _ _ _
            refine A3.out.got (by omega) (C6.out.dn _) (F6.out.then (below_drewN _ _ _)) ?_ hg7.out hat7.out
            rw [hX'.out]
            exact ho7.out
          · have hm1 : (qn : Int) < 16 := by omega
            have hb0 := hide (show backR (t + qn) (t + qn) (qn : Int) = 0 by unfold backR; rw [if_neg (by omega), if_neg (by omega)])
            have hb1 := hide (show backT (t + qn) (t + qn) (qn : Int) = t + qn - qn by unfold backT; rw [hb0.out]; simp)
            have hbq : qn ≤ qn := by omega
            go_wp2_with (first
              | (go_at_call 11; refine ct.out.mono ?_; rintro e w2 ⟨rfl, m2, rfl⟩; have A2 := hide (A.out.then (below_drewN _ m2 _)); have hsl2 := hide (hsl.out m2))
              | (go_at_call 12; refine (feed_any _ _ A2.out.sr.ch hsl2.out (by rw [List.length_take, List.length_drop, List.length_take]; omega) (hsep.out v (fun k hk => (A2.out.sr.ch.own.row k hk).1))).mono ?_; rintro e w3 ⟨rfl, v3, g3, hc3, hf3, ho3⟩; have A3 := hide (A2.out.fed hle1 hle2 hc3 hf3 ho3); clear hc3 hf3 ho3; have hyc3 := (A3.out.sr.below.cell (p := a1.add k) (by rw [add_block]; exact hyb)).trans hyc))
            have z3 := A3.out.sr.lt
            have V3 : Hid (v3.ownBlock ≠ some w3.heap.size) := fun e => absurd (A3.out.sr.ch.own.row _ e).2 (Nat.lt_irrefl _)
            refine (take_any qn A3.out.sr.ch (by rw [List.length_take]; omega)).mono ?_
            rintro e w4 ⟨rfl, hr4, hc4, hf4⟩
            obtain ⟨X, hX⟩ : ∃ X, ((l.take l.length).drop t).take qn = X := ⟨_, rfl⟩
            have hXl := hide (show X.length = qn by rw [← hX, List.length_take, List.length_drop, List.length_take]; omega)
            rw [hX] at hr4
            rw [hmt.out] at hc4
            have X4 := hide hr4
            have z4 := hr4.lt
            have C4 := hide hc4
            have F4 := hide hf4
            clear hr4 hc4 hf4
            go_wp2_with fail
            refine (back_any (qn : Int) (by omega) (by omega) C4.out).mono ?_
            rintro e w5 ⟨rfl, hc5, hf5⟩
            rw [hb0.out]
            rw [hb1.out] at hc5
            have X5 := hide (X4.out.same (hf5.block _ z4 (by omega) V3.out))
            have z5 := hf5.size
            have C5 := hide hc5
            have F5 := hide (F4.out.trans hf5)
            clear hc5 hf5 C4 F4 X4
            go_wp2_with fail
            refine (take_any qn C5.out (by rw [List.length_take]; omega)).mono ?_
            rintro e w6 ⟨rfl, hr6, hc6, hf6⟩
            have z6 := hr6.lt
            have hY : Hid (((l.take l.length).drop (t + qn - qn)).take qn = X.drop (qn - qn)) := by
              show _ = _
              rw [← hX]
              exact last_piece _ _ _ _ hbq
            rw [hY.out] at hr6
            have hmt2 := hide (show t + qn - qn + qn = t + qn by omega)
            rw [hmt2.out, show max (t + qn) (t + qn) = t + qn by omega] at hc6
            have X6 := hide (X5.out.same (hf6.block _ (by omega) (by omega) V3.out))
            have C6 := hide hc6
            have F6 := hide (F5.out.trans hf6)
            have ml2 : (65536 : Nat) ≤ maxLen := by omega
            have sy6 : ∀ d, (convert 33 9 (.slice (some ⟨w5.heap.size, 0, none⟩) qn qn)).run Try.prog (w6.drewN d) = .ok (.string (mkB (X.drop (qn - qn)))) (w6.drewN d) := by
              intro d
              have := ((hr6.sl (by rw [List.length_drop, hXl.out]; omega)).below (below_drewN _ d _)).conv
              rw [List.length_drop, hXl.out, show qn - (qn - qn) = qn by omega] at this
              exact this
            have SX6 : Hid (SL w6 (.slice (some ⟨w3.heap.size, 0, none⟩) X.length X.length) X) := X6.out.sl (by rw [hXl.out]; omega)
            have sx6 : ∀ d, (convert 33 9 (.slice (some ⟨w3.heap.size, 0, none⟩) qn qn)).run Try.prog (w6.drewN d) = .ok (.string (mkB (X.drop (qn - qn)))) (w6.drewN d) := by
              intro d
              rw [Nat.sub_self, List.drop_zero]
              have := (SX6.out.below (below_drewN _ d _)).conv
              rw [hXl.out] at this
              exact this
            have own6 : Hid (∀ d, Own (w6.drewN d) (w.heap.size + 1) (.slice ga t gc) (l.take t)) := fun d => (A3.out.own.of (W1 := w6.drewN d) fun q hq hlt => F6.out.block q hlt (by have := (A3.out.own.row q hq).1; omega) (A3.out.sep q hq))
            have hX' := hide hX
            clear hr6 hc6 hf6 C5 F5 X5 hX
            have hnew : Hid (∀ d j u, (bcs X)[j]? = some u → (w6.drewN d).cell? ((⟨w3.heap.size, 0, none⟩ : Addr).add j) = some u) := fun d => (SX6.out.below (below_drewN _ d _)).news
            have htl := hide (show (l.take t).length + qn ≤ 200000 by rw [List.length_take]; omega)
            have hBz := hide (show w.heap.size + 1 ≤ w6.heap.size by omega)
            have hwq : IntKind.i64.wrap ((qn : Int) - (qn : Int)) = ((qn - qn : Nat) : Int) := by rw [IntKind.wrap_i64] <;> omega
            have hcq : qn - (qn - qn) = qn := by omega
            have hwz : IntKind.i64.wrap 0 = 0 := rfl
            go_wp2_with fail
            go_quiet (fail)
            go_wp2_with (at_builtin; refine app_at rfl (.tmp 120) (.tmp 121) rfl (w.heap.size + 1) _ (l.take t) rfl (own6.out _) ⟨w3.heap.size, 0, none⟩ qn qn X rfl hXl.out (hnew.out _) htl.out hBz.out ?_; intro gv7 w7 ho7 hg7 hat7; obtain ⟨a7, c7, hv7, _, _⟩ := ho7.out.sl.len; rw [List.length_append, List.length_take, hXl.out, show min t l.length + qn = t + qn by omega] at hv7; subst hv7)
            refine ⟨⟨l.length, t + qn, k + 1, a7, c7, v3, g3, rfl, rfl, by go_num, by omega, (fun _ => rfl), ?_⟩, by simp [intOf]; omega⟩
            show Al _ _ _ _ _ _ _ _
            refine A3.out.got (by omega) (C6.out.dn _) (F6.out.then (below_drewN _ _ _)) ?_ hg7.out hat7.out
            rw [hX'.out]
            exact ho7.out
          · have hm1 : ¬ ((qn : Int) < 16) := by omega
            have hm2 : ¬ ((qn : Int) ≤ 16) := by omega
            have hb0 := hide (show backR (t + qn) (t + qn) 16 = 0 by unfold backR; rw [if_neg (by omega), if_neg (by omega)])
            have hb1 := hide (show backT (t + qn) (t + qn) 16 = t + qn - 16 by unfold backT; rw [hb0.out]; simp)
            have hbq : 16 ≤ qn := by omega
            go_wp2_with (first
              | (go_at_call 11; refine ct.out.mono ?_; rintro e w2 ⟨rfl, m2, rfl⟩; have A2 := hide (A.out.then (below_drewN _ m2 _)); have hsl2 := hide (hsl.out m2))
              | (go_at_call 12; refine (feed_any _ _ A2.out.sr.ch hsl2.out (by rw [List.length_take, List.length_drop, List.length_take]; omega) (hsep.out v (fun k hk => (A2.out.sr.ch.own.row k hk).1))).mono ?_; rintro e w3 ⟨rfl, v3, g3, hc3, hf3, ho3⟩; have A3 := hide (A2.out.fed hle1 hle2 hc3 hf3 ho3); clear hc3 hf3 ho3; have hyc3 := (A3.out.sr.below.cell (p := a1.add k) (by rw [add_block]; exact hyb)).trans hyc))
            have z3 := A3.out.sr.lt
            have V3 : Hid (v3.ownBlock ≠ some w3.heap.size) := fun e => absurd (A3.out.sr.ch.own.row _ e).2 (Nat.lt_irrefl _)
            refine (take_any qn A3.out.sr.ch (by rw [List.length_take]; omega)).mono ?_
            rintro e w4 ⟨rfl, hr4, hc4, hf4⟩
            obtain ⟨X, hX⟩ : ∃ X, ((l.take l.length).drop t).take qn = X := ⟨_, rfl⟩
            have hXl := hide (show X.length = qn by rw [← hX, List.length_take, List.length_drop, List.length_take]; omega)
            rw [hX] at hr4
            rw [hmt.out] at hc4
            have X4 := hide hr4
            have z4 := hr4.lt
            have C4 := hide hc4
            have F4 := hide hf4
            clear hr4 hc4 hf4
            go_wp2_with fail
            refine (back_any 16 (by omega) (by omega) C4.out).mono ?_
            rintro e w5 ⟨rfl, hc5, hf5⟩
            rw [hb0.out]
            rw [hb1.out] at hc5
            have X5 := hide (X4.out.same (hf5.block _ z4 (by omega) V3.out))
            have z5 := hf5.size
            have C5 := hide hc5
            have F5 := hide (F4.out.trans hf5)
            clear hc5 hf5 C4 F4 X4
            go_wp2_with fail
            refine (take_any 16 C5.out (by rw [List.length_take]; omega)).mono ?_
            rintro e w6 ⟨rfl, hr6, hc6, hf6⟩
            have z6 := hr6.lt
            have hY : Hid (((l.take l.length).drop (t + qn - 16)).take 16 = X.drop (qn - 16)) := by
              show _ = _
              rw [← hX]
              exact last_piece _ _ _ _ hbq
            rw [hY.out] at hr6
            have hmt2 := hide (show t + qn - 16 + 16 = t + qn by omega)
            rw [hmt2.out, show max (t + qn) (t + qn) = t + qn by omega] at hc6
            have X6 := hide (X5.out.same (hf6.block _ (by omega) (by omega) V3.out))
            have C6 := hide hc6
            have F6 := hide (F5.out.trans hf6)
            have ml2 : (65536 : Nat) ≤ maxLen := by omega
            have sy6 : ∀ d, (convert 33 9 (.slice (some ⟨w5.heap.size, 0, none⟩) 16 16)).run Try.prog (w6.drewN d) = .ok (.string (mkB (X.drop (qn - 16)))) (w6.drewN d) := by
              intro d
              have := ((hr6.sl (by rw [List.length_drop, hXl.out]; omega)).below (below_drewN _ d _)).conv
              rw [List.length_drop, hXl.out, show qn - (qn - 16) = 16 by omega] at this
              exact this
            have SX6 : Hid (SL w6 (.slice (some ⟨w3.heap.size, 0, none⟩) X.length X.length) X) := X6.out.sl (by rw [hXl.out]; omega)
            have sx6 : ∀ d, (convert 33 9 (.slice (some ⟨w3.heap.size, qn - 16, none⟩) 16 16)).run Try.prog (w6.drewN d) = .ok (.string (mkB (X.drop (qn - 16)))) (w6.drewN d) := by
              intro d
              have h := ((SX6.out.piece (qn - 16) qn (by omega) (by rw [hXl.out]; exact Nat.le_refl _)).below (below_drewN _ d _)).conv
              rw [add_z, hXl.out, show qn - (qn - 16) = 16 by omega, List.take_of_length_le (by rw [List.length_drop, hXl.out]; omega)] at h
              exact h
            have own6 : Hid (∀ d, Own (w6.drewN d) (w.heap.size + 1) (.slice ga t gc) (l.take t)) := fun d => (A3.out.own.of (W1 := w6.drewN d) fun q hq hlt => F6.out.block q hlt (by have := (A3.out.own.row q hq).1; omega) (A3.out.sep q hq))
            have hX' := hide hX
            clear hr6 hc6 hf6 C5 F5 X5 hX
            have hnew : Hid (∀ d j u, (bcs X)[j]? = some u → (w6.drewN d).cell? ((⟨w3.heap.size, 0, none⟩ : Addr).add j) = some u) := fun d => (SX6.out.below (below_drewN _ d _)).news
            have htl := hide (show (l.take t).length + qn ≤ 200000 by rw [List.length_take]; omega)
            have hBz := hide (show w.heap.size + 1 ≤ w6.heap.size by omega)
            have hwq : IntKind.i64.wrap ((qn : Int) - 16) = ((qn - 16 : Nat) : Int) := by rw [IntKind.wrap_i64] <;> omega
            have hcq : qn - (qn - 16) = 16 := by omega
            have hnz : ¬ (qn = qn - 16) := by omega
            have hnz2 : ¬ (qn - (qn - 16) = 0) := by omega
            have hnz3 : qn - 16 ≤ qn := by omega
            go_wp2_with fail
            go_quiet (fail)
            go_wp2_with (at_builtin; refine app_at rfl (.tmp 120) (.tmp 121) rfl (w.heap.size + 1) _ (l.take t) rfl (own6.out _) ⟨w3.heap.size, 0, none⟩ qn qn X rfl hXl.out (hnew.out _) htl.out hBz.out ?_; intro gv7 w7 ho7 hg7 hat7; obtain ⟨a7, c7, hv7, _, _⟩ := ho7.out.sl.len; rw [List.length_append, List.length_take, hXl.out, show min t l.length + qn = t + qn by omega] at hv7; subst hv7)
            refine ⟨⟨l.length, t + qn, k + 1, a7, c7, v3, g3, rfl, rfl, by go_num, by omega, (fun _ => rfl), ?_⟩, by simp [intOf]; omega⟩
            show Al _ _ _ _ _ _ _ _
            refine A3.out.got (by omega) (C6.out.dn _) (F6.out.then (below_drewN _ _ _)) ?_ hg7.out hat7.out
            rw [hX'.out]
            exact ho7.out
          · have hm1 : ¬ ((qn : Int) < 16) := by omega
            have hm2 : (qn : Int) ≤ 16 := by omega
            replace hqz := hide hqz
            have hb0 := hide (show backR (t + qn) (t + qn) (qn : Int) = 0 by unfold backR; rw [if_neg (by omega), if_neg (by omega)])
            have hb1 := hide (show backT (t + qn) (t + qn) (qn : Int) = t + qn - qn by unfold backT; rw [hb0.out]; simp)
            have hbq : qn ≤ qn := by omega
            go_wp2_with (first
              | (go_at_call 11; refine ct.out.mono ?_; rintro e w2 ⟨rfl, m2, rfl⟩; have A2 := hide (A.out.then (below_drewN _ m2 _)); have hsl2 := hide (hsl.out m2))
              | (go_at_call 12; refine (feed_any _ _ A2.out.sr.ch hsl2.out (by rw [List.length_take, List.length_drop, List.length_take]; omega) (hsep.out v (fun k hk => (A2.out.sr.ch.own.row k hk).1))).mono ?_; rintro e w3 ⟨rfl, v3, g3, hc3, hf3, ho3⟩; have A3 := hide (A2.out.fed hle1 hle2 hc3 hf3 ho3); clear hc3 hf3 ho3; have hyc3 := (A3.out.sr.below.cell (p := a1.add k) (by rw [add_block]; exact hyb)).trans hyc))
            have z3 := A3.out.sr.lt
            have V3 : Hid (v3.ownBlock ≠ some w3.heap.size) := fun e => absurd (A3.out.sr.ch.own.row _ e).2 (Nat.lt_irrefl _)
            refine (take_any qn A3.out.sr.ch (by rw [List.length_take]; omega)).mono ?_
            rintro e w4 ⟨rfl, hr4, hc4, hf4⟩
            obtain ⟨X, hX⟩ : ∃ X, ((l.take l.length).drop t).take qn = X := ⟨_, rfl⟩
            have hXl := hide (show X.length = qn by rw [← hX, List.length_take, List.length_drop, List.length_take]; omega)
            rw [hX] at hr4
            rw [hmt.out] at hc4
            have X4 := hide hr4
            have z4 := hr4.lt
            have C4 := hide hc4
            have F4 := hide hf4
            clear hr4 hc4 hf4
            go_wp2_with fail
            refine (back_any (qn : Int) (by omega) (by omega) C4.out).mono ?_
            rintro e w5 ⟨rfl, hc5, hf5⟩
            rw [hb0.out]
            rw [hb1.out] at hc5
            have X5 := hide (X4.out.same (hf5.block _ z4 (by omega) V3.out))
            have z5 := hf5.size
            have C5 := hide hc5
            have F5 := hide (F4.out.trans hf5)
            clear hc5 hf5 C4 F4 X4
            go_wp2_with fail
            refine (take_any qn C5.out (by rw [List.length_take]; omega)).mono ?_
            rintro e w6 ⟨rfl, hr6, hc6, hf6⟩
            have z6 := hr6.lt
            have hY : Hid (((l.take l.length).drop (t + qn - qn)).take qn = X.drop (qn - qn)) := by
              show _ = _
              rw [← hX]
              exact last_piece _ _ _ _ hbq
            rw [hY.out] at hr6
            have hmt2 := hide (show t + qn - qn + qn = t + qn by omega)
            rw [hmt2.out, show max (t + qn) (t + qn) = t + qn by omega] at hc6
            have X6 := hide (X5.out.same (hf6.block _ (by omega) (by omega) V3.out))
            have C6 := hide hc6
            have F6 := hide (F5.out.trans hf6)
            have ml2 : (65536 : Nat) ≤ maxLen := by omega
            have sy6 : ∀ d, (convert 33 9 (.slice (some ⟨w5.heap.size, 0, none⟩) qn qn)).run Try.prog (w6.drewN d) = .ok (.string (mkB (X.drop (qn - qn)))) (w6.drewN d) := by
              intro d
              have := ((hr6.sl (by rw [List.length_drop, hXl.out]; omega)).below (below_drewN _ d _)).conv
              rw [List.length_drop, hXl.out, show qn - (qn - qn) = qn by omega] at this
              exact this
            have SX6 : Hid (SL w6 (.slice (some ⟨w3.heap.size, 0, none⟩) X.length X.length) X) := X6.out.sl (by rw [hXl.out]; omega)
            have sx6 : ∀ d, (convert 33 9 (.slice (some ⟨w3.heap.size, 0, none⟩) qn qn)).run Try.prog (w6.drewN d) = .ok (.string (mkB (X.drop (qn - qn)))) (w6.drewN d) := by
              intro d
              rw [Nat.sub_self, List.drop_zero]
              have := (SX6.out.below (below_drewN _ d _)).conv
              rw [hXl.out] at this
              exact this
            have own6 : Hid (∀ d, Own (w6.drewN d) (w.heap.size + 1) (.slice ga t gc) (l.take t)) := fun d => (A3.out.own.of (W1 := w6.drewN d) fun q hq hlt => F6.out.block q hlt (by have := (A3.out.own.row q hq).1; omega) (A3.out.sep q hq))
            have hX' := hide hX
            clear hr6 hc6 hf6 C5 F5 X5 hX
            have hnew : Hid (∀ d j u, (bcs X)[j]? = some u → (w6.drewN d).cell? ((⟨w3.heap.size, 0, none⟩ : Addr).add j) = some u) := fun d => (SX6.out.below (below_drewN _ d _)).news
            have htl := hide (show (l.take t).length + qn ≤ 200000 by rw [List.length_take]; omega)
            have hBz := hide (show w.heap.size + 1 ≤ w6.heap.size by omega)
            have hwq : IntKind.i64.wrap ((qn : Int) - (qn : Int)) = ((qn - qn : Nat) : Int) := by rw [IntKind.wrap_i64] <;> omega
            have hcq : qn - (qn - qn) = qn := by omega
            have hwz : IntKind.i64.wrap 0 = 0 := rfl
            go_wp2_with fail
            go_quiet (fail)
            go_wp2_with (at_builtin; refine app_at rfl (.tmp 120) (.tmp 121) rfl (w.heap.size + 1) _ (l.take t) rfl (own6.out _) ⟨w3.heap.size, 0, none⟩ qn qn X rfl hXl.out (hnew.out _) htl.out hBz.out ?_; intro gv7 w7 ho7 hg7 hat7; obtain ⟨a7, c7, hv7, _, _⟩ := ho7.out.sl.len; rw [List.length_append, List.length_take, hXl.out, show min t l.length + qn = t + qn by omega] at hv7; subst hv7)
            refine ⟨⟨l.length, t + qn, k + 1, a7, c7, v3, g3, rfl, rfl, by go_num, by omega, (fun _ => rfl), ?_⟩, by simp [intOf]; omega⟩
            show Al _ _ _ _ _ _ _ _
            refine A3.out.got (by omega) (C6.out.dn _) (F6.out.then (below_drewN _ _ _)) ?_ hg7.out hat7.out
            rw [hX'.out]
            exact ho7.out
        · have hky2 : (y.length : Int) ≤ (k : Int) := by omega
          have hky3 : y.length ≤ k := by omega
          go_wp2_with (first
            | (go_at_call 11; refine ct.out.mono ?_; rintro e w2 ⟨rfl, m2, rfl⟩; have A2 := hide (A.out.then (below_drewN _ m2 _)); have hsl2 := hide (hsl.out m2))
            | (go_at_call 12; refine (feed_any _ _ A2.out.sr.ch hsl2.out (by rw [List.length_take, List.length_drop, List.length_take]; omega) (hsep.out v (fun k hk => (A2.out.sr.ch.own.row k hk).1))).mono ?_; rintro e w3 ⟨rfl, v3, g3, hc3, hf3, ho3⟩; have A3 := hide (A2.out.fed hle1 hle2 hc3 hf3 ho3); clear hc3 hf3 ho3))
          refine ⟨⟨l.length, t, k + 1, ga, gc, v3, g3, rfl, rfl, by go_num, by omega, (fun _ => rfl), A3.out⟩, by simp [intOf]; omega⟩
    · have hke : k = z.length + 1 := by omega
      have hpe := hlast.out hke
      have hk2 : ¬ ((k : Int) ≤ (z.length : Int)) := by omega
      have hk3 : ¬ (k ≤ z.length) := by omega
      subst hpe
      obtain ⟨lf, hlf⟩ : ∃ lf, l.length - t = lf := ⟨_, rfl⟩
      have hlt := hide (show t + lf = l.length by omega)
      have hlf2 : lf ≤ 65536 := by omega
      have ht2 : t ≤ 65536 := by omega
      have htk : l.take l.length = l := List.take_length
      replace hke := hide hke
      have lef : Hid (Calls Try.prog 15 #[.pointer (some ⟨w.heap.size, 0, none⟩)] wr fun r w' => r = .returned (.int .i64 lf) ∧ ∃ m, w' = wr.drewN m) := by
        have := left_any A.out.sr.ch
        rw [htk, hlf] at this
        exact this
      have z0 := A.out.sr.lt
      have hmt := hide (show max t (t + lf) = t + lf by omega)
      have hlf' := hide hlf
      clear hlf
      go_wp2_with fail
      refine lef.out.mono ?_
      rintro e w2 ⟨rfl, m2, hm2⟩
      have A2 : Hid (Al w l l.length t (.slice ga t gc) v gone w2) := by rw [hm2]; exact A.out.then (below_drewN _ _ _)
      clear hm2
      have z2 := A2.out.sr.lt
      have V2 : Hid (v.ownBlock ≠ some w2.heap.size) := fun e => absurd (A2.out.sr.ch.own.row _ e).2 (Nat.lt_irrefl _)
      go_wp2_with fail
      refine (take_any lf A2.out.sr.ch (by rw [htk, hlf'.out]; exact Nat.le_refl _)).mono ?_
      rintro e w3 ⟨rfl, hr3, hc3, hf3⟩
      obtain ⟨X, hX⟩ : ∃ X, ((l.take l.length).drop t).take lf = X := ⟨_, rfl⟩
      have hXl := hide (show X.length = lf by rw [← hX, List.length_take, List.length_drop, List.length_take]; have := hlf'.out; omega)
      rw [hX] at hr3
      rw [hmt.out] at hc3
      have SX3 : Hid (SL w3 (.slice (some ⟨w2.heap.size, 0, none⟩) X.length X.length) X) := hr3.sl (by rw [hXl.out]; omega)
      have z3 := hr3.lt
      have C3 := hide hc3
      have F3 := hide hf3
      have own3 : Hid (Own w3 (w.heap.size + 1) (.slice ga t gc) (l.take t)) := A2.out.own.of fun q hq hlt => hf3.block q hlt (by have := (A2.out.own.row q hq).1; omega) (A2.out.sep q hq)
      have hnew : Hid (∀ j u, (bcs X)[j]? = some u → w3.cell? ((⟨w2.heap.size, 0, none⟩ : Addr).add j) = some u) := SX3.out.news
      have htl := hide (show (l.take t).length + lf ≤ 200000 by rw [List.length_take]; omega)
      have hBz := hide (show w.heap.size + 1 ≤ w3.heap.size by omega)
      have hX' := hide hX
      have aw := hide awake_any
      clear hr3 hc3 hf3 hX htk
      go_wp2_with (first
        | (at_builtin; refine app_at rfl (.tmp 130) (.tmp 131) rfl (w.heap.size + 1) _ (l.take t) rfl own3.out ⟨w2.heap.size, 0, none⟩ lf lf X rfl hXl.out hnew.out htl.out hBz.out ?_; intro gv4 w4 ho4 hg4 hat4; obtain ⟨a4, c4, hv4, _, _⟩ := ho4.out.sl.len; rw [List.length_append, List.length_take, hXl.out, show min t l.length + lf = t + lf by omega] at hv4; subst hv4; rw [← hX'.out] at ho4; have A4 := hide (A2.out.got (by have := hlt.out; omega) C3.out F3.out ho4.out hg4.out hat4.out))
        | (go_at_call 9; refine (aw.out _).mono ?_; rintro e w5 ⟨rfl, hb5⟩; have A5 := hide (A4.out.then hb5); clear hb5; have s1 : ∀ d, (convert 33 9 (.slice a4 (t + lf) c4)).run Try.prog (w5.drewN d) = .ok (.string (mkB l)) (w5.drewN d) := (fun d => (by have q := (A5.out.own.sl.below (below_drewN _ d _)).conv; rw [hlt.out, List.take_length] at q; rw [hlt.out]; exact q)); have s2 : ∀ d, (convert 33 9 (.slice a l.length c)).run Try.prog (w5.drewN d) = .ok (.string (mkB l)) (w5.drewN d) := (fun d => ((sl.out.below A5.out.sr.below).below (below_drewN _ d _)).conv); have s3 := s1 0; have s4 := s2 0; rw [World.drewN_zero] at s3 s4; have lef2 : Hid (Calls Try.prog 15 #[.pointer (some ⟨w.heap.size, 0, none⟩)] w5 fun r w' => r = .returned (.int .i64 0) ∧ ∃ m, w' = w5.drewN m) := (by have q := left_any A5.out.sr.ch; rw [List.take_length, hlt.out, Nat.sub_self] at q; exact q))
        | (go_at_call 15; refine lef2.out.mono ?_; rintro e w6 ⟨rfl, m6, rfl⟩; have A6 := hide (A5.out.then (below_drewN _ m6 _)))
        | (go_at_call 16; refine (total_any A6.out.sr.ch).mono ?_; rintro e w7 ⟨rfl, m7, rfl⟩; rw [List.take_length]))
      go_ret
      exact ⟨rfl, A5.out.sr.below.trans (below_drewN _ _ _)⟩
end Go.Proofs.Ytpkmgkdgjghpdaa
