/- calamuslaw13.LexJoins: walked. -/
import Derived.Test.YtjidnceccpmheaaDoorAsAwake
namespace Go.Proofs.YtjidnceccpmheaaDoor
namespace Lx
open Go.RowKit
set_option linter.unusedSimpArgs false
set_option linter.unusedVariables false
theorem scR_lim {l : List UInt8} (h : (scR l).1 ≠ 2) : l.length ≤ 4096 ∧ scR l = scO (scnA nok l 0 []) := by
  unfold scR at h ⊢
  split at h
  · exact absurd rfl h
  · rename_i hl
    rw [if_neg hl]
    exact ⟨by omega, rfl⟩
theorem scO_inr {o : Sum (Nat × Nat) (List Tk)} (h : (scO o).1 = 0) (he : ∀ e q, o = .inl (e, q) → e = 2 ∨ e = 130) : ∃ r, o = .inr r ∧ scO o = (0, 0, r) := by
  cases o with
  | inl x => obtain ⟨e, q⟩ := x; have := he e q rfl; simp only [scO] at h; omega
  | inr r => exact ⟨r, rfl, rfl⟩
/-- Two texts with a line's end between. -/
theorem scR_join (A B : List UInt8) (h1 : (scR A).1 = 0) (h2 : (scR B).1 ≠ 2) (h3 : (scR (A ++ 10 :: B)).1 ≠ 2) :
    ((scR B).1 = 130 ∧ (scR (A ++ 10 :: B)).1 = 130 ∧ (scR (A ++ 10 :: B)).2.1 = A.length + 1 + (scR B).2.1) ∨
    ((scR B).1 = 0 ∧ (scR (A ++ 10 :: B)).1 = 0 ∧ (scR (A ++ 10 :: B)).2.2 = (scR A).2.2 ++ (scR B).2.2.map (sh (A.length + 1))) := by
  obtain ⟨z1, e1⟩ := scR_lim (l := A) (by omega)
  obtain ⟨z2, e2⟩ := scR_lim h2
  obtain ⟨z3, e3⟩ := scR_lim h3
  rw [e1] at h1 ⊢
  rw [e2] at h2 ⊢
  rw [e3] at h3 ⊢
  obtain ⟨r, hr, hs⟩ := scO_inr h1 (fun e q h => (scn_err nok _ _ _ _ _ _ (Nat.le_refl _) h).1)
  have hn := scn_nl nok B _ A 0 [] (Nat.le_refl _)
  rw [hr] at hn
  simp only [Nat.zero_add] at hn
  rw [scn_blank nok 10 B (by rfl)] at hn
  have hsh := scn_shift nok (A.length + 1) r _ B 0 [] (Nat.le_refl _)
  simp only [List.map_nil, List.append_nil, Nat.zero_add] at hsh
  rw [hn] at h3 ⊢
  rw [hs]
  cases hb : scnA nok B 0 [] with
  | inl x =>
    obtain ⟨e, q⟩ := x
    rw [hb] at hsh h2
    simp only [scO] at h2
    rcases hsh with h | ⟨h, h | ⟨q', h⟩⟩
    · exact absurd h h2
    · left
      rw [h]
      subst_vars
      exact ⟨rfl, rfl, by simp only [scO]; omega⟩
    · rw [h] at h3; exact absurd rfl h3
  | inr m =>
    rw [hb] at hsh
    rcases hsh with h | ⟨q', h⟩
    · right
      rw [h]
      exact ⟨rfl, rfl, rfl⟩
    · rw [h] at h3; exact absurd rfl h3
theorem scR_len (l : List UInt8) : (scR l).2.2.length ≤ 1024 ∧ (scR l).2.1 ≤ 4096 ∧ (∀ t ∈ (scR l).2.2, 0 ≤ t.p ∧ t.p ≤ 4096 ∧ t.s.length ≤ 4096) ∧ ((scR l).1 = 0 ∨ (scR l).1 = 2 ∨ (scR l).1 = 130) ∧ ((scR l).1 ≠ 0 → (scR l).2.2 = []) ∧ ((scR l).1 = 0 → l.length ≤ 4096) := by
  unfold scR
  split
  · refine ⟨by simp, by simp, by simp, by simp, by simp, by simp⟩
  · cases h : scnA nok l 0 [] with
    | inl x =>
      obtain ⟨e, q⟩ := x
      have := scn_err nok _ _ _ _ _ _ (Nat.le_refl _) h
      refine ⟨by simp, by simp only; omega, by simp, by simp only; omega, by simp, by simp only; omega⟩
    | inr r =>
      obtain ⟨x, hx, h1, h2, h3⟩ := scn_len nok _ _ _ _ _ (Nat.le_refl _) h (by simp)
      simp only [List.nil_append] at hx
      subst hx
      refine ⟨h1, by simp, fun t ht => ?_, by simp, by simp, by simp only; omega⟩
      have := h3 t ht
      omega
theorem TS.take {W : World} {a : Option Addr} {n c : Nat} {l m : List Tk} (h : TS W (.slice a n c) (l ++ m)) : TS W (.slice a l.length c) l := by
  obtain ⟨a', c', e, h1, h2, h3⟩ := h
  cases e
  refine ⟨_, _, rfl, by rw [List.length_append] at h1; omega, h2, fun hp => ?_⟩
  obtain ⟨b, o, e, hb, hc⟩ := h3 (by rw [List.length_append]; omega)
  refine ⟨b, o, e, hb, fun k hk => ?_⟩
  have := hc k (by rw [List.length_append]; omega)
  rw [List.getElem_append_left hk] at this
  exact this
set_option maxHeartbeats 4000000 in
set_option maxRecDepth 100000 in
theorem joins_any (hP : ParseOk) (a b : ByteArray) (w : World) (g : Gg w) (hza : a.size ≤ maxLen) (hzb : b.size ≤ maxLen) :
    Calls Tryd.prog 5 #[.string a, .string b] w fun e w' => e = .returned (.bool true) ∧ Below w.heap.size w w' := by
  have ml : maxLen = 2 ^ 63 - 1 := rfl
  by_cases ha : 65536 < a.size
  · have i1 : (65536 : Int) < (a.size : Int) := by omega
    go_enter Tryd.func5, Tryd.ntmps5
    go_wp2
    go_ret
    exact ⟨rfl, Below.refl _ _⟩
  · have i1 : ¬ (65536 : Int) < (a.size : Int) := by omega
    by_cases hb : 65536 < b.size
    · have i2 : (65536 : Int) < (b.size : Int) := by omega
      go_enter Tryd.func5, Tryd.ntmps5
      go_wp2
      go_ret
      exact ⟨rfl, Below.refl _ _⟩
    · have i2 : ¬ (65536 : Int) < (b.size : Int) := by omega
      obtain ⟨u, hu⟩ : ∃ u, a ++ ⟨#[10]⟩ = u := ⟨_, rfl⟩
      obtain ⟨t, ht⟩ : ∃ t, u ++ b = t := ⟨_, rfl⟩
      have hub : bl u = bl a ++ [10] := by rw [← hu]; simp [bl, ByteArray.data_append]
      have htb : bl t = bl a ++ 10 :: bl b := by rw [← ht]; simp only [bl, ByteArray.data_append, Array.toList_append] at hub ⊢; rw [hub]; simp
      have hus : u.size = a.size + 1 := by rw [← bl_length, hub, List.length_append, bl_length]; rfl
      have hts : t.size = a.size + 1 + b.size := by rw [← bl_length, htb, List.length_append, List.length_cons, bl_length, bl_length]; omega
      have hcat1 : ∀ w, (Op.stringOp .add a ⟨#[10]⟩).run Tryd.prog w = .ok (.string u) w := fun w => cat_run _ _ _ w hu (by have : (⟨#[10]⟩ : ByteArray).size = 1 := rfl; omega)
      have hcat2 : ∀ w, (Op.stringOp .add u b).run Tryd.prog w = .ok (.string t) w := fun w => cat_run _ _ _ w ht (by omega)
      have j1 := scR_join (bl a) (bl b)
      obtain ⟨z1, q1, y1, k1, n1, m1⟩ := scR_len (bl a)
      obtain ⟨z2, q2, y2, k2, n2, m2⟩ := scR_len (bl b)
      obtain ⟨z3, q3, y3, k3, n3, m3⟩ := scR_len (bl t)
      have s1 := hide (scan_any hP a w g (by omega))
      have s2 := hide (fun w g => scan_any hP b w g (by omega))
      have s3 := hide (fun w g => scan_any hP t w g (by omega))
      have AW := hide (fun w g => awake_any hP w g)
      rw [← htb] at j1
      obtain ⟨x1, hx1⟩ : ∃ x1, scR (bl a) = x1 := ⟨_, rfl⟩
      obtain ⟨x2, hx2⟩ : ∃ x2, scR (bl b) = x2 := ⟨_, rfl⟩
      obtain ⟨x3, hx3⟩ : ∃ x3, scR (bl t) = x3 := ⟨_, rfl⟩
      rw [hx1] at j1 z1 q1 y1 k1 n1 m1 s1
      rw [hx2] at j1 z2 q2 y2 k2 n2 m2 s2
      rw [hx3] at j1 z3 q3 y3 k3 n3 m3 s3
      rw [bl_length] at j1 m1
      obtain ⟨e1, p1, l1⟩ := x1
      obtain ⟨e2, p2, l2⟩ := x2
      obtain ⟨e3, p3, l3⟩ := x3
      simp only at j1 z1 q1 y1 k1 n1 m1 z2 q2 y2 k2 n2 m2 z3 q3 y3 k3 n3 m3
      clear hx1 hx2 hx3 htb hub hu ht hus m2 m3
      have g0 := hide g
      clear g hP
      have hways : (e1 ≠ 0) ∨ (e1 = 0 ∧ e2 = 2) ∨ (e1 = 0 ∧ e2 ≠ 2 ∧ e3 = 2) ∨ (e1 = 0 ∧ e2 = 130 ∧ e3 = 130 ∧ p3 = a.size + 1 + p2) ∨ (e1 = 0 ∧ e2 = 0 ∧ e3 = 0 ∧ l3 = l1 ++ l2.map (sh (a.size + 1))) := by
        by_cases c1 : e1 = 0
        · by_cases c2 : e2 = 2
          · exact Or.inr (Or.inl ⟨c1, c2⟩)
          · by_cases c3 : e3 = 2
            · exact Or.inr (Or.inr (Or.inl ⟨c1, c2, c3⟩))
            · rcases j1 c1 c2 c3 with ⟨h1, h2, h3⟩ | ⟨h1, h2, h3⟩
              · exact Or.inr (Or.inr (Or.inr (Or.inl ⟨c1, h1, h2, h3⟩)))
              · exact Or.inr (Or.inr (Or.inr (Or.inr ⟨c1, h1, h2, h3⟩)))
        · exact Or.inl c1
      clear j1
      rcases hways with c1 | ⟨c1, c2⟩ | ⟨c1, c2, c3⟩ | ⟨c1, c2, c3, c4⟩ | ⟨c1, c2, c3, c4⟩
      · have d1 : ((e1 : Int) != 0) = true := by simp; omega
        have d1' : ((e1 : Int) == 0) = false := by simp; omega
        clear c1 k1 k2 k3 n1 n2 n3 y1 y2 y3 m1 hts
        go_enter Tryd.func5, Tryd.ntmps5
        go_wp2_with (first | (go_at_call 8; first | (go_fit s1.out; rintro e w1 ⟨v1, rfl, ho1, hb1⟩; have B1 := hide hb1; clear hb1 ho1) | (go_fit (s2.out w1 (g0.out.below B1.out g0.out.sz)); rintro e w2 ⟨v2, rfl, ho2, hb2⟩; have B2 := hide (below_then B1.out hb2); clear hb2 ho2) | (go_fit (s3.out w2 (g0.out.below B2.out g0.out.sz)); rintro e w3 ⟨v3, rfl, ho3, hb3⟩; have B3 := hide (below_then B2.out hb3); clear hb3 ho3)) | (go_at_call 10; go_fit (AW.out w3 (g0.out.below B3.out g0.out.sz)); rintro e w4 ⟨rfl, hb4⟩; have B4 := hide (below_then B3.out hb4); clear hb4))
        go_ret
        exact ⟨rfl, B4.out⟩
      · subst c1 c2
        clear k1 k2 k3 n1 n2 n3 y1 y2 y3 m1 hts
        go_enter Tryd.func5, Tryd.ntmps5
        go_wp2_with (first | (go_at_call 8; first | (go_fit s1.out; rintro e w1 ⟨v1, rfl, ho1, hb1⟩; have B1 := hide hb1; clear hb1 ho1) | (go_fit (s2.out w1 (g0.out.below B1.out g0.out.sz)); rintro e w2 ⟨v2, rfl, ho2, hb2⟩; have B2 := hide (below_then B1.out hb2); clear hb2 ho2) | (go_fit (s3.out w2 (g0.out.below B2.out g0.out.sz)); rintro e w3 ⟨v3, rfl, ho3, hb3⟩; have B3 := hide (below_then B2.out hb3); clear hb3 ho3)) | (go_at_call 10; go_fit (AW.out w3 (g0.out.below B3.out g0.out.sz)); rintro e w4 ⟨rfl, hb4⟩; have B4 := hide (below_then B3.out hb4); clear hb4))
        go_ret
        exact ⟨rfl, B4.out⟩
      · subst c1 c3
        have d2 : ((e2 : Int) == 2) = false := by simp; omega
        clear c2 k1 k2 k3 n1 n2 n3 y1 y2 y3 m1 hts
        go_enter Tryd.func5, Tryd.ntmps5
        go_wp2_with (first | (go_at_call 8; first | (go_fit s1.out; rintro e w1 ⟨v1, rfl, ho1, hb1⟩; have B1 := hide hb1; clear hb1 ho1) | (go_fit (s2.out w1 (g0.out.below B1.out g0.out.sz)); rintro e w2 ⟨v2, rfl, ho2, hb2⟩; have B2 := hide (below_then B1.out hb2); clear hb2 ho2) | (go_fit (s3.out w2 (g0.out.below B2.out g0.out.sz)); rintro e w3 ⟨v3, rfl, ho3, hb3⟩; have B3 := hide (below_then B2.out hb3); clear hb3 ho3)) | (go_at_call 10; go_fit (AW.out w3 (g0.out.below B3.out g0.out.sz)); rintro e w4 ⟨rfl, hb4⟩; have B4 := hide (below_then B3.out hb4); clear hb4))
        go_ret
        exact ⟨rfl, B4.out⟩
      · subst c1 c2 c3
        have d4 : ((p3 : Int) == (a.size : Int) + 1 + (p2 : Int)) = true := by simp; omega
        have d5 : IntKind.i64.wrap ((a.size : Int) + 1) = (a.size : Int) + 1 := by rw [IntKind.wrap_i64]; omega
        have d6 : IntKind.i64.wrap ((a.size : Int) + 1 + (p2 : Int)) = (a.size : Int) + 1 + (p2 : Int) := by rw [IntKind.wrap_i64]; omega
        clear c4 k1 k2 k3 n1 n2 n3 y1 y2 y3 m1 hts
        go_enter Tryd.func5, Tryd.ntmps5
        go_wp2_with (first | (go_at_call 8; first | (go_fit s1.out; rintro e w1 ⟨v1, rfl, ho1, hb1⟩; have B1 := hide hb1; clear hb1 ho1) | (go_fit (s2.out w1 (g0.out.below B1.out g0.out.sz)); rintro e w2 ⟨v2, rfl, ho2, hb2⟩; have B2 := hide (below_then B1.out hb2); clear hb2 ho2) | (go_fit (s3.out w2 (g0.out.below B2.out g0.out.sz)); rintro e w3 ⟨v3, rfl, ho3, hb3⟩; have B3 := hide (below_then B2.out hb3); clear hb3 ho3)) | (go_at_call 10; go_fit (AW.out w3 (g0.out.below B3.out g0.out.sz)); rintro e w4 ⟨rfl, hb4⟩; have B4 := hide (below_then B3.out hb4); clear hb4))
        go_ret
        exact ⟨rfl, B4.out⟩
      · subst c1 c2 c3
        have d5 : IntKind.i64.wrap ((a.size : Int) + 1) = (a.size : Int) + 1 := by rw [IntKind.wrap_i64]; omega
        have hl3 : l3.length = l1.length + l2.length := by rw [c4, List.length_append, List.length_map]
        have hal : a.size ≤ 4096 := m1 rfl
        have d7 : IntKind.i64.wrap ((l1.length : Int) + (l2.length : Int)) = (l1.length : Int) + (l2.length : Int) := by rw [IntKind.wrap_i64]; omega
        have d8 : ((l3.length : Int) != (l1.length : Int) + (l2.length : Int)) = false := by simp; omega
        have hl3h := hide hl3
        have c4h := hide c4
        have y2h := hide y2
        clear c4 hl3 k1 k2 k3 n1 n2 n3 y1 y2 y3 m1 hts
        go_enter Tryd.func5, Tryd.ntmps5
        go_wp2_with (first | (go_at_call 8; first | (go_fit s1.out; rintro e w1 ⟨v1, rfl, ho1, hb1⟩; have B1 := hide hb1; have T1 : Hid (TS w1 v1 l1) := OT.ts (l := l1) ho1 (by omega); obtain ⟨a1, r1, rfl, hr1, hr1'⟩ := T1.out.shape; clear hb1 ho1) | (go_fit (s2.out w1 (g0.out.below B1.out g0.out.sz)); rintro e w2 ⟨v2, rfl, ho2, hb2⟩; have B2 := hide (below_then B1.out hb2); have T12 := hide (T1.out.below hb2); have T2 : Hid (TS w2 v2 l2) := OT.ts (l := l2) ho2 (by omega); obtain ⟨a2, r2, rfl, hr2, hr2'⟩ := T2.out.shape; clear hb2 ho2) | (go_fit (s3.out w2 (g0.out.below B2.out g0.out.sz)); rintro e w3 ⟨v3, rfl, ho3, hb3⟩; have B3 := hide (below_then B2.out hb3); have T13 := hide (T12.out.below hb3); have T23 := hide (T2.out.below hb3); have T3 : Hid (TS w3 v3 l3) := OT.ts (l := l3) ho3 (by omega); obtain ⟨a3, r3, rfl, hr3, hr3'⟩ := T3.out.shape; clear hb3 ho3)))
        go_loopw [15] (fun i W => ∃ k : Nat, i = .int .i64 k ∧ k ≤ l2.length ∧ Hid (Below w3.heap.size w3 W)) (fun i _ => l2.length - (intOf i).toNat)
        case atStart => exact ⟨0, rfl, Nat.zero_le _, Below.refl _ _⟩
        case round =>
          obtain ⟨k, rfl, hk, H⟩ := hrel
          by_cases hkl : k < l2.length
          · have hki : (k : Int) < (l2.length : Int) := by omega
            have hk3 : l1.length + k < l3.length := by rw [hl3h.out]; omega
            obtain ⟨b3, o3, rfl, hb3, f1, f2, f3⟩ := (T3.out.below H.out).at (l1.length + k) hk3
            obtain ⟨b2, o2, rfl, hb2, f4, f5, f6⟩ := (T23.out.below H.out).at k hkl
            have hg : l3[l1.length + k] = sh (a.size + 1) l2[k] := by
              have := c4h.out
              subst this
              rw [List.getElem_append_right (by omega)]
              simp
            rw [hg] at f1 f2 f3
            have hp := y2h.out l2[k] (List.getElem_mem _)
            obtain ⟨T, hT⟩ : ∃ T, l2[k] = T := ⟨_, rfl⟩
            rw [hT] at f1 f2 f3 f4 f5 f6 hp
            obtain ⟨x, ys, z⟩ := T
            simp only [sh] at f1 f2 f3 f4 f5 f6 hp
            obtain ⟨y, hy⟩ : ∃ y, mkB ys = y := ⟨_, rfl⟩
            rw [hy] at f2 f5
            have z0 := hp.1
            have z1' := hp.2.1
            have d9 : IntKind.i64.wrap (z + ((a.size : Int) + 1)) = z + ((a.size : Int) + 1) := by rw [IntKind.wrap_i64]; omega
            have d10 : IntKind.i64.wrap ((l1.length : Int) + (k : Int)) = (l1.length : Int) + (k : Int) := by rw [IntKind.wrap_i64]; omega
            have hcast : (((a.size + 1 : Nat)) : Int) = (a.size : Int) + 1 := by omega
            rw [hcast] at f3
            have hk3i : (l1.length : Int) + (k : Int) < (l3.length : Int) := by omega
            have hk30 : (0 : Int) ≤ (l1.length : Int) + (k : Int) := by omega
            have hk3n : ((l1.length : Int) + (k : Int)).toNat = l1.length + k := by omega
            clear hT hy hg hp hcast hk3
            go_wp2_with fail
            go_quiet (fail)
            trace_state
            go_wp2
            go_roundw
            case rel => exact ⟨k + 1, by go_num, by omega, below_then H.out (below_drewN _ _ _)⟩
            case measure => simp [intOf]; omega
          · have hki : ¬ (k : Int) < (l2.length : Int) := by omega
            have BW := hide (below_then B3.out H.out)
            have T4 : Hid (TS wr (.slice a3 l1.length r3) l1) := by
              have := T3.out.below H.out
              rw [c4h.out] at this
              exact this.take
            have T5 := hide (T13.out.below H.out)
            have hlr : l1.length ≤ r3 := by have := hl3h.out; omega
            go_wp2_with (first | (go_at_call 10; go_fit (AW.out wr (g0.out.below BW.out g0.out.sz)); rintro e w4 ⟨rfl, hb4⟩; have EX := hide (exact_any _ _ l1 w4 (T4.out.below hb4) (T5.out.below hb4)); have B4 := hide (below_then BW.out hb4); clear hb4) | (go_at_call 11; go_fit EX.out; rintro e w5 ⟨rfl, hb5⟩; have B5 := hide (below_then B4.out hb5); clear hb5))
            go_ret
            exact ⟨rfl, B5.out⟩
end Lx
end Go.Proofs.YtjidnceccpmheaaDoor
