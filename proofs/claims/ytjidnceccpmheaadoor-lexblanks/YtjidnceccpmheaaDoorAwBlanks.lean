/- calamuslaw13.LexBlanks: walked. -/
import Derived.Test.YtjidnceccpmheaaDoorAtJoins
import Derived.Laws.BitsAllLaws
namespace Go.Proofs.YtjidnceccpmheaaDoor
namespace Lx
open Go.RowKit
set_option linter.unusedSimpArgs false
set_option linter.unusedVariables false
/-- A slice reads as numbers. -/
def IS (W : World) (v : Value) (z : List Int) : Prop := ∃ a c, v = .slice a z.length c ∧ z.length ≤ c ∧ c ≤ maxLen ∧ (0 < z.length → ∃ b o, a = some ⟨b, o, none⟩ ∧ b < W.heap.size ∧ ∀ k (h : k < z.length), W.cell? ⟨b, o + k, none⟩ = some (.int .i64 z[k]))
theorem and3 (z : Int) : ∃ m : Nat, m < 4 ∧ bits .and .i64 z 3 = (m : Int) := by
  refine ⟨(BitVec.ofInt 64 z &&& BitVec.ofInt 64 3).toNat, ?_, ?_⟩
  · rw [BitVec.toNat_and]
    have h3 : (BitVec.ofInt 64 3).toNat = 3 := by decide
    rw [h3]
    have := Nat.and_le_right (n := (BitVec.ofInt 64 z).toNat) (m := 3)
    omega
  · have h4 : (BitVec.ofInt 64 z &&& BitVec.ofInt 64 3).toNat < 4 := by
      rw [BitVec.toNat_and]
      have h3 : (BitVec.ofInt 64 3).toNat = 3 := by decide
      rw [h3]
      have := Nat.and_le_right (n := (BitVec.ofInt 64 z).toNat) (m := 3)
      omega
    show IntKind.i64.wrap (((BitVec.ofInt 64 z &&& BitVec.ofInt 64 3).toNat : Nat) : Int) = _
    rw [IntKind.wrap_i64]
    omega
theorem blk4 : ∀ m : Fin 4, ((⟨#[32, 9, 10, 13]⟩ : ByteArray).extract m.val (m.val + 1)).size = 1 ∧ ∀ c ∈ bl ((⟨#[32, 9, 10, 13]⟩ : ByteArray).extract m.val (m.val + 1)), isBlk c = true := by decide +kernel
theorem scR_bad (A M : List UInt8) (h : (scR A).1 ≠ 0) : (scR (A ++ 10 :: M)).1 ≠ 0 := by
  by_cases h2 : (scR (A ++ 10 :: M)).1 = 2
  · omega
  · obtain ⟨z2, e2⟩ := scR_lim h2
    have hl : A.length ≤ 4096 := by rw [List.length_append, List.length_cons] at z2; omega
    have e1 : scR A = scO (scnA nok A 0 []) := by unfold scR; rw [if_neg (by omega)]; rfl
    rw [e1] at h
    rw [e2, scn_nl nok M _ A 0 [] (Nat.le_refl _)]
    cases hs : scnA nok A 0 [] with
    | inl x =>
      obtain ⟨e, q⟩ := x
      rw [hs] at h
      exact h
    | inr r => rw [hs] at h; exact absurd rfl h
theorem scR_more (A M : List UInt8) (h1 : (scR A).1 = 0) (h2 : (scR (A ++ 10 :: M)).1 ≠ 2) (hm : ∀ p acc, scnA nok (10 :: M) p acc = .inr acc) : (scR (A ++ 10 :: M)).1 = 0 ∧ (scR (A ++ 10 :: M)).2.2 = (scR A).2.2 := by
  obtain ⟨z1, e1⟩ := scR_lim (l := A) (by omega)
  obtain ⟨z2, e2⟩ := scR_lim h2
  rw [e1] at h1 ⊢
  obtain ⟨r, hr, hs⟩ := scO_inr h1 (fun e q h => (scn_err nok _ _ _ _ _ _ (Nat.le_refl _) h).1)
  rw [e2, scn_nl nok M _ A 0 [] (Nat.le_refl _), hr]
  simp [hm, scO]
set_option maxHeartbeats 4000000 in
set_option maxRecDepth 100000 in
theorem blanks_any (hP : ParseOk) (a : ByteArray) (v : Value) (zs : List Int) (b : ByteArray) (w : World) (g : Gg w) (hza : a.size ≤ maxLen) (hv : IS w v zs) (hzb : b.size ≤ maxLen) :
    Calls Tryd.prog 4 #[.string a, v, .string b] w fun e w' => e = .returned (.bool true) ∧ Below w.heap.size w w' := by
  have ml : maxLen = 2 ^ 63 - 1 := rfl
  obtain ⟨av, cv, rfl, hv1, hv2, hv3⟩ := hv
  by_cases ha : 65536 < a.size
  · have i1 : (65536 : Int) < (a.size : Int) := by omega
    clear hv3
    go_enter Tryd.func4, Tryd.ntmps4
    go_wp2
    go_ret
    exact ⟨rfl, Below.refl _ _⟩
  · have i1 : ¬ (65536 : Int) < (a.size : Int) := by omega
    by_cases hb : 65536 < b.size
    · have i2 : (65536 : Int) < (b.size : Int) := by omega
      clear hv3
      go_enter Tryd.func4, Tryd.ntmps4
      go_wp2
      go_ret
      exact ⟨rfl, Below.refl _ _⟩
    · have i2 : ¬ (65536 : Int) < (b.size : Int) := by omega
      have hv3 := hide hv3
      have g0 := hide g
      have hP0 := hide hP
      clear g hP
      go_enter Tryd.func4, Tryd.ntmps4
      go_wp2
      go_loop [7, 8] (fun x i => ∃ (k : Nat) (M : ByteArray), i = .int .i64 k ∧ x = .string M ∧ k ≤ zs.length ∧ k ≤ 50 ∧ Hid (M.size = k ∧ ∀ c ∈ bl M, isBlk c = true)) (fun _ i => zs.length - (intOf i).toNat)
      case atStart => exact ⟨0, ⟨#[]⟩, rfl, rfl, Nat.zero_le _, by omega, rfl, fun c hc => by cases hc⟩
      case round =>
        obtain ⟨k, M, rfl, rfl, hk, hk50, HM⟩ := hrel
        by_cases hin : k < zs.length ∧ k < 50
        · have hki : (k : Int) < (zs.length : Int) := by omega
          have hk5 : (k : Int) < 50 := by omega
          obtain ⟨bb, oo, rfl, hbb, hcc⟩ := hv3.out (by omega)
          have hc := hcc k hin.1
          obtain ⟨z, hz⟩ : ∃ z, zs[k] = z := ⟨_, rfl⟩
          rw [hz] at hc
          obtain ⟨m, hm4, hbm⟩ := and3 z
          obtain ⟨hx1, hx2⟩ := blk4 ⟨m, hm4⟩
          simp only at hx1 hx2
          obtain ⟨X, hX⟩ : ∃ X, (⟨#[32, 9, 10, 13]⟩ : ByteArray).extract m (m + 1) = X := ⟨_, rfl⟩
          rw [hX] at hx1 hx2
          obtain ⟨N, hN⟩ : ∃ N, M ++ X = N := ⟨_, rfl⟩
          have hMs := HM.out.1
          have hcat : ∀ w, (Op.stringOp .add M X).run Tryd.prog w = .ok (.string N) w := fun w => cat_run _ _ _ w hN (by omega)
          have hNb : bl N = bl M ++ bl X := by rw [← hN]; simp [bl, ByteArray.data_append]
          have HN : Hid (N.size = k + 1 ∧ ∀ c ∈ bl N, isBlk c = true) := by
            refine ⟨by rw [← bl_length, hNb, List.length_append, bl_length, bl_length]; omega, fun c hc => ?_⟩
            rw [hNb] at hc
            rcases List.mem_append.1 hc with h | h
            · exact HM.out.2 c h
            · exact hx2 c h
          have hm0 : (0 : Int) ≤ (m : Int) := by omega
          have hm1 : (m : Int) + 1 ≤ 4 := by omega
          have hms : ¬ ((m : Int) + 1 < (m : Int)) := by omega
          clear hz hcc hx1 hx2 hN hNb hMs HM hbb
          go_wp2
          go_round
          case rel => exact ⟨k + 1, N, by go_num, rfl, by omega, by omega, HN⟩
          case measure => simp [intOf]; omega
        · have hst : ¬ (k : Int) < (zs.length : Int) ∨ ((k : Int) < (zs.length : Int) ∧ ¬ (k : Int) < 50) := by omega
          have hMs := HM.out.1
          obtain ⟨u, hu⟩ : ∃ u, a ++ ⟨#[10]⟩ = u := ⟨_, rfl⟩
          obtain ⟨t, ht⟩ : ∃ t, u ++ M = t := ⟨_, rfl⟩
          obtain ⟨u2, hu2⟩ : ∃ u, a ++ ⟨#[10, 35]⟩ = u := ⟨_, rfl⟩
          obtain ⟨t2, ht2⟩ : ∃ t, u2 ++ b = t := ⟨_, rfl⟩
          have hub : bl u = bl a ++ [10] := by rw [← hu]; simp [bl, ByteArray.data_append]
          have htb : bl t = bl a ++ 10 :: bl M := by rw [← ht]; simp only [bl, ByteArray.data_append, Array.toList_append] at hub ⊢; rw [hub]; simp
          have hu2b : bl u2 = bl a ++ [10, 35] := by rw [← hu2]; simp [bl, ByteArray.data_append]
          have ht2b : bl t2 = bl a ++ 10 :: 35 :: bl b := by rw [← ht2]; simp only [bl, ByteArray.data_append, Array.toList_append] at hu2b ⊢; rw [hu2b]; simp
          have hus : u.size = a.size + 1 := by rw [← bl_length, hub, List.length_append, bl_length]; rfl
          have hts : t.size = a.size + 1 + M.size := by rw [← bl_length, htb, List.length_append, List.length_cons, bl_length, bl_length]; omega
          have hu2s : u2.size = a.size + 2 := by rw [← bl_length, hu2b, List.length_append, bl_length]; rfl
          have ht2s : t2.size = a.size + 2 + b.size := by rw [← bl_length, ht2b, List.length_append, List.length_cons, List.length_cons, bl_length, bl_length]; omega
          have hcat1 : ∀ w, (Op.stringOp .add a ⟨#[10]⟩).run Tryd.prog w = .ok (.string u) w := fun w => cat_run _ _ _ w hu (by have : (⟨#[10]⟩ : ByteArray).size = 1 := rfl; omega)
          have hcat2 : ∀ w, (Op.stringOp .add u M).run Tryd.prog w = .ok (.string t) w := fun w => cat_run _ _ _ w ht (by omega)
          have hcat3 : ∀ w, (Op.stringOp .add a ⟨#[10, 35]⟩).run Tryd.prog w = .ok (.string u2) w := fun w => cat_run _ _ _ w hu2 (by have : (⟨#[10, 35]⟩ : ByteArray).size = 2 := rfl; omega)
          have hcat4 : ∀ w, (Op.stringOp .add u2 b).run Tryd.prog w = .ok (.string t2) w := fun w => cat_run _ _ _ w ht2 (by omega)
          have j1 := scR_bad (bl a) (bl M)
          have j2 := fun h1 h2 => scR_more (bl a) (bl M) h1 h2 (fun p acc => scn_blanks nok _ p acc (fun c hc => by rcases List.mem_cons.1 hc with rfl | hc; rfl; exact HM.out.2 c hc))
          have j3 : (∀ c ∈ bl b, notNl c = true) → (scR (bl a)).1 = 0 → (scR (bl t2)).1 = 0 → (scR (bl t2)).2.2 = (scR (bl a)).2.2 := fun hn h1 h3 => by
            rw [ht2b] at h3 ⊢
            exact (scR_more (bl a) (35 :: bl b) h1 (by omega) (fun p acc => by rw [scn_blank nok 10 _ (by rfl)]; exact scn_remark nok _ _ _ hn)).2
          obtain ⟨z1, _, _, k1, _, _⟩ := scR_len (bl a)
          obtain ⟨z2, _, _, k2, _, _⟩ := scR_len (bl t)
          obtain ⟨z3, _, _, k3, _, _⟩ := scR_len (bl t2)
          have s1 := hide (scan_any hP0.out a w g0.out (by omega))
          have s2 := hide (fun w g => scan_any hP0.out t w g (by omega))
          have s3 := hide (fun w g => scan_any hP0.out t2 w g (by omega))
          have AW := hide (fun w g => awake_any hP0.out w g)
          rw [← htb] at j1 j2
          obtain ⟨x1, hx1⟩ : ∃ x1, scR (bl a) = x1 := ⟨_, rfl⟩
          obtain ⟨x2, hx2⟩ : ∃ x2, scR (bl t) = x2 := ⟨_, rfl⟩
          obtain ⟨x3, hx3⟩ : ∃ x3, scR (bl t2) = x3 := ⟨_, rfl⟩
          rw [hx1] at j1 j2 j3 z1 k1 s1
          rw [hx2] at j1 j2 z2 k2 s2
          rw [hx3] at j3 z3 k3 s3
          obtain ⟨e1, p1, l1⟩ := x1
          obtain ⟨e2, p2, l2⟩ := x2
          obtain ⟨e3, p3, l3⟩ := x3
          simp only at j1 j2 j3 z1 k1 z2 k2 z3 k3
          clear hx1 hx2 hx3 htb hub hu ht hu2b ht2b hu2 ht2 hus hts hu2s ht2s HM hv3 hin hk hk50 hMs
          have hways : (e1 ≠ 0 ∧ e2 ≠ 0) ∨ (e1 = 0 ∧ e2 = 2) ∨ (e1 = 0 ∧ e2 ≠ 2 ∧ e3 ≠ 0) ∨ (e1 = 0 ∧ e2 = 0 ∧ e3 = 0 ∧ l2 = l1) := by
            by_cases c1 : e1 = 0
            · by_cases c2 : e2 = 2
              · exact Or.inr (Or.inl ⟨c1, c2⟩)
              · by_cases c3 : e3 = 0
                · exact Or.inr (Or.inr (Or.inr ⟨c1, (j2 c1 c2).1, c3, (j2 c1 c2).2⟩))
                · exact Or.inr (Or.inr (Or.inl ⟨c1, c2, c3⟩))
            · exact Or.inl ⟨c1, j1 c1⟩
          clear j1 j2 k1 k2 k3
          have hj3 := hide j3
          clear j3
          rcases hways with ⟨c1, c2⟩ | ⟨c1, c2⟩ | ⟨c1, c2, c3⟩ | ⟨c1, c2, c3, c4⟩
          · have d1 : ((e1 : Int) != 0) = true := by simp; omega
            have d1' : ((e1 : Int) == 0) = false := by simp; omega
            have d2 : ((e2 : Int) != 0) = true := by simp; omega
            have d2' : ((e2 : Int) == 0) = false := by simp; omega
            clear c1 c2
            rcases hst with h1 | ⟨h1, h2⟩
            all_goals
              go_wp2_with (first | (go_at_call 8; first | (go_fit s1.out; rintro e w1 ⟨v1, rfl, ho1, hb1⟩; have B1 := hide hb1; have T1 : Hid (TS w1 v1 l1) := OT.ts (l := l1) ho1 (by omega); obtain ⟨a1, r1, rfl, hr1, hr1'⟩ := T1.out.shape; clear hb1 ho1) | (go_fit (s2.out w1 (g0.out.below B1.out g0.out.sz)); rintro e w2 ⟨v2, rfl, ho2, hb2⟩; have B2 := hide (below_then B1.out hb2); have T12 := hide (T1.out.below hb2); have T2 : Hid (TS w2 v2 l2) := OT.ts (l := l2) ho2 (by omega); obtain ⟨a2, r2, rfl, hr2, hr2'⟩ := T2.out.shape; clear hb2 ho2) | (go_fit (s3.out w2 (g0.out.below B2.out g0.out.sz)); rintro e w3 ⟨v3, rfl, ho3, hb3⟩; have B3 := hide (below_then B2.out hb3); have T13 := hide (T12.out.below hb3); have T23 := hide (T2.out.below hb3); have T3 : Hid (TS w3 v3 l3) := OT.ts (l := l3) ho3 (by omega); obtain ⟨a3, r3, rfl, hr3, hr3'⟩ := T3.out.shape; clear hb3 ho3)) | (go_at_call 10; go_fit (AW.out w3 (g0.out.below B3.out g0.out.sz)); rintro e w4 ⟨rfl, hb4⟩; have B4 := hide (below_then B3.out hb4); clear hb4))
              go_ret
              exact ⟨rfl, B4.out⟩
          · subst c1 c2
            rcases hst with h1 | ⟨h1, h2⟩
            all_goals
              go_wp2_with (first | (go_at_call 8; first | (go_fit s1.out; rintro e w1 ⟨v1, rfl, ho1, hb1⟩; have B1 := hide hb1; have T1 : Hid (TS w1 v1 l1) := OT.ts (l := l1) ho1 (by omega); obtain ⟨a1, r1, rfl, hr1, hr1'⟩ := T1.out.shape; clear hb1 ho1) | (go_fit (s2.out w1 (g0.out.below B1.out g0.out.sz)); rintro e w2 ⟨v2, rfl, ho2, hb2⟩; have B2 := hide (below_then B1.out hb2); have T12 := hide (T1.out.below hb2); have T2 : Hid (TS w2 v2 l2) := OT.ts (l := l2) ho2 (by omega); obtain ⟨a2, r2, rfl, hr2, hr2'⟩ := T2.out.shape; clear hb2 ho2) | (go_fit (s3.out w2 (g0.out.below B2.out g0.out.sz)); rintro e w3 ⟨v3, rfl, ho3, hb3⟩; have B3 := hide (below_then B2.out hb3); have T13 := hide (T12.out.below hb3); have T23 := hide (T2.out.below hb3); have T3 : Hid (TS w3 v3 l3) := OT.ts (l := l3) ho3 (by omega); obtain ⟨a3, r3, rfl, hr3, hr3'⟩ := T3.out.shape; clear hb3 ho3)) | (go_at_call 10; go_fit (AW.out w3 (g0.out.below B3.out g0.out.sz)); rintro e w4 ⟨rfl, hb4⟩; have B4 := hide (below_then B3.out hb4); clear hb4))
              go_ret
              exact ⟨rfl, B4.out⟩
          · subst c1
            have d2 : ((e2 : Int) == 2) = false := by simp; omega
            have d3 : ((e3 : Int) != 0) = true := by simp; omega
            have d3' : ((e3 : Int) == 0) = false := by simp; omega
            clear c2 c3
            rcases hst with h1 | ⟨h1, h2⟩
            all_goals
              go_wp2_with (first | (go_at_call 8; first | (go_fit s1.out; rintro e w1 ⟨v1, rfl, ho1, hb1⟩; have B1 := hide hb1; have T1 : Hid (TS w1 v1 l1) := OT.ts (l := l1) ho1 (by omega); obtain ⟨a1, r1, rfl, hr1, hr1'⟩ := T1.out.shape; clear hb1 ho1) | (go_fit (s2.out w1 (g0.out.below B1.out g0.out.sz)); rintro e w2 ⟨v2, rfl, ho2, hb2⟩; have B2 := hide (below_then B1.out hb2); have T12 := hide (T1.out.below hb2); have T2 : Hid (TS w2 v2 l2) := OT.ts (l := l2) ho2 (by omega); obtain ⟨a2, r2, rfl, hr2, hr2'⟩ := T2.out.shape; clear hb2 ho2) | (go_fit (s3.out w2 (g0.out.below B2.out g0.out.sz)); rintro e w3 ⟨v3, rfl, ho3, hb3⟩; have B3 := hide (below_then B2.out hb3); have T13 := hide (T12.out.below hb3); have T23 := hide (T2.out.below hb3); have T3 : Hid (TS w3 v3 l3) := OT.ts (l := l3) ho3 (by omega); obtain ⟨a3, r3, rfl, hr3, hr3'⟩ := T3.out.shape; clear hb3 ho3)) | (go_at_call 10; go_fit (AW.out w3 (g0.out.below B3.out g0.out.sz)); rintro e w4 ⟨rfl, hb4⟩; have B4 := hide (below_then B3.out hb4); clear hb4))
              go_ret
              exact ⟨rfl, B4.out⟩
          · subst c1 c2 c3
            have c5 := c4.symm
            clear c4
            subst c5
            rcases hst with h1 | ⟨h1, h2⟩
            all_goals
              go_wp2_with (first | (go_at_call 8; first | (go_fit s1.out; rintro e w1 ⟨v1, rfl, ho1, hb1⟩; have B1 := hide hb1; have T1 : Hid (TS w1 v1 l1) := OT.ts (l := l1) ho1 (by omega); obtain ⟨a1, r1, rfl, hr1, hr1'⟩ := T1.out.shape; clear hb1 ho1) | (go_fit (s2.out w1 (g0.out.below B1.out g0.out.sz)); rintro e w2 ⟨v2, rfl, ho2, hb2⟩; have B2 := hide (below_then B1.out hb2); have T12 := hide (T1.out.below hb2); have T2 : Hid (TS w2 v2 l1) := OT.ts (l := l1) ho2 (by omega); obtain ⟨a2, r2, rfl, hr2, hr2'⟩ := T2.out.shape; clear hb2 ho2) | (go_fit (s3.out w2 (g0.out.below B2.out g0.out.sz)); rintro e w3 ⟨v3, rfl, ho3, hb3⟩; have B3 := hide (below_then B2.out hb3); have T13 := hide (T12.out.below hb3); have T23 := hide (T2.out.below hb3); have T3 : Hid (TS w3 v3 l3) := OT.ts (l := l3) ho3 (by omega); obtain ⟨a3, r3, rfl, hr3, hr3'⟩ := T3.out.shape; clear hb3 ho3)) | (go_at_call 11; go_fit (exact_any (.slice a1 l1.length r1) (.slice a2 l1.length r2) l1 w3 T13.out T23.out); rintro e w4 ⟨rfl, hb4⟩; have B4 := hide (below_then B3.out hb4); have T34 := hide (T3.out.below hb4); have T14 := hide (T13.out.below hb4); clear hb4))
              go_loopw [19] (fun i W => ∃ k : Nat, i = .int .i64 k ∧ k ≤ b.size ∧ Hid (W = w4 ∧ ∀ j (h : j < b.size), j < k → ¬ b[j].toNat = 10)) (fun i _ => b.size - (intOf i).toNat)
              case atStart => exact ⟨0, rfl, Nat.zero_le _, rfl, fun j h1 h2 => by omega⟩
              case round =>
                obtain ⟨q, rfl, hq, HQ⟩ := hrel
                obtain ⟨hw4, hno⟩ := HQ.out
                subst hw4
                have HN := hide hno
                clear hno HQ
                by_cases hqb : q < b.size
                · have hqi : (q : Int) < (b.size : Int) := by omega
                  by_cases h10 : b[q].toNat = 10
                  · have f1 : ((b[q].toNat : Int) == 10) = true := by simp; omega
                    clear h10
                    go_wp2_with (go_at_call 10; go_fit (AW.out _ (g0.out.below B4.out g0.out.sz)); rintro e w5 ⟨rfl, hb5⟩; have B5 := hide (below_then B4.out hb5); clear hb5)
                    go_ret
                    exact ⟨rfl, B5.out⟩
                  · have f1 : ((b[q].toNat : Int) == 10) = false := by simp; omega
                    have HN2 : Hid (∀ j (h : j < b.size), j < q + 1 → ¬ b[j].toNat = 10) := fun j g1 g2 => by
                      by_cases hjq : j = q
                      · subst hjq; exact h10
                      · exact HN.out j g1 (by omega)
                    clear h10 HN
                    go_wp2
                    go_roundw
                    case rel => exact ⟨q + 1, by go_num, by omega, by first | trivial | rfl, HN2.out⟩
                    case measure => simp [intOf]; omega
                · have hqi : ¬ (q : Int) < (b.size : Int) := by omega
                  have hl3 : Hid (l3 = l1) := hj3.out (fun c hc => by
                    obtain ⟨j, hj, rfl⟩ := List.mem_iff_getElem.1 hc
                    have hj' : j < b.size := by rw [bl_length] at hj; exact hj
                    have := HN.out j hj' (by omega)
                    rw [bl_get b j hj']
                    simpa [notNl] using this) (by first | trivial | rfl) (by first | trivial | rfl)
                  have T34e := hide T34.out
                  rw [hl3.out] at T34e
                  go_wp2_with (first | (go_at_call 10; go_fit (AW.out _ (g0.out.below B4.out g0.out.sz)); rintro e w5 ⟨rfl, hb5⟩; have EX : Hid (Calls _ _ #[.slice a1 l1.length r1, .slice a3 l3.length r3] w5 _) := exact_any _ _ l1 w5 (T14.out.below hb5) (by have := T34.out.below hb5; rw [hl3.out] at this; rw [hl3.out]; exact this); have B5 := hide (below_then B4.out hb5); clear hb5) | (go_at_call 11; go_fit EX.out; rintro e w6 ⟨rfl, hb6⟩; have B6 := hide (below_then B5.out hb6); clear hb6))
                  go_ret
                  exact ⟨rfl, B6.out⟩
end Lx
end Go.Proofs.YtjidnceccpmheaaDoor
