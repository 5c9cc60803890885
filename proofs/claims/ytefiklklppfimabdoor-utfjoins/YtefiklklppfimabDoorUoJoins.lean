/- calamuslaw03.UtfJoins: walked. -/
import Derived.Test.YtefiklklppfimabDoorUiAwake
import Derived.Deep.RegionWith
namespace Go.Proofs.YtefiklklppfimabDoor
open Go.RowKit
set_option linter.unusedSimpArgs false
set_option linter.unusedVariables false
theorem append_mkB (a b : List UInt8) : mkB a ++ mkB b = mkB (a ++ b) := by
  apply ByteArray.ext
  simp [mkB, ByteArray.data_append]
theorem cat_run (a b c : ByteArray) (w : World) (h : a ++ b = c) (hs : a.size + b.size ≤ 1000000) : (Op.stringOp .add a b).run Tryd.prog w = .ok (.string c) w := by
  rw [← h]; exact run_string_add_sum w a b (by omega)
theorem ok_chr {l : List UInt8} (hl : l ≠ []) (h : run .i8 l = some .i8) : ∃ r n, chr l = some (r, n) ∧ run .i8 (l.drop n) = some .i8 := by
  cases hc : chr l with
  | none =>
    rcases chr_none hl hc with e | ⟨p, hp, e, _⟩
    · rw [h] at e; cases e
    · rw [h] at e; exact absurd (Option.some.inj e).symm hp
  | some rn =>
    obtain ⟨r, n⟩ := rn
    refine ⟨r, n, rfl, ?_⟩
    have := (chr_some hc).2.2.2.1
    rw [← List.take_append_drop n l, run_app this] at h
    exact h
/-- A character at the front stays, whatever follows. -/
theorem chr_app {l : List UInt8} {r n : Nat} (h : chr l = some (r, n)) (t : List UInt8) : chr (l ++ t) = some (r, n) := by
  obtain ⟨n1, n4, nl, _, hv, hb⟩ := chr_some h
  have h2 := chr_encode r hv (l.drop n ++ t)
  rw [hb, ← List.append_assoc, List.take_append_drop, List.length_take, Nat.min_eq_left nl] at h2
  exact h2
theorem chars_app : ∀ (m : Nat) (l t : List UInt8), l.length ≤ m → run .i8 l = some .i8 → chars (l ++ t) = chars l + chars t
  | 0, l, t, hm, _ => by
    have : l = [] := List.length_eq_zero_iff.1 (by omega)
    subst this
    simp [chars_nil]
  | m + 1, l, t, hm, h => by
    by_cases hl : l = []
    · subst hl; simp [chars_nil]
    · obtain ⟨r, n, hc, hr⟩ := ok_chr hl h
      obtain ⟨n1, n4, nl, _⟩ := chr_some hc
      have hw : wid l = n := by unfold wid; rw [hc]; rfl
      have hw2 : wid (l ++ t) = n := by unfold wid; rw [chr_app hc t]; rfl
      rw [chars_step hl, chars_step (by simp [hl]), hw, hw2, List.drop_append_of_le_length nl]
      rw [chars_app m (l.drop n) t (by rw [List.length_drop]; omega) hr]
      omega
theorem ok_app (s t : List UInt8) (h : okT s = true) : okT (s ++ t) = okT t := by
  have := (okT_iff s).1 h
  unfold okT
  rw [run_app this]
theorem first_byte {b : UInt8} {l : List UInt8} (h : run .i8 (b :: l) = some .i8) : b.toNat < 128 ∨ 192 ≤ b.toNat := by
  cases hn : nx .i8 b.toNat with
  | none => rw [run_cons_no hn] at h; cases h
  | some q =>
    rcases nx_b0 hn with ⟨_, g⟩ | ⟨_, g⟩ | ⟨_, g⟩ | ⟨_, g⟩ | ⟨_, g⟩ | ⟨_, g⟩ | ⟨_, g⟩ | ⟨_, g⟩ <;> omega
theorem no_app (s t : List UInt8) (h : okT s = false) (ht : okT t = true) : okT (s ++ t) = false := by
  have ht' := (okT_iff t).1 ht
  rw [okT, decide_eq_false_iff_not]
  intro e
  have hs : run .i8 s ≠ some .i8 := by simpa [okT] using h
  cases hr : run .i8 s with
  | none => rw [run_app_no hr] at e; cases e
  | some p =>
    rw [run_app hr] at e
    have hp : p ≠ .i8 := by intro q; subst q; exact hs hr
    cases t with
    | nil => rw [run_nil] at e; exact hp (Option.some.inj e)
    | cons b l => rw [run_cons_no (nx_within hp (first_byte ht'))] at e; cases e
/-- What Count answers. -/
def cntV (l : List UInt8) : Int × Int := if okT l then ((chars l : Nat), 0) else (0, 30)
theorem count_v (s : ByteArray) (w : World) (g : Gx w) (hs : s.size < 9223372036854775807) (a e : Int) (h : cntV (bl s) = (a, e)) :
    Calls Tryd.prog 4 #[.string s] w fun r w' => r = .returned (.tuple #[.int .i64 a, .int .i64 e]) ∧ Below w.heap.size w w' := by
  refine (count_any s w g.gu hs).mono fun r w' ⟨hr, hb⟩ => ⟨?_, hb⟩
  subst hr
  unfold cntV at h
  cases hk : okT (bl s)
  · rw [hk] at h
    simp only [Bool.false_eq_true, if_false, Prod.mk.injEq] at h
    obtain ⟨rfl, rfl⟩ := h
    rfl
  · rw [hk] at h
    simp only [if_true, Prod.mk.injEq] at h
    obtain ⟨rfl, rfl⟩ := h
    rfl
set_option maxHeartbeats 2000000 in
set_option maxRecDepth 100000 in
theorem joins_any (s t : ByteArray) (w : World) (g : Gx w) (hs : s.size ≤ maxLen) (ht : t.size ≤ maxLen) :
    Calls Tryd.prog 3 #[.string s, .string t] w fun e w' => e = .returned (.bool true) ∧ Below w.heap.size w w' := by
  have ml : maxLen = 2 ^ 63 - 1 := rfl
  have g0 := hide g
  clear g
  by_cases hl1 : (16384 : Int) < (s.size : Int)
  · go_enter Tryd.func3, Tryd.ntmps3
    go_wp2
    go_ret
    exact ⟨rfl, Below.refl _ _⟩
  · by_cases hl2 : (16384 : Int) < (t.size : Int)
    · go_enter Tryd.func3, Tryd.ntmps3
      go_wp2
      go_ret
      exact ⟨rfl, Below.refl _ _⟩
    · obtain ⟨u, hu⟩ : ∃ u, s ++ t = u := ⟨_, rfl⟩
      have hub : bl u = bl s ++ bl t := by rw [← hu]; simp [bl, ByteArray.data_append]
      have hus : u.size = s.size + t.size := by rw [← bl_length, hub, List.length_append, bl_length, bl_length]
      have hcat : ∀ w, (Op.stringOp .add s t).run Tryd.prog w = .ok (.string u) w := fun w => cat_run _ _ _ w hu (by omega)
      obtain ⟨a, e, h1⟩ : ∃ a e, cntV (bl s) = (a, e) := ⟨_, _, rfl⟩
      obtain ⟨b, f, h2⟩ : ∃ b f, cntV (bl t) = (b, f) := ⟨_, _, rfl⟩
      obtain ⟨c, k, h3⟩ : ∃ c k, cntV (bl u) = (c, k) := ⟨_, _, rfl⟩
      have c1 := hide (fun W (g : Gx W) => count_v s W g (by omega) a e h1)
      have c2 := hide (fun W (g : Gx W) => count_v t W g (by omega) b f h2)
      have c3 := hide (fun W (g : Gx W) => count_v u W g (by omega) c k h3)
      have key : (e = 0 ∧ f = 0 ∧ k = 0 ∧ c = a + b ∧ 0 ≤ a ∧ a ≤ 16384 ∧ 0 ≤ b ∧ b ≤ 16384) ∨ (e = 0 ∧ f = 30 ∧ k = 30) ∨ (e = 30 ∧ f = 0 ∧ k = 30) ∨ (e = 30 ∧ f = 30 ∧ (k = 0 ∨ k = 30)) := by
        unfold cntV at h1 h2 h3
        rw [hub] at h3
        have l1 := chars_le (bl s)
        have l2 := chars_le (bl t)
        rw [bl_length] at l1 l2
        cases k1 : okT (bl s) <;> cases k2 : okT (bl t) <;> rw [k1] at h1 <;> rw [k2] at h2 <;> simp only [Bool.false_eq_true, if_false, if_true, Prod.mk.injEq] at h1 h2
        · right; right; right
          refine ⟨h1.2.symm, h2.2.symm, ?_⟩
          split at h3 <;> simp only [Prod.mk.injEq] at h3 <;> omega
        · rw [no_app _ _ k1 k2] at h3
          simp only [Bool.false_eq_true, if_false, Prod.mk.injEq] at h3
          right; right; left
          omega
        · rw [ok_app _ _ k1, k2] at h3
          simp only [Bool.false_eq_true, if_false, Prod.mk.injEq] at h3
          right; left
          omega
        · rw [ok_app _ _ k1, k2] at h3
          simp only [if_true, Prod.mk.injEq] at h3
          rw [chars_app _ (bl s) (bl t) (Nat.le_refl _) ((okT_iff _).1 k1)] at h3
          left
          omega
      clear h1 h2 h3 hub hu hus
      rcases key with ⟨rfl, rfl, rfl, rfl, ha, ha', hb, hb'⟩ | ⟨rfl, rfl, rfl⟩ | ⟨rfl, rfl, rfl⟩ | ⟨rfl, rfl, rfl | rfl⟩
      all_goals
        go_enter Tryd.func3, Tryd.ntmps3
        go_wp2_with (first | (go_at_call 4; first | (go_fit (c1.out w g0.out); rintro e w1 ⟨rfl, hb1⟩; have hb1 := hide hb1) | (go_fit (c2.out w1 (g0.out.below hb1.out)); rintro e w2 ⟨rfl, hb2⟩; have hb2 := hide (below_then hb1.out hb2)) | (go_fit (c3.out w2 (g0.out.below hb2.out)); rintro e w3 ⟨rfl, hb3⟩; have hb3 := hide (below_then hb2.out hb3))) | (go_at_call 5; first | (go_fit (awake_any w3 (g0.out.below hb3.out)); rintro e w4 ⟨rfl, hb4⟩; have hb4 := hide (below_then hb3.out hb4)) | (go_fit (awake_any w4 (g0.out.below hb4.out)); rintro e w5 ⟨rfl, hb5⟩; have hb5 := hide (below_then hb4.out hb5))))
        go_ret
        first | exact ⟨rfl, hb5.out⟩ | exact ⟨rfl, hb4.out⟩
end Go.Proofs.YtefiklklppfimabDoor
