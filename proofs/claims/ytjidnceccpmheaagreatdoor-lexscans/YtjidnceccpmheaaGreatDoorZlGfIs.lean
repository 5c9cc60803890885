/- The reference of layer 13: Is, Long, Print: walked. -/
import Derived.Test.YtjidnceccpmheaaGreatDoorZlGcRef
import Derived.Test.YtjidnceccpmheaaGreatDoorZlGeQuo
namespace Go.Proofs.YtjidnceccpmheaaGreatDoor
namespace Lx
open Go.RowKit
set_option linter.unusedSimpArgs false
set_option linter.unusedVariables false
theorem rvalid_any (s : ByteArray) (w : World) (hs : s.size ≤ 100000) : Calls Tryz.prog 35 #[.string s] w fun e w' => e = .returned (.bool (okT (bl s))) ∧ Below w.heap.size w w' := by
  have hc := hide (Ut.rcount_any s w (by omega))
  have he : Hid (Ut.okT (Ut.bl s) = okT (bl s)) := rfl
  go_enter Tryz.func35, Tryz.ntmps35
  go_wp2_with fail
  refine hc.out.mono ?_
  rintro e w1 ⟨⟨m, e, hce, rfl⟩, hb1⟩
  rcases hce with ⟨h1, _, h3⟩ | ⟨h1, _, h3⟩
  · subst h3
    have h2 : Hid (okT (bl s) = true) := by have := he.out; rw [h1] at this; exact this.symm
    clear h1
    go_wp2
    go_ret
    exact ⟨by rw [h2.out]; rfl, hb1⟩
  · have h2 : Hid (okT (bl s) = false) := by have := he.out; rw [h1] at this; exact this.symm
    have e0 : ((e : Int) == 0) = false := by simp; omega
    clear h1 h3
    go_wp2
    go_ret
    exact ⟨by rw [h2.out]; rfl, hb1⟩
theorem isT_1 (l : List UInt8) : isT nok 1 l = nameB l := by
  cases l with
  | nil => rfl
  | cons c l => simp [isT, kdW, nameB, cutK]
theorem isT_2 (l : List UInt8) : isT nok 2 l = okT l := by simp [isT, kdW]
theorem isT_3 (l : List UInt8) : isT nok 3 l = numB l := by
  cases l with
  | nil => rfl
  | cons c l =>
    rw [← numB_eq (c :: l) (by simp)]
    simp [isT, kdW]
def mkQ : List UInt8 → Bool
  | [c] => isMark c
  | _ => false
theorem isT_4 (l : List UInt8) : isT nok 4 l = mkQ l := by
  match l with
  | [] => rfl
  | [c] => simp only [isT, kdW, cutK, mkS, mkQ]; cases isMark c <;> simp
  | c :: d :: l => simp only [isT, kdW, cutK, mkS, mkQ]; cases isMark c <;> simp
theorem isT_0 (x : Int) (l : List UInt8) (h1 : ¬ x = 1) (h2 : ¬ x = 2) (h3 : ¬ x = 3) (h4 : ¬ x = 4) : isT nok x l = false := by
  unfold isT kdW
  simp [h1, h2, h3, h4]
set_option maxHeartbeats 2000000 in
set_option maxRecDepth 100000 in
theorem ris_any (t : Tk) (w : World) (hs : t.s.length ≤ 70000) : Calls Tryz.prog 20 #[.agg #[.int .i64 t.w, .string (mkB t.s), .int .i64 t.p]] w fun e w' => e = .returned (.bool (isT nok t.w t.s)) ∧ Below w.heap.size w w' := by
  obtain ⟨x, l, p⟩ := t
  simp only at hs ⊢
  obtain ⟨s, hsd⟩ : ∃ s, mkB l = s := ⟨_, rfl⟩
  have hsb : bl s = l := by rw [← hsd, bl_mkB]
  have hsz : s.size = l.length := by rw [← hsd, mkB_size]
  rw [hsd]
  have hB0 : Hid (∀ o, Below w.heap.size w (w.alloc o)) := fun o => below_al (Below.refl _ _)
  by_cases h1 : x = 1
  · subst h1
    have hn := hide (fun o => rname_any s (w.alloc o) (by omega))
    rw [hsb] at hn
    rw [isT_1]
    obtain ⟨b, hb⟩ : ∃ b, nameB l = b := ⟨_, rfl⟩
    rw [hb] at hn ⊢
    clear hsb hsd hb
    go_enter Tryz.func20, Tryz.ntmps20
    go_wp2_with (go_at_call 34; refine (hn.out _).mono ?_; rintro e w1 ⟨rfl, hw1⟩; have hw1s := hw1.symm; clear hw1; subst hw1s)
    go_ret
    exact ⟨rfl, hB0.out _⟩
  · have e1 : (x == 1) = false := by simpa using h1
    by_cases h2 : x = 2
    · subst h2
      have hn := hide (fun o => rvalid_any s (w.alloc o) (by omega))
      rw [hsb] at hn
      rw [isT_2]
      obtain ⟨b, hb⟩ : ∃ b, okT l = b := ⟨_, rfl⟩
      rw [hb] at hn ⊢
      clear hsb hsd hb h1
      go_enter Tryz.func20, Tryz.ntmps20
      go_wp2_with (go_at_call 35; refine (hn.out _).mono ?_; rintro e w1 ⟨rfl, hb1⟩; have hb1 := hide (below_then (hB0.out _) hb1))
      go_ret
      exact ⟨rfl, hb1.out⟩
    · have e2 : (x == 2) = false := by simpa using h2
      by_cases h3 : x = 3
      · subst h3
        have hn := hide (fun o => rnum_any s (w.alloc o) (by omega))
        rw [hsb] at hn
        rw [isT_3]
        obtain ⟨b, hb⟩ : ∃ b, numB l = b := ⟨_, rfl⟩
        rw [hb] at hn ⊢
        clear hsb hsd hb h1 h2
        go_enter Tryz.func20, Tryz.ntmps20
        go_wp2_with (go_at_call 30; refine (hn.out _).mono ?_; rintro e w1 ⟨rfl, hb1⟩; have hb1 := hide (below_then (hB0.out _) hb1))
        go_ret
        exact ⟨rfl, hb1.out⟩
      · have e3 : (x == 3) = false := by simpa using h3
        by_cases h4 : x = 4
        · subst h4
          rw [isT_4]
          by_cases hl1 : l.length = 1
          · have i1 : ((s.size : Int) == 1) = true := by rw [hsz, hl1]; rfl
            have i0 : (0 : Int) < (s.size : Int) := by rw [hsz, hl1]; decide
            have i0n : 0 < s.size := by omega
            obtain ⟨c, rfl⟩ : ∃ c, l = [c] := by
              match l, hl1 with
              | [c], _ => exact ⟨c, rfl⟩
            have hc : s[0] = c := by rw [← bl_get s 0 i0n]; simp only [hsb, List.getElem_cons_zero]
            have hn := hide (fun o => rin_any ⟨#[46, 59, 44, 58, 61, 40, 41, 91, 93, 123, 125]⟩ s[0] (w.alloc o) (by decide))
            rw [(in_c _).1, hc] at hn
            simp only [mkQ]
            obtain ⟨b, hb⟩ : ∃ b, isMark c = b := ⟨_, rfl⟩
            rw [hb] at hn ⊢
            clear hsb hsd hb h1 h2 h3 hsz
            go_enter Tryz.func20, Tryz.ntmps20
            go_wp2_with (go_at_call 29; refine (hn.out _).mono ?_; rintro e w1 ⟨rfl, hw1⟩; have hw1s := hw1.symm; clear hw1; subst hw1s)
            go_ret
            exact ⟨rfl, hB0.out _⟩
          · have i1 : ((s.size : Int) == 1) = false := by rw [hsz]; simp; omega
            have hm : mkQ l = false := by
              match l, hl1 with
              | [], _ => rfl
              | [c], h => simp at h
              | c :: d :: l, _ => rfl
            rw [hm]
            clear hsb hsd h1 h2 h3 hsz hm hl1
            go_enter Tryz.func20, Tryz.ntmps20
            go_wp2
            go_ret
            exact ⟨rfl, hB0.out _⟩
        · have e4 : (x == 4) = false := by simpa using h4
          rw [isT_0 x l h1 h2 h3 h4]
          clear hsb hsd h1 h2 h3 h4 hsz
          go_enter Tryz.func20, Tryz.ntmps20
          go_wp2
          go_ret
          exact ⟨rfl, hB0.out _⟩
/-- Is one too long, by the reference? -/
def lonR (t : Tk) : Bool := if t.w = 1 then decide (64 < t.s.length) else if t.w = 3 then decide (512 < t.s.length) else decide (4096 < t.s.length)
set_option maxHeartbeats 1000000 in
theorem rlong_any (t : Tk) (w : World) (hs : t.s.length ≤ 70000) : Calls Tryz.prog 15 #[.agg #[.int .i64 t.w, .string (mkB t.s), .int .i64 t.p]] w fun e w' => e = .returned (.bool (lonR t)) ∧ Below w.heap.size w w' := by
  obtain ⟨x, l, p⟩ := t
  simp only [lonR] at hs ⊢
  obtain ⟨s, hsd⟩ : ∃ s, mkB l = s := ⟨_, rfl⟩
  have hsz : s.size = l.length := by rw [← hsd, mkB_size]
  rw [hsd]
  have hB0 : Hid (∀ o, Below w.heap.size w (w.alloc o)) := fun o => below_al (Below.refl _ _)
  have hw : ∀ m : Nat, decide (m < l.length) = decide ((m : Int) < (s.size : Int)) := fun m => by rw [hsz]; simp
  by_cases h1 : x = 1
  · subst h1
    rw [if_pos rfl, hw 64]
    clear hw hsd hsz
    go_enter Tryz.func15, Tryz.ntmps15
    go_wp2
    go_ret
    exact ⟨by first | rfl | simp, hB0.out _⟩
  · have e1 : (x == 1) = false := by simpa using h1
    rw [if_neg h1]
    by_cases h3 : x = 3
    · subst h3
      rw [if_pos rfl, hw 512]
      clear hw hsd h1 hsz
      go_enter Tryz.func15, Tryz.ntmps15
      go_wp2
      go_ret
      exact ⟨by first | rfl | simp, hB0.out _⟩
    · have e3 : (x == 3) = false := by simpa using h3
      rw [if_neg h3, hw 4096]
      clear hw hsd h1 h3 hsz
      go_enter Tryz.func15, Tryz.ntmps15
      go_wp2
      go_ret
      exact ⟨by first | rfl | simp, hB0.out _⟩
theorem lon_eq (t : Tk) (h : isT nok t.w t.s = true) : lonR t = lon t := by
  obtain ⟨x, l, p⟩ := t
  simp only [lonR, lon] at h ⊢
  by_cases h1 : x = 1
  · subst h1; rfl
  · by_cases h2 : x = 2
    · subst h2; rfl
    · by_cases h3 : x = 3
      · subst h3; rfl
      · by_cases h4 : x = 4
        · subst h4
          rw [isT_4] at h
          match l, h with
          | [c], _ => rfl
        · rw [isT_0 x l h1 h2 h3 h4] at h; cases h
end Lx
end Go.Proofs.YtjidnceccpmheaaGreatDoor
