/- The reference of layer 13: letter, digit, in, Name, number, Is, Long: walked. -/
import Derived.Test.YtjidnceccpmheaaGreatDoorZlArPrint
import Derived.Test.YtjidnceccpmheaaGreatDoorZlR
import Derived.Test.YtjidnceccpmheaaGreatDoorUZlD
namespace Go.Proofs.YtjidnceccpmheaaGreatDoor
namespace Lx
open Go.RowKit
set_option linter.unusedSimpArgs false
set_option linter.unusedVariables false
theorem rdig_any (c : UInt8) (w : World) : Calls Tryz.prog 28 #[.int .u8 (c.toNat : Int)] w fun e w' => e = .returned (.bool (isDig c)) ∧ w' = w := by
  unfold isDig
  by_cases h1 : 48 ≤ c.toNat
  · have i1 : (48 : Int) ≤ (c.toNat : Int) := by omega
    by_cases h2 : c.toNat ≤ 57
    · have i2 : (c.toNat : Int) ≤ 57 := by omega
      rw [decide_eq_true ⟨h1, h2⟩]
      go_enter Tryz.func28, Tryz.ntmps28
      go_wp2
      go_ret
      exact ⟨rfl, rfl⟩
    · have i2 : ¬ ((c.toNat : Int) ≤ 57) := by omega
      rw [decide_eq_false (fun q => h2 q.2)]
      go_enter Tryz.func28, Tryz.ntmps28
      go_wp2
      go_ret
      exact ⟨rfl, rfl⟩
  · have i1 : (c.toNat : Int) < 48 := by omega
    rw [decide_eq_false (fun q => h1 q.1)]
    go_enter Tryz.func28, Tryz.ntmps28
    go_wp2
    go_ret
    exact ⟨rfl, rfl⟩
theorem rlet_any (c : UInt8) (w : World) : Calls Tryz.prog 27 #[.int .u8 (c.toNat : Int)] w fun e w' => e = .returned (.bool (isLet c)) ∧ w' = w := by
  rcases let_ways c with ⟨h1, h⟩ | ⟨h1, h2, h⟩ | ⟨h1, h2, h3, h⟩ | ⟨h1, h⟩ | ⟨h1, h2, h⟩ | ⟨h1, h⟩ <;> rw [h] <;> clear h
  · have i1 : (c.toNat : Int) < 97 := by omega
    have i2 : (c.toNat : Int) < 65 := by omega
    have i3 : ((c.toNat : Int) == 95) = false := by simp; omega
    clear h1
    go_enter Tryz.func27, Tryz.ntmps27
    go_wp2
    go_ret
    exact ⟨rfl, rfl⟩
  · have i1 : (c.toNat : Int) < 97 := by omega
    have i2 : (65 : Int) ≤ (c.toNat : Int) := by omega
    have i3 : (c.toNat : Int) ≤ 90 := by omega
    clear h1 h2
    go_enter Tryz.func27, Tryz.ntmps27
    go_wp2
    go_ret
    exact ⟨rfl, rfl⟩
  · have i1 : (c.toNat : Int) < 97 := by omega
    have i2 : (65 : Int) ≤ (c.toNat : Int) := by omega
    have i3 : ¬ ((c.toNat : Int) ≤ 90) := by omega
    have i4 : ((c.toNat : Int) == 95) = false := by simp; omega
    clear h1 h2 h3
    go_enter Tryz.func27, Tryz.ntmps27
    go_wp2
    go_ret
    exact ⟨rfl, rfl⟩
  · rw [h1]
    clear h1
    go_enter Tryz.func27, Tryz.ntmps27
    go_wp2
    go_ret
    exact ⟨rfl, rfl⟩
  · have i1 : (97 : Int) ≤ (c.toNat : Int) := by omega
    have i3 : (c.toNat : Int) ≤ 122 := by omega
    clear h1 h2
    go_enter Tryz.func27, Tryz.ntmps27
    go_wp2
    go_ret
    exact ⟨rfl, rfl⟩
  · have i1 : (97 : Int) ≤ (c.toNat : Int) := by omega
    have i2 : (65 : Int) ≤ (c.toNat : Int) := by omega
    have i3 : ¬ ((c.toNat : Int) ≤ 122) := by omega
    have i5 : ¬ ((c.toNat : Int) ≤ 90) := by omega
    have i4 : ((c.toNat : Int) == 95) = false := by simp; omega
    clear h1
    go_enter Tryz.func27, Tryz.ntmps27
    go_wp2
    go_ret
    exact ⟨rfl, rfl⟩
set_option maxHeartbeats 1000000 in
theorem rin_any (s : ByteArray) (c : UInt8) (w : World) (hs : s.size ≤ 1000) : Calls Tryz.prog 29 #[.string s, .int .u8 (c.toNat : Int)] w fun e w' => e = .returned (.bool (decide (c ∈ bl s))) ∧ w' = w := by
  go_enter Tryz.func29, Tryz.ntmps29
  go_wp2
  go_loop [5] (fun i => ∃ k : Nat, i = .int .i64 k ∧ k ≤ s.size ∧ Hid (∀ j (h : j < s.size), j < k → ¬ s[j] = c)) (fun i => s.size - (intOf i).toNat)
  case atStart => exact ⟨0, rfl, Nat.zero_le _, fun j h1 h2 => by omega⟩
  case round =>
    obtain ⟨k, rfl, hk, H⟩ := hrel
    by_cases hkl : k < s.size
    · have hki : (k : Int) < (s.size : Int) := by omega
      by_cases he : s[k] = c
      · have hd : Hid (decide (c ∈ bl s) = true) := decide_eq_true (by rw [← he, ← bl_get s k hkl]; exact List.getElem_mem _)
        have e1 : ((s[k].toNat : Int) == (c.toNat : Int)) = true := by rw [he]; simp
        clear he
        go_wp2
        go_ret
        exact ⟨by rw [hd.out]; rfl, rfl⟩
      · have e1 : ((s[k].toNat : Int) == (c.toNat : Int)) = false := by
          have : ¬ s[k].toNat = c.toNat := fun q => he (UInt8.toNat_inj.1 q)
          simp
          omega
        have H2 : Hid (∀ j (h : j < s.size), j < k + 1 → ¬ s[j] = c) := fun j h1 h2 => by
          by_cases hj : j = k
          · subst hj; exact he
          · exact H.out j h1 (by omega)
        clear he H
        go_wp2
        go_round
        case rel => exact ⟨k + 1, by go_num, by omega, H2⟩
        case measure => simp [intOf]; omega
    · have hki : ¬ (k : Int) < (s.size : Int) := by omega
      have hd : Hid (decide (c ∈ bl s) = false) := decide_eq_false (fun h => by
        obtain ⟨j, hj, e⟩ := List.mem_iff_getElem.1 h
        have hj' : j < s.size := by rw [bl_length] at hj; exact hj
        rw [bl_get s j hj'] at e
        exact H.out j hj' (by omega) e)
      go_wp2
      go_ret
      exact ⟨by rw [hd.out]; rfl, rfl⟩
set_option maxRecDepth 100000 in
theorem in_n : ∀ n : Fin 256, let c := UInt8.ofNat n.val;
    decide (c ∈ bl ⟨#[46, 59, 44, 58, 61, 40, 41, 91, 93, 123, 125]⟩) = isMark c ∧ (isDig c || decide (c ∈ bl ⟨#[46, 101, 69, 43, 45]⟩)) = inNum c := by decide +kernel
theorem in_c (c : UInt8) : decide (c ∈ bl ⟨#[46, 59, 44, 58, 61, 40, 41, 91, 93, 123, 125]⟩) = isMark c ∧ (isDig c || decide (c ∈ bl ⟨#[46, 101, 69, 43, 45]⟩)) = inNum c := by
  have := in_n ⟨c.toNat, c.toNat_lt⟩
  simp only at this
  rwa [show UInt8.ofNat c.toNat = c by simp] at this
set_option maxRecDepth 100000 in
theorem ld_n : ∀ n : Fin 256, let c := UInt8.ofNat n.val; (isLet c = true → isDig c = false ∧ inName c = true) ∧ (inName c = true → isDig c = false → isLet c = true) := by decide +kernel
theorem ld_c (c : UInt8) : (isLet c = true → isDig c = false ∧ inName c = true) ∧ (inName c = true → isDig c = false → isLet c = true) := by
  have := ld_n ⟨c.toNat, c.toNat_lt⟩
  simp only at this
  rwa [show UInt8.ofNat c.toNat = c by simp] at this
/-- Is it a name? -/
def nameB (l : List UInt8) : Bool := !l.isEmpty && (nmS l == l.length)
theorem wh_iff {p : UInt8 → Bool} : ∀ {l : List UInt8}, wh p l = l.length ↔ ∀ c ∈ l, p c = true
  | [] => by simp [wh]
  | c :: l => by
    constructor
    · intro h d hd
      simp only [wh, List.length_cons] at h
      split at h
      · rename_i hc
        rcases List.mem_cons.1 hd with rfl | hd
        · exact hc
        · exact (wh_iff (l := l)).1 (by omega) d hd
      · omega
    · intro h
      exact wh_every h
theorem name_iff (s : ByteArray) : nameB (bl s) = true ↔ 0 < s.size ∧ ∀ j (h : j < s.size), isLet s[j] = true ∨ (j ≠ 0 ∧ isDig s[j] = true) := by
  cases hl : bl s with
  | nil =>
    have : s.size = 0 := by rw [← bl_length, hl]; rfl
    simp [nameB]
    omega
  | cons c l =>
    have hz : s.size = l.length + 1 := by rw [← bl_length, hl]; rfl
    have hat : ∀ j (h : j < s.size), s[j] = (c :: l)[j]'(by simp; omega) := fun j h => by
      rw [← bl_get s j h]
      simp only [hl]
    have hm : nameB (c :: l) = true ↔ (isDig c = false ∧ ∀ d ∈ c :: l, inName d = true) := by
      unfold nameB nmS
      simp only [List.isEmpty_cons, Bool.not_false, Bool.true_and, beq_iff_eq]
      cases hd : isDig c
      · simp only [Bool.false_eq_true, if_false, true_and]
        exact wh_iff
      · simp
    rw [hm]
    constructor
    · rintro ⟨h1, h2⟩
      refine ⟨by omega, fun j hj => ?_⟩
      rw [hat j hj]
      have hin := h2 _ (List.getElem_mem (l := c :: l) (n := j) (by simp; omega))
      cases hd : isDig ((c :: l)[j]'(by simp; omega))
      · exact Or.inl ((ld_c _).2 hin hd)
      · refine Or.inr ⟨fun e => ?_, rfl⟩
        subst e
        simp only [List.getElem_cons_zero] at hd
        rw [h1] at hd
        cases hd
    · rintro ⟨h1, h2⟩
      have h0 := h2 0 h1
      rw [hat 0 h1] at h0
      simp only [List.getElem_cons_zero, ne_eq, not_true_eq_false, false_and, or_false] at h0
      refine ⟨((ld_c c).1 h0).1, fun d hd => ?_⟩
      obtain ⟨j, hj, rfl⟩ := List.mem_iff_getElem.1 hd
      have hj' : j < s.size := by rw [hz]; simpa using hj
      have := h2 j hj'
      rw [hat j hj'] at this
      rcases this with h | ⟨_, h⟩
      · exact ((ld_c _).1 h).2
      · simp [inName, h]
set_option maxHeartbeats 1000000 in
theorem rname_any (s : ByteArray) (w : World) (hs : s.size ≤ 100000) : Calls Tryz.prog 34 #[.string s] w fun e w' => e = .returned (.bool (nameB (bl s))) ∧ w' = w := by
  have hni := hide (name_iff s)
  obtain ⟨r, hr⟩ : ∃ r, nameB (bl s) = r := ⟨_, rfl⟩
  rw [hr] at hni ⊢
  clear hr
  go_enter Tryz.func34, Tryz.ntmps34
  go_wp2
  go_loop [3] (fun i => ∃ k : Nat, i = .int .i64 k ∧ k ≤ s.size ∧ Hid (∀ j (h : j < s.size), j < k → isLet s[j] = true ∨ (j ≠ 0 ∧ isDig s[j] = true))) (fun i => s.size - (intOf i).toNat)
  case atStart => exact ⟨0, rfl, Nat.zero_le _, fun j h1 h2 => by omega⟩
  case round =>
    obtain ⟨k, rfl, hk, H⟩ := hrel
    by_cases hkl : k < s.size
    · have hki : (k : Int) < (s.size : Int) := by omega
      have hl := hide (fun w => rlet_any s[k] w)
      have hd := hide (fun w => rdig_any s[k] w)
      obtain ⟨a, ha⟩ : ∃ a, isLet s[k] = a := ⟨_, rfl⟩
      obtain ⟨b, hb⟩ : ∃ b, isDig s[k] = b := ⟨_, rfl⟩
      rw [ha] at hl
      rw [hb] at hd
      by_cases hok : a = true ∨ (k ≠ 0 ∧ b = true)
      · have H2 : Hid (∀ j (h : j < s.size), j < k + 1 → isLet s[j] = true ∨ (j ≠ 0 ∧ isDig s[j] = true)) := fun j h1 h2 => by
          by_cases hj : j = k
          · subst hj; rw [ha, hb]; exact hok
          · exact H.out j h1 (by omega)
        have hways : a = true ∨ (a = false ∧ k ≠ 0 ∧ b = true) := by
          cases a
          · rcases hok with h | h
            · cases h
            · exact Or.inr ⟨rfl, h⟩
          · exact Or.inl rfl
        clear H hok ha hb
        rcases hways with rfl | ⟨rfl, hk0, rfl⟩
        · go_wp2_with (first | (go_at_call 27; refine (hl.out _).mono ?_; rintro e w1 ⟨rfl, hw1⟩; have hw1s := hw1.symm; clear hw1; subst hw1s))
          go_round
          case rel => exact ⟨k + 1, by go_num, by omega, H2⟩
          case measure => simp [intOf]; omega
        · have e0 : ((k : Int) == 0) = false := by simp; omega
          clear hk0
          go_wp2_with (first | (go_at_call 27; refine (hl.out _).mono ?_; rintro e w1 ⟨rfl, hw1⟩; have hw1s := hw1.symm; clear hw1; subst hw1s) | (go_at_call 28; refine (hd.out _).mono ?_; rintro e w2 ⟨rfl, hw2⟩; have hw2s := hw2.symm; clear hw2; subst hw2s))
          go_round
          case rel => exact ⟨k + 1, by go_num, by omega, H2⟩
          case measure => simp [intOf]; omega
      · have hr : Hid (r = false) := by
          show _ = _
          cases r
          · rfl
          · have := (hni.out.1 rfl).2 k hkl
            rw [ha, hb] at this
            exact absurd this hok
        have ha0 : a = false := by
          cases a
          · rfl
          · exact absurd (Or.inl rfl) hok
        subst ha0
        have hkb : k = 0 ∨ (k ≠ 0 ∧ b = false) := by
          by_cases hk0 : k = 0
          · exact Or.inl hk0
          · refine Or.inr ⟨hk0, ?_⟩
            cases b
            · rfl
            · exact absurd (Or.inr ⟨hk0, rfl⟩) hok
        clear hok ha hb H
        rcases hkb with hk0 | ⟨hk0, rfl⟩
        · have e0 : ((k : Int) == 0) = true := by simp; omega
          clear hk0
          go_wp2_with (first | (go_at_call 27; refine (hl.out _).mono ?_; rintro e w1 ⟨rfl, hw1⟩; have hw1s := hw1.symm; clear hw1; subst hw1s))
          go_ret
          exact ⟨by rw [hr.out]; rfl, rfl⟩
        · have e0 : ((k : Int) == 0) = false := by simp; omega
          clear hk0
          go_wp2_with (first | (go_at_call 27; refine (hl.out _).mono ?_; rintro e w1 ⟨rfl, hw1⟩; have hw1s := hw1.symm; clear hw1; subst hw1s) | (go_at_call 28; refine (hd.out _).mono ?_; rintro e w2 ⟨rfl, hw2⟩; have hw2s := hw2.symm; clear hw2; subst hw2s))
          go_ret
          exact ⟨by rw [hr.out]; rfl, rfl⟩
    · have hki : ¬ (k : Int) < (s.size : Int) := by omega
      by_cases h0 : 0 < s.size
      · have h0i : (0 : Int) < (s.size : Int) := by omega
        have hr : Hid (r = true) := hni.out.2 ⟨h0, fun j hj => H.out j hj (by omega)⟩
        go_wp2
        go_ret
        exact ⟨by rw [hr.out]; rfl, rfl⟩
      · have h0i : ¬ (0 : Int) < (s.size : Int) := by omega
        have hr : Hid (r = false) := by
          show _ = _
          cases r
          · rfl
          · exact absurd (hni.out.1 rfl).1 h0
        go_wp2
        go_ret
        exact ⟨by rw [hr.out]; rfl, rfl⟩
/-- A number's form has no other bytes. -/
theorem tl_mem {b c : UInt8} {l : List UInt8} (h : c ∈ l) : c = b ∨ c ∈ tlB b l := by
  cases l with
  | nil => cases h
  | cons d l =>
    unfold tlB hdB
    by_cases hd : d = b
    · subst hd
      rcases List.mem_cons.1 h with rfl | h
      · exact Or.inl rfl
      · right; simpa using h
    · right
      rw [if_neg (by simpa using hd)]
      exact h
set_option maxRecDepth 100000 in
theorem isd_n : ∀ n : Fin 256, Go.Proofs.YtjidnceccpmheaaGreatDoor.isDig (UInt8.ofNat n.val) = isDig (UInt8.ofNat n.val) := by decide +kernel
theorem isd_eq (c : UInt8) : Go.Proofs.YtjidnceccpmheaaGreatDoor.isDig c = isDig c := by
  have := isd_n ⟨c.toNat, c.toNat_lt⟩
  simp only at this
  rwa [show UInt8.ofNat c.toNat = c by simp] at this
theorem tw_all {p : UInt8 → Bool} {c : UInt8} : ∀ {l : List UInt8}, c ∈ l.takeWhile p → p c = true
  | [], h => by cases h
  | d :: l, h => by
    rw [List.takeWhile_cons] at h
    split at h
    · rename_i hd
      rcases List.mem_cons.1 h with rfl | h
      · exact hd
      · exact tw_all h
    · cases h
theorem tw_mem {c : UInt8} {l : List UInt8} (h : c ∈ l) : isDig c = true ∨ c ∈ l.dropWhile Go.Proofs.YtjidnceccpmheaaGreatDoor.isDig := by
  rw [← List.takeWhile_append_dropWhile (p := Go.Proofs.YtjidnceccpmheaaGreatDoor.isDig) (l := l)] at h
  rcases List.mem_append.1 h with h | h
  · left
    have := tw_all h
    rwa [isd_eq] at this
  · exact Or.inr h
theorem pw_mem {l : List UInt8} (h : spOk l = true) : ∀ c ∈ l, inNum c = true := by
  intro c hc
  have hall : ∀ d ∈ spL l, isDig d = true := fun d hd => by
    unfold spOk allD at h
    simp only [Bool.and_eq_true] at h
    have := List.all_eq_true.1 h.2 d hd
    rwa [isd_eq] at this
  have key : c = 43 ∨ c = 45 ∨ c ∈ spL l := by
    unfold spL
    split
    · rcases tl_mem (b := 43) hc with h | h
      · exact Or.inl h
      · exact Or.inr (Or.inr h)
    · rcases tl_mem (b := 45) hc with h | h
      · exact Or.inr (Or.inl h)
      · exact Or.inr (Or.inr h)
  rcases key with rfl | rfl | h
  · rfl
  · rfl
  · simp [inNum, hall c h]
theorem split_mem {l : List UInt8} (h : splitL l ≠ none) : ∀ c ∈ l, inNum c = true := by
  have dg : ∀ c, isDig c = true → inNum c = true := fun c h => by simp [inNum, h]
  have tail : ∀ (n : Bool) (wh fr l4 : List UInt8), splitT n wh fr l4 ≠ none → ∀ c ∈ l4, inNum c = true := by
    intro n wh fr l4 h c hc
    unfold splitT at h
    cases l4 with
    | nil => cases hc
    | cons d r =>
      simp only at h
      split at h
      · rename_i hd
        split at h
        · rename_i hok
          rcases List.mem_cons.1 hc with rfl | hc
          · simp only [Bool.or_eq_true, beq_iff_eq] at hd
            rcases hd with rfl | rfl <;> rfl
          · exact pw_mem hok c hc
        · exact absurd rfl h
      · exact absurd rfl h
  intro c hc
  unfold splitL at h
  split at h
  · exact absurd rfl h
  · rcases tl_mem (b := 45) hc with rfl | hc
    · rfl
    · rcases tw_mem hc with hd | hc
      · exact dg c hd
      · split at h
        · split at h
          · exact absurd rfl h
          · rcases tl_mem (b := 46) hc with rfl | hc
            · rfl
            · rcases tw_mem hc with hd | hc
              · exact dg c hd
              · exact tail _ _ _ _ h c hc
        · exact tail _ _ _ _ h c hc
theorem nok_mem {l : List UInt8} (h : nok l = true) : ∀ c ∈ l, inNum c = true := by
  refine split_mem fun e => ?_
  unfold nok parseF at h
  rw [e] at h
  simp at h
/-- A number's token. -/
def numB : List UInt8 → Bool
  | [] => false
  | c :: l => (isDig c || c.toNat == 45) && nok (c :: l)
theorem numB_eq (l : List UInt8) (hne : l ≠ []) : ((cutK nok 2 l).2 == l.length) = numB l := by
  cases l with
  | nil => exact absurd rfl hne
  | cons c l =>
    have e : (cutK nok 2 (c :: l)).2 = nuS nok (c :: l) := rfl
    rw [e]
    simp only [numB, nuS]
    cases hd : (isDig c || c.toNat == 45)
    · have h0 : (!(c.toNat == 45) && !isDig c) = true := by
        simp only [Bool.or_eq_false_iff] at hd
        simp [hd.1, hd.2]
      rw [if_pos h0]
      simp
    · have h0 : (!(c.toNat == 45) && !isDig c) = false := by
        cases h1 : isDig c
        · rw [h1] at hd; simp only [Bool.false_or] at hd; simp [hd]
        · simp
      simp only [h0, Bool.false_eq_true, if_false, Bool.true_and]
      cases hn : nok (c :: l)
      · by_cases hw : wh inNum (c :: l) = (c :: l).length
        · rw [hw, List.take_length, hn]; simp
        · split
          · simpa using hw
          · simp
      · have hw : wh inNum (c :: l) = (c :: l).length := wh_every (nok_mem hn)
        rw [hw, List.take_length, hn]
        simp
set_option maxHeartbeats 1000000 in
theorem rnum_any (s : ByteArray) (w : World) (hs : s.size ≤ 80000) : Calls Tryz.prog 30 #[.string s] w fun e w' => e = .returned (.bool (numB (bl s))) ∧ Below w.heap.size w w' := by
  have hp := hide (rparse_same s w hs)
  obtain ⟨a, ha⟩ : ∃ a, parseF (bl s) = a := ⟨_, rfl⟩
  obtain ⟨a1, a2, a3, a4⟩ := a
  have hnk : nok (bl s) = !decide (a4 = 10) := by unfold nok; rw [ha]
  rw [ha] at hp
  simp only [retF] at hp
  by_cases h0 : 0 < s.size
  · have h0i : (0 : Int) < (s.size : Int) := by omega
    obtain ⟨l, hl⟩ := bl_cons s h0
    have hB : numB (bl s) = ((isDig s[0] || s[0].toNat == 45) && nok (bl s)) := by rw [hl]; rfl
    rw [hB, hnk]
    have hd := hide (fun w => rdig_any s[0] w)
    obtain ⟨b, hbb⟩ : ∃ b, isDig s[0] = b := ⟨_, rfl⟩
    rw [hbb] at hd ⊢
    obtain ⟨m, hm⟩ : ∃ m, (s[0].toNat == 45) = m := ⟨_, rfl⟩
    have hm1 : ((s[0].toNat : Int) == 45) = m := by rw [← hm]; cases h : (s[0].toNat == 45) <;> simp at h ⊢ <;> omega
    rw [hm]
    have h10 : (a4 != 10) = !decide (a4 = 10) := by by_cases h : a4 = 10 <;> simp [h]
    obtain ⟨q, hq⟩ : ∃ q, (!decide (a4 = 10)) = q := ⟨_, rfl⟩
    rw [hq] at h10 ⊢
    clear hB hnk ha hl hbb hm hq
    cases b <;> cases m
    all_goals
      go_enter Tryz.func30, Tryz.ntmps30
      go_wp2_with (first | (go_at_call 45; refine hp.out.mono ?_; rintro e w1 ⟨rfl, hb1⟩; have hb1 := hide hb1) | (go_at_call 28; refine (hd.out _).mono ?_; rintro e w2 ⟨rfl, hw2⟩; have hw2s := hw2.symm; clear hw2; subst hw2s))
      go_ret
      first | exact ⟨rfl, below_al hb1.out⟩ | exact ⟨by simp, below_al hb1.out⟩ | exact ⟨by cases q <;> rfl, below_al hb1.out⟩
  · have h0i : ¬ (0 : Int) < (s.size : Int) := by omega
    have hl : bl s = [] := List.length_eq_zero_iff.1 (by rw [bl_length]; omega)
    rw [hl]
    clear hnk ha hl
    go_enter Tryz.func30, Tryz.ntmps30
    go_wp2_with (first | (go_at_call 45; refine hp.out.mono ?_; rintro e w1 ⟨rfl, hb1⟩; have hb1 := hide hb1))
    go_ret
    exact ⟨rfl, below_al hb1.out⟩
end Lx
end Go.Proofs.YtjidnceccpmheaaGreatDoor
