/- The reference of layer 13: token: walked. -/
import Derived.Test.YtjidnceccpmheaaGreatDoorZlGkText
import Derived.Test.YtjidnceccpmheaaGreatDoorZlGhPrints
namespace Go.Proofs.YtjidnceccpmheaaGreatDoor
namespace Lx
open Go.RowKit
set_option linter.unusedSimpArgs false
set_option linter.unusedVariables false
/-- What token answers. -/
def TkP (o : Option (Nat × List UInt8 × Nat)) (e : Ending) : Prop := match o with
  | none => ∃ (x : Int) (y : ByteArray), e = .returned (.tuple #[.agg #[.int .i64 x, .string y, .int .i64 0], .int .i64 0])
  | some (k, t, n) => e = .returned (.tuple #[.agg #[.int .i64 (wdK k : Nat), .string (mkB t), .int .i64 0], .int .i64 (n : Nat)])
theorem tok_k (c : UInt8) (l : List UInt8) (k : Nat) (hk : cls c = k) (h5 : k < 5) : tok nok (c :: l) = if (cutK nok k (c :: l)).2 = 0 then none else some (k, (cutK nok k (c :: l)).1, (cutK nok k (c :: l)).2) := by
  by_cases h0 : (cutK nok k (c :: l)).2 = 0
  · rw [if_pos h0]
    have ho : ∀ j, (cutK nok j (c :: l)).2 = 0 := fun j => by
      by_cases hj : cls c = j
      · rw [← hj, hk]; exact h0
      · exact cut_other nok c l j hj
    simp [tok, fstK, ho]
  · rw [if_neg h0]
    exact tok_of nok c l k hk h5 rfl h0
theorem tok_5 (c : UInt8) (l : List UInt8) (hk : cls c = 5) : tok nok (c :: l) = none := by
  have ho : ∀ j, j < 5 → (cutK nok j (c :: l)).2 = 0 := fun j hj => cut_other nok c l j (by omega)
  simp [tok, fstK, ho 0 (by omega), ho 1 (by omega), ho 2 (by omega), ho 3 (by omega), ho 4 (by omega)]
set_option maxRecDepth 100000 in
theorem cl_n : ∀ n : Fin 256, let c := UInt8.ofNat n.val;
    (cls c = 1 → isLet c = true ∧ isDig c = false ∧ inName c = true) ∧ (cls c = 2 → isLet c = false ∧ (isDig c || c.toNat == 45) = true ∧ inNum c = true) ∧ (cls c = 3 → isLet c = false ∧ isDig c = false ∧ c.toNat = 34) ∧ (cls c = 4 → isLet c = false ∧ isDig c = false ∧ ¬ c.toNat = 45 ∧ ¬ c.toNat = 34 ∧ isMark c = true) ∧
    (cls c = 5 → isLet c = false ∧ isDig c = false ∧ ¬ c.toNat = 45 ∧ ¬ c.toNat = 34 ∧ isMark c = false) ∧ cls c ≤ 5 ∧ (cls c = 0 → c.toNat = 35 ∨ isBlk c = true) := by decide +kernel
theorem cl_c (c : UInt8) : (cls c = 1 → isLet c = true ∧ isDig c = false ∧ inName c = true) ∧ (cls c = 2 → isLet c = false ∧ (isDig c || c.toNat == 45) = true ∧ inNum c = true) ∧ (cls c = 3 → isLet c = false ∧ isDig c = false ∧ c.toNat = 34) ∧ (cls c = 4 → isLet c = false ∧ isDig c = false ∧ ¬ c.toNat = 45 ∧ ¬ c.toNat = 34 ∧ isMark c = true) ∧
    (cls c = 5 → isLet c = false ∧ isDig c = false ∧ ¬ c.toNat = 45 ∧ ¬ c.toNat = 34 ∧ isMark c = false) ∧ cls c ≤ 5 ∧ (cls c = 0 → c.toNat = 35 ∨ isBlk c = true) := by
  have := cl_n ⟨c.toNat, c.toNat_lt⟩
  simp only at this
  rwa [show UInt8.ofNat c.toNat = c by simp] at this
def ztk : Array Value := #[.int .i64 0, .string ⟨#[]⟩, .int .i64 0]
/-- The box of the answer. -/
def BT (W : World) (g : Nat) : Prop := ∃ u0 u1 u2, W.heap[g]? = some (.cells #[u0, u1, u2] 32 (0, 0))
theorem BT.keep {W W1 : World} {g : Nat} (h : BT W g) (hb : Below W.heap.size W W1) : BT W1 g := by
  obtain ⟨u0, u1, u2, h⟩ := h
  exact ⟨u0, u1, u2, (hb.block g (Array.getElem?_eq_some_iff.1 h).1).trans h⟩
theorem BT.facts {W : World} {g : Nat} (h : BT W g) : (∃ u, W.cell? ⟨g, 0, none⟩ = some u) ∧ (∃ u, W.cell? ⟨g, 1, none⟩ = some u) ∧ (∃ u, W.cell? ⟨g, 2, none⟩ = some u) ∧ (∀ j, W.frozen? ⟨g, j, none⟩ = false) ∧ g < W.heap.size := by
  obtain ⟨u0, u1, u2, h⟩ := h
  refine ⟨⟨u0, by simp [World.cell?, h]⟩, ⟨u1, by simp [World.cell?, h]⟩, ⟨u2, by simp [World.cell?, h]⟩, fun j => by simp [World.frozen?, h], (Array.getElem?_eq_some_iff.1 h).1⟩
theorem BT.set {W : World} {g : Nat} (h : BT W g) (a b c : Value) : (((W.setCell ⟨g, 0, none⟩ a).setCell ⟨g, 1, none⟩ b).setCell ⟨g, 2, none⟩ c).heap[g]? = some (.cells #[a, b, c] 32 (0, 0)) := by
  obtain ⟨u0, u1, u2, h⟩ := h
  have h1 := blk_set h 0 a
  have h2 := blk_set h1 1 b
  have h3 := blk_set h2 2 c
  rw [h3]
  rfl
set_option maxHeartbeats 2000000 in
set_option maxRecDepth 100000 in
theorem rtok_4 (s : ByteArray) (w : World) (h0 : 0 < s.size) (hs : s.size ≤ 40000) (hc : cls s[0] = 4) : Calls Tryz.prog 14 #[.string s] w fun e w' => TkP (tok nok (bl s)) e ∧ Below w.heap.size w w' := by
  obtain ⟨l, hl⟩ := bl_cons s h0
  obtain ⟨c1, c2, c3, c4, c5⟩ := (cl_c s[0]).2.2.2.1 hc
  have ht : tok nok (bl s) = some (4, [s[0]], 1) := by
    rw [hl, tok_k _ _ 4 hc (by omega)]
    simp [cutK, mkS, c5]
  rw [ht]
  have h0i : (0 : Int) < (s.size : Int) := by omega
  have h1i : (1 : Int) ≤ (s.size : Int) := by omega
  have hle := hide (fun w => rlet_any s[0] w)
  have hdi := hide (fun w => rdig_any s[0] w)
  have hin := hide (fun w => rin_any ⟨#[46, 59, 44, 58, 61, 40, 41, 91, 93, 123, 125]⟩ s[0] w (by decide))
  rw [(in_c _).1, c5] at hin
  rw [c1] at hle
  rw [c2] at hdi
  have e45 : ((s[0].toNat : Int) == 45) = false := by simp; omega
  have e34 : ((s[0].toNat : Int) == 34) = false := by simp; omega
  have hex : s.extract 0 1 = mkB [s[0]] := by rw [take_mk, hl]; rfl
  show Calls _ _ _ _ fun e w' => e = .returned (.tuple #[.agg #[.int .i64 4, .string (mkB [s[0]]), .int .i64 0], .int .i64 1]) ∧ Below w.heap.size w w'
  clear ht hl c1 c2 c3 c4 c5 hc
  have Z0 : Hid (Below w.heap.size w (w.alloc (.cells #[.int .i64 0, .string ⟨#[]⟩, .int .i64 0] 32))) := below_al (Below.refl _ _)
  go_enter Tryz.func14, Tryz.ntmps14
  go_wp2_with (first | (go_at_call 27; refine (hle.out _).mono ?_; rintro e w1 ⟨rfl, hw1⟩; have hw1s := hw1.symm; clear hw1; subst hw1s) | (go_at_call 28; refine (hdi.out _).mono ?_; rintro e w1 ⟨rfl, hw1⟩; have hw1s := hw1.symm; clear hw1; subst hw1s) | (go_at_call 29; refine (hin.out _).mono ?_; rintro e w1 ⟨rfl, hw1⟩; have hw1s := hw1.symm; clear hw1; subst hw1s))
  exact bodyPost_ret (v := .tuple #[.agg #[.int .i64 4, .string (mkB [s[0]]), .int .i64 0], .int .i64 1]) (by simp [results, Tryz.results14, go_sem]) rfl ⟨rfl, below_al (Below.refl _ _)⟩
set_option maxHeartbeats 2000000 in
set_option maxRecDepth 100000 in
theorem rtok_5 (s : ByteArray) (w : World) (h0 : 0 < s.size) (hs : s.size ≤ 40000) (hc : cls s[0] = 5) : Calls Tryz.prog 14 #[.string s] w fun e w' => TkP (tok nok (bl s)) e ∧ Below w.heap.size w w' := by
  obtain ⟨l, hl⟩ := bl_cons s h0
  obtain ⟨c1, c2, c3, c4, c5⟩ := (cl_c s[0]).2.2.2.2.1 hc
  have ht : tok nok (bl s) = none := by rw [hl, tok_5 _ _ hc]
  rw [ht]
  have h0i : (0 : Int) < (s.size : Int) := by omega
  have hle := hide (fun w => rlet_any s[0] w)
  have hdi := hide (fun w => rdig_any s[0] w)
  have hin := hide (fun w => rin_any ⟨#[46, 59, 44, 58, 61, 40, 41, 91, 93, 123, 125]⟩ s[0] w (by decide))
  rw [(in_c _).1, c5] at hin
  rw [c1] at hle
  rw [c2] at hdi
  have e45 : ((s[0].toNat : Int) == 45) = false := by simp; omega
  have e34 : ((s[0].toNat : Int) == 34) = false := by simp; omega
  clear ht hl c1 c2 c3 c4 c5 hc
  go_enter Tryz.func14, Tryz.ntmps14
  go_wp2_with (first | (go_at_call 27; refine (hle.out _).mono ?_; rintro e w1 ⟨rfl, hw1⟩; have hw1s := hw1.symm; clear hw1; subst hw1s) | (go_at_call 28; refine (hdi.out _).mono ?_; rintro e w1 ⟨rfl, hw1⟩; have hw1s := hw1.symm; clear hw1; subst hw1s) | (go_at_call 29; refine (hin.out _).mono ?_; rintro e w1 ⟨rfl, hw1⟩; have hw1s := hw1.symm; clear hw1; subst hw1s))
  exact bodyPost_ret (v := .tuple #[.agg #[.int .i64 0, .string ⟨#[]⟩, .int .i64 0], .int .i64 0]) (by simp [results, Tryz.results14, go_sem]) rfl ⟨⟨_, _, rfl⟩, below_al (Below.refl _ _)⟩
set_option maxHeartbeats 2000000 in
set_option maxRecDepth 100000 in
theorem rtok_3 (s : ByteArray) (w : World) (h0 : 0 < s.size) (hs : s.size ≤ 40000) (hc : cls s[0] = 3) : Calls Tryz.prog 14 #[.string s] w fun e w' => TkP (tok nok (bl s)) e ∧ Below w.heap.size w w' := by
  obtain ⟨l, hl⟩ := bl_cons s h0
  obtain ⟨c1, c2, c3⟩ := (cl_c s[0]).2.2.1 hc
  have ht : tok nok (bl s) = match quS (bl s) with | none => none | some (x, n) => some (3, x, n) := by
    rw [hl, tok_k _ _ 3 hc (by omega)]
    have e : cutK nok 3 (s[0] :: l) = (quS (s[0] :: l)).getD ([], 0) := rfl
    rw [e]
    cases hq : quS (s[0] :: l) with
    | none => rfl
    | some x =>
      obtain ⟨y, n⟩ := x
      have hn : n ≠ 0 := by
        simp only [quS, c3, if_true] at hq
        split at hq
        · cases hq
        · cases hq; omega
      simp [hn]
  rw [ht]
  have h0i : (0 : Int) < (s.size : Int) := by omega
  have hle := hide (fun w => rlet_any s[0] w)
  have hdi := hide (fun w => rdig_any s[0] w)
  rw [c1] at hle
  rw [c2] at hdi
  have hte := hide (fun w => rtext_any s w h0 c3 hs)
  have e45 : ((s[0].toNat : Int) == 45) = false := by simp; omega
  have e34 : ((s[0].toNat : Int) == 34) = true := by simp; omega
  have Z0 : Hid (∀ o w2, Below (w.alloc o).heap.size (w.alloc o) w2 → Below w.heap.size w w2) := fun o w2 h => below_then (below_al (Below.refl _ _)) h
  have Z1 : Hid (∀ w2, Below (w.alloc (.cells #[.int .i64 0, .string ⟨#[]⟩, .int .i64 0] 32)).heap.size (w.alloc (.cells #[.int .i64 0, .string ⟨#[]⟩, .int .i64 0] 32)) w2 → BT w2 w.heap.size) := fun w2 h => BT.keep ⟨_, _, _, heap_alloc_new _ _⟩ h
  cases hq : quS (bl s) with
  | none =>
    rw [hq] at hte
    simp only [chE_none] at hte
    simp only
    clear ht hl c1 c2 c3 hc hq
    go_enter Tryz.func14, Tryz.ntmps14
    go_wp2_with (first | (go_at_call 31; refine (hte.out _).mono ?_; rintro e w2 ⟨rfl, hb2⟩; obtain ⟨⟨u0, d0⟩, ⟨u1, d1⟩, ⟨u2, d2⟩, fz, hlt⟩ := (Z1.out w2 hb2).facts; have T2 := hide (Z1.out w2 hb2); have B2 := hide (Z0.out _ _ hb2); clear hb2) | (go_at_call 27; refine (hle.out _).mono ?_; rintro e w1 ⟨rfl, hw1⟩; have hw1s := hw1.symm; clear hw1; subst hw1s) | (go_at_call 28; refine (hdi.out _).mono ?_; rintro e w1 ⟨rfl, hw1⟩; have hw1s := hw1.symm; clear hw1; subst hw1s) | (go_at_call 29; refine (hin.out _).mono ?_; rintro e w1 ⟨rfl, hw1⟩; have hw1s := hw1.symm; clear hw1; subst hw1s))
    refine bodyPost_ret (v := .tuple #[.agg #[.int .i64 2, .string ⟨#[]⟩, .int .i64 0], .int .i64 0]) (by simp [results, Tryz.results14, go_sem, *]) rfl ⟨⟨_, _, rfl⟩, ?_⟩
    iterate 3 refine Below.setCell ?_ (by show w.heap.size ≤ w.heap.size; exact Nat.le_refl _) _
    exact B2.out
  | some x =>
    obtain ⟨y, n⟩ := x
    rw [hq] at hte
    simp only [chE_some] at hte
    simp only
    clear ht hl c1 c2 c3 hc hq
    go_enter Tryz.func14, Tryz.ntmps14
    go_wp2_with (first | (go_at_call 31; refine (hte.out _).mono ?_; rintro e w2 ⟨rfl, hb2⟩; obtain ⟨⟨u0, d0⟩, ⟨u1, d1⟩, ⟨u2, d2⟩, fz, hlt⟩ := (Z1.out w2 hb2).facts; have T2 := hide (Z1.out w2 hb2); have B2 := hide (Z0.out _ _ hb2); clear hb2) | (go_at_call 27; refine (hle.out _).mono ?_; rintro e w1 ⟨rfl, hw1⟩; have hw1s := hw1.symm; clear hw1; subst hw1s) | (go_at_call 28; refine (hdi.out _).mono ?_; rintro e w1 ⟨rfl, hw1⟩; have hw1s := hw1.symm; clear hw1; subst hw1s) | (go_at_call 29; refine (hin.out _).mono ?_; rintro e w1 ⟨rfl, hw1⟩; have hw1s := hw1.symm; clear hw1; subst hw1s))
    refine bodyPost_ret (v := .tuple #[.agg #[.int .i64 2, .string (mkB y), .int .i64 0], .int .i64 (n : Nat)]) (by simp [results, Tryz.results14, go_sem, *]) rfl ⟨rfl, ?_⟩
    iterate 3 refine Below.setCell ?_ (by show w.heap.size ≤ w.heap.size; exact Nat.le_refl _) _
    exact B2.out
set_option maxHeartbeats 4000000 in
set_option maxRecDepth 100000 in
theorem rtok_1 (s : ByteArray) (w : World) (h0 : 0 < s.size) (hs : s.size ≤ 40000) (hc : cls s[0] = 1) : Calls Tryz.prog 14 #[.string s] w fun e w' => TkP (tok nok (bl s)) e ∧ Below w.heap.size w w' := by
  obtain ⟨l, hl⟩ := bl_cons s h0
  obtain ⟨c1, c2, c3⟩ := (cl_c s[0]).1 hc
  have hw0 : wh inName (bl s) ≠ 0 := by rw [hl]; exact wh_pos c3
  have hnm : nmS (bl s) = wh inName (bl s) := by rw [hl]; simp [nmS, c2]
  have ht : tok nok (bl s) = some (1, (bl s).take (wh inName (bl s)), wh inName (bl s)) := by
    have e : cutK nok 1 (bl s) = ((bl s).take (nmS (bl s)), nmS (bl s)) := rfl
    rw [hl, tok_k _ _ 1 hc (by omega), ← hl, e, hnm]
    simp [hw0]
  rw [ht]
  have hwl := wh_le inName (bl s)
  rw [bl_length] at hwl
  have h0i : (0 : Int) < (s.size : Int) := by omega
  have hle := hide (fun w => rlet_any s[0] w)
  rw [c1] at hle
  obtain ⟨N, hN⟩ : ∃ N, wh inName (bl s) = N := ⟨_, rfl⟩
  have hst : N = 1 + wh inName ((bl s).drop 1) := by
    have := wh_drop inName s 0 h0
    rw [List.drop_zero, hN, c3] at this
    simp only [if_true, Nat.zero_add] at this
    omega
  have HN := hide hN
  have HS := hide hst
  rw [hN] at hwl ⊢
  have hex := hide (take_mk s N)
  show Calls _ _ _ _ fun e w' => e = .returned (.tuple #[.agg #[.int .i64 1, .string (mkB ((bl s).take N)), .int .i64 0], .int .i64 (N : Nat)]) ∧ Below w.heap.size w w'
  rw [← hex.out]
  clear ht hl c1 c2 c3 hc hnm hw0 hN hst
  go_enter Tryz.func14, Tryz.ntmps14
  go_wp2_with (first | (go_at_call 27; refine (hle.out _).mono ?_; rintro e w1 ⟨rfl, hw1⟩; have hw1s := hw1.symm; clear hw1; subst hw1s))
  go_loop [5] (fun i => ∃ k : Nat, i = .int .i64 (k : Nat) ∧ 1 ≤ k ∧ k ≤ s.size ∧ Hid (N = k + wh inName ((bl s).drop k))) (fun i => s.size - (intOf i).toNat)
  case atStart => exact ⟨1, rfl, by omega, by omega, HS.out⟩
  case round =>
    obtain ⟨k, rfl, hk1, hk, H⟩ := hrel
    by_cases hkl : k < s.size
    · have hki : (k : Int) < (s.size : Int) := by omega
      have hwd := wh_drop inName s k hkl
      have hl2 := hide (fun w => rlet_any s[k] w)
      have hd2 := hide (fun w => rdig_any s[k] w)
      have hin : inName s[k] = (isLet s[k] || isDig s[k]) := rfl
      obtain ⟨a, ha⟩ : ∃ a, isLet s[k] = a := ⟨_, rfl⟩
      obtain ⟨b, hb⟩ : ∃ b, isDig s[k] = b := ⟨_, rfl⟩
      rw [ha] at hl2 hin
      rw [hb] at hd2 hin
      rw [hin] at hwd
      clear ha hb hin
      have hways : (a || b) = true ∨ (a = false ∧ b = false) := by cases a <;> cases b <;> simp
      rcases hways with hab | ⟨rfl, rfl⟩
      · rw [hab] at hwd
        have H2 : Hid (N = (k + 1) + wh inName ((bl s).drop (k + 1))) := by show _ = _; rw [H.out, hwd]; simp only [if_true]; omega
        have hab2 : a = true ∨ (a = false ∧ b = true) := by cases a <;> cases b <;> simp at hab ⊢
        clear H hwd hab
        rcases hab2 with rfl | ⟨rfl, rfl⟩
        all_goals
          go_wp2_with (first | (go_at_call 27; refine (hl2.out _).mono ?_; rintro e w1 ⟨rfl, hw1⟩; have hw1s := hw1.symm; clear hw1; subst hw1s) | (go_at_call 28; refine (hd2.out _).mono ?_; rintro e w1 ⟨rfl, hw1⟩; have hw1s := hw1.symm; clear hw1; subst hw1s))
          go_round
          case rel => exact ⟨k + 1, by go_num, by omega, by omega, H2⟩
          case measure => simp [intOf]; omega
      · have H2 : Hid (N = k) := by show _ = _; rw [H.out, hwd]; simp
        have hNk := H2.out
        subst hNk
        clear H hwd
        go_wp2_with (first | (go_at_call 27; refine (hl2.out _).mono ?_; rintro e w1 ⟨rfl, hw1⟩; have hw1s := hw1.symm; clear hw1; subst hw1s) | (go_at_call 28; refine (hd2.out _).mono ?_; rintro e w1 ⟨rfl, hw1⟩; have hw1s := hw1.symm; clear hw1; subst hw1s))
        exact bodyPost_ret (v := .tuple #[.agg #[.int .i64 1, .string (s.extract 0 N), .int .i64 0], .int .i64 (N : Nat)]) (by simp [results, Tryz.results14, go_sem]) rfl ⟨rfl, below_al (Below.refl _ _)⟩
    · have hki : ¬ (k : Int) < (s.size : Int) := by omega
      have hkii : (k : Int) ≤ (s.size : Int) := by omega
      have H2 : Hid (N = k) := by show _ = _; rw [H.out, wh_end _ s k hkl]; rfl
      have hNk := H2.out
      subst hNk
      clear H
      go_wp2
      exact bodyPost_ret (v := .tuple #[.agg #[.int .i64 1, .string (s.extract 0 N), .int .i64 0], .int .i64 (N : Nat)]) (by simp [results, Tryz.results14, go_sem]) rfl ⟨rfl, below_al (Below.refl _ _)⟩
set_option maxHeartbeats 4000000 in
set_option maxRecDepth 100000 in
theorem rtok_2 (s : ByteArray) (w : World) (h0 : 0 < s.size) (hs : s.size ≤ 40000) (hc : cls s[0] = 2) : Calls Tryz.prog 14 #[.string s] w fun e w' => TkP (tok nok (bl s)) e ∧ Below w.heap.size w w' := by
  obtain ⟨l, hl⟩ := bl_cons s h0
  obtain ⟨c1, c2, c3⟩ := (cl_c s[0]).2.1 hc
  have hw0 : wh inNum (bl s) ≠ 0 := by rw [hl]; exact wh_pos c3
  have hx0 : (!(s[0].toNat == 45) && !isDig s[0]) = false := by
    cases h1 : isDig s[0]
    · rw [h1] at c2; simp only [Bool.false_or] at c2; simp [c2]
    · simp
  have hnm : nuS nok (bl s) = if nok ((bl s).take (wh inNum (bl s))) then wh inNum (bl s) else 0 := by rw [hl]; simp only [nuS, hx0, Bool.false_eq_true, if_false]
  have ht : tok nok (bl s) = if nok ((bl s).take (wh inNum (bl s))) then some (2, (bl s).take (wh inNum (bl s)), wh inNum (bl s)) else none := by
    have e : cutK nok 2 (bl s) = ((bl s).take (nuS nok (bl s)), nuS nok (bl s)) := rfl
    rw [hl, tok_k _ _ 2 hc (by omega), ← hl, e, hnm]
    cases nok ((bl s).take (wh inNum (bl s))) <;> simp [hw0]
  rw [ht]
  have hwl := wh_le inNum (bl s)
  rw [bl_length] at hwl
  have h0i : (0 : Int) < (s.size : Int) := by omega
  have hle := hide (fun w => rlet_any s[0] w)
  have hdi := hide (fun w => rdig_any s[0] w)
  rw [c1] at hle
  have h45 : ((s[0].toNat : Int) == 45) = (s[0].toNat == 45) := by cases h : (s[0].toNat == 45) <;> simp at h ⊢ <;> omega
  obtain ⟨N, hN⟩ : ∃ N, wh inNum (bl s) = N := ⟨_, rfl⟩
  have hst : N = 1 + wh inNum ((bl s).drop 1) := by
    have := wh_drop inNum s 0 h0
    rw [List.drop_zero, hN, c3] at this
    simp only [if_true, Nat.zero_add] at this
    omega
  have HN := hide hN
  have HS := hide hst
  rw [hN] at hwl ⊢
  have hN1 : 1 ≤ N := by omega
  have hnb : numB ((bl s).take N) = nok ((bl s).take N) := by
    obtain ⟨m, rfl⟩ : ∃ m, N = m + 1 := ⟨N - 1, by omega⟩
    rw [hl, List.take_succ_cons]
    simp only [numB, c2, Bool.true_and]
  have hex := take_mk s N
  obtain ⟨t, htt⟩ : ∃ t, s.extract 0 N = t := ⟨_, rfl⟩
  have htb : bl t = (bl s).take N := by rw [← htt, hex, bl_mkB]
  have hmt : mkB ((bl s).take N) = t := by rw [← hex, htt]
  have hnu := hide (fun w => rnum_any t w (by rw [← bl_length, htb, List.length_take, bl_length]; omega))
  rw [htb, hnb] at hnu
  obtain ⟨q, hq⟩ : ∃ q, nok ((bl s).take N) = q := ⟨_, rfl⟩
  rw [hq] at hnu ⊢
  obtain ⟨d, hd⟩ : ∃ d, isDig s[0] = d := ⟨_, rfl⟩
  obtain ⟨m, hm⟩ : ∃ m, (s[0].toNat == 45) = m := ⟨_, rfl⟩
  rw [hd] at hdi c2
  rw [hm] at h45 c2
  have Z0 : Hid (∀ o w2, Below (w.alloc o).heap.size (w.alloc o) w2 → Below w.heap.size w w2) := fun o w2 h => below_then (below_al (Below.refl _ _)) h
  have Z1 : Hid (∀ w2, Below (w.alloc (.cells #[.int .i64 0, .string ⟨#[]⟩, .int .i64 0] 32)).heap.size (w.alloc (.cells #[.int .i64 0, .string ⟨#[]⟩, .int .i64 0] 32)) w2 → BT w2 w.heap.size) := fun w2 h => BT.keep ⟨_, _, _, heap_alloc_new _ _⟩ h
  have key : ∀ e w', (e = (if q then .returned (.tuple #[.agg #[.int .i64 3, .string t, .int .i64 0], .int .i64 (N : Nat)]) else .returned (.tuple #[.agg #[.int .i64 0, .string ⟨#[]⟩, .int .i64 0], .int .i64 0])) ∧ Below w.heap.size w w') → (TkP (if q then some (2, (bl s).take N, N) else none) e ∧ Below w.heap.size w w') := by
    rintro e w' ⟨rfl, hb⟩
    refine ⟨?_, hb⟩
    cases q
    · exact ⟨_, _, rfl⟩
    · show _ = _
      rw [hmt]
      rfl
  refine Calls.mono ?_ key
  obtain ⟨R, hR⟩ : ∃ R : Ending, (if q then .returned (.tuple #[.agg #[.int .i64 3, .string t, .int .i64 0], .int .i64 (N : Nat)]) else .returned (.tuple #[.agg #[.int .i64 0, .string ⟨#[]⟩, .int .i64 0], .int .i64 0])) = R := ⟨_, rfl⟩
  rw [hR]
  have HR := hide hR
  clear ht hl c1 c3 hc hnm hw0 hN hst hnb hex htb hmt hq hd hm key hR hx0
  have hdm : (d = true) ∨ (d = false ∧ m = true) := by cases d <;> cases m <;> simp at c2 ⊢
  clear c2
  have fin : Hid (∀ (k : Nat), N = k → k ≤ s.size → True) := fun _ _ _ => trivial
  clear fin
  rcases hdm with rfl | ⟨rfl, rfl⟩
  all_goals
    go_enter Tryz.func14, Tryz.ntmps14
    go_wp2_with (first | (go_at_call 27; refine (hle.out _).mono ?_; rintro e w1 ⟨rfl, hw1⟩; have hw1s := hw1.symm; clear hw1; subst hw1s) | (go_at_call 28; refine (hdi.out _).mono ?_; rintro e w1 ⟨rfl, hw1⟩; have hw1s := hw1.symm; clear hw1; subst hw1s))
    go_loop [5] (fun i => ∃ k : Nat, i = .int .i64 (k : Nat) ∧ 1 ≤ k ∧ k ≤ s.size ∧ Hid (N = k + wh inNum ((bl s).drop k))) (fun i => s.size - (intOf i).toNat)
    case atStart => exact ⟨1, rfl, by omega, by omega, HS.out⟩
    case round =>
      obtain ⟨k, rfl, hk1, hk, H⟩ := hrel
      by_cases hkl : k < s.size
      · have hki : (k : Int) < (s.size : Int) := by omega
        have hwd := wh_drop inNum s k hkl
        have hi2 := hide (fun w => rin_any ⟨#[46, 101, 69, 43, 45]⟩ s[k] w (by decide))
        have hd2 := hide (fun w => rdig_any s[k] w)
        have hin := (in_c s[k]).2.symm
        obtain ⟨a, ha⟩ : ∃ a, isDig s[k] = a := ⟨_, rfl⟩
        obtain ⟨b, hb⟩ : ∃ b, decide (s[k] ∈ bl ⟨#[46, 101, 69, 43, 45]⟩) = b := ⟨_, rfl⟩
        rw [ha] at hd2 hin
        rw [hb] at hi2 hin
        rw [hin] at hwd
        clear ha hb hin
        have hways : (a || b) = true ∨ (a = false ∧ b = false) := by cases a <;> cases b <;> simp
        rcases hways with hab | ⟨rfl, rfl⟩
        · rw [hab] at hwd
          have H2 : Hid (N = (k + 1) + wh inNum ((bl s).drop (k + 1))) := by show _ = _; rw [H.out, hwd]; simp only [if_true]; omega
          have hab2 : a = true ∨ (a = false ∧ b = true) := by cases a <;> cases b <;> simp at hab ⊢
          clear H hwd hab
          rcases hab2 with rfl | ⟨rfl, rfl⟩
          all_goals
            go_wp2_with (first | (go_at_call 28; refine (hd2.out _).mono ?_; rintro e w1 ⟨rfl, hw1⟩; have hw1s := hw1.symm; clear hw1; subst hw1s) | (go_at_call 29; refine (hi2.out _).mono ?_; rintro e w1 ⟨rfl, hw1⟩; have hw1s := hw1.symm; clear hw1; subst hw1s))
            go_round
            case rel => exact ⟨k + 1, by go_num, by omega, by omega, H2⟩
            case measure => simp [intOf]; omega
        · have H2 : Hid (N = k) := by show _ = _; rw [H.out, hwd]; simp
          have hNk := H2.out
          subst hNk
          clear H hwd
          cases q
          · have R2 : Hid (R = .returned (.tuple #[.agg #[.int .i64 0, .string ⟨#[]⟩, .int .i64 0], .int .i64 0])) := HR.out.symm
            go_wp2_with (first | (go_at_call 28; refine (hd2.out _).mono ?_; rintro e w1 ⟨rfl, hw1⟩; have hw1s := hw1.symm; clear hw1; subst hw1s) | (go_at_call 29; refine (hi2.out _).mono ?_; rintro e w1 ⟨rfl, hw1⟩; have hw1s := hw1.symm; clear hw1; subst hw1s) | (go_at_call 30; refine (hnu.out _).mono ?_; rintro e w2 ⟨rfl, hb2⟩; obtain ⟨⟨u0, d0⟩, ⟨u1, d1⟩, ⟨u2, d2⟩, fz, hlt⟩ := (Z1.out w2 hb2).facts; have B2 := hide (Z0.out _ _ hb2); clear hb2))
            refine bodyPost_ret (v := .tuple #[.agg #[.int .i64 0, .string ⟨#[]⟩, .int .i64 0], .int .i64 0]) (by simp [results, Tryz.results14, go_sem, *]) rfl ⟨R2.out.symm, ?_⟩
            iterate 3 refine Below.setCell ?_ (by show w.heap.size ≤ w.heap.size; exact Nat.le_refl _) _
            exact B2.out
          · have R2 : Hid (R = .returned (.tuple #[.agg #[.int .i64 3, .string t, .int .i64 0], .int .i64 (N : Nat)])) := HR.out.symm
            go_wp2_with (first | (go_at_call 28; refine (hd2.out _).mono ?_; rintro e w1 ⟨rfl, hw1⟩; have hw1s := hw1.symm; clear hw1; subst hw1s) | (go_at_call 29; refine (hi2.out _).mono ?_; rintro e w1 ⟨rfl, hw1⟩; have hw1s := hw1.symm; clear hw1; subst hw1s) | (go_at_call 30; refine (hnu.out _).mono ?_; rintro e w2 ⟨rfl, hb2⟩; obtain ⟨⟨u0, d0⟩, ⟨u1, d1⟩, ⟨u2, d2⟩, fz, hlt⟩ := (Z1.out w2 hb2).facts; have B2 := hide (Z0.out _ _ hb2); clear hb2))
            refine bodyPost_ret (v := .tuple #[.agg #[.int .i64 3, .string t, .int .i64 0], .int .i64 (N : Nat)]) (by simp [results, Tryz.results14, go_sem, *]) rfl ⟨R2.out.symm, ?_⟩
            iterate 3 refine Below.setCell ?_ (by show w.heap.size ≤ w.heap.size; exact Nat.le_refl _) _
            exact B2.out
      · have hki : ¬ (k : Int) < (s.size : Int) := by omega
        have hkii : (k : Int) ≤ (s.size : Int) := by omega
        have H2 : Hid (N = k) := by show _ = _; rw [H.out, wh_end _ s k hkl]; rfl
        have hNk := H2.out
        subst hNk
        clear H
        cases q
        · have R2 : Hid (R = .returned (.tuple #[.agg #[.int .i64 0, .string ⟨#[]⟩, .int .i64 0], .int .i64 0])) := HR.out.symm
          go_wp2_with (first | (go_at_call 30; refine (hnu.out _).mono ?_; rintro e w2 ⟨rfl, hb2⟩; obtain ⟨⟨u0, d0⟩, ⟨u1, d1⟩, ⟨u2, d2⟩, fz, hlt⟩ := (Z1.out w2 hb2).facts; have B2 := hide (Z0.out _ _ hb2); clear hb2))
          refine bodyPost_ret (v := .tuple #[.agg #[.int .i64 0, .string ⟨#[]⟩, .int .i64 0], .int .i64 0]) (by simp [results, Tryz.results14, go_sem, *]) rfl ⟨R2.out.symm, ?_⟩
          iterate 3 refine Below.setCell ?_ (by show w.heap.size ≤ w.heap.size; exact Nat.le_refl _) _
          exact B2.out
        · have R2 : Hid (R = .returned (.tuple #[.agg #[.int .i64 3, .string t, .int .i64 0], .int .i64 (N : Nat)])) := HR.out.symm
          go_wp2_with (first | (go_at_call 30; refine (hnu.out _).mono ?_; rintro e w2 ⟨rfl, hb2⟩; obtain ⟨⟨u0, d0⟩, ⟨u1, d1⟩, ⟨u2, d2⟩, fz, hlt⟩ := (Z1.out w2 hb2).facts; have B2 := hide (Z0.out _ _ hb2); clear hb2))
          refine bodyPost_ret (v := .tuple #[.agg #[.int .i64 3, .string t, .int .i64 0], .int .i64 (N : Nat)]) (by simp [results, Tryz.results14, go_sem, *]) rfl ⟨R2.out.symm, ?_⟩
          iterate 3 refine Below.setCell ?_ (by show w.heap.size ≤ w.heap.size; exact Nat.le_refl _) _
          exact B2.out
theorem rtoken_any (s : ByteArray) (w : World) (h0 : 0 < s.size) (hs : s.size ≤ 40000) (hb : blS (bl s) = 0) : Calls Tryz.prog 14 #[.string s] w fun e w' => TkP (tok nok (bl s)) e ∧ Below w.heap.size w w' := by
  obtain ⟨l, hl⟩ := bl_cons s h0
  obtain ⟨_, _, _, _, _, h5, hz⟩ := cl_c s[0]
  have hne : cls s[0] ≠ 0 := fun e => by
    rw [hl] at hb
    rcases hz e with h | h
    · simp [blS, h, wh, notNl] at hb
    · have h35 : ¬ s[0].toNat = 35 := by intro e; simp [isBlk, e] at h
      simp [blS, h35, h] at hb
  have : cls s[0] = 1 ∨ cls s[0] = 2 ∨ cls s[0] = 3 ∨ cls s[0] = 4 ∨ cls s[0] = 5 := by omega
  rcases this with h | h | h | h | h
  · exact rtok_1 s w h0 hs h
  · exact rtok_2 s w h0 hs h
  · exact rtok_3 s w h0 hs h
  · exact rtok_4 s w h0 hs h
  · exact rtok_5 s w h0 hs h
end Lx
end Go.Proofs.YtjidnceccpmheaaGreatDoor
