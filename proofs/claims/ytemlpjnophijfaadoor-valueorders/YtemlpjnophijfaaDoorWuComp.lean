/- value.compare: walked. -/
import Derived.Test.YtemlpjnophijfaaDoorWtPairs
namespace Go.Proofs.YtemlpjnophijfaaDoor
open Go.RowKit
set_option linter.unusedSimpArgs false
set_option linter.unusedVariables false
theorem flags_any (a b : Bool) (w : World) : Calls Tryd.prog 39 #[.bool a, .bool b] w fun e w' => e = .returned (.int .i64 (cmpF a b)) ∧ w' = w := by
  cases a <;> cases b
  all_goals
    go_enter Tryd.func39, Tryd.ntmps39
    go_wp2
    go_ret
    exact ⟨rfl, rfl⟩
theorem cmpI_self (a : Int) : cmpI a a = 0 := by unfold cmpI; rw [if_neg (by omega), if_neg (by omega)]
set_option maxHeartbeats 2000000 in
set_option maxRecDepth 100000 in
theorem comp_1 (n : Nat) (ih : CmpOk n) (h g : Hd) (l m : List (VT n)) (a1 a2 b1 b2 : Option Addr) (m1 m2 n1 n2 c1 c2 d1 d2 : Nat) (w : World) (hx : RD (n + 1) w (h, l) (.slice a1 m1 c1) (.slice a2 m2 c2)) (hy : RD (n + 1) w (g, m) (.slice b1 n1 d1) (.slice b2 n2 d2)) (vx : VOk (n + 1) (h, l)) (vy : VOk (n + 1) (g, m)) (hk : h.kind = 1) (gk : g.kind = 1) :
    Calls Tryd.prog 29 #[.agg (vals h (.slice a1 m1 c1) (.slice a2 m2 c2)), .agg (vals g (.slice b1 n1 d1) (.slice b2 n2 d2))] w fun e w' => e = .returned (.int .i64 (cmpV (n + 1) (h, l) (g, m))) ∧ Below w.heap.size w w' := by
  have hkk := hide (fun w => show Calls Tryd.prog 38 #[.int .i64 1, .int .i64 1] w fun e w' => e = .returned (.int .i64 0) ∧ w' = w from cmpKind_any 1 1 w)
  have hV : cmpV (n + 1) (h, l) (g, m) = 0 := by
    simp only [cmpV]
    rw [hk, gk, cmpI_self, if_pos rfl]
    rw [if_neg (by decide), if_neg (by decide), if_neg (by decide), if_neg (by decide), if_neg (by decide), if_neg (by decide), if_neg (by decide)]
  rw [hV]
  clear hV hx hy vx vy
  show Calls _ _ #[.agg #[.int .i64 h.kind, .bool h.flag, .bool h.neg, .string h.dig, .int .i64 h.exp, .int .u64 h.bits, .string h.text, .slice a1 m1 c1, .slice a2 m2 c2], .agg #[.int .i64 g.kind, .bool g.flag, .bool g.neg, .string g.dig, .int .i64 g.exp, .int .u64 g.bits, .string g.text, .slice b1 n1 d1, .slice b2 n2 d2]] _ _
  rw [hk, gk]
  go_enter Tryd.func29, Tryd.ntmps29
  go_wp2_with (first | (go_at_call 38; refine (hkk.out _).mono ?_; rintro e w1 ⟨rfl, rfl⟩))
  go_ret
  exact ⟨rfl, below_al (below_al (Below.refl _ _))⟩
set_option maxHeartbeats 2000000 in
set_option maxRecDepth 100000 in
theorem comp_2 (n : Nat) (ih : CmpOk n) (h g : Hd) (l m : List (VT n)) (a1 a2 b1 b2 : Option Addr) (m1 m2 n1 n2 c1 c2 d1 d2 : Nat) (w : World) (hx : RD (n + 1) w (h, l) (.slice a1 m1 c1) (.slice a2 m2 c2)) (hy : RD (n + 1) w (g, m) (.slice b1 n1 d1) (.slice b2 n2 d2)) (vx : VOk (n + 1) (h, l)) (vy : VOk (n + 1) (g, m)) (hk : h.kind = 2) (gk : g.kind = 2) :
    Calls Tryd.prog 29 #[.agg (vals h (.slice a1 m1 c1) (.slice a2 m2 c2)), .agg (vals g (.slice b1 n1 d1) (.slice b2 n2 d2))] w fun e w' => e = .returned (.int .i64 (cmpV (n + 1) (h, l) (g, m))) ∧ Below w.heap.size w w' := by
  have hkk := hide (fun w => show Calls Tryd.prog 38 #[.int .i64 2, .int .i64 2] w fun e w' => e = .returned (.int .i64 0) ∧ w' = w from cmpKind_any 2 2 w)
  have hV : cmpV (n + 1) (h, l) (g, m) = cmpF h.flag g.flag := by
    simp only [cmpV]
    rw [hk, gk, cmpI_self, if_pos rfl]
    rw [if_pos (by decide)]
  rw [hV]
  have hF := hide (fun w => flags_any h.flag g.flag w)
  obtain ⟨C, hC⟩ : ∃ C, cmpF h.flag g.flag = C := ⟨_, rfl⟩
  rw [hC] at hF ⊢
  clear hC
  clear hV hx hy vx vy
  show Calls _ _ #[.agg #[.int .i64 h.kind, .bool h.flag, .bool h.neg, .string h.dig, .int .i64 h.exp, .int .u64 h.bits, .string h.text, .slice a1 m1 c1, .slice a2 m2 c2], .agg #[.int .i64 g.kind, .bool g.flag, .bool g.neg, .string g.dig, .int .i64 g.exp, .int .u64 g.bits, .string g.text, .slice b1 n1 d1, .slice b2 n2 d2]] _ _
  rw [hk, gk]
  go_enter Tryd.func29, Tryd.ntmps29
  go_wp2_with (first | (go_at_call 38; refine (hkk.out _).mono ?_; rintro e w1 ⟨rfl, rfl⟩) | (go_at_call 39; refine (hF.out _).mono ?_; rintro e w2 ⟨rfl, rfl⟩))
  go_ret
  exact ⟨rfl, below_al (below_al (Below.refl _ _))⟩
set_option maxHeartbeats 2000000 in
set_option maxRecDepth 100000 in
theorem comp_4 (n : Nat) (ih : CmpOk n) (h g : Hd) (l m : List (VT n)) (a1 a2 b1 b2 : Option Addr) (m1 m2 n1 n2 c1 c2 d1 d2 : Nat) (w : World) (hx : RD (n + 1) w (h, l) (.slice a1 m1 c1) (.slice a2 m2 c2)) (hy : RD (n + 1) w (g, m) (.slice b1 n1 d1) (.slice b2 n2 d2)) (vx : VOk (n + 1) (h, l)) (vy : VOk (n + 1) (g, m)) (hk : h.kind = 4) (gk : g.kind = 4) :
    Calls Tryd.prog 29 #[.agg (vals h (.slice a1 m1 c1) (.slice a2 m2 c2)), .agg (vals g (.slice b1 n1 d1) (.slice b2 n2 d2))] w fun e w' => e = .returned (.int .i64 (cmpV (n + 1) (h, l) (g, m))) ∧ Below w.heap.size w w' := by
  have hkk := hide (fun w => show Calls Tryd.prog 38 #[.int .i64 4, .int .i64 4] w fun e w' => e = .returned (.int .i64 0) ∧ w' = w from cmpKind_any 4 4 w)
  have hV : cmpV (n + 1) (h, l) (g, m) = cmpI h.bits g.bits := by
    simp only [cmpV]
    rw [hk, gk, cmpI_self, if_pos rfl]
    rw [if_neg (by decide), if_neg (by decide), if_pos (by decide)]
  rw [hV]
  have hF := hide (fun w => cmpBits_any h.bits g.bits w)
  obtain ⟨C, hC⟩ : ∃ C, cmpI h.bits g.bits = C := ⟨_, rfl⟩
  rw [hC] at hF ⊢
  clear hC
  clear hV hx hy vx vy
  show Calls _ _ #[.agg #[.int .i64 h.kind, .bool h.flag, .bool h.neg, .string h.dig, .int .i64 h.exp, .int .u64 h.bits, .string h.text, .slice a1 m1 c1, .slice a2 m2 c2], .agg #[.int .i64 g.kind, .bool g.flag, .bool g.neg, .string g.dig, .int .i64 g.exp, .int .u64 g.bits, .string g.text, .slice b1 n1 d1, .slice b2 n2 d2]] _ _
  rw [hk, gk]
  go_enter Tryd.func29, Tryd.ntmps29
  go_wp2_with (first | (go_at_call 38; refine (hkk.out _).mono ?_; rintro e w1 ⟨rfl, rfl⟩) | (go_at_call 41; refine (hF.out _).mono ?_; rintro e w2 ⟨rfl, rfl⟩))
  go_ret
  exact ⟨rfl, below_al (below_al (Below.refl _ _))⟩
set_option maxHeartbeats 2000000 in
set_option maxRecDepth 100000 in
theorem comp_5 (n : Nat) (ih : CmpOk n) (h g : Hd) (l m : List (VT n)) (a1 a2 b1 b2 : Option Addr) (m1 m2 n1 n2 c1 c2 d1 d2 : Nat) (w : World) (hx : RD (n + 1) w (h, l) (.slice a1 m1 c1) (.slice a2 m2 c2)) (hy : RD (n + 1) w (g, m) (.slice b1 n1 d1) (.slice b2 n2 d2)) (vx : VOk (n + 1) (h, l)) (vy : VOk (n + 1) (g, m)) (hk : h.kind = 5) (gk : g.kind = 5) :
    Calls Tryd.prog 29 #[.agg (vals h (.slice a1 m1 c1) (.slice a2 m2 c2)), .agg (vals g (.slice b1 n1 d1) (.slice b2 n2 d2))] w fun e w' => e = .returned (.int .i64 (cmpV (n + 1) (h, l) (g, m))) ∧ Below w.heap.size w w' := by
  have hkk := hide (fun w => show Calls Tryd.prog 38 #[.int .i64 5, .int .i64 5] w fun e w' => e = .returned (.int .i64 0) ∧ w' = w from cmpKind_any 5 5 w)
  have hV : cmpV (n + 1) (h, l) (g, m) = cmpB h.text g.text := by
    simp only [cmpV]
    rw [hk, gk, cmpI_self, if_pos rfl]
    rw [if_neg (by decide), if_neg (by decide), if_neg (by decide), if_pos (by decide)]
  rw [hV]
  have hF := hide (fun w => cmpStr_any h.text g.text w)
  obtain ⟨C, hC⟩ : ∃ C, cmpB h.text g.text = C := ⟨_, rfl⟩
  rw [hC] at hF ⊢
  clear hC
  clear hV hx hy vx vy
  show Calls _ _ #[.agg #[.int .i64 h.kind, .bool h.flag, .bool h.neg, .string h.dig, .int .i64 h.exp, .int .u64 h.bits, .string h.text, .slice a1 m1 c1, .slice a2 m2 c2], .agg #[.int .i64 g.kind, .bool g.flag, .bool g.neg, .string g.dig, .int .i64 g.exp, .int .u64 g.bits, .string g.text, .slice b1 n1 d1, .slice b2 n2 d2]] _ _
  rw [hk, gk]
  go_enter Tryd.func29, Tryd.ntmps29
  go_wp2_with (first | (go_at_call 38; refine (hkk.out _).mono ?_; rintro e w1 ⟨rfl, rfl⟩) | (go_at_call 42; refine (hF.out _).mono ?_; rintro e w2 ⟨rfl, rfl⟩))
  go_ret
  exact ⟨rfl, below_al (below_al (Below.refl _ _))⟩
set_option maxHeartbeats 2000000 in
set_option maxRecDepth 100000 in
theorem comp_6 (n : Nat) (ih : CmpOk n) (h g : Hd) (l m : List (VT n)) (a1 a2 b1 b2 : Option Addr) (m1 m2 n1 n2 c1 c2 d1 d2 : Nat) (w : World) (hx : RD (n + 1) w (h, l) (.slice a1 m1 c1) (.slice a2 m2 c2)) (hy : RD (n + 1) w (g, m) (.slice b1 n1 d1) (.slice b2 n2 d2)) (vx : VOk (n + 1) (h, l)) (vy : VOk (n + 1) (g, m)) (hk : h.kind = 6) (gk : g.kind = 6) :
    Calls Tryd.prog 29 #[.agg (vals h (.slice a1 m1 c1) (.slice a2 m2 c2)), .agg (vals g (.slice b1 n1 d1) (.slice b2 n2 d2))] w fun e w' => e = .returned (.int .i64 (cmpV (n + 1) (h, l) (g, m))) ∧ Below w.heap.size w w' := by
  have hkk := hide (fun w => show Calls Tryd.prog 38 #[.int .i64 6, .int .i64 6] w fun e w' => e = .returned (.int .i64 0) ∧ w' = w from cmpKind_any 6 6 w)
  have hV : cmpV (n + 1) (h, l) (g, m) = cmpB h.text g.text := by
    simp only [cmpV]
    rw [hk, gk, cmpI_self, if_pos rfl]
    rw [if_neg (by decide), if_neg (by decide), if_neg (by decide), if_pos (by decide)]
  rw [hV]
  have hF := hide (fun w => cmpStr_any h.text g.text w)
  obtain ⟨C, hC⟩ : ∃ C, cmpB h.text g.text = C := ⟨_, rfl⟩
  rw [hC] at hF ⊢
  clear hC
  clear hV hx hy vx vy
  show Calls _ _ #[.agg #[.int .i64 h.kind, .bool h.flag, .bool h.neg, .string h.dig, .int .i64 h.exp, .int .u64 h.bits, .string h.text, .slice a1 m1 c1, .slice a2 m2 c2], .agg #[.int .i64 g.kind, .bool g.flag, .bool g.neg, .string g.dig, .int .i64 g.exp, .int .u64 g.bits, .string g.text, .slice b1 n1 d1, .slice b2 n2 d2]] _ _
  rw [hk, gk]
  go_enter Tryd.func29, Tryd.ntmps29
  go_wp2_with (first | (go_at_call 38; refine (hkk.out _).mono ?_; rintro e w1 ⟨rfl, rfl⟩) | (go_at_call 42; refine (hF.out _).mono ?_; rintro e w2 ⟨rfl, rfl⟩))
  go_ret
  exact ⟨rfl, below_al (below_al (Below.refl _ _))⟩
set_option maxHeartbeats 2000000 in
set_option maxRecDepth 100000 in
theorem comp_3 (n : Nat) (ih : CmpOk n) (h g : Hd) (l m : List (VT n)) (a1 a2 b1 b2 : Option Addr) (m1 m2 n1 n2 c1 c2 d1 d2 : Nat) (w : World) (hx : RD (n + 1) w (h, l) (.slice a1 m1 c1) (.slice a2 m2 c2)) (hy : RD (n + 1) w (g, m) (.slice b1 n1 d1) (.slice b2 n2 d2)) (vx : VOk (n + 1) (h, l)) (vy : VOk (n + 1) (g, m)) (hk : h.kind = 3) (gk : g.kind = 3) :
    Calls Tryd.prog 29 #[.agg (vals h (.slice a1 m1 c1) (.slice a2 m2 c2)), .agg (vals g (.slice b1 n1 d1) (.slice b2 n2 d2))] w fun e w' => e = .returned (.int .i64 (cmpV (n + 1) (h, l) (g, m))) ∧ Below w.heap.size w w' := by
  have hkk := hide (fun w => show Calls Tryd.prog 38 #[.int .i64 3, .int .i64 3] w fun e w' => e = .returned (.int .i64 0) ∧ w' = w from cmpKind_any 3 3 w)
  have hV : cmpV (n + 1) (h, l) (g, m) = cmpN h.neg h.dig h.exp g.neg g.dig g.exp := by
    simp only [cmpV]
    rw [hk, gk, cmpI_self, if_pos rfl]
    rw [if_neg (by decide), if_pos (by decide)]
  rw [hV]
  have i1 : isN h.neg h.dig h.exp = true := vx.1.2.1.1 hk
  have i2 : isN g.neg g.dig g.exp = true := vy.1.2.1.1 gk
  have hF := hide (fun w => cmp_any h.neg h.dig h.exp g.neg g.dig g.exp w (by have := (isN_len i1).1; omega) (by have := (isN_len i2).1; omega) i1 i2)
  obtain ⟨C, hC⟩ : ∃ C, cmpN h.neg h.dig h.exp g.neg g.dig g.exp = C := ⟨_, rfl⟩
  rw [hC] at hF ⊢
  clear hC i1 i2
  clear hV hx hy vx vy
  show Calls _ _ #[.agg #[.int .i64 h.kind, .bool h.flag, .bool h.neg, .string h.dig, .int .i64 h.exp, .int .u64 h.bits, .string h.text, .slice a1 m1 c1, .slice a2 m2 c2], .agg #[.int .i64 g.kind, .bool g.flag, .bool g.neg, .string g.dig, .int .i64 g.exp, .int .u64 g.bits, .string g.text, .slice b1 n1 d1, .slice b2 n2 d2]] _ _
  rw [hk, gk]
  go_enter Tryd.func29, Tryd.ntmps29
  go_wp2_with (first | (go_at_call 38; refine (hkk.out _).mono ?_; rintro e w1 ⟨rfl, rfl⟩) | (go_at_call 40; refine (hF.out _).mono ?_; rintro e w2 ⟨rfl, hb2⟩))
  go_ret
  exact ⟨rfl, below_then (below_al (below_al (Below.refl _ _))) hb2⟩
set_option maxHeartbeats 2000000 in
set_option maxRecDepth 100000 in
theorem comp_7 (n : Nat) (ih : CmpOk n) (h g : Hd) (l m : List (VT n)) (a1 a2 b1 b2 : Option Addr) (m1 m2 n1 n2 c1 c2 d1 d2 : Nat) (w : World) (hx : RD (n + 1) w (h, l) (.slice a1 m1 c1) (.slice a2 m2 c2)) (hy : RD (n + 1) w (g, m) (.slice b1 n1 d1) (.slice b2 n2 d2)) (vx : VOk (n + 1) (h, l)) (vy : VOk (n + 1) (g, m)) (hk : h.kind = 7) (gk : g.kind = 7) :
    Calls Tryd.prog 29 #[.agg (vals h (.slice a1 m1 c1) (.slice a2 m2 c2)), .agg (vals g (.slice b1 n1 d1) (.slice b2 n2 d2))] w fun e w' => e = .returned (.int .i64 (cmpV (n + 1) (h, l) (g, m))) ∧ Below w.heap.size w w' := by
  have hkk := hide (fun w => show Calls Tryd.prog 38 #[.int .i64 7, .int .i64 7] w fun e w' => e = .returned (.int .i64 0) ∧ w' = w from cmpKind_any 7 7 w)
  have hV : cmpV (n + 1) (h, l) (g, m) = lexL (cmpV n) l m := by
    simp only [cmpV]
    rw [hk, gk, cmpI_self, if_pos rfl]
    rw [if_neg (by decide), if_neg (by decide), if_neg (by decide), if_neg (by decide), if_pos (by decide)]
  rw [hV]
  have hb0 : Hid (∀ o o', Below w.heap.size w ((w.alloc o).alloc o')) := fun o o' => below_al (below_al (Below.refl _ _))
  have hF := hide (fun o o' => clists_any n ih (h, l) (g, m) _ _ _ _ ((w.alloc o).alloc o') (hx.below (hb0.out o o')) (hy.below (hb0.out o o')) (fun a ha => ⟨vx.1.2.2 a ha, vx.2.2.2.2 a ha⟩) (fun a ha => ⟨vy.1.2.2 a ha, vy.2.2.2.2 a ha⟩))
  simp only at hF
  obtain ⟨C, hC⟩ : ∃ C, lexL (cmpV n) l m = C := ⟨_, rfl⟩
  rw [hC] at hF ⊢
  clear hC
  clear hV hx hy vx vy
  show Calls _ _ #[.agg #[.int .i64 h.kind, .bool h.flag, .bool h.neg, .string h.dig, .int .i64 h.exp, .int .u64 h.bits, .string h.text, .slice a1 m1 c1, .slice a2 m2 c2], .agg #[.int .i64 g.kind, .bool g.flag, .bool g.neg, .string g.dig, .int .i64 g.exp, .int .u64 g.bits, .string g.text, .slice b1 n1 d1, .slice b2 n2 d2]] _ _
  rw [hk, gk]
  go_enter Tryd.func29, Tryd.ntmps29
  go_wp2_with (first | (go_at_call 38; refine (hkk.out _).mono ?_; rintro e w1 ⟨rfl, rfl⟩) | (go_at_call 43; refine (hF.out _ _).mono ?_; rintro e w2 ⟨rfl, hb2⟩))
  go_ret
  exact ⟨rfl, below_then (below_al (below_al (Below.refl _ _))) hb2⟩
end Go.Proofs.YtemlpjnophijfaaDoor
