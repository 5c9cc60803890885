/- value.isBare: walked. -/
import Derived.Test.YtlfnnecpinmjjaaDoorWdEqual
namespace Go.Proofs.YtlfnnecpinmjjaaDoor
open Go.RowKit
set_option linter.unusedSimpArgs false
set_option linter.unusedVariables false
/-- A struct of noughts but for its Kind. -/
def zr (k : Int) : Hd := ⟨k, false, false, ⟨#[]⟩, 0, 0, ⟨#[]⟩, []⟩
/-- What its Kind uses is made nought. -/
def strip (h : Hd) : Hd := ⟨h.kind, bif h.kind == 2 then false else h.flag, bif h.kind == 3 then false else h.neg, bif h.kind == 3 then ⟨#[]⟩ else h.dig, bif h.kind == 3 then 0 else h.exp, bif h.kind == 4 then 0 else h.bits, bif h.kind == 5 || h.kind == 6 || h.kind == 9 then ⟨#[]⟩ else h.text, bif h.kind == 8 then [] else h.names⟩
/-- There is such a Kind, and what it does not use is nought. -/
def Bare {α : Type} (h : Hd) (l : List α) : Prop := 1 ≤ h.kind ∧ h.kind ≤ 9 ∧ strip h = zr h.kind ∧ (7 ≤ h.kind ∨ l = [])
theorem rd_zero (n : Nat) (w : World) (k : Int) : RD (n + 1) w ((zr k, []) : VT (n + 1)) (.slice none 0 0) (.slice none 0 0) := ⟨Or.inl ⟨rfl, rfl⟩, Or.inl ⟨rfl, rfl⟩⟩
set_option maxHeartbeats 1000000 in
set_option maxRecDepth 100000 in
theorem bare_1 (n : Nat) (h : Hd) (l : List (VT n)) (ns ls : Value) (w : World) (hr : RD (n + 1) w (h, l) ns ls) (hk : h.kind = 1) :
    Calls Tryd.prog 64 #[.agg (vals h ns ls)] w fun e w' => TB (Bare h l) w e w' := by
  obtain ⟨a1, m1, d1, a2, m2, d2, rfl, rfl⟩ := hr.shape
  have hr := hide hr
  have hx : Bare h l ↔ (({ h with kind := 1 }, l) : VT (n + 1)) = (zr 1, []) := by
    obtain ⟨k, f, ng, dg, ex, bt, tx, nm⟩ := h
    simp only at hk
    subst hk
    simp [Bare, strip, zr]
  have hx' := hide hx
  have hE := hide (fun o => equal_any (n + 1) ({ h with kind := 1 }, l) (zr 1, []) (.slice a1 m1 d1) (.slice a2 m2 d2) _ _ (w.alloc o) ⟨(hr.out.below (below_al (o := o) (Below.refl _ _))).1, (hr.out.below (below_al (o := o) (Below.refl _ _))).2⟩ (rd_zero n _ 1))
  show Calls _ _ #[.agg #[.int .i64 h.kind, .bool h.flag, .bool h.neg, .string h.dig, .int .i64 h.exp, .int .u64 h.bits, .string h.text, .slice a1 m1 d1, .slice a2 m2 d2]] _ _
  rw [hk]
  clear hx hk
  go_enter Tryd.func64, Tryd.ntmps64
  go_wp2_with (go_at_call 81; refine (hE.out _).mono ?_; rintro e w1 ⟨b, rfl, hT, hb1⟩)
  go_ret
  exact ⟨b, rfl, (show Hid _ from ⟨(fun q => hx'.out.2 (hT.1 q)), (fun q => hT.2 (hx'.out.1 q))⟩), below_then (below_al (Below.refl _ _)) hb1⟩
set_option maxHeartbeats 1000000 in
set_option maxRecDepth 100000 in
theorem bare_2 (n : Nat) (h : Hd) (l : List (VT n)) (ns ls : Value) (w : World) (hr : RD (n + 1) w (h, l) ns ls) (hk : h.kind = 2) :
    Calls Tryd.prog 64 #[.agg (vals h ns ls)] w fun e w' => TB (Bare h l) w e w' := by
  obtain ⟨a1, m1, d1, a2, m2, d2, rfl, rfl⟩ := hr.shape
  have hr := hide hr
  have hx : Bare h l ↔ (({ h with kind := 2, flag := false }, l) : VT (n + 1)) = (zr 2, []) := by
    obtain ⟨k, f, ng, dg, ex, bt, tx, nm⟩ := h
    simp only at hk
    subst hk
    simp [Bare, strip, zr]
  have hx' := hide hx
  have hE := hide (fun o => equal_any (n + 1) ({ h with kind := 2, flag := false }, l) (zr 2, []) (.slice a1 m1 d1) (.slice a2 m2 d2) _ _ (w.alloc o) ⟨(hr.out.below (below_al (o := o) (Below.refl _ _))).1, (hr.out.below (below_al (o := o) (Below.refl _ _))).2⟩ (rd_zero n _ 2))
  show Calls _ _ #[.agg #[.int .i64 h.kind, .bool h.flag, .bool h.neg, .string h.dig, .int .i64 h.exp, .int .u64 h.bits, .string h.text, .slice a1 m1 d1, .slice a2 m2 d2]] _ _
  rw [hk]
  clear hx hk
  go_enter Tryd.func64, Tryd.ntmps64
  go_wp2_with (go_at_call 81; refine (hE.out _).mono ?_; rintro e w1 ⟨b, rfl, hT, hb1⟩)
  go_ret
  exact ⟨b, rfl, (show Hid _ from ⟨(fun q => hx'.out.2 (hT.1 q)), (fun q => hT.2 (hx'.out.1 q))⟩), below_then (below_al (Below.refl _ _)) hb1⟩
set_option maxHeartbeats 1000000 in
set_option maxRecDepth 100000 in
theorem bare_3 (n : Nat) (h : Hd) (l : List (VT n)) (ns ls : Value) (w : World) (hr : RD (n + 1) w (h, l) ns ls) (hk : h.kind = 3) :
    Calls Tryd.prog 64 #[.agg (vals h ns ls)] w fun e w' => TB (Bare h l) w e w' := by
  obtain ⟨a1, m1, d1, a2, m2, d2, rfl, rfl⟩ := hr.shape
  have hr := hide hr
  have hx : Bare h l ↔ (({ h with kind := 3, neg := false, dig := ⟨#[]⟩, exp := 0 }, l) : VT (n + 1)) = (zr 3, []) := by
    obtain ⟨k, f, ng, dg, ex, bt, tx, nm⟩ := h
    simp only at hk
    subst hk
    simp [Bare, strip, zr]
  have hx' := hide hx
  have hE := hide (fun o => equal_any (n + 1) ({ h with kind := 3, neg := false, dig := ⟨#[]⟩, exp := 0 }, l) (zr 3, []) (.slice a1 m1 d1) (.slice a2 m2 d2) _ _ (w.alloc o) ⟨(hr.out.below (below_al (o := o) (Below.refl _ _))).1, (hr.out.below (below_al (o := o) (Below.refl _ _))).2⟩ (rd_zero n _ 3))
  show Calls _ _ #[.agg #[.int .i64 h.kind, .bool h.flag, .bool h.neg, .string h.dig, .int .i64 h.exp, .int .u64 h.bits, .string h.text, .slice a1 m1 d1, .slice a2 m2 d2]] _ _
  rw [hk]
  clear hx hk
  go_enter Tryd.func64, Tryd.ntmps64
  go_wp2_with (go_at_call 81; refine (hE.out _).mono ?_; rintro e w1 ⟨b, rfl, hT, hb1⟩)
  go_ret
  exact ⟨b, rfl, (show Hid _ from ⟨(fun q => hx'.out.2 (hT.1 q)), (fun q => hT.2 (hx'.out.1 q))⟩), below_then (below_al (Below.refl _ _)) hb1⟩
set_option maxHeartbeats 1000000 in
set_option maxRecDepth 100000 in
theorem bare_4 (n : Nat) (h : Hd) (l : List (VT n)) (ns ls : Value) (w : World) (hr : RD (n + 1) w (h, l) ns ls) (hk : h.kind = 4) :
    Calls Tryd.prog 64 #[.agg (vals h ns ls)] w fun e w' => TB (Bare h l) w e w' := by
  obtain ⟨a1, m1, d1, a2, m2, d2, rfl, rfl⟩ := hr.shape
  have hr := hide hr
  have hx : Bare h l ↔ (({ h with kind := 4, bits := 0 }, l) : VT (n + 1)) = (zr 4, []) := by
    obtain ⟨k, f, ng, dg, ex, bt, tx, nm⟩ := h
    simp only at hk
    subst hk
    simp [Bare, strip, zr]
  have hx' := hide hx
  have hE := hide (fun o => equal_any (n + 1) ({ h with kind := 4, bits := 0 }, l) (zr 4, []) (.slice a1 m1 d1) (.slice a2 m2 d2) _ _ (w.alloc o) ⟨(hr.out.below (below_al (o := o) (Below.refl _ _))).1, (hr.out.below (below_al (o := o) (Below.refl _ _))).2⟩ (rd_zero n _ 4))
  show Calls _ _ #[.agg #[.int .i64 h.kind, .bool h.flag, .bool h.neg, .string h.dig, .int .i64 h.exp, .int .u64 h.bits, .string h.text, .slice a1 m1 d1, .slice a2 m2 d2]] _ _
  rw [hk]
  clear hx hk
  go_enter Tryd.func64, Tryd.ntmps64
  go_wp2_with (go_at_call 81; refine (hE.out _).mono ?_; rintro e w1 ⟨b, rfl, hT, hb1⟩)
  go_ret
  exact ⟨b, rfl, (show Hid _ from ⟨(fun q => hx'.out.2 (hT.1 q)), (fun q => hT.2 (hx'.out.1 q))⟩), below_then (below_al (Below.refl _ _)) hb1⟩
set_option maxHeartbeats 1000000 in
set_option maxRecDepth 100000 in
theorem bare_5 (n : Nat) (h : Hd) (l : List (VT n)) (ns ls : Value) (w : World) (hr : RD (n + 1) w (h, l) ns ls) (hk : h.kind = 5) :
    Calls Tryd.prog 64 #[.agg (vals h ns ls)] w fun e w' => TB (Bare h l) w e w' := by
  obtain ⟨a1, m1, d1, a2, m2, d2, rfl, rfl⟩ := hr.shape
  have hr := hide hr
  have hx : Bare h l ↔ (({ h with kind := 5, text := ⟨#[]⟩ }, l) : VT (n + 1)) = (zr 5, []) := by
    obtain ⟨k, f, ng, dg, ex, bt, tx, nm⟩ := h
    simp only at hk
    subst hk
    simp [Bare, strip, zr]
  have hx' := hide hx
  have hE := hide (fun o => equal_any (n + 1) ({ h with kind := 5, text := ⟨#[]⟩ }, l) (zr 5, []) (.slice a1 m1 d1) (.slice a2 m2 d2) _ _ (w.alloc o) ⟨(hr.out.below (below_al (o := o) (Below.refl _ _))).1, (hr.out.below (below_al (o := o) (Below.refl _ _))).2⟩ (rd_zero n _ 5))
  show Calls _ _ #[.agg #[.int .i64 h.kind, .bool h.flag, .bool h.neg, .string h.dig, .int .i64 h.exp, .int .u64 h.bits, .string h.text, .slice a1 m1 d1, .slice a2 m2 d2]] _ _
  rw [hk]
  clear hx hk
  go_enter Tryd.func64, Tryd.ntmps64
  go_wp2_with (go_at_call 81; refine (hE.out _).mono ?_; rintro e w1 ⟨b, rfl, hT, hb1⟩)
  go_ret
  exact ⟨b, rfl, (show Hid _ from ⟨(fun q => hx'.out.2 (hT.1 q)), (fun q => hT.2 (hx'.out.1 q))⟩), below_then (below_al (Below.refl _ _)) hb1⟩
set_option maxHeartbeats 1000000 in
set_option maxRecDepth 100000 in
theorem bare_6 (n : Nat) (h : Hd) (l : List (VT n)) (ns ls : Value) (w : World) (hr : RD (n + 1) w (h, l) ns ls) (hk : h.kind = 6) :
    Calls Tryd.prog 64 #[.agg (vals h ns ls)] w fun e w' => TB (Bare h l) w e w' := by
  obtain ⟨a1, m1, d1, a2, m2, d2, rfl, rfl⟩ := hr.shape
  have hr := hide hr
  have hx : Bare h l ↔ (({ h with kind := 6, text := ⟨#[]⟩ }, l) : VT (n + 1)) = (zr 6, []) := by
    obtain ⟨k, f, ng, dg, ex, bt, tx, nm⟩ := h
    simp only at hk
    subst hk
    simp [Bare, strip, zr]
  have hx' := hide hx
  have hE := hide (fun o => equal_any (n + 1) ({ h with kind := 6, text := ⟨#[]⟩ }, l) (zr 6, []) (.slice a1 m1 d1) (.slice a2 m2 d2) _ _ (w.alloc o) ⟨(hr.out.below (below_al (o := o) (Below.refl _ _))).1, (hr.out.below (below_al (o := o) (Below.refl _ _))).2⟩ (rd_zero n _ 6))
  show Calls _ _ #[.agg #[.int .i64 h.kind, .bool h.flag, .bool h.neg, .string h.dig, .int .i64 h.exp, .int .u64 h.bits, .string h.text, .slice a1 m1 d1, .slice a2 m2 d2]] _ _
  rw [hk]
  clear hx hk
  go_enter Tryd.func64, Tryd.ntmps64
  go_wp2_with (go_at_call 81; refine (hE.out _).mono ?_; rintro e w1 ⟨b, rfl, hT, hb1⟩)
  go_ret
  exact ⟨b, rfl, (show Hid _ from ⟨(fun q => hx'.out.2 (hT.1 q)), (fun q => hT.2 (hx'.out.1 q))⟩), below_then (below_al (Below.refl _ _)) hb1⟩
set_option maxHeartbeats 1000000 in
set_option maxRecDepth 100000 in
theorem bare_7 (n : Nat) (h : Hd) (l : List (VT n)) (ns ls : Value) (w : World) (hr : RD (n + 1) w (h, l) ns ls) (hk : h.kind = 7) :
    Calls Tryd.prog 64 #[.agg (vals h ns ls)] w fun e w' => TB (Bare h l) w e w' := by
  obtain ⟨a1, m1, d1, a2, m2, d2, rfl, rfl⟩ := hr.shape
  have hr := hide hr
  have hx : Bare h l ↔ (({ h with kind := 7 }, []) : VT (n + 1)) = (zr 7, []) := by
    obtain ⟨k, f, ng, dg, ex, bt, tx, nm⟩ := h
    simp only at hk
    subst hk
    simp [Bare, strip, zr]
  have hx' := hide hx
  have hE := hide (fun o => equal_any (n + 1) ({ h with kind := 7 }, []) (zr 7, []) (.slice a1 m1 d1) (.slice none 0 0) _ _ (w.alloc o) ⟨(hr.out.below (below_al (o := o) (Below.refl _ _))).1, Or.inl ⟨rfl, rfl⟩⟩ (rd_zero n _ 7))
  show Calls _ _ #[.agg #[.int .i64 h.kind, .bool h.flag, .bool h.neg, .string h.dig, .int .i64 h.exp, .int .u64 h.bits, .string h.text, .slice a1 m1 d1, .slice a2 m2 d2]] _ _
  rw [hk]
  clear hx hk
  go_enter Tryd.func64, Tryd.ntmps64
  go_wp2_with (go_at_call 81; refine (hE.out _).mono ?_; rintro e w1 ⟨b, rfl, hT, hb1⟩)
  go_ret
  exact ⟨b, rfl, (show Hid _ from ⟨(fun q => hx'.out.2 (hT.1 q)), (fun q => hT.2 (hx'.out.1 q))⟩), below_then (below_al (Below.refl _ _)) hb1⟩
set_option maxHeartbeats 1000000 in
set_option maxRecDepth 100000 in
theorem bare_8 (n : Nat) (h : Hd) (l : List (VT n)) (ns ls : Value) (w : World) (hr : RD (n + 1) w (h, l) ns ls) (hk : h.kind = 8) :
    Calls Tryd.prog 64 #[.agg (vals h ns ls)] w fun e w' => TB (Bare h l) w e w' := by
  obtain ⟨a1, m1, d1, a2, m2, d2, rfl, rfl⟩ := hr.shape
  have hr := hide hr
  have hx : Bare h l ↔ (({ h with kind := 8, names := [] }, []) : VT (n + 1)) = (zr 8, []) := by
    obtain ⟨k, f, ng, dg, ex, bt, tx, nm⟩ := h
    simp only at hk
    subst hk
    simp [Bare, strip, zr]
  have hx' := hide hx
  have hE := hide (fun o => equal_any (n + 1) ({ h with kind := 8, names := [] }, []) (zr 8, []) (.slice none 0 0) (.slice none 0 0) _ _ (w.alloc o) ⟨Or.inl ⟨rfl, rfl⟩, Or.inl ⟨rfl, rfl⟩⟩ (rd_zero n _ 8))
  show Calls _ _ #[.agg #[.int .i64 h.kind, .bool h.flag, .bool h.neg, .string h.dig, .int .i64 h.exp, .int .u64 h.bits, .string h.text, .slice a1 m1 d1, .slice a2 m2 d2]] _ _
  rw [hk]
  clear hx hk
  go_enter Tryd.func64, Tryd.ntmps64
  go_wp2_with (go_at_call 81; refine (hE.out _).mono ?_; rintro e w1 ⟨b, rfl, hT, hb1⟩)
  go_ret
  exact ⟨b, rfl, (show Hid _ from ⟨(fun q => hx'.out.2 (hT.1 q)), (fun q => hT.2 (hx'.out.1 q))⟩), below_then (below_al (Below.refl _ _)) hb1⟩
set_option maxHeartbeats 1000000 in
set_option maxRecDepth 100000 in
theorem bare_9 (n : Nat) (h : Hd) (l : List (VT n)) (ns ls : Value) (w : World) (hr : RD (n + 1) w (h, l) ns ls) (hk : h.kind = 9) :
    Calls Tryd.prog 64 #[.agg (vals h ns ls)] w fun e w' => TB (Bare h l) w e w' := by
  obtain ⟨a1, m1, d1, a2, m2, d2, rfl, rfl⟩ := hr.shape
  have hr := hide hr
  have hx : Bare h l ↔ (({ h with kind := 9, text := ⟨#[]⟩ }, []) : VT (n + 1)) = (zr 9, []) := by
    obtain ⟨k, f, ng, dg, ex, bt, tx, nm⟩ := h
    simp only at hk
    subst hk
    simp [Bare, strip, zr]
  have hx' := hide hx
  have hE := hide (fun o => equal_any (n + 1) ({ h with kind := 9, text := ⟨#[]⟩ }, []) (zr 9, []) (.slice a1 m1 d1) (.slice none 0 0) _ _ (w.alloc o) ⟨(hr.out.below (below_al (o := o) (Below.refl _ _))).1, Or.inl ⟨rfl, rfl⟩⟩ (rd_zero n _ 9))
  show Calls _ _ #[.agg #[.int .i64 h.kind, .bool h.flag, .bool h.neg, .string h.dig, .int .i64 h.exp, .int .u64 h.bits, .string h.text, .slice a1 m1 d1, .slice a2 m2 d2]] _ _
  rw [hk]
  clear hx hk
  go_enter Tryd.func64, Tryd.ntmps64
  go_wp2_with (go_at_call 81; refine (hE.out _).mono ?_; rintro e w1 ⟨b, rfl, hT, hb1⟩)
  go_ret
  exact ⟨b, rfl, (show Hid _ from ⟨(fun q => hx'.out.2 (hT.1 q)), (fun q => hT.2 (hx'.out.1 q))⟩), below_then (below_al (Below.refl _ _)) hb1⟩
set_option maxHeartbeats 1000000 in
set_option maxRecDepth 100000 in
theorem isBare_any (n : Nat) (h : Hd) (l : List (VT n)) (ns ls : Value) (w : World) (hr : RD (n + 1) w (h, l) ns ls) :
    Calls Tryd.prog 64 #[.agg (vals h ns ls)] w fun e w' => TB (Bare h l) w e w' := by
  by_cases k1 : h.kind = 1
  · exact bare_1 n h l ns ls w hr k1
  by_cases k2 : h.kind = 2
  · exact bare_2 n h l ns ls w hr k2
  by_cases k3 : h.kind = 3
  · exact bare_3 n h l ns ls w hr k3
  by_cases k4 : h.kind = 4
  · exact bare_4 n h l ns ls w hr k4
  by_cases k5 : h.kind = 5
  · exact bare_5 n h l ns ls w hr k5
  by_cases k6 : h.kind = 6
  · exact bare_6 n h l ns ls w hr k6
  by_cases k7 : h.kind = 7
  · exact bare_7 n h l ns ls w hr k7
  by_cases k8 : h.kind = 8
  · exact bare_8 n h l ns ls w hr k8
  by_cases k9 : h.kind = 9
  · exact bare_9 n h l ns ls w hr k9
  have hx : ¬ Bare h l := by
    rintro ⟨q1, q2, _⟩
    omega
  have hx' := hide hx
  obtain ⟨a1, m1, d1, a2, m2, d2, rfl, rfl⟩ := hr.shape
  clear hx hr
  show Calls _ _ #[.agg #[.int .i64 h.kind, .bool h.flag, .bool h.neg, .string h.dig, .int .i64 h.exp, .int .u64 h.bits, .string h.text, .slice a1 m1 d1, .slice a2 m2 d2]] _ _
  go_enter Tryd.func64, Tryd.ntmps64
  go_wp2_with fail
  go_ret
  exact TB.no hx'.out (below_al (Below.refl _ _))
end Go.Proofs.YtlfnnecpinmjjaaDoor
