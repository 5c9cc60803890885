/- Merged by program: WfBare, WbSize, WcBig, NbCount. -/
import Derived.Test.YtoaacfhjejmbnaaGreatDoorZm00
import Derived.Test.YtoaacfhjejmbnaaGreatDoorRows
import Derived.WalkKit
import Derived.WalkSpells
import Derived.WalkLawsBesides
import Derived.Deep.RegionWith
/- value.isBare: walked. -/
namespace Go.Proofs.YtoaacfhjejmbnaaGreatDoor
open Go.RowKit
set_option linter.unusedSimpArgs false
set_option linter.unusedVariables false
/-- A struct of noughts but for its Kind. -/
def zr (k : Int) : Hd := ⟨k, false, false, ⟨#[]⟩, 0, 0, ⟨#[]⟩, []⟩
/-- What its Kind uses is made nought. -/
def strip (h : Hd) : Hd := ⟨h.kind, bif h.kind == 2 then false else h.flag, bif h.kind == 3 then false else h.neg, bif h.kind == 3 then ⟨#[]⟩ else h.dig, bif h.kind == 3 then 0 else h.exp, bif h.kind == 4 then 0 else h.bits, bif h.kind == 5 || h.kind == 6 || h.kind == 9 then ⟨#[]⟩ else h.text, bif h.kind == 8 then [] else h.names⟩
/-- There is such a Kind, and what it does not use is nought. -/
def Bare {α : Type} (h : Hd) (l : List α) : Prop := 1 ≤ h.kind ∧ h.kind ≤ 9 ∧ strip h = zr h.kind ∧ (7 ≤ h.kind ∨ l = [])
theorem rd_zero (n : Nat) (w : World) (k : Int) : RD (n + 1) w ((zr k, []) : VT (n + 1)) (.slice none 0 0) (.slice none 0 0) := ⟨Or.inl ⟨rfl, rfl⟩, Or.inl ⟨rfl, rfl⟩⟩
set_option maxHeartbeats 1000000 in
set_option maxRecDepth 100000 in
theorem bare_1 (n : Nat) (h : Hd) (l : List (VT n)) (ns ls : Value) (w : World) (hr : RD (n + 1) w (h, l) ns ls) (hk : h.kind = 1) :
    Calls Tryz.prog 87 #[.agg (vals h ns ls)] w fun e w' => TB (Bare h l) w e w' := by
  obtain ⟨a1, m1, d1, a2, m2, d2, rfl, rfl⟩ := hr.shape
  have hr := hide hr
  have hx : Bare h l ↔ (({ h with kind := 1 }, l) : VT (n + 1)) = (zr 1, []) := by
    obtain ⟨k, f, ng, dg, ex, bt, tx, nm⟩ := h
    simp only at hk
    subst hk
    simp [Bare, strip, zr]
  have hx' := hide hx
  have hE := hide (fun o => equal_any (n + 1) ({ h with kind := 1 }, l) (zr 1, []) (.slice a1 m1 d1) (.slice a2 m2 d2) _ _ (w.alloc o) ⟨(hr.out.below (below_al (o := o) (Below.refl _ _))).1, (hr.out.below (below_al (o := o) (Below.refl _ _))).2⟩ (rd_zero n _ 1))
  show Calls _ _ #[.agg #[.int .i64 h.kind, .bool h.flag, .bool h.neg, .string h.dig, .int .i64 h.exp, .int .u64 h.bits, .string h.text, .slice a1 m1 d1, .slice a2 m2 d2]] _ _
  rw [hk]
  clear hx hk
  go_enter Tryz.func87, Tryz.ntmps87
  go_wp2_with (go_at_call 132; refine (hE.out _).mono ?_; rintro e w1 ⟨b, rfl, hT, hb1⟩)
  go_ret
  exact ⟨b, rfl, (show Hid _ from ⟨(fun q => hx'.out.2 (hT.1 q)), (fun q => hT.2 (hx'.out.1 q))⟩), below_then (below_al (Below.refl _ _)) hb1⟩
set_option maxHeartbeats 1000000 in
set_option maxRecDepth 100000 in
theorem bare_2 (n : Nat) (h : Hd) (l : List (VT n)) (ns ls : Value) (w : World) (hr : RD (n + 1) w (h, l) ns ls) (hk : h.kind = 2) :
    Calls Tryz.prog 87 #[.agg (vals h ns ls)] w fun e w' => TB (Bare h l) w e w' := by
  obtain ⟨a1, m1, d1, a2, m2, d2, rfl, rfl⟩ := hr.shape
  have hr := hide hr
  have hx : Bare h l ↔ (({ h with kind := 2, flag := false }, l) : VT (n + 1)) = (zr 2, []) := by
    obtain ⟨k, f, ng, dg, ex, bt, tx, nm⟩ := h
    simp only at hk
    subst hk
    simp [Bare, strip, zr]
  have hx' := hide hx
  have hE := hide (fun o => equal_any (n + 1) ({ h with kind := 2, flag := false }, l) (zr 2, []) (.slice a1 m1 d1) (.slice a2 m2 d2) _ _ (w.alloc o) ⟨(hr.out.below (below_al (o := o) (Below.refl _ _))).1, (hr.out.below (below_al (o := o) (Below.refl _ _))).2⟩ (rd_zero n _ 2))
  show Calls _ _ #[.agg #[.int .i64 h.kind, .bool h.flag, .bool h.neg, .string h.dig, .int .i64 h.exp, .int .u64 h.bits, .string h.text, .slice a1 m1 d1, .slice a2 m2 d2]] _ _
  rw [hk]
  clear hx hk
  go_enter Tryz.func87, Tryz.ntmps87
  go_wp2_with (go_at_call 132; refine (hE.out _).mono ?_; rintro e w1 ⟨b, rfl, hT, hb1⟩)
  go_ret
  exact ⟨b, rfl, (show Hid _ from ⟨(fun q => hx'.out.2 (hT.1 q)), (fun q => hT.2 (hx'.out.1 q))⟩), below_then (below_al (Below.refl _ _)) hb1⟩
set_option maxHeartbeats 1000000 in
set_option maxRecDepth 100000 in
theorem bare_3 (n : Nat) (h : Hd) (l : List (VT n)) (ns ls : Value) (w : World) (hr : RD (n + 1) w (h, l) ns ls) (hk : h.kind = 3) :
    Calls Tryz.prog 87 #[.agg (vals h ns ls)] w fun e w' => TB (Bare h l) w e w' := by
  obtain ⟨a1, m1, d1, a2, m2, d2, rfl, rfl⟩ := hr.shape
  have hr := hide hr
  have hx : Bare h l ↔ (({ h with kind := 3, neg := false, dig := ⟨#[]⟩, exp := 0 }, l) : VT (n + 1)) = (zr 3, []) := by
    obtain ⟨k, f, ng, dg, ex, bt, tx, nm⟩ := h
    simp only at hk
    subst hk
    simp [Bare, strip, zr]
  have hx' := hide hx
  have hE := hide (fun o => equal_any (n + 1) ({ h with kind := 3, neg := false, dig := ⟨#[]⟩, exp := 0 }, l) (zr 3, []) (.slice a1 m1 d1) (.slice a2 m2 d2) _ _ (w.alloc o) ⟨(hr.out.below (below_al (o := o) (Below.refl _ _))).1, (hr.out.below (below_al (o := o) (Below.refl _ _))).2⟩ (rd_zero n _ 3))
  show Calls _ _ #[.agg #[.int .i64 h.kind, .bool h.flag, .bool h.neg, .string h.dig, .int .i64 h.exp, .int .u64 h.bits, .string h.text, .slice a1 m1 d1, .slice a2 m2 d2]] _ _
  rw [hk]
  clear hx hk
  go_enter Tryz.func87, Tryz.ntmps87
  go_wp2_with (go_at_call 132; refine (hE.out _).mono ?_; rintro e w1 ⟨b, rfl, hT, hb1⟩)
  go_ret
  exact ⟨b, rfl, (show Hid _ from ⟨(fun q => hx'.out.2 (hT.1 q)), (fun q => hT.2 (hx'.out.1 q))⟩), below_then (below_al (Below.refl _ _)) hb1⟩
set_option maxHeartbeats 1000000 in
set_option maxRecDepth 100000 in
theorem bare_4 (n : Nat) (h : Hd) (l : List (VT n)) (ns ls : Value) (w : World) (hr : RD (n + 1) w (h, l) ns ls) (hk : h.kind = 4) :
    Calls Tryz.prog 87 #[.agg (vals h ns ls)] w fun e w' => TB (Bare h l) w e w' := by
  obtain ⟨a1, m1, d1, a2, m2, d2, rfl, rfl⟩ := hr.shape
  have hr := hide hr
  have hx : Bare h l ↔ (({ h with kind := 4, bits := 0 }, l) : VT (n + 1)) = (zr 4, []) := by
    obtain ⟨k, f, ng, dg, ex, bt, tx, nm⟩ := h
    simp only at hk
    subst hk
    simp [Bare, strip, zr]
  have hx' := hide hx
  have hE := hide (fun o => equal_any (n + 1) ({ h with kind := 4, bits := 0 }, l) (zr 4, []) (.slice a1 m1 d1) (.slice a2 m2 d2) _ _ (w.alloc o) ⟨(hr.out.below (below_al (o := o) (Below.refl _ _))).1, (hr.out.below (below_al (o := o) (Below.refl _ _))).2⟩ (rd_zero n _ 4))
  show Calls _ _ #[.agg #[.int .i64 h.kind, .bool h.flag, .bool h.neg, .string h.dig, .int .i64 h.exp, .int .u64 h.bits, .string h.text, .slice a1 m1 d1, .slice a2 m2 d2]] _ _
  rw [hk]
  clear hx hk
  go_enter Tryz.func87, Tryz.ntmps87
  go_wp2_with (go_at_call 132; refine (hE.out _).mono ?_; rintro e w1 ⟨b, rfl, hT, hb1⟩)
  go_ret
  exact ⟨b, rfl, (show Hid _ from ⟨(fun q => hx'.out.2 (hT.1 q)), (fun q => hT.2 (hx'.out.1 q))⟩), below_then (below_al (Below.refl _ _)) hb1⟩
set_option maxHeartbeats 1000000 in
set_option maxRecDepth 100000 in
theorem bare_5 (n : Nat) (h : Hd) (l : List (VT n)) (ns ls : Value) (w : World) (hr : RD (n + 1) w (h, l) ns ls) (hk : h.kind = 5) :
    Calls Tryz.prog 87 #[.agg (vals h ns ls)] w fun e w' => TB (Bare h l) w e w' := by
  obtain ⟨a1, m1, d1, a2, m2, d2, rfl, rfl⟩ := hr.shape
  have hr := hide hr
  have hx : Bare h l ↔ (({ h with kind := 5, text := ⟨#[]⟩ }, l) : VT (n + 1)) = (zr 5, []) := by
    obtain ⟨k, f, ng, dg, ex, bt, tx, nm⟩ := h
    simp only at hk
    subst hk
    simp [Bare, strip, zr]
  have hx' := hide hx
  have hE := hide (fun o => equal_any (n + 1) ({ h with kind := 5, text := ⟨#[]⟩ }, l) (zr 5, []) (.slice a1 m1 d1) (.slice a2 m2 d2) _ _ (w.alloc o) ⟨(hr.out.below (below_al (o := o) (Below.refl _ _))).1, (hr.out.below (below_al (o := o) (Below.refl _ _))).2⟩ (rd_zero n _ 5))
  show Calls _ _ #[.agg #[.int .i64 h.kind, .bool h.flag, .bool h.neg, .string h.dig, .int .i64 h.exp, .int .u64 h.bits, .string h.text, .slice a1 m1 d1, .slice a2 m2 d2]] _ _
  rw [hk]
  clear hx hk
  go_enter Tryz.func87, Tryz.ntmps87
  go_wp2_with (go_at_call 132; refine (hE.out _).mono ?_; rintro e w1 ⟨b, rfl, hT, hb1⟩)
  go_ret
  exact ⟨b, rfl, (show Hid _ from ⟨(fun q => hx'.out.2 (hT.1 q)), (fun q => hT.2 (hx'.out.1 q))⟩), below_then (below_al (Below.refl _ _)) hb1⟩
set_option maxHeartbeats 1000000 in
set_option maxRecDepth 100000 in
theorem bare_6 (n : Nat) (h : Hd) (l : List (VT n)) (ns ls : Value) (w : World) (hr : RD (n + 1) w (h, l) ns ls) (hk : h.kind = 6) :
    Calls Tryz.prog 87 #[.agg (vals h ns ls)] w fun e w' => TB (Bare h l) w e w' := by
  obtain ⟨a1, m1, d1, a2, m2, d2, rfl, rfl⟩ := hr.shape
  have hr := hide hr
  have hx : Bare h l ↔ (({ h with kind := 6, text := ⟨#[]⟩ }, l) : VT (n + 1)) = (zr 6, []) := by
    obtain ⟨k, f, ng, dg, ex, bt, tx, nm⟩ := h
    simp only at hk
    subst hk
    simp [Bare, strip, zr]
  have hx' := hide hx
  have hE := hide (fun o => equal_any (n + 1) ({ h with kind := 6, text := ⟨#[]⟩ }, l) (zr 6, []) (.slice a1 m1 d1) (.slice a2 m2 d2) _ _ (w.alloc o) ⟨(hr.out.below (below_al (o := o) (Below.refl _ _))).1, (hr.out.below (below_al (o := o) (Below.refl _ _))).2⟩ (rd_zero n _ 6))
  show Calls _ _ #[.agg #[.int .i64 h.kind, .bool h.flag, .bool h.neg, .string h.dig, .int .i64 h.exp, .int .u64 h.bits, .string h.text, .slice a1 m1 d1, .slice a2 m2 d2]] _ _
  rw [hk]
  clear hx hk
  go_enter Tryz.func87, Tryz.ntmps87
  go_wp2_with (go_at_call 132; refine (hE.out _).mono ?_; rintro e w1 ⟨b, rfl, hT, hb1⟩)
  go_ret
  exact ⟨b, rfl, (show Hid _ from ⟨(fun q => hx'.out.2 (hT.1 q)), (fun q => hT.2 (hx'.out.1 q))⟩), below_then (below_al (Below.refl _ _)) hb1⟩
set_option maxHeartbeats 1000000 in
set_option maxRecDepth 100000 in
theorem bare_7 (n : Nat) (h : Hd) (l : List (VT n)) (ns ls : Value) (w : World) (hr : RD (n + 1) w (h, l) ns ls) (hk : h.kind = 7) :
    Calls Tryz.prog 87 #[.agg (vals h ns ls)] w fun e w' => TB (Bare h l) w e w' := by
  obtain ⟨a1, m1, d1, a2, m2, d2, rfl, rfl⟩ := hr.shape
  have hr := hide hr
  have hx : Bare h l ↔ (({ h with kind := 7 }, []) : VT (n + 1)) = (zr 7, []) := by
    obtain ⟨k, f, ng, dg, ex, bt, tx, nm⟩ := h
    simp only at hk
    subst hk
    simp [Bare, strip, zr]
  have hx' := hide hx
  have hE := hide (fun o => equal_any (n + 1) ({ h with kind := 7 }, []) (zr 7, []) (.slice a1 m1 d1) (.slice none 0 0) _ _ (w.alloc o) ⟨(hr.out.below (below_al (o := o) (Below.refl _ _))).1, Or.inl ⟨rfl, rfl⟩⟩ (rd_zero n _ 7))
  show Calls _ _ #[.agg #[.int .i64 h.kind, .bool h.flag, .bool h.neg, .string h.dig, .int .i64 h.exp, .int .u64 h.bits, .string h.text, .slice a1 m1 d1, .slice a2 m2 d2]] _ _
  rw [hk]
  clear hx hk
  go_enter Tryz.func87, Tryz.ntmps87
  go_wp2_with (go_at_call 132; refine (hE.out _).mono ?_; rintro e w1 ⟨b, rfl, hT, hb1⟩)
  go_ret
  exact ⟨b, rfl, (show Hid _ from ⟨(fun q => hx'.out.2 (hT.1 q)), (fun q => hT.2 (hx'.out.1 q))⟩), below_then (below_al (Below.refl _ _)) hb1⟩
set_option maxHeartbeats 1000000 in
set_option maxRecDepth 100000 in
theorem bare_8 (n : Nat) (h : Hd) (l : List (VT n)) (ns ls : Value) (w : World) (hr : RD (n + 1) w (h, l) ns ls) (hk : h.kind = 8) :
    Calls Tryz.prog 87 #[.agg (vals h ns ls)] w fun e w' => TB (Bare h l) w e w' := by
  obtain ⟨a1, m1, d1, a2, m2, d2, rfl, rfl⟩ := hr.shape
  have hr := hide hr
  have hx : Bare h l ↔ (({ h with kind := 8, names := [] }, []) : VT (n + 1)) = (zr 8, []) := by
    obtain ⟨k, f, ng, dg, ex, bt, tx, nm⟩ := h
    simp only at hk
    subst hk
    simp [Bare, strip, zr]
  have hx' := hide hx
  have hE := hide (fun o => equal_any (n + 1) ({ h with kind := 8, names := [] }, []) (zr 8, []) (.slice none 0 0) (.slice none 0 0) _ _ (w.alloc o) ⟨Or.inl ⟨rfl, rfl⟩, Or.inl ⟨rfl, rfl⟩⟩ (rd_zero n _ 8))
  show Calls _ _ #[.agg #[.int .i64 h.kind, .bool h.flag, .bool h.neg, .string h.dig, .int .i64 h.exp, .int .u64 h.bits, .string h.text, .slice a1 m1 d1, .slice a2 m2 d2]] _ _
  rw [hk]
  clear hx hk
  go_enter Tryz.func87, Tryz.ntmps87
  go_wp2_with (go_at_call 132; refine (hE.out _).mono ?_; rintro e w1 ⟨b, rfl, hT, hb1⟩)
  go_ret
  exact ⟨b, rfl, (show Hid _ from ⟨(fun q => hx'.out.2 (hT.1 q)), (fun q => hT.2 (hx'.out.1 q))⟩), below_then (below_al (Below.refl _ _)) hb1⟩
set_option maxHeartbeats 1000000 in
set_option maxRecDepth 100000 in
theorem bare_9 (n : Nat) (h : Hd) (l : List (VT n)) (ns ls : Value) (w : World) (hr : RD (n + 1) w (h, l) ns ls) (hk : h.kind = 9) :
    Calls Tryz.prog 87 #[.agg (vals h ns ls)] w fun e w' => TB (Bare h l) w e w' := by
  obtain ⟨a1, m1, d1, a2, m2, d2, rfl, rfl⟩ := hr.shape
  have hr := hide hr
  have hx : Bare h l ↔ (({ h with kind := 9, text := ⟨#[]⟩ }, []) : VT (n + 1)) = (zr 9, []) := by
    obtain ⟨k, f, ng, dg, ex, bt, tx, nm⟩ := h
    simp only at hk
    subst hk
    simp [Bare, strip, zr]
  have hx' := hide hx
  have hE := hide (fun o => equal_any (n + 1) ({ h with kind := 9, text := ⟨#[]⟩ }, []) (zr 9, []) (.slice a1 m1 d1) (.slice none 0 0) _ _ (w.alloc o) ⟨(hr.out.below (below_al (o := o) (Below.refl _ _))).1, Or.inl ⟨rfl, rfl⟩⟩ (rd_zero n _ 9))
  show Calls _ _ #[.agg #[.int .i64 h.kind, .bool h.flag, .bool h.neg, .string h.dig, .int .i64 h.exp, .int .u64 h.bits, .string h.text, .slice a1 m1 d1, .slice a2 m2 d2]] _ _
  rw [hk]
  clear hx hk
  go_enter Tryz.func87, Tryz.ntmps87
  go_wp2_with (go_at_call 132; refine (hE.out _).mono ?_; rintro e w1 ⟨b, rfl, hT, hb1⟩)
  go_ret
  exact ⟨b, rfl, (show Hid _ from ⟨(fun q => hx'.out.2 (hT.1 q)), (fun q => hT.2 (hx'.out.1 q))⟩), below_then (below_al (Below.refl _ _)) hb1⟩
set_option maxHeartbeats 1000000 in
set_option maxRecDepth 100000 in
theorem isBare_any (n : Nat) (h : Hd) (l : List (VT n)) (ns ls : Value) (w : World) (hr : RD (n + 1) w (h, l) ns ls) :
    Calls Tryz.prog 87 #[.agg (vals h ns ls)] w fun e w' => TB (Bare h l) w e w' := by
  by_cases k1 : h.kind = 1
  · exact bare_1 n h l ns ls w hr k1
  by_cases k2 : h.kind = 2
  · exact bare_2 n h l ns ls w hr k2
  by_cases k3 : h.kind = 3
  · exact bare_3 n h l ns ls w hr k3
  by_cases k4 : h.kind = 4
  · exact bare_4 n h l ns ls w hr k4
  by_cases k5 : h.kind = 5
  · exact bare_5 n h l ns ls w hr k5
  by_cases k6 : h.kind = 6
  · exact bare_6 n h l ns ls w hr k6
  by_cases k7 : h.kind = 7
  · exact bare_7 n h l ns ls w hr k7
  by_cases k8 : h.kind = 8
  · exact bare_8 n h l ns ls w hr k8
  by_cases k9 : h.kind = 9
  · exact bare_9 n h l ns ls w hr k9
  have hx : ¬ Bare h l := by
    rintro ⟨q1, q2, _⟩
    omega
  have hx' := hide hx
  obtain ⟨a1, m1, d1, a2, m2, d2, rfl, rfl⟩ := hr.shape
  clear hx hr
  show Calls _ _ #[.agg #[.int .i64 h.kind, .bool h.flag, .bool h.neg, .string h.dig, .int .i64 h.exp, .int .u64 h.bits, .string h.text, .slice a1 m1 d1, .slice a2 m2 d2]] _ _
  go_enter Tryz.func87, Tryz.ntmps87
  go_wp2_with fail
  go_ret
  exact TB.no hx'.out (below_al (Below.refl _ _))
end Go.Proofs.YtoaacfhjejmbnaaGreatDoor
/- value.Depth, Size: walked. -/
namespace Go.Proofs.YtoaacfhjejmbnaaGreatDoor
open Go.RowKit
set_option linter.unusedSimpArgs false
set_option linter.unusedVariables false
/-- The greatest of some numbers. -/
def mxl : List Nat → Nat
  | [] => 0
  | a :: l => max a (mxl l)
theorem mxl_app (a b : List Nat) : mxl (a ++ b) = max (mxl a) (mxl b) := by
  induction a with
  | nil => simp [mxl]
  | cons x a ih => simp only [List.cons_append, mxl, ih]; omega
def suml : List Nat → Nat
  | [] => 0
  | a :: l => a + suml l
theorem suml_app (a b : List Nat) : suml (a ++ b) = suml a + suml b := by
  induction a with
  | nil => simp [suml]
  | cons x a ih => simp only [List.cons_append, suml, ih]; omega
theorem mxl_take (l : List Nat) (i : Nat) (h : i < l.length) : mxl (l.take (i + 1)) = max (mxl (l.take i)) l[i] := by
  rw [List.take_succ_eq_append_getElem h, mxl_app]; simp [mxl]
theorem suml_take (l : List Nat) (i : Nat) (h : i < l.length) : suml (l.take (i + 1)) = suml (l.take i) + l[i] := by
  rw [List.take_succ_eq_append_getElem h, suml_app]; simp [suml]
theorem suml_take_le (l : List Nat) (i : Nat) : suml (l.take i) ≤ suml l := by
  have := suml_app (l.take i) (l.drop i)
  rw [List.take_append_drop] at this
  omega
theorem mxl_le {l m : List Nat} (h : ∀ i (h1 : i < l.length) (h2 : i < m.length), l[i] ≤ m[i]) (hl : l.length = m.length) : mxl l ≤ suml m := by
  induction l generalizing m with
  | nil => exact Nat.zero_le _
  | cons a l ih =>
    cases m with
    | nil => simp at hl
    | cons b m =>
      have h0 := h 0 (by simp) (by simp)
      have := ih (m := m) (fun i h1 h2 => h (i + 1) (by simp; omega) (by simp; omega)) (by simpa using hl)
      simp only [List.getElem_cons_zero] at h0
      simp only [mxl, suml]; omega
/-- Depth and Size. -/
def dep : (n : Nat) → VT n → Nat
  | 0, _ => 0
  | n + 1, x => 1 + mxl (x.2.map (dep n))
def siz : (n : Nat) → VT n → Nat
  | 0, _ => 0
  | n + 1, x => 1 + suml (x.2.map (siz n))
theorem dep_le : ∀ (n : Nat) (x : VT n), dep n x ≤ siz n x
  | 0, x => Empty.elim x
  | n + 1, x => by
    simp only [dep, siz]
    have := mxl_le (l := x.2.map (dep n)) (m := x.2.map (siz n)) (fun i h1 h2 => by simp only [List.getElem_map]; exact dep_le n _) (by simp)
    omega
theorem suml_mem {l : List Nat} {i : Nat} (h : i < l.length) : l[i] ≤ suml l := by
  have h1 := suml_take l i h
  have h2 := suml_take_le l (i + 1)
  omega
theorem siz_mem {n : Nat} {x : VT (n + 1)} {i : Nat} (h : i < x.2.length) : siz n x.2[i] < siz (n + 1) x := by
  have := suml_mem (l := x.2.map (siz n)) (i := i) (by simpa using h)
  simp only [List.getElem_map] at this
  simp only [siz]; omega
set_option maxHeartbeats 1000000 in
set_option maxRecDepth 100000 in
theorem depth_any : ∀ (n : Nat) (x : VT n) (ns ls : Value) (w : World), RD n w x ns ls → siz n x ≤ 200000 →
    Calls Tryz.prog 50 #[.agg (vals (vhd n x) ns ls)] w fun e w' => e = .returned (.int .i64 (dep n x)) ∧ Below w.heap.size w w' := by
  intro n
  induction n with
  | zero => intro x; exact Empty.elim x
  | succ n ih =>
    intro x ns ls w hr hs
    obtain ⟨h, l⟩ := x
    obtain ⟨al, cl, rfl, hc1, hc2⟩ := hr.len
    have hr := hide hr
    have ih' := hide ih
    have hs' := hide hs
    clear ih hs
    show Calls _ _ #[.agg #[.int .i64 h.kind, .bool h.flag, .bool h.neg, .string h.dig, .int .i64 h.exp, .int .u64 h.bits, .string h.text, ns, .slice al l.length cl]] _ _
    go_enter Tryz.func50, Tryz.ntmps50
    go_wp2_with fail
    go_loopw [3, 9] (fun m i w' => ∃ k : Nat, m = .int .i64 (mxl ((l.map (dep n)).take k) : Nat) ∧ i = .int .i64 k ∧ k ≤ l.length ∧ Hid (Below w.heap.size w w')) (fun _ i _ => l.length - (intOf i).toNat)
    case atStart => exact ⟨0, rfl, rfl, Nat.zero_le _, below_al (Below.refl _ _)⟩
    case round =>
      obtain ⟨k, rfl, rfl, hk, hb⟩ := hrel
      have ml : maxLen = 9223372036854775807 := rfl
      have hk63 : (k : Int) ≤ 9223372036854775807 := by omega
      by_cases hkl : k < l.length
      · obtain ⟨b, o, c, he, hbl, hlc, hcm, ns', ls', hrg, hrd⟩ := hr.out.at k hkl
        have he' := Value.slice.inj he
        obtain ⟨rfl, _, rfl⟩ := he'
        clear he
        have hki : (k : Int) < (l.length : Int) := by omega
        have hk63 : (k : Int) < 9223372036854775807 := by omega
        obtain ⟨c0, c1, c2, c3, c4, c5, c6, c7, c8⟩ := range9 (rangeAt_below hrg hb.out hbl)
        have hrd' := hide (hrd.below hb.out)
        obtain ⟨a1, m1, d1, a2, m2, d2, rfl, rfl⟩ := hrd.shape
        clear hrg hrd
        have hsk : siz n l[k] ≤ 200000 := by have h1 := siz_mem (x := (h, l)) hkl; have h2 := hs'.out; simp only at h1; omega
        obtain ⟨D, hD⟩ : ∃ D, dep n l[k] = D := ⟨_, rfl⟩
        have hmx := mxl_take (l.map (dep n)) k (by simpa using hkl)
        rw [List.getElem_map, hD] at hmx
        have hcall := hide (fun o => ih'.out l[k] (.slice a1 m1 d1) (.slice a2 m2 d2) (wr.alloc o) (hrd'.out.below (below_al (Below.refl _ _))) hsk)
        rw [hD] at hcall
        obtain ⟨M, hM⟩ : ∃ M, mxl ((l.map (dep n)).take k) = M := ⟨_, rfl⟩
        rw [hM] at hmx ⊢
        have hmx' := hide hmx
        have hD' := hide hD
        have hM' := hide hM
        clear hD hM hsk hmx
        rcases Nat.lt_trichotomy M D with hlt | hlt | hlt
        · have hdi : (M : Int) < (D : Int) := by omega
          have hdj : ¬ ((D : Int) < (M : Int)) := by omega
          go_wp2_with (go_at_call 50; refine (hcall.out _).mono ?_; rintro e w1 ⟨rfl, hb1⟩)
          exact ⟨⟨k + 1, by rw [hmx'.out]; congr 2; omega, by go_num, by omega, below_then (below_al hb.out) hb1⟩, by simp [intOf]; omega⟩
        · subst hlt
          have hdi : ¬ ((M : Int) < (M : Int)) := by omega
          go_wp2_with (go_at_call 50; refine (hcall.out _).mono ?_; rintro e w1 ⟨rfl, hb1⟩)
          exact ⟨⟨k + 1, by rw [hmx'.out]; congr 2; omega, by go_num, by omega, below_then (below_al hb.out) hb1⟩, by simp [intOf]; omega⟩
        · have hdi : (D : Int) < (M : Int) := by omega
          have hdj : ¬ ((M : Int) < (D : Int)) := by omega
          go_wp2_with (go_at_call 50; refine (hcall.out _).mono ?_; rintro e w1 ⟨rfl, hb1⟩)
          exact ⟨⟨k + 1, by rw [hmx'.out]; congr 2; omega, by go_num, by omega, below_then (below_al hb.out) hb1⟩, by simp [intOf]; omega⟩
      · have hki : ¬ ((k : Int) < (l.length : Int)) := by omega
        have hkl2 : k = l.length := by omega
        have hD : dep (n + 1) (h, l) = 1 + mxl ((l.map (dep n)).take k) := by
          simp only [dep]
          rw [List.take_of_length_le (by simp; omega)]
        have hsz : 1 + mxl ((l.map (dep n)).take k) ≤ 200000 := by
          rw [← hD]; exact Nat.le_trans (dep_le _ _) hs'.out
        obtain ⟨M, hM⟩ : ∃ M, mxl ((l.map (dep n)).take k) = M := ⟨_, rfl⟩
        rw [hM] at hsz hD ⊢
        have hD' := hide hD
        clear hD hM hkl2
        have hM2 : (M : Int) < 200000 := by omega
        clear hsz
        go_wp2_with fail
        go_ret
        exact ⟨by rw [hD'.out]; exact ret_int (by omega), hb.out⟩
set_option maxHeartbeats 1000000 in
set_option maxRecDepth 100000 in
theorem size_any : ∀ (n : Nat) (x : VT n) (ns ls : Value) (w : World), RD n w x ns ls → siz n x ≤ 200000 →
    Calls Tryz.prog 51 #[.agg (vals (vhd n x) ns ls)] w fun e w' => e = .returned (.int .i64 (siz n x)) ∧ Below w.heap.size w w' := by
  intro n
  induction n with
  | zero => intro x; exact Empty.elim x
  | succ n ih =>
    intro x ns ls w hr hs
    obtain ⟨h, l⟩ := x
    obtain ⟨al, cl, rfl, hc1, hc2⟩ := hr.len
    have hr := hide hr
    have ih' := hide ih
    have hs' := hide hs
    clear ih hs
    show Calls _ _ #[.agg #[.int .i64 h.kind, .bool h.flag, .bool h.neg, .string h.dig, .int .i64 h.exp, .int .u64 h.bits, .string h.text, ns, .slice al l.length cl]] _ _
    go_enter Tryz.func51, Tryz.ntmps51
    go_wp2_with fail
    go_loopw [3, 9] (fun m i w' => ∃ k : Nat, m = .int .i64 (1 + suml ((l.map (siz n)).take k) : Nat) ∧ i = .int .i64 k ∧ k ≤ l.length ∧ Hid (Below w.heap.size w w')) (fun _ i _ => l.length - (intOf i).toNat)
    case atStart => exact ⟨0, rfl, rfl, Nat.zero_le _, below_al (Below.refl _ _)⟩
    case round =>
      obtain ⟨k, rfl, rfl, hk, hb⟩ := hrel
      have ml : maxLen = 9223372036854775807 := rfl
      have hk63 : (k : Int) ≤ 9223372036854775807 := by omega
      obtain ⟨M, hM⟩ : ∃ M, 1 + suml ((l.map (siz n)).take k) = M := ⟨_, rfl⟩
      have hMle : M ≤ 200000 := by
        have h1 := suml_take_le (l.map (siz n)) k
        have h2 := hs'.out
        simp only [siz] at h2
        omega
      by_cases hkl : k < l.length
      · obtain ⟨b, o, c, he, hbl, hlc, hcm, ns', ls', hrg, hrd⟩ := hr.out.at k hkl
        have he' := Value.slice.inj he
        obtain ⟨rfl, _, rfl⟩ := he'
        clear he
        have hki : (k : Int) < (l.length : Int) := by omega
        have hk63 : (k : Int) < 9223372036854775807 := by omega
        obtain ⟨c0, c1, c2, c3, c4, c5, c6, c7, c8⟩ := range9 (rangeAt_below hrg hb.out hbl)
        have hrd' := hide (hrd.below hb.out)
        obtain ⟨a1, m1, d1, a2, m2, d2, rfl, rfl⟩ := hrd.shape
        clear hrg hrd
        have hsk : siz n l[k] ≤ 200000 := by have h1 := siz_mem (x := (h, l)) hkl; have h2 := hs'.out; simp only at h1; omega
        obtain ⟨D, hD⟩ : ∃ D, siz n l[k] = D := ⟨_, rfl⟩
        have hmx := suml_take (l.map (siz n)) k (by simpa using hkl)
        rw [List.getElem_map, hD] at hmx
        have hcall := hide (fun o => ih'.out l[k] (.slice a1 m1 d1) (.slice a2 m2 d2) (wr.alloc o) (hrd'.out.below (below_al (Below.refl _ _))) hsk)
        rw [hD] at hcall hsk
        have hmx : 1 + suml ((l.map (siz n)).take (k + 1)) = M + D := by omega
        rw [hM]
        have hmx' := hide hmx
        have hD1 : (D : Int) ≤ 200000 := by omega
        have hM1 : (M : Int) ≤ 200000 := by omega
        clear hD hM hsk hmx hMle
        go_wp2_with (go_at_call 51; refine (hcall.out _).mono ?_; rintro e w1 ⟨rfl, hb1⟩)
        exact ⟨⟨k + 1, by rw [hmx'.out]; first | rfl | (congr 1), by go_num, by omega, below_then (below_al hb.out) hb1⟩, by simp [intOf]; omega⟩
      · have hki : ¬ ((k : Int) < (l.length : Int)) := by omega
        have hD : siz (n + 1) (h, l) = M := by
          rw [← hM]
          simp only [siz]
          rw [List.take_of_length_le (by simp; omega)]
        rw [hM]
        have hD' := hide hD
        clear hD hM hMle
        go_wp2_with fail
        go_ret
        exact ⟨by rw [hD'.out]; rfl, hb.out⟩
end Go.Proofs.YtoaacfhjejmbnaaGreatDoor
/- calamuskeep.Parts, many, Big: walked. -/
namespace Go.Proofs.YtoaacfhjejmbnaaGreatDoor
open Go.RowKit
set_option linter.unusedSimpArgs false
set_option linter.unusedVariables false
/-- How many structs and bytes a value has. -/
def blk : (n : Nat) → VT n → Nat
  | 0, _ => 0
  | n + 1, x => 1 + x.1.text.size + x.1.dig.size + x.1.names.length + suml (x.1.names.map ByteArray.size) + suml (x.2.map (blk n))
/-- Nothing is longer than memory is. -/
def Sz : (n : Nat) → VT n → Prop
  | 0, _ => True
  | n + 1, x => x.1.text.size ≤ 281474976710656 ∧ x.1.dig.size ≤ 281474976710656 ∧ x.1.names.length ≤ 281474976710656 ∧ (∀ s ∈ x.1.names, s.size ≤ 281474976710656) ∧ ∀ y ∈ x.2, Sz n y
end Go.Proofs.YtoaacfhjejmbnaaGreatDoor
/- num.countDigits, areDigits, expFits: walked. -/
namespace Go.Proofs.YtoaacfhjejmbnaaGreatDoor
open Go.RowKit
set_option linter.unusedSimpArgs false
set_option linter.unusedVariables false
set_option maxHeartbeats 400000 in
theorem countDigits_any (s : ByteArray) (w : World) (hs : s.size ≤ maxLen) :
    Calls Tryz.prog 179 #[.string s] w fun e w' => e = .returned (.int .i64 (cntD (bl s))) ∧ w' = w := by
  unfold maxLen at hs
  go_enter Tryz.func179, Tryz.ntmps179
  go_wp2
  go_loop [3] (fun i => ∃ k : Nat, k ≤ s.size ∧ i = .int .i64 k ∧ ∀ j (hj : j < k) (h : j < s.size), isDig s[j] = true) (fun i => s.size - (intOf i).toNat)
  case atStart => exact ⟨0, Nat.zero_le _, rfl, by omega⟩
  case round =>
    obtain ⟨k, hk, rfl, hall⟩ := hrel
    by_cases hlt : k < s.size
    · by_cases hd : isDig s[k] = true
      · have hd' := (isDig_iff _).1 hd
        have h1 := hd'.1
        have h2 := hd'.2
        have HH : Hid (isDig s[k] = true) := hd
        clear hd hd'
        go_wp2
        go_round
        case rel => exact ⟨k + 1, by omega, by go_num, fun j hj h => by
          by_cases e : j = k
          · subst e; exact HH.out
          · exact hall j (by omega) h⟩
        case measure => simp [intOf]; omega
      · have HH : Hid (isDig s[k] = false) := (Bool.not_eq_true _).mp hd
        have hd' : ¬ (48 ≤ (s[k].toNat : Int) ∧ (s[k].toNat : Int) ≤ 57) := fun h => hd ((isDig_iff _).2 h)
        clear hd
        go_wp2
        all_goals
          go_ret
          exact ⟨ret_int (by rw [cntD_of s k hk hall (fun _ => HH.out)]), rfl⟩
    · go_wp2
      go_ret
      exact ⟨ret_int (by rw [cntD_of s k hk hall (fun h => absurd h hlt)]), rfl⟩

theorem areDigits_any (s : ByteArray) (w : World) (hs : s.size ≤ maxLen) :
    Calls Tryz.prog 163 #[.string s] w fun e w' => e = .returned (.bool (allD (bl s))) ∧ w' = w := by
  have hc : ((cntD (bl s) : Int) == (s.size : Int)) = allD (bl s) := by
    rw [Bool.eq_iff_iff, ← cntD_all, bl_length]; simp; omega
  go_enter Tryz.func163, Tryz.ntmps163
  go_wp2_with (go_at_call 179; refine (countDigits_any _ _ hs).mono ?_; rintro e w' ⟨rfl, rfl⟩)
  go_ret
  exact ⟨rfl, rfl⟩

theorem expFits_any (x : Int) (w : World) :
    Calls Tryz.prog 162 #[.int .i64 x] w fun e w' => e = .returned (.bool (decide (-400 ≤ x ∧ x ≤ 400))) ∧ w' = w := by
  by_cases h : -400 ≤ x
  · go_enter Tryz.func162, Tryz.ntmps162
    go_wp2
    go_ret
    exact ⟨ret_bool (by simp [h]), rfl⟩
  · go_enter Tryz.func162, Tryz.ntmps162
    go_wp2
    go_ret
    exact ⟨ret_bool (by simp; omega), rfl⟩

theorem isZero_any (neg : Bool) (s : ByteArray) (x : Int) (w : World) :
    Calls Tryz.prog 134 #[.agg #[.bool neg, .string s, .int .i64 x]] w fun e w' => e = .returned (.bool (isZ neg s x)) ∧ Below w.heap.size w w' := by
  go_enter Tryz.func134, Tryz.ntmps134
  go_wp2
  all_goals
    go_ret
    refine ⟨ret_bool ?_, (Below.refl _ _).alloc (Nat.le_refl _) _⟩
    simp_all [isZ, bl_toList]

set_option maxHeartbeats 1000000 in
theorem isOther_any (neg : Bool) (s : ByteArray) (x : Int) (w : World) (hs : s.size ≤ maxLen) :
    Calls Tryz.prog 135 #[.agg #[.bool neg, .string s, .int .i64 x]] w fun e w' => e = .returned (.bool (isO (bl s) x)) ∧ Below w.heap.size w w' := by
  by_cases h1 : s.size < 1
  · go_enter Tryz.func135, Tryz.ntmps135
    go_wp2
    go_ret
    exact ⟨ret_bool (by simp [isO, bl_length]; omega), (Below.refl _ _).alloc (Nat.le_refl _) _⟩
  have HO := hide (isO_at s x (by omega))
  by_cases h2 : 40 < s.size
  · go_enter Tryz.func135, Tryz.ntmps135
    go_wp2
    go_ret
    exact ⟨ret_bool (by rw [HO.out]; simp; omega), (Below.refl _ _).alloc (Nat.le_refl _) _⟩
  by_cases h3 : -400 ≤ x ∧ x ≤ 400
  · have e3 : decide (-400 ≤ x ∧ x ≤ 400) = true := decide_eq_true h3
    cases h4 : allD (bl s)
    all_goals
      go_enter Tryz.func135, Tryz.ntmps135
      go_wp2_with (first | (go_at_call 162; refine (expFits_any _ _).mono ?_; rintro e w' ⟨rfl, rfl⟩) | (go_at_call 163; refine (areDigits_any _ _ hs).mono ?_; rintro e w' ⟨rfl, rfl⟩))
    all_goals
      go_ret
      refine ⟨ret_bool ?_, (Below.refl _ _).alloc (Nat.le_refl _) _⟩
      have h2' : s.size ≤ 40 := by omega
      rw [HO.out, h4, e3]
      simp only [← bne48]
      simp [h2', *]
  · have e3 : decide (-400 ≤ x ∧ x ≤ 400) = false := decide_eq_false h3
    go_enter Tryz.func135, Tryz.ntmps135
    go_wp2_with (go_at_call 162; refine (expFits_any _ _).mono ?_; rintro e w' ⟨rfl, rfl⟩)
    go_ret
    exact ⟨ret_bool (by rw [HO.out, e3]; simp), (Below.refl _ _).alloc (Nat.le_refl _) _⟩

set_option maxHeartbeats 1000000 in
theorem check_ok (neg : Bool) (s : ByteArray) (x : Int) (w : World) (hs : s.size ≤ maxLen) (h : isN neg s x = true) :
    Calls Tryz.prog 89 #[.agg #[.bool neg, .string s, .int .i64 x]] w fun e w' => e = .returned (.int .i64 0) ∧ Below w.heap.size w w' := by
  cases hz : isZ neg s x
  · have ho : isO (bl s) x = true := by simpa [isN, hz] using h
    go_enter Tryz.func89, Tryz.ntmps89
    go_wp2_with fail
    refine (isZero_any neg s x _).mono ?_
    rw [hz]
    rintro e w1 ⟨rfl, hb⟩
    obtain ⟨hc, hf⟩ := bcell hb
    go_wp2_with fail
    refine (isOther_any neg s x _ hs).mono ?_
    rw [ho]
    rintro e w2 ⟨rfl, hb2⟩
    go_wp2
    go_ret
    exact ⟨rfl, below_then (below_alloc hb) hb2⟩
  · go_enter Tryz.func89, Tryz.ntmps89
    go_wp2_with fail
    refine (isZero_any neg s x _).mono ?_
    rw [hz]
    rintro e w1 ⟨rfl, hb⟩
    go_wp2_with fail
    go_ret
    exact ⟨rfl, below_alloc hb⟩

set_option maxHeartbeats 1000000 in
theorem check_no (neg : Bool) (s : ByteArray) (x : Int) (w : World) (hs : s.size ≤ maxLen) (h : isN neg s x = false) :
    Calls Tryz.prog 89 #[.agg #[.bool neg, .string s, .int .i64 x]] w fun e w' => e = .returned (.int .i64 10) ∧ Below w.heap.size w w' := by
  have hz : isZ neg s x = false := by simp [isN] at h; exact h.1
  have ho : isO (bl s) x = false := by simp [isN] at h; exact h.2
  go_enter Tryz.func89, Tryz.ntmps89
  go_wp2_with fail
  refine (isZero_any neg s x _).mono ?_
  rw [hz]
  rintro e w1 ⟨rfl, hb⟩
  obtain ⟨hc, hf⟩ := bcell hb
  go_wp2_with fail
  refine (isOther_any neg s x _ hs).mono ?_
  rw [ho]
  rintro e w2 ⟨rfl, hb2⟩
  go_wp2
  go_ret
  exact ⟨rfl, below_then (below_alloc hb) hb2⟩

/-- The power of ten that is just above a number's size. -/
def topN (neg : Bool) (s : ByteArray) (x : Int) : Int := if isZ neg s x then -400 else x + s.size

end Go.Proofs.YtoaacfhjejmbnaaGreatDoor
