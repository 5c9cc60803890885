/- types.isFilled, isType, isShort: walked. -/
import Derived.Test.YtolmbjeinilhlaaDoorZtHdPlain
import Derived.Test.YtolmbjeinilhlaaDoorZtW
namespace Go.Proofs.YtolmbjeinilhlaaDoor
open Go.RowKit Go.Maps
set_option linter.unusedSimpArgs false
set_option linter.unusedVariables false
/-- Its Kind is one, with what that asks for. -/
def TFil (h : Th) (m : Nat) : Prop := (h.kind = 9 ∧ h.names.length = 0 ∧ m = 1) ∨ ((h.kind = 10 ∨ h.kind = 11) ∧ h.names.length = m ∧ Nms h.names) ∨ (1 ≤ h.kind ∧ h.kind ≤ 8 ∧ h.names.length = 0 ∧ m = 0)
/-- It is a type, but for the limits. -/
def IsT : (n : Nat) → TT n → Prop
  | 0, _ => False
  | n + 1, x => TFil x.1 x.2.length ∧ ∀ y ∈ x.2, IsT n y
set_option maxHeartbeats 1000000 in
set_option maxRecDepth 100000 in
theorem tisFilled_any (n : Nat) (h : Th) (l : List (TT n)) (ns ls : Value) (w : World) (hr : RT (n + 1) w (h, l) ns ls) (hz : TSz (n + 1) (h, l)) (g : Ut.Gu w) (gt : Gt w) :
    Calls Tryd.prog 46 #[.agg (tvs h ns ls)] w fun e w' => TB (TFil h l.length) w e w' := by
  obtain ⟨al, cl, rfl, hc1, hc2⟩ := hr.len
  obtain ⟨an, cn, rfl, hn1, hn2⟩ := hr.1.len
  have ml : maxLen = 9223372036854775807 := rfl
  simp only at hc1 hc2 hn1 hn2
  obtain ⟨z3, z4, z5⟩ := hz
  simp only at z3 z4
  have hN := hide (fun W (hb : Below w.heap.size w W) => tareNames_any (.slice an h.names.length cn) h.names W (hr.1.below hb) (g.below hb) ⟨z3, z4⟩)
  have hP := hide (fun W (hb : Below w.heap.size w W) => plain_any h.kind W (gt.below hb))
  have hb0 : Hid (∀ o, Below w.heap.size w (w.alloc o)) := fun o => below_al (Below.refl _ _)
  have hB0 := hide (tx_new w h (.slice an h.names.length cn) (.slice al l.length cl))
  clear hr g z4 z5 gt
  show Calls _ _ #[.agg #[.int .i64 h.kind, .slice an h.names.length cn, .slice al l.length cl]] _ _
  by_cases k9 : h.kind = 9
  · rw [k9]
    by_cases hn0 : (h.names.length : Int) = 0
    · by_cases hl1 : (l.length : Int) = 1
      · have hx : Hid (TFil h l.length) := Or.inl ⟨k9, by omega, by omega⟩
        go_enter Tryd.func46, Tryd.ntmps46
        go_wp2_with fail
        go_ret
        exact TB.yes hx.out (hb0.out _)
      · have hx : Hid (¬ TFil h l.length) := by
          rintro (⟨_, _, q⟩ | ⟨q, _⟩ | ⟨_, q, _⟩) <;> omega
        have qe : ((l.length : Int) == 1) = false := beq_eq_false_iff_ne.2 hl1
        go_enter Tryd.func46, Tryd.ntmps46
        go_wp2_with fail
        go_ret
        exact TB.no hx.out (hb0.out _)
    · have hx : Hid (¬ TFil h l.length) := by
        rintro (⟨_, q, _⟩ | ⟨q, _⟩ | ⟨_, q, _⟩) <;> omega
      have qe : ((h.names.length : Int) == 0) = false := beq_eq_false_iff_ne.2 hn0
      go_enter Tryd.func46, Tryd.ntmps46
      go_wp2_with fail
      go_ret
      exact TB.no hx.out (hb0.out _)
  have key : ∀ kk : Int, (kk = 10 ∨ kk = 11) → h.kind = kk → Calls Tryd.prog 46 #[.agg #[.int .i64 kk, .slice an h.names.length cn, .slice al l.length cl]] w fun e w' => TB (TFil h l.length) w e w' := by
    intro kk hkk hk
    have hB0 := hide (tx_new w { h with kind := kk } (.slice an h.names.length cn) (.slice al l.length cl))
    by_cases hlen : (h.names.length : Int) = (l.length : Int)
    · have hl' : h.names.length = l.length := by omega
      have hx := hide (show TFil h l.length ↔ Nms h.names by
        constructor
        · rintro (⟨q, _⟩ | ⟨_, _, q⟩ | ⟨_, q, _⟩)
          · omega
          · exact q
          · omega
        · exact fun q => Or.inr (Or.inl ⟨by omega, hl', q⟩))
      have hN := hide (fun o => hN.out (w.alloc o) (hb0.out o))
      obtain ⟨b, hb⟩ := tells (Nms h.names)
      have hN := hide (fun o => Calls.tb (hN.out o) hb)
      have hb := hide hb
      rw [hl'] at hN ⊢
      clear hlen hl' hk
      rcases hkk with rfl | rfl
      all_goals
        cases b
        · go_enter Tryd.func46, Tryd.ntmps46
          go_wp2_with (go_at_call 62; refine (hN.out _).mono ?_; rintro e w1 ⟨rfl, hb1⟩)
          go_ret
          exact TB.no (fun q => by have := hb.out.2 (hx.out.1 q); cases this) (below_then (hb0.out _) hb1)
        · go_enter Tryd.func46, Tryd.ntmps46
          go_wp2_with (go_at_call 62; refine (hN.out _).mono ?_; rintro e w1 ⟨rfl, hb1⟩)
          go_ret
          exact TB.yes (hx.out.2 (hb.out.1 (by simp))) (below_then (hb0.out _) hb1)
    · have hx : Hid (¬ TFil h l.length) := by
        rintro (⟨q, _⟩ | ⟨_, q, _⟩ | ⟨_, q, _⟩) <;> omega
      clear hk
      rcases hkk with rfl | rfl
      all_goals
        go_enter Tryd.func46, Tryd.ntmps46
        go_wp2_with fail
        go_ret
        exact TB.no hx.out (hb0.out _)
  by_cases k10 : h.kind = 10
  · rw [k10]; exact key 10 (Or.inl rfl) k10
  by_cases k11 : h.kind = 11
  · rw [k11]; exact key 11 (Or.inr rfl) k11
  clear key
  by_cases hk : 1 ≤ h.kind ∧ h.kind ≤ 8
  · have hP : Hid (∀ o, Calls Tryd.prog 63 #[.int .i64 h.kind] (w.alloc o) fun e w' => e = .returned (.tuple #[.agg #[.int .i64 h.kind, .int .i64 (pk h.kind)], .bool true]) ∧ Below (w.alloc o).heap.size (w.alloc o) w') := fun o => by
      have := hP.out (w.alloc o) (hb0.out o)
      unfold plR at this
      rw [if_pos hk] at this
      exact this
    have hB0 : Hid (∀ w1, Below (w.alloc (.cells (tvs h (.slice an h.names.length cn) (.slice al l.length cl)) 26)).heap.size (w.alloc (.cells (tvs h (.slice an h.names.length cn) (.slice al l.length cl)) 26)) w1 → Tx w1 w.heap.size h (.slice an h.names.length cn) (.slice al l.length cl)) := fun w1 hb => hB0.out.below hb
    by_cases hn0 : (h.names.length : Int) = 0
    · by_cases hl1 : (l.length : Int) = 0
      · have hx : Hid (TFil h l.length) := Or.inr (Or.inr ⟨hk.1, hk.2, by omega, by omega⟩)
        go_enter Tryd.func46, Tryd.ntmps46
        go_wp2_with (go_at_call 63; refine (hP.out _).mono ?_; rintro e w1 ⟨rfl, hb1⟩; have c1 := fun o => ((hB0.out w1 hb1).below (below_al (o := o) (Below.refl _ _))).cells.2.1; have c2 := fun o => ((hB0.out w1 hb1).below (below_al (o := o) (Below.refl _ _))).cells.2.2)
        go_ret
        exact TB.yes hx.out (below_al (below_then (hb0.out _) hb1))
      · have hx : Hid (¬ TFil h l.length) := by
          rintro (⟨q, _⟩ | ⟨q, _⟩ | ⟨_, _, _, q⟩) <;> omega
        have qe : ((l.length : Int) == 0) = false := beq_eq_false_iff_ne.2 hl1
        go_enter Tryd.func46, Tryd.ntmps46
        go_wp2_with (go_at_call 63; refine (hP.out _).mono ?_; rintro e w1 ⟨rfl, hb1⟩; have c1 := fun o => ((hB0.out w1 hb1).below (below_al (o := o) (Below.refl _ _))).cells.2.1; have c2 := fun o => ((hB0.out w1 hb1).below (below_al (o := o) (Below.refl _ _))).cells.2.2)
        go_ret
        exact TB.no hx.out (below_al (below_then (hb0.out _) hb1))
    · have hx : Hid (¬ TFil h l.length) := by
        rintro (⟨q, _⟩ | ⟨q, _⟩ | ⟨_, _, q, _⟩) <;> omega
      have qe : ((h.names.length : Int) == 0) = false := beq_eq_false_iff_ne.2 hn0
      go_enter Tryd.func46, Tryd.ntmps46
      go_wp2_with (go_at_call 63; refine (hP.out _).mono ?_; rintro e w1 ⟨rfl, hb1⟩; have c1 := fun o => ((hB0.out w1 hb1).below (below_al (o := o) (Below.refl _ _))).cells.2.1; have c2 := fun o => ((hB0.out w1 hb1).below (below_al (o := o) (Below.refl _ _))).cells.2.2)
      go_ret
      exact TB.no hx.out (below_al (below_then (hb0.out _) hb1))
  · have hP : Hid (∀ o, Calls Tryd.prog 63 #[.int .i64 h.kind] (w.alloc o) fun e w' => e = .returned (.tuple #[.agg #[.int .i64 0, .int .i64 0], .bool false]) ∧ Below (w.alloc o).heap.size (w.alloc o) w') := fun o => by
      have := hP.out (w.alloc o) (hb0.out o)
      unfold plR at this
      rw [if_neg hk] at this
      exact this
    have hx : Hid (¬ TFil h l.length) := by
      rintro (⟨q, _⟩ | ⟨q, _⟩ | ⟨q1, q2, _⟩) <;> omega
    go_enter Tryd.func46, Tryd.ntmps46
    go_wp2_with (go_at_call 63; refine (hP.out _).mono ?_; rintro e w1 ⟨rfl, hb1⟩)
    go_ret
    exact TB.no hx.out (below_al (below_then (hb0.out _) hb1))
end Go.Proofs.YtolmbjeinilhlaaDoor
