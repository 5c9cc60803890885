/- types.Sub, hasPlain: walked; rows of values of the call's own. -/
import Derived.Test.YtlfnnecpinmjjaaDoorHhPart
import Derived.Test.YtlfnnecpinmjjaaDoorXqCopy
namespace Go.Proofs.YtlfnnecpinmjjaaDoor
open Go.RowKit Go.Maps
set_option linter.unusedSimpArgs false
set_option linter.unusedVariables false
/-- What Sub answers. -/
def SubP (E : Int) (p : Prop) (w : World) (e : Ending) (w' : World) : Prop := ∃ b, e = .returned (.tuple #[.bool b, .int .i64 E]) ∧ Hid (b = true ↔ E = 0 ∧ p) ∧ Below w.heap.size w w'
set_option maxHeartbeats 1000000 in
set_option maxRecDepth 100000 in
theorem sub_any (n : Nat) (x y : TT n) (ns ls ns' ls' : Value) (w : World) (hx : TRd n w x ns ls) (hy : TRd n w y ns' ls') (g : Ut.Gu w) (gt : Gt w) (E F : Int) (hE : TChk n x E) (hF : TChk n y F) :
    Calls Tryd.prog 18 #[.agg (tvs (thd n x) ns ls), .agg (tvs (thd n y) ns' ls')] w fun e w' => SubP (Chk2 E F) (Prt n x y) w e w' := by
  obtain ⟨a1, m1, d1, a2, m2, d2, rfl, rfl⟩ := hx.rd.shape
  obtain ⟨a3, m3, d3, a4, m4, d4, rfl, rfl⟩ := hy.rd.shape
  have hA := hide (fun W (hb : Below w.heap.size w W) => checkBoth_any n n x y _ _ _ _ W (hx.below hb) (hy.below hb) (g.below hb) (gt.below hb) E F hE hF)
  have hP := hide (fun (q : IsT n x ∧ IsT n y) W (hb : Below w.heap.size w W) => part_ok n x y _ _ _ _ W (hx.rd.below hb) (hy.rd.below hb) hx.sz hy.sz q.1 q.2)
  have hb0 : Hid (∀ o o', Below w.heap.size w ((w.alloc o).alloc o')) := fun o o' => below_al (below_al (Below.refl _ _))
  have h00 : Hid (Chk2 E F = 0 → IsT n x ∧ IsT n y) := by
    intro q
    rcases hE with ⟨e, _⟩ | ⟨e, _⟩ | ⟨e, k, _⟩
    · rw [e] at q; cases q
    · rw [e] at q; cases q
    · rw [e] at q
      have q : F = 0 := q
      rcases hF with ⟨e, _⟩ | ⟨e, _⟩ | ⟨e, k', _⟩
      · rw [e] at q; cases q
      · rw [e] at q; cases q
      · exact ⟨k, k'⟩
  obtain ⟨h, hh⟩ : ∃ h, thd n x = h := ⟨_, rfl⟩
  obtain ⟨k, hk⟩ : ∃ k, thd n y = k := ⟨_, rfl⟩
  obtain ⟨C, hC⟩ : ∃ C, Chk2 E F = C := ⟨_, rfl⟩
  rw [hh, hk] at hA hP ⊢
  rw [hC] at hA h00 ⊢
  clear hh hk hx hy g gt hE hF hC
  have hT : Hid (∀ w1, Below ((w.alloc (.cells (tvs h (.slice a1 m1 d1) (.slice a2 m2 d2)) 26)).alloc (.cells (tvs k (.slice a3 m3 d3) (.slice a4 m4 d4)) 26)).heap.size ((w.alloc (.cells (tvs h (.slice a1 m1 d1) (.slice a2 m2 d2)) 26)).alloc (.cells (tvs k (.slice a3 m3 d3) (.slice a4 m4 d4)) 26)) w1 → (w1.cell? ⟨w.heap.size, 0, none⟩ = some (.int .i64 h.kind) ∧ w1.cell? ⟨w.heap.size, 1, none⟩ = some (.slice a1 m1 d1) ∧ w1.cell? ⟨w.heap.size, 2, none⟩ = some (.slice a2 m2 d2)) ∧ w1.cell? ⟨w.heap.size + 1, 0, none⟩ = some (.int .i64 k.kind) ∧ w1.cell? ⟨w.heap.size + 1, 1, none⟩ = some (.slice a3 m3 d3) ∧ w1.cell? ⟨w.heap.size + 1, 2, none⟩ = some (.slice a4 m4 d4)) := fun w1 hb => ⟨⟨(two_cells hb 0).1, (two_cells hb 1).1, (two_cells hb 2).1⟩, (two_cells hb 0).2, (two_cells hb 1).2, (two_cells hb 2).2⟩
  show Calls _ _ #[.agg #[.int .i64 h.kind, .slice a1 m1 d1, .slice a2 m2 d2], .agg #[.int .i64 k.kind, .slice a3 m3 d3, .slice a4 m4 d4]] _ _
  by_cases h0 : C = 0
  · have hP := hide (hP.out (h00.out h0))
    subst h0
    go_enter Tryd.func18, Tryd.ntmps18
    go_wp2_with fail
    refine (hA.out _ (hb0.out _ _)).mono ?_
    rintro e w1 ⟨rfl, hb1⟩
    have hw1 := hide (below_then (hb0.out _ _) hb1)
    obtain ⟨⟨c0, c1, c2⟩, c3, c4, c5⟩ := hT.out w1 hb1
    go_wp2_with fail
    refine (hP.out _ hw1.out).mono ?_
    rintro e w2 ⟨b, rfl, hT2, hb2⟩
    have hT2 := hide hT2
    go_wp2_with fail
    refine bodyPost_ret (v := .tuple #[.bool b, .int .i64 0]) (by simp [results, Tryd.results18, go_sem]) rfl ⟨b, rfl, ?_, below_then hw1.out hb2⟩
    exact ⟨fun q => ⟨rfl, hT2.out.1 q⟩, fun q => hT2.out.2 q.2⟩
  · have h1 : (C != 0) = true := by simpa using h0
    have h2 : (C == 0) = false := beq_eq_false_iff_ne.2 h0
    have h3 : decide (C = 0) = false := decide_eq_false h0
    go_enter Tryd.func18, Tryd.ntmps18
    go_wp2_with fail
    refine (hA.out _ (hb0.out _ _)).mono ?_
    rintro e w1 ⟨rfl, hb1⟩
    have hw1 := hide (below_then (hb0.out _ _) hb1)
    go_wp2_with fail
    refine bodyPost_ret (v := .tuple #[.bool false, .int .i64 C]) (by simp [results, Tryd.results18, go_sem]) rfl ⟨false, rfl, ?_, hw1.out⟩
    exact ⟨(fun q => by cases q), fun q => absurd q.1 h0⟩
/-- A value is one of a plain type's. -/
def PkOk (k : Int) (h : Hd) : Prop := k = 1 ∨ (k = 5 ∧ h.kind = 3 ∧ 0 ≤ h.exp) ∨ (k ≠ 1 ∧ k ≠ 5 ∧ h.kind = pk k)
set_option maxHeartbeats 1000000 in
set_option maxRecDepth 100000 in
theorem hasPlain_any (k : Int) (h : Hd) (a1 a2 : Option Addr) (m1 d1 m2 d2 : Nat) (w : World) (gt : Gt w) (hk : 1 ≤ k ∧ k ≤ 8) (hn : h.kind = 3 → isN h.neg h.dig h.exp = true) (hz : h.dig.size ≤ maxLen) :
    Calls Tryd.prog 54 #[.int .i64 k, .agg (vals h (.slice a1 m1 d1) (.slice a2 m2 d2))] w fun e w' => TB (PkOk k h) w e w' := by
  have hb0 : Hid (∀ o, Below w.heap.size w (w.alloc o)) := fun o => below_al (Below.refl _ _)
  have hB0 := hide (bx_new w h (.slice a1 m1 d1) (.slice a2 m2 d2))
  have hI := hide (fun W => isInt_any h.neg h.dig h.exp W hz)
  have hP : Hid (∀ o, Calls Tryd.prog 63 #[.int .i64 k] (w.alloc o) fun e w' => e = .returned (.tuple #[.agg #[.int .i64 k, .int .i64 (pk k)], .bool true]) ∧ Below (w.alloc o).heap.size (w.alloc o) w') := fun o => by
    have := plain_any k (w.alloc o) (gt.below (hb0.out o))
    unfold plR at this
    rw [if_pos hk] at this
    exact this
  clear gt
  show Calls _ _ #[_, .agg #[.int .i64 h.kind, .bool h.flag, .bool h.neg, .string h.dig, .int .i64 h.exp, .int .u64 h.bits, .string h.text, .slice a1 m1 d1, .slice a2 m2 d2]] _ _
  by_cases k1 : k = 1
  · subst k1
    go_enter Tryd.func54, Tryd.ntmps54
    go_wp2_with fail
    go_ret
    exact TB.yes (Or.inl rfl) (hb0.out _)
  by_cases k5 : k = 5
  · subst k5
    by_cases h3 : h.kind = 3
    · have hx := hide (show PkOk 5 h ↔ 0 ≤ h.exp from ⟨fun q => by
        rcases q with q | ⟨_, _, q⟩ | ⟨_, q, _⟩
        · cases q
        · exact q
        · exact absurd rfl q, fun q => Or.inr (Or.inl ⟨rfl, h3, q⟩)⟩)
      have hI : Hid (∀ W, Calls Tryd.prog 69 #[.agg #[.bool h.neg, .string h.dig, .int .i64 h.exp]] W fun e w' => e = .returned (.bool (decide (0 ≤ h.exp))) ∧ Below W.heap.size W w') := fun W => by
        have := hI.out W
        rw [hn h3, Bool.true_and] at this
        exact this
      rw [h3]
      by_cases hx0 : 0 ≤ h.exp
      · have hx1 := hide hx0
        rw [decide_eq_true hx0] at hI
        clear hx0
        go_enter Tryd.func54, Tryd.ntmps54
        go_wp2_with (go_at_call 69; refine (hI.out _).mono ?_; rintro e w1 ⟨rfl, hb1⟩)
        go_ret
        exact TB.yes (hx.out.2 hx1.out) (below_then (hb0.out _) hb1)
      · have hx1 := hide hx0
        rw [decide_eq_false hx0] at hI
        clear hx0
        go_enter Tryd.func54, Tryd.ntmps54
        go_wp2_with (go_at_call 69; refine (hI.out _).mono ?_; rintro e w1 ⟨rfl, hb1⟩)
        go_ret
        exact TB.no (fun q => by have h1 := hx1.out; have h2 := hx.out.1 q; omega) (below_then (hb0.out _) hb1)
    · have h3b : (h.kind == 3) = false := beq_eq_false_iff_ne.2 h3
      have hx := hide (show ¬ PkOk 5 h by
        rintro (q | ⟨_, q, _⟩ | ⟨_, q, _⟩)
        · cases q
        · exact h3 q
        · exact absurd rfl q)
      go_enter Tryd.func54, Tryd.ntmps54
      go_wp2_with fail
      go_ret
      exact TB.no hx.out (hb0.out _)
  have k1b : (k == 1) = false := beq_eq_false_iff_ne.2 k1
  have k5b : (k == 5) = false := beq_eq_false_iff_ne.2 k5
  have hx := hide (show PkOk k h ↔ h.kind = pk k from ⟨fun q => by
    rcases q with q | ⟨q, _⟩ | ⟨_, _, q⟩
    · exact absurd q k1
    · exact absurd q k5
    · exact q, fun q => Or.inr (Or.inr ⟨k1, k5, q⟩)⟩)
  obtain ⟨V, hV⟩ : ∃ V, pk k = V := ⟨_, rfl⟩
  rw [hV] at hP hx
  clear hV hk hI hn
  have hB1 : Hid (∀ w1 o, Below (w.alloc (.cells (vals h (.slice a1 m1 d1) (.slice a2 m2 d2)) 33)).heap.size (w.alloc (.cells (vals h (.slice a1 m1 d1) (.slice a2 m2 d2)) 33)) w1 → (w1.alloc o).cell? ⟨w.heap.size, 0, none⟩ = some (.int .i64 h.kind)) := fun w1 o hb => ((hB0.out.below hb).below (below_al (Below.refl _ _))).cells.1
  by_cases hq : h.kind = V
  · have hqb : (h.kind == V) = true := beq_iff_eq.2 hq
    have hq' := hide hq
    clear hq
    go_enter Tryd.func54, Tryd.ntmps54
    go_wp2_with (go_at_call 63; refine (hP.out _).mono ?_; rintro e w1 ⟨rfl, hb1⟩; have c0 := fun o => hB1.out w1 o hb1)
    go_ret
    exact TB.yes (hx.out.2 hq'.out) (below_al (below_then (hb0.out _) hb1))
  · have hqb : (h.kind == V) = false := beq_eq_false_iff_ne.2 hq
    go_enter Tryd.func54, Tryd.ntmps54
    go_wp2_with (go_at_call 63; refine (hP.out _).mono ?_; rintro e w1 ⟨rfl, hb1⟩; have c0 := fun o => hB1.out w1 o hb1)
    go_ret
    exact TB.no (fun q => hq (hx.out.1 q)) (below_al (below_then (hb0.out _) hb1))
end Go.Proofs.YtlfnnecpinmjjaaDoor
