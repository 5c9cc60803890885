/- types.Has: walked. -/
import Derived.Test.YtlfnnecpinmjjaaDoorHrHas
namespace Go.Proofs.YtlfnnecpinmjjaaDoor
open Go.RowKit Go.Maps
set_option linter.unusedSimpArgs false
set_option linter.unusedVariables false
theorem VL.one {m : Nat} {w0 W : World} {g : Nat} {v : VT m} {ns ls : Value} (hr : RD m W v ns ls) (hb : Bx W g (vhd m v) ns ls) : VL m W (.slice (some ⟨g, 0, none⟩) 1 1) [v] := by
  refine ⟨Or.inl ⟨rfl, rfl⟩, Or.inr ⟨g, 0, 1, none, rfl, Nat.le_refl _, by decide, fun _ => ⟨rfl, hb.lt⟩, fun i hi => ?_⟩⟩
  have hi0 : i = 0 := by have : i < 1 := hi; omega
  subst hi0
  exact ⟨ns, ls, by have := hb.range; simpa using this, hr⟩
set_option maxHeartbeats 1000000 in
set_option maxRecDepth 100000 in
theorem has_any (n : Nat) (t : TT n) (ns ls : Value) (m : Nat) (v : VT m) (ns' ls' : Value) (w : World) (ht : TRd n w t ns ls) (hv : Rdy m w v ns' ls') (g : Ut.Gu w) (gt : Gt w) (E F : Int) (hE : TChk n t E) (hF : Chk m v F) :
    Calls Tryd.prog 13 #[.agg (tvs (thd n t) ns ls), .agg (vals (vhd m v) ns' ls')] w fun e w' => SubP (Chk2 E F) (InT n t m v) w e w' := by
  obtain ⟨a1, m1, d1, a2, m2, d2, rfl, rfl⟩ := ht.rd.shape
  obtain ⟨a3, m3, d3, a4, m4, d4, rfl, rfl⟩ := hv.rd.shape
  have hA := hide (fun W (hb : Below w.heap.size w W) => tcheck_any n t _ _ W (ht.below hb) (g.below hb) (gt.below hb) E hE)
  have hB := hide (fun W (hb : Below w.heap.size w W) => check_any m v _ _ W (hv.below hb) (g.below hb) F hF)
  have hH := hide (fun (q : IsT n t ∧ IsV m v) W lv (hb : Below w.heap.size w W) (hl : VL m W lv [v]) => hasAll_ok n t _ _ m [v] lv W (ht.rd.below hb) hl q.1 ⟨ht.sz, ht.le⟩ (fun x hx => by rw [List.mem_singleton.1 hx]; exact ⟨q.2, hv.sz⟩) (by simp only [sizL, List.map_cons, List.map_nil, suml]; exact hv.le) (gt.below hb))
  have hvl := hide (fun W g (hb : Below w.heap.size w W) (hx : Bx W g (vhd m v) (.slice a3 m3 d3) (.slice a4 m4 d4)) => VL.one (w0 := w) (hv.rd.below hb) hx)
  have hb0 : Hid (∀ o o', Below w.heap.size w ((w.alloc o).alloc o')) := fun o o' => below_al (below_al (Below.refl _ _))
  have hE0 : Hid (E = 0 → IsT n t) := by
    intro q
    rcases hE with ⟨e, _⟩ | ⟨e, _⟩ | ⟨e, k, _⟩
    · rw [e] at q; cases q
    · rw [e] at q; cases q
    · exact k
  have hF0 : Hid (F = 0 → IsV m v) := by
    intro q
    rcases hF with ⟨e, _⟩ | ⟨e, _⟩ | ⟨e, k, _⟩
    · rw [e] at q; cases q
    · rw [e] at q; cases q
    · exact k
  have hx : Hid ((∀ x ∈ [v], InT n t m x) ↔ InT n t m v) := ⟨fun q => q v (by simp), fun q x hx => by rw [List.mem_singleton.1 hx]; exact q⟩
  obtain ⟨h, hh⟩ : ∃ h, thd n t = h := ⟨_, rfl⟩
  obtain ⟨k, hk⟩ : ∃ k, vhd m v = k := ⟨_, rfl⟩
  rw [hh] at hA hH ⊢
  rw [hk] at hB hvl ⊢
  clear hh hk ht hv g gt hE hF
  have hT : Hid (∀ w1, Below ((w.alloc (.cells (tvs h (.slice a1 m1 d1) (.slice a2 m2 d2)) 26)).alloc (.cells (vals k (.slice a3 m3 d3) (.slice a4 m4 d4)) 33)).heap.size ((w.alloc (.cells (tvs h (.slice a1 m1 d1) (.slice a2 m2 d2)) 26)).alloc (.cells (vals k (.slice a3 m3 d3) (.slice a4 m4 d4)) 33)) w1 → Tx w1 w.heap.size h (.slice a1 m1 d1) (.slice a2 m2 d2) ∧ Bx w1 (w.heap.size + 1) k (.slice a3 m3 d3) (.slice a4 m4 d4)) := fun w1 hb => by
    refine ⟨((tx_new w h _ _).below (below_al (Below.refl _ _))).below hb, ?_⟩
    have := bx_new (w.alloc (.cells (tvs h (.slice a1 m1 d1) (.slice a2 m2 d2)) 26)) k (.slice a3 m3 d3) (.slice a4 m4 d4)
    rw [World.size_alloc] at this
    exact this.below hb
  show Calls _ _ #[.agg #[.int .i64 h.kind, .slice a1 m1 d1, .slice a2 m2 d2], .agg #[.int .i64 k.kind, .bool k.flag, .bool k.neg, .string k.dig, .int .i64 k.exp, .int .u64 k.bits, .string k.text, .slice a3 m3 d3, .slice a4 m4 d4]] _ _
  by_cases h0 : E = 0
  · have hr : Hid (Chk2 E F = F) := by rw [h0]; rfl
    rw [hr.out]
    have hIT := hide (hE0.out h0)
    subst h0
    go_enter Tryd.func13, Tryd.ntmps13
    go_wp2_with fail
    refine (hA.out _ (hb0.out _ _)).mono ?_
    rintro e w1 ⟨rfl, hb1⟩
    have hw1 := hide (below_then (hb0.out _ _) hb1)
    have hT1 := hide (hT.out w1 hb1)
    obtain ⟨c0, c1, c2, c3, c4, c5, c6, c7, c8⟩ := hT1.out.2.cells
    by_cases f0 : F = 0
    · have hIV := hide (hF0.out f0)
      subst f0
      go_wp2_with fail
      refine (hB.out _ hw1.out).mono ?_
      rintro e w2 ⟨rfl, hb2⟩
      have hw2 := hide (below_then hw1.out hb2)
      clear c0 c1 c2 c3 c4 c5 c6 c7 c8
      obtain ⟨c0, c1, c2, c3, c4, c5, c6, c7, c8⟩ := (hT1.out.2.below hb2).cells
      obtain ⟨t0, t1, t2⟩ := (hT1.out.1.below hb2).cells
      have hcall := hide (hH.out ⟨hIT.out, hIV.out⟩ (w2.alloc (.cells (vals k (.slice a3 m3 d3) (.slice a4 m4 d4)) 33)) (.slice (some ⟨w2.heap.size, 0, none⟩) 1 1) (below_al hw2.out) (hvl.out _ _ (below_al hw2.out) (bx_new w2 k _ _)))
      go_wp2_with (go_at_call 32; refine hcall.out.mono ?_; rintro e w3 ⟨b, rfl, hTT, hb3⟩; have hTT := hide hTT)
      refine bodyPost_ret (v := .tuple #[.bool b, .int .i64 0]) (by simp [results, Tryd.results13, go_sem]) rfl ⟨b, rfl, ?_, below_then (below_al hw2.out) hb3⟩
      exact ⟨fun q => ⟨rfl, hx.out.1 (hTT.out.1 q)⟩, fun q => hTT.out.2 (hx.out.2 q.2)⟩
    · have h1 : (F != 0) = true := by simpa using f0
      have h2 : (F == 0) = false := beq_eq_false_iff_ne.2 f0
      have h3 : decide (F = 0) = false := decide_eq_false f0
      go_wp2_with fail
      refine (hB.out _ hw1.out).mono ?_
      rintro e w2 ⟨rfl, hb2⟩
      go_wp2_with fail
      refine bodyPost_ret (v := .tuple #[.bool false, .int .i64 F]) (by simp [results, Tryd.results13, go_sem]) rfl ⟨false, rfl, ?_, below_then hw1.out hb2⟩
      exact ⟨(fun q => by cases q), fun q => absurd q.1 f0⟩
  · have hr : Hid (Chk2 E F = E) := by
      have : (E == 0) = false := beq_eq_false_iff_ne.2 h0
      show (bif E == 0 then F else E) = E
      rw [this]; rfl
    rw [hr.out]
    have h1 : (E != 0) = true := by simpa using h0
    have h2 : (E == 0) = false := beq_eq_false_iff_ne.2 h0
    have h3 : decide (E = 0) = false := decide_eq_false h0
    go_enter Tryd.func13, Tryd.ntmps13
    go_wp2_with fail
    refine (hA.out _ (hb0.out _ _)).mono ?_
    rintro e w1 ⟨rfl, hb1⟩
    have hw1 := hide (below_then (hb0.out _ _) hb1)
    go_wp2_with fail
    refine bodyPost_ret (v := .tuple #[.bool false, .int .i64 E]) (by simp [results, Tryd.results13, go_sem]) rfl ⟨false, rfl, ?_, hw1.out⟩
    exact ⟨(fun q => by cases q), fun q => absurd q.1 h0⟩
end Go.Proofs.YtlfnnecpinmjjaaDoor
