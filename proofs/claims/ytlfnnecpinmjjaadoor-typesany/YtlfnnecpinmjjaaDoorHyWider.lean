/- slices.Clone of types, types.wider: walked. -/
import Derived.Test.YtlfnnecpinmjjaaDoorHxRowsT
namespace Go.Proofs.YtlfnnecpinmjjaaDoor
open Go.RowKit Go.Maps
set_option linter.unusedSimpArgs false
set_option linter.unusedVariables false
set_option maxHeartbeats 1000000 in
set_option maxRecDepth 100000 in
theorem cloneT_any (n : Nat) (v : Value) (l : List (TT n)) (w0 w : World) (hw0 : Below w0.heap.size w0 w) (hv : TL n w0 v l) (hl : l.length ≤ 200000) :
    Calls Tryd.prog 78 #[v] w fun e w' => ∃ a c, e = .returned (.slice a l.length c) ∧ Hid (OT n w0 w' w.heap.size (.slice a l.length c) l) ∧ Below w.heap.size w w' := by
  obtain ⟨av, cv, rfl, hv1, hv2⟩ := hv.len
  have hv := hide hv
  cases av with
  | none =>
    have h0 : l = [] ∧ cv = 0 := by
      rcases hv.out with ⟨e2, e⟩ | ⟨_, _, _, _, e, _⟩
      · simp only [Value.slice.injEq] at e2; exact ⟨e, e2.2.2⟩
      · cases e
    obtain ⟨rfl, rfl⟩ := h0
    have he := eq_nilT
    go_enter Tryd.func78, Tryd.ntmps78
    go_wp2_with fail
    go_ret
    exact ⟨none, 0, rfl, OT.nil, Below.refl _ _⟩
  | some ad =>
    have he := eq_someT ad l.length cv
    have h0 : Hid (OT n w0 (w.alloc (.cells #[] 26)) w.heap.size (.slice (some ⟨w.heap.size, 0, none⟩) 0 0) []) := ⟨[], ⟨rfl, Or.inr ⟨w.heap.size, 0, #[], rfl, Nat.le_refl _, heap_alloc_last w _, Nat.le_refl _, by decide, rfl, rfl⟩⟩, fun j h => by simp at h⟩
    have hb0 : Hid (Below w.heap.size w (w.alloc (.cells #[] 26))) := below_al (Below.refl _ _)
    have hbz : Hid (Below w0.heap.size w0 (w.alloc (.cells #[] 26))) := below_al hw0
    have hm : Hid (0 + l.length ≤ 200000) := by show _ ≤ _; omega
    have hB : Hid (w.heap.size ≤ (w.alloc (.cells #[] 26)).heap.size) := by show _ ≤ _; simp
    go_enter Tryd.func78, Tryd.ntmps78
    go_wp2_with (at_builtin; refine app_ts rfl (.tmp 5) (.tmp 6) rfl n w0 w.heap.size (some ⟨w.heap.size, 0, none⟩) 0 0 [] rfl rfl h0 (some ad) l.length cv l rfl rfl hv hbz hm hB ?_; intro av c' w1 ho1 hg1; rw [Nat.zero_add] at ho1 ⊢)
    go_ret
    refine ⟨av, c', rfl, ho1.out, ?_⟩
    exact hb0.out.grown hg1.out hB.out (fun k hk => by cases hk; exact Nat.le_refl _)
/-- What wider answers. -/
def widV (b1 b2 : Bool) (x y : Value) : Array Value := bif b1 then #[x, .bool true] else #[y, .bool b2]
set_option maxHeartbeats 2000000 in
set_option maxRecDepth 100000 in
theorem wider_any (n : Nat) (x y : TT n) (ns ls ns' ls' : Value) (w : World) (hx : RT n w x ns ls) (hy : RT n w y ns' ls') (zx : TSz n x) (zy : TSz n y) (tx : IsT n x) (ty : IsT n y) (b1 b2 : Bool) (h1 : b1 = true ↔ Prt n y x) (h2 : b2 = true ↔ Prt n x y) :
    Calls Tryd.prog 79 #[.agg (tvs (thd n x) ns ls), .agg (tvs (thd n y) ns' ls')] w fun e w' => e = .returned (.tuple (widV b1 b2 (.agg (tvs (thd n x) ns ls)) (.agg (tvs (thd n y) ns' ls')))) ∧ Below w.heap.size w w' := by
  obtain ⟨a1, m1, d1, a2, m2, d2, rfl, rfl⟩ := hx.shape
  obtain ⟨a3, m3, d3, a4, m4, d4, rfl, rfl⟩ := hy.shape
  have c1 := hide (fun W (hb : Below w.heap.size w W) => Calls.tb (part_ok n y x _ _ _ _ W (hy.below hb) (hx.below hb) zy zx ty tx) h1)
  have c2 := hide (fun W (hb : Below w.heap.size w W) => Calls.tb (part_ok n x y _ _ _ _ W (hx.below hb) (hy.below hb) zx zy tx ty) h2)
  obtain ⟨h, hh⟩ : ∃ h, thd n x = h := ⟨_, rfl⟩
  obtain ⟨k, hk⟩ : ∃ k, thd n y = k := ⟨_, rfl⟩
  rw [hh, hk] at c1 c2 ⊢
  clear hh hk hx hy zx zy tx ty h1 h2
  obtain ⟨W0, hW0⟩ : ∃ W0, ((w.alloc (.cells #[.int .i64 h.kind, .slice a1 m1 d1, .slice a2 m2 d2] 26)).alloc (.cells #[.int .i64 k.kind, .slice a3 m3 d3, .slice a4 m4 d4] 26)).alloc (.cells #[.int .i64 0, .slice none 0 0, .slice none 0 0] 26) = W0 := ⟨_, rfl⟩
  have hb0 : Hid (Below w.heap.size w W0) := by rw [← hW0]; exact below_al (below_al (below_al (Below.refl _ _)))
  have hX : Hid (Tx W0 w.heap.size h (.slice a1 m1 d1) (.slice a2 m2 d2)) := by rw [← hW0]; exact (tx_new w h _ _).below (below_al (below_al (Below.refl _ _)))
  have hY : Hid (Tx W0 (w.heap.size + 1) k (.slice a3 m3 d3) (.slice a4 m4 d4)) := by
    rw [← hW0]
    have := tx_new (w.alloc (.cells #[.int .i64 h.kind, .slice a1 m1 d1, .slice a2 m2 d2] 26)) k (.slice a3 m3 d3) (.slice a4 m4 d4)
    rw [World.size_alloc] at this
    exact this.below (below_al (Below.refl _ _))
  have hZ : Hid (ZT W0 (w.heap.size + 2)) := by
    rw [← hW0]
    have := heap_alloc_last ((w.alloc (.cells #[.int .i64 h.kind, .slice a1 m1 d1, .slice a2 m2 d2] 26)).alloc (.cells #[.int .i64 k.kind, .slice a3 m3 d3, .slice a4 m4 d4] 26)) (.cells #[.int .i64 0, .slice none 0 0, .slice none 0 0] 26)
    rw [World.size_alloc, World.size_alloc] at this
    exact this
  obtain ⟨x0, x1, x2⟩ := hX.out.cells
  obtain ⟨y0, y1, y2⟩ := hY.out.cells
  show Calls _ _ #[.agg #[.int .i64 h.kind, .slice a1 m1 d1, .slice a2 m2 d2], .agg #[.int .i64 k.kind, .slice a3 m3 d3, .slice a4 m4 d4]] _ _
  go_enter Tryd.func79, Tryd.ntmps79
  go_wp2_with fail
  refine (c1.out _ hb0.out).mono ?_
  rintro e w1 ⟨rfl, hb1⟩
  have hw1 := hide (below_then hb0.out hb1)
  have hX1 := hide (hX.out.below hb1)
  have hY1 := hide (hY.out.below hb1)
  have hZ1 := hide (hZ.out.below hb1)
  clear x0 x1 x2 y0 y1 y2 hW0 hb1 hb0
  obtain ⟨x0, x1, x2⟩ := hX1.out.cells
  obtain ⟨y0, y1, y2⟩ := hY1.out.cells
  obtain ⟨z0, z1, z2⟩ := hZ1.out.cells
  have zf := hZ1.out.frz
  cases b1
  · have call := hide (fun W (hW : Below w1.heap.size w1 W) => c2.out W (below_then hw1.out hW))
    simp only [tvs] at call
    go_wp2_with fail
    go_region_law (first | (go_simp; go_at_call 41; refine (call.out _ (by repeat (first | exact Below.refl _ _ | refine below_dr ?_ | refine below_dn ?_ _))).mono ?_; rintro e w2 ⟨rfl, hb2⟩; have T3 : Hid (Below w1.heap.size w1 w2) := (by first | exact below_then (below_dr (Below.refl _ _)) hb2 | exact hb2); obtain ⟨p0, p1, p2⟩ := (hY1.out.below T3.out).cells; obtain ⟨r0, r1, r2⟩ := (hZ1.out.below T3.out).cells; have rf := (hZ1.out.below T3.out).frz; clear hb2; dsimp only))
    all_goals
      go_wp2_with fail
      refine bodyPost_ret (v := .tuple #[.agg #[.int .i64 k.kind, .slice a3 m3 d3, .slice a4 m4 d4], .bool b2]) (by simp [results, Tryd.results79, go_sem, *]) rfl ⟨rfl, ?_⟩
      iterate 3 refine Below.setCell ?_ (by show w.heap.size ≤ w.heap.size + 2; omega) _
      exact below_then hw1.out T3.out
  · go_wp2_with fail
    refine bodyPost_ret (v := .tuple #[.agg #[.int .i64 h.kind, .slice a1 m1 d1, .slice a2 m2 d2], .bool true]) (by simp [results, Tryd.results79, go_sem, *]) rfl ⟨rfl, ?_⟩
    iterate 3 refine Below.setCell ?_ (by show w.heap.size ≤ w.heap.size + 2; omega) _
    exact hw1.out
end Go.Proofs.YtlfnnecpinmjjaaDoor
