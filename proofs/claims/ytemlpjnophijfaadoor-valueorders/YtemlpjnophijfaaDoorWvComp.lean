/- value.compare of records: walked. -/
import Derived.Test.YtemlpjnophijfaaDoorWuComp
import Derived.Deep.RegionWith
namespace Go.Proofs.YtemlpjnophijfaaDoor
open Go.RowKit
set_option linter.unusedSimpArgs false
set_option linter.unusedVariables false
set_option maxHeartbeats 2000000 in
set_option maxRecDepth 100000 in
theorem comp_8 (n : Nat) (ih : CmpOk n) (h g : Hd) (l m : List (VT n)) (a1 a2 b1 b2 : Option Addr) (m1 m2 n1 n2 c1 c2 d1 d2 : Nat) (w : World) (hx : RD (n + 1) w (h, l) (.slice a1 m1 c1) (.slice a2 m2 c2)) (hy : RD (n + 1) w (g, m) (.slice b1 n1 d1) (.slice b2 n2 d2)) (vx : VOk (n + 1) (h, l)) (vy : VOk (n + 1) (g, m)) (hk : h.kind = 8) (gk : g.kind = 8) :
    Calls Tryd.prog 29 #[.agg (vals h (.slice a1 m1 c1) (.slice a2 m2 c2)), .agg (vals g (.slice b1 n1 d1) (.slice b2 n2 d2))] w fun e w' => e = .returned (.int .i64 (cmpV (n + 1) (h, l) (g, m))) ∧ Below w.heap.size w w' := by
  have hkk := hide (fun w => show Calls Tryd.prog 38 #[.int .i64 8, .int .i64 8] w fun e w' => e = .returned (.int .i64 0) ∧ w' = w from cmpKind_any 8 8 w)
  have hV : cmpV (n + 1) (h, l) (g, m) = lexL (cmpP (cmpV n)) (h.names.zip l) (g.names.zip m) := by
    simp only [cmpV]
    rw [hk, gk, cmpI_self, if_pos rfl]
    rw [if_neg (by decide), if_neg (by decide), if_neg (by decide), if_neg (by decide), if_neg (by decide), if_pos (by decide)]
  rw [hV]
  have hb0 : Hid (∀ o o', Below w.heap.size w ((w.alloc o).alloc o')) := fun o o' => below_al (below_al (Below.refl _ _))
  have nx := (vx.1.2.1.2.2.1 hk).1
  have ny := (vy.1.2.1.2.2.1 gk).1
  have lx : l.length ≤ 200000 := Nat.le_trans vx.2.2.1 (by omega)
  have ly : m.length ≤ 200000 := Nat.le_trans vy.2.2.1 (by omega)
  have pA : Hid (∀ W, Below w.heap.size w W → Calls Tryd.prog 45 #[.agg #[.int .i64 h.kind, .bool h.flag, .bool h.neg, .string h.dig, .int .i64 h.exp, .int .u64 h.bits, .string h.text, .slice a1 m1 c1, .slice a2 m2 c2]] W fun e w' => e = .returned (.slice (some ⟨W.heap.size + 1, 0, none⟩) l.length l.length) ∧ Hid (PR n w' (.slice (some ⟨W.heap.size + 1, 0, none⟩) l.length l.length) (h.names.zip l)) ∧ Below W.heap.size W w') := fun W hb => pairs_any n h l _ _ W (hx.below hb) lx nx
  have pB : Hid (∀ W, Below w.heap.size w W → Calls Tryd.prog 45 #[.agg #[.int .i64 g.kind, .bool g.flag, .bool g.neg, .string g.dig, .int .i64 g.exp, .int .u64 g.bits, .string g.text, .slice b1 n1 d1, .slice b2 n2 d2]] W fun e w' => e = .returned (.slice (some ⟨W.heap.size + 1, 0, none⟩) m.length m.length) ∧ Hid (PR n w' (.slice (some ⟨W.heap.size + 1, 0, none⟩) m.length m.length) (g.names.zip m)) ∧ Below W.heap.size W w') := fun W hb => pairs_any n g m _ _ W (hy.below hb) ly ny
  rw [hk] at pA
  rw [gk] at pB
  have hF := hide (fun u v W hu hv => cplists_any n ih u v (h.names.zip l) (g.names.zip m) W hu hv (fun a ha => by have := (List.of_mem_zip ha).2; exact ⟨vx.1.2.2 _ this, vx.2.2.2.2 _ this⟩) (fun a ha => by have := (List.of_mem_zip ha).2; exact ⟨vy.1.2.2 _ this, vy.2.2.2.2 _ this⟩))
  obtain ⟨C, hC⟩ : ∃ C, lexL (cmpP (cmpV n)) (h.names.zip l) (g.names.zip m) = C := ⟨_, rfl⟩
  rw [hC] at hF ⊢
  clear hC hV hx hy vx vy nx ny lx ly
  show Calls _ _ #[.agg #[.int .i64 h.kind, .bool h.flag, .bool h.neg, .string h.dig, .int .i64 h.exp, .int .u64 h.bits, .string h.text, .slice a1 m1 c1, .slice a2 m2 c2], .agg #[.int .i64 g.kind, .bool g.flag, .bool g.neg, .string g.dig, .int .i64 g.exp, .int .u64 g.bits, .string g.text, .slice b1 n1 d1, .slice b2 n2 d2]] _ _
  rw [hk, gk]
  go_enter Tryd.func29, Tryd.ntmps29
  go_wp2_with (first | (go_at_call 38; refine (hkk.out _).mono ?_; rintro e w1 ⟨rfl, rfl⟩))
  have TC := fun j => two_cells (w := w) (c1 := #[.int .i64 8, .bool h.flag, .bool h.neg, .string h.dig, .int .i64 h.exp, .int .u64 h.bits, .string h.text, .slice a1 m1 c1, .slice a2 m2 c2]) (c2 := #[.int .i64 8, .bool g.flag, .bool g.neg, .string g.dig, .int .i64 g.exp, .int .u64 g.bits, .string g.text, .slice b1 n1 d1, .slice b2 n2 d2]) (T1 := 29) (T2 := 29) (Below.refl _ _) j
  obtain ⟨W0, hW0⟩ : ∃ W0, (w.alloc (.cells #[.int .i64 8, .bool h.flag, .bool h.neg, .string h.dig, .int .i64 h.exp, .int .u64 h.bits, .string h.text, .slice a1 m1 c1, .slice a2 m2 c2] 29)).alloc (.cells #[.int .i64 8, .bool g.flag, .bool g.neg, .string g.dig, .int .i64 g.exp, .int .u64 g.bits, .string g.text, .slice b1 n1 d1, .slice b2 n2 d2] 29) = W0 := ⟨_, rfl⟩
  have hbw : Hid (Below w.heap.size w W0) := by rw [← hW0]; exact below_al (below_al (Below.refl _ _))
  have hs0 : w.heap.size < W0.heap.size ∧ w.heap.size + 1 < W0.heap.size := by rw [← hW0]; exact ⟨by simp; omega, by simp⟩
  rw [hW0] at TC ⊢
  have p0 : W0.cell? ⟨w.heap.size, 0, none⟩ = some (.int .i64 8) := (TC 0).1
  have r0 : W0.cell? ⟨w.heap.size + 1, 0, none⟩ = some (.int .i64 8) := (TC 0).2
  have p1 : W0.cell? ⟨w.heap.size, 1, none⟩ = some (.bool h.flag) := (TC 1).1
  have r1 : W0.cell? ⟨w.heap.size + 1, 1, none⟩ = some (.bool g.flag) := (TC 1).2
  have p2 : W0.cell? ⟨w.heap.size, 2, none⟩ = some (.bool h.neg) := (TC 2).1
  have r2 : W0.cell? ⟨w.heap.size + 1, 2, none⟩ = some (.bool g.neg) := (TC 2).2
  have p3 : W0.cell? ⟨w.heap.size, 3, none⟩ = some (.string h.dig) := (TC 3).1
  have r3 : W0.cell? ⟨w.heap.size + 1, 3, none⟩ = some (.string g.dig) := (TC 3).2
  have p4 : W0.cell? ⟨w.heap.size, 4, none⟩ = some (.int .i64 h.exp) := (TC 4).1
  have r4 : W0.cell? ⟨w.heap.size + 1, 4, none⟩ = some (.int .i64 g.exp) := (TC 4).2
  have p5 : W0.cell? ⟨w.heap.size, 5, none⟩ = some (.int .u64 h.bits) := (TC 5).1
  have r5 : W0.cell? ⟨w.heap.size + 1, 5, none⟩ = some (.int .u64 g.bits) := (TC 5).2
  have p6 : W0.cell? ⟨w.heap.size, 6, none⟩ = some (.string h.text) := (TC 6).1
  have r6 : W0.cell? ⟨w.heap.size + 1, 6, none⟩ = some (.string g.text) := (TC 6).2
  have p7 : W0.cell? ⟨w.heap.size, 7, none⟩ = some (.slice a1 m1 c1) := (TC 7).1
  have r7 : W0.cell? ⟨w.heap.size + 1, 7, none⟩ = some (.slice b1 n1 d1) := (TC 7).2
  have p8 : W0.cell? ⟨w.heap.size, 8, none⟩ = some (.slice a2 m2 c2) := (TC 8).1
  have r8 : W0.cell? ⟨w.heap.size + 1, 8, none⟩ = some (.slice b2 n2 d2) := (TC 8).2
  obtain ⟨s1, s2⟩ := hs0
  clear TC hW0
  go_region_with (first | (go_at_call_of 45 (Value.string h.text); refine (pA.out _ hbw.out.drew).mono ?_; rintro e v1 ⟨rfl, hP1, hB1⟩; have K : ∀ (i j : Nat) (v : Value), i < W0.heap.size → W0.cell? ⟨i, j, none⟩ = some v → v1.cell? ⟨i, j, none⟩ = some v := fun i j v hi hv => (hB1.cell (p := ⟨i, j, none⟩) hi).trans hv; have y0 := K _ _ _ s2 r0; have y1 := K _ _ _ s2 r1; have y2 := K _ _ _ s2 r2; have y3 := K _ _ _ s2 r3; have y4 := K _ _ _ s2 r4; have y5 := K _ _ _ s2 r5; have y6 := K _ _ _ s2 r6; have y7 := K _ _ _ s2 r7; have y8 := K _ _ _ s2 r8; clear K) | (go_at_call_of 45 (Value.string g.text); refine (pB.out _ (below_then hbw.out.drew hB1)).mono ?_; rintro e v2 ⟨rfl, hP2, hB2⟩) | (go_at_call 44; refine (hF.out _ _ _ (hP1.out.below hB2) hP2.out).mono ?_; rintro e v3 ⟨rfl, hB3⟩))
  all_goals
    have hE := hide (below_then (below_then (below_then hbw.out.drew hB1) hB2) hB3)
    go_wp2_with fail
    go_ret
    exact ⟨rfl, hE.out⟩
end Go.Proofs.YtemlpjnophijfaaDoor
