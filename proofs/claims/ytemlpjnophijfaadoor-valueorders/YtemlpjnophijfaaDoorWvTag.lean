/- value.compare of tags: walked. -/
import Derived.Test.YtemlpjnophijfaaDoorWuComp
namespace Go.Proofs.YtemlpjnophijfaaDoor
open Go.RowKit
set_option linter.unusedSimpArgs false
set_option linter.unusedVariables false
set_option maxHeartbeats 2000000 in
set_option maxRecDepth 100000 in
theorem comp_9 (n : Nat) (ih : CmpOk n) (h g : Hd) (l m : List (VT n)) (a1 a2 b1 b2 : Option Addr) (m1 m2 n1 n2 c1 c2 d1 d2 : Nat) (w : World) (hx : RD (n + 1) w (h, l) (.slice a1 m1 c1) (.slice a2 m2 c2)) (hy : RD (n + 1) w (g, m) (.slice b1 n1 d1) (.slice b2 n2 d2)) (vx : VOk (n + 1) (h, l)) (vy : VOk (n + 1) (g, m)) (hk : h.kind = 9) (gk : g.kind = 9) :
    Calls Tryd.prog 29 #[.agg (vals h (.slice a1 m1 c1) (.slice a2 m2 c2)), .agg (vals g (.slice b1 n1 d1) (.slice b2 n2 d2))] w fun e w' => e = .returned (.int .i64 (cmpV (n + 1) (h, l) (g, m))) ∧ Below w.heap.size w w' := by
  have hkk := hide (fun w => show Calls Tryd.prog 38 #[.int .i64 9, .int .i64 9] w fun e w' => e = .returned (.int .i64 0) ∧ w' = w from cmpKind_any 9 9 w)
  have hV : cmpV (n + 1) (h, l) (g, m) = lexL (cmpP (cmpV n)) (l.map fun a => (h.text, a)) (m.map fun a => (g.text, a)) := by
    simp only [cmpV]
    rw [hk, gk, cmpI_self, if_pos rfl]
    rw [if_neg (by decide), if_neg (by decide), if_neg (by decide), if_neg (by decide), if_neg (by decide), if_neg (by decide), if_pos (by decide)]
  rw [hV]
  have hb0 : Hid (∀ o o', Below w.heap.size w ((w.alloc o).alloc o')) := fun o o' => below_al (below_al (Below.refl _ _))
  obtain ⟨p, rfl⟩ : ∃ p, l = [p] := by
    have := (vx.1.2.1.2.2.2 hk).2
    match l, this with
    | [p], _ => exact ⟨p, rfl⟩
  obtain ⟨q, rfl⟩ : ∃ q, m = [q] := by
    have := (vy.1.2.1.2.2.2 gk).2
    match m, this with
    | [q], _ => exact ⟨q, rfl⟩
  have hR : lexL (cmpP (cmpV n)) (([p] : List (VT n)).map fun a => (h.text, a)) (([q] : List (VT n)).map fun a => (g.text, a)) = cmpP (cmpV n) (h.text, p) (g.text, q) := by
    simp only [List.map_cons, List.map_nil, lexL]
    split
    · rename_i e; rw [e]
    · rfl
  rw [hR]
  obtain ⟨b, o, c, he, hbl, hlc, hcm, ns', ls', hrg, hrd⟩ := hx.at 0 (by show 0 < 1; omega)
  have he' := Value.slice.inj he
  obtain ⟨rfl, hm2, rfl⟩ := he'
  obtain ⟨b', o', c', he2, hbl', hlc', hcm', ns2, ls2, hrg', hrd'⟩ := hy.at 0 (by show 0 < 1; omega)
  have he' := Value.slice.inj he2
  obtain ⟨rfl, hn2, rfl⟩ := he'
  obtain rfl : m2 = 1 := hm2
  obtain rfl : n2 = 1 := hn2
  clear he he2
  obtain ⟨e1, e2, e3, e4, e5, e6, rfl, rfl⟩ := hrd.shape
  obtain ⟨f1, f2, f3, f4, f5, f6, rfl, rfl⟩ := hrd'.shape
  have hF := hide (fun W (hb : Below w.heap.size w W) => cpair_any n ih h.text g.text p q _ _ _ _ W (hrd.below hb) (hrd'.below hb) ⟨vx.1.2.2 p (by show p ∈ [p]; simp), vx.2.2.2.2 p (by show p ∈ [p]; simp)⟩ ⟨vy.1.2.2 q (by show q ∈ [q]; simp), vy.2.2.2.2 q (by show q ∈ [q]; simp)⟩)
  obtain ⟨C, hC⟩ : ∃ C, cmpP (cmpV n) (h.text, p) (g.text, q) = C := ⟨_, rfl⟩
  have R1 := fun oo oo' => range9 (rangeAt_below hrg (hb0.out oo oo') hbl)
  have R2 := fun oo oo' => range9 (rangeAt_below hrg' (hb0.out oo oo') hbl')
  obtain ⟨hp, hhp⟩ : ∃ hp, vhd n p = hp := ⟨_, rfl⟩
  obtain ⟨hq, hhq⟩ : ∃ hq, vhd n q = hq := ⟨_, rfl⟩
  have hh1 : vhd n ((h, [p]) : VT (n + 1)).2[0] = hp := hhp
  have hh2 : vhd n ((g, [q]) : VT (n + 1)).2[0] = hq := hhq
  rw [hh1] at R1
  rw [hh2] at R2
  rw [hhp, hhq] at hF
  rw [hC] at hF ⊢
  simp only [Nat.zero_mul, Nat.add_zero] at R1 R2
  clear hC hV hR hx hy vx vy hrg hrg' hrd hrd' hh1 hh2 hhp hhq
  show Calls _ _ #[.agg #[.int .i64 h.kind, .bool h.flag, .bool h.neg, .string h.dig, .int .i64 h.exp, .int .u64 h.bits, .string h.text, .slice a1 m1 c1, .slice (some ⟨b, o, none⟩) 1 c2], .agg #[.int .i64 g.kind, .bool g.flag, .bool g.neg, .string g.dig, .int .i64 g.exp, .int .u64 g.bits, .string g.text, .slice b1 n1 d1, .slice (some ⟨b', o', none⟩) 1 d2]] _ _
  rw [hk, gk]
  go_enter Tryd.func29, Tryd.ntmps29
  go_wp2_with (first | (go_at_call 38; refine (hkk.out _).mono ?_; rintro e w1 ⟨rfl, rfl⟩))
  have TC := fun j => two_cells (w := w) (c1 := #[.int .i64 9, .bool h.flag, .bool h.neg, .string h.dig, .int .i64 h.exp, .int .u64 h.bits, .string h.text, .slice a1 m1 c1, .slice (some ⟨b, o, none⟩) 1 c2]) (c2 := #[.int .i64 9, .bool g.flag, .bool g.neg, .string g.dig, .int .i64 g.exp, .int .u64 g.bits, .string g.text, .slice b1 n1 d1, .slice (some ⟨b', o', none⟩) 1 d2]) (T1 := 29) (T2 := 29) (Below.refl _ _) j
  have R1 := R1 (.cells #[.int .i64 9, .bool h.flag, .bool h.neg, .string h.dig, .int .i64 h.exp, .int .u64 h.bits, .string h.text, .slice a1 m1 c1, .slice (some ⟨b, o, none⟩) 1 c2] 29) (.cells #[.int .i64 9, .bool g.flag, .bool g.neg, .string g.dig, .int .i64 g.exp, .int .u64 g.bits, .string g.text, .slice b1 n1 d1, .slice (some ⟨b', o', none⟩) 1 d2] 29)
  have R2 := R2 (.cells #[.int .i64 9, .bool h.flag, .bool h.neg, .string h.dig, .int .i64 h.exp, .int .u64 h.bits, .string h.text, .slice a1 m1 c1, .slice (some ⟨b, o, none⟩) 1 c2] 29) (.cells #[.int .i64 9, .bool g.flag, .bool g.neg, .string g.dig, .int .i64 g.exp, .int .u64 g.bits, .string g.text, .slice b1 n1 d1, .slice (some ⟨b', o', none⟩) 1 d2] 29)
  obtain ⟨W0, hW0⟩ : ∃ W0, (w.alloc (.cells #[.int .i64 9, .bool h.flag, .bool h.neg, .string h.dig, .int .i64 h.exp, .int .u64 h.bits, .string h.text, .slice a1 m1 c1, .slice (some ⟨b, o, none⟩) 1 c2] 29)).alloc (.cells #[.int .i64 9, .bool g.flag, .bool g.neg, .string g.dig, .int .i64 g.exp, .int .u64 g.bits, .string g.text, .slice b1 n1 d1, .slice (some ⟨b', o', none⟩) 1 d2] 29) = W0 := ⟨_, rfl⟩
  have hbw : Hid (Below w.heap.size w W0) := by rw [← hW0]; exact below_al (below_al (Below.refl _ _))
  have hs0 : w.heap.size < W0.heap.size ∧ w.heap.size + 1 < W0.heap.size := by rw [← hW0]; exact ⟨by simp; omega, by simp⟩
  rw [hW0] at TC R1 R2 ⊢
  have p6 : W0.cell? ⟨w.heap.size, 6, none⟩ = some (.string h.text) := (TC 6).1
  have p8 : W0.cell? ⟨w.heap.size, 8, none⟩ = some (.slice (some ⟨b, o, none⟩) 1 c2) := (TC 8).1
  have r6 : W0.cell? ⟨w.heap.size + 1, 6, none⟩ = some (.string g.text) := (TC 6).2
  have r8 : W0.cell? ⟨w.heap.size + 1, 8, none⟩ = some (.slice (some ⟨b', o', none⟩) 1 d2) := (TC 8).2
  obtain ⟨x0, x1, x2, x3, x4, x5, x6, x7, x8⟩ := R1
  obtain ⟨y0, y1, y2, y3, y4, y5, y6, y7, y8⟩ := R2
  obtain ⟨s1, s2⟩ := hs0
  have s3 : b < W0.heap.size := Nat.lt_of_lt_of_le hbl hbw.out.size
  have s4 : b' < W0.heap.size := Nat.lt_of_lt_of_le hbl' hbw.out.size
  clear TC hW0
  go_region_held3 (fun w' => w'.cell? ⟨w.heap.size, 6, none⟩ = some (.string h.text) ∧ w'.cell? ⟨w.heap.size, 8, none⟩ = some (.slice (some ⟨b, o, none⟩) 1 c2) ∧ w'.cell? ⟨w.heap.size + 1, 6, none⟩ = some (.string g.text) ∧ w'.cell? ⟨w.heap.size + 1, 8, none⟩ = some (.slice (some ⟨b', o', none⟩) 1 d2) ∧ w'.cell? ⟨b, o, none⟩ = some (.int .i64 hp.kind) ∧ w'.cell? ⟨b, o + 1, none⟩ = some (.bool hp.flag) ∧ w'.cell? ⟨b, o + 2, none⟩ = some (.bool hp.neg) ∧ w'.cell? ⟨b, o + 3, none⟩ = some (.string hp.dig) ∧ w'.cell? ⟨b, o + 4, none⟩ = some (.int .i64 hp.exp) ∧ w'.cell? ⟨b, o + 5, none⟩ = some (.int .u64 hp.bits) ∧ w'.cell? ⟨b, o + 6, none⟩ = some (.string hp.text) ∧ w'.cell? ⟨b, o + 7, none⟩ = some (.slice e1 e2 e3) ∧ w'.cell? ⟨b, o + 8, none⟩ = some (.slice e4 e5 e6) ∧ w'.cell? ⟨b', o', none⟩ = some (.int .i64 hq.kind) ∧ w'.cell? ⟨b', o' + 1, none⟩ = some (.bool hq.flag) ∧ w'.cell? ⟨b', o' + 2, none⟩ = some (.bool hq.neg) ∧ w'.cell? ⟨b', o' + 3, none⟩ = some (.string hq.dig) ∧ w'.cell? ⟨b', o' + 4, none⟩ = some (.int .i64 hq.exp) ∧ w'.cell? ⟨b', o' + 5, none⟩ = some (.int .u64 hq.bits) ∧ w'.cell? ⟨b', o' + 6, none⟩ = some (.string hq.text) ∧ w'.cell? ⟨b', o' + 7, none⟩ = some (.slice f1 f2 f3) ∧ w'.cell? ⟨b', o' + 8, none⟩ = some (.slice f4 f5 f6)) (first | (simp [go_sem]; done) | (simp [go_sem, *]; done) | go_keep) (first | (go_at_call 46; refine (hF.out _ hbw.out.drew).mono ?_; rintro e v1 ⟨rfl, hB1⟩; have K : ∀ (i j : Nat) (v : Value), i < W0.heap.size → W0.cell? ⟨i, j, none⟩ = some v → v1.cell? ⟨i, j, none⟩ = some v := fun i j v hi hv => (hB1.cell (p := ⟨i, j, none⟩) hi).trans hv; have z1 := K _ _ _ s1 p6; have z2 := K _ _ _ s1 p8; have z3 := K _ _ _ s2 r6; have z4 := K _ _ _ s2 r8; have u0 := K _ _ _ s3 x0; have t0 := K _ _ _ s4 y0; have u1 := K _ _ _ s3 x1; have t1 := K _ _ _ s4 y1; have u2 := K _ _ _ s3 x2; have t2 := K _ _ _ s4 y2; have u3 := K _ _ _ s3 x3; have t3 := K _ _ _ s4 y3; have u4 := K _ _ _ s3 x4; have t4 := K _ _ _ s4 y4; have u5 := K _ _ _ s3 x5; have t5 := K _ _ _ s4 y5; have u6 := K _ _ _ s3 x6; have t6 := K _ _ _ s4 y6; have u7 := K _ _ _ s3 x7; have t7 := K _ _ _ s4 y7; have u8 := K _ _ _ s3 x8; have t8 := K _ _ _ s4 y8; clear K))
  have hE := hide (below_then hbw.out.drew hB1)
  go_wp2_with fail
  go_ret
  exact ⟨rfl, hE.out⟩
end Go.Proofs.YtemlpjnophijfaaDoor
