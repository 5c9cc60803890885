/- value.comparePairs, value.pairs: walked. -/
import Derived.Test.YtemlpjnophijfaaDoorWrOrder
import Derived.Test.YtemlpjnophijfaaDoorWlAwake
import Derived.Deep.OwnRows
import Derived.Laws.MakeOwn
import Derived.Deep.RegionHeld3
import Derived.BigQuiet
namespace Go.Proofs.YtemlpjnophijfaaDoor
open Go.RowKit
set_option linter.unusedSimpArgs false
set_option linter.unusedVariables false
/-- A pair's cells. -/
def pvals (s : ByteArray) (h : Hd) (ns ls : Value) : Array Value := #[.string s, .int .i64 h.kind, .bool h.flag, .bool h.neg, .string h.dig, .int .i64 h.exp, .int .u64 h.bits, .string h.text, ns, ls]
set_option maxHeartbeats 2000000 in
set_option maxRecDepth 100000 in
theorem cpair_any (n : Nat) (ih : CmpOk n) (s t : ByteArray) (x y : VT n) (ns ls ns' ls' : Value) (w : World) (hx : RD n w x ns ls) (hy : RD n w y ns' ls') (vx : VOk n x) (vy : VOk n y) :
    Calls Tryd.prog 46 #[.agg (pvals s (vhd n x) ns ls), .agg (pvals t (vhd n y) ns' ls')] w fun e w' => e = .returned (.int .i64 (cmpP (cmpV n) (s, x) (t, y))) ∧ Below w.heap.size w w' := by
  obtain ⟨a1, m1, d1, a2, m2, d2, rfl, rfl⟩ := hx.shape
  obtain ⟨a3, m3, d3, a4, m4, d4, rfl, rfl⟩ := hy.shape
  obtain ⟨h, hh⟩ : ∃ h, vhd n x = h := ⟨_, rfl⟩
  obtain ⟨g, hg⟩ : ∃ g, vhd n y = g := ⟨_, rfl⟩
  have hcall := hide (fun o o' => ih x y _ _ _ _ ((w.alloc o).alloc o') (hx.below (below_al (below_al (Below.refl _ _)))) (hy.below (below_al (below_al (Below.refl _ _)))) vx vy)
  obtain ⟨C, hC⟩ : ∃ C, cmpB s t = C := ⟨_, rfl⟩
  have hs := hide (fun w => cmpStr_any s t w)
  have hP := hide (show cmpP (cmpV n) (s, x) (t, y) = if C = 0 then cmpV n x y else C by unfold cmpP; rw [hC])
  rw [hC] at hs
  rw [hP.out]
  rw [hh] at hcall ⊢
  rw [hg] at hcall ⊢
  obtain ⟨D, hD⟩ : ∃ D, cmpV n x y = D := ⟨_, rfl⟩
  rw [hD] at hcall ⊢
  clear hh hg hC hP hx hy vx vy hD
  show Calls _ _ #[.agg #[.string s, .int .i64 h.kind, .bool h.flag, .bool h.neg, .string h.dig, .int .i64 h.exp, .int .u64 h.bits, .string h.text, .slice a1 m1 d1, .slice a2 m2 d2], .agg #[.string t, .int .i64 g.kind, .bool g.flag, .bool g.neg, .string g.dig, .int .i64 g.exp, .int .u64 g.bits, .string g.text, .slice a3 m3 d3, .slice a4 m4 d4]] _ _
  by_cases hC0 : C = 0
  · subst hC0
    rw [if_pos rfl]
    go_enter Tryd.func46, Tryd.ntmps46
    go_wp2_with (first | (go_at_call 42; refine (hs.out _).mono ?_; rintro e w1 ⟨rfl, rfl⟩) | (go_at_call 29; refine (hcall.out _ _).mono ?_; rintro e w2 ⟨rfl, hb2⟩))
    go_ret
    exact ⟨rfl, below_then (below_al (below_al (Below.refl _ _))) hb2⟩
  · rw [if_neg hC0]
    have hD1 : (C == 0) = false := by rw [beq_eq_false_iff_ne]; exact hC0
    have hD2 : decide (C = 0) = false := decide_eq_false hC0
    go_enter Tryd.func46, Tryd.ntmps46
    go_wp2_with (first | (go_at_call 42; refine (hs.out _).mono ?_; rintro e w1 ⟨rfl, rfl⟩))
    go_ret
    exact ⟨rfl, below_al (below_al (Below.refl _ _))⟩
/-- A row of pairs of the call's own. -/
def PR (n : Nat) (w : World) (v : Value) (ps : List (ByteArray × VT n)) : Prop := ∃ (b c : Nat), v = .slice (some ⟨b, 0, none⟩) ps.length c ∧ ps.length ≤ c ∧ c ≤ maxLen ∧ b < w.heap.size ∧
    ∀ i (h : i < ps.length), ∃ ns ls, w.rangeAt b (i * 10) (pvals ps[i].1 (vhd n ps[i].2) ns ls).toList ∧ RD n w ps[i].2 ns ls
theorem PR.below {n : Nat} {w W : World} {v : Value} {ps : List (ByteArray × VT n)} (h : PR n w v ps) (hb : Below w.heap.size w W) : PR n W v ps := by
  obtain ⟨b, c, e, h1, h2, h3, h4⟩ := h
  refine ⟨b, c, e, h1, h2, Nat.lt_of_lt_of_le h3 hb.size, fun i hi => ?_⟩
  obtain ⟨ns, ls, r1, r2⟩ := h4 i hi
  exact ⟨ns, ls, rangeAt_below r1 hb h3, r2.below hb⟩
theorem range10 {w : World} {b o : Nat} {s : ByteArray} {h : Hd} {ns ls : Value} (k : w.rangeAt b o (pvals s h ns ls).toList) : w.cell? ⟨b, o, none⟩ = some (.string s) ∧ w.cell? ⟨b, o + 1, none⟩ = some (.int .i64 h.kind) ∧ w.cell? ⟨b, o + 2, none⟩ = some (.bool h.flag) ∧ w.cell? ⟨b, o + 3, none⟩ = some (.bool h.neg) ∧ w.cell? ⟨b, o + 4, none⟩ = some (.string h.dig) ∧ w.cell? ⟨b, o + 5, none⟩ = some (.int .i64 h.exp) ∧ w.cell? ⟨b, o + 6, none⟩ = some (.int .u64 h.bits) ∧ w.cell? ⟨b, o + 7, none⟩ = some (.string h.text) ∧ w.cell? ⟨b, o + 8, none⟩ = some ns ∧ w.cell? ⟨b, o + 9, none⟩ = some ls :=
  ⟨k 0 _ rfl, k 1 _ rfl, k 2 _ rfl, k 3 _ rfl, k 4 _ rfl, k 5 _ rfl, k 6 _ rfl, k 7 _ rfl, k 8 _ rfl, k 9 _ rfl⟩
theorem infoP : (Tryd.prog.info? 54).map (fun i => (i.size, i.bytes)) = some (10, 136) := by kernel_rfl
theorem zeroP : ∃ z, (Tryd.prog.info? 54).map (fun i => i.zero) = some (some z) := ⟨.agg #[.string ⟨#[]⟩, .int .i64 0, .bool false, .bool false, .string ⟨#[]⟩, .int .i64 0, .int .u64 0, .string ⟨#[]⟩, .slice none 0 0, .slice none 0 0], by kernel_rfl⟩
theorem make_pairs (n : Nat) (hn : n ≤ 200000) : ∃ arr : Array Value, arr.size = n * 10 ∧ ∀ w : World, (Instr.makeSlice 55 (.int .i64 (n : Int)) (.int .i64 (n : Int))).run Tryd.prog w = .ok (.slice (some ⟨w.heap.size, 0, none⟩) n n) (w.alloc (.cells arr 54)) := by
  obtain ⟨z, hz⟩ := zeroP
  obtain ⟨i, hi, hq⟩ := Option.map_eq_some_iff.1 infoP
  simp only [Prod.mk.injEq] at hq
  rw [hi] at hz
  simp only [Option.map_some, Option.some.injEq] at hz
  refine ⟨madeCells z.cells (n * 10), size_madeCells _ _, fun w => ?_⟩
  have hr := run_make (P := Tryd.prog) w 55 54 i z Tryd.underlying55 hi hz .i64 .i64 n n (by omega) (Int.le_refl _) (by rw [hq.2]; omega) (by omega)
  simp only [Int.toNat_natCast, hq.1] at hr
  exact hr
theorem set_ten (w : World) (G o : Nat) (T : TypeId) (ar : Array Value) (b0 b1 b2 b3 b4 b5 b6 b7 b8 b9 : Value) (hg : w.heap[G]? = some (.cells ar T (0, 0))) (ho : o + 10 ≤ ar.size) (W : World) (hW : ((((((((((w.setCell ⟨G, o, none⟩ b0).setCell ⟨G, o + 1, none⟩ b1).setCell ⟨G, o + 2, none⟩ b2).setCell ⟨G, o + 3, none⟩ b3).setCell ⟨G, o + 4, none⟩ b4).setCell ⟨G, o + 5, none⟩ b5).setCell ⟨G, o + 6, none⟩ b6).setCell ⟨G, o + 7, none⟩ b7).setCell ⟨G, o + 8, none⟩ b8).setCell ⟨G, o + 9, none⟩ b9) = W) :
    ∃ ar' : Array Value, W.heap[G]? = some (.cells ar' T (0, 0)) ∧ ar'.size = ar.size ∧ (∀ j, j < o ∨ o + 10 ≤ j → ar'[j]? = ar[j]?) ∧ (∀ (j : Nat) v, (#[b0, b1, b2, b3, b4, b5, b6, b7, b8, b9] : Array Value)[j]? = some v → ar'[o + j]? = some v) ∧ ∀ k, k ≠ G → W.heap[k]? = w.heap[k]? := by
  have h0 := set_heap _ G (o) _ _ T b0 rfl hg
  have h1 := set_heap _ G (o + 1) _ _ T b1 rfl h0.1
  have h2 := set_heap _ G (o + 2) _ _ T b2 rfl h1.1
  have h3 := set_heap _ G (o + 3) _ _ T b3 rfl h2.1
  have h4 := set_heap _ G (o + 4) _ _ T b4 rfl h3.1
  have h5 := set_heap _ G (o + 5) _ _ T b5 rfl h4.1
  have h6 := set_heap _ G (o + 6) _ _ T b6 rfl h5.1
  have h7 := set_heap _ G (o + 7) _ _ T b7 rfl h6.1
  have h8 := set_heap _ G (o + 8) _ _ T b8 rfl h7.1
  have h9 := set_heap _ G (o + 9) _ _ T b9 rfl h8.1
  rw [hW] at h9
  refine ⟨_, h9.1, by simp, fun j hj => ?_, fun j v hj => ?_, fun k hk => ?_⟩
  · simp only [Array.getElem?_setIfInBounds, Array.size_setIfInBounds]
    iterate 10 rw [if_neg (by omega)]
  · have hj10 : j < 10 := (Array.getElem?_eq_some_iff.1 hj).1
    simp only [Array.getElem?_setIfInBounds, Array.size_setIfInBounds]
    match j, hj10 with
    | 0, _ => rw [if_neg (by omega)]; rw [if_neg (by omega)]; rw [if_neg (by omega)]; rw [if_neg (by omega)]; rw [if_neg (by omega)]; rw [if_neg (by omega)]; rw [if_neg (by omega)]; rw [if_neg (by omega)]; rw [if_neg (by omega)]; rw [if_pos (by omega), if_pos (by omega)]; exact hj
    | 1, _ => rw [if_neg (by omega)]; rw [if_neg (by omega)]; rw [if_neg (by omega)]; rw [if_neg (by omega)]; rw [if_neg (by omega)]; rw [if_neg (by omega)]; rw [if_neg (by omega)]; rw [if_neg (by omega)]; rw [if_pos (by omega), if_pos (by omega)]; exact hj
    | 2, _ => rw [if_neg (by omega)]; rw [if_neg (by omega)]; rw [if_neg (by omega)]; rw [if_neg (by omega)]; rw [if_neg (by omega)]; rw [if_neg (by omega)]; rw [if_neg (by omega)]; rw [if_pos (by omega), if_pos (by omega)]; exact hj
    | 3, _ => rw [if_neg (by omega)]; rw [if_neg (by omega)]; rw [if_neg (by omega)]; rw [if_neg (by omega)]; rw [if_neg (by omega)]; rw [if_neg (by omega)]; rw [if_pos (by omega), if_pos (by omega)]; exact hj
    | 4, _ => rw [if_neg (by omega)]; rw [if_neg (by omega)]; rw [if_neg (by omega)]; rw [if_neg (by omega)]; rw [if_neg (by omega)]; rw [if_pos (by omega), if_pos (by omega)]; exact hj
    | 5, _ => rw [if_neg (by omega)]; rw [if_neg (by omega)]; rw [if_neg (by omega)]; rw [if_neg (by omega)]; rw [if_pos (by omega), if_pos (by omega)]; exact hj
    | 6, _ => rw [if_neg (by omega)]; rw [if_neg (by omega)]; rw [if_neg (by omega)]; rw [if_pos (by omega), if_pos (by omega)]; exact hj
    | 7, _ => rw [if_neg (by omega)]; rw [if_neg (by omega)]; rw [if_pos (by omega), if_pos (by omega)]; exact hj
    | 8, _ => rw [if_neg (by omega)]; rw [if_pos (by omega), if_pos (by omega)]; exact hj
    | 9, _ => rw [if_pos (by omega), if_pos (by omega)]; exact hj
  · rw [h9.2 k hk, h8.2 k hk, h7.2 k hk, h6.2 k hk, h5.2 k hk, h4.2 k hk, h3.2 k hk, h2.2 k hk, h1.2 k hk, h0.2 k hk]
/-- What pairs has laid behind k rounds. -/
structure Pw (n : Nat) (w : World) (h : Hd) (l : List (VT n)) (k G : Nat) (W : World) : Prop where
  below : Below w.heap.size w W
  row : ∃ arr : Array Value, W.heap[G]? = some (.cells arr 54 (0, 0)) ∧ arr.size = l.length * 10 ∧
    ∀ i (h1 : i < h.names.length) (h2 : i < l.length), i < k → ∃ ns ls, (∀ j v, (pvals h.names[i] (vhd n l[i]) ns ls)[j]? = some v → arr[i * 10 + j]? = some v) ∧ RD n w l[i] ns ls
set_option maxHeartbeats 2000000 in
set_option maxRecDepth 100000 in
theorem pairs_any (n : Nat) (h : Hd) (l : List (VT n)) (ns ls : Value) (w : World) (hr : RD (n + 1) w (h, l) ns ls) (hl : l.length ≤ 200000) (hnl : h.names.length = l.length) :
    Calls Tryd.prog 45 #[.agg (vals h ns ls)] w fun e w' => e = .returned (.slice (some ⟨w.heap.size + 1, 0, none⟩) l.length l.length) ∧ Hid (PR n w' (.slice (some ⟨w.heap.size + 1, 0, none⟩) l.length l.length) (h.names.zip l)) ∧ Below w.heap.size w w' := by
  obtain ⟨al, cl, rfl, hc1, hc2⟩ := hr.len
  obtain ⟨an, cn, rfl, hn1, hn2⟩ := hr.1.len
  have ml : maxLen = 9223372036854775807 := rfl
  simp only at hc1 hc2 hn1 hn2
  have hr := hide hr
  have hB0 := hide (bx_new w h (.slice an h.names.length cn) (.slice al l.length cl))
  show Calls _ _ #[.agg #[.int .i64 h.kind, .bool h.flag, .bool h.neg, .string h.dig, .int .i64 h.exp, .int .u64 h.bits, .string h.text, .slice an h.names.length cn, .slice al l.length cl]] _ _
  obtain ⟨arr, harr, hmk⟩ := make_pairs l.length hl
  have harr' := hide harr
  clear harr
  have hnl' := hide hnl
  rw [hnl] at hn1 hB0 ⊢
  clear hnl
  go_enter Tryd.func45, Tryd.ntmps45
  go_wp2_with fail
  go_loopw [13] (fun i W => ∃ k : Nat, i = .int .i64 k ∧ k ≤ l.length ∧ Hid (Pw n w h l k (w.heap.size + 1) W ∧ W.cell? ⟨w.heap.size, 7, none⟩ = some (.slice an l.length cn) ∧ w.heap.size < W.heap.size)) (fun i _ => l.length - (intOf i).toNat)
  case atStart =>
    refine ⟨0, rfl, Nat.zero_le _, ⟨below_al (below_al (Below.refl _ _)), arr, ?_, harr'.out, fun i _ _ hi => by omega⟩, ?_, ?_⟩
    · have := heap_alloc_last (w.alloc (.cells #[.int .i64 h.kind, .bool h.flag, .bool h.neg, .string h.dig, .int .i64 h.exp, .int .u64 h.bits, .string h.text, .slice an l.length cn, .slice al l.length cl] 29)) (.cells arr 54)
      simpa using this
    · exact (two_cells (Below.refl _ _) 7).1
    · simp; omega
  case round =>
    obtain ⟨k, rfl, hk, H⟩ := hrel
    by_cases hkl : k < l.length
    · have hki : (k : Int) < (l.length : Int) := by omega
      have hk63 : (k : Int) < 9223372036854775807 := by omega
      obtain ⟨b, o, c, he, hbl, hlc, hcm, ns', ls', hrg, hrd⟩ := hr.out.at k hkl
      have he' := Value.slice.inj he
      obtain ⟨rfl, _, rfl⟩ := he'
      clear he
      obtain ⟨q0, q1, q2, q3, q4, q5, q6, q7, q8⟩ := range9 (rangeAt_below hrg H.out.1.below hbl)
      obtain ⟨b', o', c', he, hbl', hlc', hcm', hcell⟩ := hr.out.1.at k (by simp only; rw [hnl'.out]; exact hkl)
      have he' := Value.slice.inj he
      obtain ⟨rfl, _, rfl⟩ := he'
      clear he
      have hcell := (H.out.1.below.cell (p := ⟨b', o' + k, none⟩) hbl').trans hcell
      have hrd' := hide hrd
      obtain ⟨a1, m1, d1, a2, m2, d2, rfl, rfl⟩ := hrd.shape
      clear hrg hrd
      obtain ⟨s, hs⟩ : ∃ s, h.names[k]'(by rw [hnl'.out]; exact hkl) = s := ⟨_, rfl⟩
      obtain ⟨g, hg⟩ : ∃ g, vhd n l[k] = g := ⟨_, rfl⟩
      simp only at hcell q0 q1 q2 q3 q4 q5 q6
      rw [hs] at hcell
      rw [hg] at q0 q1 q2 q3 q4 q5 q6
      obtain ⟨ar, har, hsz, hdone⟩ := H.out.1.row
      have c7 := H.out.2.1
      have l0 := H.out.2.2
      have lG : w.heap.size + 1 < wr.heap.size := (Array.getElem?_eq_some_iff.1 har).1
      have hbw : b < wr.heap.size := Nat.lt_of_lt_of_le hbl H.out.1.below.size
      have hbw' : b' < wr.heap.size := Nat.lt_of_lt_of_le hbl' H.out.1.below.size
      have hbn : ¬ b' = w.heap.size + 1 := by omega
      have hbn' : ¬ w.heap.size + 1 = b' := by omega
      have hex : ∀ j, j < 10 → ∃ z, wr.cell? ⟨w.heap.size + 1, k * 10 + j, none⟩ = some z := fun j hj => by
        unfold World.cell?
        rw [har]
        have hlt : k * 10 + j < ar.size := by rw [hsz]; omega
        exact ⟨_, Array.getElem?_eq_getElem hlt⟩
      obtain ⟨z0, e0⟩ := hex 0 (by omega)
      obtain ⟨z1, e1⟩ := hex 1 (by omega)
      obtain ⟨z2, e2⟩ := hex 2 (by omega)
      obtain ⟨z3, e3⟩ := hex 3 (by omega)
      obtain ⟨z4, e4⟩ := hex 4 (by omega)
      obtain ⟨z5, e5⟩ := hex 5 (by omega)
      obtain ⟨z6, e6⟩ := hex 6 (by omega)
      obtain ⟨z7, e7⟩ := hex 7 (by omega)
      obtain ⟨z8, e8⟩ := hex 8 (by omega)
      obtain ⟨z9, e9⟩ := hex 9 (by omega)
      have fz : ∀ j, wr.frozen? ⟨w.heap.size + 1, k * 10 + j, none⟩ = false := fun j => by simp [World.frozen?, har]
      have f0 := fz 0
      have f1 := fz 1
      have f2 := fz 2
      have f3 := fz 3
      have f4 := fz 4
      have f5 := fz 5
      have f6 := fz 6
      have f7 := fz 7
      have f8 := fz 8
      have f9 := fz 9
      simp only [Nat.add_zero] at e0 f0
      have har' := hide har
      have hsz' := hide hsz
      have hdone' := hide hdone
      have hs' := hide hs
      have hg' := hide hg
      clear hex fz har hsz hdone hs hg
      go_wp2_with fail
      go_region_held3 (fun w' => w'.cell? ⟨w.heap.size, 7, none⟩ = some (.slice (some ⟨b', o', none⟩) l.length cn) ∧ w'.cell? ⟨b', o' + k, none⟩ = some (.string s) ∧ w'.cell? ⟨wr.heap.size, 0, none⟩ = some (.int .i64 g.kind) ∧ w'.cell? ⟨wr.heap.size, 1, none⟩ = some (.bool g.flag) ∧ w'.cell? ⟨wr.heap.size, 2, none⟩ = some (.bool g.neg) ∧ w'.cell? ⟨wr.heap.size, 3, none⟩ = some (.string g.dig) ∧ w'.cell? ⟨wr.heap.size, 4, none⟩ = some (.int .i64 g.exp) ∧ w'.cell? ⟨wr.heap.size, 5, none⟩ = some (.int .u64 g.bits) ∧ w'.cell? ⟨wr.heap.size, 6, none⟩ = some (.string g.text) ∧ w'.cell? ⟨wr.heap.size, 7, none⟩ = some (.slice a1 m1 d1) ∧ w'.cell? ⟨wr.heap.size, 8, none⟩ = some (.slice a2 m2 d2)) (first | (simp [go_sem]; done) | (simp [go_sem, *]; done) | go_keep) (first | fail)
      go_wp2_with fail
      obtain ⟨W0, hW0⟩ : ∃ W0, ((((((((((wr.setCell ⟨w.heap.size + 1, k * 10, none⟩ (.string s)).setCell ⟨w.heap.size + 1, k * 10 + 1, none⟩ (.int .i64 g.kind)).setCell ⟨w.heap.size + 1, k * 10 + 2, none⟩ (.bool g.flag)).setCell ⟨w.heap.size + 1, k * 10 + 3, none⟩ (.bool g.neg)).setCell ⟨w.heap.size + 1, k * 10 + 4, none⟩ (.string g.dig)).setCell ⟨w.heap.size + 1, k * 10 + 5, none⟩ (.int .i64 g.exp)).setCell ⟨w.heap.size + 1, k * 10 + 6, none⟩ (.int .u64 g.bits)).setCell ⟨w.heap.size + 1, k * 10 + 7, none⟩ (.string g.text)).setCell ⟨w.heap.size + 1, k * 10 + 8, none⟩ (.slice a1 m1 d1)).setCell ⟨w.heap.size + 1, k * 10 + 9, none⟩ (.slice a2 m2 d2)) = W0 := ⟨_, rfl⟩
      rw [hW0]
      obtain ⟨ar', k1, k2, k3, k4, k5⟩ := set_ten wr (w.heap.size + 1) (k * 10) _ ar _ _ _ _ _ _ _ _ _ _ har'.out (by rw [hsz'.out]; omega) W0 hW0
      have hB0' : Below w.heap.size w W0 := by
        rw [← hW0]
        iterate 10 refine Below.setCell ?_ (by show w.heap.size ≤ w.heap.size + 1; omega) _
        exact H.out.1.below
      have hsz0 : wr.heap.size ≤ W0.heap.size := by
        rw [← hW0]
        simp
      refine ⟨⟨k + 1, by first | rfl | go_num, by omega, ⟨(below_al hB0').drew, ar', ?_, by rw [k2, hsz'.out], fun i h1 h2 hi => ?_⟩, ?_, ?_⟩, by simp [intOf]; omega⟩
      · have : (W0.alloc (.cells #[.int .i64 g.kind, .bool g.flag, .bool g.neg, .string g.dig, .int .i64 g.exp, .int .u64 g.bits, .string g.text, .slice a1 m1 d1, .slice a2 m2 d2] 29)).heap[w.heap.size + 1]? = W0.heap[w.heap.size + 1]? := (below_al (Below.refl W0.heap.size W0)).block _ (Array.getElem?_eq_some_iff.1 k1).1
        exact this.trans k1
      · by_cases hik : i < k
        · obtain ⟨ns0, ls0, p1, p2⟩ := hdone'.out i h1 h2 hik
          refine ⟨ns0, ls0, fun j v hj => ?_, p2⟩
          have hj10 : j < 10 := (Array.getElem?_eq_some_iff.1 hj).1
          rw [k3 _ (Or.inl (by omega))]
          exact p1 j v hj
        · have hik' : i = k := by omega
          subst hik'
          refine ⟨.slice a1 m1 d1, .slice a2 m2 d2, fun j v hj => k4 j v ?_, hrd'.out⟩
          rw [hs'.out, hg'.out] at hj
          exact hj
      · have hc7 : W0.cell? ⟨w.heap.size, 7, none⟩ = wr.cell? ⟨w.heap.size, 7, none⟩ := by
          unfold World.cell?
          simp only [k5 w.heap.size (by omega)]
        exact ((below_al (Below.refl W0.heap.size W0)).cell (p := ⟨w.heap.size, 7, none⟩) (by show w.heap.size < W0.heap.size; omega)).trans (hc7.trans H.out.2.1)
      · show w.heap.size < (W0.heap.push _).size
        simp
        omega
    · have hki : ¬ ((k : Int) < (l.length : Int)) := by omega
      have hkk : k = l.length := by omega
      have hP : Hid (PR n wr (.slice (some ⟨w.heap.size + 1, 0, none⟩) l.length l.length) (h.names.zip l)) := by
        obtain ⟨ar, har, hsz, hdone⟩ := H.out.1.row
        have hzl : (h.names.zip l).length = l.length := by rw [List.length_zip, hnl'.out]; simp
        refine ⟨w.heap.size + 1, l.length, by rw [hzl], by omega, by omega, (Array.getElem?_eq_some_iff.1 har).1, fun i hi => ?_⟩
        rw [hzl] at hi
        obtain ⟨ns0, ls0, p1, p2⟩ := hdone i (by rw [hnl'.out]; exact hi) hi (by omega)
        rw [List.getElem_zip]
        refine ⟨ns0, ls0, fun j v hj => ?_, p2.below H.out.1.below⟩
        unfold World.cell?
        rw [har]
        exact p1 j v (by rw [← hj, Array.getElem?_toList])
      go_wp2_with fail
      go_ret
      exact ⟨rfl, hP.out, H.out.1.below⟩
end Go.Proofs.YtemlpjnophijfaaDoor
