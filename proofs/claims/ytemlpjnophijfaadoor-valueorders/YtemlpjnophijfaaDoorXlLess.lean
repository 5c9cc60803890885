/- calamusref04.Less of lists: walked, given what it answers of what is less deep. -/
import Derived.Test.YtemlpjnophijfaaDoorXjLess
namespace Go.Proofs.YtemlpjnophijfaaDoor
open Go.RowKit
set_option linter.unusedSimpArgs false
set_option linter.unusedVariables false
theorem EqTwo.drew {w : World} {h g : Hd} {na la nb lb : Value} {W : World} (k : EqTwo w h g na la nb lb W) : EqTwo w h g na la nb lb W.drew := k.then (Below.refl _ _).drew
theorem EqTwo.drewN {w : World} {h g : Hd} {na la nb lb : Value} {W : World} (n : Nat) (k : EqTwo w h g na la nb lb W) : EqTwo w h g na la nb lb (W.drewN n) := k.then (below_dn (Below.refl _ _) n)
/-- What Less says of trees less than n deep. -/
def LessOk (n : Nat) : Prop := ∀ (x y : VT n) (ns ls ns' ls' : Value) (w : World), RD n w x ns ls → RD n w y ns' ls' → VOk n x → VOk n y →
    Calls Tryd.prog 30 #[.agg (vals (vhd n x) ns ls), .agg (vals (vhd n y) ns' ls')] w fun e w' => e = .returned (.bool (decide (cmpV n x y = -1))) ∧ Below w.heap.size w w'
set_option maxHeartbeats 4000000 in
set_option maxRecDepth 100000 in
theorem less_7 (n : Nat) (ih : LessOk n) (h g : Hd) (l m : List (VT n)) (ns ls ns' ls' : Value) (w : World) (hx : RD (n + 1) w (h, l) ns ls) (hy : RD (n + 1) w (g, m) ns' ls') (vx : ∀ y ∈ l, VOk n y) (vy : ∀ y ∈ m, VOk n y) (hk : h.kind = 7) (gk : g.kind = 7) :
    Calls Tryd.prog 30 #[.agg (vals h ns ls), .agg (vals g ns' ls')] w fun e w' => e = .returned (.bool (decide (lexL (cmpV n) l m = -1))) ∧ Below w.heap.size w w' := by
  obtain ⟨al, cl, rfl, hl1, hl2⟩ := hx.len
  obtain ⟨an, mn, cn, _, _, _, rfl, _⟩ := hx.shape
  obtain ⟨bl', dl, rfl, hm1, hm2⟩ := hy.len
  obtain ⟨bn, nn, dn, _, _, _, rfl, _⟩ := hy.shape
  have ml : maxLen = 9223372036854775807 := rfl
  simp only at hl1 hl2 hm1 hm2
  have P0 := hide (two_new w h g (.slice an mn cn) (.slice al l.length cl) (.slice bn nn dn) (.slice bl' m.length dl))
  have P7 : Hid (EqTwo w h g (.slice an mn cn) (.slice al l.length cl) (.slice bn nn dn) (.slice bl' m.length dl) ((w.alloc (.cells #[.int .i64 7, .bool h.flag, .bool h.neg, .string h.dig, .int .i64 h.exp, .int .u64 h.bits, .string h.text, .slice an mn cn, .slice al l.length cl] 29)).alloc (.cells #[.int .i64 7, .bool g.flag, .bool g.neg, .string g.dig, .int .i64 g.exp, .int .u64 g.bits, .string g.text, .slice bn nn dn, .slice bl' m.length dl] 29))) := by have := P0.out; unfold vals at this; rw [hk, gk] at this; exact this
  replace hx := hide hx
  replace hy := hide hy
  replace ih := hide ih
  replace vx := hide vx
  replace vy := hide vy
  show Calls _ _ #[.agg #[.int .i64 h.kind, .bool h.flag, .bool h.neg, .string h.dig, .int .i64 h.exp, .int .u64 h.bits, .string h.text, .slice an mn cn, .slice al l.length cl], .agg #[.int .i64 g.kind, .bool g.flag, .bool g.neg, .string g.dig, .int .i64 g.exp, .int .u64 g.bits, .string g.text, .slice bn nn dn, .slice bl' m.length dl]] _ _
  rw [hk, gk]
  clear P0
  go_enter Tryd.func30, Tryd.ntmps30
  go_wp2_with fail
  go_loopw [5] (fun i w' => ∃ k : Nat, i = .int .i64 k ∧ k ≤ l.length ∧ k ≤ m.length ∧ Hid (lexL (cmpV n) l m = lexL (cmpV n) (l.drop k) (m.drop k)) ∧ Hid (EqTwo w h g (.slice an mn cn) (.slice al l.length cl) (.slice bn nn dn) (.slice bl' m.length dl) w')) (fun i _ => l.length - (intOf i).toNat)
  case atStart => exact ⟨0, rfl, Nat.zero_le _, Nat.zero_le _, rfl, P7.out⟩
  case round =>
    obtain ⟨k, rfl, hkl1, hkm1, hE, hP⟩ := hrel
    have c0 := hP.out.ba.cells.1
    have c8 := hP.out.ba.cells.2.2.2.2.2.2.2.2
    have d8 := hP.out.bb.cells.2.2.2.2.2.2.2.2
    rw [hk] at c0
    have hk63 : (k : Int) ≤ 9223372036854775807 := by omega
    by_cases hkl : k < l.length
    · have hki : (k : Int) < (l.length : Int) := by omega
      by_cases hkm : k < m.length
      · have hkmi : (k : Int) < (m.length : Int) := by omega
        have hk63 : (k : Int) < 9223372036854775807 := by omega
        obtain ⟨b, o, c, he, hbl, hlc, hcm, ns1, ls1, hrg, hrd⟩ := hx.out.at k hkl
        have he' := Value.slice.inj he
        obtain ⟨rfl, _, rfl⟩ := he'
        clear he
        obtain ⟨b', o', c', he, hbl', hlc', hcm', ns2, ls2, hrg', hrd'⟩ := hy.out.at k hkm
        have he' := Value.slice.inj he
        obtain ⟨rfl, _, rfl⟩ := he'
        clear he
        obtain ⟨e1, e2, e3, e4, e5, e6, rfl, rfl⟩ := hrd.shape
        obtain ⟨f1, f2, f3, f4, f5, f6, rfl, rfl⟩ := hrd'.shape
        have vl := vx.out l[k] (List.getElem_mem _)
        have vm := vy.out m[k] (List.getElem_mem _)
        obtain ⟨Cv, hC⟩ : ∃ Cv, cmpV n l[k] m[k] = Cv := ⟨_, rfl⟩
        have hD : cmpV n m[k] l[k] = - Cv := by rw [← hC]; exact (ord_v n).rev _ _ vl.1 vm.1
        have hval : Cv = -1 ∨ Cv = 0 ∨ Cv = 1 := by rw [← hC]; exact (ord_v n).val _ _
        have hst := lex_step (cmpV n) hkl hkm
        rw [hC] at hst
        have k1 := hide (fun W (hb : Below w.heap.size w W) => ih.out l[k] m[k] _ _ _ _ W (hrd.below hb) (hrd'.below hb) vl vm)
        have k2 := hide (fun W (hb : Below w.heap.size w W) => ih.out m[k] l[k] _ _ _ _ W (hrd'.below hb) (hrd.below hb) vm vl)
        rw [hC] at k1
        rw [hD] at k2
        obtain ⟨hp, hhp⟩ : ∃ hp, vhd n l[k] = hp := ⟨_, rfl⟩
        obtain ⟨hq, hhq⟩ : ∃ hq, vhd n m[k] = hq := ⟨_, rfl⟩
        rw [hhp, hhq] at k1 k2
        have mkS : Hid (∀ w', EqTwo w h g (.slice an mn cn) (.slice (some ⟨b, o, none⟩) l.length cl) (.slice bn nn dn) (.slice (some ⟨b', o', none⟩) m.length dl) w' → w'.cell? ⟨w.heap.size, 8, none⟩ = some (.slice (some ⟨b, o, none⟩) l.length cl) ∧ w'.cell? ⟨w.heap.size + 1, 8, none⟩ = some (.slice (some ⟨b', o', none⟩) m.length dl) ∧ w'.cell? ⟨b, o + k * 9, none⟩ = some (.int .i64 hp.kind) ∧ w'.cell? ⟨b, o + k * 9 + 1, none⟩ = some (.bool hp.flag) ∧ w'.cell? ⟨b, o + k * 9 + 2, none⟩ = some (.bool hp.neg) ∧ w'.cell? ⟨b, o + k * 9 + 3, none⟩ = some (.string hp.dig) ∧ w'.cell? ⟨b, o + k * 9 + 4, none⟩ = some (.int .i64 hp.exp) ∧ w'.cell? ⟨b, o + k * 9 + 5, none⟩ = some (.int .u64 hp.bits) ∧ w'.cell? ⟨b, o + k * 9 + 6, none⟩ = some (.string hp.text) ∧ w'.cell? ⟨b, o + k * 9 + 7, none⟩ = some (.slice e1 e2 e3) ∧ w'.cell? ⟨b, o + k * 9 + 8, none⟩ = some (.slice e4 e5 e6) ∧ w'.cell? ⟨b', o' + k * 9, none⟩ = some (.int .i64 hq.kind) ∧ w'.cell? ⟨b', o' + k * 9 + 1, none⟩ = some (.bool hq.flag) ∧ w'.cell? ⟨b', o' + k * 9 + 2, none⟩ = some (.bool hq.neg) ∧ w'.cell? ⟨b', o' + k * 9 + 3, none⟩ = some (.string hq.dig) ∧ w'.cell? ⟨b', o' + k * 9 + 4, none⟩ = some (.int .i64 hq.exp) ∧ w'.cell? ⟨b', o' + k * 9 + 5, none⟩ = some (.int .u64 hq.bits) ∧ w'.cell? ⟨b', o' + k * 9 + 6, none⟩ = some (.string hq.text) ∧ w'.cell? ⟨b', o' + k * 9 + 7, none⟩ = some (.slice f1 f2 f3) ∧ w'.cell? ⟨b', o' + k * 9 + 8, none⟩ = some (.slice f4 f5 f6)) := fun w' q => by
          have R1 := rangeAt_below hrg q.below hbl
          have R2 := rangeAt_below hrg' q.below hbl'
          replace R1 : w'.rangeAt b (o + k * 9) (vals hp (.slice e1 e2 e3) (.slice e4 e5 e6)).toList := hhp ▸ R1
          replace R2 : w'.rangeAt b' (o' + k * 9) (vals hq (.slice f1 f2 f3) (.slice f4 f5 f6)).toList := hhq ▸ R2
          obtain ⟨x0, x1, x2, x3, x4, x5, x6, x7, x8⟩ := range9 R1
          obtain ⟨y0, y1, y2, y3, y4, y5, y6, y7, y8⟩ := range9 R2
          exact ⟨q.ba.cells.2.2.2.2.2.2.2.2, q.bb.cells.2.2.2.2.2.2.2.2, x0, x1, x2, x3, x4, x5, x6, x7, x8, y0, y1, y2, y3, y4, y5, y6, y7, y8⟩
        have EB : Hid (∀ W, EqTwo w h g (.slice an mn cn) (.slice (some ⟨b, o, none⟩) l.length cl) (.slice bn nn dn) (.slice (some ⟨b', o', none⟩) m.length dl) W → Below w.heap.size w W) := fun W q => q.below
        obtain ⟨_, _, x0, x1, x2, x3, x4, x5, x6, x7, x8, y0, y1, y2, y3, y4, y5, y6, y7, y8⟩ := mkS.out wr hP.out
        have hE2 := hide (hE.out.trans hst)
        clear hC hD hst hrg hrg' hrd hrd' hhp hhq vl vm hE
        rcases hval with rfl | rfl | rfl
        · have hfin := hide (show decide (lexL (cmpV n) l m = -1) = true by rw [hE2.out, if_neg (by decide)]; decide)
          go_wp2_with fail
          go_quiet (fail)
          go_wp2_with fail
          go_region_held3 (fun w' => w'.cell? ⟨w.heap.size, 8, none⟩ = some (.slice (some ⟨b, o, none⟩) l.length cl) ∧ w'.cell? ⟨w.heap.size + 1, 8, none⟩ = some (.slice (some ⟨b', o', none⟩) m.length dl) ∧ w'.cell? ⟨b, o + k * 9, none⟩ = some (.int .i64 hp.kind) ∧ w'.cell? ⟨b, o + k * 9 + 1, none⟩ = some (.bool hp.flag) ∧ w'.cell? ⟨b, o + k * 9 + 2, none⟩ = some (.bool hp.neg) ∧ w'.cell? ⟨b, o + k * 9 + 3, none⟩ = some (.string hp.dig) ∧ w'.cell? ⟨b, o + k * 9 + 4, none⟩ = some (.int .i64 hp.exp) ∧ w'.cell? ⟨b, o + k * 9 + 5, none⟩ = some (.int .u64 hp.bits) ∧ w'.cell? ⟨b, o + k * 9 + 6, none⟩ = some (.string hp.text) ∧ w'.cell? ⟨b, o + k * 9 + 7, none⟩ = some (.slice e1 e2 e3) ∧ w'.cell? ⟨b, o + k * 9 + 8, none⟩ = some (.slice e4 e5 e6) ∧ w'.cell? ⟨b', o' + k * 9, none⟩ = some (.int .i64 hq.kind) ∧ w'.cell? ⟨b', o' + k * 9 + 1, none⟩ = some (.bool hq.flag) ∧ w'.cell? ⟨b', o' + k * 9 + 2, none⟩ = some (.bool hq.neg) ∧ w'.cell? ⟨b', o' + k * 9 + 3, none⟩ = some (.string hq.dig) ∧ w'.cell? ⟨b', o' + k * 9 + 4, none⟩ = some (.int .i64 hq.exp) ∧ w'.cell? ⟨b', o' + k * 9 + 5, none⟩ = some (.int .u64 hq.bits) ∧ w'.cell? ⟨b', o' + k * 9 + 6, none⟩ = some (.string hq.text) ∧ w'.cell? ⟨b', o' + k * 9 + 7, none⟩ = some (.slice f1 f2 f3) ∧ w'.cell? ⟨b', o' + k * 9 + 8, none⟩ = some (.slice f4 f5 f6)) (first | exact mkS.out _ (by repeat (first | (with_reducible exact Hid.out (by assumption)) | (with_reducible refine EqTwo.drew ?_) | (with_reducible refine EqTwo.drewN _ ?_)))) (first | (go_at_call 30; refine (k1.out _ (EB.out _ (by repeat (first | (with_reducible exact Hid.out (by assumption)) | (with_reducible refine EqTwo.drew ?_) | (with_reducible refine EqTwo.drewN _ ?_))))).mono ?_; rintro e v1 ⟨rfl, hB1⟩; have T3 : Hid (EqTwo w h g (.slice an mn cn) (.slice (some ⟨b, o, none⟩) l.length cl) (.slice bn nn dn) (.slice (some ⟨b', o', none⟩) m.length dl) v1) := EqTwo.then (by repeat (first | (with_reducible exact Hid.out (by assumption)) | (with_reducible refine EqTwo.drew ?_) | (with_reducible refine EqTwo.drewN _ ?_))) hB1))
          go_wp2_with fail
          go_ret
          exact ⟨by rw [hfin.out]; first | rfl | simp, T3.out.below⟩
        · have hE3 := hide (hE2.out.trans (if_pos rfl))
          go_wp2_with fail
          go_quiet (fail)
          go_wp2_with fail
          go_region_held3 (fun w' => w'.cell? ⟨w.heap.size, 8, none⟩ = some (.slice (some ⟨b, o, none⟩) l.length cl) ∧ w'.cell? ⟨w.heap.size + 1, 8, none⟩ = some (.slice (some ⟨b', o', none⟩) m.length dl) ∧ w'.cell? ⟨b, o + k * 9, none⟩ = some (.int .i64 hp.kind) ∧ w'.cell? ⟨b, o + k * 9 + 1, none⟩ = some (.bool hp.flag) ∧ w'.cell? ⟨b, o + k * 9 + 2, none⟩ = some (.bool hp.neg) ∧ w'.cell? ⟨b, o + k * 9 + 3, none⟩ = some (.string hp.dig) ∧ w'.cell? ⟨b, o + k * 9 + 4, none⟩ = some (.int .i64 hp.exp) ∧ w'.cell? ⟨b, o + k * 9 + 5, none⟩ = some (.int .u64 hp.bits) ∧ w'.cell? ⟨b, o + k * 9 + 6, none⟩ = some (.string hp.text) ∧ w'.cell? ⟨b, o + k * 9 + 7, none⟩ = some (.slice e1 e2 e3) ∧ w'.cell? ⟨b, o + k * 9 + 8, none⟩ = some (.slice e4 e5 e6) ∧ w'.cell? ⟨b', o' + k * 9, none⟩ = some (.int .i64 hq.kind) ∧ w'.cell? ⟨b', o' + k * 9 + 1, none⟩ = some (.bool hq.flag) ∧ w'.cell? ⟨b', o' + k * 9 + 2, none⟩ = some (.bool hq.neg) ∧ w'.cell? ⟨b', o' + k * 9 + 3, none⟩ = some (.string hq.dig) ∧ w'.cell? ⟨b', o' + k * 9 + 4, none⟩ = some (.int .i64 hq.exp) ∧ w'.cell? ⟨b', o' + k * 9 + 5, none⟩ = some (.int .u64 hq.bits) ∧ w'.cell? ⟨b', o' + k * 9 + 6, none⟩ = some (.string hq.text) ∧ w'.cell? ⟨b', o' + k * 9 + 7, none⟩ = some (.slice f1 f2 f3) ∧ w'.cell? ⟨b', o' + k * 9 + 8, none⟩ = some (.slice f4 f5 f6)) (first | exact mkS.out _ (by repeat (first | (with_reducible exact Hid.out (by assumption)) | (with_reducible refine EqTwo.drew ?_) | (with_reducible refine EqTwo.drewN _ ?_)))) (first | (go_at_call 30; refine (k1.out _ (EB.out _ (by repeat (first | (with_reducible exact Hid.out (by assumption)) | (with_reducible refine EqTwo.drew ?_) | (with_reducible refine EqTwo.drewN _ ?_))))).mono ?_; rintro e v1 ⟨rfl, hB1⟩; have T3 : Hid (EqTwo w h g (.slice an mn cn) (.slice (some ⟨b, o, none⟩) l.length cl) (.slice bn nn dn) (.slice (some ⟨b', o', none⟩) m.length dl) v1) := EqTwo.then (by repeat (first | (with_reducible exact Hid.out (by assumption)) | (with_reducible refine EqTwo.drew ?_) | (with_reducible refine EqTwo.drewN _ ?_))) hB1))
          clear x0 x1 x2 x3 x4 x5 x6 x7 x8 y0 y1 y2 y3 y4 y5 y6 y7 y8
          obtain ⟨_, _, x0, x1, x2, x3, x4, x5, x6, x7, x8, y0, y1, y2, y3, y4, y5, y6, y7, y8⟩ := mkS.out _ T3.out
          go_wp2_with fail
          go_region_held3 (fun w' => w'.cell? ⟨w.heap.size, 8, none⟩ = some (.slice (some ⟨b, o, none⟩) l.length cl) ∧ w'.cell? ⟨w.heap.size + 1, 8, none⟩ = some (.slice (some ⟨b', o', none⟩) m.length dl) ∧ w'.cell? ⟨b, o + k * 9, none⟩ = some (.int .i64 hp.kind) ∧ w'.cell? ⟨b, o + k * 9 + 1, none⟩ = some (.bool hp.flag) ∧ w'.cell? ⟨b, o + k * 9 + 2, none⟩ = some (.bool hp.neg) ∧ w'.cell? ⟨b, o + k * 9 + 3, none⟩ = some (.string hp.dig) ∧ w'.cell? ⟨b, o + k * 9 + 4, none⟩ = some (.int .i64 hp.exp) ∧ w'.cell? ⟨b, o + k * 9 + 5, none⟩ = some (.int .u64 hp.bits) ∧ w'.cell? ⟨b, o + k * 9 + 6, none⟩ = some (.string hp.text) ∧ w'.cell? ⟨b, o + k * 9 + 7, none⟩ = some (.slice e1 e2 e3) ∧ w'.cell? ⟨b, o + k * 9 + 8, none⟩ = some (.slice e4 e5 e6) ∧ w'.cell? ⟨b', o' + k * 9, none⟩ = some (.int .i64 hq.kind) ∧ w'.cell? ⟨b', o' + k * 9 + 1, none⟩ = some (.bool hq.flag) ∧ w'.cell? ⟨b', o' + k * 9 + 2, none⟩ = some (.bool hq.neg) ∧ w'.cell? ⟨b', o' + k * 9 + 3, none⟩ = some (.string hq.dig) ∧ w'.cell? ⟨b', o' + k * 9 + 4, none⟩ = some (.int .i64 hq.exp) ∧ w'.cell? ⟨b', o' + k * 9 + 5, none⟩ = some (.int .u64 hq.bits) ∧ w'.cell? ⟨b', o' + k * 9 + 6, none⟩ = some (.string hq.text) ∧ w'.cell? ⟨b', o' + k * 9 + 7, none⟩ = some (.slice f1 f2 f3) ∧ w'.cell? ⟨b', o' + k * 9 + 8, none⟩ = some (.slice f4 f5 f6)) (first | exact mkS.out _ (by repeat (first | (with_reducible exact Hid.out (by assumption)) | (with_reducible refine EqTwo.drew ?_) | (with_reducible refine EqTwo.drewN _ ?_)))) (first | (go_at_call 30; refine (k2.out _ (EB.out _ (by repeat (first | (with_reducible exact Hid.out (by assumption)) | (with_reducible refine EqTwo.drew ?_) | (with_reducible refine EqTwo.drewN _ ?_))))).mono ?_; rintro e v1 ⟨rfl, hB1⟩; have T3 : Hid (EqTwo w h g (.slice an mn cn) (.slice (some ⟨b, o, none⟩) l.length cl) (.slice bn nn dn) (.slice (some ⟨b', o', none⟩) m.length dl) v1) := EqTwo.then (by repeat (first | (with_reducible exact Hid.out (by assumption)) | (with_reducible refine EqTwo.drew ?_) | (with_reducible refine EqTwo.drewN _ ?_))) hB1))
          go_wp2_with fail
          exact ⟨⟨k + 1, by go_num, by omega, by omega, hE3.out, T3.out⟩, by simp [intOf]; omega⟩
        · have hfin := hide (show decide (lexL (cmpV n) l m = -1) = false by rw [hE2.out, if_neg (by decide)]; decide)
          go_wp2_with fail
          go_quiet (fail)
          go_wp2_with fail
          go_region_held3 (fun w' => w'.cell? ⟨w.heap.size, 8, none⟩ = some (.slice (some ⟨b, o, none⟩) l.length cl) ∧ w'.cell? ⟨w.heap.size + 1, 8, none⟩ = some (.slice (some ⟨b', o', none⟩) m.length dl) ∧ w'.cell? ⟨b, o + k * 9, none⟩ = some (.int .i64 hp.kind) ∧ w'.cell? ⟨b, o + k * 9 + 1, none⟩ = some (.bool hp.flag) ∧ w'.cell? ⟨b, o + k * 9 + 2, none⟩ = some (.bool hp.neg) ∧ w'.cell? ⟨b, o + k * 9 + 3, none⟩ = some (.string hp.dig) ∧ w'.cell? ⟨b, o + k * 9 + 4, none⟩ = some (.int .i64 hp.exp) ∧ w'.cell? ⟨b, o + k * 9 + 5, none⟩ = some (.int .u64 hp.bits) ∧ w'.cell? ⟨b, o + k * 9 + 6, none⟩ = some (.string hp.text) ∧ w'.cell? ⟨b, o + k * 9 + 7, none⟩ = some (.slice e1 e2 e3) ∧ w'.cell? ⟨b, o + k * 9 + 8, none⟩ = some (.slice e4 e5 e6) ∧ w'.cell? ⟨b', o' + k * 9, none⟩ = some (.int .i64 hq.kind) ∧ w'.cell? ⟨b', o' + k * 9 + 1, none⟩ = some (.bool hq.flag) ∧ w'.cell? ⟨b', o' + k * 9 + 2, none⟩ = some (.bool hq.neg) ∧ w'.cell? ⟨b', o' + k * 9 + 3, none⟩ = some (.string hq.dig) ∧ w'.cell? ⟨b', o' + k * 9 + 4, none⟩ = some (.int .i64 hq.exp) ∧ w'.cell? ⟨b', o' + k * 9 + 5, none⟩ = some (.int .u64 hq.bits) ∧ w'.cell? ⟨b', o' + k * 9 + 6, none⟩ = some (.string hq.text) ∧ w'.cell? ⟨b', o' + k * 9 + 7, none⟩ = some (.slice f1 f2 f3) ∧ w'.cell? ⟨b', o' + k * 9 + 8, none⟩ = some (.slice f4 f5 f6)) (first | exact mkS.out _ (by repeat (first | (with_reducible exact Hid.out (by assumption)) | (with_reducible refine EqTwo.drew ?_) | (with_reducible refine EqTwo.drewN _ ?_)))) (first | (go_at_call 30; refine (k1.out _ (EB.out _ (by repeat (first | (with_reducible exact Hid.out (by assumption)) | (with_reducible refine EqTwo.drew ?_) | (with_reducible refine EqTwo.drewN _ ?_))))).mono ?_; rintro e v1 ⟨rfl, hB1⟩; have T3 : Hid (EqTwo w h g (.slice an mn cn) (.slice (some ⟨b, o, none⟩) l.length cl) (.slice bn nn dn) (.slice (some ⟨b', o', none⟩) m.length dl) v1) := EqTwo.then (by repeat (first | (with_reducible exact Hid.out (by assumption)) | (with_reducible refine EqTwo.drew ?_) | (with_reducible refine EqTwo.drewN _ ?_))) hB1))
          clear x0 x1 x2 x3 x4 x5 x6 x7 x8 y0 y1 y2 y3 y4 y5 y6 y7 y8
          obtain ⟨_, _, x0, x1, x2, x3, x4, x5, x6, x7, x8, y0, y1, y2, y3, y4, y5, y6, y7, y8⟩ := mkS.out _ T3.out
          go_wp2_with fail
          go_region_held3 (fun w' => w'.cell? ⟨w.heap.size, 8, none⟩ = some (.slice (some ⟨b, o, none⟩) l.length cl) ∧ w'.cell? ⟨w.heap.size + 1, 8, none⟩ = some (.slice (some ⟨b', o', none⟩) m.length dl) ∧ w'.cell? ⟨b, o + k * 9, none⟩ = some (.int .i64 hp.kind) ∧ w'.cell? ⟨b, o + k * 9 + 1, none⟩ = some (.bool hp.flag) ∧ w'.cell? ⟨b, o + k * 9 + 2, none⟩ = some (.bool hp.neg) ∧ w'.cell? ⟨b, o + k * 9 + 3, none⟩ = some (.string hp.dig) ∧ w'.cell? ⟨b, o + k * 9 + 4, none⟩ = some (.int .i64 hp.exp) ∧ w'.cell? ⟨b, o + k * 9 + 5, none⟩ = some (.int .u64 hp.bits) ∧ w'.cell? ⟨b, o + k * 9 + 6, none⟩ = some (.string hp.text) ∧ w'.cell? ⟨b, o + k * 9 + 7, none⟩ = some (.slice e1 e2 e3) ∧ w'.cell? ⟨b, o + k * 9 + 8, none⟩ = some (.slice e4 e5 e6) ∧ w'.cell? ⟨b', o' + k * 9, none⟩ = some (.int .i64 hq.kind) ∧ w'.cell? ⟨b', o' + k * 9 + 1, none⟩ = some (.bool hq.flag) ∧ w'.cell? ⟨b', o' + k * 9 + 2, none⟩ = some (.bool hq.neg) ∧ w'.cell? ⟨b', o' + k * 9 + 3, none⟩ = some (.string hq.dig) ∧ w'.cell? ⟨b', o' + k * 9 + 4, none⟩ = some (.int .i64 hq.exp) ∧ w'.cell? ⟨b', o' + k * 9 + 5, none⟩ = some (.int .u64 hq.bits) ∧ w'.cell? ⟨b', o' + k * 9 + 6, none⟩ = some (.string hq.text) ∧ w'.cell? ⟨b', o' + k * 9 + 7, none⟩ = some (.slice f1 f2 f3) ∧ w'.cell? ⟨b', o' + k * 9 + 8, none⟩ = some (.slice f4 f5 f6)) (first | exact mkS.out _ (by repeat (first | (with_reducible exact Hid.out (by assumption)) | (with_reducible refine EqTwo.drew ?_) | (with_reducible refine EqTwo.drewN _ ?_)))) (first | (go_at_call 30; refine (k2.out _ (EB.out _ (by repeat (first | (with_reducible exact Hid.out (by assumption)) | (with_reducible refine EqTwo.drew ?_) | (with_reducible refine EqTwo.drewN _ ?_))))).mono ?_; rintro e v1 ⟨rfl, hB1⟩; have T3 : Hid (EqTwo w h g (.slice an mn cn) (.slice (some ⟨b, o, none⟩) l.length cl) (.slice bn nn dn) (.slice (some ⟨b', o', none⟩) m.length dl) v1) := EqTwo.then (by repeat (first | (with_reducible exact Hid.out (by assumption)) | (with_reducible refine EqTwo.drew ?_) | (with_reducible refine EqTwo.drewN _ ?_))) hB1))
          go_wp2_with fail
          go_ret
          exact ⟨by rw [hfin.out]; first | rfl | simp, T3.out.below⟩
      · have hkmi : ¬ ((k : Int) < (m.length : Int)) := by omega
        have hlm : ¬ ((l.length : Int) < (m.length : Int)) := by omega
        have hfin := hide (show decide (lexL (cmpV n) l m = -1) = false by
          rw [hE.out, lex_end (cmpV n) (k := k) (by omega)]
          exact decide_eq_false (fun e => by rw [cmpI_lt] at e; omega))
        go_wp2_with fail
        go_ret
        exact ⟨by rw [hfin.out]; first | rfl | simp, hP.out.below⟩
    · have hki : ¬ ((k : Int) < (l.length : Int)) := by omega
      by_cases hlm : (l.length : Int) < (m.length : Int)
      · have hfin := hide (show decide (lexL (cmpV n) l m = -1) = true by
          rw [hE.out, lex_end (cmpV n) (k := k) (by omega)]
          exact decide_eq_true ((cmpI_lt _ _).2 hlm))
        go_wp2_with fail
        go_ret
        exact ⟨by rw [hfin.out]; first | rfl | simp, hP.out.below⟩
      · have hfin := hide (show decide (lexL (cmpV n) l m = -1) = false by
          rw [hE.out, lex_end (cmpV n) (k := k) (by omega)]
          exact decide_eq_false (fun e => by rw [cmpI_lt] at e; omega))
        go_wp2_with fail
        go_ret
        exact ⟨by rw [hfin.out]; first | rfl | simp, hP.out.below⟩
set_option maxHeartbeats 4000000 in
set_option maxRecDepth 100000 in
theorem less_9 (n : Nat) (ih : LessOk n) (h g : Hd) (l m : List (VT n)) (ns ls ns' ls' : Value) (w : World) (hx : RD (n + 1) w (h, l) ns ls) (hy : RD (n + 1) w (g, m) ns' ls') (vx : ∀ y ∈ l, VOk n y) (vy : ∀ y ∈ m, VOk n y) (hk : h.kind = 9) (gk : g.kind = 9) (htx : h.text = g.text) :
    Calls Tryd.prog 30 #[.agg (vals h ns ls), .agg (vals g ns' ls')] w fun e w' => e = .returned (.bool (decide (lexL (cmpV n) l m = -1))) ∧ Below w.heap.size w w' := by
  obtain ⟨al, cl, rfl, hl1, hl2⟩ := hx.len
  obtain ⟨an, mn, cn, _, _, _, rfl, _⟩ := hx.shape
  obtain ⟨bl', dl, rfl, hm1, hm2⟩ := hy.len
  obtain ⟨bn, nn, dn, _, _, _, rfl, _⟩ := hy.shape
  have ml : maxLen = 9223372036854775807 := rfl
  simp only at hl1 hl2 hm1 hm2
  have P0 := hide (two_new w h g (.slice an mn cn) (.slice al l.length cl) (.slice bn nn dn) (.slice bl' m.length dl))
  have P7 : Hid (EqTwo w h g (.slice an mn cn) (.slice al l.length cl) (.slice bn nn dn) (.slice bl' m.length dl) ((w.alloc (.cells #[.int .i64 9, .bool h.flag, .bool h.neg, .string h.dig, .int .i64 h.exp, .int .u64 h.bits, .string g.text, .slice an mn cn, .slice al l.length cl] 29)).alloc (.cells #[.int .i64 9, .bool g.flag, .bool g.neg, .string g.dig, .int .i64 g.exp, .int .u64 g.bits, .string g.text, .slice bn nn dn, .slice bl' m.length dl] 29))) := by have := P0.out; unfold vals at this; rw [hk, gk, htx] at this; exact this
  replace hx := hide hx
  replace hy := hide hy
  replace ih := hide ih
  replace vx := hide vx
  replace vy := hide vy
  show Calls _ _ #[.agg #[.int .i64 h.kind, .bool h.flag, .bool h.neg, .string h.dig, .int .i64 h.exp, .int .u64 h.bits, .string h.text, .slice an mn cn, .slice al l.length cl], .agg #[.int .i64 g.kind, .bool g.flag, .bool g.neg, .string g.dig, .int .i64 g.exp, .int .u64 g.bits, .string g.text, .slice bn nn dn, .slice bl' m.length dl]] _ _
  rw [hk, gk, htx]
  clear P0
  go_enter Tryd.func30, Tryd.ntmps30
  go_wp2_with fail
  go_loopw [5] (fun i w' => ∃ k : Nat, i = .int .i64 k ∧ k ≤ l.length ∧ k ≤ m.length ∧ Hid (lexL (cmpV n) l m = lexL (cmpV n) (l.drop k) (m.drop k)) ∧ Hid (EqTwo w h g (.slice an mn cn) (.slice al l.length cl) (.slice bn nn dn) (.slice bl' m.length dl) w')) (fun i _ => l.length - (intOf i).toNat)
  case atStart => exact ⟨0, rfl, Nat.zero_le _, Nat.zero_le _, rfl, P7.out⟩
  case round =>
    obtain ⟨k, rfl, hkl1, hkm1, hE, hP⟩ := hrel
    have c0 := hP.out.ba.cells.1
    have c8 := hP.out.ba.cells.2.2.2.2.2.2.2.2
    have d8 := hP.out.bb.cells.2.2.2.2.2.2.2.2
    rw [hk] at c0
    have hk63 : (k : Int) ≤ 9223372036854775807 := by omega
    by_cases hkl : k < l.length
    · have hki : (k : Int) < (l.length : Int) := by omega
      by_cases hkm : k < m.length
      · have hkmi : (k : Int) < (m.length : Int) := by omega
        have hk63 : (k : Int) < 9223372036854775807 := by omega
        obtain ⟨b, o, c, he, hbl, hlc, hcm, ns1, ls1, hrg, hrd⟩ := hx.out.at k hkl
        have he' := Value.slice.inj he
        obtain ⟨rfl, _, rfl⟩ := he'
        clear he
        obtain ⟨b', o', c', he, hbl', hlc', hcm', ns2, ls2, hrg', hrd'⟩ := hy.out.at k hkm
        have he' := Value.slice.inj he
        obtain ⟨rfl, _, rfl⟩ := he'
        clear he
        obtain ⟨e1, e2, e3, e4, e5, e6, rfl, rfl⟩ := hrd.shape
        obtain ⟨f1, f2, f3, f4, f5, f6, rfl, rfl⟩ := hrd'.shape
        have vl := vx.out l[k] (List.getElem_mem _)
        have vm := vy.out m[k] (List.getElem_mem _)
        obtain ⟨Cv, hC⟩ : ∃ Cv, cmpV n l[k] m[k] = Cv := ⟨_, rfl⟩
        have hD : cmpV n m[k] l[k] = - Cv := by rw [← hC]; exact (ord_v n).rev _ _ vl.1 vm.1
        have hval : Cv = -1 ∨ Cv = 0 ∨ Cv = 1 := by rw [← hC]; exact (ord_v n).val _ _
        have hst := lex_step (cmpV n) hkl hkm
        rw [hC] at hst
        have k1 := hide (fun W (hb : Below w.heap.size w W) => ih.out l[k] m[k] _ _ _ _ W (hrd.below hb) (hrd'.below hb) vl vm)
        have k2 := hide (fun W (hb : Below w.heap.size w W) => ih.out m[k] l[k] _ _ _ _ W (hrd'.below hb) (hrd.below hb) vm vl)
        rw [hC] at k1
        rw [hD] at k2
        obtain ⟨hp, hhp⟩ : ∃ hp, vhd n l[k] = hp := ⟨_, rfl⟩
        obtain ⟨hq, hhq⟩ : ∃ hq, vhd n m[k] = hq := ⟨_, rfl⟩
        rw [hhp, hhq] at k1 k2
        have mkS : Hid (∀ w', EqTwo w h g (.slice an mn cn) (.slice (some ⟨b, o, none⟩) l.length cl) (.slice bn nn dn) (.slice (some ⟨b', o', none⟩) m.length dl) w' → w'.cell? ⟨w.heap.size, 8, none⟩ = some (.slice (some ⟨b, o, none⟩) l.length cl) ∧ w'.cell? ⟨w.heap.size + 1, 8, none⟩ = some (.slice (some ⟨b', o', none⟩) m.length dl) ∧ w'.cell? ⟨b, o + k * 9, none⟩ = some (.int .i64 hp.kind) ∧ w'.cell? ⟨b, o + k * 9 + 1, none⟩ = some (.bool hp.flag) ∧ w'.cell? ⟨b, o + k * 9 + 2, none⟩ = some (.bool hp.neg) ∧ w'.cell? ⟨b, o + k * 9 + 3, none⟩ = some (.string hp.dig) ∧ w'.cell? ⟨b, o + k * 9 + 4, none⟩ = some (.int .i64 hp.exp) ∧ w'.cell? ⟨b, o + k * 9 + 5, none⟩ = some (.int .u64 hp.bits) ∧ w'.cell? ⟨b, o + k * 9 + 6, none⟩ = some (.string hp.text) ∧ w'.cell? ⟨b, o + k * 9 + 7, none⟩ = some (.slice e1 e2 e3) ∧ w'.cell? ⟨b, o + k * 9 + 8, none⟩ = some (.slice e4 e5 e6) ∧ w'.cell? ⟨b', o' + k * 9, none⟩ = some (.int .i64 hq.kind) ∧ w'.cell? ⟨b', o' + k * 9 + 1, none⟩ = some (.bool hq.flag) ∧ w'.cell? ⟨b', o' + k * 9 + 2, none⟩ = some (.bool hq.neg) ∧ w'.cell? ⟨b', o' + k * 9 + 3, none⟩ = some (.string hq.dig) ∧ w'.cell? ⟨b', o' + k * 9 + 4, none⟩ = some (.int .i64 hq.exp) ∧ w'.cell? ⟨b', o' + k * 9 + 5, none⟩ = some (.int .u64 hq.bits) ∧ w'.cell? ⟨b', o' + k * 9 + 6, none⟩ = some (.string hq.text) ∧ w'.cell? ⟨b', o' + k * 9 + 7, none⟩ = some (.slice f1 f2 f3) ∧ w'.cell? ⟨b', o' + k * 9 + 8, none⟩ = some (.slice f4 f5 f6)) := fun w' q => by
          have R1 := rangeAt_below hrg q.below hbl
          have R2 := rangeAt_below hrg' q.below hbl'
          replace R1 : w'.rangeAt b (o + k * 9) (vals hp (.slice e1 e2 e3) (.slice e4 e5 e6)).toList := hhp ▸ R1
          replace R2 : w'.rangeAt b' (o' + k * 9) (vals hq (.slice f1 f2 f3) (.slice f4 f5 f6)).toList := hhq ▸ R2
          obtain ⟨x0, x1, x2, x3, x4, x5, x6, x7, x8⟩ := range9 R1
          obtain ⟨y0, y1, y2, y3, y4, y5, y6, y7, y8⟩ := range9 R2
          exact ⟨q.ba.cells.2.2.2.2.2.2.2.2, q.bb.cells.2.2.2.2.2.2.2.2, x0, x1, x2, x3, x4, x5, x6, x7, x8, y0, y1, y2, y3, y4, y5, y6, y7, y8⟩
        have EB : Hid (∀ W, EqTwo w h g (.slice an mn cn) (.slice (some ⟨b, o, none⟩) l.length cl) (.slice bn nn dn) (.slice (some ⟨b', o', none⟩) m.length dl) W → Below w.heap.size w W) := fun W q => q.below
        obtain ⟨_, _, x0, x1, x2, x3, x4, x5, x6, x7, x8, y0, y1, y2, y3, y4, y5, y6, y7, y8⟩ := mkS.out wr hP.out
        have hE2 := hide (hE.out.trans hst)
        clear hC hD hst hrg hrg' hrd hrd' hhp hhq vl vm hE
        rcases hval with rfl | rfl | rfl
        · have hfin := hide (show decide (lexL (cmpV n) l m = -1) = true by rw [hE2.out, if_neg (by decide)]; decide)
          go_wp2_with fail
          go_quiet (fail)
          go_wp2_with fail
          go_region_held3 (fun w' => w'.cell? ⟨w.heap.size, 8, none⟩ = some (.slice (some ⟨b, o, none⟩) l.length cl) ∧ w'.cell? ⟨w.heap.size + 1, 8, none⟩ = some (.slice (some ⟨b', o', none⟩) m.length dl) ∧ w'.cell? ⟨b, o + k * 9, none⟩ = some (.int .i64 hp.kind) ∧ w'.cell? ⟨b, o + k * 9 + 1, none⟩ = some (.bool hp.flag) ∧ w'.cell? ⟨b, o + k * 9 + 2, none⟩ = some (.bool hp.neg) ∧ w'.cell? ⟨b, o + k * 9 + 3, none⟩ = some (.string hp.dig) ∧ w'.cell? ⟨b, o + k * 9 + 4, none⟩ = some (.int .i64 hp.exp) ∧ w'.cell? ⟨b, o + k * 9 + 5, none⟩ = some (.int .u64 hp.bits) ∧ w'.cell? ⟨b, o + k * 9 + 6, none⟩ = some (.string hp.text) ∧ w'.cell? ⟨b, o + k * 9 + 7, none⟩ = some (.slice e1 e2 e3) ∧ w'.cell? ⟨b, o + k * 9 + 8, none⟩ = some (.slice e4 e5 e6) ∧ w'.cell? ⟨b', o' + k * 9, none⟩ = some (.int .i64 hq.kind) ∧ w'.cell? ⟨b', o' + k * 9 + 1, none⟩ = some (.bool hq.flag) ∧ w'.cell? ⟨b', o' + k * 9 + 2, none⟩ = some (.bool hq.neg) ∧ w'.cell? ⟨b', o' + k * 9 + 3, none⟩ = some (.string hq.dig) ∧ w'.cell? ⟨b', o' + k * 9 + 4, none⟩ = some (.int .i64 hq.exp) ∧ w'.cell? ⟨b', o' + k * 9 + 5, none⟩ = some (.int .u64 hq.bits) ∧ w'.cell? ⟨b', o' + k * 9 + 6, none⟩ = some (.string hq.text) ∧ w'.cell? ⟨b', o' + k * 9 + 7, none⟩ = some (.slice f1 f2 f3) ∧ w'.cell? ⟨b', o' + k * 9 + 8, none⟩ = some (.slice f4 f5 f6)) (first | exact mkS.out _ (by repeat (first | (with_reducible exact Hid.out (by assumption)) | (with_reducible refine EqTwo.drew ?_) | (with_reducible refine EqTwo.drewN _ ?_)))) (first | (go_at_call 30; refine (k1.out _ (EB.out _ (by repeat (first | (with_reducible exact Hid.out (by assumption)) | (with_reducible refine EqTwo.drew ?_) | (with_reducible refine EqTwo.drewN _ ?_))))).mono ?_; rintro e v1 ⟨rfl, hB1⟩; have T3 : Hid (EqTwo w h g (.slice an mn cn) (.slice (some ⟨b, o, none⟩) l.length cl) (.slice bn nn dn) (.slice (some ⟨b', o', none⟩) m.length dl) v1) := EqTwo.then (by repeat (first | (with_reducible exact Hid.out (by assumption)) | (with_reducible refine EqTwo.drew ?_) | (with_reducible refine EqTwo.drewN _ ?_))) hB1))
          go_wp2_with fail
          go_ret
          exact ⟨by rw [hfin.out]; first | rfl | simp, T3.out.below⟩
        · have hE3 := hide (hE2.out.trans (if_pos rfl))
          go_wp2_with fail
          go_quiet (fail)
          go_wp2_with fail
          go_region_held3 (fun w' => w'.cell? ⟨w.heap.size, 8, none⟩ = some (.slice (some ⟨b, o, none⟩) l.length cl) ∧ w'.cell? ⟨w.heap.size + 1, 8, none⟩ = some (.slice (some ⟨b', o', none⟩) m.length dl) ∧ w'.cell? ⟨b, o + k * 9, none⟩ = some (.int .i64 hp.kind) ∧ w'.cell? ⟨b, o + k * 9 + 1, none⟩ = some (.bool hp.flag) ∧ w'.cell? ⟨b, o + k * 9 + 2, none⟩ = some (.bool hp.neg) ∧ w'.cell? ⟨b, o + k * 9 + 3, none⟩ = some (.string hp.dig) ∧ w'.cell? ⟨b, o + k * 9 + 4, none⟩ = some (.int .i64 hp.exp) ∧ w'.cell? ⟨b, o + k * 9 + 5, none⟩ = some (.int .u64 hp.bits) ∧ w'.cell? ⟨b, o + k * 9 + 6, none⟩ = some (.string hp.text) ∧ w'.cell? ⟨b, o + k * 9 + 7, none⟩ = some (.slice e1 e2 e3) ∧ w'.cell? ⟨b, o + k * 9 + 8, none⟩ = some (.slice e4 e5 e6) ∧ w'.cell? ⟨b', o' + k * 9, none⟩ = some (.int .i64 hq.kind) ∧ w'.cell? ⟨b', o' + k * 9 + 1, none⟩ = some (.bool hq.flag) ∧ w'.cell? ⟨b', o' + k * 9 + 2, none⟩ = some (.bool hq.neg) ∧ w'.cell? ⟨b', o' + k * 9 + 3, none⟩ = some (.string hq.dig) ∧ w'.cell? ⟨b', o' + k * 9 + 4, none⟩ = some (.int .i64 hq.exp) ∧ w'.cell? ⟨b', o' + k * 9 + 5, none⟩ = some (.int .u64 hq.bits) ∧ w'.cell? ⟨b', o' + k * 9 + 6, none⟩ = some (.string hq.text) ∧ w'.cell? ⟨b', o' + k * 9 + 7, none⟩ = some (.slice f1 f2 f3) ∧ w'.cell? ⟨b', o' + k * 9 + 8, none⟩ = some (.slice f4 f5 f6)) (first | exact mkS.out _ (by repeat (first | (with_reducible exact Hid.out (by assumption)) | (with_reducible refine EqTwo.drew ?_) | (with_reducible refine EqTwo.drewN _ ?_)))) (first | (go_at_call 30; refine (k1.out _ (EB.out _ (by repeat (first | (with_reducible exact Hid.out (by assumption)) | (with_reducible refine EqTwo.drew ?_) | (with_reducible refine EqTwo.drewN _ ?_))))).mono ?_; rintro e v1 ⟨rfl, hB1⟩; have T3 : Hid (EqTwo w h g (.slice an mn cn) (.slice (some ⟨b, o, none⟩) l.length cl) (.slice bn nn dn) (.slice (some ⟨b', o', none⟩) m.length dl) v1) := EqTwo.then (by repeat (first | (with_reducible exact Hid.out (by assumption)) | (with_reducible refine EqTwo.drew ?_) | (with_reducible refine EqTwo.drewN _ ?_))) hB1))
          clear x0 x1 x2 x3 x4 x5 x6 x7 x8 y0 y1 y2 y3 y4 y5 y6 y7 y8
          obtain ⟨_, _, x0, x1, x2, x3, x4, x5, x6, x7, x8, y0, y1, y2, y3, y4, y5, y6, y7, y8⟩ := mkS.out _ T3.out
          go_wp2_with fail
          go_region_held3 (fun w' => w'.cell? ⟨w.heap.size, 8, none⟩ = some (.slice (some ⟨b, o, none⟩) l.length cl) ∧ w'.cell? ⟨w.heap.size + 1, 8, none⟩ = some (.slice (some ⟨b', o', none⟩) m.length dl) ∧ w'.cell? ⟨b, o + k * 9, none⟩ = some (.int .i64 hp.kind) ∧ w'.cell? ⟨b, o + k * 9 + 1, none⟩ = some (.bool hp.flag) ∧ w'.cell? ⟨b, o + k * 9 + 2, none⟩ = some (.bool hp.neg) ∧ w'.cell? ⟨b, o + k * 9 + 3, none⟩ = some (.string hp.dig) ∧ w'.cell? ⟨b, o + k * 9 + 4, none⟩ = some (.int .i64 hp.exp) ∧ w'.cell? ⟨b, o + k * 9 + 5, none⟩ = some (.int .u64 hp.bits) ∧ w'.cell? ⟨b, o + k * 9 + 6, none⟩ = some (.string hp.text) ∧ w'.cell? ⟨b, o + k * 9 + 7, none⟩ = some (.slice e1 e2 e3) ∧ w'.cell? ⟨b, o + k * 9 + 8, none⟩ = some (.slice e4 e5 e6) ∧ w'.cell? ⟨b', o' + k * 9, none⟩ = some (.int .i64 hq.kind) ∧ w'.cell? ⟨b', o' + k * 9 + 1, none⟩ = some (.bool hq.flag) ∧ w'.cell? ⟨b', o' + k * 9 + 2, none⟩ = some (.bool hq.neg) ∧ w'.cell? ⟨b', o' + k * 9 + 3, none⟩ = some (.string hq.dig) ∧ w'.cell? ⟨b', o' + k * 9 + 4, none⟩ = some (.int .i64 hq.exp) ∧ w'.cell? ⟨b', o' + k * 9 + 5, none⟩ = some (.int .u64 hq.bits) ∧ w'.cell? ⟨b', o' + k * 9 + 6, none⟩ = some (.string hq.text) ∧ w'.cell? ⟨b', o' + k * 9 + 7, none⟩ = some (.slice f1 f2 f3) ∧ w'.cell? ⟨b', o' + k * 9 + 8, none⟩ = some (.slice f4 f5 f6)) (first | exact mkS.out _ (by repeat (first | (with_reducible exact Hid.out (by assumption)) | (with_reducible refine EqTwo.drew ?_) | (with_reducible refine EqTwo.drewN _ ?_)))) (first | (go_at_call 30; refine (k2.out _ (EB.out _ (by repeat (first | (with_reducible exact Hid.out (by assumption)) | (with_reducible refine EqTwo.drew ?_) | (with_reducible refine EqTwo.drewN _ ?_))))).mono ?_; rintro e v1 ⟨rfl, hB1⟩; have T3 : Hid (EqTwo w h g (.slice an mn cn) (.slice (some ⟨b, o, none⟩) l.length cl) (.slice bn nn dn) (.slice (some ⟨b', o', none⟩) m.length dl) v1) := EqTwo.then (by repeat (first | (with_reducible exact Hid.out (by assumption)) | (with_reducible refine EqTwo.drew ?_) | (with_reducible refine EqTwo.drewN _ ?_))) hB1))
          go_wp2_with fail
          exact ⟨⟨k + 1, by go_num, by omega, by omega, hE3.out, T3.out⟩, by simp [intOf]; omega⟩
        · have hfin := hide (show decide (lexL (cmpV n) l m = -1) = false by rw [hE2.out, if_neg (by decide)]; decide)
          go_wp2_with fail
          go_quiet (fail)
          go_wp2_with fail
          go_region_held3 (fun w' => w'.cell? ⟨w.heap.size, 8, none⟩ = some (.slice (some ⟨b, o, none⟩) l.length cl) ∧ w'.cell? ⟨w.heap.size + 1, 8, none⟩ = some (.slice (some ⟨b', o', none⟩) m.length dl) ∧ w'.cell? ⟨b, o + k * 9, none⟩ = some (.int .i64 hp.kind) ∧ w'.cell? ⟨b, o + k * 9 + 1, none⟩ = some (.bool hp.flag) ∧ w'.cell? ⟨b, o + k * 9 + 2, none⟩ = some (.bool hp.neg) ∧ w'.cell? ⟨b, o + k * 9 + 3, none⟩ = some (.string hp.dig) ∧ w'.cell? ⟨b, o + k * 9 + 4, none⟩ = some (.int .i64 hp.exp) ∧ w'.cell? ⟨b, o + k * 9 + 5, none⟩ = some (.int .u64 hp.bits) ∧ w'.cell? ⟨b, o + k * 9 + 6, none⟩ = some (.string hp.text) ∧ w'.cell? ⟨b, o + k * 9 + 7, none⟩ = some (.slice e1 e2 e3) ∧ w'.cell? ⟨b, o + k * 9 + 8, none⟩ = some (.slice e4 e5 e6) ∧ w'.cell? ⟨b', o' + k * 9, none⟩ = some (.int .i64 hq.kind) ∧ w'.cell? ⟨b', o' + k * 9 + 1, none⟩ = some (.bool hq.flag) ∧ w'.cell? ⟨b', o' + k * 9 + 2, none⟩ = some (.bool hq.neg) ∧ w'.cell? ⟨b', o' + k * 9 + 3, none⟩ = some (.string hq.dig) ∧ w'.cell? ⟨b', o' + k * 9 + 4, none⟩ = some (.int .i64 hq.exp) ∧ w'.cell? ⟨b', o' + k * 9 + 5, none⟩ = some (.int .u64 hq.bits) ∧ w'.cell? ⟨b', o' + k * 9 + 6, none⟩ = some (.string hq.text) ∧ w'.cell? ⟨b', o' + k * 9 + 7, none⟩ = some (.slice f1 f2 f3) ∧ w'.cell? ⟨b', o' + k * 9 + 8, none⟩ = some (.slice f4 f5 f6)) (first | exact mkS.out _ (by repeat (first | (with_reducible exact Hid.out (by assumption)) | (with_reducible refine EqTwo.drew ?_) | (with_reducible refine EqTwo.drewN _ ?_)))) (first | (go_at_call 30; refine (k1.out _ (EB.out _ (by repeat (first | (with_reducible exact Hid.out (by assumption)) | (with_reducible refine EqTwo.drew ?_) | (with_reducible refine EqTwo.drewN _ ?_))))).mono ?_; rintro e v1 ⟨rfl, hB1⟩; have T3 : Hid (EqTwo w h g (.slice an mn cn) (.slice (some ⟨b, o, none⟩) l.length cl) (.slice bn nn dn) (.slice (some ⟨b', o', none⟩) m.length dl) v1) := EqTwo.then (by repeat (first | (with_reducible exact Hid.out (by assumption)) | (with_reducible refine EqTwo.drew ?_) | (with_reducible refine EqTwo.drewN _ ?_))) hB1))
          clear x0 x1 x2 x3 x4 x5 x6 x7 x8 y0 y1 y2 y3 y4 y5 y6 y7 y8
          obtain ⟨_, _, x0, x1, x2, x3, x4, x5, x6, x7, x8, y0, y1, y2, y3, y4, y5, y6, y7, y8⟩ := mkS.out _ T3.out
          go_wp2_with fail
          go_region_held3 (fun w' => w'.cell? ⟨w.heap.size, 8, none⟩ = some (.slice (some ⟨b, o, none⟩) l.length cl) ∧ w'.cell? ⟨w.heap.size + 1, 8, none⟩ = some (.slice (some ⟨b', o', none⟩) m.length dl) ∧ w'.cell? ⟨b, o + k * 9, none⟩ = some (.int .i64 hp.kind) ∧ w'.cell? ⟨b, o + k * 9 + 1, none⟩ = some (.bool hp.flag) ∧ w'.cell? ⟨b, o + k * 9 + 2, none⟩ = some (.bool hp.neg) ∧ w'.cell? ⟨b, o + k * 9 + 3, none⟩ = some (.string hp.dig) ∧ w'.cell? ⟨b, o + k * 9 + 4, none⟩ = some (.int .i64 hp.exp) ∧ w'.cell? ⟨b, o + k * 9 + 5, none⟩ = some (.int .u64 hp.bits) ∧ w'.cell? ⟨b, o + k * 9 + 6, none⟩ = some (.string hp.text) ∧ w'.cell? ⟨b, o + k * 9 + 7, none⟩ = some (.slice e1 e2 e3) ∧ w'.cell? ⟨b, o + k * 9 + 8, none⟩ = some (.slice e4 e5 e6) ∧ w'.cell? ⟨b', o' + k * 9, none⟩ = some (.int .i64 hq.kind) ∧ w'.cell? ⟨b', o' + k * 9 + 1, none⟩ = some (.bool hq.flag) ∧ w'.cell? ⟨b', o' + k * 9 + 2, none⟩ = some (.bool hq.neg) ∧ w'.cell? ⟨b', o' + k * 9 + 3, none⟩ = some (.string hq.dig) ∧ w'.cell? ⟨b', o' + k * 9 + 4, none⟩ = some (.int .i64 hq.exp) ∧ w'.cell? ⟨b', o' + k * 9 + 5, none⟩ = some (.int .u64 hq.bits) ∧ w'.cell? ⟨b', o' + k * 9 + 6, none⟩ = some (.string hq.text) ∧ w'.cell? ⟨b', o' + k * 9 + 7, none⟩ = some (.slice f1 f2 f3) ∧ w'.cell? ⟨b', o' + k * 9 + 8, none⟩ = some (.slice f4 f5 f6)) (first | exact mkS.out _ (by repeat (first | (with_reducible exact Hid.out (by assumption)) | (with_reducible refine EqTwo.drew ?_) | (with_reducible refine EqTwo.drewN _ ?_)))) (first | (go_at_call 30; refine (k2.out _ (EB.out _ (by repeat (first | (with_reducible exact Hid.out (by assumption)) | (with_reducible refine EqTwo.drew ?_) | (with_reducible refine EqTwo.drewN _ ?_))))).mono ?_; rintro e v1 ⟨rfl, hB1⟩; have T3 : Hid (EqTwo w h g (.slice an mn cn) (.slice (some ⟨b, o, none⟩) l.length cl) (.slice bn nn dn) (.slice (some ⟨b', o', none⟩) m.length dl) v1) := EqTwo.then (by repeat (first | (with_reducible exact Hid.out (by assumption)) | (with_reducible refine EqTwo.drew ?_) | (with_reducible refine EqTwo.drewN _ ?_))) hB1))
          go_wp2_with fail
          go_ret
          exact ⟨by rw [hfin.out]; first | rfl | simp, T3.out.below⟩
      · have hkmi : ¬ ((k : Int) < (m.length : Int)) := by omega
        have hlm : ¬ ((l.length : Int) < (m.length : Int)) := by omega
        have hfin := hide (show decide (lexL (cmpV n) l m = -1) = false by
          rw [hE.out, lex_end (cmpV n) (k := k) (by omega)]
          exact decide_eq_false (fun e => by rw [cmpI_lt] at e; omega))
        go_wp2_with fail
        go_ret
        exact ⟨by rw [hfin.out]; first | rfl | simp, hP.out.below⟩
    · have hki : ¬ ((k : Int) < (l.length : Int)) := by omega
      by_cases hlm : (l.length : Int) < (m.length : Int)
      · have hfin := hide (show decide (lexL (cmpV n) l m = -1) = true by
          rw [hE.out, lex_end (cmpV n) (k := k) (by omega)]
          exact decide_eq_true ((cmpI_lt _ _).2 hlm))
        go_wp2_with fail
        go_ret
        exact ⟨by rw [hfin.out]; first | rfl | simp, hP.out.below⟩
      · have hfin := hide (show decide (lexL (cmpV n) l m = -1) = false by
          rw [hE.out, lex_end (cmpV n) (k := k) (by omega)]
          exact decide_eq_false (fun e => by rw [cmpI_lt] at e; omega))
        go_wp2_with fail
        go_ret
        exact ⟨by rw [hfin.out]; first | rfl | simp, hP.out.below⟩
end Go.Proofs.YtemlpjnophijfaaDoor
