/- calamusref04.Less of records: walked, given what it answers of what is less deep. -/
import Derived.Test.YtemlpjnophijfaaDoorXlLess
namespace Go.Proofs.YtemlpjnophijfaaDoor
open Go.RowKit
set_option linter.unusedSimpArgs false
set_option linter.unusedVariables false
set_option maxHeartbeats 4000000 in
set_option maxRecDepth 100000 in
theorem less_8 (n : Nat) (ih : LessOk n) (h g : Hd) (l m : List (VT n)) (ns ls ns' ls' : Value) (w : World) (hx : RD (n + 1) w (h, l) ns ls) (hy : RD (n + 1) w (g, m) ns' ls') (vx : ∀ y ∈ l, VOk n y) (vy : ∀ y ∈ m, VOk n y) (hk : h.kind = 8) (gk : g.kind = 8) (hnl : h.names.length = l.length) (gnl : g.names.length = m.length) :
    Calls Tryd.prog 30 #[.agg (vals h ns ls), .agg (vals g ns' ls')] w fun e w' => e = .returned (.bool (decide (lexL (cmpP (cmpV n)) (h.names.zip l) (g.names.zip m) = -1))) ∧ Below w.heap.size w w' := by
  obtain ⟨al, cl, rfl, hl1, hl2⟩ := hx.len
  obtain ⟨an, cn, rfl, hn1, hn2⟩ := hx.1.len
  obtain ⟨bl', dl, rfl, hm1, hm2⟩ := hy.len
  obtain ⟨bn, dn, rfl, gn1, gn2⟩ := hy.1.len
  have ml : maxLen = 9223372036854775807 := rfl
  simp only at hl1 hl2 hm1 hm2 hn1 hn2 gn1 gn2
  have P0 := hide (two_new w h g (.slice an h.names.length cn) (.slice al l.length cl) (.slice bn g.names.length dn) (.slice bl' m.length dl))
  have P7 : Hid (EqTwo w h g (.slice an h.names.length cn) (.slice al l.length cl) (.slice bn g.names.length dn) (.slice bl' m.length dl) ((w.alloc (.cells #[.int .i64 8, .bool h.flag, .bool h.neg, .string h.dig, .int .i64 h.exp, .int .u64 h.bits, .string h.text, .slice an h.names.length cn, .slice al l.length cl] 29)).alloc (.cells #[.int .i64 8, .bool g.flag, .bool g.neg, .string g.dig, .int .i64 g.exp, .int .u64 g.bits, .string g.text, .slice bn g.names.length dn, .slice bl' m.length dl] 29))) := by have := P0.out; unfold vals at this; rw [hk, gk] at this; exact this
  replace hnl := hide hnl
  replace gnl := hide gnl
  replace hx := hide hx
  replace hy := hide hy
  replace ih := hide ih
  replace vx := hide vx
  replace vy := hide vy
  show Calls _ _ #[.agg #[.int .i64 h.kind, .bool h.flag, .bool h.neg, .string h.dig, .int .i64 h.exp, .int .u64 h.bits, .string h.text, .slice an h.names.length cn, .slice al l.length cl], .agg #[.int .i64 g.kind, .bool g.flag, .bool g.neg, .string g.dig, .int .i64 g.exp, .int .u64 g.bits, .string g.text, .slice bn g.names.length dn, .slice bl' m.length dl]] _ _
  rw [hk, gk]
  clear P0
  go_enter Tryd.func30, Tryd.ntmps30
  go_wp2_with fail
  go_loopw [5] (fun i w' => ∃ k : Nat, i = .int .i64 k ∧ k ≤ l.length ∧ k ≤ m.length ∧ Hid (lexL (cmpP (cmpV n)) (h.names.zip l) (g.names.zip m) = lexL (cmpP (cmpV n)) ((h.names.zip l).drop k) ((g.names.zip m).drop k)) ∧ Hid (EqTwo w h g (.slice an h.names.length cn) (.slice al l.length cl) (.slice bn g.names.length dn) (.slice bl' m.length dl) w')) (fun i _ => l.length - (intOf i).toNat)
  case atStart => exact ⟨0, rfl, Nat.zero_le _, Nat.zero_le _, rfl, P7.out⟩
  case round =>
    obtain ⟨k, rfl, hkl1, hkm1, hE, hP⟩ := hrel
    have c0 := hP.out.ba.cells.1
    have c7 := hP.out.ba.cells.2.2.2.2.2.2.2.1
    have d7 := hP.out.bb.cells.2.2.2.2.2.2.2.1
    have c8 := hP.out.ba.cells.2.2.2.2.2.2.2.2
    have d8 := hP.out.bb.cells.2.2.2.2.2.2.2.2
    rw [hk] at c0
    have hk63 : (k : Int) ≤ 9223372036854775807 := by omega
    by_cases hkl : k < l.length
    · have hki : (k : Int) < (l.length : Int) := by omega
      by_cases hkm : k < m.length
      · have hkmi : (k : Int) < (m.length : Int) := by omega
        have hk63 : (k : Int) < 9223372036854775807 := by omega
        obtain ⟨b, o, c, he, hbl, hlc, hcm, ns1, ls1, hrg, hrd⟩ := hx.out.at k hkl
        have he' := Value.slice.inj he
        obtain ⟨rfl, _, rfl⟩ := he'
        clear he
        obtain ⟨b', o', c', he, hbl', hlc', hcm', ns2, ls2, hrg', hrd'⟩ := hy.out.at k hkm
        have he' := Value.slice.inj he
        obtain ⟨rfl, _, rfl⟩ := he'
        clear he
        have hnk : k < h.names.length := by rw [hnl.out]; exact hkl
        have gnk : k < g.names.length := by rw [gnl.out]; exact hkm
        have hnki : (k : Int) < (h.names.length : Int) := by omega
        have gnki : (k : Int) < (g.names.length : Int) := by omega
        obtain ⟨nb, no, nc, he, nbl, _, _, hcell⟩ := hx.out.1.at k hnk
        have he' := Value.slice.inj he
        obtain ⟨rfl, _, rfl⟩ := he'
        clear he
        obtain ⟨nb', no', nc', he, nbl', _, _, hcell'⟩ := hy.out.1.at k gnk
        have he' := Value.slice.inj he
        obtain ⟨rfl, _, rfl⟩ := he'
        clear he
        have hcell := (hP.out.below.cell (p := ⟨nb, no + k, none⟩) nbl).trans hcell
        have hcell' := (hP.out.below.cell (p := ⟨nb', no' + k, none⟩) nbl').trans hcell'
        obtain ⟨sn, hsn⟩ : ∃ s, h.names[k] = s := ⟨_, rfl⟩
        obtain ⟨tn, htn⟩ : ∃ s, g.names[k] = s := ⟨_, rfl⟩
        simp only [hsn] at hcell
        simp only [htn] at hcell'
        obtain ⟨e1, e2, e3, e4, e5, e6, rfl, rfl⟩ := hrd.shape
        obtain ⟨f1, f2, f3, f4, f5, f6, rfl, rfl⟩ := hrd'.shape
        have vl := vx.out l[k] (List.getElem_mem _)
        have vm := vy.out m[k] (List.getElem_mem _)
        obtain ⟨Cv, hC⟩ : ∃ Cv, cmpV n l[k] m[k] = Cv := ⟨_, rfl⟩
        have hD : cmpV n m[k] l[k] = - Cv := by rw [← hC]; exact (ord_v n).rev _ _ vl.1 vm.1
        have hval : Cv = -1 ∨ Cv = 0 ∨ Cv = 1 := by rw [← hC]; exact (ord_v n).val _ _
        have hst := lex_step (cmpP (cmpV n)) (l := h.names.zip l) (m := g.names.zip m) (k := k) (by rw [List.length_zip]; omega) (by rw [List.length_zip]; omega)
        rw [List.getElem_zip, List.getElem_zip, hsn, htn] at hst
        have hpp : cmpP (cmpV n) (sn, l[k]) (tn, m[k]) = if cmpB sn tn = 0 then Cv else cmpB sn tn := by unfold cmpP; rw [hC]
        rw [hpp] at hst
        have k1 := hide (fun W (hb : Below w.heap.size w W) => ih.out l[k] m[k] _ _ _ _ W (hrd.below hb) (hrd'.below hb) vl vm)
        have k2 := hide (fun W (hb : Below w.heap.size w W) => ih.out m[k] l[k] _ _ _ _ W (hrd'.below hb) (hrd.below hb) vm vl)
        rw [hC] at k1
        rw [hD] at k2
        obtain ⟨hp, hhp⟩ : ∃ hp, vhd n l[k] = hp := ⟨_, rfl⟩
        obtain ⟨hq, hhq⟩ : ∃ hq, vhd n m[k] = hq := ⟨_, rfl⟩
        rw [hhp, hhq] at k1 k2
        have mkS : Hid (∀ w', EqTwo w h g (.slice (some ⟨nb, no, none⟩) h.names.length cn) (.slice (some ⟨b, o, none⟩) l.length cl) (.slice (some ⟨nb', no', none⟩) g.names.length dn) (.slice (some ⟨b', o', none⟩) m.length dl) w' → w'.cell? ⟨w.heap.size, 8, none⟩ = some (.slice (some ⟨b, o, none⟩) l.length cl) ∧ w'.cell? ⟨w.heap.size + 1, 8, none⟩ = some (.slice (some ⟨b', o', none⟩) m.length dl) ∧ w'.cell? ⟨b, o + k * 9, none⟩ = some (.int .i64 hp.kind) ∧ w'.cell? ⟨b, o + k * 9 + 1, none⟩ = some (.bool hp.flag) ∧ w'.cell? ⟨b, o + k * 9 + 2, none⟩ = some (.bool hp.neg) ∧ w'.cell? ⟨b, o + k * 9 + 3, none⟩ = some (.string hp.dig) ∧ w'.cell? ⟨b, o + k * 9 + 4, none⟩ = some (.int .i64 hp.exp) ∧ w'.cell? ⟨b, o + k * 9 + 5, none⟩ = some (.int .u64 hp.bits) ∧ w'.cell? ⟨b, o + k * 9 + 6, none⟩ = some (.string hp.text) ∧ w'.cell? ⟨b, o + k * 9 + 7, none⟩ = some (.slice e1 e2 e3) ∧ w'.cell? ⟨b, o + k * 9 + 8, none⟩ = some (.slice e4 e5 e6) ∧ w'.cell? ⟨b', o' + k * 9, none⟩ = some (.int .i64 hq.kind) ∧ w'.cell? ⟨b', o' + k * 9 + 1, none⟩ = some (.bool hq.flag) ∧ w'.cell? ⟨b', o' + k * 9 + 2, none⟩ = some (.bool hq.neg) ∧ w'.cell? ⟨b', o' + k * 9 + 3, none⟩ = some (.string hq.dig) ∧ w'.cell? ⟨b', o' + k * 9 + 4, none⟩ = some (.int .i64 hq.exp) ∧ w'.cell? ⟨b', o' + k * 9 + 5, none⟩ = some (.int .u64 hq.bits) ∧ w'.cell? ⟨b', o' + k * 9 + 6, none⟩ = some (.string hq.text) ∧ w'.cell? ⟨b', o' + k * 9 + 7, none⟩ = some (.slice f1 f2 f3) ∧ w'.cell? ⟨b', o' + k * 9 + 8, none⟩ = some (.slice f4 f5 f6)) := fun w' q => by
          have R1 := rangeAt_below hrg q.below hbl
          have R2 := rangeAt_below hrg' q.below hbl'
          replace R1 : w'.rangeAt b (o + k * 9) (vals hp (.slice e1 e2 e3) (.slice e4 e5 e6)).toList := hhp ▸ R1
          replace R2 : w'.rangeAt b' (o' + k * 9) (vals hq (.slice f1 f2 f3) (.slice f4 f5 f6)).toList := hhq ▸ R2
          obtain ⟨x0, x1, x2, x3, x4, x5, x6, x7, x8⟩ := range9 R1
          obtain ⟨y0, y1, y2, y3, y4, y5, y6, y7, y8⟩ := range9 R2
          exact ⟨q.ba.cells.2.2.2.2.2.2.2.2, q.bb.cells.2.2.2.2.2.2.2.2, x0, x1, x2, x3, x4, x5, x6, x7, x8, y0, y1, y2, y3, y4, y5, y6, y7, y8⟩
        have EB : Hid (∀ W, EqTwo w h g (.slice (some ⟨nb, no, none⟩) h.names.length cn) (.slice (some ⟨b, o, none⟩) l.length cl) (.slice (some ⟨nb', no', none⟩) g.names.length dn) (.slice (some ⟨b', o', none⟩) m.length dl) W → Below w.heap.size w W) := fun W q => q.below
        obtain ⟨_, _, x0, x1, x2, x3, x4, x5, x6, x7, x8, y0, y1, y2, y3, y4, y5, y6, y7, y8⟩ := mkS.out wr hP.out
        have hE2 := hide (hE.out.trans hst)
        by_cases hsx : sn = tn
        case neg =>
          have hb0 : ¬ cmpB sn tn = 0 := fun e => hsx ((cmpB_zero _ _).1 e)
          rw [if_neg hb0, if_neg hb0] at hst
          have hfin := hide (show decide (lexL (cmpP (cmpV n)) (h.names.zip l) (g.names.zip m) = -1) = Op.bytesLess sn.toList tn.toList by
            rw [hE.out, hst]
            cases hq : Op.bytesLess sn.toList tn.toList
            · rw [decide_eq_false]; intro e; rw [(cmpB_lt _ _).1 e] at hq; cases hq
            · rw [decide_eq_true]; exact (cmpB_lt _ _).2 hq)
          have hs2 : decide (sn = tn) = false := decide_eq_false hsx
          have hs3 := ba_ne hsx
          clear hb0 hE2 hpp hst hval hC hD hsn htn hrg hrg' hrd hrd' vl vm k1 k2 mkS EB
          go_wp2_with fail
          go_quiet (fail)
          go_wp2_with fail
          go_quiet (fail)
          go_wp2_with fail
          go_ret
          exact ⟨by rw [hfin.out]; first | rfl | simp, by first | exact below_dn (below_dn hP.out.below _) _ | exact below_dn hP.out.below _⟩
        case pos =>
        rw [if_pos ((cmpB_zero _ _).2 hsx)] at hst
        subst hsx
        have hE2 := hide (hE.out.trans hst)
        clear hpp hsn htn
        clear hC hD hst hrg hrg' hrd hrd' hhp hhq vl vm hE
        rcases hval with rfl | rfl | rfl
        · have hfin := hide (show decide (lexL (cmpP (cmpV n)) (h.names.zip l) (g.names.zip m) = -1) = true by rw [hE2.out, if_neg (by decide)]; decide)
          go_wp2_with fail
          go_quiet (fail)
          go_wp2_with fail
          go_region_held3 (fun w' => w'.cell? ⟨w.heap.size, 8, none⟩ = some (.slice (some ⟨b, o, none⟩) l.length cl) ∧ w'.cell? ⟨w.heap.size + 1, 8, none⟩ = some (.slice (some ⟨b', o', none⟩) m.length dl) ∧ w'.cell? ⟨b, o + k * 9, none⟩ = some (.int .i64 hp.kind) ∧ w'.cell? ⟨b, o + k * 9 + 1, none⟩ = some (.bool hp.flag) ∧ w'.cell? ⟨b, o + k * 9 + 2, none⟩ = some (.bool hp.neg) ∧ w'.cell? ⟨b, o + k * 9 + 3, none⟩ = some (.string hp.dig) ∧ w'.cell? ⟨b, o + k * 9 + 4, none⟩ = some (.int .i64 hp.exp) ∧ w'.cell? ⟨b, o + k * 9 + 5, none⟩ = some (.int .u64 hp.bits) ∧ w'.cell? ⟨b, o + k * 9 + 6, none⟩ = some (.string hp.text) ∧ w'.cell? ⟨b, o + k * 9 + 7, none⟩ = some (.slice e1 e2 e3) ∧ w'.cell? ⟨b, o + k * 9 + 8, none⟩ = some (.slice e4 e5 e6) ∧ w'.cell? ⟨b', o' + k * 9, none⟩ = some (.int .i64 hq.kind) ∧ w'.cell? ⟨b', o' + k * 9 + 1, none⟩ = some (.bool hq.flag) ∧ w'.cell? ⟨b', o' + k * 9 + 2, none⟩ = some (.bool hq.neg) ∧ w'.cell? ⟨b', o' + k * 9 + 3, none⟩ = some (.string hq.dig) ∧ w'.cell? ⟨b', o' + k * 9 + 4, none⟩ = some (.int .i64 hq.exp) ∧ w'.cell? ⟨b', o' + k * 9 + 5, none⟩ = some (.int .u64 hq.bits) ∧ w'.cell? ⟨b', o' + k * 9 + 6, none⟩ = some (.string hq.text) ∧ w'.cell? ⟨b', o' + k * 9 + 7, none⟩ = some (.slice f1 f2 f3) ∧ w'.cell? ⟨b', o' + k * 9 + 8, none⟩ = some (.slice f4 f5 f6)) (first | exact mkS.out _ (by repeat (first | (with_reducible exact Hid.out (by assumption)) | (with_reducible refine EqTwo.drew ?_) | (with_reducible refine EqTwo.drewN _ ?_)))) (first | (go_at_call 30; refine (k1.out _ (EB.out _ (by repeat (first | (with_reducible exact Hid.out (by assumption)) | (with_reducible refine EqTwo.drew ?_) | (with_reducible refine EqTwo.drewN _ ?_))))).mono ?_; rintro e v1 ⟨rfl, hB1⟩; have T3 : Hid (EqTwo w h g (.slice (some ⟨nb, no, none⟩) h.names.length cn) (.slice (some ⟨b, o, none⟩) l.length cl) (.slice (some ⟨nb', no', none⟩) g.names.length dn) (.slice (some ⟨b', o', none⟩) m.length dl) v1) := EqTwo.then (by repeat (first | (with_reducible exact Hid.out (by assumption)) | (with_reducible refine EqTwo.drew ?_) | (with_reducible refine EqTwo.drewN _ ?_))) hB1))
          go_wp2_with fail
          go_ret
          exact ⟨by rw [hfin.out]; first | rfl | simp, T3.out.below⟩
        · have hE3 := hide (hE2.out.trans (if_pos rfl))
          go_wp2_with fail
          go_quiet (fail)
          go_wp2_with fail
          go_region_held3 (fun w' => w'.cell? ⟨w.heap.size, 8, none⟩ = some (.slice (some ⟨b, o, none⟩) l.length cl) ∧ w'.cell? ⟨w.heap.size + 1, 8, none⟩ = some (.slice (some ⟨b', o', none⟩) m.length dl) ∧ w'.cell? ⟨b, o + k * 9, none⟩ = some (.int .i64 hp.kind) ∧ w'.cell? ⟨b, o + k * 9 + 1, none⟩ = some (.bool hp.flag) ∧ w'.cell? ⟨b, o + k * 9 + 2, none⟩ = some (.bool hp.neg) ∧ w'.cell? ⟨b, o + k * 9 + 3, none⟩ = some (.string hp.dig) ∧ w'.cell? ⟨b, o + k * 9 + 4, none⟩ = some (.int .i64 hp.exp) ∧ w'.cell? ⟨b, o + k * 9 + 5, none⟩ = some (.int .u64 hp.bits) ∧ w'.cell? ⟨b, o + k * 9 + 6, none⟩ = some (.string hp.text) ∧ w'.cell? ⟨b, o + k * 9 + 7, none⟩ = some (.slice e1 e2 e3) ∧ w'.cell? ⟨b, o + k * 9 + 8, none⟩ = some (.slice e4 e5 e6) ∧ w'.cell? ⟨b', o' + k * 9, none⟩ = some (.int .i64 hq.kind) ∧ w'.cell? ⟨b', o' + k * 9 + 1, none⟩ = some (.bool hq.flag) ∧ w'.cell? ⟨b', o' + k * 9 + 2, none⟩ = some (.bool hq.neg) ∧ w'.cell? ⟨b', o' + k * 9 + 3, none⟩ = some (.string hq.dig) ∧ w'.cell? ⟨b', o' + k * 9 + 4, none⟩ = some (.int .i64 hq.exp) ∧ w'.cell? ⟨b', o' + k * 9 + 5, none⟩ = some (.int .u64 hq.bits) ∧ w'.cell? ⟨b', o' + k * 9 + 6, none⟩ = some (.string hq.text) ∧ w'.cell? ⟨b', o' + k * 9 + 7, none⟩ = some (.slice f1 f2 f3) ∧ w'.cell? ⟨b', o' + k * 9 + 8, none⟩ = some (.slice f4 f5 f6)) (first | exact mkS.out _ (by repeat (first | (with_reducible exact Hid.out (by assumption)) | (with_reducible refine EqTwo.drew ?_) | (with_reducible refine EqTwo.drewN _ ?_)))) (first | (go_at_call 30; refine (k1.out _ (EB.out _ (by repeat (first | (with_reducible exact Hid.out (by assumption)) | (with_reducible refine EqTwo.drew ?_) | (with_reducible refine EqTwo.drewN _ ?_))))).mono ?_; rintro e v1 ⟨rfl, hB1⟩; have T3 : Hid (EqTwo w h g (.slice (some ⟨nb, no, none⟩) h.names.length cn) (.slice (some ⟨b, o, none⟩) l.length cl) (.slice (some ⟨nb', no', none⟩) g.names.length dn) (.slice (some ⟨b', o', none⟩) m.length dl) v1) := EqTwo.then (by repeat (first | (with_reducible exact Hid.out (by assumption)) | (with_reducible refine EqTwo.drew ?_) | (with_reducible refine EqTwo.drewN _ ?_))) hB1))
          clear x0 x1 x2 x3 x4 x5 x6 x7 x8 y0 y1 y2 y3 y4 y5 y6 y7 y8
          obtain ⟨_, _, x0, x1, x2, x3, x4, x5, x6, x7, x8, y0, y1, y2, y3, y4, y5, y6, y7, y8⟩ := mkS.out _ T3.out
          go_wp2_with fail
          go_region_held3 (fun w' => w'.cell? ⟨w.heap.size, 8, none⟩ = some (.slice (some ⟨b, o, none⟩) l.length cl) ∧ w'.cell? ⟨w.heap.size + 1, 8, none⟩ = some (.slice (some ⟨b', o', none⟩) m.length dl) ∧ w'.cell? ⟨b, o + k * 9, none⟩ = some (.int .i64 hp.kind) ∧ w'.cell? ⟨b, o + k * 9 + 1, none⟩ = some (.bool hp.flag) ∧ w'.cell? ⟨b, o + k * 9 + 2, none⟩ = some (.bool hp.neg) ∧ w'.cell? ⟨b, o + k * 9 + 3, none⟩ = some (.string hp.dig) ∧ w'.cell? ⟨b, o + k * 9 + 4, none⟩ = some (.int .i64 hp.exp) ∧ w'.cell? ⟨b, o + k * 9 + 5, none⟩ = some (.int .u64 hp.bits) ∧ w'.cell? ⟨b, o + k * 9 + 6, none⟩ = some (.string hp.text) ∧ w'.cell? ⟨b, o + k * 9 + 7, none⟩ = some (.slice e1 e2 e3) ∧ w'.cell? ⟨b, o + k * 9 + 8, none⟩ = some (.slice e4 e5 e6) ∧ w'.cell? ⟨b', o' + k * 9, none⟩ = some (.int .i64 hq.kind) ∧ w'.cell? ⟨b', o' + k * 9 + 1, none⟩ = some (.bool hq.flag) ∧ w'.cell? ⟨b', o' + k * 9 + 2, none⟩ = some (.bool hq.neg) ∧ w'.cell? ⟨b', o' + k * 9 + 3, none⟩ = some (.string hq.dig) ∧ w'.cell? ⟨b', o' + k * 9 + 4, none⟩ = some (.int .i64 hq.exp) ∧ w'.cell? ⟨b', o' + k * 9 + 5, none⟩ = some (.int .u64 hq.bits) ∧ w'.cell? ⟨b', o' + k * 9 + 6, none⟩ = some (.string hq.text) ∧ w'.cell? ⟨b', o' + k * 9 + 7, none⟩ = some (.slice f1 f2 f3) ∧ w'.cell? ⟨b', o' + k * 9 + 8, none⟩ = some (.slice f4 f5 f6)) (first | exact mkS.out _ (by repeat (first | (with_reducible exact Hid.out (by assumption)) | (with_reducible refine EqTwo.drew ?_) | (with_reducible refine EqTwo.drewN _ ?_)))) (first | (go_at_call 30; refine (k2.out _ (EB.out _ (by repeat (first | (with_reducible exact Hid.out (by assumption)) | (with_reducible refine EqTwo.drew ?_) | (with_reducible refine EqTwo.drewN _ ?_))))).mono ?_; rintro e v1 ⟨rfl, hB1⟩; have T3 : Hid (EqTwo w h g (.slice (some ⟨nb, no, none⟩) h.names.length cn) (.slice (some ⟨b, o, none⟩) l.length cl) (.slice (some ⟨nb', no', none⟩) g.names.length dn) (.slice (some ⟨b', o', none⟩) m.length dl) v1) := EqTwo.then (by repeat (first | (with_reducible exact Hid.out (by assumption)) | (with_reducible refine EqTwo.drew ?_) | (with_reducible refine EqTwo.drewN _ ?_))) hB1))
          go_wp2_with fail
          exact ⟨⟨k + 1, by go_num, by omega, by omega, hE3.out, T3.out⟩, by simp [intOf]; omega⟩
        · have hfin := hide (show decide (lexL (cmpP (cmpV n)) (h.names.zip l) (g.names.zip m) = -1) = false by rw [hE2.out, if_neg (by decide)]; decide)
          go_wp2_with fail
          go_quiet (fail)
          go_wp2_with fail
          go_region_held3 (fun w' => w'.cell? ⟨w.heap.size, 8, none⟩ = some (.slice (some ⟨b, o, none⟩) l.length cl) ∧ w'.cell? ⟨w.heap.size + 1, 8, none⟩ = some (.slice (some ⟨b', o', none⟩) m.length dl) ∧ w'.cell? ⟨b, o + k * 9, none⟩ = some (.int .i64 hp.kind) ∧ w'.cell? ⟨b, o + k * 9 + 1, none⟩ = some (.bool hp.flag) ∧ w'.cell? ⟨b, o + k * 9 + 2, none⟩ = some (.bool hp.neg) ∧ w'.cell? ⟨b, o + k * 9 + 3, none⟩ = some (.string hp.dig) ∧ w'.cell? ⟨b, o + k * 9 + 4, none⟩ = some (.int .i64 hp.exp) ∧ w'.cell? ⟨b, o + k * 9 + 5, none⟩ = some (.int .u64 hp.bits) ∧ w'.cell? ⟨b, o + k * 9 + 6, none⟩ = some (.string hp.text) ∧ w'.cell? ⟨b, o + k * 9 + 7, none⟩ = some (.slice e1 e2 e3) ∧ w'.cell? ⟨b, o + k * 9 + 8, none⟩ = some (.slice e4 e5 e6) ∧ w'.cell? ⟨b', o' + k * 9, none⟩ = some (.int .i64 hq.kind) ∧ w'.cell? ⟨b', o' + k * 9 + 1, none⟩ = some (.bool hq.flag) ∧ w'.cell? ⟨b', o' + k * 9 + 2, none⟩ = some (.bool hq.neg) ∧ w'.cell? ⟨b', o' + k * 9 + 3, none⟩ = some (.string hq.dig) ∧ w'.cell? ⟨b', o' + k * 9 + 4, none⟩ = some (.int .i64 hq.exp) ∧ w'.cell? ⟨b', o' + k * 9 + 5, none⟩ = some (.int .u64 hq.bits) ∧ w'.cell? ⟨b', o' + k * 9 + 6, none⟩ = some (.string hq.text) ∧ w'.cell? ⟨b', o' + k * 9 + 7, none⟩ = some (.slice f1 f2 f3) ∧ w'.cell? ⟨b', o' + k * 9 + 8, none⟩ = some (.slice f4 f5 f6)) (first | exact mkS.out _ (by repeat (first | (with_reducible exact Hid.out (by assumption)) | (with_reducible refine EqTwo.drew ?_) | (with_reducible refine EqTwo.drewN _ ?_)))) (first | (go_at_call 30; refine (k1.out _ (EB.out _ (by repeat (first | (with_reducible exact Hid.out (by assumption)) | (with_reducible refine EqTwo.drew ?_) | (with_reducible refine EqTwo.drewN _ ?_))))).mono ?_; rintro e v1 ⟨rfl, hB1⟩; have T3 : Hid (EqTwo w h g (.slice (some ⟨nb, no, none⟩) h.names.length cn) (.slice (some ⟨b, o, none⟩) l.length cl) (.slice (some ⟨nb', no', none⟩) g.names.length dn) (.slice (some ⟨b', o', none⟩) m.length dl) v1) := EqTwo.then (by repeat (first | (with_reducible exact Hid.out (by assumption)) | (with_reducible refine EqTwo.drew ?_) | (with_reducible refine EqTwo.drewN _ ?_))) hB1))
          clear x0 x1 x2 x3 x4 x5 x6 x7 x8 y0 y1 y2 y3 y4 y5 y6 y7 y8
          obtain ⟨_, _, x0, x1, x2, x3, x4, x5, x6, x7, x8, y0, y1, y2, y3, y4, y5, y6, y7, y8⟩ := mkS.out _ T3.out
          go_wp2_with fail
          go_region_held3 (fun w' => w'.cell? ⟨w.heap.size, 8, none⟩ = some (.slice (some ⟨b, o, none⟩) l.length cl) ∧ w'.cell? ⟨w.heap.size + 1, 8, none⟩ = some (.slice (some ⟨b', o', none⟩) m.length dl) ∧ w'.cell? ⟨b, o + k * 9, none⟩ = some (.int .i64 hp.kind) ∧ w'.cell? ⟨b, o + k * 9 + 1, none⟩ = some (.bool hp.flag) ∧ w'.cell? ⟨b, o + k * 9 + 2, none⟩ = some (.bool hp.neg) ∧ w'.cell? ⟨b, o + k * 9 + 3, none⟩ = some (.string hp.dig) ∧ w'.cell? ⟨b, o + k * 9 + 4, none⟩ = some (.int .i64 hp.exp) ∧ w'.cell? ⟨b, o + k * 9 + 5, none⟩ = some (.int .u64 hp.bits) ∧ w'.cell? ⟨b, o + k * 9 + 6, none⟩ = some (.string hp.text) ∧ w'.cell? ⟨b, o + k * 9 + 7, none⟩ = some (.slice e1 e2 e3) ∧ w'.cell? ⟨b, o + k * 9 + 8, none⟩ = some (.slice e4 e5 e6) ∧ w'.cell? ⟨b', o' + k * 9, none⟩ = some (.int .i64 hq.kind) ∧ w'.cell? ⟨b', o' + k * 9 + 1, none⟩ = some (.bool hq.flag) ∧ w'.cell? ⟨b', o' + k * 9 + 2, none⟩ = some (.bool hq.neg) ∧ w'.cell? ⟨b', o' + k * 9 + 3, none⟩ = some (.string hq.dig) ∧ w'.cell? ⟨b', o' + k * 9 + 4, none⟩ = some (.int .i64 hq.exp) ∧ w'.cell? ⟨b', o' + k * 9 + 5, none⟩ = some (.int .u64 hq.bits) ∧ w'.cell? ⟨b', o' + k * 9 + 6, none⟩ = some (.string hq.text) ∧ w'.cell? ⟨b', o' + k * 9 + 7, none⟩ = some (.slice f1 f2 f3) ∧ w'.cell? ⟨b', o' + k * 9 + 8, none⟩ = some (.slice f4 f5 f6)) (first | exact mkS.out _ (by repeat (first | (with_reducible exact Hid.out (by assumption)) | (with_reducible refine EqTwo.drew ?_) | (with_reducible refine EqTwo.drewN _ ?_)))) (first | (go_at_call 30; refine (k2.out _ (EB.out _ (by repeat (first | (with_reducible exact Hid.out (by assumption)) | (with_reducible refine EqTwo.drew ?_) | (with_reducible refine EqTwo.drewN _ ?_))))).mono ?_; rintro e v1 ⟨rfl, hB1⟩; have T3 : Hid (EqTwo w h g (.slice (some ⟨nb, no, none⟩) h.names.length cn) (.slice (some ⟨b, o, none⟩) l.length cl) (.slice (some ⟨nb', no', none⟩) g.names.length dn) (.slice (some ⟨b', o', none⟩) m.length dl) v1) := EqTwo.then (by repeat (first | (with_reducible exact Hid.out (by assumption)) | (with_reducible refine EqTwo.drew ?_) | (with_reducible refine EqTwo.drewN _ ?_))) hB1))
          go_wp2_with fail
          go_ret
          exact ⟨by rw [hfin.out]; first | rfl | simp, T3.out.below⟩
      · have hkmi : ¬ ((k : Int) < (m.length : Int)) := by omega
        have hlm : ¬ ((l.length : Int) < (m.length : Int)) := by omega
        have hfin := hide (show decide (lexL (cmpP (cmpV n)) (h.names.zip l) (g.names.zip m) = -1) = false by
          rw [hE.out, lex_end (cmpP (cmpV n)) (k := k) (by rw [List.length_zip, List.length_zip]; have := hnl.out; have := gnl.out; omega), List.length_zip, List.length_zip, hnl.out, gnl.out, Nat.min_self, Nat.min_self]
          exact decide_eq_false (fun e => by rw [cmpI_lt] at e; omega))
        go_wp2_with fail
        go_ret
        exact ⟨by rw [hfin.out]; first | rfl | simp, hP.out.below⟩
    · have hki : ¬ ((k : Int) < (l.length : Int)) := by omega
      by_cases hlm : (l.length : Int) < (m.length : Int)
      · have hfin := hide (show decide (lexL (cmpP (cmpV n)) (h.names.zip l) (g.names.zip m) = -1) = true by
          rw [hE.out, lex_end (cmpP (cmpV n)) (k := k) (by rw [List.length_zip, List.length_zip]; have := hnl.out; have := gnl.out; omega), List.length_zip, List.length_zip, hnl.out, gnl.out, Nat.min_self, Nat.min_self]
          exact decide_eq_true ((cmpI_lt _ _).2 hlm))
        go_wp2_with fail
        go_ret
        exact ⟨by rw [hfin.out]; first | rfl | simp, hP.out.below⟩
      · have hfin := hide (show decide (lexL (cmpP (cmpV n)) (h.names.zip l) (g.names.zip m) = -1) = false by
          rw [hE.out, lex_end (cmpP (cmpV n)) (k := k) (by rw [List.length_zip, List.length_zip]; have := hnl.out; have := gnl.out; omega), List.length_zip, List.length_zip, hnl.out, gnl.out, Nat.min_self, Nat.min_self]
          exact decide_eq_false (fun e => by rw [cmpI_lt] at e; omega))
        go_wp2_with fail
        go_ret
        exact ⟨by rw [hfin.out]; first | rfl | simp, hP.out.below⟩
end Go.Proofs.YtemlpjnophijfaaDoor
