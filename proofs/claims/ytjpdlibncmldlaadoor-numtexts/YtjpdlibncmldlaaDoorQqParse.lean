/- calamusref01's Parse: walked, texts with no sign. -/
import Derived.Test.YtjpdlibncmldlaaDoorQpParse
namespace Go.Proofs.YtjpdlibncmldlaaDoor
open Go.RowKit
set_option linter.unusedSimpArgs false
set_option linter.unusedVariables false
set_option maxRecDepth 100000 in
set_option maxHeartbeats 4000000 in
theorem rparse_nil (w : World) :
    Calls Tryd.prog 11 #[.string (mkB [])] w fun e w' => e = retF (parseR []) ∧ Below w.heap.size w w' := by
  have he : mkB [] = ⟨#[]⟩ := rfl
  rw [he]
  have F0 := hide (fin_new w)
  have hpr := hide (show parseR [] = (false, ⟨#[]⟩, 0, 10) from rfl)
  go_enter Tryd.func11, Tryd.ntmps11
  go_wp2_with fail
  go_fit (rcut_any ⟨#[]⟩ _ (by show 0 ≤ _; omega))
  rintro e w5 ⟨rfl, hb5⟩
  have F5 := hide (F0.out.then hb5)
  clear hb5
  rw [show mkB ((bl ⟨#[]⟩).takeWhile isDig) = ⟨#[]⟩ from rfl, show mkB ((bl ⟨#[]⟩).dropWhile isDig) = ⟨#[]⟩ from rfl]
  obtain ⟨z0, z1, z2, y0, y1, y2⟩ := F5.out.box.cells
  obtain ⟨r0, r1, r2, _, _, _⟩ := (F5.out.box.set (n' := false) (s' := ⟨#[]⟩) (x' := 0)).cells
  go_wp2
  refine bodyPost_ret (v := .tuple #[.agg #[.bool false, .string ⟨#[]⟩, .int .i64 0], .int .i64 10]) (by simp [results, Tryd.results11, go_sem, r0, r1, r2]) rfl ⟨by rw [hpr.out]; rfl, ?_⟩
  iterate 3 refine Below.setCell ?_ (by show w.heap.size ≤ w.heap.size; omega) _
  exact F5.out.below
set_option maxRecDepth 100000 in
set_option maxHeartbeats 4000000 in
theorem rparse_cons (b : UInt8) (r : List UInt8) (w : World) (hl : (b :: r).length ≤ 80000) (hb : hdB 45 (b :: r) = false) :
    Calls Tryd.prog 11 #[.string (mkB (b :: r))] w fun e w' => e = retF (parseR (b :: r)) ∧ Below w.heap.size w w' := by
  have hsz : (mkB (b :: r)).size = (b :: r).length := mkB_size _
  have hbn : ((b.toNat : Int) == 45) = false := by
    cases hq : ((b.toNat : Int) == 45)
    · rfl
    · have q : b.toNat = 45 := by have := eq_of_beq hq; omega
      have : b = 45 := UInt8.toNat_inj.1 q
      subst this; cases hb
  have hpos : 0 < (b :: r).length := by rw [List.length_cons]; omega
  have htl : tlB 45 (b :: r) = b :: r := by unfold tlB; rw [hb]; rfl
  have hex : ∃ hs : 0 < (mkB (b :: r)).size, (mkB (b :: r))[0]'hs = b := ⟨by omega, get0_mkB b r _⟩
  obtain ⟨L, hL⟩ : ∃ L, b :: r = L := ⟨_, rfl⟩
  rw [hL] at hsz hb hpos htl hex hl ⊢
  clear hL
  obtain ⟨hs0, hg'⟩ := hex
  have hSL : Hid (splitL L = if badW (L.takeWhile isDig) then none
      else if hdB 46 (L.dropWhile isDig) then (if ((tlB 46 (L.dropWhile isDig)).takeWhile isDig).isEmpty then none else splitT false (L.takeWhile isDig) ((tlB 46 (L.dropWhile isDig)).takeWhile isDig) ((tlB 46 (L.dropWhile isDig)).dropWhile isDig))
      else splitT false (L.takeWhile isDig) [] (L.dropWhile isDig)) := by
    unfold Hid splitL
    rw [htl, hb]
  have h0 : (0 : Int) < (mkB L).size := by omega
  have h0' : (0 : Int) < L.length := by omega
  have F0 := hide (fin_new w)
  clear hb htl
  go_enter Tryd.func11, Tryd.ntmps11
  go_wp2_with fail
  go_fit (rcut_any (mkB L) _ (by rw [mkB_size]; omega))
  rw [bl_mkB]
  rintro e w5 ⟨rfl, hb5⟩
  have F5 := hide (F0.out.then hb5)
  clear hb5
  have lw := takeWhile_len L
  have lr := dropWhile_len L
  have hwd := hide (allD_tw L)
  obtain ⟨wh, hwh⟩ : ∃ wh, L.takeWhile isDig = wh := ⟨_, rfl⟩
  obtain ⟨R1, hR1⟩ : ∃ R1, L.dropWhile isDig = R1 := ⟨_, rfl⟩
  rw [hwh, hR1] at hSL
  rw [hwh] at lw hwd
  rw [hR1] at lr
  rw [hwh, hR1]
  have me := mkB_isEmpty wh
  have sw : (mkB wh).size = wh.length := mkB_size wh
  have s1 : (mkB R1).size = R1.length := mkB_size R1
  clear hwh hR1
  cases hbad : badW wh
  · -- the whole part is as it should be
    have hSL2 := hide (hSL.out.trans (if_neg (by rw [hbad]; simp)))
    have hne : wh.isEmpty = false := by
      cases hq : wh.isEmpty
      · rfl
      · unfold badW at hbad; rw [hq] at hbad; simp at hbad
    rw [hne] at me
    have hw0 : 0 < wh.length := by
      cases wh with
      | nil => cases hne
      | cons => simp
    have hlead : ¬ (1 < wh.length ∧ ((mkB wh)[0]'(by omega)).toNat = 48) := by
      rintro ⟨q1, q2⟩
      have hh : wh.head? = some 48 := by
        cases wh with
        | nil => cases hne
        | cons c r =>
          have := get0_mkB c r (by omega)
          rw [this] at q2
          have : c = 48 := UInt8.toNat_inj.1 q2
          rw [this]; rfl
      unfold badW at hbad
      rw [hh] at hbad
      simp [q1] at hbad
    have hw0i : (0 : Int) < (mkB wh).size := by omega
    obtain ⟨q0, hq0⟩ : ∃ q0 : Nat, ((mkB wh)[0]'(by omega)).toNat = q0 := ⟨_, rfl⟩
    rw [hq0] at hlead
    have hw1 : ((1 : Int) < (wh.length : Int) ∧ ((q0 : Int) == 48) = false) ∨ ¬ (1 : Int) < (wh.length : Int) := by
      by_cases q : 1 < wh.length
      · left
        refine ⟨by omega, ?_⟩
        have : q0 ≠ 48 := fun e => hlead ⟨q, e⟩
        simp; omega
      · right; omega
    clear hbad hlead
    cases hdot : hdB 46 R1
    · -- no point
      have hSplit := hide (hSL2.out.trans (if_neg (by rw [hdot]; simp)))
      obtain ⟨R2, hR2⟩ : ∃ R2, R1 = R2 := ⟨_, rfl⟩
      rw [hR2] at hSplit hdot s1 lr ⊢
      clear hR2
      have F7 := F5
      cases R2 with
      | nil =>
        have he : mkB [] = ⟨#[]⟩ := rfl
        rw [he]
        rcases hw1 with ⟨a1, a2⟩ | a1
        all_goals
          go_wp2_with fail
          go_fit (rexp_nil _)
          rintro e w8 ⟨rfl, hb8⟩
          have F8 := hide (F7.out.then hb8)
          clear hb8
          have hSp2 := hide (hSplit.out.trans (show splitT false wh [] [] = some (false, wh, [], false, []) from rfl))
          obtain ⟨v, hv⟩ : ∃ v : Int, powB false [] = v := ⟨_, rfl⟩
          have hv0 : (0 : Int) = v := hv
          rw [hv0]
          have hpb1 : -1000000 ≤ v := by omega
          have hpb2 : v ≤ 1000000 := by omega
          clear hv0
          by_cases hbig : 512 < L.length
          · have hpr := hide (show parseR L = (false, ⟨#[]⟩, 0, 2) by unfold parseR; rw [hSp2.out]; exact if_pos hbig)
            have hbig' : (512 : Int) < L.length := by omega
            skip
            obtain ⟨z0, z1, z2, y0, y1, y2⟩ := F8.out.box.cells
            obtain ⟨r0, r1, r2, _, _, _⟩ := (F8.out.box.set (n' := false) (s' := ⟨#[]⟩) (x' := 0)).cells
            go_wp2
            refine bodyPost_ret (v := .tuple #[.agg #[.bool false, .string ⟨#[]⟩, .int .i64 0], .int .i64 2]) (by simp [results, Tryd.results11, go_sem, r0, r1, r2]) rfl ⟨by rw [hpr.out]; rfl, ?_⟩
            iterate 3 refine Below.setCell ?_ (by show w.heap.size ≤ w.heap.size; omega) _
            exact F8.out.below
          · have hpr := hide (show parseR L = formF false (dlu wh) v by unfold parseR; rw [hSp2.out, ← hv]; refine (if_neg hbig).trans ?_; simp [dlu])
            have hbig' : ¬ (512 : Int) < L.length := by omega
            have hcat := hide (show mkB wh ++ ⟨#[]⟩ = mkS (dlu wh) by rw [mkB_dlu wh hwd.out, ← mkS_nil, mkS_app, List.append_nil])
            have hDg := hide (dlu_dgs _ hwd.out)
            have hDl := hide (show (dlu wh).length ≤ 100000 by rw [dlu_len]; omega)
            have hcr : ∀ w, (Op.stringOp .add (mkB wh) ⟨#[]⟩).run Tryd.prog w = .ok (.string (mkS (dlu wh))) w := fun w => by rw [← hcat.out]; exact run_string_add_sum w _ _ (by rw [mkB_size]; show _ + 0 ≤ _; omega)
            obtain ⟨fb, fs, fx, fe, hfe⟩ : ∃ fb fs fx fe, formF false (dlu wh) v = (fb, fs, fx, fe) := ⟨_, _, _, _, rfl⟩
            have HF := hide hfe
            rw [hfe] at hpr
            have herr := formF_err2 _ _ _ hfe
            clear hfe
            go_wp2_with fail
            go_fit (made_any false (dlu wh) v _ hDg.out hDl.out (by omega) (by omega))
            rw [HF.out]
            rintro e w9 ⟨rfl, hb9⟩
            have F9 := hide (F8.out.then hb9)
            simp only [retM]
            rcases herr with rfl | ⟨rfl, rfl, rfl, rfl⟩
            · obtain ⟨z0, z1, z2, y0, y1, y2⟩ := (F9.out.box.alloc (.cells #[.bool fb, .string fs, .int .i64 fx] 23)).cells
              obtain ⟨t0, t1, t2, _, _, _⟩ := (box_new w9 fb fs fx).cells
              obtain ⟨r0, r1, r2, _, _, _⟩ := ((F9.out.box.alloc (.cells #[.bool fb, .string fs, .int .i64 fx] 23)).set (n' := fb) (s' := fs) (x' := fx)).cells
              go_wp2
              refine bodyPost_ret (v := .tuple #[.agg #[.bool fb, .string fs, .int .i64 fx], .int .i64 0]) (by simp [results, Tryd.results11, go_sem, r0, r1, r2]) rfl ⟨by rw [hpr.out]; rfl, ?_⟩
              iterate 3 refine Below.setCell ?_ (by show w.heap.size ≤ w.heap.size; omega) _
              exact below_al F9.out.below
            · obtain ⟨z0, z1, z2, y0, y1, y2⟩ := (F9.out.box.alloc (.cells #[.bool false, .string ⟨#[]⟩, .int .i64 0] 23)).cells
              obtain ⟨r0, r1, r2, _, _, _⟩ := ((F9.out.box.alloc (.cells #[.bool false, .string ⟨#[]⟩, .int .i64 0] 23)).set (n' := false) (s' := ⟨#[]⟩) (x' := 0)).cells
              go_wp2
              refine bodyPost_ret (v := .tuple #[.agg #[.bool false, .string ⟨#[]⟩, .int .i64 0], .int .i64 2]) (by simp [results, Tryd.results11, go_sem, r0, r1, r2]) rfl ⟨by rw [hpr.out]; rfl, ?_⟩
              iterate 3 refine Below.setCell ?_ (by show w.heap.size ≤ w.heap.size; omega) _
              exact below_al F9.out.below
      | cons c r =>
        have hcn : c.toNat ≠ 46 := by
          intro q
          have : c = 46 := UInt8.toNat_inj.1 q
          subst this; cases hdot
        have hsr : 0 < (mkB (c :: r)).size := by rw [s1]; simp
        have hgr := get0_mkB c r hsr
        have hsri : (0 : Int) < ((c :: r).length : Int) := by rw [List.length_cons]; omega
        have hcn' : ((c.toNat : Int) == 46) = false := by simp; omega
        obtain ⟨R2, hR2⟩ : ∃ R2, c :: r = R2 := ⟨_, rfl⟩
        have hex : ∃ hs : 0 < (mkB (c :: r)).size, (mkB (c :: r))[0]'hs = c := ⟨hsr, hgr⟩
        clear hgr hdot hcn hsr
        rw [hR2] at hSplit s1 lr hsri hex ⊢
        clear hR2
        obtain ⟨hsr, hgr⟩ := hex
        rcases hw1 with ⟨a1, a2⟩ | a1
        all_goals
          go_wp2_with fail
          go_fit (rexp_any R2 _ (by omega))
          rintro e w8 ⟨rfl, hb8⟩
          have F8 := hide (F7.out.then hb8)
          clear hb8
          cases hok : (expV R2).2
          · obtain ⟨hsp, hev⟩ := expV_none false wh [] R2 hok
            have hpr := hide (show parseR L = (false, ⟨#[]⟩, 0, 10) by unfold parseR; rw [hSplit.out, hsp])
            rw [hev]
            obtain ⟨z0, z1, z2, y0, y1, y2⟩ := F8.out.box.cells
            obtain ⟨r0, r1, r2, _, _, _⟩ := (F8.out.box.set (n' := false) (s' := ⟨#[]⟩) (x' := 0)).cells
            go_wp2
            refine bodyPost_ret (v := .tuple #[.agg #[.bool false, .string ⟨#[]⟩, .int .i64 0], .int .i64 10]) (by simp [results, Tryd.results11, go_sem, r0, r1, r2]) rfl ⟨by rw [hpr.out]; rfl, ?_⟩
            iterate 3 refine Below.setCell ?_ (by show w.heap.size ≤ w.heap.size; omega) _
            exact F8.out.below
          · obtain ⟨pn, pw, hsp, hev, hpl⟩ := expV_some false wh [] R2 hok
            rw [hev]
            have hSp2 := hide (hSplit.out.trans hsp)
            have hpb : -1000000 ≤ powB pn pw ∧ powB pn pw ≤ 1000000 := by unfold powB; split <;> omega
            obtain ⟨v, hv⟩ : ∃ v, powB pn pw = v := ⟨_, rfl⟩
            rw [hv] at hpb ⊢
            obtain ⟨hpb1, hpb2⟩ := hpb
            by_cases hbig : 512 < L.length
            · have hpr := hide (show parseR L = (false, ⟨#[]⟩, 0, 2) by unfold parseR; rw [hSp2.out]; exact if_pos hbig)
              have hbig' : (512 : Int) < L.length := by omega
              clear hsp hev
              obtain ⟨z0, z1, z2, y0, y1, y2⟩ := F8.out.box.cells
              obtain ⟨r0, r1, r2, _, _, _⟩ := (F8.out.box.set (n' := false) (s' := ⟨#[]⟩) (x' := 0)).cells
              go_wp2
              refine bodyPost_ret (v := .tuple #[.agg #[.bool false, .string ⟨#[]⟩, .int .i64 0], .int .i64 2]) (by simp [results, Tryd.results11, go_sem, r0, r1, r2]) rfl ⟨by rw [hpr.out]; rfl, ?_⟩
              iterate 3 refine Below.setCell ?_ (by show w.heap.size ≤ w.heap.size; omega) _
              exact F8.out.below
            · have hpr := hide (show parseR L = formF false (dlu wh) v by unfold parseR; rw [hSp2.out, ← hv]; refine (if_neg hbig).trans ?_; simp [dlu])
              have hbig' : ¬ (512 : Int) < L.length := by omega
              have hcat := hide (show mkB wh ++ ⟨#[]⟩ = mkS (dlu wh) by rw [mkB_dlu wh hwd.out, ← mkS_nil, mkS_app, List.append_nil])
              have hDg := hide (dlu_dgs _ hwd.out)
              have hDl := hide (show (dlu wh).length ≤ 100000 by rw [dlu_len]; omega)
              have hcr : ∀ w, (Op.stringOp .add (mkB wh) ⟨#[]⟩).run Tryd.prog w = .ok (.string (mkS (dlu wh))) w := fun w => by rw [← hcat.out]; exact run_string_add_sum w _ _ (by rw [mkB_size]; show _ + 0 ≤ _; omega)
              obtain ⟨fb, fs, fx, fe, hfe⟩ : ∃ fb fs fx fe, formF false (dlu wh) v = (fb, fs, fx, fe) := ⟨_, _, _, _, rfl⟩
              have HF := hide hfe
              rw [hfe] at hpr
              have herr := formF_err2 _ _ _ hfe
              clear hfe hsp hev hv
              go_wp2_with fail
              go_fit (made_any false (dlu wh) v _ hDg.out hDl.out (by omega) (by omega))
              rw [HF.out]
              rintro e w9 ⟨rfl, hb9⟩
              have F9 := hide (F8.out.then hb9)
              simp only [retM]
              rcases herr with rfl | ⟨rfl, rfl, rfl, rfl⟩
              · obtain ⟨z0, z1, z2, y0, y1, y2⟩ := (F9.out.box.alloc (.cells #[.bool fb, .string fs, .int .i64 fx] 23)).cells
                obtain ⟨t0, t1, t2, _, _, _⟩ := (box_new w9 fb fs fx).cells
                obtain ⟨r0, r1, r2, _, _, _⟩ := ((F9.out.box.alloc (.cells #[.bool fb, .string fs, .int .i64 fx] 23)).set (n' := fb) (s' := fs) (x' := fx)).cells
                go_wp2
                refine bodyPost_ret (v := .tuple #[.agg #[.bool fb, .string fs, .int .i64 fx], .int .i64 0]) (by simp [results, Tryd.results11, go_sem, r0, r1, r2]) rfl ⟨by rw [hpr.out]; rfl, ?_⟩
                iterate 3 refine Below.setCell ?_ (by show w.heap.size ≤ w.heap.size; omega) _
                exact below_al F9.out.below
              · obtain ⟨z0, z1, z2, y0, y1, y2⟩ := (F9.out.box.alloc (.cells #[.bool false, .string ⟨#[]⟩, .int .i64 0] 23)).cells
                obtain ⟨r0, r1, r2, _, _, _⟩ := ((F9.out.box.alloc (.cells #[.bool false, .string ⟨#[]⟩, .int .i64 0] 23)).set (n' := false) (s' := ⟨#[]⟩) (x' := 0)).cells
                go_wp2
                refine bodyPost_ret (v := .tuple #[.agg #[.bool false, .string ⟨#[]⟩, .int .i64 0], .int .i64 2]) (by simp [results, Tryd.results11, go_sem, r0, r1, r2]) rfl ⟨by rw [hpr.out]; rfl, ?_⟩
                iterate 3 refine Below.setCell ?_ (by show w.heap.size ≤ w.heap.size; omega) _
                exact below_al F9.out.below
    · -- a point
      have hSL3 := hide (hSL2.out.trans (if_pos hdot))
      cases R1 with
      | nil => cases hdot
      | cons c Z =>
        have hc : c = 46 := by
          have := eq_of_beq hdot
          simpa using this
        subst hc
        have htl : tlB 46 (46 :: Z) = Z := rfl
        rw [htl] at hSL3
        have hsr : 0 < (mkB (46 :: Z)).size := by rw [s1, List.length_cons]; omega
        have hgr := get0_mkB 46 Z hsr
        have hextZ := mkB_ext 46 Z
        have hlz : (46 :: Z).length = Z.length + 1 := List.length_cons
        rw [hlz] at s1 lr
        obtain ⟨R1, hR1⟩ : ∃ R1, 46 :: Z = R1 := ⟨_, rfl⟩
        have hex : ∃ hs : 0 < (mkB (46 :: Z)).size, (mkB (46 :: Z))[0]'hs = 46 := ⟨hsr, hgr⟩
        clear hgr hdot hsr htl hlz hSL2 hSL
        rw [hR1] at s1 hex hextZ ⊢
        clear hR1
        obtain ⟨hsr, hgr⟩ := hex
        have hsri : (0 : Int) < (mkB R1).size := by omega
        have hsr1 : (1 : Int) ≤ (mkB R1).size := by omega
        rcases hw1 with ⟨a1, a2⟩ | a1
        all_goals
          go_wp2_with fail
          go_fit (rcut_any (mkB Z) _ (by rw [mkB_size]; omega))
          rw [bl_mkB]
          rintro e w6 ⟨rfl, hb6⟩
          have F7 := hide (F5.out.then hb6)
          clear hb6
          have lf := takeWhile_len Z
          have lg := dropWhile_len Z
          have hfd := hide (allD_tw Z)
          obtain ⟨fr, hfr⟩ : ∃ fr, Z.takeWhile isDig = fr := ⟨_, rfl⟩
          obtain ⟨R2, hR2⟩ : ∃ R2, Z.dropWhile isDig = R2 := ⟨_, rfl⟩
          rw [hfr, hR2] at hSL3
          rw [hfr] at lf hfd
          rw [hR2] at lg
          rw [hfr, hR2]
          have mf := mkB_isEmpty fr
          have sf : (mkB fr).size = fr.length := mkB_size fr
          have s2 : (mkB R2).size = R2.length := mkB_size R2
          clear hfr hR2
          cases hfe : fr.isEmpty
          · have hSplit := hide (hSL3.out.trans (if_neg (by rw [hfe]; simp)))
            rw [hfe] at mf
            clear hfe
            go_wp2_with fail
            go_fit (rexp_any R2 _ (by omega))
            rintro e w8 ⟨rfl, hb8⟩
            have F8 := hide (F7.out.then hb8)
            clear hb8
            cases hok : (expV R2).2
            · obtain ⟨hsp, hev⟩ := expV_none false wh fr R2 hok
              have hpr := hide (show parseR L = (false, ⟨#[]⟩, 0, 10) by unfold parseR; rw [hSplit.out, hsp])
              rw [hev]
              obtain ⟨z0, z1, z2, y0, y1, y2⟩ := F8.out.box.cells
              obtain ⟨r0, r1, r2, _, _, _⟩ := (F8.out.box.set (n' := false) (s' := ⟨#[]⟩) (x' := 0)).cells
              go_wp2
              refine bodyPost_ret (v := .tuple #[.agg #[.bool false, .string ⟨#[]⟩, .int .i64 0], .int .i64 10]) (by simp [results, Tryd.results11, go_sem, r0, r1, r2]) rfl ⟨by rw [hpr.out]; rfl, ?_⟩
              iterate 3 refine Below.setCell ?_ (by show w.heap.size ≤ w.heap.size; omega) _
              exact F8.out.below
            · obtain ⟨pn, pw, hsp, hev, hpl⟩ := expV_some false wh fr R2 hok
              rw [hev]
              have hSp2 := hide (hSplit.out.trans hsp)
              have hpb : -1000000 ≤ powB pn pw ∧ powB pn pw ≤ 1000000 := by unfold powB; split <;> omega
              obtain ⟨v, hv⟩ : ∃ v, powB pn pw = v := ⟨_, rfl⟩
              rw [hv] at hpb ⊢
              obtain ⟨hpb1, hpb2⟩ := hpb
              by_cases hbig : 512 < L.length
              · have hpr := hide (show parseR L = (false, ⟨#[]⟩, 0, 2) by unfold parseR; rw [hSp2.out]; exact if_pos hbig)
                have hbig' : (512 : Int) < L.length := by omega
                clear hsp hev
                obtain ⟨z0, z1, z2, y0, y1, y2⟩ := F8.out.box.cells
                obtain ⟨r0, r1, r2, _, _, _⟩ := (F8.out.box.set (n' := false) (s' := ⟨#[]⟩) (x' := 0)).cells
                go_wp2
                refine bodyPost_ret (v := .tuple #[.agg #[.bool false, .string ⟨#[]⟩, .int .i64 0], .int .i64 2]) (by simp [results, Tryd.results11, go_sem, r0, r1, r2]) rfl ⟨by rw [hpr.out]; rfl, ?_⟩
                iterate 3 refine Below.setCell ?_ (by show w.heap.size ≤ w.heap.size; omega) _
                exact F8.out.below
              · have hpr := hide (show parseR L = formF false (dlu wh ++ dlu fr) (v - (fr).length) by unfold parseR; rw [hSp2.out, ← hv]; exact if_neg hbig)
                have hbig' : ¬ (512 : Int) < L.length := by omega
                have hcat := hide (show mkB wh ++ mkB fr = mkS (dlu wh ++ dlu fr) by rw [mkB_dlu wh hwd.out, mkB_dlu fr hfd.out, mkS_app])
                have hDg := hide (show Dgs (dlu wh ++ dlu fr) from fun x hx => by
                  rcases List.mem_append.1 hx with q | q
                  · exact dlu_dgs _ hwd.out x q
                  · exact dlu_dgs _ hfd.out x q)
                have hDl := hide (show (dlu wh ++ dlu fr).length ≤ 100000 by rw [List.length_append, dlu_len, dlu_len]; omega)
                have hcr : ∀ w, (Op.stringOp .add (mkB wh) (mkB fr)).run Tryd.prog w = .ok (.string (mkS (dlu wh ++ dlu fr))) w := fun w => by rw [← hcat.out]; exact run_string_add_sum w _ _ (by rw [mkB_size, mkB_size]; omega)
                obtain ⟨fb, fs, fx, fe, hfe⟩ : ∃ fb fs fx fe, formF false (dlu wh ++ dlu fr) (v - (fr).length) = (fb, fs, fx, fe) := ⟨_, _, _, _, rfl⟩
                have HF := hide hfe
                rw [hfe] at hpr
                have herr := formF_err2 _ _ _ hfe
                clear hfe hsp hev hv
                go_wp2_with fail
                go_fit (made_any false (dlu wh ++ dlu fr) (v - (fr).length) _ hDg.out hDl.out (by omega) (by omega))
                rw [HF.out]
                rintro e w9 ⟨rfl, hb9⟩
                have F9 := hide (F8.out.then hb9)
                simp only [retM]
                rcases herr with rfl | ⟨rfl, rfl, rfl, rfl⟩
                · obtain ⟨z0, z1, z2, y0, y1, y2⟩ := (F9.out.box.alloc (.cells #[.bool fb, .string fs, .int .i64 fx] 23)).cells
                  obtain ⟨t0, t1, t2, _, _, _⟩ := (box_new w9 fb fs fx).cells
                  obtain ⟨r0, r1, r2, _, _, _⟩ := ((F9.out.box.alloc (.cells #[.bool fb, .string fs, .int .i64 fx] 23)).set (n' := fb) (s' := fs) (x' := fx)).cells
                  go_wp2
                  refine bodyPost_ret (v := .tuple #[.agg #[.bool fb, .string fs, .int .i64 fx], .int .i64 0]) (by simp [results, Tryd.results11, go_sem, r0, r1, r2]) rfl ⟨by rw [hpr.out]; rfl, ?_⟩
                  iterate 3 refine Below.setCell ?_ (by show w.heap.size ≤ w.heap.size; omega) _
                  exact below_al F9.out.below
                · obtain ⟨z0, z1, z2, y0, y1, y2⟩ := (F9.out.box.alloc (.cells #[.bool false, .string ⟨#[]⟩, .int .i64 0] 23)).cells
                  obtain ⟨r0, r1, r2, _, _, _⟩ := ((F9.out.box.alloc (.cells #[.bool false, .string ⟨#[]⟩, .int .i64 0] 23)).set (n' := false) (s' := ⟨#[]⟩) (x' := 0)).cells
                  go_wp2
                  refine bodyPost_ret (v := .tuple #[.agg #[.bool false, .string ⟨#[]⟩, .int .i64 0], .int .i64 2]) (by simp [results, Tryd.results11, go_sem, r0, r1, r2]) rfl ⟨by rw [hpr.out]; rfl, ?_⟩
                  iterate 3 refine Below.setCell ?_ (by show w.heap.size ≤ w.heap.size; omega) _
                  exact below_al F9.out.below
          · have hpr := hide (show parseR L = (false, ⟨#[]⟩, 0, 10) by unfold parseR; rw [hSL3.out.trans (if_pos hfe)])
            rw [hfe] at mf
            clear hfe
            obtain ⟨z0, z1, z2, y0, y1, y2⟩ := F7.out.box.cells
            obtain ⟨r0, r1, r2, _, _, _⟩ := (F7.out.box.set (n' := false) (s' := ⟨#[]⟩) (x' := 0)).cells
            go_wp2
            refine bodyPost_ret (v := .tuple #[.agg #[.bool false, .string ⟨#[]⟩, .int .i64 0], .int .i64 10]) (by simp [results, Tryd.results11, go_sem, r0, r1, r2]) rfl ⟨by rw [hpr.out]; rfl, ?_⟩
            iterate 3 refine Below.setCell ?_ (by show w.heap.size ≤ w.heap.size; omega) _
            exact F7.out.below
  · have hpr := hide (show parseR L = (false, ⟨#[]⟩, 0, 10) by unfold parseR; rw [hSL.out.trans (if_pos hbad)])
    cases hne : wh.isEmpty
    · rw [hne] at me
      have hw0 : 0 < wh.length := by
        cases wh with
        | nil => cases hne
        | cons => simp
      have hb2 : 1 < wh.length ∧ wh.head? = some 48 := by
        unfold badW at hbad
        rw [hne] at hbad
        simpa using hbad
      have hq0 : ((mkB wh)[0]'(by omega)) = 48 := by
        cases wh with
        | nil => cases hne
        | cons c r =>
          have := get0_mkB c r (by omega)
          rw [this]
          have := hb2.2
          simpa using this
      have hw0i : (0 : Int) < (mkB wh).size := by omega
      have hw1i : (1 : Int) < (wh.length : Int) := by omega
      clear hbad
      obtain ⟨z0, z1, z2, y0, y1, y2⟩ := F5.out.box.cells
      obtain ⟨r0, r1, r2, _, _, _⟩ := (F5.out.box.set (n' := false) (s' := ⟨#[]⟩) (x' := 0)).cells
      go_wp2
      refine bodyPost_ret (v := .tuple #[.agg #[.bool false, .string ⟨#[]⟩, .int .i64 0], .int .i64 10]) (by simp [results, Tryd.results11, go_sem, r0, r1, r2]) rfl ⟨by rw [hpr.out]; rfl, ?_⟩
      iterate 3 refine Below.setCell ?_ (by show w.heap.size ≤ w.heap.size; omega) _
      exact F5.out.below
    · rw [hne] at me
      clear hbad hne
      obtain ⟨z0, z1, z2, y0, y1, y2⟩ := F5.out.box.cells
      obtain ⟨r0, r1, r2, _, _, _⟩ := (F5.out.box.set (n' := false) (s' := ⟨#[]⟩) (x' := 0)).cells
      go_wp2
      refine bodyPost_ret (v := .tuple #[.agg #[.bool false, .string ⟨#[]⟩, .int .i64 0], .int .i64 10]) (by simp [results, Tryd.results11, go_sem, r0, r1, r2]) rfl ⟨by rw [hpr.out]; rfl, ?_⟩
      iterate 3 refine Below.setCell ?_ (by show w.heap.size ≤ w.heap.size; omega) _
      exact F5.out.below
/-- The reference's Parse, at every text. -/
theorem rparse_any (l : List UInt8) (w : World) (hl : l.length ≤ 80000) :
    Calls Tryd.prog 11 #[.string (mkB l)] w fun e w' => e = retF (parseR l) ∧ Below w.heap.size w w' := by
  cases l with
  | nil => exact rparse_nil w
  | cons b r =>
    cases hb : hdB 45 (b :: r)
    · exact rparse_cons b r w hl hb
    · have hc : b = 45 := by
        have := eq_of_beq hb
        simpa using this
      subst hc
      exact rparse_minus r w (by rw [List.length_cons] at hl; omega)
end Go.Proofs.YtjpdlibncmldlaaDoor
