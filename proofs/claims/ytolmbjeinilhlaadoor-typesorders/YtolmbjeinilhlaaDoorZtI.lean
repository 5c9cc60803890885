/- Merged by program: IdRef, IePlace, IqSame. -/
import Derived.Test.YtolmbjeinilhlaaDoorZtHvCopied
/- calamusref11.depth, size: walked. -/
namespace Go.Proofs.YtolmbjeinilhlaaDoor
open Go.RowKit Go.Maps
set_option linter.unusedSimpArgs false
set_option linter.unusedVariables false
set_option maxHeartbeats 1000000 in
set_option maxRecDepth 100000 in
theorem rtdepth_any : ∀ (n : Nat) (x : TT n) (ns ls : Value) (w : World), RT n w x ns ls → tsiz n x ≤ 200000 →
    Calls Tryd.prog 38 #[.agg (tvs (thd n x) ns ls)] w fun e w' => e = .returned (.int .i64 (tdep n x)) ∧ Below w.heap.size w w' := by
  intro n
  induction n with
  | zero => intro x; exact Empty.elim x
  | succ n ih =>
    intro x ns ls w hr hs
    obtain ⟨h, l⟩ := x
    obtain ⟨al, cl, rfl, hc1, hc2⟩ := hr.len
    have hB0 := hide (tx_new w h ns (.slice al l.length cl))
    have hr := hide hr
    have ih' := hide ih
    have hs' := hide hs
    clear ih hs
    show Calls _ _ #[.agg #[.int .i64 h.kind, ns, .slice al l.length cl]] _ _
    go_enter Tryd.func38, Tryd.ntmps38
    go_wp2_with fail
    go_loopw [3, 4] (fun m i w' => ∃ k : Nat, m = .int .i64 (mxl ((l.map (tdep n)).take k) : Nat) ∧ i = .int .i64 k ∧ k ≤ l.length ∧ Hid (Tx w' w.heap.size h ns (.slice al l.length cl)) ∧ Hid (Below w.heap.size w w')) (fun _ i _ => l.length - (intOf i).toNat)
    case atStart => exact ⟨0, rfl, rfl, Nat.zero_le _, hB0.out, below_al (Below.refl _ _)⟩
    case round =>
      obtain ⟨k, rfl, rfl, hk, hB, hb⟩ := hrel
      have ml : maxLen = 9223372036854775807 := rfl
      have hk63 : (k : Int) ≤ 9223372036854775807 := by omega
      have hc8 := hB.out.cells.2.2
      by_cases hkl : k < l.length
      · obtain ⟨b, o, c, he, hbl, hlc, hcm, ns', ls', hrg, hrd⟩ := hr.out.at k hkl
        have he' := Value.slice.inj he
        obtain ⟨rfl, _, rfl⟩ := he'
        clear he
        have hki : (k : Int) < (l.length : Int) := by omega
        have hk63 : (k : Int) < 9223372036854775807 := by omega
        obtain ⟨c0, c1, c2⟩ := range3 (rangeAt_below hrg hb.out hbl)
        have hrd' := hide (hrd.below hb.out)
        obtain ⟨a1, m1, d1, a2, m2, d2, rfl, rfl⟩ := hrd.shape
        clear hrg hrd
        have hsk : tsiz n l[k] ≤ 200000 := by have h1 := tsiz_mem (x := (h, l)) hkl; have h2 := hs'.out; simp only at h1; omega
        obtain ⟨D, hD⟩ : ∃ D, tdep n l[k] = D := ⟨_, rfl⟩
        have hmx := mxl_take (l.map (tdep n)) k (by simpa using hkl)
        rw [List.getElem_map, hD] at hmx
        have hcall := hide (ih'.out l[k] (.slice a1 m1 d1) (.slice a2 m2 d2) wr hrd'.out hsk)
        rw [hD] at hcall
        obtain ⟨M, hM⟩ : ∃ M, mxl ((l.map (tdep n)).take k) = M := ⟨_, rfl⟩
        rw [hM] at hmx ⊢
        have hmx' := hide hmx
        have hD' := hide hD
        have hM' := hide hM
        clear hD hM hsk hmx
        rcases Nat.lt_trichotomy M D with hlt | hlt | hlt
        · have hdi : (M : Int) < (D : Int) := by omega
          have hdj : ¬ ((D : Int) < (M : Int)) := by omega
          go_wp2_with (go_at_call 38; refine hcall.out.mono ?_; rintro e w1 ⟨rfl, hb1⟩)
          exact ⟨⟨k + 1, by rw [hmx'.out]; congr 2; omega, by go_num, by omega, hB.out.below hb1, below_then hb.out hb1⟩, by simp [intOf]; omega⟩
        · subst hlt
          have hdi : ¬ ((M : Int) < (M : Int)) := by omega
          go_wp2_with (go_at_call 38; refine hcall.out.mono ?_; rintro e w1 ⟨rfl, hb1⟩)
          exact ⟨⟨k + 1, by rw [hmx'.out]; congr 2; omega, by go_num, by omega, hB.out.below hb1, below_then hb.out hb1⟩, by simp [intOf]; omega⟩
        · have hdi : (D : Int) < (M : Int) := by omega
          have hdj : ¬ ((M : Int) < (D : Int)) := by omega
          go_wp2_with (go_at_call 38; refine hcall.out.mono ?_; rintro e w1 ⟨rfl, hb1⟩)
          exact ⟨⟨k + 1, by rw [hmx'.out]; congr 2; omega, by go_num, by omega, hB.out.below hb1, below_then hb.out hb1⟩, by simp [intOf]; omega⟩
      · have hki : ¬ ((k : Int) < (l.length : Int)) := by omega
        have hkl2 : k = l.length := by omega
        have hD : tdep (n + 1) (h, l) = 1 + mxl ((l.map (tdep n)).take k) := by
          simp only [tdep]
          rw [List.take_of_length_le (by simp; omega)]
        have hsz : 1 + mxl ((l.map (tdep n)).take k) ≤ 200000 := by
          rw [← hD]; exact Nat.le_trans (tdep_le _ _) hs'.out
        obtain ⟨M, hM⟩ : ∃ M, mxl ((l.map (tdep n)).take k) = M := ⟨_, rfl⟩
        rw [hM] at hsz hD ⊢
        have hD' := hide hD
        clear hD hM hkl2
        have hM2 : (M : Int) < 200000 := by omega
        clear hsz
        go_wp2_with fail
        go_ret
        exact ⟨by rw [hD'.out]; exact ret_int (by omega), hb.out⟩
set_option maxHeartbeats 1000000 in
set_option maxRecDepth 100000 in
theorem rtsize_any : ∀ (n : Nat) (x : TT n) (ns ls : Value) (w : World), RT n w x ns ls → tsiz n x ≤ 200000 →
    Calls Tryd.prog 39 #[.agg (tvs (thd n x) ns ls)] w fun e w' => e = .returned (.int .i64 (tsiz n x)) ∧ Below w.heap.size w w' := by
  intro n
  induction n with
  | zero => intro x; exact Empty.elim x
  | succ n ih =>
    intro x ns ls w hr hs
    obtain ⟨h, l⟩ := x
    obtain ⟨al, cl, rfl, hc1, hc2⟩ := hr.len
    have hB0 := hide (tx_new w h ns (.slice al l.length cl))
    have hr := hide hr
    have ih' := hide ih
    have hs' := hide hs
    clear ih hs
    show Calls _ _ #[.agg #[.int .i64 h.kind, ns, .slice al l.length cl]] _ _
    go_enter Tryd.func39, Tryd.ntmps39
    go_wp2_with fail
    go_loopw [3, 4] (fun m i w' => ∃ k : Nat, m = .int .i64 (1 + suml ((l.map (tsiz n)).take k) : Nat) ∧ i = .int .i64 k ∧ k ≤ l.length ∧ Hid (Tx w' w.heap.size h ns (.slice al l.length cl)) ∧ Hid (Below w.heap.size w w')) (fun _ i _ => l.length - (intOf i).toNat)
    case atStart => exact ⟨0, rfl, rfl, Nat.zero_le _, hB0.out, below_al (Below.refl _ _)⟩
    case round =>
      obtain ⟨k, rfl, rfl, hk, hB, hb⟩ := hrel
      have ml : maxLen = 9223372036854775807 := rfl
      have hk63 : (k : Int) ≤ 9223372036854775807 := by omega
      have hc8 := hB.out.cells.2.2
      obtain ⟨M, hM⟩ : ∃ M, 1 + suml ((l.map (tsiz n)).take k) = M := ⟨_, rfl⟩
      have hMle : M ≤ 200000 := by
        have h1 := suml_take_le (l.map (tsiz n)) k
        have h2 := hs'.out
        simp only [tsiz] at h2
        omega
      by_cases hkl : k < l.length
      · obtain ⟨b, o, c, he, hbl, hlc, hcm, ns', ls', hrg, hrd⟩ := hr.out.at k hkl
        have he' := Value.slice.inj he
        obtain ⟨rfl, _, rfl⟩ := he'
        clear he
        have hki : (k : Int) < (l.length : Int) := by omega
        have hk63 : (k : Int) < 9223372036854775807 := by omega
        obtain ⟨c0, c1, c2⟩ := range3 (rangeAt_below hrg hb.out hbl)
        have hrd' := hide (hrd.below hb.out)
        obtain ⟨a1, m1, d1, a2, m2, d2, rfl, rfl⟩ := hrd.shape
        clear hrg hrd
        have hsk : tsiz n l[k] ≤ 200000 := by have h1 := tsiz_mem (x := (h, l)) hkl; have h2 := hs'.out; simp only at h1; omega
        obtain ⟨D, hD⟩ : ∃ D, tsiz n l[k] = D := ⟨_, rfl⟩
        have hmx := suml_take (l.map (tsiz n)) k (by simpa using hkl)
        rw [List.getElem_map, hD] at hmx
        have hcall := hide (ih'.out l[k] (.slice a1 m1 d1) (.slice a2 m2 d2) wr hrd'.out hsk)
        rw [hD] at hcall hsk
        have hmx : 1 + suml ((l.map (tsiz n)).take (k + 1)) = M + D := by omega
        rw [hM]
        have hmx' := hide hmx
        have hD1 : (D : Int) ≤ 200000 := by omega
        have hM1 : (M : Int) ≤ 200000 := by omega
        clear hD hM hsk hmx hMle
        go_wp2_with (go_at_call 39; refine hcall.out.mono ?_; rintro e w1 ⟨rfl, hb1⟩)
        exact ⟨⟨k + 1, by rw [hmx'.out]; first | rfl | (congr 1), by go_num, by omega, hB.out.below hb1, below_then hb.out hb1⟩, by simp [intOf]; omega⟩
      · have hki : ¬ ((k : Int) < (l.length : Int)) := by omega
        have hD : tsiz (n + 1) (h, l) = M := by
          rw [← hM]
          simp only [tsiz]
          rw [List.take_of_length_le (by simp; omega)]
        rw [hM]
        have hD' := hide hD
        clear hD hM hMle
        go_wp2_with fail
        go_ret
        exact ⟨by rw [hD'.out]; rfl, hb.out⟩
end Go.Proofs.YtolmbjeinilhlaaDoor
/- calamusref11.place, short: walked. -/
namespace Go.Proofs.YtolmbjeinilhlaaDoor
open Go.RowKit Go.Maps
set_option linter.unusedSimpArgs false
set_option linter.unusedVariables false
set_option maxHeartbeats 1000000 in
set_option maxRecDepth 100000 in
theorem place_any (v : Value) (l : List ByteArray) (s : ByteArray) (w : World) (hv : NL w v l) :
    Calls Tryd.prog 57 #[v, .string s] w fun e w' => ∃ r : Int, e = .returned (.int .i64 r) ∧ Hid ((r = -1 ∧ s ∉ l) ∨ ∃ k : Nat, r = k ∧ ∃ h : k < l.length, l[k] = s) ∧ Below w.heap.size w w' := by
  obtain ⟨av, cv, rfl, hv1, hv2⟩ := hv.len
  have hv := hide hv
  have ml : maxLen = 9223372036854775807 := rfl
  go_enter Tryd.func57, Tryd.ntmps57
  go_wp2_with fail
  go_loopw [5] (fun i w' => ∃ k : Nat, i = .int .i64 k ∧ k ≤ l.length ∧ Hid (s ∉ l.take k ∧ Below w.heap.size w w')) (fun i _ => l.length - (intOf i).toNat)
  case atStart => exact ⟨0, rfl, Nat.zero_le _, by simp, Below.refl _ _⟩
  case round =>
    obtain ⟨k, rfl, hk, H⟩ := hrel
    by_cases hkl : k < l.length
    · have hki : (k : Int) < (l.length : Int) := by omega
      have hk63 : (k : Int) < 9223372036854775807 := by omega
      obtain ⟨b, o, c, he, hbl, hlc, hcm, hcell⟩ := hv.out.at k hkl
      have he' := Value.slice.inj he
      obtain ⟨rfl, _, rfl⟩ := he'
      clear he
      have hcell := (H.out.2.cell (p := ⟨b, o + k, none⟩) hbl).trans hcell
      obtain ⟨t, ht⟩ : ∃ t, Hid (l[k] = t) := ⟨_, hide rfl⟩
      rw [ht.out] at hcell
      by_cases hst : t = s
      · subst hst
        go_wp2_with fail
        go_ret
        exact ⟨k, rfl, Or.inr ⟨k, rfl, hkl, ht.out⟩, H.out.2⟩
      · have hst2 : decide (t = s) = false := decide_eq_false hst
        have hst3 := ba_ne hst
        have hst' := hide hst
        clear hst
        go_wp2_with fail
        refine ⟨⟨k + 1, by go_num, by omega, ?_, H.out.2⟩, by simp [intOf]; omega⟩
        rw [List.take_succ_eq_append_getElem hkl]
        intro q
        rcases List.mem_append.1 q with q | q
        · exact H.out.1 q
        · rw [List.mem_singleton.1 q] at hst'
          exact hst'.out ht.out.symm
    · have hki : ¬ ((k : Int) < (l.length : Int)) := by omega
      have hE := H.out.1
      rw [List.take_of_length_le (by omega)] at hE
      have hE' := hide hE
      clear hE
      go_wp2_with fail
      go_ret
      exact ⟨-1, rfl, Or.inl ⟨rfl, hE'.out⟩, H.out.2⟩
/-- No name is too long, no row too long. -/
def RSht : (n : Nat) → TT n → Prop
  | 0, _ => False
  | n + 1, x => x.2.length ≤ 256 ∧ (∀ s ∈ x.1.names, s.size ≤ 64) ∧ ∀ y ∈ x.2, RSht n y
set_option maxHeartbeats 1000000 in
set_option maxRecDepth 100000 in
theorem rtshort_any : ∀ (n : Nat) (x : TT n) (ns ls : Value) (w : World), RT n w x ns ls →
    Calls Tryd.prog 37 #[.agg (tvs (thd n x) ns ls)] w fun e w' => TB (RSht n x) w e w' := by
  intro n
  induction n with
  | zero => intro x; exact Empty.elim x
  | succ n ih =>
    intro x ns ls w hr
    obtain ⟨h, l⟩ := x
    obtain ⟨al, cl, rfl, hc1, hc2⟩ := hr.len
    obtain ⟨an, cn, rfl, hn1, hn2⟩ := hr.1.len
    have hr := hide hr
    have ih' := hide ih
    clear ih
    simp only at hn1 hn2 hc1 hc2
    have ml : maxLen = 9223372036854775807 := rfl
    have hb0 : Hid (∀ o, Below w.heap.size w (w.alloc o)) := fun o => below_al (Below.refl _ _)
    have hB0 := hide (tx_new w h (.slice an h.names.length cn) (.slice al l.length cl))
    show Calls _ _ #[.agg #[.int .i64 h.kind, .slice an h.names.length cn, .slice al l.length cl]] _ _
    by_cases h2 : (256 : Int) < (l.length : Int)
    · have hx : Hid (¬ RSht (n + 1) (h, l)) := fun q => by have := q.1; simp only at this; omega
      go_enter Tryd.func37, Tryd.ntmps37
      go_wp2_with fail
      go_ret
      exact TB.no hx.out (hb0.out _)
    · have h2' := hide h2
      go_enter Tryd.func37, Tryd.ntmps37
      go_wp2_with fail
      clear h2
      go_loopw [3] (fun i w' => ∃ k : Nat, i = .int .i64 k ∧ k ≤ h.names.length ∧ Hid ((∀ y ∈ h.names.take k, y.size ≤ 64) ∧ Below w.heap.size w w' ∧ Tx w' w.heap.size h (.slice an h.names.length cn) (.slice al l.length cl))) (fun i _ => h.names.length - (intOf i).toNat)
      case atStart => exact ⟨0, rfl, Nat.zero_le _, (fun y hy => by simp at hy), hb0.out _, hB0.out⟩
      case round =>
        obtain ⟨k, rfl, hk, H⟩ := hrel
        obtain ⟨c0, c1, c2⟩ := H.out.2.2.cells
        by_cases hkl : k < h.names.length
        · have hki : (k : Int) < (h.names.length : Int) := by omega
          have hk63 : (k : Int) < 9223372036854775807 := by omega
          obtain ⟨b, o, c, he, hbl, hlc, hcm, hcell⟩ := hr.out.1.at k hkl
          have he' := Value.slice.inj he
          obtain ⟨rfl, _, rfl⟩ := he'
          clear he
          have hcell := (H.out.2.1.cell (p := ⟨b, o + k, none⟩) hbl).trans hcell
          obtain ⟨s, hs⟩ : ∃ s, Hid (h.names[k] = s) := ⟨_, hide rfl⟩
          simp only at hcell
          rw [hs.out] at hcell
          by_cases h64 : (64 : Int) < (s.size : Int)
          · have hx : Hid (¬ RSht (n + 1) (h, l)) := fun q => by have := q.2.1 _ (List.getElem_mem hkl); simp only [hs.out] at this; omega
            go_wp2_with fail
            go_ret
            exact TB.no hx.out H.out.2.1
          · go_wp2_with fail
            exact ⟨⟨k + 1, by go_num, by omega, mem_take_more hkl H.out.1 (by rw [hs.out]; omega), H.out.2⟩, by simp [intOf]; omega⟩
        · have hki : ¬ ((k : Int) < (h.names.length : Int)) := by omega
          have hE := H.out.1
          rw [List.take_of_length_le (by omega)] at hE
          have hE' := hide hE
          clear hE
          have hH := hide H.out.2
          go_wp2_with fail
          go_loopw [4] (fun i w' => ∃ k : Nat, i = .int .i64 k ∧ k ≤ l.length ∧ Hid ((∀ y ∈ l.take k, RSht n y) ∧ Below w.heap.size w w' ∧ Tx w' w.heap.size h (.slice an h.names.length cn) (.slice al l.length cl))) (fun i _ => l.length - (intOf i).toNat)
          case atStart => exact ⟨0, rfl, Nat.zero_le _, (fun y hy => by simp at hy), hH.out⟩
          case round =>
            clear c0 c1 c2 H hki hk
            obtain ⟨k, rfl, hk, H⟩ := hrel
            obtain ⟨c0, c1, c2⟩ := H.out.2.2.cells
            by_cases hkl : k < l.length
            · have hki : (k : Int) < (l.length : Int) := by omega
              have hk63 : (k : Int) < 9223372036854775807 := by omega
              obtain ⟨b, o, c, he, hbl, hlc, hcm, ns', ls', hrg, hrd⟩ := hr.out.at k hkl
              have he' := Value.slice.inj he
              obtain ⟨rfl, _, rfl⟩ := he'
              clear he
              obtain ⟨q0, q1, q2⟩ := range3 (rangeAt_below hrg H.out.2.1 hbl)
              have hrd' := hide (hrd.below H.out.2.1)
              obtain ⟨a1, m1, d1, a2, m2, d2, rfl, rfl⟩ := hrd.shape
              clear hrg hrd
              obtain ⟨bk, hbk⟩ := tells (RSht n l[k])
              have hcall := hide (Calls.tb (ih'.out l[k] (.slice a1 m1 d1) (.slice a2 m2 d2) wr hrd'.out) hbk)
              have hbk' := hide hbk
              clear hbk
              cases bk
              · go_wp2_with (go_at_call 37; refine hcall.out.mono ?_; rintro e w3 ⟨rfl, hb3⟩)
                go_ret
                exact TB.no (fun q => by have := hbk'.out.2 (q.2.2 _ (List.getElem_mem _)); cases this) (below_then H.out.2.1 hb3)
              · go_wp2_with (go_at_call 37; refine hcall.out.mono ?_; rintro e w3 ⟨rfl, hb3⟩)
                exact ⟨⟨k + 1, by go_num, by omega, mem_take_more hkl H.out.1 (hbk'.out.1 (by simp)), below_then H.out.2.1 hb3, H.out.2.2.below hb3⟩, by simp [intOf]; omega⟩
            · have hki : ¬ ((k : Int) < (l.length : Int)) := by omega
              have hF := H.out.1
              rw [List.take_of_length_le (by omega)] at hF
              have hF' := hide hF
              clear hF
              go_wp2_with fail
              go_ret
              exact TB.yes ⟨by have := h2'.out; simp only; omega, hE'.out, hF'.out⟩ H.out.2.1
end Go.Proofs.YtolmbjeinilhlaaDoor
/- calamusref11.Same: walked. -/
namespace Go.Proofs.YtolmbjeinilhlaaDoor
open Go.RowKit Go.Maps
set_option linter.unusedSimpArgs false
set_option linter.unusedVariables false
/-- Two types in their boxes. -/
structure Bo2 (w : World) (h g : Th) (n0 l0 n1 l1 : Value) (W : World) : Prop where
  below : Below w.heap.size w W
  ba : Tx W w.heap.size h n0 l0
  bb : Tx W (w.heap.size + 1) g n1 l1
theorem Bo2.then {w W W1 : World} {h g : Th} {n0 l0 n1 l1 : Value} (k : Bo2 w h g n0 l0 n1 l1 W) (hb : Below W.heap.size W W1) : Bo2 w h g n0 l0 n1 l1 W1 := ⟨below_then k.below hb, k.ba.below hb, k.bb.below hb⟩
theorem Bo2.new (w : World) (h g : Th) (n0 l0 n1 l1 : Value) : Bo2 w h g n0 l0 n1 l1 ((w.alloc (.cells (tvs h n0 l0) 26)).alloc (.cells (tvs g n1 l1) 26)) := by
  refine ⟨below_al (below_al (Below.refl _ _)), (tx_new w h n0 l0).below (below_al (Below.refl _ _)), ?_⟩
  have := tx_new (w.alloc (.cells (tvs h n0 l0) 26)) g n1 l1
  rw [World.size_alloc] at this
  exact this
set_option maxHeartbeats 2000000 in
set_option maxRecDepth 100000 in
theorem rtsame_any : ∀ (n : Nat) (x y : TT n) (ns ls ns' ls' : Value) (w : World), RT n w x ns ls → RT n w y ns' ls' →
    Calls Tryd.prog 17 #[.agg (tvs (thd n x) ns ls), .agg (tvs (thd n y) ns' ls')] w fun e w' => TB (x = y) w e w' := by
  intro n
  induction n with
  | zero => intro x; exact Empty.elim x
  | succ n ih =>
    intro x y ns ls ns' ls' w hr hr'
    obtain ⟨⟨hk, hm⟩, l⟩ := x
    obtain ⟨⟨gk, gm⟩, m⟩ := y
    obtain ⟨al, cl, rfl, hc1, hc2⟩ := hr.len
    obtain ⟨an, cn, rfl, hn1, hn2⟩ := hr.1.len
    obtain ⟨bl', dl, rfl, hd1, hd2⟩ := hr'.len
    obtain ⟨bn, dn, rfl, ho1, ho2⟩ := hr'.1.len
    have hx := hide hr
    have hy := hide hr'
    have ih' := hide ih
    clear ih hr hr'
    simp only at hn1 hn2 hc1 hc2 hd1 hd2 ho1 ho2
    have ml : maxLen = 9223372036854775807 := rfl
    have T0 := hide (Bo2.new w ⟨hk, hm⟩ ⟨gk, gm⟩ (.slice an hm.length cn) (.slice al l.length cl) (.slice bn gm.length dn) (.slice bl' m.length dl))
    show Calls _ _ #[.agg #[.int .i64 hk, .slice an hm.length cn, .slice al l.length cl], .agg #[.int .i64 gk, .slice bn gm.length dn, .slice bl' m.length dl]] _ _
    by_cases e1 : hk = gk
    · subst e1
      by_cases e2 : (hm.length : Int) = (gm.length : Int)
      · have hg2 := hide (show gm.length = hm.length by omega)
        rw [hg2.out] at ho1 T0 ⊢
        clear e2
        by_cases e3 : (l.length : Int) = (m.length : Int)
        · have hg3 := hide (show m.length = l.length by omega)
          rw [hg3.out] at hd1 T0 ⊢
          clear e3
          go_enter Tryd.func17, Tryd.ntmps17
          go_wp2_with fail
          go_loopw [5] (fun i w' => ∃ k : Nat, i = .int .i64 k ∧ k ≤ hm.length ∧ Hid ((∀ i (h1 : i < hm.length) (h2 : i < gm.length), i < k → hm[i] = gm[i]) ∧ Bo2 w ⟨hk, hm⟩ ⟨hk, gm⟩ (.slice an hm.length cn) (.slice al l.length cl) (.slice bn hm.length dn) (.slice bl' l.length dl) w')) (fun i _ => hm.length - (intOf i).toNat)
          case atStart => exact ⟨0, rfl, Nat.zero_le _, (fun i _ _ h => by omega), T0.out⟩
          case round =>
            clear T0
            obtain ⟨k, rfl, hk', H⟩ := hrel
            obtain ⟨x0, x1, x2⟩ := H.out.2.ba.cells
            obtain ⟨y0, y1, y2⟩ := H.out.2.bb.cells
            by_cases hkl : k < hm.length
            · have hki : (k : Int) < (hm.length : Int) := by omega
              have hk63 : (k : Int) < 9223372036854775807 := by omega
              obtain ⟨b, o, c, he, hbl, hlc, hcm, hcell⟩ := hx.out.1.at k hkl
              have he' := Value.slice.inj he
              obtain ⟨rfl, _, rfl⟩ := he'
              clear he
              have hcell := (H.out.2.below.cell (p := ⟨b, o + k, none⟩) hbl).trans hcell
              have hkg : k < gm.length := by have := hg2.out; omega
              obtain ⟨b', o', c', he, hbl', hlc', hcm', hcell'⟩ := hy.out.1.at k hkg
              have he' := Value.slice.inj he
              obtain ⟨rfl, _, rfl⟩ := he'
              clear he
              have hcell' := (H.out.2.below.cell (p := ⟨b', o' + k, none⟩) hbl').trans hcell'
              obtain ⟨s, hs⟩ : ∃ s, Hid (hm[k] = s) := ⟨_, hide rfl⟩
              obtain ⟨t, ht⟩ : ∃ t, Hid (gm[k] = t) := ⟨_, hide rfl⟩
              simp only at hcell hcell'
              rw [hs.out] at hcell
              rw [ht.out] at hcell'
              by_cases hst : s = t
              · subst hst
                go_wp2_with fail
                go_quiet (fail)
                go_wp2_with fail
                refine ⟨⟨k + 1, by go_num, by omega, (fun i h1 h2 h3 => ?_), H.out.2.then (below_dn (Below.refl _ _) _)⟩, by simp [intOf]; omega⟩
                by_cases e : i = k
                · subst e; rw [hs.out, ht.out]
                · exact H.out.1 i h1 h2 (by omega)
              · have hst2 : decide (s = t) = false := decide_eq_false hst
                have hst3 := ba_ne hst
                have hst' := hide hst
                clear hst
                go_wp2_with fail
                go_quiet (fail)
                go_wp2_with fail
                go_ret
                refine TB.no (fun q => ?_) (below_then H.out.2.below (below_dn (Below.refl _ _) _))
                have q2 : hm = gm := congrArg (fun z : TT (n + 1) => z.1.names) q
                exact hst'.out (by rw [← hs.out, ← ht.out]; congr 1)
            · have hki : ¬ ((k : Int) < (hm.length : Int)) := by omega
              have hE := hide (show hm = gm from List.ext_getElem hg2.out.symm (fun i h1 h2 => H.out.1 i h1 h2 (by omega)))
              have T1 := hide H.out.2
              clear H
              go_wp2_with fail
              go_loopw [6] (fun i w' => ∃ k : Nat, i = .int .i64 k ∧ k ≤ l.length ∧ Hid ((∀ i (h1 : i < l.length) (h2 : i < m.length), i < k → l[i] = m[i]) ∧ Bo2 w ⟨hk, hm⟩ ⟨hk, gm⟩ (.slice an hm.length cn) (.slice al l.length cl) (.slice bn hm.length dn) (.slice bl' l.length dl) w')) (fun i _ => l.length - (intOf i).toNat)
              case atStart => exact ⟨0, rfl, Nat.zero_le _, (fun i _ _ h => by omega), T1.out⟩
              case round =>
                clear T1 x0 x1 x2 y0 y1 y2 hki hk'
                obtain ⟨k, rfl, hk', H⟩ := hrel
                obtain ⟨x0, x1, x2⟩ := H.out.2.ba.cells
                obtain ⟨y0, y1, y2⟩ := H.out.2.bb.cells
                by_cases hkl : k < l.length
                · have hki : (k : Int) < (l.length : Int) := by omega
                  have hk63 : (k : Int) < 9223372036854775807 := by omega
                  have hkm : k < m.length := by have := hg3.out; omega
                  obtain ⟨b1, o1, f1, he, hbl1, hlc1, hcm1, ns1, ls1, hrg1, hrd1⟩ := hx.out.at k hkl
                  have he' := Value.slice.inj he
                  obtain ⟨rfl, _, rfl⟩ := he'
                  clear he
                  obtain ⟨q0, q1, q2⟩ := range3 (rangeAt_below hrg1 H.out.2.below hbl1)
                  obtain ⟨b2, o2, f2, he, hbl2, hlc2, hcm2, ns2, ls2, hrg2, hrd2⟩ := hy.out.at k hkm
                  have he' := Value.slice.inj he
                  obtain ⟨rfl, _, rfl⟩ := he'
                  clear he
                  obtain ⟨r0, r1, r2⟩ := range3 (rangeAt_below hrg2 H.out.2.below hbl2)
                  have hd1' := hide hrd1
                  have hd2' := hide hrd2
                  obtain ⟨a1, m1, d1, a2, m2, d2, rfl, rfl⟩ := hrd1.shape
                  obtain ⟨a3, m3, d3, a4, m4, d4, rfl, rfl⟩ := hrd2.shape
                  clear hrg1 hrd1 hrg2 hrd2
                  obtain ⟨bk, hbk⟩ := tells (l[k] = m[k])
                  have hcall := hide (fun W (hW : Below wr.heap.size wr W) => Calls.tb (ih'.out l[k] m[k] _ _ _ _ W (hd1'.out.below (below_then H.out.2.below hW)) (hd2'.out.below (below_then H.out.2.below hW))) hbk)
                  have hbk' := hide hbk
                  clear hbk
                  simp only at q0 q1 q2 r0 r1 r2 hcall
                  obtain ⟨hp, hhp⟩ : ∃ hp, thd n l[k] = hp := ⟨_, rfl⟩
                  obtain ⟨hq, hhq⟩ : ∃ hq, thd n m[k] = hq := ⟨_, rfl⟩
                  rw [hhp] at q0 hcall
                  rw [hhq] at r0 hcall
                  clear hhp hhq
                  simp only [tvs] at hcall
                  cases bk
                  · go_wp2_with fail
                    go_region_law (first | (go_simp; go_at_call 17; refine (hcall.out _ (by repeat (first | exact Below.refl _ _ | refine below_dr ?_ | refine below_dn ?_ _))).mono ?_; rintro e w3 ⟨rfl, hb3⟩; have T3 : Hid (Below wr.heap.size wr w3) := below_then (by repeat (first | exact Below.refl _ _ | refine below_dr ?_ | refine below_dn ?_ _)) hb3; clear hb3; dsimp only))
                    all_goals
                      go_simp
                      go_wp2_with fail
                      go_ret
                      refine TB.no (fun q => ?_) (below_then H.out.2.below T3.out)
                      have q2 : l = m := congrArg (fun z : TT (n + 1) => z.2) q
                      have := hbk'.out.2 (by congr 1)
                      cases this
                  · go_wp2_with fail
                    go_region_law (first | (go_simp; go_at_call 17; refine (hcall.out _ (by repeat (first | exact Below.refl _ _ | refine below_dr ?_ | refine below_dn ?_ _))).mono ?_; rintro e w3 ⟨rfl, hb3⟩; have T3 : Hid (Below wr.heap.size wr w3) := below_then (by repeat (first | exact Below.refl _ _ | refine below_dr ?_ | refine below_dn ?_ _)) hb3; clear hb3; dsimp only))
                    all_goals
                      go_simp
                      go_wp2_with fail
                      refine ⟨⟨k + 1, by go_num, by omega, (fun i h1 h2 h3 => ?_), H.out.2.then T3.out⟩, by simp [intOf]; omega⟩
                      by_cases e : i = k
                      · subst e; exact hbk'.out.1 (by simp)
                      · exact H.out.1 i h1 h2 (by omega)
                · have hki : ¬ ((k : Int) < (l.length : Int)) := by omega
                  have hF := hide (show l = m from List.ext_getElem hg3.out.symm (fun i h1 h2 => H.out.1 i h1 h2 (by omega)))
                  go_wp2_with fail
                  go_ret
                  exact TB.yes (by rw [hE.out, hF.out]) H.out.2.below
        · have hF : Hid (¬ ((⟨hk, hm⟩, l) : TT (n + 1)) = (⟨hk, gm⟩, m)) := fun q => e3 (by have q2 : l = m := congrArg (fun z : TT (n + 1) => z.2) q; rw [q2])
          have hT := hide T0.out.below
          go_enter Tryd.func17, Tryd.ntmps17
          go_wp2_with fail
          go_ret
          exact TB.no hF.out hT.out
      · have hF : Hid (¬ ((⟨hk, hm⟩, l) : TT (n + 1)) = (⟨hk, gm⟩, m)) := fun q => e2 (by have q2 : hm = gm := congrArg (fun z : TT (n + 1) => z.1.names) q; rw [q2])
        have hT := hide T0.out.below
        go_enter Tryd.func17, Tryd.ntmps17
        go_wp2_with fail
        go_ret
        exact TB.no hF.out hT.out
    · have hF : Hid (¬ ((⟨hk, hm⟩, l) : TT (n + 1)) = (⟨gk, gm⟩, m)) := fun q => e1 (congrArg (fun z : TT (n + 1) => z.1.kind) q)
      have hT := hide T0.out.below
      have e1a : (hk != gk) = true := by simpa using e1
      have e1b : (hk == gk) = false := beq_eq_false_iff_ne.2 e1
      have e1c : decide (hk = gk) = false := decide_eq_false e1
      go_enter Tryd.func17, Tryd.ntmps17
      go_wp2_with fail
      go_ret
      exact TB.no hF.out hT.out
end Go.Proofs.YtolmbjeinilhlaaDoor
