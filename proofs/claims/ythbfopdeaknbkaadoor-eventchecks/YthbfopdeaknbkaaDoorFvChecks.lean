/-
  calamuslaw05.EventChecks answers true for any events, and leaves them as they were: events that come one by one are taken as long as they are the beginning of some value's, a whole one is told as done, and what is open is counted, as the document says; and the document's examples answer as they should.
  What it leans on: utf's two package variables start as the program's text lays them (the card ties them), and what is handed in fits into memory (the form's own reach); nothing else is asked.
-/
import Derived.Test.YthbfopdeaknbkaaDoorFtM
import Derived.Test.YthbfopdeaknbkaaDoorUfTextV
import Derived.Lib.LaidU8T
import Derived.Lib.LaidTab
import Derived.ChangeMaps5
import Derived.ProofKit
import Derived.Lib.SmallJoins
import Derived.Lay
import Derived.SevenTiedAt
import Derived.Test.YthbfopdeaknbkaaDoorWoOpen
import Derived.Test.YthbfopdeaknbkaaDoorCards
import Derived.Test.YthbfopdeaknbkaaDoorTie
/- Merged by program: FqChecks. -/
/- calamuslaw05.EventChecks: walked. -/
namespace Go.Proofs.YthbfopdeaknbkaaDoor
open Go.RowKit
set_option linter.unusedSimpArgs false
set_option linter.unusedVariables false
theorem es_take {W : World} {a : Option Addr} {c : Nat} {es : List Hd} (h : ES W (.slice a es.length c) es) (k : Nat) (hk : k ≤ es.length) : ES W (.slice a k c) (es.take k) := by
  obtain ⟨a', c', e, h1, h2, h3⟩ := h
  cases e
  have hl : (es.take k).length = k := by rw [List.length_take]; omega
  refine ⟨a, c, by rw [hl], by omega, h2, fun hp => ?_⟩
  obtain ⟨b, o, e, hlt, hel⟩ := h3 (by omega)
  refine ⟨b, o, e, hlt, fun i hi => ?_⟩
  have := hel i (by omega)
  rw [List.getElem_take]
  exact this
theorem CkS.open0 {W : World} {i B n : Nat} (h : CkS W i B n none) : Calls Tryd.prog 21 #[.pointer (some ⟨i, 0, none⟩)] W fun r w' => r = .returned (.int .i64 0) ∧ w' = W := by
  have h' : Ck W i B (.slice none 0 0) [] false true := h
  exact copen_any h'
theorem dn_b (W : World) (m : Nat) : Below W.heap.size W (W.drewN m) := ⟨rfl, rfl, rfl, Nat.le_refl _, fun _ _ => rfl⟩
set_option maxHeartbeats 4000000 in
set_option maxRecDepth 100000 in
theorem checks_law (v : Value) (es : List Hd) (w : World) (hv : ES w v es) (hvz : ∀ e ∈ es, EvZ e) (g : Ut.Gu w) :
    Calls Tryd.prog 5 #[v] w fun e w' => e = .returned (.bool true) ∧ Below w.heap.size w w' := by
  have hlb := hide (lbig_any v es w hv hvz)
  have hv' := hide hv
  have hvz' := hide hvz
  obtain ⟨va, vc, rfl⟩ := es_shape hv
  have g' := hide g
  clear hv hvz g
  have ml : maxLen = 9223372036854775807 := rfl
  go_enter Tryd.func5, Tryd.ntmps5
  go_wp2_with (go_at_call 16; refine Stop.out ?_)
  refine Stop.mk (hlb.out.mono ?_)
  rintro e w1 ⟨bl, rfl, hsm, hb1⟩
  have B1 := hide hb1
  clear hb1 hlb
  cases bl
  · have h400 := hide (hsm rfl)
    have hnew := hide cnew_any
    clear hsm
    go_wp2_with (go_at_call 19; refine Stop.out ?_)
    refine Stop.mk ((hnew.out _).mono ?_)
    rintro e w2 ⟨rfl, hk2, hb2⟩
    have z2 : w1.heap.size < w2.heap.size := hk2.lt
    have C2 := hide (CkS.new hk2 (by omega))
    have B2 := hide (below_then B1.out hb2)
    clear hk2 hb2 hnew
    have dn := hide C2.out.done
    have dn' : Hid (Calls Tryd.prog 20 #[.pointer (some ⟨w1.heap.size, 0, none⟩)] w2 fun r w' => r = .returned (.bool false) ∧ ∃ m, w' = w2.drewN m) := dn.out
    have op := hide (fun m => (C2.out.then (dn_b w2 m)).open)
    have op' : Hid (∀ m, Calls Tryd.prog 21 #[.pointer (some ⟨w1.heap.size, 0, none⟩)] (w2.drewN m) fun r w' => r = .returned (.int .i64 0) ∧ w' = w2.drewN m) := op.out
    clear dn op
    go_wp2_with (go_at_call 20; refine Stop.out ?_)
    refine Stop.mk (dn'.out.mono ?_)
    rintro e w3 ⟨rfl, m3, rfl⟩
    go_wp2_with (go_at_call 21; refine Stop.out ?_)
    refine Stop.mk ((op'.out m3).mono ?_)
    rintro e w4 ⟨rfl, hw4⟩
    have C4 : Hid (CkS w4 w1.heap.size (w1.heap.size + 1) 0 (some ([], false))) := by rw [hw4]; exact C2.out.then (dn_b w2 m3)
    have B4 : Hid (Below w.heap.size w w4) := by rw [hw4]; exact below_then B2.out (dn_b w2 m3)
    have z4 : w1.heap.size < w4.heap.size := by rw [hw4]; exact z2
    have zw : w.heap.size ≤ w1.heap.size := B1.out.size
    clear hw4 dn' op' C2 B2 z2
    go_wp2_with fail
    go_loopw [4, 5] (fun u i W => ∃ (k : Nat) (b : Bool), i = .int .i64 k ∧ u = .bool b ∧ k ≤ es.length ∧ Hid ((b = true → runE (es.take k) = none) ∧ (b = false → runE (es.take k) ≠ none) ∧ CkS W w1.heap.size (w1.heap.size + 1) k (runE (es.take k)) ∧ Below w.heap.size w W ∧ w1.heap.size < W.heap.size)) (fun _ i _ => es.length - (intOf i).toNat)
    case atStart => exact ⟨0, false, rfl, rfl, Nat.zero_le _, hide ⟨fun q => (by cases q), fun _ q => (by cases q), by simpa [runE, runS] using C4.out, B4.out, z4⟩⟩
    case round =>
      obtain ⟨k, b, rfl, rfl, hk, HH⟩ := hrel
      obtain ⟨hb1, hb2, hC, hBB, hzz⟩ := HH.out
      have HB1 := hide hb1
      have HB2 := hide hb2
      have CR := hide hC
      have BR := hide hBB
      clear HH hb1 hb2 hC hBB C4 B4 z4
      by_cases hkl : k < es.length
      · have hki : (k : Int) < (es.length : Int) := by omega
        have hk1i : (k : Int) + 1 ≤ (es.length : Int) := by omega
        have hk63 : (k : Int) < 9223372036854775807 := by have := h400.out; omega
        have hkE : Hid (k < es.length) := hkl
        obtain ⟨a, c, he, h1, h2, h3⟩ := hv'.out
        obtain ⟨bb, o, ha, hlt, hel⟩ := h3 (by omega)
        cases he
        subst ha
        have hkc : k + 1 ≤ vc := by omega
        have hkci : (k : Int) + 1 ≤ (vc : Int) := by omega
        have hkc2 : k < vc := by omega
        have hBu := hide (rbuilt_any rmay (es.take (k + 1)) _ wr (es_take (hv'.out.below BR.out) (k + 1) hkl) (fun x hx => hvz'.out x (List.mem_of_mem_take hx)) (by rw [List.length_take]; have := h400.out; omega))
        have HEL := hide (hel k hkl)
        have HLT := hide hlt
        have H1 := hide h1
        have H2 := hide h2
        clear h1 h2 h3 hel ml hlt
        obtain ⟨s', hs'⟩ : ∃ s', runE (es.take (k + 1)) = s' := ⟨_, rfl⟩
        have hstep := runE_take es k hkl
        rw [hs'] at hstep
        have HST := hide hstep
        have HS' := hide hs'
        have hEl : Hid (Calls Tryd.prog 22 #[.slice (some ⟨bb, o, none⟩) (k + 1) vc] wr fun e w' => BltP (es.take (k + 1)) wr e w') := hBu.out
        clear hstep hs' hBu
        go_wp2_with (go_at_call 22; refine Stop.out ?_)
        refine Stop.mk (hEl.out.mono ?_)
        rintro e w5 ⟨hb5, hh, a1, m1, d1, a2, m2, d2, rfl, _⟩
        rw [HS'.out]
        have C5 := hide (CR.out.then hb5)
        have B5 := hide (below_then BR.out hb5)
        have z5 : w1.heap.size < w5.heap.size := Nat.lt_of_lt_of_le hzz hb5.size
        have fd := hide (fun o => cfeed_any (W := w5.alloc o) (i := w1.heap.size) (B := w1.heap.size + 1) (n := k) (runE (es.take k)) (es[k]'hkl) (hvz'.out _ (List.getElem_mem hkl)) (C5.out.then (below_al (Below.refl _ _))) (by simp; omega) (by omega) (by simp; omega) (by have := h400.out; omega) (g'.out.below (below_al B5.out)) (mayB (es[k]'hkl)) (mayB_iff _))
        have hfe := HST.out.symm
        simp only [hfe] at fd
        clear hfe
        obtain ⟨c0, c1, c2, c3, c4, c5, c6⟩ := range7 (rangeAt_below HEL.out B5.out HLT.out)
        obtain ⟨h, hhe⟩ : ∃ h, es[k]'hkl = h := ⟨_, rfl⟩
        rw [hhe] at c0 c1 c2 c3 c4 c5 c6 fd
        simp only [evs] at fd
        simp only [vals]
        have hblt : bb < w5.heap.size := Nat.lt_of_lt_of_le HLT.out B5.out.size
        have hhe' := hide hhe
        clear hb5 hhe CR hEl
        cases s' with
        | none =>
          rw [bltE_none]
          cases b
          all_goals
            go_wp2_with (go_at_call 23; refine Stop.out ?_)
            refine Stop.mk ((fd.out _).mono ?_)
            rintro e w6 ⟨rfl, hc6, hb6⟩
            have C6 := hide hc6
            have B6 : Hid (Below w.heap.size w w6) := (below_al B5.out).trans (hb6.mono zw)
            have z6 : w1.heap.size < w6.heap.size := Nat.lt_of_lt_of_le (by simp; omega) hb6.size
            have dn : Hid (Calls Tryd.prog 20 #[.pointer (some ⟨w1.heap.size, 0, none⟩)] w6 fun r w' => r = .returned (.bool false) ∧ ∃ m, w' = w6.drewN m) := hc6.done
            have op := hide (fun m => (hc6.then (dn_b w6 m)).open0)
            clear hc6 hb6 c0 c1 c2 c3 c4 c5 c6
            go_wp2_with (go_at_call 20; refine Stop.out ?_)
            refine Stop.mk (dn.out.mono ?_)
            rintro e w7 ⟨rfl, m7, rfl⟩
            go_wp2_with (go_at_call 21; refine Stop.out ?_)
            refine Stop.mk ((op.out m7).mono ?_)
            rintro e w8 ⟨rfl, hw8⟩
            have C8 : Hid (CkS w8 w1.heap.size (w1.heap.size + 1) (k + 1) none) := by rw [hw8]; exact C6.out.then (dn_b w6 m7)
            have B8 : Hid (Below w.heap.size w w8) := by rw [hw8]; exact below_then B6.out (dn_b w6 m7)
            have z8 : w1.heap.size < w8.heap.size := by rw [hw8]; exact z6
            clear hw8
            go_wp2_with fail
            exact ⟨⟨k + 1, true, by go_num, rfl, hkE.out, hide ⟨fun _ => HS'.out, fun q => (by cases q), by rw [HS'.out]; exact C8.out, B8.out, z8⟩⟩, by simp [intOf]; have := hkE.out; omega⟩
        | some y =>
          have hbf : b = false := by
            cases b with
            | false => rfl
            | true =>
              have := HST.out
              rw [HB1.out rfl, feedE_none] at this
              cases this
          subst hbf
          obtain ⟨st, bg⟩ := y
          obtain ⟨E, hE⟩ : ∃ E, bltE (some (st, bg)) = E := ⟨_, rfl⟩
          obtain ⟨D, hD⟩ : ∃ D, doneS (some (st, bg)) = D := ⟨_, rfl⟩
          have hED : (D = true ∧ E = 0) ∨ (D = false ∧ E = 51) := by
            unfold bltE at hE
            rw [hD] at hE
            cases D with
            | true => exact Or.inl ⟨rfl, hE.symm⟩
            | false => exact Or.inr ⟨rfl, hE.symm⟩
          have hD' := hide hD
          rw [hE]
          clear hE hD
          rcases hED with ⟨rfl, rfl⟩ | ⟨rfl, rfl⟩
          all_goals
            go_wp2_with (go_at_call 23; refine Stop.out ?_)
            refine Stop.mk ((fd.out _).mono ?_)
            rintro e w6 ⟨rfl, hc6, hb6⟩
            have C6 := hide hc6
            have B6 : Hid (Below w.heap.size w w6) := (below_al B5.out).trans (hb6.mono zw)
            have z6 : w1.heap.size < w6.heap.size := Nat.lt_of_lt_of_le (by simp; omega) hb6.size
            have dn := hide (fun m => (hc6.then (dn_b w6 m)).done)
            rw [hD'.out] at dn
            have op := hide (fun m => (hc6.then (dn_b w6 m)).open)
            have ro : Hid (∀ m, Calls Tryd.prog 24 #[.slice (some ⟨bb, o, none⟩) (k + 1) vc] (w6.drewN m) fun e w' => e = .returned (.int .i64 st.length) ∧ w' = w6.drewN m) := fun m => ropen_any _ (es.take (k + 1)) (w6.drewN m) (es_take (hv'.out.below (below_then B6.out (dn_b w6 m))) (k + 1) hkE.out) (by rw [List.length_take]; have := h400.out; omega) st bg HS'.out
            clear hc6 hb6 c0 c1 c2 c3 c4 c5 c6
            go_wp2_with fail
            go_quiet (first | (go_at_call 20; exact Calls.quiet_of (dn.out _)) | (go_at_call 21; exact Calls.quiet_of_same (op.out _)) | (go_at_call 24; exact Calls.quiet_of_same (ro.out _)))
            go_simp
            go_wp2_with fail
            exact ⟨⟨k + 1, false, by go_num, rfl, hkE.out, hide ⟨fun q => (by cases q), fun _ q => (by rw [HS'.out] at q; cases q), by rw [HS'.out]; exact C6.out.then (dn_b w6 _), below_then B6.out (dn_b w6 _), z6⟩⟩, by simp [intOf]; have := hkE.out; omega⟩
      · have hki : ¬ ((k : Int) < (es.length : Int)) := by omega
        have aw := hide (awake_any wr (g'.out.below BR.out))
        go_wp2_with (go_at_call 13; refine Stop.out ?_)
        refine Stop.mk (aw.out.mono ?_)
        rintro e wy ⟨rfl, hby⟩
        have BY := hide (below_then BR.out hby)
        clear hby
        go_wp2_with fail
        go_ret
        exact ⟨rfl, BY.out⟩
  · go_wp2_with fail
    go_ret
    exact ⟨rfl, B1.out⟩
end Go.Proofs.YthbfopdeaknbkaaDoor
/- What the rows of layer 4 list, as the walks want it. -/
namespace Go.Proofs.YthbfopdeaknbkaaDoor.Ut
open Go.ChangeShapes Go.WideShapes Go.ChangeAt Go.RowKit Go.Joins
set_option linter.unusedVariables false
set_option maxRecDepth 100000
theorem c5 : Tryd.prog.cellsOf 5 = 1 := by kernel_rfl
theorem c46 : Tryd.prog.cellsOf 89 = 2 := by kernel_rfl
theorem c48 : Tryd.prog.cellsOf 91 = 8 := by kernel_rfl
theorem c62 : Tryd.prog.cellsOf 104 = 64 := by kernel_rfl
theorem split_at' (k n : Nat) (cs : List Value) : cs.drop k = (cs.drop k).take n ++ cs.drop (k + n) := by
  rw [← List.drop_drop]; exact (List.take_append_drop n _).symm
/-- Four spans that read as these numbers hold them, cell for cell. -/
theorem spans_cells {W : World} {fuel : Nat} {cs : List Value} {p : List MemPlace} {a b c d e f g h : Int}
    (hd : DataW.trod (fun _ => ()) Tryd.prog W 0 (fun _ => true) false fuel 91 cs = some (.agg [.agg [.lit (.int .u8 a), .lit (.int .u8 b)], .agg [.lit (.int .u8 c), .lit (.int .u8 d)], .agg [.lit (.int .u8 e), .lit (.int .u8 f)], .agg [.lit (.int .u8 g), .lit (.int .u8 h)]], p)) :
    cs = [.int .u8 a, .int .u8 b, .int .u8 c, .int .u8 d, .int .u8 e, .int .u8 f, .int .u8 g, .int .u8 h] := by
  obtain ⟨xs, m1, rfl, hx1, hlen, hn3, hel⟩ := DataW.trod_array Tryd.underlying91 hd
  rw [c48] at hlen
  have key : ∀ (i : Nat) (x y : Int), i < 4 → ([.agg [.lit (.int .u8 a), .lit (.int .u8 b)], .agg [.lit (.int .u8 c), .lit (.int .u8 d)], .agg [.lit (.int .u8 e), .lit (.int .u8 f)], .agg [.lit (.int .u8 g), .lit (.int .u8 h)]] : List (DataW Unit))[i]? = some (.agg [.lit (.int .u8 x), .lit (.int .u8 y)]) → (cs.drop (i * 2)).take 2 = [.int .u8 x, .int .u8 y] := by
    intro i x y hi hxy
    obtain ⟨fuel', d', q, hdi, he⟩ := Lib.array_elem Tryd.underlying91 hd i hi
    rw [hxy] at hdi
    obtain rfl := Option.some.inj hdi
    rw [c46] at he
    exact Lib.cells_of_tab (zs := [x, y]) Tryd.underlying89 Tryd.underlying5 c5 c46 he
  have k0 := key 0 a b (by omega) rfl
  have k1 := key 1 c d (by omega) rfl
  have k2 := key 2 e f (by omega) rfl
  have k3 := key 3 g h (by omega) rfl
  have e0 : cs = cs.drop 0 := rfl
  rw [e0, split_at' 0 2 cs, split_at' (0 + 2) 2 cs, split_at' (0 + 2 + 2) 2 cs, split_at' (0 + 2 + 2 + 2) 2 cs, List.drop_of_length_le (i := 0 + 2 + 2 + 2 + 2) (by omega)]
  simp only [Nat.zero_mul, Nat.one_mul] at k0 k1 k2 k3
  rw [k0, k1, k2, k3]
  rfl
theorem longer_cells {W : World} {fuel : Nat} {cs : List Value} {p : List MemPlace}
    (hd : DataW.trod (fun _ => ()) Tryd.prog W 0 (fun _ => true) false fuel 104 cs = some (Rows.laid_calamus_utf_longer, p)) : cs = lgC.toList := by
  obtain ⟨xs, m1, rfl, hx1, hlen, hn3, hel⟩ := DataW.trod_array Tryd.underlying104 hd
  rw [c62] at hlen
  have key : ∀ (i : Nat), i < 8 → ∃ fuel' q d', (match (Rows.laid_calamus_utf_longer : DataW Unit) with | .agg ds => ds | _ => [])[i]? = some d' ∧ DataW.trod (fun _ => ()) Tryd.prog W 0 (fun _ => true) false fuel' 91 ((cs.drop (i * 8)).take 8) = some (d', q) := by
    intro i hi
    obtain ⟨fuel', d', q, hdi, he⟩ := Lib.array_elem Tryd.underlying104 hd i hi
    rw [c48] at he
    exact ⟨fuel', q, d', hdi, he⟩
  have k0 : (cs.drop (0 * 8)).take 8 = [.int .u8 194, .int .u8 223, .int .u8 128, .int .u8 191, .int .u8 0, .int .u8 0, .int .u8 0, .int .u8 0] := by
    obtain ⟨fuel', q, d', hdi, he⟩ := key 0 (by omega)
    obtain rfl := Option.some.inj hdi
    exact spans_cells he
  have k1 : (cs.drop (1 * 8)).take 8 = [.int .u8 224, .int .u8 224, .int .u8 160, .int .u8 191, .int .u8 128, .int .u8 191, .int .u8 0, .int .u8 0] := by
    obtain ⟨fuel', q, d', hdi, he⟩ := key 1 (by omega)
    obtain rfl := Option.some.inj hdi
    exact spans_cells he
  have k2 : (cs.drop (2 * 8)).take 8 = [.int .u8 225, .int .u8 236, .int .u8 128, .int .u8 191, .int .u8 128, .int .u8 191, .int .u8 0, .int .u8 0] := by
    obtain ⟨fuel', q, d', hdi, he⟩ := key 2 (by omega)
    obtain rfl := Option.some.inj hdi
    exact spans_cells he
  have k3 : (cs.drop (3 * 8)).take 8 = [.int .u8 237, .int .u8 237, .int .u8 128, .int .u8 159, .int .u8 128, .int .u8 191, .int .u8 0, .int .u8 0] := by
    obtain ⟨fuel', q, d', hdi, he⟩ := key 3 (by omega)
    obtain rfl := Option.some.inj hdi
    exact spans_cells he
  have k4 : (cs.drop (4 * 8)).take 8 = [.int .u8 238, .int .u8 239, .int .u8 128, .int .u8 191, .int .u8 128, .int .u8 191, .int .u8 0, .int .u8 0] := by
    obtain ⟨fuel', q, d', hdi, he⟩ := key 4 (by omega)
    obtain rfl := Option.some.inj hdi
    exact spans_cells he
  have k5 : (cs.drop (5 * 8)).take 8 = [.int .u8 240, .int .u8 240, .int .u8 144, .int .u8 191, .int .u8 128, .int .u8 191, .int .u8 128, .int .u8 191] := by
    obtain ⟨fuel', q, d', hdi, he⟩ := key 5 (by omega)
    obtain rfl := Option.some.inj hdi
    exact spans_cells he
  have k6 : (cs.drop (6 * 8)).take 8 = [.int .u8 241, .int .u8 243, .int .u8 128, .int .u8 191, .int .u8 128, .int .u8 191, .int .u8 128, .int .u8 191] := by
    obtain ⟨fuel', q, d', hdi, he⟩ := key 6 (by omega)
    obtain rfl := Option.some.inj hdi
    exact spans_cells he
  have k7 : (cs.drop (7 * 8)).take 8 = [.int .u8 244, .int .u8 244, .int .u8 128, .int .u8 143, .int .u8 128, .int .u8 191, .int .u8 128, .int .u8 191] := by
    obtain ⟨fuel', q, d', hdi, he⟩ := key 7 (by omega)
    obtain rfl := Option.some.inj hdi
    exact spans_cells he
  have e0 : cs = cs.drop 0 := rfl
  rw [e0, split_at' 0 8 cs, split_at' (0 + 8) 8 cs, split_at' (0 + 8 + 8) 8 cs, split_at' (0 + 8 + 8 + 8) 8 cs, split_at' (0 + 8 + 8 + 8 + 8) 8 cs, split_at' (0 + 8 + 8 + 8 + 8 + 8) 8 cs, split_at' (0 + 8 + 8 + 8 + 8 + 8 + 8) 8 cs, split_at' (0 + 8 + 8 + 8 + 8 + 8 + 8 + 8) 8 cs, List.drop_of_length_le (i := 0 + 8 + 8 + 8 + 8 + 8 + 8 + 8 + 8) (by omega)]
  simp only [Nat.reduceMul, Nat.reduceAdd] at k0 k1 k2 k3 k4 k5 k6 k7 ⊢
  rw [k0, k1, k2, k3, k4, k5, k6, k7]
  rfl
theorem heap_of_var {W : World} {n : String} {g : Nat} {cs : Array Value} (hg : Tryd.prog.globalNamed n = some g) (h : W.var? Tryd.prog n = some cs) : ∃ t fr, W.heap[g]? = some (.cells cs t fr) := by
  simp only [World.var?, hg, Option.bind_some] at h
  split at h
  · rename_i cs' t fr e
    obtain rfl := Option.some.inj h
    exact ⟨t, fr, e⟩
  · cases h
theorem of_laid2 {W : World} (h : laidMetH Tryd.prog [("calamus/utf.between", Rows.laid_calamus_utf_between), ("calamus/utf.longer", Rows.laid_calamus_utf_longer)] W) : Gu W := by
  rw [MakeChecks.laidMetH_plain _ _ _ (by kernel_rfl)] at h
  have r1 := Lib.laidMet.reads h (.head _)
  have r2 := Lib.laidMet.reads h (.tail _ (.head _))
  obtain ⟨g1, t1, cs1, f1, p1, hg1, ht1, hv1, hd1⟩ := r1
  obtain ⟨g2, t2, cs2, f2, p2, hg2, ht2, hv2, hd2⟩ := r2
  obtain rfl := Option.some.inj ((show Tryd.prog.globalNamed "calamus/utf.between" = some 0 by kernel_rfl).symm.trans hg1)
  obtain rfl := Option.some.inj ((show Tryd.prog.globalNamed "calamus/utf.longer" = some 1 by kernel_rfl).symm.trans hg2)
  obtain rfl := Option.some.inj ((show Option.map (fun x => x.type) Tryd.prog.globals[0]? = some 91 by kernel_rfl).symm.trans ht1)
  obtain rfl := Option.some.inj ((show Option.map (fun x => x.type) Tryd.prog.globals[1]? = some 104 by kernel_rfl).symm.trans ht2)
  have e1 := spans_cells hd1
  have e2 := longer_cells hd2
  obtain ⟨t, fr, q1⟩ := heap_of_var hg1 hv1
  obtain ⟨t', fr', q2⟩ := heap_of_var hg2 hv2
  have hc1 : cs1 = #[.int .u8 0, .int .u8 0, .int .u8 0, .int .u8 0, .int .u8 0, .int .u8 0, .int .u8 0, .int .u8 0] := Array.toList_inj.1 e1
  have hc2 : cs2 = lgC := Array.toList_inj.1 e2
  rw [hc1] at q1
  rw [hc2] at q2
  exact ⟨⟨t, fr, q1⟩, ⟨t', fr', q2⟩⟩
end Go.Proofs.YthbfopdeaknbkaaDoor.Ut
namespace Go.Proofs.YthbfopdeaknbkaaDoor
open Go.ChangeShapes Go.WideShapes Go.ChangeAt Go.RowKit Go.Joins Go.ChangeMaps
set_option linter.unusedVariables false
set_option maxRecDepth 100000 in
theorem eventChecks_lifted (os : Os) (started : os.Started) (H : Type) (enc : TypeId × Value → H) :
    ReturnsInHanded {} Tryd.checked os 5 .any (fun w args => (Rows.eventChecksSpec.pre enc Tryd.prog Tryd.f5 [] false w args ∧ laidMetH Tryd.prog Rows.eventChecksRow.laid w) ∧ sizedMet enc Tryd.prog Tryd.f5 (OpenSpec.ofChange Rows.eventChecksSpec) false w args)
      (Rows.eventChecksSpec.post enc Tryd.prog Tryd.f5 false true false false) := by
  refine returnsInHanded_of_change_and (C := Tryd.checked) (X := fun w _ => laidMetH Tryd.prog Rows.eventChecksRow.laid w) (fun _ _ _ hh h => h.of_heap hh) own started (by kernel_rfl) Tryd.func5
    (ChangeSpec.witness_shaped (enc := enc) (C := Tryd.checked) (os := os) (X := fun w _ => laidMetH Tryd.prog Rows.eventChecksRow.laid w) false (World.laidAll Tryd.prog os Rows.eventChecksRow.laid) #[.slice none 0 0] 8 (World.laidAll_os _ _ _)
      (World.shaped_of_ZipB (by kernel_rfl) (by kernel_rfl)) (by kernel_rfl) (by kernel_rfl) (by kernel_rfl)
      (by rw [MakeChecks.laidMetH_plain _ _ _ (by kernel_rfl)]; exact laidMet_laidAll _ (by kernel_rfl) (by kernel_rfl))) ?_
  intro W base args ds gs before hval0 hW _ hsz0 hL _
  have hval : ∀ (j : Nat) t v, Tryd.f5.params[j]? = some t → args[j]? = some v → Value.okWide Tryd.prog W .any base t v := hval0
  have hsz : (DataW.weightsEach Tryd.prog (Tryd.f5.params.toList ++ Rows.eventChecksSpec.plain.varTypes Tryd.prog) (ds ++ gs)).all (· ≤ reachBytes) = true := hsz0
  clear hsz0
  have hW' := hW
  have hltB := hW.lt
  obtain ⟨p, q, hA0, hV, rfl, _, _⟩ := hW
  have hA : DataW.TrodAll enc Tryd.prog W 0 (fun _ => true) true Tryd.f5.params.toList args.toList ds p := hA0
  rw [Tryd.params5] at hA hval hsz
  have hltA : ∀ x ∈ p, x.block < W.heap.size := fun x hx => hltB x (by simp [hx])
  obtain ⟨v0, d0, rfl, rfl, h0⟩ := trodAll_one hA
  obtain ⟨rfl, rfl⟩ := trodVars_none hV
  have hwt : ∀ k ∈ DataW.weightsEach Tryd.prog [32] [d0], k ≤ reachBytes := by
    have hvt : Rows.eventChecksSpec.plain.varTypes Tryd.prog = [] := rfl
    rw [hvt, List.append_nil, List.append_nil] at hsz
    intro k hk
    simpa using List.all_eq_true.1 hsz k hk
  have hlt0 : ∀ x ∈ p, x.block < W.heap.size := fun x hx => hltA x (by simp [hx])
  obtain ⟨la0, ll0, lc0, rfl⟩ := okWide_slice Tryd.underlying32 (hval 0 32 v0 rfl rfl)
  obtain ⟨f0, hf0⟩ := h0
  obtain ⟨t0, hr0, hz0⟩ := open_es f0 (.slice la0 ll0 lc0) _ hf0 hlt0 (fun k hk => hwt k (by simp [DataW.weightsEach, hk]))
  clear hA0 hval0
  simp only [List.append_nil] at hW'
  refine (checks_law (.slice la0 ll0 lc0) t0 W hr0 hz0 (Ut.of_laid2 hL)).mono fun e W' ⟨he, hb⟩ => ?_
  subst he
  exact ⟨_, rfl, _, _, _, [], _, [], hW', trodAll_mk1 (shut_bool Tryd.underlying4 _), trodAll_mk1 (Below.trod laidOut (by kernel_rfl) (of_decide_eq_true (by kernel_rfl)) ⟨f0, hf0⟩ hb hlt0), rfl, hb.frame _, fun h => by cases h⟩
theorem eventChecks_holds : Rows.EventChecksSaid :=
  OpenClaim.holds_of_wide 5 Tryd.f5 rfl rfl rfl rfl rfl rfl rfl ⟨rfl, rfl, rfl, rfl, rfl⟩ rfl rfl rfl rfl rfl (by kernel_rfl) Tryd.func5 (by kernel_rfl)
    (of_decide_eq_true (by kernel_rfl)) (by unfold Func.isWrapper; first | (rw [if_pos (by decide +kernel)]; kernel_rfl) | (rw [if_neg (by decide +kernel)]; exact ⟨rfl, rfl⟩))
    (fun os started H enc _ => eventChecks_lifted os started H enc)
theorem eventChecks_card : Rows.EventChecksCardSaid :=
  Claim7.holds_tied_plain_at .later [] [.wider, .data] true Rows.eventChecksCard.stood.harness false
    eventChecks_holds (fun _ h => by cases h) (by kernel_rfl) (fun _ h => by cases h) eventChecks_row_tie rfl ⟨rfl, rfl⟩ (by kernel_rfl) rfl
    (fun f fn hf hfn => by
      obtain rfl : f = 5 := Option.some.inj ((show Tryd.prog.funcNamed Rows.eventChecksRow.func = some 5 by kernel_rfl).symm.trans hf) |>.symm
      obtain rfl : fn = Tryd.f5 := (Option.some.inj (Tryd.func5.symm.trans hfn)).symm
      exact ⟨by kernel_rfl, fun j t ht => by
        rw [Tryd.params5] at ht
        have hm : t ∈ [32] := by simpa using Array.mem_of_getElem? ht
        have hall : ([32].all fun u => !Tryd.prog.wantsStandIn u) = true := by kernel_rfl
        exact (show Tryd.prog.wantsStandIn t = false by simpa using List.all_eq_true.1 hall t hm)⟩)
    (by kernel_rfl)
#print axioms eventChecks_card
end Go.Proofs.YthbfopdeaknbkaaDoor
