/- event.Build: walked. -/
import Derived.Test.YthbfopdeaknbkaaDoorElBuild
import Derived.Test.YthbfopdeaknbkaaDoorEmRun
namespace Go.Proofs.YthbfopdeaknbkaaDoor
open Go.RowKit
set_option linter.unusedSimpArgs false
set_option linter.unusedVariables false
/-- A checker is done. -/
def doneS : Option (List Pa × Bool) → Bool
  | some ([], b) => b
  | _ => false
theorem CkS.done {W : World} {i B n : Nat} {s : Option (List Pa × Bool)} (h : CkS W i B n s) : Calls Tryd.prog 20 #[.pointer (some ⟨i, 0, none⟩)] W fun r w' => r = .returned (.bool (doneS s)) ∧ ∃ m, w' = W.drewN m := by
  cases s with
  | none =>
    have h' : Ck W i B (.slice none 0 0) [] false true := h
    refine (cdone_any h').mono ?_
    rintro r w' ⟨rfl, m, rfl⟩
    exact ⟨rfl, m, rfl⟩
  | some x =>
    obtain ⟨st, bg⟩ := x
    obtain ⟨v, ps, c, hps, _⟩ := h
    refine (cdone_any c).mono ?_
    rintro r w' ⟨rfl, m, rfl⟩
    refine ⟨?_, m, rfl⟩
    have hps : (ps.map Pt.abs).reverse = st := hps
    have he : (bg && decide (ps = [])) = doneS (some (st, bg)) := by
      cases st with
      | nil => rw [nil_ps hps]; simp [doneS]
      | cons a r =>
        obtain ⟨qs, p, rfl, _⟩ := split_ps hps
        simp [doneS]
    rw [he]
theorem CkS.new {w : World} {i : Nat} (h : KB w i (.slice none 0 0) false false) (hs : i + 1 ≤ w.heap.size) : CkS w i (i + 1) 0 (some ([], false)) :=
  ⟨.slice none 0 0, [], Ck.new h (by omega) hs, rfl, Nat.le_refl _, fun p hp => by cases hp⟩
theorem runE_take (es : List Hd) (k : Nat) (hk : k < es.length) : runE (es.take (k + 1)) = feedE (runE (es.take k)) (mayB es[k]) es[k] := by
  rw [List.take_succ_eq_append_getElem hk]
  unfold runE
  rw [runS_app]
  rfl
theorem runE_cut (es : List Hd) (k : Nat) (h : runE (es.take k) = none) : runE es = none := by
  have := List.take_append_drop k es
  rw [← this]
  unfold runE at h ⊢
  rw [runS_app, h, runS_none]
/-- What Build is called on. -/
structure Bd (w : World) (es : List Hd) (b o c : Nat) : Prop where
  el : EL w b o es
  lt : b < w.heap.size
  len : es.length ≤ c
  max : c ≤ maxLen
  small : es.length ≤ 50000
  ez : ∀ e ∈ es, EvZ e
theorem Bd.at {w : World} {es : List Hd} {b o c : Nat} (h : Bd w es b o c) (k : Nat) (hk : k < es.length) : w.rangeAt b (o + k * 7) (evs es[k]).toList := h.el k hk
/-- What Build answers (x: whose events they are, E: what Check answers of it, where they are a whole value's). -/
def BR (es : List Hd) (n : Nat) (x : VT n) (E : Int) (w w' : World) (e : Ending) : Prop :=
  (runE es = none → e = .returned (.tuple #[.agg #[.int .i64 0, .bool false, .bool false, .string ⟨#[]⟩, .int .i64 0, .int .u64 0, .string ⟨#[]⟩, .slice none 0 0, .slice none 0 0], .int .i64 50])) ∧
  (runE es ≠ none → doneS (runE es) = false → e = .returned (.tuple #[.agg #[.int .i64 0, .bool false, .bool false, .string ⟨#[]⟩, .int .i64 0, .int .u64 0, .string ⟨#[]⟩, .slice none 0 0, .slice none 0 0], .int .i64 51])) ∧
  (doneS (runE es) = true → (E ≠ 0 → e = .returned (.tuple #[.agg #[.int .i64 0, .bool false, .bool false, .string ⟨#[]⟩, .int .i64 0, .int .u64 0, .string ⟨#[]⟩, .slice none 0 0, .slice none 0 0], .int .i64 2])) ∧ (E = 0 → ∃ ns ls s f, e = .returned (.tuple #[.agg (vals (vhd n x) ns ls), .int .i64 0]) ∧ w.heap.size ≤ s ∧ Hid (KR n w' x ns ls s f)))
theorem Bx.low {W W1 : World} {i q : Nat} {h : Hd} {ns ls : Value} (k : Bx W q h ns ls) (hb : Below i W W1) (hq : q < i) : Bx W1 q h ns ls := ⟨(hb.block q hq).trans k.at_⟩
set_option maxHeartbeats 4000000 in
set_option maxRecDepth 100000 in
theorem Build_any (es : List Hd) (b o c : Nat) (w : World) (hB : Bd w es b o c) (hc2 : 2 ≤ c) (g : Ut.Gu w) (n : Nat) (x : VT n) (tr : doneS (runE es) = true → es = fl n x ∧ NF n x ∧ Sz n x ∧ siz n x ≤ 200000) (E : Int) (hE : Chk n x E) :
    Calls Tryd.prog 17 #[.slice (some ⟨b, o, none⟩) es.length c] w fun e w' => Below w.heap.size w w' ∧ BR es n x E w w' e := by
  have hnew := hide cnew_any
  have hlen := hB.len
  have hmax := hB.max
  have hsm := hB.small
  have hlt := hB.lt
  have hB' := hide hB
  have tr' := hide tr
  have hE' := hide hE
  have g' := hide g
  have ml : maxLen = 9223372036854775807 := rfl
  clear hB tr hE g
  go_enter Tryd.func17, Tryd.ntmps17
  go_wp2_with (go_at_call 19; refine (hnew.out _).mono ?_; rintro e w1 ⟨rfl, hk1, hb1⟩)
  simp only [World.size_alloc] at hk1
  have z1 : w.heap.size + 1 < w1.heap.size := hk1.lt
  have HR1 := hide ((bx_new w (zr 0) (.slice none 0 0) (.slice none 0 0)).below hb1)
  have HB1 := hide (below_then (below_al (Below.refl _ _)) hb1)
  have HC1 := hide (CkS.new hk1 (by omega))
  clear hk1 hb1 hnew
  go_loopw [13] (fun u W => ∃ k : Nat, u = .int .i64 k ∧ k ≤ es.length ∧ Hid (CkS W (w.heap.size + 1) (w.heap.size + 1 + 1) k (runE (es.take k)) ∧ runE (es.take k) ≠ none ∧ Below w.heap.size w W ∧ Bx W w.heap.size (zr 0) (.slice none 0 0) (.slice none 0 0) ∧ w.heap.size + 1 < W.heap.size)) (fun u _ => es.length - (intOf u).toNat)
  case atStart => exact ⟨0, rfl, Nat.zero_le _, hide ⟨by simpa [runE, runS] using HC1.out, by simp [runE, runS], HB1.out, HR1.out, z1⟩⟩
  case round =>
    obtain ⟨k, rfl, hk, HH⟩ := hrel
    obtain ⟨hC, hne, hbw, hR, hz⟩ := HH.out
    have hbr : b < wr.heap.size := Nat.lt_of_lt_of_le hlt hbw.size
    have zw : w.heap.size < wr.heap.size := by omega
    obtain ⟨r0, r1, r2, r3, r4, r5, r6, r7, r8⟩ := hR.cells
    have fR := hR.frz
    simp only [zr] at r0 r1 r2 r3 r4 r5 r6
    clear HC1 HR1 HB1 HH
    by_cases hkl : k < es.length
    · have hki : (k : Int) < (es.length : Int) := by omega
      obtain ⟨c0, c1, c2, c3, c4, c5, c6⟩ := range7 (rangeAt_below (hB'.out.at k hkl) hbw hlt)
      have fd := hide (cfeed_any (W := wr.alloc (.cells (evs es[k]) 42)) (i := w.heap.size + 1) (B := w.heap.size + 1 + 1) (n := k) (runE (es.take k)) es[k] (hB'.out.ez _ (List.getElem_mem hkl)) (hC.then (below_al (Below.refl _ _))) (by simp; omega) (by omega) (by simp; omega) (by omega) (g'.out.below (below_al hbw)) (mayB es[k]) (mayB_iff _))
      rw [← runE_take es k hkl] at fd
      obtain ⟨h, hh⟩ : ∃ h, es[k] = h := ⟨_, rfl⟩
      rw [hh] at c0 c1 c2 c3 c4 c5 c6 fd
      simp only [evs] at fd
      have hR' := hide hR
      have hbw' := hide hbw
      have hrun := hide (fun q : runE (es.take (k + 1)) = none => runE_cut es (k + 1) q)
      obtain ⟨s, hs⟩ : ∃ s, runE (es.take (k + 1)) = s := ⟨_, rfl⟩
      rw [hs] at fd hrun
      have hs' := hide hs
      clear hC hne hR hbw hs
      cases s with
      | none =>
        go_wp2_with (go_at_call 23; refine fd.out.mono ?_; rintro e w2 ⟨rfl, hc2', hb2⟩; have R2 := hide ((hR'.out.below (below_al (Below.refl _ _))).low hb2 (Nat.lt_succ_self _)); obtain ⟨r0, r1, r2, r3, r4, r5, r6, r7, r8⟩ := R2.out.cells; have fR := R2.out.frz; simp only [zr] at r0 r1 r2 r3 r4 r5 r6; have B2 := hide ((below_al hbw'.out).trans (hb2.mono (Nat.le_succ _))); clear hc2' hb2)
        refine bodyPost_ret (v := .tuple #[.agg #[.int .i64 0, .bool false, .bool false, .string ⟨#[]⟩, .int .i64 0, .int .u64 0, .string ⟨#[]⟩, .slice none 0 0, .slice none 0 0], .int .i64 50]) (by simp [results, Tryd.results17, go_sem, *]) rfl ⟨?_, ?_⟩
        · (iterate 9 (refine Below.setCell ?_ (by show _ ≤ _; exact Nat.le_refl _) _))
          exact B2.out
        · have hn := hrun.out trivial
          exact ⟨fun _ => rfl, fun h => absurd hn h, fun h => by rw [hn] at h; cases h⟩
      | some y =>
        go_wp2_with (go_at_call 23; refine fd.out.mono ?_; rintro e w2 ⟨rfl, hc2', hb2⟩; have R2 := hide ((hR'.out.below (below_al (Below.refl _ _))).low hb2 (Nat.lt_succ_self _)); have B2 := hide ((below_al hbw'.out).trans (hb2.mono (Nat.le_succ _))); have C2 := hide hc2'; have z2 := hb2.size; simp only [World.size_alloc] at z2; clear hc2' hb2)
        exact ⟨⟨k + 1, by go_num, by omega, hide ⟨by rw [hs'.out]; exact C2.out, by rw [hs'.out]; simp, B2.out, R2.out, by omega⟩⟩, by simp [intOf]; omega⟩
    · have hki : ¬ ((k : Int) < (es.length : Int)) := by omega
      have hkeq : k = es.length := by omega
      subst hkeq
      rw [List.take_length] at hC hne
      have dn := hide hC.done
      have hne' := hide hne
      have hR' := hide hR
      have hbw' := hide hbw
      clear hC hne hR hbw
      have drewN_below : ∀ m, Below wr.heap.size wr (wr.drewN m) := fun m => ⟨rfl, rfl, rfl, Nat.le_refl _, fun _ _ => rfl⟩
      by_cases hd : doneS (runE es) = true
      · obtain ⟨he, nf, sz, le⟩ := tr'.out hd
        have bl := hide (fun W (hb : Below w.heap.size w W) => build_any n x nf [] b o c W (by rw [List.append_nil, ← he]; exact hB'.out.el.below hb hlt) (Nat.lt_of_lt_of_le hlt hb.size) (by rw [List.append_nil, ← he]; exact hlen) hmax hc2 (by rw [List.append_nil, ← he]; omega))
        have ck := hide (fun W ns ls (hb : Below w.heap.size w W) (hr : RD n W x ns ls) => check_any n x ns ls W ⟨hr, sz, le⟩ (g'.out.below hb) E hE'.out)
        rw [hd] at dn
        have dd := hide drewN_below
        have he' := hide he
        have hd' := hide hd
        simp only [List.append_nil] at bl
        rw [← he] at bl
        obtain ⟨hx, hhx⟩ : ∃ hx, vhd n x = hx := ⟨_, rfl⟩
        rw [hhx] at bl ck
        simp only [vals] at bl ck
        clear drewN_below r0 r1 r2 r3 r4 r5 r6 r7 r8 fR hd he
        go_wp2_with (go_at_call 20; refine dn.out.mono ?_; rintro e w2 ⟨rfl, m2, rfl⟩)
        have B2 := hide (hbw'.out.trans ((dd.out m2).mono hbw'.out.size))
        refine (bl.out _ B2.out).mono ?_
        rintro e w3 ⟨ns3, ls3, sv, rfl, hk3, hb3, _⟩
        obtain ⟨q1, q2, q3, q4, q5, q6, rfl, rfl⟩ := hk3.out.rd.shape
        have B3 := hide (below_then B2.out hb3.out)
        have z3 : wr.heap.size ≤ w3.heap.size := hb3.out.size
        have R3 := hide ((hR'.out.below (dd.out m2)).below hb3.out)
        by_cases hE0 : E = 0
        · subst hE0
          go_wp2_with (go_at_call 27; refine (ck.out _ _ _ (below_al B3.out) (hk3.out.rd.below (below_al (Below.refl _ _)))).mono ?_; rintro e w4 ⟨rfl, hb4⟩; have R4 := hide ((R3.out.below (below_al (Below.refl _ _))).below hb4); obtain ⟨r0, r1, r2, r3, r4, r5, r6, r7, r8⟩ := R4.out.cells; have fR := R4.out.frz; simp only [zr] at r0 r1 r2 r3 r4 r5 r6; have V4 := hide ((bx_new w3 hx (.slice q1 q2 q3) (.slice q4 q5 q6)).below hb4); obtain ⟨v0, v1, v2, v3, v4, v5, v6, v7, v8⟩ := V4.out.cells; have B4 := hide (below_then (below_al B3.out) hb4); have z4 := hb4.size; simp only [World.size_alloc] at z4; have K4 := hide (hk3.out.move (W1 := w4) (by omega) (fun q p1 p2 => by rw [hb4.block q (by simp; omega), Below.heap_alloc _ _ _ p2])); clear hb4)
          refine bodyPost_ret (v := .tuple #[.agg #[.int .i64 hx.kind, .bool hx.flag, .bool hx.neg, .string hx.dig, .int .i64 hx.exp, .int .u64 hx.bits, .string hx.text, .slice q1 q2 q3, .slice q4 q5 q6], .int .i64 0]) (by simp [results, Tryd.results17, go_sem, *]) rfl ⟨?_, ?_⟩
          · (iterate 9 (refine Below.setCell ?_ (by show _ ≤ _; exact Nat.le_refl _) _))
            exact B4.out
          · refine ⟨fun h => absurd h hne'.out, fun _ h => (by rw [hd'.out] at h; cases h), fun _ => ⟨fun h => absurd rfl h, fun _ => ⟨.slice q1 q2 q3, .slice q4 q5 q6, wr.heap.size, w3.heap.size, by rw [hhx]; rfl, by omega, ?_⟩⟩⟩
            refine hide (K4.out.move (by simp; omega) ?_)
            intro q p1 p2
            have p1' : wr.heap.size ≤ q := p1
            simp only [heap_set_ne (show q ≠ w.heap.size by omega)]
        · have hE1 : (E != 0) = true := by simpa using hE0
          go_wp2_with (go_at_call 27; refine (ck.out _ _ _ (below_al B3.out) (hk3.out.rd.below (below_al (Below.refl _ _)))).mono ?_; rintro e w4 ⟨rfl, hb4⟩; have R4 := hide ((R3.out.below (below_al (Below.refl _ _))).below hb4); obtain ⟨r0, r1, r2, r3, r4, r5, r6, r7, r8⟩ := R4.out.cells; have fR := R4.out.frz; simp only [zr] at r0 r1 r2 r3 r4 r5 r6; have V4 := hide ((bx_new w3 hx (.slice q1 q2 q3) (.slice q4 q5 q6)).below hb4); obtain ⟨v0, v1, v2, v3, v4, v5, v6, v7, v8⟩ := V4.out.cells; have B4 := hide (below_then (below_al B3.out) hb4); have z4 := hb4.size; simp only [World.size_alloc] at z4; have K4 := hide (hk3.out.move (W1 := w4) (by omega) (fun q p1 p2 => by rw [hb4.block q (by simp; omega), Below.heap_alloc _ _ _ p2])); clear hb4)
          refine bodyPost_ret (v := .tuple #[.agg #[.int .i64 0, .bool false, .bool false, .string ⟨#[]⟩, .int .i64 0, .int .u64 0, .string ⟨#[]⟩, .slice none 0 0, .slice none 0 0], .int .i64 2]) (by simp [results, Tryd.results17, go_sem, *]) rfl ⟨?_, ?_⟩
          · (iterate 9 (refine Below.setCell ?_ (by show _ ≤ _; exact Nat.le_refl _) _))
            exact B4.out
          · exact ⟨fun h => absurd h hne'.out, fun _ h => (by rw [hd'.out] at h; cases h), fun _ => ⟨fun _ => rfl, fun h => absurd h hE0⟩⟩
      · rw [Bool.not_eq_true] at hd
        rw [hd] at dn
        have hd' := hide hd
        have dd := hide (fun m => (hR'.out.below (drewN_below m)).cells)
        have df := hide (fun m => (hR'.out.below (drewN_below m)).frz)
        have db := hide drewN_below
        clear drewN_below r0 r1 r2 r3 r4 r5 r6 r7 r8 fR hd
        go_wp2_with (go_at_call 20; refine dn.out.mono ?_; rintro e w2 ⟨rfl, m2, rfl⟩; obtain ⟨r0, r1, r2, r3, r4, r5, r6, r7, r8⟩ := dd.out m2; have fR := df.out m2; simp only [zr] at r0 r1 r2 r3 r4 r5 r6)
        refine bodyPost_ret (v := .tuple #[.agg #[.int .i64 0, .bool false, .bool false, .string ⟨#[]⟩, .int .i64 0, .int .u64 0, .string ⟨#[]⟩, .slice none 0 0, .slice none 0 0], .int .i64 51]) (by simp [results, Tryd.results17, go_sem, *]) rfl ⟨?_, ?_⟩
        · (iterate 9 (refine Below.setCell ?_ (by show _ ≤ _; exact Nat.le_refl _) _))
          exact hbw'.out.trans ((db.out m2).mono hbw'.out.size)
        · exact ⟨fun h => absurd h hne'.out, fun _ _ => rfl, fun h => by rw [hd'.out] at h; cases h⟩
end Go.Proofs.YthbfopdeaknbkaaDoor
