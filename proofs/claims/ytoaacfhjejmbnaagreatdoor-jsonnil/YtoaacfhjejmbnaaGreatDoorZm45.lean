/- Merged by program: ElOne, EnBuild, EoEx, EpFacts, EuFlat, EvEvents. -/
import Derived.Test.YtoaacfhjejmbnaaGreatDoorZm44
import Derived.Test.YtoaacfhjejmbnaaGreatDoorZm26
import Derived.Test.YtoaacfhjejmbnaaGreatDoorZm12
/- event.build over a slice of capacity 1: walked. -/
namespace Go.Proofs.YtoaacfhjejmbnaaGreatDoor
open Go.RowKit
set_option linter.unusedSimpArgs false
set_option linter.unusedVariables false
set_option maxHeartbeats 4000000 in
set_option maxRecDepth 100000 in
theorem build_one (n : Nat) (h : Hd) (h7 : h.kind < 7) (hn0 : h.names = []) (b o : Nat) (w : World) (he : EL w b o [h]) (hb : b < w.heap.size) :
    Calls Tryz.prog 47 #[.slice (some ⟨b, o, none⟩) 1 1] w fun e w' => ∃ ns ls sv, e = .returned (.tuple #[.agg (vals h ns ls), sv]) ∧ Hid (KR (n + 1) w' ((h, []) : VT (n + 1)) ns ls w.heap.size w'.heap.size) ∧ Hid (Below w.heap.size w w') := by
    obtain ⟨c0, c1, c2, c3, c4, c5, c6⟩ := range7 he.head
    have hd := hide (head_ex h)
    simp only [evs, vals] at hd
    clear he
    go_enter Tryz.func47, Tryz.ntmps47
    go_wp2_with fail
    rename_i Q K hK
    have key : ∀ (V : Nat) (W : World), Below w.heap.size w W → Bx W V h (.slice none 0 0) (.slice none 0 0) → Bx W w.heap.size (zr 0) (.slice none 0 0) (.slice none 0 0) → w.heap.size < V →
        K { tmps := #[.slice (some ⟨b, o, none⟩) 0 0, undef, .pointer (some ⟨w.heap.size, 0, none⟩), .slice none 0 0, .pointer (some ⟨V, 0, none⟩), undef, .slice (some ⟨b, o, none⟩) 1 1, .pointer (some ⟨b, o, none⟩), .agg #[.int .i64 h.kind, .bool h.flag, .bool h.neg, .string h.dig, .int .i64 h.exp, .int .u64 h.bits, .string h.text], .agg #[.int .i64 h.kind, .bool h.flag, .bool h.neg, .string h.dig, .int .i64 h.exp, .int .u64 h.bits, .string h.text, .slice none 0 0, .slice none 0 0], .slice (some ⟨b, o, none⟩) 1 1, .slice (some ⟨b, o, none⟩) 0 0, undef, undef, undef, undef, undef, undef, undef, undef, undef, undef, undef, undef, undef, undef, undef, undef, undef, undef, undef, undef, undef, undef, undef, undef, undef, undef, undef, undef, undef, undef, undef, undef, undef, undef, undef, undef, undef, undef], defers := [] } W := by
      intro V W hbW hbx hR hV
      have hVl := hbx.lt
      refine hK _ _ ?_
      clear hK hd c0 c1 c2 c3 c4 c5 c6
      obtain ⟨d0, d1, d2, d3, d4, d5, d6, d7, d8⟩ := hbx.cells
      obtain ⟨r0, r1, r2, r3, r4, r5, r6, r7, r8⟩ := hR.cells
      have fz := hR.frz
      simp only [zr] at r0 r1 r2 r3 r4 r5 r6
      go_wp2_with fail
      refine bodyPost_ret (v := .tuple #[.agg #[.int .i64 h.kind, .bool h.flag, .bool h.neg, .string h.dig, .int .i64 h.exp, .int .u64 h.bits, .string h.text, .slice none 0 0, .slice none 0 0], .slice (some ⟨b, o, none⟩) 0 0]) (by simp [results, Tryz.results47, go_sem, *]) rfl ⟨.slice none 0 0, .slice none 0 0, _, rfl, ?_, ?_⟩
      · exact KR.leaf hn0 (by simp; exact hbW.size)
      · show Below _ _ _
        iterate 9 refine Below.setCell ?_ (by show _ ≤ _; exact Nat.le_refl _) _
        exact hbW
    have A1 : Bx ((((w.alloc (.cells #[.int .i64 0, .bool false, .bool false, .string ⟨#[]⟩, .int .i64 0, .int .u64 0, .string ⟨#[]⟩, .slice none 0 0, .slice none 0 0] 29)).alloc (.cells (vals h (.slice none 0 0) (.slice none 0 0)) 29)).alloc (.cells (evs h) 88)).alloc (.cells (vals h (.slice none 0 0) (.slice none 0 0)) 29)).drew (w.heap.size + 1) h (.slice none 0 0) (.slice none 0 0) := by
      have := bx_new (w.alloc (.cells #[.int .i64 0, .bool false, .bool false, .string ⟨#[]⟩, .int .i64 0, .int .u64 0, .string ⟨#[]⟩, .slice none 0 0, .slice none 0 0] 29)) h (.slice none 0 0) (.slice none 0 0)
      rw [World.size_alloc] at this
      exact this.below (Below.drew (below_al (below_al (Below.refl _ _))))
    have A3 : Bx ((((w.alloc (.cells #[.int .i64 0, .bool false, .bool false, .string ⟨#[]⟩, .int .i64 0, .int .u64 0, .string ⟨#[]⟩, .slice none 0 0, .slice none 0 0] 29)).alloc (.cells (evs h) 88)).alloc (.cells (vals h (.slice none 0 0) (.slice none 0 0)) 29)).alloc (.cells (vals h (.slice none 0 0) (.slice none 0 0)) 29)).drew (w.heap.size + 1 + 1 + 1) h (.slice none 0 0) (.slice none 0 0) := by
      have := bx_new (((w.alloc (.cells #[.int .i64 0, .bool false, .bool false, .string ⟨#[]⟩, .int .i64 0, .int .u64 0, .string ⟨#[]⟩, .slice none 0 0, .slice none 0 0] 29)).alloc (.cells (evs h) 88)).alloc (.cells (vals h (.slice none 0 0) (.slice none 0 0)) 29)) h (.slice none 0 0) (.slice none 0 0)
      rw [World.size_alloc, World.size_alloc, World.size_alloc] at this
      exact this.drew
    have R1 : ∀ o1 o2 o3, Bx ((((w.alloc (.cells #[.int .i64 0, .bool false, .bool false, .string ⟨#[]⟩, .int .i64 0, .int .u64 0, .string ⟨#[]⟩, .slice none 0 0, .slice none 0 0] 29)).alloc o1).alloc o2).alloc o3).drew w.heap.size (zr 0) (.slice none 0 0) (.slice none 0 0) := fun o1 o2 o3 =>
      (bx_new w (zr 0) (.slice none 0 0) (.slice none 0 0)).below (Below.drew (below_al (below_al (below_al (Below.refl _ _)))))
    have B1 : ∀ o0 o1 o2 o3, Below w.heap.size w ((((w.alloc o0).alloc o1).alloc o2).alloc o3).drew := fun o0 o1 o2 o3 => Below.drew (below_al (below_al (below_al (below_al (Below.refl _ _)))))
    have k1 := key _ _ (B1 _ _ _ _) A1 (R1 _ _ _) (by omega)
    have k3 := key _ _ (B1 _ _ _ _) A3 (R1 _ _ _) (by omega)
    clear key hK A1 A3 R1 B1
    simp only [evs, vals] at k1 k3
    go_region_with (go_at_call 86; refine (hd.out _).mono ?_; rintro e w1 ⟨rfl, rfl⟩)
    all_goals first | exact k1 | exact k3
end Go.Proofs.YtoaacfhjejmbnaaGreatDoor
/- event.Build: walked. -/
namespace Go.Proofs.YtoaacfhjejmbnaaGreatDoor
open Go.RowKit
set_option linter.unusedSimpArgs false
set_option linter.unusedVariables false
/-- A checker is done. -/
def doneS : Option (List Pa × Bool) → Bool
  | some ([], b) => b
  | _ => false
theorem CkS.done {W : World} {i B n : Nat} {s : Option (List Pa × Bool)} (h : CkS W i B n s) : Calls Tryz.prog 46 #[.pointer (some ⟨i, 0, none⟩)] W fun r w' => r = .returned (.bool (doneS s)) ∧ ∃ m, w' = W.drewN m := by
  cases s with
  | none =>
    have h' : Ck W i B (.slice none 0 0) [] false true := h
    refine (cdone_any h').mono ?_
    rintro r w' ⟨rfl, m, rfl⟩
    exact ⟨rfl, m, rfl⟩
  | some x =>
    obtain ⟨st, bg⟩ := x
    obtain ⟨v, ps, c, hps, _⟩ := h
    refine (cdone_any c).mono ?_
    rintro r w' ⟨rfl, m, rfl⟩
    refine ⟨?_, m, rfl⟩
    have hps : (ps.map Pt.abs).reverse = st := hps
    have he : (bg && decide (ps = [])) = doneS (some (st, bg)) := by
      cases st with
      | nil => rw [nil_ps hps]; simp [doneS]
      | cons a r =>
        obtain ⟨qs, p, rfl, _⟩ := split_ps hps
        simp [doneS]
    rw [he]
theorem CkS.new {w : World} {i : Nat} (h : KB w i (.slice none 0 0) false false) (hs : i + 1 ≤ w.heap.size) : CkS w i (i + 1) 0 (some ([], false)) :=
  ⟨.slice none 0 0, [], Ck.new h (by omega) hs, rfl, Nat.le_refl _, fun p hp => by cases hp⟩
theorem runE_take (es : List Hd) (k : Nat) (hk : k < es.length) : runE (es.take (k + 1)) = feedE (runE (es.take k)) (mayB es[k]) es[k] := by
  rw [List.take_succ_eq_append_getElem hk]
  unfold runE
  rw [runS_app]
  rfl
theorem runE_cut (es : List Hd) (k : Nat) (h : runE (es.take k) = none) : runE es = none := by
  have := List.take_append_drop k es
  rw [← this]
  unfold runE at h ⊢
  rw [runS_app, h, runS_none]
/-- What Build is called on. -/
structure Bd (w : World) (es : List Hd) (b o c : Nat) : Prop where
  el : EL w b o es
  lt : b < w.heap.size
  len : es.length ≤ c
  max : c ≤ maxLen
  small : es.length ≤ 50000
  ez : ∀ e ∈ es, EvZ e
theorem Bd.at {w : World} {es : List Hd} {b o c : Nat} (h : Bd w es b o c) (k : Nat) (hk : k < es.length) : w.rangeAt b (o + k * 7) (evs es[k]).toList := h.el k hk
/-- What Build answers (x: whose events they are, E: what Check answers of it, where they are a whole value's). -/
def BR (es : List Hd) (n : Nat) (x : VT n) (E : Int) (w w' : World) (e : Ending) : Prop :=
  (runE es = none → e = .returned (.tuple #[.agg #[.int .i64 0, .bool false, .bool false, .string ⟨#[]⟩, .int .i64 0, .int .u64 0, .string ⟨#[]⟩, .slice none 0 0, .slice none 0 0], .int .i64 50])) ∧
  (runE es ≠ none → doneS (runE es) = false → e = .returned (.tuple #[.agg #[.int .i64 0, .bool false, .bool false, .string ⟨#[]⟩, .int .i64 0, .int .u64 0, .string ⟨#[]⟩, .slice none 0 0, .slice none 0 0], .int .i64 51])) ∧
  (doneS (runE es) = true → (E ≠ 0 → e = .returned (.tuple #[.agg #[.int .i64 0, .bool false, .bool false, .string ⟨#[]⟩, .int .i64 0, .int .u64 0, .string ⟨#[]⟩, .slice none 0 0, .slice none 0 0], .int .i64 2])) ∧ (E = 0 → ∃ ns ls s f, e = .returned (.tuple #[.agg (vals (vhd n x) ns ls), .int .i64 0]) ∧ w.heap.size ≤ s ∧ Hid (KR n w' x ns ls s f)))
theorem Bx.low {W W1 : World} {i q : Nat} {h : Hd} {ns ls : Value} (k : Bx W q h ns ls) (hb : Below i W W1) (hq : q < i) : Bx W1 q h ns ls := ⟨(hb.block q hq).trans k.at_⟩
set_option maxHeartbeats 4000000 in
set_option maxRecDepth 100000 in
theorem Build_any (es : List Hd) (b o c : Nat) (w : World) (hB : Bd w es b o c) (hc2 : 2 ≤ c) (g : Ut.Gu w) (n : Nat) (x : VT n) (tr : doneS (runE es) = true → es = fl n x ∧ NF n x ∧ Sz n x ∧ siz n x ≤ 200000) (E : Int) (hE : Chk n x E) :
    Calls Tryz.prog 29 #[.slice (some ⟨b, o, none⟩) es.length c] w fun e w' => Below w.heap.size w w' ∧ BR es n x E w w' e := by
  have hnew := hide cnew_any
  have hlen := hB.len
  have hmax := hB.max
  have hsm := hB.small
  have hlt := hB.lt
  have hB' := hide hB
  have tr' := hide tr
  have hE' := hide hE
  have g' := hide g
  have ml : maxLen = 9223372036854775807 := rfl
  clear hB tr hE g
  go_enter Tryz.func29, Tryz.ntmps29
  go_wp2_with (go_at_call 39; refine (hnew.out _).mono ?_; rintro e w1 ⟨rfl, hk1, hb1⟩)
  simp only [World.size_alloc] at hk1
  have z1 : w.heap.size + 1 < w1.heap.size := hk1.lt
  have HR1 := hide ((bx_new w (zr 0) (.slice none 0 0) (.slice none 0 0)).below hb1)
  have HB1 := hide (below_then (below_al (Below.refl _ _)) hb1)
  have HC1 := hide (CkS.new hk1 (by omega))
  clear hk1 hb1 hnew
  go_loopw [13] (fun u W => ∃ k : Nat, u = .int .i64 k ∧ k ≤ es.length ∧ Hid (CkS W (w.heap.size + 1) (w.heap.size + 1 + 1) k (runE (es.take k)) ∧ runE (es.take k) ≠ none ∧ Below w.heap.size w W ∧ Bx W w.heap.size (zr 0) (.slice none 0 0) (.slice none 0 0) ∧ w.heap.size + 1 < W.heap.size)) (fun u _ => es.length - (intOf u).toNat)
  case atStart => exact ⟨0, rfl, Nat.zero_le _, hide ⟨by simpa [runE, runS] using HC1.out, by simp [runE, runS], HB1.out, HR1.out, z1⟩⟩
  case round =>
    obtain ⟨k, rfl, hk, HH⟩ := hrel
    obtain ⟨hC, hne, hbw, hR, hz⟩ := HH.out
    have hbr : b < wr.heap.size := Nat.lt_of_lt_of_le hlt hbw.size
    have zw : w.heap.size < wr.heap.size := by omega
    obtain ⟨r0, r1, r2, r3, r4, r5, r6, r7, r8⟩ := hR.cells
    have fR := hR.frz
    simp only [zr] at r0 r1 r2 r3 r4 r5 r6
    clear HC1 HR1 HB1 HH
    by_cases hkl : k < es.length
    · have hki : (k : Int) < (es.length : Int) := by omega
      obtain ⟨c0, c1, c2, c3, c4, c5, c6⟩ := range7 (rangeAt_below (hB'.out.at k hkl) hbw hlt)
      have fd := hide (cfeed_any (W := wr.alloc (.cells (evs es[k]) 88)) (i := w.heap.size + 1) (B := w.heap.size + 1 + 1) (n := k) (runE (es.take k)) es[k] (hB'.out.ez _ (List.getElem_mem hkl)) (hC.then (below_al (Below.refl _ _))) (by simp; omega) (by omega) (by simp; omega) (by omega) (g'.out.below (below_al hbw)) (mayB es[k]) (mayB_iff _))
      rw [← runE_take es k hkl] at fd
      obtain ⟨h, hh⟩ : ∃ h, es[k] = h := ⟨_, rfl⟩
      rw [hh] at c0 c1 c2 c3 c4 c5 c6 fd
      simp only [evs] at fd
      have hR' := hide hR
      have hbw' := hide hbw
      have hrun := hide (fun q : runE (es.take (k + 1)) = none => runE_cut es (k + 1) q)
      obtain ⟨s, hs⟩ : ∃ s, runE (es.take (k + 1)) = s := ⟨_, rfl⟩
      rw [hs] at fd hrun
      have hs' := hide hs
      clear hC hne hR hbw hs
      cases s with
      | none =>
        go_wp2_with (go_at_call 45; refine fd.out.mono ?_; rintro e w2 ⟨rfl, hc2', hb2⟩; have R2 := hide ((hR'.out.below (below_al (Below.refl _ _))).low hb2 (Nat.lt_succ_self _)); obtain ⟨r0, r1, r2, r3, r4, r5, r6, r7, r8⟩ := R2.out.cells; have fR := R2.out.frz; simp only [zr] at r0 r1 r2 r3 r4 r5 r6; have B2 := hide ((below_al hbw'.out).trans (hb2.mono (Nat.le_succ _))); clear hc2' hb2)
        refine bodyPost_ret (v := .tuple #[.agg #[.int .i64 0, .bool false, .bool false, .string ⟨#[]⟩, .int .i64 0, .int .u64 0, .string ⟨#[]⟩, .slice none 0 0, .slice none 0 0], .int .i64 50]) (by simp [results, Tryz.results29, go_sem, *]) rfl ⟨?_, ?_⟩
        · (iterate 9 (refine Below.setCell ?_ (by show _ ≤ _; exact Nat.le_refl _) _))
          exact B2.out
        · have hn := hrun.out trivial
          exact ⟨fun _ => rfl, fun h => absurd hn h, fun h => by rw [hn] at h; cases h⟩
      | some y =>
        go_wp2_with (go_at_call 45; refine fd.out.mono ?_; rintro e w2 ⟨rfl, hc2', hb2⟩; have R2 := hide ((hR'.out.below (below_al (Below.refl _ _))).low hb2 (Nat.lt_succ_self _)); have B2 := hide ((below_al hbw'.out).trans (hb2.mono (Nat.le_succ _))); have C2 := hide hc2'; have z2 := hb2.size; simp only [World.size_alloc] at z2; clear hc2' hb2)
        exact ⟨⟨k + 1, by go_num, by omega, hide ⟨by rw [hs'.out]; exact C2.out, by rw [hs'.out]; simp, B2.out, R2.out, by omega⟩⟩, by simp [intOf]; omega⟩
    · have hki : ¬ ((k : Int) < (es.length : Int)) := by omega
      have hkeq : k = es.length := by omega
      subst hkeq
      rw [List.take_length] at hC hne
      have dn := hide hC.done
      have hne' := hide hne
      have hR' := hide hR
      have hbw' := hide hbw
      clear hC hne hR hbw
      have drewN_below : ∀ m, Below wr.heap.size wr (wr.drewN m) := fun m => ⟨rfl, rfl, rfl, Nat.le_refl _, fun _ _ => rfl⟩
      by_cases hd : doneS (runE es) = true
      · obtain ⟨he, nf, sz, le⟩ := tr'.out hd
        have bl := hide (fun W (hb : Below w.heap.size w W) => build_any n x nf [] b o c W (by rw [List.append_nil, ← he]; exact hB'.out.el.below hb hlt) (Nat.lt_of_lt_of_le hlt hb.size) (by rw [List.append_nil, ← he]; exact hlen) hmax hc2 (by rw [List.append_nil, ← he]; omega))
        have ck := hide (fun W ns ls (hb : Below w.heap.size w W) (hr : RD n W x ns ls) => check_any n x ns ls W ⟨hr, sz, le⟩ (g'.out.below hb) E hE'.out)
        rw [hd] at dn
        have dd := hide drewN_below
        have he' := hide he
        have hd' := hide hd
        simp only [List.append_nil] at bl
        rw [← he] at bl
        obtain ⟨hx, hhx⟩ : ∃ hx, vhd n x = hx := ⟨_, rfl⟩
        rw [hhx] at bl ck
        simp only [vals] at bl ck
        clear drewN_below r0 r1 r2 r3 r4 r5 r6 r7 r8 fR hd he
        go_wp2_with (go_at_call 46; refine dn.out.mono ?_; rintro e w2 ⟨rfl, m2, rfl⟩)
        have B2 := hide (hbw'.out.trans ((dd.out m2).mono hbw'.out.size))
        refine (bl.out _ B2.out).mono ?_
        rintro e w3 ⟨ns3, ls3, sv, rfl, hk3, hb3, _⟩
        obtain ⟨q1, q2, q3, q4, q5, q6, rfl, rfl⟩ := hk3.out.rd.shape
        have B3 := hide (below_then B2.out hb3.out)
        have z3 : wr.heap.size ≤ w3.heap.size := hb3.out.size
        have R3 := hide ((hR'.out.below (dd.out m2)).below hb3.out)
        by_cases hE0 : E = 0
        · subst hE0
          go_wp2_with (go_at_call 32; refine (ck.out _ _ _ (below_al B3.out) (hk3.out.rd.below (below_al (Below.refl _ _)))).mono ?_; rintro e w4 ⟨rfl, hb4⟩; have R4 := hide ((R3.out.below (below_al (Below.refl _ _))).below hb4); obtain ⟨r0, r1, r2, r3, r4, r5, r6, r7, r8⟩ := R4.out.cells; have fR := R4.out.frz; simp only [zr] at r0 r1 r2 r3 r4 r5 r6; have V4 := hide ((bx_new w3 hx (.slice q1 q2 q3) (.slice q4 q5 q6)).below hb4); obtain ⟨v0, v1, v2, v3, v4, v5, v6, v7, v8⟩ := V4.out.cells; have B4 := hide (below_then (below_al B3.out) hb4); have z4 := hb4.size; simp only [World.size_alloc] at z4; have K4 := hide (hk3.out.move (W1 := w4) (by omega) (fun q p1 p2 => by rw [hb4.block q (by simp; omega), Below.heap_alloc _ _ _ p2])); clear hb4)
          refine bodyPost_ret (v := .tuple #[.agg #[.int .i64 hx.kind, .bool hx.flag, .bool hx.neg, .string hx.dig, .int .i64 hx.exp, .int .u64 hx.bits, .string hx.text, .slice q1 q2 q3, .slice q4 q5 q6], .int .i64 0]) (by simp [results, Tryz.results29, go_sem, *]) rfl ⟨?_, ?_⟩
          · (iterate 9 (refine Below.setCell ?_ (by show _ ≤ _; exact Nat.le_refl _) _))
            exact B4.out
          · refine ⟨fun h => absurd h hne'.out, fun _ h => (by rw [hd'.out] at h; cases h), fun _ => ⟨fun h => absurd rfl h, fun _ => ⟨.slice q1 q2 q3, .slice q4 q5 q6, wr.heap.size, w3.heap.size, by rw [hhx]; rfl, by omega, ?_⟩⟩⟩
            refine hide (K4.out.move (by simp; omega) ?_)
            intro q p1 p2
            have p1' : wr.heap.size ≤ q := p1
            simp only [heap_set_ne (show q ≠ w.heap.size by omega)]
        · have hE1 : (E != 0) = true := by simpa using hE0
          go_wp2_with (go_at_call 32; refine (ck.out _ _ _ (below_al B3.out) (hk3.out.rd.below (below_al (Below.refl _ _)))).mono ?_; rintro e w4 ⟨rfl, hb4⟩; have R4 := hide ((R3.out.below (below_al (Below.refl _ _))).below hb4); obtain ⟨r0, r1, r2, r3, r4, r5, r6, r7, r8⟩ := R4.out.cells; have fR := R4.out.frz; simp only [zr] at r0 r1 r2 r3 r4 r5 r6; have V4 := hide ((bx_new w3 hx (.slice q1 q2 q3) (.slice q4 q5 q6)).below hb4); obtain ⟨v0, v1, v2, v3, v4, v5, v6, v7, v8⟩ := V4.out.cells; have B4 := hide (below_then (below_al B3.out) hb4); have z4 := hb4.size; simp only [World.size_alloc] at z4; have K4 := hide (hk3.out.move (W1 := w4) (by omega) (fun q p1 p2 => by rw [hb4.block q (by simp; omega), Below.heap_alloc _ _ _ p2])); clear hb4)
          refine bodyPost_ret (v := .tuple #[.agg #[.int .i64 0, .bool false, .bool false, .string ⟨#[]⟩, .int .i64 0, .int .u64 0, .string ⟨#[]⟩, .slice none 0 0, .slice none 0 0], .int .i64 2]) (by simp [results, Tryz.results29, go_sem, *]) rfl ⟨?_, ?_⟩
          · (iterate 9 (refine Below.setCell ?_ (by show _ ≤ _; exact Nat.le_refl _) _))
            exact B4.out
          · exact ⟨fun h => absurd h hne'.out, fun _ h => (by rw [hd'.out] at h; cases h), fun _ => ⟨fun _ => rfl, fun h => absurd h hE0⟩⟩
      · rw [Bool.not_eq_true] at hd
        rw [hd] at dn
        have hd' := hide hd
        have dd := hide (fun m => (hR'.out.below (drewN_below m)).cells)
        have df := hide (fun m => (hR'.out.below (drewN_below m)).frz)
        have db := hide drewN_below
        clear drewN_below r0 r1 r2 r3 r4 r5 r6 r7 r8 fR hd
        go_wp2_with (go_at_call 46; refine dn.out.mono ?_; rintro e w2 ⟨rfl, m2, rfl⟩; obtain ⟨r0, r1, r2, r3, r4, r5, r6, r7, r8⟩ := dd.out m2; have fR := df.out m2; simp only [zr] at r0 r1 r2 r3 r4 r5 r6)
        refine bodyPost_ret (v := .tuple #[.agg #[.int .i64 0, .bool false, .bool false, .string ⟨#[]⟩, .int .i64 0, .int .u64 0, .string ⟨#[]⟩, .slice none 0 0, .slice none 0 0], .int .i64 51]) (by simp [results, Tryz.results29, go_sem, *]) rfl ⟨?_, ?_⟩
        · (iterate 9 (refine Below.setCell ?_ (by show _ ≤ _; exact Nat.le_refl _) _))
          exact hbw'.out.trans ((db.out m2).mono hbw'.out.size)
        · exact ⟨fun h => absurd h hne'.out, fun _ _ => rfl, fun h => by rw [hd'.out] at h; cases h⟩
end Go.Proofs.YtoaacfhjejmbnaaGreatDoor
/- The laws' example: what it is. -/
namespace Go.Proofs.YtoaacfhjejmbnaaGreatDoor
open Go.RowKit
set_option linter.unusedSimpArgs false
set_option linter.unusedVariables false
theorem ex_one {α : Type} {a : α} {p : α → Prop} (h1 : p a) : ∀ y ∈ [a], p y := by
  intro y hy
  rw [List.mem_singleton.1 hy]; exact h1
theorem ex_sht1 : Sht 1 null1 := ⟨(show (0 : Int) ≤ 4096 by decide), (show 0 ≤ 256 by decide), fun s hs => (by cases hs), fun y hy => (by cases hy)⟩
theorem ex_sz1 : Sz 1 null1 := ⟨by decide, by decide, by decide, fun s hs => (by cases hs), fun y hy => (by cases hy)⟩
theorem range_block {W : World} {b : Nat} {cs : Array Value} {T : TypeId} {fr : Nat × Nat} (h : W.heap[b]? = some (.cells cs T fr)) (pre mid post : List Value) (hc : cs.toList = pre ++ (mid ++ post)) : W.rangeAt b pre.length mid := by
  intro j v hj
  have hlt := (List.getElem?_eq_some_iff.1 hj).1
  unfold World.cell?
  rw [h]
  show cs[pre.length + j]? = some v
  rw [← Array.getElem?_toList, hc, List.getElem?_append_right (by omega), Nat.add_sub_cancel_left, List.getElem?_append_left hlt, hj]
end Go.Proofs.YtoaacfhjejmbnaaGreatDoor
/- What awake leans on. -/
namespace Go.Proofs.YtoaacfhjejmbnaaGreatDoor
open Go.RowKit
set_option linter.unusedSimpArgs false
set_option linter.unusedVariables false
theorem evs_len (h : Hd) : (evs h).toList.length = 7 := rfl
theorem ecs_len (es : List Hd) : (ecs es).length = es.length * 7 := by
  induction es with
  | nil => rfl
  | cons h es ih => simp only [ecs, List.flatMap_cons, List.length_append, List.length_cons] at *; rw [ih, evs_len]; omega
theorem ecs_at (es : List Hd) (i j : Nat) (hi : i < es.length) (hj : j < 7) : (ecs es)[i * 7 + j]? = (evs es[i]).toList[j]? := by
  induction es generalizing i with
  | nil => simp at hi
  | cons h es ih =>
    have e : ecs (h :: es) = (evs h).toList ++ ecs es := by simp [ecs]
    rw [e]
    cases i with
    | zero => rw [List.getElem?_append_left (by rw [evs_len]; omega)]; simp
    | succ i =>
      rw [List.getElem?_append_right (by rw [evs_len]; omega), evs_len, show (i + 1) * 7 + j - 7 = i * 7 + j by omega]
      exact ih i (by simpa using hi)
theorem el_row {W : World} {B g n cap : Nat} {es : List Hd} (h : W.ownsRow B 88 7 (.slice (some ⟨g, 0, none⟩) n cap) n (ecs es)) (hn : n = es.length) : EL W g 0 es := by
  intro i hi j v hj
  have hj7 : j < 7 := by have := (List.getElem?_eq_some_iff.1 hj).1; rw [evs_len] at this; exact this
  have hc := World.ownsRow.cellAt h (i * 7 + j) (by subst hn; omega)
  rw [Nat.zero_add, hc, ecs_at es i j hi hj7, hj]
theorem Bd.take {W : World} {es : List Hd} {b o c k : Nat} (h : Bd W es b o c) : Bd W (es.take k) b o c :=
  ⟨fun i hi => by have := h.el i (by simp at hi; omega); rw [List.getElem_take]; exact this, h.lt, by have := h.len; simp; omega, h.max, by have := h.small; simp; omega, fun e he => h.ez e (List.mem_of_mem_take he)⟩
theorem row_news {W : World} {B T sz g n cap : Nat} {xs : List Value} (h : W.ownsRow B T sz (.slice (some ⟨g, 0, none⟩) n cap) n xs) : ∀ j u, xs[j]? = some u → W.cell? ((⟨g, 0, none⟩ : Addr).add j) = some u := by
  intro j u hj
  have hlt := (List.getElem?_eq_some_iff.1 hj).1
  have hc := World.ownsRow.cellAt h j (by rw [h.1] at hlt; exact hlt)
  rw [show (⟨g, 0, none⟩ : Addr).add j = ⟨g, j, none⟩ by unfold Addr.add; split <;> simp_all]
  rw [hc, hj]
theorem evs_one (h : Hd) : ∀ u ∈ (evs h).toList, u.oneCell' = true := by simp [evs, Value.oneCell']
theorem ecs_cell (es : List Hd) : ∀ u ∈ ecs es, u.oneCell' = true := by
  intro u hu
  unfold ecs at hu
  obtain ⟨h, _, hu⟩ := List.mem_flatMap.1 hu
  exact evs_one h u hu
def tagE : Hd := { zr 9 with text := ⟨#[116]⟩ }
theorem may_tag : May tagE := by
  unfold May
  rw [mayV_9 tagE (Or.inl rfl)]
  exact ⟨⟨(show (1 : Int) ≤ 9 by decide), (show (9 : Int) ≤ 9 by decide), rfl, Or.inl (show (7 : Int) ≤ 9 by decide)⟩, ⟨fun h => (by cases h), fun h => (by cases h), fun h => (by cases h), fun _ => ⟨by decide, rfl⟩⟩, ex_one isv_null1⟩
theorem st1 : feedE (some ([], false)) (mayB tagE) tagE = some ([(9, true, [])], true) := by rw [feedE_ok may_tag]; rfl
theorem null_chk : Chk 1 null1 0 := Or.inr (Or.inr ⟨rfl, isv_null1, ex_sht1, by decide, by decide⟩)
end Go.Proofs.YtoaacfhjejmbnaaGreatDoor
/- calamusref05.Flat, Flatten; calamuskeep.Events: walked. -/
namespace Go.Proofs.YtoaacfhjejmbnaaGreatDoor
open Go.RowKit
set_option linter.unusedSimpArgs false
set_option linter.unusedVariables false
section
variable {w : World} {ops : Array Oper} {rest : List Oper} {o : Oper} {a : Act} {Q : Exit → Act → World → Prop}
end
end Go.Proofs.YtoaacfhjejmbnaaGreatDoor
/- calamuskeep.Events: walked. -/
namespace Go.Proofs.YtoaacfhjejmbnaaGreatDoor
open Go.RowKit
set_option linter.unusedSimpArgs false
set_option linter.unusedVariables false
/-- A slice of events reads as es. -/
def ES (W : World) (v : Value) (es : List Hd) : Prop := ∃ a c, v = .slice a es.length c ∧ es.length ≤ c ∧ c ≤ maxLen ∧ (0 < es.length → ∃ b o, a = some ⟨b, o, none⟩ ∧ b < W.heap.size ∧ EL W b o es)
theorem ES.below {w W : World} {v : Value} {es : List Hd} (h : ES w v es) (hb : Below w.heap.size w W) : ES W v es := by
  obtain ⟨a, c, rfl, h1, h2, h3⟩ := h
  refine ⟨a, c, rfl, h1, h2, fun hp => ?_⟩
  obtain ⟨b, o, e, hlt, hel⟩ := h3 hp
  exact ⟨b, o, e, Nat.lt_of_lt_of_le hlt hb.size, hel.below hb hlt⟩
theorem ES.nil (w : World) : ES w (.slice none 0 0) [] := ⟨none, 0, rfl, Nat.le_refl _, by decide, fun h => by simp at h⟩
theorem ES.row {W : World} {B g n cap : Nat} {es : List Hd} (h : W.ownsRow B 88 7 (.slice (some ⟨g, 0, none⟩) n cap) n (ecs es)) (hn : n = es.length) : ES W (.slice (some ⟨g, 0, none⟩) n cap) es := by
  have hlt := (World.ownsRow.lt h g rfl).2
  have hel := el_row h hn
  rcases h.2 with ⟨h0, _⟩ | ⟨g', cap', cur, he, _, _, h1, h2, _⟩
  · cases h0
  · cases he
    subst hn
    exact ⟨_, _, rfl, h1, h2, fun _ => ⟨g, 0, rfl, hlt, hel⟩⟩
end Go.Proofs.YtoaacfhjejmbnaaGreatDoor
