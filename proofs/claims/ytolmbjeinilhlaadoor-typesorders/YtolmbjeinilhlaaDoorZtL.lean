/- Merged by program: HrHas, HsHas, HtCopy, HuCopied. -/
import Derived.Test.YtolmbjeinilhlaaDoorZtHqTags
/- types.hasAll, Has: walked. -/
namespace Go.Proofs.YtolmbjeinilhlaaDoor
open Go.RowKit Go.Maps
set_option linter.unusedSimpArgs false
set_option linter.unusedVariables false
theorem TFil.nine {h : Th} {m : Nat} (q : TFil h m) (e : h.kind = 9) : m = 1 := by
  rcases q with ⟨_, _, r⟩ | ⟨r, _⟩ | ⟨_, r, _⟩
  · exact r
  · omega
  · omega
theorem TFil.ten {h : Th} {m : Nat} (q : TFil h m) (e : h.kind = 10) : h.names.length = m := by
  rcases q with ⟨r, _⟩ | ⟨_, r, s⟩ | ⟨_, r, _⟩
  · omega
  · exact r
  · omega
theorem TFil.low {h : Th} {m : Nat} (q : TFil h m) (e9 : h.kind ≠ 9) (e10 : h.kind ≠ 10) (e11 : h.kind ≠ 11) : 1 ≤ h.kind ∧ h.kind ≤ 8 := by
  rcases q with ⟨r, _⟩ | ⟨r, _⟩ | ⟨r, s, _⟩
  · exact absurd r e9
  · omega
  · exact ⟨r, s⟩
theorem tsiz_len {n : Nat} (l : List (TT n)) : l.length ≤ suml (l.map (tsiz n)) := by
  induction l with
  | nil => simp [suml]
  | cons a l ih =>
    have : 1 ≤ tsiz n a := by cases n with
      | zero => exact Empty.elim a
      | succ n => simp only [tsiz]; omega
    simp only [List.map_cons, suml, List.length_cons]; omega
theorem TSB.kid {n : Nat} {x : TT (n + 1)} (h : TSB (n + 1) x) : (∀ y ∈ x.2, TSB n y) ∧ x.2.length ≤ 200000 := by
  have h2 := h.2
  simp only [tsiz] at h2
  refine ⟨fun y hy => ⟨h.1.2.2 y hy, ?_⟩, by have := tsiz_len x.2; omega⟩
  obtain ⟨i, hi, rfl⟩ := List.mem_iff_getElem.1 hy
  have := tsiz_mem (x := x) hi
  have := h.2
  omega
set_option maxHeartbeats 1000000 in
set_option maxRecDepth 100000 in
theorem hasAll_ok : ∀ n, HasOk n := by
  intro n
  induction n with
  | zero => intro x; exact Empty.elim x
  | succ n ih =>
    intro t ns ls m l lv w hr hl ht hz hv hsz gt
    obtain ⟨h, tl⟩ := t
    obtain ⟨av, cv, rfl, hv1, hv2⟩ := hl.len
    have hb0 : Hid (∀ o, Below w.heap.size w (w.alloc o)) := fun o => below_al (Below.refl _ _)
    cases l with
    | nil =>
      obtain ⟨al, cl, rfl, hl1, hl2⟩ := hr.len
      obtain ⟨an, cn, rfl, hn1, hn2⟩ := hr.1.len
      show Calls _ _ #[.agg #[.int .i64 h.kind, .slice an h.names.length cn, .slice al tl.length cl], .slice av 0 cv] _ _
      go_enter Tryd.func32, Tryd.ntmps32
      go_wp2_with fail
      go_ret
      exact TB.yes (by first | trivial | (intro v hv; cases hv)) (hb0.out _)
    | cons v0 l0 =>
      cases m with
      | zero => exact Empty.elim v0
      | succ m =>
        have hpos : Hid (0 < (v0 :: l0).length) := by show _ < _; simp
        generalize v0 :: l0 = l at *
        have hL := hide (fun (e : h.kind = 9) (u : TT n) (e2 : tl = [u]) W (hb : Below w.heap.size w W) => hasLists_any n ih h u ns ls m l (.slice av l.length cv) W (by rw [← e2]; exact hr.below hb) (hl.below hb) e (ht.2 u (by rw [e2]; simp)) (hz.kid.1 u (by simp [e2])) hv hsz (gt.below hb))
        have hR := hide (fun (e : h.kind = 10) W (hb : Below w.heap.size w W) => hasRecords_any n ih h tl ns ls m l (.slice av l.length cv) W (hr.below hb) (hl.below hb) e (ht.1.ten e) (fun y hy => ⟨hz.kid.1 y hy, ht.2 y hy⟩) hv hsz hz.kid.2 (gt.below hb))
        have hT := hide (fun (e : h.kind = 11) W (hb : Below w.heap.size w W) => hasTags_any n ih h tl ns ls m l (.slice av l.length cv) W (hr.below hb) (hl.below hb) e (ht.1.eleven e).1 (ht.1.eleven e).2 (fun y hy => ⟨hz.kid.1 y hy, ht.2 y hy⟩) hz.1.2.1 hv hsz hz.kid.2 (gt.below hb))
        have hfil := hide ht.1
        obtain ⟨al, cl, rfl, hl1, hl2⟩ := hr.len
        obtain ⟨an, cn, rfl, hn1, hn2⟩ := hr.1.len
        have hl := hide hl
        have hv := hide hv
        have gt := hide gt
        have ml : maxLen = 9223372036854775807 := rfl
        have hl0 : ¬ (l.length : Int) = 0 := by have := hpos.out; omega
        have hl0b : ((l.length : Int) == 0) = false := beq_eq_false_iff_ne.2 hl0
        have hB0 := hide (tx_new w h (.slice an h.names.length cn) (.slice al tl.length cl))
        clear hr ht hz hsz ih
        show Calls _ _ #[.agg #[.int .i64 h.kind, .slice an h.names.length cn, .slice al tl.length cl], .slice av l.length cv] _ _
        by_cases k9 : h.kind = 9
        · obtain ⟨u, e2⟩ : ∃ u, tl = [u] := List.length_eq_one_iff.1 (hfil.out.nine k9)
          have hc : Hid (∀ W, Below w.heap.size w W → Calls Tryd.prog 51 #[.agg #[.int .i64 9, .slice an h.names.length cn, .slice al tl.length cl], .slice av l.length cv] W fun e w' => TB (∀ v ∈ l, InT (n + 1) (h, tl) (m + 1) v) W e w') := fun W hb => by
            have := hL.out k9 u e2 W hb
            simp only [tvs, k9] at this
            rw [← e2] at this
            exact this
          clear e2
          rw [k9]
          go_enter Tryd.func32, Tryd.ntmps32
          go_wp2_with (go_at_call 51; refine (hc.out _ (hb0.out _)).mono ?_; rintro e w1 ⟨b, rfl, hTT, hb1⟩)
          go_ret
          exact ⟨b, rfl, hTT, below_then (hb0.out _) hb1⟩
        by_cases k10 : h.kind = 10
        · have hc : Hid (∀ W, Below w.heap.size w W → Calls Tryd.prog 52 #[.agg #[.int .i64 10, .slice an h.names.length cn, .slice al tl.length cl], .slice av l.length cv] W fun e w' => TB (∀ v ∈ l, InT (n + 1) (h, tl) (m + 1) v) W e w') := fun W hb => by
            have := hR.out k10 W hb
            simp only [tvs, k10] at this
            exact this
          rw [k10]
          go_enter Tryd.func32, Tryd.ntmps32
          go_wp2_with (go_at_call 52; refine (hc.out _ (hb0.out _)).mono ?_; rintro e w1 ⟨b, rfl, hTT, hb1⟩)
          go_ret
          exact ⟨b, rfl, hTT, below_then (hb0.out _) hb1⟩
        by_cases k11 : h.kind = 11
        · have hc : Hid (∀ W, Below w.heap.size w W → Calls Tryd.prog 53 #[.agg #[.int .i64 11, .slice an h.names.length cn, .slice al tl.length cl], .slice av l.length cv] W fun e w' => TB (∀ v ∈ l, InT (n + 1) (h, tl) (m + 1) v) W e w') := fun W hb => by
            have := hT.out k11 W hb
            simp only [tvs, k11] at this
            exact this
          rw [k11]
          go_enter Tryd.func32, Tryd.ntmps32
          go_wp2_with (go_at_call 53; refine (hc.out _ (hb0.out _)).mono ?_; rintro e w1 ⟨b, rfl, hTT, hb1⟩)
          go_ret
          exact ⟨b, rfl, hTT, below_then (hb0.out _) hb1⟩
        have hlow := hide (hfil.out.low k9 k10 k11)
        have hx : Hid (∀ v : VT (m + 1), InT (n + 1) (h, tl) (m + 1) v ↔ PkOk h.kind v.1) := by
          intro v
          constructor
          · rintro (⟨_, q⟩ | ⟨q, _⟩ | ⟨q, _⟩ | ⟨q, _⟩)
            · exact q
            · exact absurd q k9
            · exact absurd q k10
            · exact absurd q k11
          · exact fun q => Or.inl ⟨hlow.out.2, q⟩
        have b9 : (h.kind == 9) = false := beq_eq_false_iff_ne.2 k9
        have b10 : (h.kind == 10) = false := beq_eq_false_iff_ne.2 k10
        have b11 : (h.kind == 11) = false := beq_eq_false_iff_ne.2 k11
        clear hL hR hT hfil
        go_enter Tryd.func32, Tryd.ntmps32
        go_wp2_with fail
        clear k9 k10 k11 b9 b10 b11
        go_loopw [29] (fun i w' => ∃ k : Nat, i = .int .i64 k ∧ k ≤ l.length ∧ Hid ((∀ v ∈ l.take k, PkOk h.kind v.1) ∧ Below w.heap.size w w' ∧ Tx w' w.heap.size h (.slice an h.names.length cn) (.slice al tl.length cl))) (fun i _ => l.length - (intOf i).toNat)
        case atStart => exact ⟨0, rfl, Nat.zero_le _, (fun y hy => by simp at hy), hb0.out _, hB0.out⟩
        case round =>
          obtain ⟨k, rfl, hk, H⟩ := hrel
          by_cases hkl : k < l.length
          · have hki : (k : Int) < (l.length : Int) := by omega
            have hk63 : (k : Int) < 9223372036854775807 := by omega
            obtain ⟨b', o', c'', he, hbl', hlc', hcm', ns1, ls1, hrg', hrd'⟩ := hl.out.at k hkl
            have he' := Value.slice.inj he
            obtain ⟨rfl, _, rfl⟩ := he'
            clear he
            obtain ⟨y0, y1, y2, y3, y4, y5, y6, y7, y8⟩ := range9 (rangeAt_below hrg' H.out.2.1 hbl')
            obtain ⟨e1, e2, e3, e4, e5, e6, rfl, rfl⟩ := hrd'.shape
            clear hrg' hrd'
            have hvk := hv.out _ (List.getElem_mem hkl)
            obtain ⟨c0, c1, c2⟩ := H.out.2.2.cells
            have c0a := fun o => (H.out.2.2.below (W1 := wr.alloc o) (below_al (Below.refl _ _))).cells.1
            obtain ⟨bk, hbk⟩ := tells (PkOk h.kind (l[k]).1)
            have hcall := hide (fun o => Calls.tb (hasPlain_any h.kind (l[k]).1 e1 e4 e2 e3 e5 e6 (wr.alloc o) (gt.out.below (below_al H.out.2.1)) hlow.out hvk.1.2.1.1 (by have := hvk.2.2.1; unfold maxLen; omega)) hbk)
            have hbk' := hide hbk
            have hmk := hide (show l[k] ∈ l from List.getElem_mem _)
            clear hvk hbk
            obtain ⟨x, hxk⟩ : ∃ x, l[k] = x := ⟨_, rfl⟩
            rw [hxk] at y0 y1 y2 y3 y4 y5 y6 hbk' hcall hmk
            have hxk := hide hxk
            obtain ⟨hd, ll⟩ := x
            simp only [vhd] at y0 y1 y2 y3 y4 y5 y6
            simp only at hcall hbk'
            cases bk
            · go_wp2_with (go_at_call 54; refine (hcall.out _).mono ?_; rintro e w3 ⟨rfl, hb3⟩)
              go_ret
              exact TB.no (fun q => by have := hbk'.out.2 ((hx.out _).1 (q (hd, ll) hmk.out)); cases this) (below_then (below_al H.out.2.1) hb3)
            · go_wp2_with (go_at_call 54; refine (hcall.out _).mono ?_; rintro e w3 ⟨rfl, hb3⟩)
              refine ⟨⟨k + 1, by go_num, by omega, ?_, below_then (below_al H.out.2.1) hb3, (H.out.2.2.below (below_al (Below.refl _ _))).below hb3⟩, by simp [intOf]; omega⟩
              refine mem_take_more hkl H.out.1 ?_
              rw [hxk.out]
              exact hbk'.out.1 (by simp)
          · have hki : ¬ ((k : Int) < (l.length : Int)) := by omega
            have hE := H.out.1
            rw [List.take_of_length_le (by omega)] at hE
            have hE' := hide hE
            clear hE
            go_wp2_with fail
            go_ret
            exact TB.yes (fun v hv => (hx.out v).2 (hE'.out v hv)) H.out.2.1
end Go.Proofs.YtolmbjeinilhlaaDoor
/- types.Has: walked. -/
namespace Go.Proofs.YtolmbjeinilhlaaDoor
open Go.RowKit Go.Maps
set_option linter.unusedSimpArgs false
set_option linter.unusedVariables false
theorem VL.one {m : Nat} {w0 W : World} {g : Nat} {v : VT m} {ns ls : Value} (hr : RD m W v ns ls) (hb : Bx W g (vhd m v) ns ls) : VL m W (.slice (some ⟨g, 0, none⟩) 1 1) [v] := by
  refine ⟨Or.inl ⟨rfl, rfl⟩, Or.inr ⟨g, 0, 1, none, rfl, Nat.le_refl _, by decide, fun _ => ⟨rfl, hb.lt⟩, fun i hi => ?_⟩⟩
  have hi0 : i = 0 := by have : i < 1 := hi; omega
  subst hi0
  exact ⟨ns, ls, by have := hb.range; simpa using this, hr⟩
set_option maxHeartbeats 1000000 in
set_option maxRecDepth 100000 in
theorem has_any (n : Nat) (t : TT n) (ns ls : Value) (m : Nat) (v : VT m) (ns' ls' : Value) (w : World) (ht : TRd n w t ns ls) (hv : Rdy m w v ns' ls') (g : Ut.Gu w) (gt : Gt w) (E F : Int) (hE : TChk n t E) (hF : Chk m v F) :
    Calls Tryd.prog 13 #[.agg (tvs (thd n t) ns ls), .agg (vals (vhd m v) ns' ls')] w fun e w' => SubP (Chk2 E F) (InT n t m v) w e w' := by
  obtain ⟨a1, m1, d1, a2, m2, d2, rfl, rfl⟩ := ht.rd.shape
  obtain ⟨a3, m3, d3, a4, m4, d4, rfl, rfl⟩ := hv.rd.shape
  have hA := hide (fun W (hb : Below w.heap.size w W) => tcheck_any n t _ _ W (ht.below hb) (g.below hb) (gt.below hb) E hE)
  have hB := hide (fun W (hb : Below w.heap.size w W) => check_any m v _ _ W (hv.below hb) (g.below hb) F hF)
  have hH := hide (fun (q : IsT n t ∧ IsV m v) W lv (hb : Below w.heap.size w W) (hl : VL m W lv [v]) => hasAll_ok n t _ _ m [v] lv W (ht.rd.below hb) hl q.1 ⟨ht.sz, ht.le⟩ (fun x hx => by rw [List.mem_singleton.1 hx]; exact ⟨q.2, hv.sz⟩) (by simp only [sizL, List.map_cons, List.map_nil, suml]; exact hv.le) (gt.below hb))
  have hvl := hide (fun W g (hb : Below w.heap.size w W) (hx : Bx W g (vhd m v) (.slice a3 m3 d3) (.slice a4 m4 d4)) => VL.one (w0 := w) (hv.rd.below hb) hx)
  have hb0 : Hid (∀ o o', Below w.heap.size w ((w.alloc o).alloc o')) := fun o o' => below_al (below_al (Below.refl _ _))
  have hE0 : Hid (E = 0 → IsT n t) := by
    intro q
    rcases hE with ⟨e, _⟩ | ⟨e, _⟩ | ⟨e, k, _⟩
    · rw [e] at q; cases q
    · rw [e] at q; cases q
    · exact k
  have hF0 : Hid (F = 0 → IsV m v) := by
    intro q
    rcases hF with ⟨e, _⟩ | ⟨e, _⟩ | ⟨e, k, _⟩
    · rw [e] at q; cases q
    · rw [e] at q; cases q
    · exact k
  have hx : Hid ((∀ x ∈ [v], InT n t m x) ↔ InT n t m v) := ⟨fun q => q v (by simp), fun q x hx => by rw [List.mem_singleton.1 hx]; exact q⟩
  obtain ⟨h, hh⟩ : ∃ h, thd n t = h := ⟨_, rfl⟩
  obtain ⟨k, hk⟩ : ∃ k, vhd m v = k := ⟨_, rfl⟩
  rw [hh] at hA hH ⊢
  rw [hk] at hB hvl ⊢
  clear hh hk ht hv g gt hE hF
  have hT : Hid (∀ w1, Below ((w.alloc (.cells (tvs h (.slice a1 m1 d1) (.slice a2 m2 d2)) 26)).alloc (.cells (vals k (.slice a3 m3 d3) (.slice a4 m4 d4)) 33)).heap.size ((w.alloc (.cells (tvs h (.slice a1 m1 d1) (.slice a2 m2 d2)) 26)).alloc (.cells (vals k (.slice a3 m3 d3) (.slice a4 m4 d4)) 33)) w1 → Tx w1 w.heap.size h (.slice a1 m1 d1) (.slice a2 m2 d2) ∧ Bx w1 (w.heap.size + 1) k (.slice a3 m3 d3) (.slice a4 m4 d4)) := fun w1 hb => by
    refine ⟨((tx_new w h _ _).below (below_al (Below.refl _ _))).below hb, ?_⟩
    have := bx_new (w.alloc (.cells (tvs h (.slice a1 m1 d1) (.slice a2 m2 d2)) 26)) k (.slice a3 m3 d3) (.slice a4 m4 d4)
    rw [World.size_alloc] at this
    exact this.below hb
  show Calls _ _ #[.agg #[.int .i64 h.kind, .slice a1 m1 d1, .slice a2 m2 d2], .agg #[.int .i64 k.kind, .bool k.flag, .bool k.neg, .string k.dig, .int .i64 k.exp, .int .u64 k.bits, .string k.text, .slice a3 m3 d3, .slice a4 m4 d4]] _ _
  by_cases h0 : E = 0
  · have hr : Hid (Chk2 E F = F) := by rw [h0]; rfl
    rw [hr.out]
    have hIT := hide (hE0.out h0)
    subst h0
    go_enter Tryd.func13, Tryd.ntmps13
    go_wp2_with fail
    refine (hA.out _ (hb0.out _ _)).mono ?_
    rintro e w1 ⟨rfl, hb1⟩
    have hw1 := hide (below_then (hb0.out _ _) hb1)
    have hT1 := hide (hT.out w1 hb1)
    obtain ⟨c0, c1, c2, c3, c4, c5, c6, c7, c8⟩ := hT1.out.2.cells
    by_cases f0 : F = 0
    · have hIV := hide (hF0.out f0)
      subst f0
      go_wp2_with fail
      refine (hB.out _ hw1.out).mono ?_
      rintro e w2 ⟨rfl, hb2⟩
      have hw2 := hide (below_then hw1.out hb2)
      clear c0 c1 c2 c3 c4 c5 c6 c7 c8
      obtain ⟨c0, c1, c2, c3, c4, c5, c6, c7, c8⟩ := (hT1.out.2.below hb2).cells
      obtain ⟨t0, t1, t2⟩ := (hT1.out.1.below hb2).cells
      have hcall := hide (hH.out ⟨hIT.out, hIV.out⟩ (w2.alloc (.cells (vals k (.slice a3 m3 d3) (.slice a4 m4 d4)) 33)) (.slice (some ⟨w2.heap.size, 0, none⟩) 1 1) (below_al hw2.out) (hvl.out _ _ (below_al hw2.out) (bx_new w2 k _ _)))
      go_wp2_with (go_at_call 32; refine hcall.out.mono ?_; rintro e w3 ⟨b, rfl, hTT, hb3⟩; have hTT := hide hTT)
      refine bodyPost_ret (v := .tuple #[.bool b, .int .i64 0]) (by simp [results, Tryd.results13, go_sem]) rfl ⟨b, rfl, ?_, below_then (below_al hw2.out) hb3⟩
      exact ⟨fun q => ⟨rfl, hx.out.1 (hTT.out.1 q)⟩, fun q => hTT.out.2 (hx.out.2 q.2)⟩
    · have h1 : (F != 0) = true := by simpa using f0
      have h2 : (F == 0) = false := beq_eq_false_iff_ne.2 f0
      have h3 : decide (F = 0) = false := decide_eq_false f0
      go_wp2_with fail
      refine (hB.out _ hw1.out).mono ?_
      rintro e w2 ⟨rfl, hb2⟩
      go_wp2_with fail
      refine bodyPost_ret (v := .tuple #[.bool false, .int .i64 F]) (by simp [results, Tryd.results13, go_sem]) rfl ⟨false, rfl, ?_, below_then hw1.out hb2⟩
      exact ⟨(fun q => by cases q), fun q => absurd q.1 f0⟩
  · have hr : Hid (Chk2 E F = E) := by
      have : (E == 0) = false := beq_eq_false_iff_ne.2 h0
      show (bif E == 0 then F else E) = E
      rw [this]; rfl
    rw [hr.out]
    have h1 : (E != 0) = true := by simpa using h0
    have h2 : (E == 0) = false := beq_eq_false_iff_ne.2 h0
    have h3 : decide (E = 0) = false := decide_eq_false h0
    go_enter Tryd.func13, Tryd.ntmps13
    go_wp2_with fail
    refine (hA.out _ (hb0.out _ _)).mono ?_
    rintro e w1 ⟨rfl, hb1⟩
    have hw1 := hide (below_then (hb0.out _ _) hb1)
    go_wp2_with fail
    refine bodyPost_ret (v := .tuple #[.bool false, .int .i64 E]) (by simp [results, Tryd.results13, go_sem]) rfl ⟨false, rfl, ?_, hw1.out⟩
    exact ⟨(fun q => by cases q), fun q => absurd q.1 h0⟩
end Go.Proofs.YtolmbjeinilhlaaDoor
/- Copies of types: what the walks of types.copied and calamuskeep.CopyType lean on. -/
namespace Go.Proofs.YtolmbjeinilhlaaDoor
open Go.RowKit Go.Maps
set_option linter.unusedSimpArgs false
set_option linter.unusedVariables false
theorem infoTT : (Tryd.prog.info? 26).map (fun i => (i.zero, i.size, i.bytes)) = some (some (.agg #[.int .i64 0, .slice none 0 0, .slice none 0 0]), 3, 56) := by kernel_rfl
section
variable {w : World} {ops : Array Oper} {rest : List Oper} {o : Oper} {a : Act} {Q : Exit → Act → World → Prop}
theorem app_t (hgd : o.guard = none) (s x : Operand) (ho : o.op = .call { callee := .builtin .append, args := #[s, x], argTypes := #[24, 24] })
    (B : Nat) (v : Value) (n : Nat) (xs : List Value) (hs : a.eval s = v) (hown : w.ownsRow B 26 3 v n xs) (g c : Nat) (hx : a.eval x = .slice (some ⟨g, 0, none⟩) 1 c) (hd : Th) (ns ls : Value) (hn : ns.oneCell' = true) (hl : ls.oneCell' = true)
    (hnews : w.rangeAt g 0 (tvs hd ns ls).toList) (hm : n ≤ 200000) (hB : B ≤ w.heap.size)
    (h : ∀ av c' w', Hid (w'.ownsRow B 26 3 (.slice av (n + 1) c') (n + 1) (xs ++ (tvs hd ns ls).toList)) → Hid (w.grownBy w' v.ownBlock) → Hid ((Value.slice av (n + 1) c').ownBlock = v.ownBlock ∨ (Value.slice av (n + 1) c').ownBlock = some w.heap.size) → wpList Tryd.prog ops Q rest (a.put o.dst (.slice av (n + 1) c')) w') : wpList Tryd.prog ops Q (o :: rest) a w := by
  obtain ⟨i0, hi, hz0, hz1, hz2⟩ := info_parts infoTT
  refine wpList_append_own_at w hgd s x 24 ho B 26 i0 _ 3 56 Tryd.underlying24 hi hz0 hz1 hz2 rfl (by decide) v n xs hs hown ⟨g, 0, none⟩ 1 c (tvs hd ns ls).toList hx rfl ?_ ?_ ?_ ?_ hB ?_
  · intro j u hj
    have := hnews j u hj
    rw [show (⟨g, 0, none⟩ : Addr).add j = ⟨g, 0 + j, none⟩ by unfold Addr.add; split <;> simp_all]
    exact this
  · intro u hu
    simp only [tvs, List.mem_cons, List.not_mem_nil, or_false] at hu
    rcases hu with rfl | rfl | rfl
    all_goals first | rfl | exact hn | exact hl
  · unfold maxLen; omega
  · omega
  · intro v' w' h1 h2 h3 h4
    rcases h1.2 with ⟨rfl, e⟩ | ⟨g', cap, cur, rfl, _⟩
    · omega
    · exact h _ _ w' h1 h2 h4
end
/-- A struct reads as x, whatever lies outside the blocks from s to e. -/
def KT (n : Nat) (W : World) (x : TT n) (ns ls : Value) (s e : Nat) : Prop := s ≤ e ∧ e ≤ W.heap.size ∧ ∀ W' : World, (∀ k, s ≤ k → k < e → W'.heap[k]? = W.heap[k]?) → RT n W' x ns ls
theorem KT.move {n : Nat} {W W1 : World} {x : TT n} {ns ls : Value} {s e : Nat} (h : KT n W x ns ls s e) (hs : e ≤ W1.heap.size) (hb : ∀ k, s ≤ k → k < e → W1.heap[k]? = W.heap[k]?) : KT n W1 x ns ls s e :=
  ⟨h.1, hs, fun W' h' => h.2.2 W' fun k h1 h2 => (h' k h1 h2).trans (hb k h1 h2)⟩
theorem KT.rd {n : Nat} {W : World} {x : TT n} {ns ls : Value} {s e : Nat} (h : KT n W x ns ls s e) : RT n W x ns ls := h.2.2 W fun _ _ _ => rfl
/-- Where Copy stands: k elements are copied. -/
structure LT (n : Nat) (l : List (TT n)) (w1 : World) (k : Nat) (lv : Value) (W : World) : Prop where
  below : Below w1.heap.size w1 W
  row : ∃ xs, W.ownsRow w1.heap.size 26 3 lv k xs ∧ ∀ j (h : j < l.length), j < k → ∃ ns ls s e, KT n W l[j] ns ls s e ∧ w1.heap.size ≤ s ∧ (∀ g, lv.ownBlock = some g → g < s ∨ e ≤ g) ∧ ∀ r v, (tvs (thd n l[j]) ns ls).toList[r]? = some v → xs[j * 3 + r]? = some v
theorem LT.start {n : Nat} {l : List (TT n)} {w1 : World} : LT n l w1 0 (.slice none 0 0) w1 :=
  ⟨Below.refl _ _, [], World.ownsRow_nil _ _ _ _, fun j _ h => by omega⟩
theorem LT.step {n : Nat} {l : List (TT n)} {w1 W w2 w3 w4 : World} {k : Nat} {lv lv' : Value} {xs : List Value} {ns ls : Value} (h : LT n l w1 k lv W) (hk : k < l.length)
    (hx : W.ownsRow w1.heap.size 26 3 lv k xs)
    (hall : ∀ j (h : j < l.length), j < k → ∃ ns ls s e, KT n W l[j] ns ls s e ∧ w1.heap.size ≤ s ∧ (∀ g, lv.ownBlock = some g → g < s ∨ e ≤ g) ∧ ∀ r v, (tvs (thd n l[j]) ns ls).toList[r]? = some v → xs[j * 3 + r]? = some v)
    (hc : KT n w2 l[k] ns ls W.heap.size w2.heap.size) (hb2 : Below W.heap.size W w2) (hb3 : Below w2.heap.size w2 w3) (hg : w3.grownBy w4 lv.ownBlock)
    (ho : w4.ownsRow w1.heap.size 26 3 lv' (k + 1) (xs ++ (tvs (thd n l[k]) ns ls).toList)) (hat : lv'.ownBlock = lv.ownBlock ∨ lv'.ownBlock = some w3.heap.size) : LT n l w1 (k + 1) lv' w4 := by
  have hB := h.below.size
  have hrow := hx.lt
  have z2 := hb2.size
  have z3 := hb3.size
  have z4 := hg.size
  refine ⟨?_, _, ho, ?_⟩
  · refine (((h.below.trans (hb2.mono hB)).trans (hb3.mono (by omega))).grown hg (by omega) fun g hg' => (hrow g hg').1)
  · intro j hj hjk
    by_cases hjk' : j < k
    · obtain ⟨ns', ls', s, e, k1, k2, k3, k4⟩ := hall j hj hjk'
      refine ⟨ns', ls', s, e, k1.move (by have := k1.2.1; omega) ?_, k2, ?_, ?_⟩
      · intro q q1 q2
        have := k1.2.1
        rw [hg.block q (by omega) (fun e1 => by rcases k3 q e1.symm with h | h <;> omega), hb3.block q (by omega), hb2.block q (by omega)]
      · intro g hg'
        rcases hat with h | h
        · exact k3 g (h ▸ hg')
        · rw [h] at hg'; cases hg'; right; have := k1.2.1; omega
      · intro r v hr
        have := k4 r v hr
        rw [List.getElem?_append_left ((List.getElem?_eq_some_iff.1 this).1)]
        exact this
    · obtain rfl : j = k := by omega
      refine ⟨ns, ls, W.heap.size, w2.heap.size, hc.move (by omega) ?_, hB, ?_, ?_⟩
      · intro q q1 q2
        rw [hg.block q (by omega) (fun e1 => by have := (hrow q e1.symm).2; omega), hb3.block q (by omega)]
      · intro g hg'
        rcases hat with h | h
        · left; exact (hrow g (h ▸ hg')).2
        · rw [h] at hg'; cases hg'; right; omega
      · intro r v hr
        have hl : xs.length = j * 3 := hx.1
        rw [List.getElem?_append_right (by omega), hl, Nat.add_sub_cancel_left]
        exact hr
/-- What Copy makes: all that it made lies in new blocks. -/
theorem LT.done {n : Nat} {h : Th} {l : List (TT n)} {w w1 W W1 : World} {nv lv : Value} (H : LT n l w1 l.length lv W) (ho : OwnS w1 (w.heap.size + 2) nv h.names) (hz : w.heap.size + 2 ≤ w1.heap.size)
    (hs : W1.heap.size = W.heap.size) (hb : ∀ k, w.heap.size + 2 ≤ k → W1.heap[k]? = W.heap[k]?) : KT (n + 1) W1 (h, l) nv lv w.heap.size W1.heap.size := by
  obtain ⟨xs, hx, hall⟩ := H.row
  have hB := H.below.size
  refine ⟨by omega, Nat.le_refl _, fun W' h' => ⟨?_, ?_⟩⟩
  · have hr := World.ownsRow.lt ho
    have ho2 := ho
    obtain ⟨h0, h1⟩ := ho
    rcases h1 with ⟨rfl, e⟩ | ⟨g, cap, cur, rfl, k1, k2, k3, k4, k5, k6⟩
    · exact Or.inl ⟨rfl, List.eq_nil_of_length_eq_zero e⟩
    · have hg := (hr g rfl).2
      have hg2 := (hr g rfl).1
      have hsame : W'.heap[g]? = w1.heap[g]? := by rw [h' g (by omega) (by omega), hb g hg2, H.below.block g hg]
      refine Or.inr ⟨g, 0, cap, none, rfl, k3, k4, fun _ => ⟨rfl, ?_⟩, fun i hi => ?_⟩
      · by_cases hlt : g < W'.heap.size
        · exact hlt
        · rw [k2, Array.getElem?_eq_none (by omega)] at hsame; cases hsame
      · rw [Nat.zero_add, World.cell?_of_block (a := ⟨g, i, none⟩) hsame, World.ownsRow.cellAt ho2 i (by simpa using hi)]
        simp [scs, hi]
  · have hr := World.ownsRow.lt hx
    have hx2 := hx
    obtain ⟨h0, h1⟩ := hx
    rcases h1 with ⟨rfl, e⟩ | ⟨g, cap, cur, rfl, k1, k2, k3, k4, k5, k6⟩
    · exact Or.inl ⟨rfl, List.eq_nil_of_length_eq_zero e⟩
    · have hg := (hr g rfl).2
      have hsame : W'.heap[g]? = W.heap[g]? := by rw [h' g (by omega) (by omega), hb g (by omega)]
      refine Or.inr ⟨g, 0, cap, none, rfl, k3, k4, fun _ => ⟨rfl, ?_⟩, fun i hi => ?_⟩
      · by_cases hlt : g < W'.heap.size
        · exact hlt
        · rw [k2, Array.getElem?_eq_none (by omega)] at hsame; cases hsame
      · obtain ⟨ns', ls', s, e, q1, q2, q3, q4⟩ := hall i hi hi
        refine ⟨ns', ls', ?_, q1.2.2 W' fun k r1 r2 => ?_⟩
        · intro r v hrv
          have hq := q4 r v hrv
          have hlt := (List.getElem?_eq_some_iff.1 hq).1
          have hr9 : r < 3 := (List.getElem?_eq_some_iff.1 hrv).1
          rw [Nat.zero_add, World.cell?_of_block (a := ⟨g, i * 3 + r, none⟩) hsame, World.ownsRow.cellAt hx2 _ (by rw [h0] at hlt; exact hlt)]
          exact hq
        · have := q1.2.1
          rw [h' k (by omega) (by omega), hb k (by omega)]
end Go.Proofs.YtolmbjeinilhlaaDoor
/- types.copied: walked. -/
namespace Go.Proofs.YtolmbjeinilhlaaDoor
open Go.RowKit Go.Maps
set_option linter.unusedSimpArgs false
set_option linter.unusedVariables false
theorem own_shape {W : World} {B : Nat} {T : TypeId} {sz : Nat} {v : Value} {n : Nat} {xs : List Value} (h : W.ownsRow B T sz v n xs) : ∃ a c, v = .slice a n c := by
  rcases h.2 with ⟨rfl, rfl⟩ | ⟨g, cap, cur, rfl, _⟩
  · exact ⟨_, _, rfl⟩
  · exact ⟨_, _, rfl⟩
theorem rows_neT {W : World} {nv lv : Value} {B nn m : Nat} {xs ys : List Value} {g : Nat} (h1 : W.ownsRow B 9 1 nv nn xs) (h2 : W.ownsRow B 26 3 lv m ys) (e1 : nv.ownBlock = some g) (e2 : lv.ownBlock = some g) : False := by
  rcases h1.2 with ⟨rfl, _⟩ | ⟨g1, cap, cur, rfl, _, hg1, _⟩
  · cases e1
  · rcases h2.2 with ⟨rfl, _⟩ | ⟨g2, cap, cur, rfl, _, hg2, _⟩
    · cases e2
    · cases e1; cases e2
      rw [hg1] at hg2
      cases hg2
theorem Tx.set2 {W : World} {h : Th} {ns ls u : Value} {i : Nat} (q : Tx W i h ns ls) : Tx (W.setCell ⟨i, 2, none⟩ u) i h ns u := by
  refine ⟨?_⟩
  rw [(set_heap9 W i 2 _ _ u q.at_).1]
  rfl
theorem Tx.set1 {W : World} {h : Th} {ns ls u : Value} {i : Nat} (q : Tx W i h ns ls) : Tx (W.setCell ⟨i, 1, none⟩ u) i h u ls := by
  refine ⟨?_⟩
  rw [(set_heap9 W i 1 _ _ u q.at_).1]
  rfl
theorem Tx.frz {W : World} {i : Nat} {h : Th} {ns ls : Value} (q : Tx W i h ns ls) (j : Nat) : W.frozen? ⟨i, j, none⟩ = false := by
  have := q.at_
  simp [World.frozen?, this]
/-- Where copied stands: k children are copied. -/
structure LC (n : Nat) (l : List (TT n)) (h : Th) (w : World) (V k : Nat) (nv lv : Value) (W : World) : Prop where
  below : Below w.heap.size w W
  hV : w.heap.size + 2 ≤ V
  box : Tx W V h nv lv
  nrow : OwnS W (w.heap.size + 2) nv h.names
  nne : nv.ownBlock ≠ some V
  lne : lv.ownBlock ≠ some V
  row : ∃ xs, W.ownsRow (w.heap.size + 2) 26 3 lv k xs ∧ ∀ j (hj : j < l.length), j < k → ∃ ns ls s e, KT n W l[j] ns ls s e ∧ w.heap.size + 2 ≤ s ∧ (V < s ∨ e ≤ V) ∧ (∀ g, lv.ownBlock = some g → g < s ∨ e ≤ g) ∧ (∀ g, nv.ownBlock = some g → g < s ∨ e ≤ g) ∧ ∀ r v, (tvs (thd n l[j]) ns ls).toList[r]? = some v → xs[j * 3 + r]? = some v
section
variable {n : Nat} {l : List (TT n)} {h : Th} {w W : World} {V k : Nat} {nv lv : Value}
theorem LC.push {w2 w3 w4 : World} {lv' : Value} {ns ls : Value} {xs : List Value} (H : LC n l h w V k nv lv W) (hk : k < l.length)
    (hx : W.ownsRow (w.heap.size + 2) 26 3 lv k xs)
    (hall : ∀ j (hj : j < l.length), j < k → ∃ ns ls s e, KT n W l[j] ns ls s e ∧ w.heap.size + 2 ≤ s ∧ (V < s ∨ e ≤ V) ∧ (∀ g, lv.ownBlock = some g → g < s ∨ e ≤ g) ∧ (∀ g, nv.ownBlock = some g → g < s ∨ e ≤ g) ∧ ∀ r v, (tvs (thd n l[j]) ns ls).toList[r]? = some v → xs[j * 3 + r]? = some v)
    (s0 : Nat) (hs0 : W.heap.size ≤ s0) (hc : KT n w2 l[k] ns ls s0 w2.heap.size) (z2 : w2.heap.size ≤ w3.heap.size) (a1 : ∀ q, q < W.heap.size → w3.heap[q]? = W.heap[q]?) (a2 : ∀ q, s0 ≤ q → q < w2.heap.size → w3.heap[q]? = w2.heap[q]?)
    (hbw : Below w.heap.size w w3) (hg : w3.grownBy w4 lv.ownBlock)
    (ho : w4.ownsRow (w.heap.size + 2) 26 3 lv' (k + 1) (xs ++ (tvs (thd n l[k]) ns ls).toList)) (hat : lv'.ownBlock = lv.ownBlock ∨ lv'.ownBlock = some w3.heap.size) :
    LC n l h w V (k + 1) nv lv' (w4.setCell ⟨V, 2, none⟩ lv') ∧ Tx w4 V h nv lv ∧ ∀ q, q < w.heap.size + 2 → (w4.setCell ⟨V, 2, none⟩ lv').heap[q]? = W.heap[q]? := by
  have hVl := H.box.lt
  have hVb := H.hV
  have hnl := World.ownsRow.lt H.nrow
  have hll := World.ownsRow.lt hx
  have z1 := hc.1
  have z4 := hg.size
  have hne : ∀ g, nv.ownBlock = some g → lv.ownBlock ≠ some g := fun g e1 e2 => rows_neT H.nrow hx e1 e2
  have hol := World.ownsRow.lt ho
  have old : ∀ q, q < W.heap.size → lv.ownBlock ≠ some q → w4.heap[q]? = W.heap[q]? := fun q q1 q2 => (hg.block q (by omega) (fun e => q2 e.symm)).trans (a1 q q1)
  have bxx : Tx w4 V h nv lv := ⟨(old V hVl H.lne).trans H.box.at_⟩
  have lne' : lv'.ownBlock ≠ some V := by
    rcases hat with q | q
    · rw [q]; exact H.lne
    · rw [q]; intro e; have : w3.heap.size = V := by simpa using e
      omega
  refine ⟨⟨((hbw.grown hg hbw.size fun g e => by have := (hll g e).1; omega).setCell (by show w.heap.size ≤ V; omega) _), H.hV, bxx.set2, ?_, H.nne, lne', _, ownsRow_of ho fun g e hg' => heap_set_ne (fun q => lne' (q ▸ e)), fun j hj hjk => ?_⟩, bxx, fun q hq => ?_⟩
  · refine ownsRow_of H.nrow fun g e hg' => ?_
    rw [heap_set_ne (show g ≠ V from fun q => H.nne (q ▸ e))]
    exact old g hg' (hne g e)
  · by_cases hjk' : j < k
    · obtain ⟨ns', ls', s, e, k1, k2, k2', k3, k4, k5⟩ := hall j hj hjk'
      refine ⟨ns', ls', s, e, k1.move (by simp; have := k1.2.1; omega) ?_, k2, k2', ?_, k4, ?_⟩
      · intro q q1 q2
        have := k1.2.1
        rw [heap_set_ne (by omega)]
        exact old q (by omega) (fun e1 => by rcases k3 q e1 with h | h <;> omega)
      · intro g hg'
        rcases hat with h | h
        · exact k3 g (h ▸ hg')
        · rw [h] at hg'; cases hg'; right; have := k1.2.1; omega
      · intro r v hr
        have := k5 r v hr
        rw [List.getElem?_append_left ((List.getElem?_eq_some_iff.1 this).1)]
        exact this
    · obtain rfl : j = k := by omega
      refine ⟨ns, ls, s0, w2.heap.size, hc.move (by simp; omega) ?_, by omega, by omega, ?_, ?_, ?_⟩
      · intro q q1 q2
        rw [heap_set_ne (by omega), hg.block q (by omega) (fun e1 => by have := (hll q e1.symm).2; omega)]
        exact a2 q q1 q2
      · intro g hg'
        rcases hat with h | h
        · left; have := (hll g (h ▸ hg')).2; omega
        · rw [h] at hg'; cases hg'; right; omega
      · intro g hg'
        left; have := (hnl g hg').2; omega
      · intro r v hr
        have hl : xs.length = j * 3 := hx.1
        rw [List.getElem?_append_right (by omega), hl, Nat.add_sub_cancel_left]
        exact hr
  · rw [heap_set_ne (by omega)]
    exact old q (by omega) (fun e => by have := (hll q e).1; omega)
theorem LC.done {W1 : World} (H : LC n l h w V l.length nv lv W) (hs : W1.heap.size = W.heap.size) (hb : ∀ q, w.heap.size + 2 ≤ q → W1.heap[q]? = W.heap[q]?) : KT (n + 1) W1 (h, l) nv lv w.heap.size W1.heap.size := by
  obtain ⟨xs, hx, hall⟩ := H.row
  have hB := H.below.size
  have hVw := H.hV
  have hVl := H.box.lt
  refine ⟨by omega, Nat.le_refl _, fun W' h' => ⟨?_, ?_⟩⟩
  · have ho := H.nrow
    have hr := World.ownsRow.lt ho
    have ho2 := ho
    obtain ⟨h0, h1⟩ := ho
    rcases h1 with ⟨rfl, e⟩ | ⟨g, cap, cur, rfl, k1, k2, k3, k4, k5, k6⟩
    · exact Or.inl ⟨rfl, List.eq_nil_of_length_eq_zero e⟩
    · have hg := (hr g rfl).2
      have hg2 := (hr g rfl).1
      have hsame : W'.heap[g]? = W.heap[g]? := by rw [h' g (by omega) (by omega), hb g (by omega)]
      refine Or.inr ⟨g, 0, cap, none, rfl, k3, k4, fun _ => ⟨rfl, ?_⟩, fun i hi => ?_⟩
      · by_cases hlt : g < W'.heap.size
        · exact hlt
        · rw [k2, Array.getElem?_eq_none (by omega)] at hsame; cases hsame
      · rw [Nat.zero_add, World.cell?_of_block (a := ⟨g, i, none⟩) hsame, World.ownsRow.cellAt ho2 i (by simpa using hi)]
        simp [scs, hi]
  · have hr := World.ownsRow.lt hx
    have hx2 := hx
    obtain ⟨h0, h1⟩ := hx
    rcases h1 with ⟨rfl, e⟩ | ⟨g, cap, cur, rfl, k1, k2, k3, k4, k5, k6⟩
    · exact Or.inl ⟨rfl, List.eq_nil_of_length_eq_zero e⟩
    · have hg := (hr g rfl).2
      have hg2 := (hr g rfl).1
      have hsame : W'.heap[g]? = W.heap[g]? := by rw [h' g (by omega) (by omega), hb g (by omega)]
      refine Or.inr ⟨g, 0, cap, none, rfl, k3, k4, fun _ => ⟨rfl, ?_⟩, fun i hi => ?_⟩
      · by_cases hlt : g < W'.heap.size
        · exact hlt
        · rw [k2, Array.getElem?_eq_none (by omega)] at hsame; cases hsame
      · obtain ⟨ns', ls', s, e, q1, q2, q2', q3, q3', q4⟩ := hall i hi hi
        refine ⟨ns', ls', ?_, q1.2.2 W' fun q r1 r2 => ?_⟩
        · intro r v hrv
          have hq := q4 r v hrv
          have hlt := (List.getElem?_eq_some_iff.1 hq).1
          rw [Nat.zero_add, World.cell?_of_block (a := ⟨g, i * 3 + r, none⟩) hsame, World.ownsRow.cellAt hx2 _ (by rw [h0] at hlt; exact hlt)]
          exact hq
        · have := q1.2.1
          rw [h' q (by omega) (by omega), hb q (by omega)]
end
/-- append(nil, names...), as a step of a drawn region. -/
theorem step_names {w : World} {ops : Array Oper} {o : Oper} {a : Act} {K : Act → World → Prop} {Q : Exit → Act → World → Prop} {E : Prop} (hgd : o.guard = none) (s x : Operand) (ho : o.op = .call { callee := .builtin .append, args := #[s, x], argTypes := #[23, 23] })
    (hs : a.eval s = .slice none 0 0) (an : Option Addr) (n cn : Nat) (l : List ByteArray) (hx : a.eval x = .slice an n cn) (hn : l.length = n) (hl : NL w (.slice an n cn) l) (hm : n ≤ 281474976710)
    (h : ∀ av c' w', Hid (OwnS w' w.heap.size (.slice av n c') l) → Hid (Below w.heap.size w w') → K (a.put o.dst (.slice av n c')) w') :
    if Region.wanted o (yielded ops a.tmps) = true then Oper.wp Tryd.prog o a w K Q else E := by
  have hw : Region.wanted o (yielded ops a.tmps) = true := by simp [Region.wanted, hgd]
  rw [if_pos hw]
  obtain ⟨i0, hi, hz0, hz1, hz2⟩ := info_parts info9
  cases an with
  | none =>
    have hn0 : n = 0 ∧ cn = 0 ∧ l = [] := by
      rcases hl with ⟨e, e2⟩ | ⟨_, _, _, _, e, _⟩
      · simp only [Value.slice.injEq] at e; exact ⟨e.2.1, e.2.2, e2⟩
      · cases e
    obtain ⟨rfl, rfl, rfl⟩ := hn0
    have hr := run_append_owned_none (P := Tryd.prog) w w.heap.size 23 o.type 9 i0 1 Tryd.underlying23 hi (.slice none 0 0) 0 [] (World.ownsRow_nil _ _ _ _)
    unfold Oper.wp execOp
    simp only [ho, resolve, invoke, builtin, Sem.run_bind, Sem.run_pure, Result.andThen_ok, List.map_toArray, List.map_cons, List.map_nil, hs, hx, hr]
    exact h none 0 w (World.ownsRow_nil _ _ _ _) (Below.refl _ _)
  | some ad =>
    obtain ⟨v', w', hr, h1, h2, h3, h4⟩ := run_append_own_at (P := Tryd.prog) w w.heap.size 23 o.type 9 i0 _ 1 16 Tryd.underlying23 hi hz0 hz1 hz2 rfl (by decide) (.slice none 0 0) 0 [] (World.ownsRow_nil _ _ _ _) ad n cn (scs l) (by rw [scs_length, hn]; simp) (NL.news hl (b := 0) (o := 0) (sp := 0)) (scs_one _) (by unfold maxLen; omega) (by omega) (Nat.le_refl _)
    unfold Oper.wp execOp
    simp only [ho, resolve, invoke, builtin, Sem.run_bind, Sem.run_pure, Result.andThen_ok, List.map_toArray, List.map_cons, List.map_nil, hs, hx, hr]
    simp only [Nat.zero_add, List.nil_append] at h1
    have h1' : OwnS w' w.heap.size v' l := by unfold OwnS; rw [hn]; exact h1
    have hb : Below w.heap.size w w' := (Below.refl _ w).grown h2 (Nat.le_refl _) (fun k hk => by cases hk)
    rcases h1.2 with ⟨rfl, e⟩ | ⟨g, cap, cur, rfl, _⟩
    · subst e; exact h none 0 w' h1' hb
    · exact h _ _ w' h1' hb
end Go.Proofs.YtolmbjeinilhlaaDoor
