/- types.hasAll, Has: walked. -/
import Derived.Test.YtlfnnecpinmjjaaDoorHqTags
namespace Go.Proofs.YtlfnnecpinmjjaaDoor
open Go.RowKit Go.Maps
set_option linter.unusedSimpArgs false
set_option linter.unusedVariables false
theorem TFil.nine {h : Th} {m : Nat} (q : TFil h m) (e : h.kind = 9) : m = 1 := by
  rcases q with ⟨_, _, r⟩ | ⟨r, _⟩ | ⟨_, r, _⟩
  · exact r
  · omega
  · omega
theorem TFil.ten {h : Th} {m : Nat} (q : TFil h m) (e : h.kind = 10) : h.names.length = m := by
  rcases q with ⟨r, _⟩ | ⟨_, r, s⟩ | ⟨_, r, _⟩
  · omega
  · exact r
  · omega
theorem TFil.low {h : Th} {m : Nat} (q : TFil h m) (e9 : h.kind ≠ 9) (e10 : h.kind ≠ 10) (e11 : h.kind ≠ 11) : 1 ≤ h.kind ∧ h.kind ≤ 8 := by
  rcases q with ⟨r, _⟩ | ⟨r, _⟩ | ⟨r, s, _⟩
  · exact absurd r e9
  · omega
  · exact ⟨r, s⟩
theorem tsiz_len {n : Nat} (l : List (TT n)) : l.length ≤ suml (l.map (tsiz n)) := by
  induction l with
  | nil => simp [suml]
  | cons a l ih =>
    have : 1 ≤ tsiz n a := by cases n with
      | zero => exact Empty.elim a
      | succ n => simp only [tsiz]; omega
    simp only [List.map_cons, suml, List.length_cons]; omega
theorem TSB.kid {n : Nat} {x : TT (n + 1)} (h : TSB (n + 1) x) : (∀ y ∈ x.2, TSB n y) ∧ x.2.length ≤ 200000 := by
  have h2 := h.2
  simp only [tsiz] at h2
  refine ⟨fun y hy => ⟨h.1.2.2 y hy, ?_⟩, by have := tsiz_len x.2; omega⟩
  obtain ⟨i, hi, rfl⟩ := List.mem_iff_getElem.1 hy
  have := tsiz_mem (x := x) hi
  have := h.2
  omega
set_option maxHeartbeats 1000000 in
set_option maxRecDepth 100000 in
theorem hasAll_ok : ∀ n, HasOk n := by
  intro n
  induction n with
  | zero => intro x; exact Empty.elim x
  | succ n ih =>
    intro t ns ls m l lv w hr hl ht hz hv hsz gt
    obtain ⟨h, tl⟩ := t
    obtain ⟨av, cv, rfl, hv1, hv2⟩ := hl.len
    have hb0 : Hid (∀ o, Below w.heap.size w (w.alloc o)) := fun o => below_al (Below.refl _ _)
    cases l with
    | nil =>
      obtain ⟨al, cl, rfl, hl1, hl2⟩ := hr.len
      obtain ⟨an, cn, rfl, hn1, hn2⟩ := hr.1.len
      show Calls _ _ #[.agg #[.int .i64 h.kind, .slice an h.names.length cn, .slice al tl.length cl], .slice av 0 cv] _ _
      go_enter Tryd.func32, Tryd.ntmps32
      go_wp2_with fail
      go_ret
      exact TB.yes (by first | trivial | (intro v hv; cases hv)) (hb0.out _)
    | cons v0 l0 =>
      cases m with
      | zero => exact Empty.elim v0
      | succ m =>
        have hpos : Hid (0 < (v0 :: l0).length) := by show _ < _; simp
        generalize v0 :: l0 = l at *
        have hL := hide (fun (e : h.kind = 9) (u : TT n) (e2 : tl = [u]) W (hb : Below w.heap.size w W) => hasLists_any n ih h u ns ls m l (.slice av l.length cv) W (by rw [← e2]; exact hr.below hb) (hl.below hb) e (ht.2 u (by rw [e2]; simp)) (hz.kid.1 u (by simp [e2])) hv hsz (gt.below hb))
        have hR := hide (fun (e : h.kind = 10) W (hb : Below w.heap.size w W) => hasRecords_any n ih h tl ns ls m l (.slice av l.length cv) W (hr.below hb) (hl.below hb) e (ht.1.ten e) (fun y hy => ⟨hz.kid.1 y hy, ht.2 y hy⟩) hv hsz hz.kid.2 (gt.below hb))
        have hT := hide (fun (e : h.kind = 11) W (hb : Below w.heap.size w W) => hasTags_any n ih h tl ns ls m l (.slice av l.length cv) W (hr.below hb) (hl.below hb) e (ht.1.eleven e).1 (ht.1.eleven e).2 (fun y hy => ⟨hz.kid.1 y hy, ht.2 y hy⟩) hz.1.2.1 hv hsz hz.kid.2 (gt.below hb))
        have hfil := hide ht.1
        obtain ⟨al, cl, rfl, hl1, hl2⟩ := hr.len
        obtain ⟨an, cn, rfl, hn1, hn2⟩ := hr.1.len
        have hl := hide hl
        have hv := hide hv
        have gt := hide gt
        have ml : maxLen = 9223372036854775807 := rfl
        have hl0 : ¬ (l.length : Int) = 0 := by have := hpos.out; omega
        have hl0b : ((l.length : Int) == 0) = false := beq_eq_false_iff_ne.2 hl0
        have hB0 := hide (tx_new w h (.slice an h.names.length cn) (.slice al tl.length cl))
        clear hr ht hz hsz ih
        show Calls _ _ #[.agg #[.int .i64 h.kind, .slice an h.names.length cn, .slice al tl.length cl], .slice av l.length cv] _ _
        by_cases k9 : h.kind = 9
        · obtain ⟨u, e2⟩ : ∃ u, tl = [u] := List.length_eq_one_iff.1 (hfil.out.nine k9)
          have hc : Hid (∀ W, Below w.heap.size w W → Calls Tryd.prog 51 #[.agg #[.int .i64 9, .slice an h.names.length cn, .slice al tl.length cl], .slice av l.length cv] W fun e w' => TB (∀ v ∈ l, InT (n + 1) (h, tl) (m + 1) v) W e w') := fun W hb => by
            have := hL.out k9 u e2 W hb
            simp only [tvs, k9] at this
            rw [← e2] at this
            exact this
          clear e2
          rw [k9]
          go_enter Tryd.func32, Tryd.ntmps32
          go_wp2_with (go_at_call 51; refine (hc.out _ (hb0.out _)).mono ?_; rintro e w1 ⟨b, rfl, hTT, hb1⟩)
          go_ret
          exact ⟨b, rfl, hTT, below_then (hb0.out _) hb1⟩
        by_cases k10 : h.kind = 10
        · have hc : Hid (∀ W, Below w.heap.size w W → Calls Tryd.prog 52 #[.agg #[.int .i64 10, .slice an h.names.length cn, .slice al tl.length cl], .slice av l.length cv] W fun e w' => TB (∀ v ∈ l, InT (n + 1) (h, tl) (m + 1) v) W e w') := fun W hb => by
            have := hR.out k10 W hb
            simp only [tvs, k10] at this
            exact this
          rw [k10]
          go_enter Tryd.func32, Tryd.ntmps32
          go_wp2_with (go_at_call 52; refine (hc.out _ (hb0.out _)).mono ?_; rintro e w1 ⟨b, rfl, hTT, hb1⟩)
          go_ret
          exact ⟨b, rfl, hTT, below_then (hb0.out _) hb1⟩
        by_cases k11 : h.kind = 11
        · have hc : Hid (∀ W, Below w.heap.size w W → Calls Tryd.prog 53 #[.agg #[.int .i64 11, .slice an h.names.length cn, .slice al tl.length cl], .slice av l.length cv] W fun e w' => TB (∀ v ∈ l, InT (n + 1) (h, tl) (m + 1) v) W e w') := fun W hb => by
            have := hT.out k11 W hb
            simp only [tvs, k11] at this
            exact this
          rw [k11]
          go_enter Tryd.func32, Tryd.ntmps32
          go_wp2_with (go_at_call 53; refine (hc.out _ (hb0.out _)).mono ?_; rintro e w1 ⟨b, rfl, hTT, hb1⟩)
          go_ret
          exact ⟨b, rfl, hTT, below_then (hb0.out _) hb1⟩
        have hlow := hide (hfil.out.low k9 k10 k11)
        have hx : Hid (∀ v : VT (m + 1), InT (n + 1) (h, tl) (m + 1) v ↔ PkOk h.kind v.1) := by
          intro v
          constructor
          · rintro (⟨_, q⟩ | ⟨q, _⟩ | ⟨q, _⟩ | ⟨q, _⟩)
            · exact q
            · exact absurd q k9
            · exact absurd q k10
            · exact absurd q k11
          · exact fun q => Or.inl ⟨hlow.out.2, q⟩
        have b9 : (h.kind == 9) = false := beq_eq_false_iff_ne.2 k9
        have b10 : (h.kind == 10) = false := beq_eq_false_iff_ne.2 k10
        have b11 : (h.kind == 11) = false := beq_eq_false_iff_ne.2 k11
        clear hL hR hT hfil
        go_enter Tryd.func32, Tryd.ntmps32
        go_wp2_with fail
        clear k9 k10 k11 b9 b10 b11
        go_loopw [29] (fun i w' => ∃ k : Nat, i = .int .i64 k ∧ k ≤ l.length ∧ Hid ((∀ v ∈ l.take k, PkOk h.kind v.1) ∧ Below w.heap.size w w' ∧ Tx w' w.heap.size h (.slice an h.names.length cn) (.slice al tl.length cl))) (fun i _ => l.length - (intOf i).toNat)
        case atStart => exact ⟨0, rfl, Nat.zero_le _, (fun y hy => by simp at hy), hb0.out _, hB0.out⟩
        case round =>
          obtain ⟨k, rfl, hk, H⟩ := hrel
          by_cases hkl : k < l.length
          · have hki : (k : Int) < (l.length : Int) := by omega
            have hk63 : (k : Int) < 9223372036854775807 := by omega
            obtain ⟨b', o', c'', he, hbl', hlc', hcm', ns1, ls1, hrg', hrd'⟩ := hl.out.at k hkl
            have he' := Value.slice.inj he
            obtain ⟨rfl, _, rfl⟩ := he'
            clear he
            obtain ⟨y0, y1, y2, y3, y4, y5, y6, y7, y8⟩ := range9 (rangeAt_below hrg' H.out.2.1 hbl')
            obtain ⟨e1, e2, e3, e4, e5, e6, rfl, rfl⟩ := hrd'.shape
            clear hrg' hrd'
            have hvk := hv.out _ (List.getElem_mem hkl)
            obtain ⟨c0, c1, c2⟩ := H.out.2.2.cells
            have c0a := fun o => (H.out.2.2.below (W1 := wr.alloc o) (below_al (Below.refl _ _))).cells.1
            obtain ⟨bk, hbk⟩ := tells (PkOk h.kind (l[k]).1)
            have hcall := hide (fun o => Calls.tb (hasPlain_any h.kind (l[k]).1 e1 e4 e2 e3 e5 e6 (wr.alloc o) (gt.out.below (below_al H.out.2.1)) hlow.out hvk.1.2.1.1 (by have := hvk.2.2.1; unfold maxLen; omega)) hbk)
            have hbk' := hide hbk
            have hmk := hide (show l[k] ∈ l from List.getElem_mem _)
            clear hvk hbk
            obtain ⟨x, hxk⟩ : ∃ x, l[k] = x := ⟨_, rfl⟩
            rw [hxk] at y0 y1 y2 y3 y4 y5 y6 hbk' hcall hmk
            have hxk := hide hxk
            obtain ⟨hd, ll⟩ := x
            simp only [vhd] at y0 y1 y2 y3 y4 y5 y6
            simp only at hcall hbk'
            cases bk
            · go_wp2_with (go_at_call 54; refine (hcall.out _).mono ?_; rintro e w3 ⟨rfl, hb3⟩)
              go_ret
              exact TB.no (fun q => by have := hbk'.out.2 ((hx.out _).1 (q (hd, ll) hmk.out)); cases this) (below_then (below_al H.out.2.1) hb3)
            · go_wp2_with (go_at_call 54; refine (hcall.out _).mono ?_; rintro e w3 ⟨rfl, hb3⟩)
              refine ⟨⟨k + 1, by go_num, by omega, ?_, below_then (below_al H.out.2.1) hb3, (H.out.2.2.below (below_al (Below.refl _ _))).below hb3⟩, by simp [intOf]; omega⟩
              refine mem_take_more hkl H.out.1 ?_
              rw [hxk.out]
              exact hbk'.out.1 (by simp)
          · have hki : ¬ ((k : Int) < (l.length : Int)) := by omega
            have hE := H.out.1
            rw [List.take_of_length_le (by omega)] at hE
            have hE' := hide hE
            clear hE
            go_wp2_with fail
            go_ret
            exact TB.yes (fun v hv => (hx.out v).2 (hE'.out v hv)) H.out.2.1
end Go.Proofs.YtlfnnecpinmjjaaDoor
