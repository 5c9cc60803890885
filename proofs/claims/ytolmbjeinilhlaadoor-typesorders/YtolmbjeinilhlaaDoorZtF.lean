/- Merged by program: IrForm, IsForm, ItChk. -/
import Derived.Test.YtolmbjeinilhlaaDoorZtI
import Derived.Test.YtolmbjeinilhlaaDoorZtXkVal
import Derived.Test.YtolmbjeinilhlaaDoorZtIhM
/- calamusref11.names, Formed, Check: walked. -/
namespace Go.Proofs.YtolmbjeinilhlaaDoor
open Go.RowKit Go.Maps
set_option linter.unusedSimpArgs false
set_option linter.unusedVariables false
theorem NL.take {w : World} {a : Option Addr} {c : Nat} {l : List ByteArray} (h : NL w (.slice a l.length c) l) (k : Nat) (hk : k ≤ l.length) : NL w (.slice a k c) (l.take k) := by
  have hl : (l.take k).length = k := by simp; omega
  rcases h with ⟨e, rfl⟩ | ⟨b, o, c', sp, e, h1, h2, h3, h4⟩
  · have : k = 0 := by simpa using hk
    subst this
    simp only [Value.slice.injEq] at e
    exact Or.inl ⟨by rw [e.1, e.2.2], by simp⟩
  · simp only [Value.slice.injEq] at e
    obtain ⟨rfl, _, rfl⟩ := e
    refine Or.inr ⟨b, o, c, sp, by rw [hl], by rw [hl]; omega, h2, fun q => h3 (by rw [hl] at q; omega), fun i hi => ?_⟩
    rw [hl] at hi
    rw [h4 i (by omega), List.getElem_take]
theorem nms_take {l : List ByteArray} (k : Nat) (hk : k < l.length) : Nms (l.take (k + 1)) ↔ Nms (l.take k) ∧ okT l[k] = true ∧ l[k] ∉ l.take k := by
  rw [List.take_succ_eq_append_getElem hk]
  unfold Nms
  rw [List.nodup_append]
  constructor
  · rintro ⟨h1, h2, _, h3⟩
    exact ⟨⟨fun s hs => h1 s (List.mem_append_left _ hs), h2⟩, h1 _ (List.mem_append_right _ (by simp)), fun q => h3 _ q _ (by simp) rfl⟩
  · rintro ⟨⟨h1, h2⟩, h3, h4⟩
    refine ⟨fun s hs => ?_, h2, by simp, fun a ha b hb => ?_⟩
    · rcases List.mem_append.1 hs with q | q
      · exact h1 s q
      · rw [List.mem_singleton.1 q]; exact h3
    · rw [List.mem_singleton.1 hb]
      rintro rfl
      exact h4 ha
set_option maxHeartbeats 2000000 in
set_option maxRecDepth 100000 in
theorem rnames_any (rv : RVal) (v : Value) (l : List ByteArray) (w : World) (hv : NL w v l) (hz : ∀ s ∈ l, s.size ≤ 281474976710656) :
    Calls Tryd.prog 58 #[v] w fun e w' => TB (Nms l) w e w' := by
  obtain ⟨av, cv, rfl, hv1, hv2⟩ := hv.len
  have hv := hide hv
  have hz := hide hz
  have rv := hide rv
  have ml : maxLen = 9223372036854775807 := rfl
  go_enter Tryd.func58, Tryd.ntmps58
  go_wp2_with fail
  go_loopw [3] (fun i w' => ∃ k : Nat, i = .int .i64 k ∧ k ≤ l.length ∧ Hid (Nms (l.take k) ∧ Below w.heap.size w w')) (fun i _ => l.length - (intOf i).toNat)
  case atStart => exact ⟨0, rfl, Nat.zero_le _, ⟨by simp, by simp⟩, Below.refl _ _⟩
  case round =>
    obtain ⟨k, rfl, hk, H⟩ := hrel
    by_cases hkl : k < l.length
    · have hki : (k : Int) < (l.length : Int) := by omega
      have hk63 : (k : Int) < 9223372036854775807 := by omega
      have htk := hide (hv.out.take k hk)
      obtain ⟨b, o, c, he, hbl, hlc, hcm, hcell⟩ := hv.out.at k hkl
      have he' := Value.slice.inj he
      obtain ⟨rfl, _, rfl⟩ := he'
      clear he
      have hcell := (H.out.2.cell (p := ⟨b, o + k, none⟩) hbl).trans hcell
      obtain ⟨s, hs⟩ : ∃ s, Hid (l[k] = s) := ⟨_, hide rfl⟩
      rw [hs.out] at hcell
      have hV := hide (fun W => rv.out s W (by rw [← hs.out]; exact hz.out _ (List.getElem_mem _)))
      have hP := hide (fun W (hb : Below wr.heap.size wr W) => place_any _ (l.take k) s W (htk.out.below (below_then H.out.2 hb)))
      have hst := hide (nms_take k hkl)
      have hkc : k ≤ cv := by omega
      cases ho : okT s
      · rw [ho] at hV
        have ho' := hide ho
        clear ho
        go_wp2_with fail
        refine wp_region_any (by kernel_rfl) ?_
        try (change wpAny _ _ _ _ _ _ _ (World.drew _))
        refine wpAny_take (i := 0) (v := ?_) rfl (by kernel_rfl) (by kernel_rfl) (by kernel_rfl) (fun _ _ _ h => h) (Or.inl ⟨by kernel_rfl, ?_⟩) ?_
        rotate_left
        · intro w; go_simp; try rfl
        go_simp
        refine wpAny_take (i := 1) (v := ?_) rfl (by kernel_rfl) (by kernel_rfl) (by kernel_rfl) (fun _ _ _ h => h) (Or.inl ⟨by kernel_rfl, ?_⟩) ?_
        rotate_left
        · intro w; go_simp; try rfl
        go_simp
        refine wpAny_take (i := 2) (v := ?_) rfl (by kernel_rfl) (by kernel_rfl) (by kernel_rfl) (fun _ _ _ h => h) (Or.inl ⟨by kernel_rfl, ?_⟩) ?_
        rotate_left
        · intro w; go_simp; try rfl
        go_simp
        refine wpAny_ready (rs := [3]) (by kernel_rfl) (by simp) (AllReady.cons rfl (fun K hK => ?_) AllReady.nil)
        go_simp
        refine hK _ _ ?_
        clear hK K
        try go_simp
        refine wpAny_ready (rs := [4]) (by kernel_rfl) (by simp) (AllReady.cons rfl (fun K hK => ?_) AllReady.nil)
        go_simp
        refine (hV.out _).mono ?_
        rintro e w3 ⟨rfl, hb3⟩
        have T3 : Hid (Below wr.heap.size wr w3) := below_then (by repeat (first | exact Below.refl _ _ | refine below_dr ?_ | refine below_dn ?_ _)) hb3
        have hc3 := (T3.out.cell (p := ⟨b, o + k, none⟩) (by have := H.out.2.size; show b < wr.heap.size; omega)).trans hcell
        clear hb3
        dsimp only
        refine hK _ _ ?_
        clear hK K
        try go_simp
        refine wpAny_take (i := 5) (v := ?_) rfl (by kernel_rfl) (by kernel_rfl) (by kernel_rfl) (fun _ _ _ h => h) (Or.inl ⟨by kernel_rfl, ?_⟩) ?_
        rotate_left
        · intro w; go_simp; try rfl
        go_simp
        refine wpAny_take (i := 6) (v := ?_) rfl (by kernel_rfl) (by kernel_rfl) (by kernel_rfl) (fun _ _ _ h => h) (Or.inl ⟨by kernel_rfl, ?_⟩) ?_
        rotate_left
        · intro w; go_simp; try rfl
        go_simp
        refine wpAny_take (i := 7) (v := undef) rfl (by kernel_rfl) (by kernel_rfl) (by kernel_rfl) (fun _ _ _ h => h) (Or.inr ⟨by kernel_rfl, rfl⟩) ?_
        go_simp
        refine wpAny_take (i := 8) (v := undef) rfl (by kernel_rfl) (by kernel_rfl) (by kernel_rfl) (fun _ _ _ h => h) (Or.inr ⟨by kernel_rfl, rfl⟩) ?_
        go_simp
        refine wpAny_take (i := 9) (v := undef) rfl (by kernel_rfl) (by kernel_rfl) (by kernel_rfl) (fun _ _ _ h => h) (Or.inr ⟨by kernel_rfl, rfl⟩) ?_
        go_simp
        refine wpAny_take (i := 10) (v := undef) rfl (by kernel_rfl) (by kernel_rfl) (by kernel_rfl) (fun _ _ _ h => h) (Or.inr ⟨by kernel_rfl, rfl⟩) ?_
        go_simp
        refine wpAny_take (i := 11) (v := undef) rfl (by kernel_rfl) (by kernel_rfl) (by kernel_rfl) (fun _ _ _ h => h) (Or.inr ⟨by kernel_rfl, rfl⟩) ?_
        go_simp
        refine wpAny_take (i := 12) (v := undef) rfl (by kernel_rfl) (by kernel_rfl) (by kernel_rfl) (fun _ _ _ h => h) (Or.inr ⟨by kernel_rfl, rfl⟩) ?_
        go_simp
        refine wpAny_take (i := 13) (v := undef) rfl (by kernel_rfl) (by kernel_rfl) (by kernel_rfl) (fun _ _ _ h => h) (Or.inr ⟨by kernel_rfl, rfl⟩) ?_
        go_simp
        refine wpAny_take (i := 14) (v := undef) rfl (by kernel_rfl) (by kernel_rfl) (by kernel_rfl) (fun _ _ _ h => h) (Or.inr ⟨by kernel_rfl, rfl⟩) ?_
        go_simp
        refine wpAny_take (i := 15) (v := undef) rfl (by kernel_rfl) (by kernel_rfl) (by kernel_rfl) (fun _ _ _ h => h) (Or.inr ⟨by kernel_rfl, rfl⟩) ?_
        go_simp
        refine wpAny_take (i := 16) (v := ?_) rfl (by kernel_rfl) (by kernel_rfl) (by kernel_rfl) (fun _ _ _ h => h) (Or.inl ⟨by kernel_rfl, ?_⟩) ?_
        rotate_left
        · intro w; go_simp; try rfl
        go_simp
        refine wpAny_done (by kernel_rfl) ?_ _
        go_wp2_with fail
        go_ret
        refine TB.no (fun q => ?_) (below_then H.out.2 T3.out)
        have := q.1 _ (List.getElem_mem hkl)
        rw [hs.out, ho'.out] at this
        cases this
      · rw [ho] at hV
        have ho' := hide ho
        clear ho
        go_wp2_with fail
        refine wp_region_any (by kernel_rfl) ?_
        try (change wpAny _ _ _ _ _ _ _ (World.drew _))
        refine wpAny_take (i := 0) (v := ?_) rfl (by kernel_rfl) (by kernel_rfl) (by kernel_rfl) (fun _ _ _ h => h) (Or.inl ⟨by kernel_rfl, ?_⟩) ?_
        rotate_left
        · intro w; go_simp; try rfl
        go_simp
        refine wpAny_take (i := 1) (v := ?_) rfl (by kernel_rfl) (by kernel_rfl) (by kernel_rfl) (fun _ _ _ h => h) (Or.inl ⟨by kernel_rfl, ?_⟩) ?_
        rotate_left
        · intro w; go_simp; try rfl
        go_simp
        refine wpAny_take (i := 2) (v := ?_) rfl (by kernel_rfl) (by kernel_rfl) (by kernel_rfl) (fun _ _ _ h => h) (Or.inl ⟨by kernel_rfl, ?_⟩) ?_
        rotate_left
        · intro w; go_simp; try rfl
        go_simp
        refine wpAny_ready (rs := [3]) (by kernel_rfl) (by simp) (AllReady.cons rfl (fun K hK => ?_) AllReady.nil)
        go_simp
        refine hK _ _ ?_
        clear hK K
        try go_simp
        refine wpAny_ready (rs := [4]) (by kernel_rfl) (by simp) (AllReady.cons rfl (fun K hK => ?_) AllReady.nil)
        go_simp
        refine (hV.out _).mono ?_
        rintro e w3 ⟨rfl, hb3⟩
        have T3 : Hid (Below wr.heap.size wr w3) := below_then (by repeat (first | exact Below.refl _ _ | refine below_dr ?_ | refine below_dn ?_ _)) hb3
        have hc3 := (T3.out.cell (p := ⟨b, o + k, none⟩) (by have := H.out.2.size; show b < wr.heap.size; omega)).trans hcell
        clear hb3
        dsimp only
        refine hK _ _ ?_
        clear hK K
        try go_simp
        refine wpAny_take (i := 5) (v := ?_) rfl (by kernel_rfl) (by kernel_rfl) (by kernel_rfl) (fun _ _ _ h => h) (Or.inl ⟨by kernel_rfl, ?_⟩) ?_
        rotate_left
        · intro w; go_simp; try rfl
        go_simp
        refine wpAny_take (i := 6) (v := ?_) rfl (by kernel_rfl) (by kernel_rfl) (by kernel_rfl) (fun _ _ _ h => h) (Or.inl ⟨by kernel_rfl, ?_⟩) ?_
        rotate_left
        · intro w; go_simp; try rfl
        go_simp
        refine wpAny_take (i := 7) (v := ?_) rfl (by kernel_rfl) (by kernel_rfl) (by kernel_rfl) (fun _ _ _ h => h) (Or.inl ⟨by kernel_rfl, ?_⟩) ?_
        rotate_left
        · intro w; go_simp; try rfl
        go_simp
        refine wpAny_take (i := 8) (v := ?_) rfl (by kernel_rfl) (by kernel_rfl) (by kernel_rfl) (fun _ _ _ h => h) (Or.inl ⟨by kernel_rfl, ?_⟩) ?_
        rotate_left
        · intro w; go_simp; try rfl
        go_simp
        refine wpAny_take (i := 10) (v := ?_) rfl (by kernel_rfl) (by kernel_rfl) (by kernel_rfl) (fun _ _ _ h => h) (Or.inl ⟨by kernel_rfl, ?_⟩) ?_
        rotate_left
        · intro w; go_simp; try rfl
        go_simp
        refine wpAny_take (i := 11) (v := ?_) rfl (by kernel_rfl) (by kernel_rfl) (by kernel_rfl) (fun _ _ _ h => h) (Or.inl ⟨by kernel_rfl, ?_⟩) ?_
        rotate_left
        · intro w; go_simp; try rfl
        go_simp
        refine wpAny_take (i := 12) (v := ?_) rfl (by kernel_rfl) (by kernel_rfl) (by kernel_rfl) (fun _ _ _ h => h) (Or.inl ⟨by kernel_rfl, ?_⟩) ?_
        rotate_left
        · intro w; go_simp; try rfl
        go_simp
        refine wpAny_take (i := 9) (v := ?_) rfl (by kernel_rfl) (by kernel_rfl) (by kernel_rfl) (fun _ _ _ h => h) (Or.inl ⟨by kernel_rfl, ?_⟩) ?_
        rotate_left
        · intro w; go_simp; try rfl
        go_simp
        refine wpAny_ready (rs := [13]) (by kernel_rfl) (by simp) (AllReady.cons rfl (fun K hK => ?_) AllReady.nil)
        go_simp
        refine hK _ _ ?_
        clear hK K
        try go_simp
        refine wpAny_ready (rs := [14]) (by kernel_rfl) (by simp) (AllReady.cons rfl (fun K hK => ?_) AllReady.nil)
        go_simp
        refine (hP.out _ T3.out).mono ?_
        rintro e w4 ⟨r, rfl, hr4, hb4⟩
        have T4 : Hid (Below wr.heap.size wr w4) := below_then T3.out hb4
        clear hb4
        dsimp only
        refine hK _ _ ?_
        clear hK K
        try go_simp
        rcases hr4.out with ⟨rfl, hn⟩ | ⟨q, rfl, hq, hqe⟩
        · have hn := hide hn
          refine wpAny_take (i := 15) (v := ?_) rfl (by kernel_rfl) (by kernel_rfl) (by kernel_rfl) (fun _ _ _ h => h) (Or.inl ⟨by kernel_rfl, ?_⟩) ?_
          rotate_left
          · intro w; go_simp; try rfl
          go_simp
          refine wpAny_take (i := 16) (v := ?_) rfl (by kernel_rfl) (by kernel_rfl) (by kernel_rfl) (fun _ _ _ h => h) (Or.inl ⟨by kernel_rfl, ?_⟩) ?_
          rotate_left
          · intro w; go_simp; try rfl
          go_simp
          refine wpAny_done (by kernel_rfl) ?_ _
          go_wp2_with fail
          refine ⟨⟨k + 1, by go_num, by omega, hst.out.2 ⟨H.out.1, by rw [hs.out]; exact ho'.out, by rw [hs.out]; exact hn.out⟩, below_then H.out.2 T4.out⟩, by simp [intOf]; omega⟩
        · have hq0 : (0 : Int) ≤ (q : Int) := by omega
          have hmem := hide (show s ∈ l.take k by rw [← hqe]; exact List.getElem_mem _)
          clear hr4 hqe hq
          refine wpAny_take (i := 15) (v := ?_) rfl (by kernel_rfl) (by kernel_rfl) (by kernel_rfl) (fun _ _ _ h => h) (Or.inl ⟨by kernel_rfl, ?_⟩) ?_
          rotate_left
          · intro w; go_simp; try rfl
          go_simp
          refine wpAny_take (i := 16) (v := ?_) rfl (by kernel_rfl) (by kernel_rfl) (by kernel_rfl) (fun _ _ _ h => h) (Or.inl ⟨by kernel_rfl, ?_⟩) ?_
          rotate_left
          · intro w; go_simp; try rfl
          go_simp
          refine wpAny_done (by kernel_rfl) ?_ _
          go_wp2_with fail
          go_ret
          refine TB.no (fun z => ?_) (below_then H.out.2 T4.out)
          have z1 : Nms (l.take (k + 1)) := ⟨fun s hs => z.1 s (List.mem_of_mem_take hs), z.2.sublist (List.take_sublist _ _)⟩
          exact (hst.out.1 z1).2.2 (by rw [hs.out]; exact hmem.out)
    · have hki : ¬ ((k : Int) < (l.length : Int)) := by omega
      have hE := H.out.1
      rw [List.take_of_length_le (by omega)] at hE
      have hE' := hide hE
      clear hE
      go_wp2_with fail
      go_ret
      exact TB.yes hE'.out H.out.2
end Go.Proofs.YtolmbjeinilhlaaDoor
/- calamusref11.Formed, Check: walked. -/
namespace Go.Proofs.YtolmbjeinilhlaaDoor
open Go.RowKit Go.Maps
set_option linter.unusedSimpArgs false
set_option linter.unusedVariables false
set_option maxHeartbeats 4000000 in
set_option maxRecDepth 100000 in
theorem rformed_any (rv : RVal) : ∀ (n : Nat) (x : TT n) (ns ls : Value) (w : World), RT n w x ns ls → TSz n x →
    Calls Tryd.prog 36 #[.agg (tvs (thd n x) ns ls)] w fun e w' => TB (IsT n x) w e w' := by
  intro n
  induction n with
  | zero => intro x; exact Empty.elim x
  | succ n ih =>
    intro x ns ls w hr hz
    obtain ⟨⟨hk, hm⟩, l⟩ := x
    obtain ⟨al, cl, rfl, hc1, hc2⟩ := hr.len
    obtain ⟨an, cn, rfl, hn1, hn2⟩ := hr.1.len
    obtain ⟨b1, hb1⟩ := tells (Nms hm)
    have hN := hide (fun W (hb : Below w.heap.size w W) => Calls.tb (rnames_any rv (.slice an hm.length cn) hm W (hr.1.below hb) hz.2.1) hb1)
    have hb1' := hide hb1
    have hr' := hide hr
    have hz' := hide hz
    have ih' := hide ih
    clear ih hr hz hb1
    simp only at hn1 hn2 hc1 hc2
    have ml : maxLen = 9223372036854775807 := rfl
    have hb0 : Hid (∀ o, Below w.heap.size w (w.alloc o)) := fun o => below_al (Below.refl _ _)
    have hB0 := hide (tx_new w ⟨hk, hm⟩ (.slice an hm.length cn) (.slice al l.length cl))
    have hisT : Hid (IsT (n + 1) ((⟨hk, hm⟩, l) : TT (n + 1)) ↔ TFil ⟨hk, hm⟩ l.length ∧ ∀ y ∈ l, IsT n y) := Iff.rfl
    show Calls _ _ #[.agg #[.int .i64 hk, .slice an hm.length cn, .slice al l.length cl]] _ _
    by_cases k9 : hk = 9
    · subst k9
      by_cases hn0 : (hm.length : Int) = 0
      · by_cases hl1 : (l.length : Int) = 1
        · have hq : Hid (TFil ⟨9, hm⟩ l.length) := Or.inl ⟨rfl, by simp only; omega, by omega⟩
          have hn0b : ((hm.length : Int) == 0) = true := beq_iff_eq.2 hn0
          have hn0d : decide ((hm.length : Int) = 0) = true := decide_eq_true hn0
          have hn0h := hide hn0
          clear hn0
          have hl1b : ((l.length : Int) == 1) = true := beq_iff_eq.2 hl1
          have hl1d : decide ((l.length : Int) = 1) = true := decide_eq_true hl1
          have hl1h := hide hl1
          clear hl1
          go_enter Tryd.func36, Tryd.ntmps36
          go_wp2_with fail
          go_loopw [3, 4] (fun ok i w' => ∃ (k : Nat) (q : Bool), ok = .bool q ∧ i = .int .i64 k ∧ k ≤ l.length ∧ Hid ((q = true ↔ TFil ⟨9, hm⟩ l.length ∧ ∀ y ∈ l.take k, IsT n y) ∧ Below w.heap.size w w' ∧ Tx w' w.heap.size ⟨9, hm⟩ (.slice an hm.length cn) (.slice al l.length cl))) (fun _ i _ => l.length - (intOf i).toNat)
          case atStart => exact ⟨0, true, rfl, rfl, Nat.zero_le _, ⟨fun _ => ⟨hq.out, fun y hy => by simp at hy⟩, fun _ => rfl⟩, hb0.out _, hB0.out⟩
          case round =>
            obtain ⟨k, q, rfl, rfl, hk', H⟩ := hrel
            obtain ⟨c0, c1, c2⟩ := H.out.2.2.cells
            by_cases hkl : k < l.length
            · have hki : (k : Int) < (l.length : Int) := by omega
              have hk63 : (k : Int) < 9223372036854775807 := by omega
              cases q
              · go_wp2_with fail
                go_ret
                refine TB.no (fun z => ?_) H.out.2.1
                have := H.out.1.2 ⟨(hisT.out.1 z).1, fun y hy => (hisT.out.1 z).2 y (List.mem_of_mem_take hy)⟩
                cases this
              · obtain ⟨b, o, c, he, hbl, hlc, hcm, ns', ls', hrg, hrd⟩ := hr'.out.at k hkl
                have he' := Value.slice.inj he
                obtain ⟨rfl, _, rfl⟩ := he'
                clear he
                obtain ⟨q0, q1, q2⟩ := range3 (rangeAt_below hrg H.out.2.1 hbl)
                have hrd' := hide (hrd.below H.out.2.1)
                obtain ⟨a1, m1, d1, a2, m2, d2, rfl, rfl⟩ := hrd.shape
                clear hrg hrd
                obtain ⟨bk, hbk⟩ := tells (IsT n l[k])
                have hcall := hide (Calls.tb (ih'.out l[k] (.slice a1 m1 d1) (.slice a2 m2 d2) wr hrd'.out (hz'.out.2.2 _ (List.getElem_mem _))) hbk)
                have hbk' := hide hbk
                clear hbk
                simp only at q0 q1 q2 hcall
                obtain ⟨hp, hhp⟩ : ∃ hp, thd n l[k] = hp := ⟨_, rfl⟩
                rw [hhp] at q0 hcall
                simp only [tvs] at hcall
                clear hhp
                go_wp2_with fail
                refine hcall.out.mono ?_
                rintro e w3 ⟨rfl, hb3⟩
                have T3 := hide hb3
                clear hb3
                go_wp2_with fail
                refine ⟨⟨k + 1, bk, rfl, by go_num, by omega, ⟨fun z => ⟨(H.out.1.1 (by simp)).1, mem_take_more hkl (H.out.1.1 (by simp)).2 (hbk'.out.1 z)⟩, fun z => hbk'.out.2 (z.2 _ (by rw [List.take_succ_eq_append_getElem hkl]; exact List.mem_append_right _ (by simp)))⟩, below_then H.out.2.1 T3.out, H.out.2.2.below T3.out⟩, by simp [intOf]; omega⟩
            · have hki : ¬ ((k : Int) < (l.length : Int)) := by omega
              have hE := hide (show l.take k = l from List.take_of_length_le (by omega))
              cases q
              · go_wp2_with fail
                go_ret
                refine TB.no (fun z => ?_) H.out.2.1
                have := H.out.1.2 ⟨(hisT.out.1 z).1, fun y hy => (hisT.out.1 z).2 y (List.mem_of_mem_take hy)⟩
                cases this
              · go_wp2_with fail
                go_ret
                refine TB.yes (hisT.out.2 ?_) H.out.2.1
                have := H.out.1.1 (by simp)
                rw [hE.out] at this
                exact this
        · have hq : Hid (¬ (TFil ⟨9, hm⟩ l.length)) := fun z => by rcases z with ⟨z1, z2, z3⟩ | ⟨z1, z2, z3⟩ | ⟨z1, z2, z3, z4⟩ <;> simp only at z1 z2 z3 <;> omega
          have hn0b : ((hm.length : Int) == 0) = true := beq_iff_eq.2 hn0
          have hn0d : decide ((hm.length : Int) = 0) = true := decide_eq_true hn0
          have hn0h := hide hn0
          clear hn0
          have hl1b : ((l.length : Int) == 1) = false := beq_eq_false_iff_ne.2 hl1
          have hl1d : decide ((l.length : Int) = 1) = false := decide_eq_false hl1
          have hl1h := hide hl1
          clear hl1
          go_enter Tryd.func36, Tryd.ntmps36
          go_wp2_with fail
          go_loopw [3, 4] (fun ok i w' => ∃ (k : Nat) (q : Bool), ok = .bool q ∧ i = .int .i64 k ∧ k ≤ l.length ∧ Hid ((q = true ↔ TFil ⟨9, hm⟩ l.length ∧ ∀ y ∈ l.take k, IsT n y) ∧ Below w.heap.size w w' ∧ Tx w' w.heap.size ⟨9, hm⟩ (.slice an hm.length cn) (.slice al l.length cl))) (fun _ i _ => l.length - (intOf i).toNat)
          case atStart => exact ⟨0, false, rfl, rfl, Nat.zero_le _, ⟨(fun q => by cases q), fun q => absurd q.1 hq.out⟩, hb0.out _, hB0.out⟩
          case round =>
            obtain ⟨k, q, rfl, rfl, hk', H⟩ := hrel
            obtain ⟨c0, c1, c2⟩ := H.out.2.2.cells
            by_cases hkl : k < l.length
            · have hki : (k : Int) < (l.length : Int) := by omega
              have hk63 : (k : Int) < 9223372036854775807 := by omega
              cases q
              · go_wp2_with fail
                go_ret
                refine TB.no (fun z => ?_) H.out.2.1
                have := H.out.1.2 ⟨(hisT.out.1 z).1, fun y hy => (hisT.out.1 z).2 y (List.mem_of_mem_take hy)⟩
                cases this
              · obtain ⟨b, o, c, he, hbl, hlc, hcm, ns', ls', hrg, hrd⟩ := hr'.out.at k hkl
                have he' := Value.slice.inj he
                obtain ⟨rfl, _, rfl⟩ := he'
                clear he
                obtain ⟨q0, q1, q2⟩ := range3 (rangeAt_below hrg H.out.2.1 hbl)
                have hrd' := hide (hrd.below H.out.2.1)
                obtain ⟨a1, m1, d1, a2, m2, d2, rfl, rfl⟩ := hrd.shape
                clear hrg hrd
                obtain ⟨bk, hbk⟩ := tells (IsT n l[k])
                have hcall := hide (Calls.tb (ih'.out l[k] (.slice a1 m1 d1) (.slice a2 m2 d2) wr hrd'.out (hz'.out.2.2 _ (List.getElem_mem _))) hbk)
                have hbk' := hide hbk
                clear hbk
                simp only at q0 q1 q2 hcall
                obtain ⟨hp, hhp⟩ : ∃ hp, thd n l[k] = hp := ⟨_, rfl⟩
                rw [hhp] at q0 hcall
                simp only [tvs] at hcall
                clear hhp
                go_wp2_with fail
                refine hcall.out.mono ?_
                rintro e w3 ⟨rfl, hb3⟩
                have T3 := hide hb3
                clear hb3
                go_wp2_with fail
                refine ⟨⟨k + 1, bk, rfl, by go_num, by omega, ⟨fun z => ⟨(H.out.1.1 (by simp)).1, mem_take_more hkl (H.out.1.1 (by simp)).2 (hbk'.out.1 z)⟩, fun z => hbk'.out.2 (z.2 _ (by rw [List.take_succ_eq_append_getElem hkl]; exact List.mem_append_right _ (by simp)))⟩, below_then H.out.2.1 T3.out, H.out.2.2.below T3.out⟩, by simp [intOf]; omega⟩
            · have hki : ¬ ((k : Int) < (l.length : Int)) := by omega
              have hE := hide (show l.take k = l from List.take_of_length_le (by omega))
              cases q
              · go_wp2_with fail
                go_ret
                refine TB.no (fun z => ?_) H.out.2.1
                have := H.out.1.2 ⟨(hisT.out.1 z).1, fun y hy => (hisT.out.1 z).2 y (List.mem_of_mem_take hy)⟩
                cases this
              · go_wp2_with fail
                go_ret
                refine TB.yes (hisT.out.2 ?_) H.out.2.1
                have := H.out.1.1 (by simp)
                rw [hE.out] at this
                exact this
      · have hq : Hid (¬ (TFil ⟨9, hm⟩ l.length)) := fun z => by rcases z with ⟨z1, z2, z3⟩ | ⟨z1, z2, z3⟩ | ⟨z1, z2, z3, z4⟩ <;> simp only at z1 z2 z3 <;> omega
        have hn0b : ((hm.length : Int) == 0) = false := beq_eq_false_iff_ne.2 hn0
        have hn0d : decide ((hm.length : Int) = 0) = false := decide_eq_false hn0
        have hn0h := hide hn0
        clear hn0
        go_enter Tryd.func36, Tryd.ntmps36
        go_wp2_with fail
        go_loopw [3, 4] (fun ok i w' => ∃ (k : Nat) (q : Bool), ok = .bool q ∧ i = .int .i64 k ∧ k ≤ l.length ∧ Hid ((q = true ↔ TFil ⟨9, hm⟩ l.length ∧ ∀ y ∈ l.take k, IsT n y) ∧ Below w.heap.size w w' ∧ Tx w' w.heap.size ⟨9, hm⟩ (.slice an hm.length cn) (.slice al l.length cl))) (fun _ i _ => l.length - (intOf i).toNat)
        case atStart => exact ⟨0, false, rfl, rfl, Nat.zero_le _, ⟨(fun q => by cases q), fun q => absurd q.1 hq.out⟩, hb0.out _, hB0.out⟩
        case round =>
          obtain ⟨k, q, rfl, rfl, hk', H⟩ := hrel
          obtain ⟨c0, c1, c2⟩ := H.out.2.2.cells
          by_cases hkl : k < l.length
          · have hki : (k : Int) < (l.length : Int) := by omega
            have hk63 : (k : Int) < 9223372036854775807 := by omega
            cases q
            · go_wp2_with fail
              go_ret
              refine TB.no (fun z => ?_) H.out.2.1
              have := H.out.1.2 ⟨(hisT.out.1 z).1, fun y hy => (hisT.out.1 z).2 y (List.mem_of_mem_take hy)⟩
              cases this
            · obtain ⟨b, o, c, he, hbl, hlc, hcm, ns', ls', hrg, hrd⟩ := hr'.out.at k hkl
              have he' := Value.slice.inj he
              obtain ⟨rfl, _, rfl⟩ := he'
              clear he
              obtain ⟨q0, q1, q2⟩ := range3 (rangeAt_below hrg H.out.2.1 hbl)
              have hrd' := hide (hrd.below H.out.2.1)
              obtain ⟨a1, m1, d1, a2, m2, d2, rfl, rfl⟩ := hrd.shape
              clear hrg hrd
              obtain ⟨bk, hbk⟩ := tells (IsT n l[k])
              have hcall := hide (Calls.tb (ih'.out l[k] (.slice a1 m1 d1) (.slice a2 m2 d2) wr hrd'.out (hz'.out.2.2 _ (List.getElem_mem _))) hbk)
              have hbk' := hide hbk
              clear hbk
              simp only at q0 q1 q2 hcall
              obtain ⟨hp, hhp⟩ : ∃ hp, thd n l[k] = hp := ⟨_, rfl⟩
              rw [hhp] at q0 hcall
              simp only [tvs] at hcall
              clear hhp
              go_wp2_with fail
              refine hcall.out.mono ?_
              rintro e w3 ⟨rfl, hb3⟩
              have T3 := hide hb3
              clear hb3
              go_wp2_with fail
              refine ⟨⟨k + 1, bk, rfl, by go_num, by omega, ⟨fun z => ⟨(H.out.1.1 (by simp)).1, mem_take_more hkl (H.out.1.1 (by simp)).2 (hbk'.out.1 z)⟩, fun z => hbk'.out.2 (z.2 _ (by rw [List.take_succ_eq_append_getElem hkl]; exact List.mem_append_right _ (by simp)))⟩, below_then H.out.2.1 T3.out, H.out.2.2.below T3.out⟩, by simp [intOf]; omega⟩
          · have hki : ¬ ((k : Int) < (l.length : Int)) := by omega
            have hE := hide (show l.take k = l from List.take_of_length_le (by omega))
            cases q
            · go_wp2_with fail
              go_ret
              refine TB.no (fun z => ?_) H.out.2.1
              have := H.out.1.2 ⟨(hisT.out.1 z).1, fun y hy => (hisT.out.1 z).2 y (List.mem_of_mem_take hy)⟩
              cases this
            · go_wp2_with fail
              go_ret
              refine TB.yes (hisT.out.2 ?_) H.out.2.1
              have := H.out.1.1 (by simp)
              rw [hE.out] at this
              exact this
    by_cases k10 : hk = 10
    · subst k10
      by_cases hnl : (hm.length : Int) = (l.length : Int)
      · cases b1
        rotate_left
        · have hq : Hid (TFil ⟨10, hm⟩ l.length) := Or.inr (Or.inl ⟨by simp, by simp only; omega, hb1'.out.1 rfl⟩)
          have hnlb : ((hm.length : Int) == (l.length : Int)) = true := beq_iff_eq.2 hnl
          have hnld : decide ((hm.length : Int) = (l.length : Int)) = true := decide_eq_true hnl
          have hnlh := hide hnl
          clear hnl
          go_enter Tryd.func36, Tryd.ntmps36
          go_wp2_with fail
          refine (hN.out _ (hb0.out _)).mono ?_
          rintro e w1 ⟨rfl, hb⟩
          have T1 := hide (below_then (hb0.out _) hb)
          have X1 := hide (hB0.out.below hb)
          clear hb
          obtain ⟨t0, t1, t2⟩ := X1.out.cells
          go_wp2_with fail
          clear t0 t1 t2
          go_loopw [3, 4] (fun ok i w' => ∃ (k : Nat) (q : Bool), ok = .bool q ∧ i = .int .i64 k ∧ k ≤ l.length ∧ Hid ((q = true ↔ TFil ⟨10, hm⟩ l.length ∧ ∀ y ∈ l.take k, IsT n y) ∧ Below w.heap.size w w' ∧ Tx w' w.heap.size ⟨10, hm⟩ (.slice an hm.length cn) (.slice al l.length cl))) (fun _ i _ => l.length - (intOf i).toNat)
          case atStart => exact ⟨0, true, rfl, rfl, Nat.zero_le _, ⟨fun _ => ⟨hq.out, fun y hy => by simp at hy⟩, fun _ => rfl⟩, T1.out, X1.out⟩
          case round =>
            obtain ⟨k, q, rfl, rfl, hk', H⟩ := hrel
            obtain ⟨c0, c1, c2⟩ := H.out.2.2.cells
            by_cases hkl : k < l.length
            · have hki : (k : Int) < (l.length : Int) := by omega
              have hk63 : (k : Int) < 9223372036854775807 := by omega
              cases q
              · go_wp2_with fail
                go_ret
                refine TB.no (fun z => ?_) H.out.2.1
                have := H.out.1.2 ⟨(hisT.out.1 z).1, fun y hy => (hisT.out.1 z).2 y (List.mem_of_mem_take hy)⟩
                cases this
              · obtain ⟨b, o, c, he, hbl, hlc, hcm, ns', ls', hrg, hrd⟩ := hr'.out.at k hkl
                have he' := Value.slice.inj he
                obtain ⟨rfl, _, rfl⟩ := he'
                clear he
                obtain ⟨q0, q1, q2⟩ := range3 (rangeAt_below hrg H.out.2.1 hbl)
                have hrd' := hide (hrd.below H.out.2.1)
                obtain ⟨a1, m1, d1, a2, m2, d2, rfl, rfl⟩ := hrd.shape
                clear hrg hrd
                obtain ⟨bk, hbk⟩ := tells (IsT n l[k])
                have hcall := hide (Calls.tb (ih'.out l[k] (.slice a1 m1 d1) (.slice a2 m2 d2) wr hrd'.out (hz'.out.2.2 _ (List.getElem_mem _))) hbk)
                have hbk' := hide hbk
                clear hbk
                simp only at q0 q1 q2 hcall
                obtain ⟨hp, hhp⟩ : ∃ hp, thd n l[k] = hp := ⟨_, rfl⟩
                rw [hhp] at q0 hcall
                simp only [tvs] at hcall
                clear hhp
                go_wp2_with fail
                refine hcall.out.mono ?_
                rintro e w3 ⟨rfl, hb3⟩
                have T3 := hide hb3
                clear hb3
                go_wp2_with fail
                refine ⟨⟨k + 1, bk, rfl, by go_num, by omega, ⟨fun z => ⟨(H.out.1.1 (by simp)).1, mem_take_more hkl (H.out.1.1 (by simp)).2 (hbk'.out.1 z)⟩, fun z => hbk'.out.2 (z.2 _ (by rw [List.take_succ_eq_append_getElem hkl]; exact List.mem_append_right _ (by simp)))⟩, below_then H.out.2.1 T3.out, H.out.2.2.below T3.out⟩, by simp [intOf]; omega⟩
            · have hki : ¬ ((k : Int) < (l.length : Int)) := by omega
              have hE := hide (show l.take k = l from List.take_of_length_le (by omega))
              cases q
              · go_wp2_with fail
                go_ret
                refine TB.no (fun z => ?_) H.out.2.1
                have := H.out.1.2 ⟨(hisT.out.1 z).1, fun y hy => (hisT.out.1 z).2 y (List.mem_of_mem_take hy)⟩
                cases this
              · go_wp2_with fail
                go_ret
                refine TB.yes (hisT.out.2 ?_) H.out.2.1
                have := H.out.1.1 (by simp)
                rw [hE.out] at this
                exact this
        · have hq : Hid (¬ (TFil ⟨10, hm⟩ l.length)) := fun z => by
            rcases z with ⟨z1, z2, z3⟩ | ⟨z1, z2, z3⟩ | ⟨z1, z2, z3, z4⟩
            · simp only at z1; omega
            · have := hb1'.out.2 z3; cases this
            · simp only at z2; omega
          have hnlb : ((hm.length : Int) == (l.length : Int)) = true := beq_iff_eq.2 hnl
          have hnld : decide ((hm.length : Int) = (l.length : Int)) = true := decide_eq_true hnl
          have hnlh := hide hnl
          clear hnl
          go_enter Tryd.func36, Tryd.ntmps36
          go_wp2_with fail
          refine (hN.out _ (hb0.out _)).mono ?_
          rintro e w1 ⟨rfl, hb⟩
          have T1 := hide (below_then (hb0.out _) hb)
          have X1 := hide (hB0.out.below hb)
          clear hb
          obtain ⟨t0, t1, t2⟩ := X1.out.cells
          go_wp2_with fail
          clear t0 t1 t2
          go_loopw [3, 4] (fun ok i w' => ∃ (k : Nat) (q : Bool), ok = .bool q ∧ i = .int .i64 k ∧ k ≤ l.length ∧ Hid ((q = true ↔ TFil ⟨10, hm⟩ l.length ∧ ∀ y ∈ l.take k, IsT n y) ∧ Below w.heap.size w w' ∧ Tx w' w.heap.size ⟨10, hm⟩ (.slice an hm.length cn) (.slice al l.length cl))) (fun _ i _ => l.length - (intOf i).toNat)
          case atStart => exact ⟨0, false, rfl, rfl, Nat.zero_le _, ⟨(fun q => by cases q), fun q => absurd q.1 hq.out⟩, T1.out, X1.out⟩
          case round =>
            obtain ⟨k, q, rfl, rfl, hk', H⟩ := hrel
            obtain ⟨c0, c1, c2⟩ := H.out.2.2.cells
            by_cases hkl : k < l.length
            · have hki : (k : Int) < (l.length : Int) := by omega
              have hk63 : (k : Int) < 9223372036854775807 := by omega
              cases q
              · go_wp2_with fail
                go_ret
                refine TB.no (fun z => ?_) H.out.2.1
                have := H.out.1.2 ⟨(hisT.out.1 z).1, fun y hy => (hisT.out.1 z).2 y (List.mem_of_mem_take hy)⟩
                cases this
              · obtain ⟨b, o, c, he, hbl, hlc, hcm, ns', ls', hrg, hrd⟩ := hr'.out.at k hkl
                have he' := Value.slice.inj he
                obtain ⟨rfl, _, rfl⟩ := he'
                clear he
                obtain ⟨q0, q1, q2⟩ := range3 (rangeAt_below hrg H.out.2.1 hbl)
                have hrd' := hide (hrd.below H.out.2.1)
                obtain ⟨a1, m1, d1, a2, m2, d2, rfl, rfl⟩ := hrd.shape
                clear hrg hrd
                obtain ⟨bk, hbk⟩ := tells (IsT n l[k])
                have hcall := hide (Calls.tb (ih'.out l[k] (.slice a1 m1 d1) (.slice a2 m2 d2) wr hrd'.out (hz'.out.2.2 _ (List.getElem_mem _))) hbk)
                have hbk' := hide hbk
                clear hbk
                simp only at q0 q1 q2 hcall
                obtain ⟨hp, hhp⟩ : ∃ hp, thd n l[k] = hp := ⟨_, rfl⟩
                rw [hhp] at q0 hcall
                simp only [tvs] at hcall
                clear hhp
                go_wp2_with fail
                refine hcall.out.mono ?_
                rintro e w3 ⟨rfl, hb3⟩
                have T3 := hide hb3
                clear hb3
                go_wp2_with fail
                refine ⟨⟨k + 1, bk, rfl, by go_num, by omega, ⟨fun z => ⟨(H.out.1.1 (by simp)).1, mem_take_more hkl (H.out.1.1 (by simp)).2 (hbk'.out.1 z)⟩, fun z => hbk'.out.2 (z.2 _ (by rw [List.take_succ_eq_append_getElem hkl]; exact List.mem_append_right _ (by simp)))⟩, below_then H.out.2.1 T3.out, H.out.2.2.below T3.out⟩, by simp [intOf]; omega⟩
            · have hki : ¬ ((k : Int) < (l.length : Int)) := by omega
              have hE := hide (show l.take k = l from List.take_of_length_le (by omega))
              cases q
              · go_wp2_with fail
                go_ret
                refine TB.no (fun z => ?_) H.out.2.1
                have := H.out.1.2 ⟨(hisT.out.1 z).1, fun y hy => (hisT.out.1 z).2 y (List.mem_of_mem_take hy)⟩
                cases this
              · go_wp2_with fail
                go_ret
                refine TB.yes (hisT.out.2 ?_) H.out.2.1
                have := H.out.1.1 (by simp)
                rw [hE.out] at this
                exact this
      · have hq : Hid (¬ (TFil ⟨10, hm⟩ l.length)) := fun z => by rcases z with ⟨z1, z2, z3⟩ | ⟨z1, z2, z3⟩ | ⟨z1, z2, z3, z4⟩ <;> simp only at z1 z2 z3 <;> omega
        have hnlb : ((hm.length : Int) == (l.length : Int)) = false := beq_eq_false_iff_ne.2 hnl
        have hnld : decide ((hm.length : Int) = (l.length : Int)) = false := decide_eq_false hnl
        have hnlh := hide hnl
        clear hnl
        go_enter Tryd.func36, Tryd.ntmps36
        go_wp2_with fail
        go_loopw [3, 4] (fun ok i w' => ∃ (k : Nat) (q : Bool), ok = .bool q ∧ i = .int .i64 k ∧ k ≤ l.length ∧ Hid ((q = true ↔ TFil ⟨10, hm⟩ l.length ∧ ∀ y ∈ l.take k, IsT n y) ∧ Below w.heap.size w w' ∧ Tx w' w.heap.size ⟨10, hm⟩ (.slice an hm.length cn) (.slice al l.length cl))) (fun _ i _ => l.length - (intOf i).toNat)
        case atStart => exact ⟨0, false, rfl, rfl, Nat.zero_le _, ⟨(fun q => by cases q), fun q => absurd q.1 hq.out⟩, hb0.out _, hB0.out⟩
        case round =>
          obtain ⟨k, q, rfl, rfl, hk', H⟩ := hrel
          obtain ⟨c0, c1, c2⟩ := H.out.2.2.cells
          by_cases hkl : k < l.length
          · have hki : (k : Int) < (l.length : Int) := by omega
            have hk63 : (k : Int) < 9223372036854775807 := by omega
            cases q
            · go_wp2_with fail
              go_ret
              refine TB.no (fun z => ?_) H.out.2.1
              have := H.out.1.2 ⟨(hisT.out.1 z).1, fun y hy => (hisT.out.1 z).2 y (List.mem_of_mem_take hy)⟩
              cases this
            · obtain ⟨b, o, c, he, hbl, hlc, hcm, ns', ls', hrg, hrd⟩ := hr'.out.at k hkl
              have he' := Value.slice.inj he
              obtain ⟨rfl, _, rfl⟩ := he'
              clear he
              obtain ⟨q0, q1, q2⟩ := range3 (rangeAt_below hrg H.out.2.1 hbl)
              have hrd' := hide (hrd.below H.out.2.1)
              obtain ⟨a1, m1, d1, a2, m2, d2, rfl, rfl⟩ := hrd.shape
              clear hrg hrd
              obtain ⟨bk, hbk⟩ := tells (IsT n l[k])
              have hcall := hide (Calls.tb (ih'.out l[k] (.slice a1 m1 d1) (.slice a2 m2 d2) wr hrd'.out (hz'.out.2.2 _ (List.getElem_mem _))) hbk)
              have hbk' := hide hbk
              clear hbk
              simp only at q0 q1 q2 hcall
              obtain ⟨hp, hhp⟩ : ∃ hp, thd n l[k] = hp := ⟨_, rfl⟩
              rw [hhp] at q0 hcall
              simp only [tvs] at hcall
              clear hhp
              go_wp2_with fail
              refine hcall.out.mono ?_
              rintro e w3 ⟨rfl, hb3⟩
              have T3 := hide hb3
              clear hb3
              go_wp2_with fail
              refine ⟨⟨k + 1, bk, rfl, by go_num, by omega, ⟨fun z => ⟨(H.out.1.1 (by simp)).1, mem_take_more hkl (H.out.1.1 (by simp)).2 (hbk'.out.1 z)⟩, fun z => hbk'.out.2 (z.2 _ (by rw [List.take_succ_eq_append_getElem hkl]; exact List.mem_append_right _ (by simp)))⟩, below_then H.out.2.1 T3.out, H.out.2.2.below T3.out⟩, by simp [intOf]; omega⟩
          · have hki : ¬ ((k : Int) < (l.length : Int)) := by omega
            have hE := hide (show l.take k = l from List.take_of_length_le (by omega))
            cases q
            · go_wp2_with fail
              go_ret
              refine TB.no (fun z => ?_) H.out.2.1
              have := H.out.1.2 ⟨(hisT.out.1 z).1, fun y hy => (hisT.out.1 z).2 y (List.mem_of_mem_take hy)⟩
              cases this
            · go_wp2_with fail
              go_ret
              refine TB.yes (hisT.out.2 ?_) H.out.2.1
              have := H.out.1.1 (by simp)
              rw [hE.out] at this
              exact this
    by_cases k11 : hk = 11
    · subst k11
      by_cases hnl : (hm.length : Int) = (l.length : Int)
      · cases b1
        rotate_left
        · have hq : Hid (TFil ⟨11, hm⟩ l.length) := Or.inr (Or.inl ⟨by simp, by simp only; omega, hb1'.out.1 rfl⟩)
          have hnlb : ((hm.length : Int) == (l.length : Int)) = true := beq_iff_eq.2 hnl
          have hnld : decide ((hm.length : Int) = (l.length : Int)) = true := decide_eq_true hnl
          have hnlh := hide hnl
          clear hnl
          go_enter Tryd.func36, Tryd.ntmps36
          go_wp2_with fail
          refine (hN.out _ (hb0.out _)).mono ?_
          rintro e w1 ⟨rfl, hb⟩
          have T1 := hide (below_then (hb0.out _) hb)
          have X1 := hide (hB0.out.below hb)
          clear hb
          obtain ⟨t0, t1, t2⟩ := X1.out.cells
          go_wp2_with fail
          clear t0 t1 t2
          go_loopw [3, 4] (fun ok i w' => ∃ (k : Nat) (q : Bool), ok = .bool q ∧ i = .int .i64 k ∧ k ≤ l.length ∧ Hid ((q = true ↔ TFil ⟨11, hm⟩ l.length ∧ ∀ y ∈ l.take k, IsT n y) ∧ Below w.heap.size w w' ∧ Tx w' w.heap.size ⟨11, hm⟩ (.slice an hm.length cn) (.slice al l.length cl))) (fun _ i _ => l.length - (intOf i).toNat)
          case atStart => exact ⟨0, true, rfl, rfl, Nat.zero_le _, ⟨fun _ => ⟨hq.out, fun y hy => by simp at hy⟩, fun _ => rfl⟩, T1.out, X1.out⟩
          case round =>
            obtain ⟨k, q, rfl, rfl, hk', H⟩ := hrel
            obtain ⟨c0, c1, c2⟩ := H.out.2.2.cells
            by_cases hkl : k < l.length
            · have hki : (k : Int) < (l.length : Int) := by omega
              have hk63 : (k : Int) < 9223372036854775807 := by omega
              cases q
              · go_wp2_with fail
                go_ret
                refine TB.no (fun z => ?_) H.out.2.1
                have := H.out.1.2 ⟨(hisT.out.1 z).1, fun y hy => (hisT.out.1 z).2 y (List.mem_of_mem_take hy)⟩
                cases this
              · obtain ⟨b, o, c, he, hbl, hlc, hcm, ns', ls', hrg, hrd⟩ := hr'.out.at k hkl
                have he' := Value.slice.inj he
                obtain ⟨rfl, _, rfl⟩ := he'
                clear he
                obtain ⟨q0, q1, q2⟩ := range3 (rangeAt_below hrg H.out.2.1 hbl)
                have hrd' := hide (hrd.below H.out.2.1)
                obtain ⟨a1, m1, d1, a2, m2, d2, rfl, rfl⟩ := hrd.shape
                clear hrg hrd
                obtain ⟨bk, hbk⟩ := tells (IsT n l[k])
                have hcall := hide (Calls.tb (ih'.out l[k] (.slice a1 m1 d1) (.slice a2 m2 d2) wr hrd'.out (hz'.out.2.2 _ (List.getElem_mem _))) hbk)
                have hbk' := hide hbk
                clear hbk
                simp only at q0 q1 q2 hcall
                obtain ⟨hp, hhp⟩ : ∃ hp, thd n l[k] = hp := ⟨_, rfl⟩
                rw [hhp] at q0 hcall
                simp only [tvs] at hcall
                clear hhp
                go_wp2_with fail
                refine hcall.out.mono ?_
                rintro e w3 ⟨rfl, hb3⟩
                have T3 := hide hb3
                clear hb3
                go_wp2_with fail
                refine ⟨⟨k + 1, bk, rfl, by go_num, by omega, ⟨fun z => ⟨(H.out.1.1 (by simp)).1, mem_take_more hkl (H.out.1.1 (by simp)).2 (hbk'.out.1 z)⟩, fun z => hbk'.out.2 (z.2 _ (by rw [List.take_succ_eq_append_getElem hkl]; exact List.mem_append_right _ (by simp)))⟩, below_then H.out.2.1 T3.out, H.out.2.2.below T3.out⟩, by simp [intOf]; omega⟩
            · have hki : ¬ ((k : Int) < (l.length : Int)) := by omega
              have hE := hide (show l.take k = l from List.take_of_length_le (by omega))
              cases q
              · go_wp2_with fail
                go_ret
                refine TB.no (fun z => ?_) H.out.2.1
                have := H.out.1.2 ⟨(hisT.out.1 z).1, fun y hy => (hisT.out.1 z).2 y (List.mem_of_mem_take hy)⟩
                cases this
              · go_wp2_with fail
                go_ret
                refine TB.yes (hisT.out.2 ?_) H.out.2.1
                have := H.out.1.1 (by simp)
                rw [hE.out] at this
                exact this
        · have hq : Hid (¬ (TFil ⟨11, hm⟩ l.length)) := fun z => by
            rcases z with ⟨z1, z2, z3⟩ | ⟨z1, z2, z3⟩ | ⟨z1, z2, z3, z4⟩
            · simp only at z1; omega
            · have := hb1'.out.2 z3; cases this
            · simp only at z2; omega
          have hnlb : ((hm.length : Int) == (l.length : Int)) = true := beq_iff_eq.2 hnl
          have hnld : decide ((hm.length : Int) = (l.length : Int)) = true := decide_eq_true hnl
          have hnlh := hide hnl
          clear hnl
          go_enter Tryd.func36, Tryd.ntmps36
          go_wp2_with fail
          refine (hN.out _ (hb0.out _)).mono ?_
          rintro e w1 ⟨rfl, hb⟩
          have T1 := hide (below_then (hb0.out _) hb)
          have X1 := hide (hB0.out.below hb)
          clear hb
          obtain ⟨t0, t1, t2⟩ := X1.out.cells
          go_wp2_with fail
          clear t0 t1 t2
          go_loopw [3, 4] (fun ok i w' => ∃ (k : Nat) (q : Bool), ok = .bool q ∧ i = .int .i64 k ∧ k ≤ l.length ∧ Hid ((q = true ↔ TFil ⟨11, hm⟩ l.length ∧ ∀ y ∈ l.take k, IsT n y) ∧ Below w.heap.size w w' ∧ Tx w' w.heap.size ⟨11, hm⟩ (.slice an hm.length cn) (.slice al l.length cl))) (fun _ i _ => l.length - (intOf i).toNat)
          case atStart => exact ⟨0, false, rfl, rfl, Nat.zero_le _, ⟨(fun q => by cases q), fun q => absurd q.1 hq.out⟩, T1.out, X1.out⟩
          case round =>
            obtain ⟨k, q, rfl, rfl, hk', H⟩ := hrel
            obtain ⟨c0, c1, c2⟩ := H.out.2.2.cells
            by_cases hkl : k < l.length
            · have hki : (k : Int) < (l.length : Int) := by omega
              have hk63 : (k : Int) < 9223372036854775807 := by omega
              cases q
              · go_wp2_with fail
                go_ret
                refine TB.no (fun z => ?_) H.out.2.1
                have := H.out.1.2 ⟨(hisT.out.1 z).1, fun y hy => (hisT.out.1 z).2 y (List.mem_of_mem_take hy)⟩
                cases this
              · obtain ⟨b, o, c, he, hbl, hlc, hcm, ns', ls', hrg, hrd⟩ := hr'.out.at k hkl
                have he' := Value.slice.inj he
                obtain ⟨rfl, _, rfl⟩ := he'
                clear he
                obtain ⟨q0, q1, q2⟩ := range3 (rangeAt_below hrg H.out.2.1 hbl)
                have hrd' := hide (hrd.below H.out.2.1)
                obtain ⟨a1, m1, d1, a2, m2, d2, rfl, rfl⟩ := hrd.shape
                clear hrg hrd
                obtain ⟨bk, hbk⟩ := tells (IsT n l[k])
                have hcall := hide (Calls.tb (ih'.out l[k] (.slice a1 m1 d1) (.slice a2 m2 d2) wr hrd'.out (hz'.out.2.2 _ (List.getElem_mem _))) hbk)
                have hbk' := hide hbk
                clear hbk
                simp only at q0 q1 q2 hcall
                obtain ⟨hp, hhp⟩ : ∃ hp, thd n l[k] = hp := ⟨_, rfl⟩
                rw [hhp] at q0 hcall
                simp only [tvs] at hcall
                clear hhp
                go_wp2_with fail
                refine hcall.out.mono ?_
                rintro e w3 ⟨rfl, hb3⟩
                have T3 := hide hb3
                clear hb3
                go_wp2_with fail
                refine ⟨⟨k + 1, bk, rfl, by go_num, by omega, ⟨fun z => ⟨(H.out.1.1 (by simp)).1, mem_take_more hkl (H.out.1.1 (by simp)).2 (hbk'.out.1 z)⟩, fun z => hbk'.out.2 (z.2 _ (by rw [List.take_succ_eq_append_getElem hkl]; exact List.mem_append_right _ (by simp)))⟩, below_then H.out.2.1 T3.out, H.out.2.2.below T3.out⟩, by simp [intOf]; omega⟩
            · have hki : ¬ ((k : Int) < (l.length : Int)) := by omega
              have hE := hide (show l.take k = l from List.take_of_length_le (by omega))
              cases q
              · go_wp2_with fail
                go_ret
                refine TB.no (fun z => ?_) H.out.2.1
                have := H.out.1.2 ⟨(hisT.out.1 z).1, fun y hy => (hisT.out.1 z).2 y (List.mem_of_mem_take hy)⟩
                cases this
              · go_wp2_with fail
                go_ret
                refine TB.yes (hisT.out.2 ?_) H.out.2.1
                have := H.out.1.1 (by simp)
                rw [hE.out] at this
                exact this
      · have hq : Hid (¬ (TFil ⟨11, hm⟩ l.length)) := fun z => by rcases z with ⟨z1, z2, z3⟩ | ⟨z1, z2, z3⟩ | ⟨z1, z2, z3, z4⟩ <;> simp only at z1 z2 z3 <;> omega
        have hnlb : ((hm.length : Int) == (l.length : Int)) = false := beq_eq_false_iff_ne.2 hnl
        have hnld : decide ((hm.length : Int) = (l.length : Int)) = false := decide_eq_false hnl
        have hnlh := hide hnl
        clear hnl
        go_enter Tryd.func36, Tryd.ntmps36
        go_wp2_with fail
        go_loopw [3, 4] (fun ok i w' => ∃ (k : Nat) (q : Bool), ok = .bool q ∧ i = .int .i64 k ∧ k ≤ l.length ∧ Hid ((q = true ↔ TFil ⟨11, hm⟩ l.length ∧ ∀ y ∈ l.take k, IsT n y) ∧ Below w.heap.size w w' ∧ Tx w' w.heap.size ⟨11, hm⟩ (.slice an hm.length cn) (.slice al l.length cl))) (fun _ i _ => l.length - (intOf i).toNat)
        case atStart => exact ⟨0, false, rfl, rfl, Nat.zero_le _, ⟨(fun q => by cases q), fun q => absurd q.1 hq.out⟩, hb0.out _, hB0.out⟩
        case round =>
          obtain ⟨k, q, rfl, rfl, hk', H⟩ := hrel
          obtain ⟨c0, c1, c2⟩ := H.out.2.2.cells
          by_cases hkl : k < l.length
          · have hki : (k : Int) < (l.length : Int) := by omega
            have hk63 : (k : Int) < 9223372036854775807 := by omega
            cases q
            · go_wp2_with fail
              go_ret
              refine TB.no (fun z => ?_) H.out.2.1
              have := H.out.1.2 ⟨(hisT.out.1 z).1, fun y hy => (hisT.out.1 z).2 y (List.mem_of_mem_take hy)⟩
              cases this
            · obtain ⟨b, o, c, he, hbl, hlc, hcm, ns', ls', hrg, hrd⟩ := hr'.out.at k hkl
              have he' := Value.slice.inj he
              obtain ⟨rfl, _, rfl⟩ := he'
              clear he
              obtain ⟨q0, q1, q2⟩ := range3 (rangeAt_below hrg H.out.2.1 hbl)
              have hrd' := hide (hrd.below H.out.2.1)
              obtain ⟨a1, m1, d1, a2, m2, d2, rfl, rfl⟩ := hrd.shape
              clear hrg hrd
              obtain ⟨bk, hbk⟩ := tells (IsT n l[k])
              have hcall := hide (Calls.tb (ih'.out l[k] (.slice a1 m1 d1) (.slice a2 m2 d2) wr hrd'.out (hz'.out.2.2 _ (List.getElem_mem _))) hbk)
              have hbk' := hide hbk
              clear hbk
              simp only at q0 q1 q2 hcall
              obtain ⟨hp, hhp⟩ : ∃ hp, thd n l[k] = hp := ⟨_, rfl⟩
              rw [hhp] at q0 hcall
              simp only [tvs] at hcall
              clear hhp
              go_wp2_with fail
              refine hcall.out.mono ?_
              rintro e w3 ⟨rfl, hb3⟩
              have T3 := hide hb3
              clear hb3
              go_wp2_with fail
              refine ⟨⟨k + 1, bk, rfl, by go_num, by omega, ⟨fun z => ⟨(H.out.1.1 (by simp)).1, mem_take_more hkl (H.out.1.1 (by simp)).2 (hbk'.out.1 z)⟩, fun z => hbk'.out.2 (z.2 _ (by rw [List.take_succ_eq_append_getElem hkl]; exact List.mem_append_right _ (by simp)))⟩, below_then H.out.2.1 T3.out, H.out.2.2.below T3.out⟩, by simp [intOf]; omega⟩
          · have hki : ¬ ((k : Int) < (l.length : Int)) := by omega
            have hE := hide (show l.take k = l from List.take_of_length_le (by omega))
            cases q
            · go_wp2_with fail
              go_ret
              refine TB.no (fun z => ?_) H.out.2.1
              have := H.out.1.2 ⟨(hisT.out.1 z).1, fun y hy => (hisT.out.1 z).2 y (List.mem_of_mem_take hy)⟩
              cases this
            · go_wp2_with fail
              go_ret
              refine TB.yes (hisT.out.2 ?_) H.out.2.1
              have := H.out.1.1 (by simp)
              rw [hE.out] at this
              exact this
    have k9b : (hk == 9) = false := beq_eq_false_iff_ne.2 k9
    have k9d : decide (hk = 9) = false := decide_eq_false k9
    have k10b : (hk == 10) = false := beq_eq_false_iff_ne.2 k10
    have k10d : decide (hk = 10) = false := decide_eq_false k10
    have k11b : (hk == 11) = false := beq_eq_false_iff_ne.2 k11
    have k11d : decide (hk = 11) = false := decide_eq_false k11
    have k9h := hide k9
    have k10h := hide k10
    have k11h := hide k11
    clear k9 k10 k11
    by_cases h1 : 1 ≤ hk
    · by_cases h8 : hk ≤ 8
      · by_cases hn0 : (hm.length : Int) = 0
        · by_cases hl0 : (l.length : Int) = 0
          · have hq : Hid (TFil ⟨hk, hm⟩ l.length) := Or.inr (Or.inr ⟨h1, h8, by simp only; omega, by omega⟩)
            have hn0b : ((hm.length : Int) == 0) = true := beq_iff_eq.2 hn0
            have hn0d : decide ((hm.length : Int) = 0) = true := decide_eq_true hn0
            have hn0h := hide hn0
            clear hn0
            have hl0b : ((l.length : Int) == 0) = true := beq_iff_eq.2 hl0
            have hl0d : decide ((l.length : Int) = 0) = true := decide_eq_true hl0
            have hl0h := hide hl0
            clear hl0
            go_enter Tryd.func36, Tryd.ntmps36
            go_wp2_with fail
            go_loopw [3, 4] (fun ok i w' => ∃ (k : Nat) (q : Bool), ok = .bool q ∧ i = .int .i64 k ∧ k ≤ l.length ∧ Hid ((q = true ↔ TFil ⟨hk, hm⟩ l.length ∧ ∀ y ∈ l.take k, IsT n y) ∧ Below w.heap.size w w' ∧ Tx w' w.heap.size ⟨hk, hm⟩ (.slice an hm.length cn) (.slice al l.length cl))) (fun _ i _ => l.length - (intOf i).toNat)
            case atStart => exact ⟨0, true, rfl, rfl, Nat.zero_le _, ⟨fun _ => ⟨hq.out, fun y hy => by simp at hy⟩, fun _ => rfl⟩, hb0.out _, hB0.out⟩
            case round =>
              obtain ⟨k, q, rfl, rfl, hk', H⟩ := hrel
              obtain ⟨c0, c1, c2⟩ := H.out.2.2.cells
              by_cases hkl : k < l.length
              · have hki : (k : Int) < (l.length : Int) := by omega
                have hk63 : (k : Int) < 9223372036854775807 := by omega
                cases q
                · go_wp2_with fail
                  go_ret
                  refine TB.no (fun z => ?_) H.out.2.1
                  have := H.out.1.2 ⟨(hisT.out.1 z).1, fun y hy => (hisT.out.1 z).2 y (List.mem_of_mem_take hy)⟩
                  cases this
                · obtain ⟨b, o, c, he, hbl, hlc, hcm, ns', ls', hrg, hrd⟩ := hr'.out.at k hkl
                  have he' := Value.slice.inj he
                  obtain ⟨rfl, _, rfl⟩ := he'
                  clear he
                  obtain ⟨q0, q1, q2⟩ := range3 (rangeAt_below hrg H.out.2.1 hbl)
                  have hrd' := hide (hrd.below H.out.2.1)
                  obtain ⟨a1, m1, d1, a2, m2, d2, rfl, rfl⟩ := hrd.shape
                  clear hrg hrd
                  obtain ⟨bk, hbk⟩ := tells (IsT n l[k])
                  have hcall := hide (Calls.tb (ih'.out l[k] (.slice a1 m1 d1) (.slice a2 m2 d2) wr hrd'.out (hz'.out.2.2 _ (List.getElem_mem _))) hbk)
                  have hbk' := hide hbk
                  clear hbk
                  simp only at q0 q1 q2 hcall
                  obtain ⟨hp, hhp⟩ : ∃ hp, thd n l[k] = hp := ⟨_, rfl⟩
                  rw [hhp] at q0 hcall
                  simp only [tvs] at hcall
                  clear hhp
                  go_wp2_with fail
                  refine hcall.out.mono ?_
                  rintro e w3 ⟨rfl, hb3⟩
                  have T3 := hide hb3
                  clear hb3
                  go_wp2_with fail
                  refine ⟨⟨k + 1, bk, rfl, by go_num, by omega, ⟨fun z => ⟨(H.out.1.1 (by simp)).1, mem_take_more hkl (H.out.1.1 (by simp)).2 (hbk'.out.1 z)⟩, fun z => hbk'.out.2 (z.2 _ (by rw [List.take_succ_eq_append_getElem hkl]; exact List.mem_append_right _ (by simp)))⟩, below_then H.out.2.1 T3.out, H.out.2.2.below T3.out⟩, by simp [intOf]; omega⟩
              · have hki : ¬ ((k : Int) < (l.length : Int)) := by omega
                have hE := hide (show l.take k = l from List.take_of_length_le (by omega))
                cases q
                · go_wp2_with fail
                  go_ret
                  refine TB.no (fun z => ?_) H.out.2.1
                  have := H.out.1.2 ⟨(hisT.out.1 z).1, fun y hy => (hisT.out.1 z).2 y (List.mem_of_mem_take hy)⟩
                  cases this
                · go_wp2_with fail
                  go_ret
                  refine TB.yes (hisT.out.2 ?_) H.out.2.1
                  have := H.out.1.1 (by simp)
                  rw [hE.out] at this
                  exact this
          · have hq : Hid (¬ (TFil ⟨hk, hm⟩ l.length)) := fun z => by have := k9h.out; have := k10h.out; have := k11h.out; rcases z with ⟨z1, z2, z3⟩ | ⟨z1, z2, z3⟩ | ⟨z1, z2, z3, z4⟩ <;> simp only at z1 z2 z3 <;> omega
            have hn0b : ((hm.length : Int) == 0) = true := beq_iff_eq.2 hn0
            have hn0d : decide ((hm.length : Int) = 0) = true := decide_eq_true hn0
            have hn0h := hide hn0
            clear hn0
            have hl0b : ((l.length : Int) == 0) = false := beq_eq_false_iff_ne.2 hl0
            have hl0d : decide ((l.length : Int) = 0) = false := decide_eq_false hl0
            have hl0h := hide hl0
            clear hl0
            go_enter Tryd.func36, Tryd.ntmps36
            go_wp2_with fail
            go_loopw [3, 4] (fun ok i w' => ∃ (k : Nat) (q : Bool), ok = .bool q ∧ i = .int .i64 k ∧ k ≤ l.length ∧ Hid ((q = true ↔ TFil ⟨hk, hm⟩ l.length ∧ ∀ y ∈ l.take k, IsT n y) ∧ Below w.heap.size w w' ∧ Tx w' w.heap.size ⟨hk, hm⟩ (.slice an hm.length cn) (.slice al l.length cl))) (fun _ i _ => l.length - (intOf i).toNat)
            case atStart => exact ⟨0, false, rfl, rfl, Nat.zero_le _, ⟨(fun q => by cases q), fun q => absurd q.1 hq.out⟩, hb0.out _, hB0.out⟩
            case round =>
              obtain ⟨k, q, rfl, rfl, hk', H⟩ := hrel
              obtain ⟨c0, c1, c2⟩ := H.out.2.2.cells
              by_cases hkl : k < l.length
              · have hki : (k : Int) < (l.length : Int) := by omega
                have hk63 : (k : Int) < 9223372036854775807 := by omega
                cases q
                · go_wp2_with fail
                  go_ret
                  refine TB.no (fun z => ?_) H.out.2.1
                  have := H.out.1.2 ⟨(hisT.out.1 z).1, fun y hy => (hisT.out.1 z).2 y (List.mem_of_mem_take hy)⟩
                  cases this
                · obtain ⟨b, o, c, he, hbl, hlc, hcm, ns', ls', hrg, hrd⟩ := hr'.out.at k hkl
                  have he' := Value.slice.inj he
                  obtain ⟨rfl, _, rfl⟩ := he'
                  clear he
                  obtain ⟨q0, q1, q2⟩ := range3 (rangeAt_below hrg H.out.2.1 hbl)
                  have hrd' := hide (hrd.below H.out.2.1)
                  obtain ⟨a1, m1, d1, a2, m2, d2, rfl, rfl⟩ := hrd.shape
                  clear hrg hrd
                  obtain ⟨bk, hbk⟩ := tells (IsT n l[k])
                  have hcall := hide (Calls.tb (ih'.out l[k] (.slice a1 m1 d1) (.slice a2 m2 d2) wr hrd'.out (hz'.out.2.2 _ (List.getElem_mem _))) hbk)
                  have hbk' := hide hbk
                  clear hbk
                  simp only at q0 q1 q2 hcall
                  obtain ⟨hp, hhp⟩ : ∃ hp, thd n l[k] = hp := ⟨_, rfl⟩
                  rw [hhp] at q0 hcall
                  simp only [tvs] at hcall
                  clear hhp
                  go_wp2_with fail
                  refine hcall.out.mono ?_
                  rintro e w3 ⟨rfl, hb3⟩
                  have T3 := hide hb3
                  clear hb3
                  go_wp2_with fail
                  refine ⟨⟨k + 1, bk, rfl, by go_num, by omega, ⟨fun z => ⟨(H.out.1.1 (by simp)).1, mem_take_more hkl (H.out.1.1 (by simp)).2 (hbk'.out.1 z)⟩, fun z => hbk'.out.2 (z.2 _ (by rw [List.take_succ_eq_append_getElem hkl]; exact List.mem_append_right _ (by simp)))⟩, below_then H.out.2.1 T3.out, H.out.2.2.below T3.out⟩, by simp [intOf]; omega⟩
              · have hki : ¬ ((k : Int) < (l.length : Int)) := by omega
                have hE := hide (show l.take k = l from List.take_of_length_le (by omega))
                cases q
                · go_wp2_with fail
                  go_ret
                  refine TB.no (fun z => ?_) H.out.2.1
                  have := H.out.1.2 ⟨(hisT.out.1 z).1, fun y hy => (hisT.out.1 z).2 y (List.mem_of_mem_take hy)⟩
                  cases this
                · go_wp2_with fail
                  go_ret
                  refine TB.yes (hisT.out.2 ?_) H.out.2.1
                  have := H.out.1.1 (by simp)
                  rw [hE.out] at this
                  exact this
        · have hq : Hid (¬ (TFil ⟨hk, hm⟩ l.length)) := fun z => by have := k9h.out; have := k10h.out; have := k11h.out; rcases z with ⟨z1, z2, z3⟩ | ⟨z1, z2, z3⟩ | ⟨z1, z2, z3, z4⟩ <;> simp only at z1 z2 z3 <;> omega
          have hn0b : ((hm.length : Int) == 0) = false := beq_eq_false_iff_ne.2 hn0
          have hn0d : decide ((hm.length : Int) = 0) = false := decide_eq_false hn0
          have hn0h := hide hn0
          clear hn0
          go_enter Tryd.func36, Tryd.ntmps36
          go_wp2_with fail
          go_loopw [3, 4] (fun ok i w' => ∃ (k : Nat) (q : Bool), ok = .bool q ∧ i = .int .i64 k ∧ k ≤ l.length ∧ Hid ((q = true ↔ TFil ⟨hk, hm⟩ l.length ∧ ∀ y ∈ l.take k, IsT n y) ∧ Below w.heap.size w w' ∧ Tx w' w.heap.size ⟨hk, hm⟩ (.slice an hm.length cn) (.slice al l.length cl))) (fun _ i _ => l.length - (intOf i).toNat)
          case atStart => exact ⟨0, false, rfl, rfl, Nat.zero_le _, ⟨(fun q => by cases q), fun q => absurd q.1 hq.out⟩, hb0.out _, hB0.out⟩
          case round =>
            obtain ⟨k, q, rfl, rfl, hk', H⟩ := hrel
            obtain ⟨c0, c1, c2⟩ := H.out.2.2.cells
            by_cases hkl : k < l.length
            · have hki : (k : Int) < (l.length : Int) := by omega
              have hk63 : (k : Int) < 9223372036854775807 := by omega
              cases q
              · go_wp2_with fail
                go_ret
                refine TB.no (fun z => ?_) H.out.2.1
                have := H.out.1.2 ⟨(hisT.out.1 z).1, fun y hy => (hisT.out.1 z).2 y (List.mem_of_mem_take hy)⟩
                cases this
              · obtain ⟨b, o, c, he, hbl, hlc, hcm, ns', ls', hrg, hrd⟩ := hr'.out.at k hkl
                have he' := Value.slice.inj he
                obtain ⟨rfl, _, rfl⟩ := he'
                clear he
                obtain ⟨q0, q1, q2⟩ := range3 (rangeAt_below hrg H.out.2.1 hbl)
                have hrd' := hide (hrd.below H.out.2.1)
                obtain ⟨a1, m1, d1, a2, m2, d2, rfl, rfl⟩ := hrd.shape
                clear hrg hrd
                obtain ⟨bk, hbk⟩ := tells (IsT n l[k])
                have hcall := hide (Calls.tb (ih'.out l[k] (.slice a1 m1 d1) (.slice a2 m2 d2) wr hrd'.out (hz'.out.2.2 _ (List.getElem_mem _))) hbk)
                have hbk' := hide hbk
                clear hbk
                simp only at q0 q1 q2 hcall
                obtain ⟨hp, hhp⟩ : ∃ hp, thd n l[k] = hp := ⟨_, rfl⟩
                rw [hhp] at q0 hcall
                simp only [tvs] at hcall
                clear hhp
                go_wp2_with fail
                refine hcall.out.mono ?_
                rintro e w3 ⟨rfl, hb3⟩
                have T3 := hide hb3
                clear hb3
                go_wp2_with fail
                refine ⟨⟨k + 1, bk, rfl, by go_num, by omega, ⟨fun z => ⟨(H.out.1.1 (by simp)).1, mem_take_more hkl (H.out.1.1 (by simp)).2 (hbk'.out.1 z)⟩, fun z => hbk'.out.2 (z.2 _ (by rw [List.take_succ_eq_append_getElem hkl]; exact List.mem_append_right _ (by simp)))⟩, below_then H.out.2.1 T3.out, H.out.2.2.below T3.out⟩, by simp [intOf]; omega⟩
            · have hki : ¬ ((k : Int) < (l.length : Int)) := by omega
              have hE := hide (show l.take k = l from List.take_of_length_le (by omega))
              cases q
              · go_wp2_with fail
                go_ret
                refine TB.no (fun z => ?_) H.out.2.1
                have := H.out.1.2 ⟨(hisT.out.1 z).1, fun y hy => (hisT.out.1 z).2 y (List.mem_of_mem_take hy)⟩
                cases this
              · go_wp2_with fail
                go_ret
                refine TB.yes (hisT.out.2 ?_) H.out.2.1
                have := H.out.1.1 (by simp)
                rw [hE.out] at this
                exact this
      · have hq : Hid (¬ (TFil ⟨hk, hm⟩ l.length)) := fun z => by have := k9h.out; have := k10h.out; have := k11h.out; rcases z with ⟨z1, z2, z3⟩ | ⟨z1, z2, z3⟩ | ⟨z1, z2, z3, z4⟩ <;> simp only at z1 z2 z3 <;> omega
        go_enter Tryd.func36, Tryd.ntmps36
        go_wp2_with fail
        go_loopw [3, 4] (fun ok i w' => ∃ (k : Nat) (q : Bool), ok = .bool q ∧ i = .int .i64 k ∧ k ≤ l.length ∧ Hid ((q = true ↔ TFil ⟨hk, hm⟩ l.length ∧ ∀ y ∈ l.take k, IsT n y) ∧ Below w.heap.size w w' ∧ Tx w' w.heap.size ⟨hk, hm⟩ (.slice an hm.length cn) (.slice al l.length cl))) (fun _ i _ => l.length - (intOf i).toNat)
        case atStart => exact ⟨0, false, rfl, rfl, Nat.zero_le _, ⟨(fun q => by cases q), fun q => absurd q.1 hq.out⟩, hb0.out _, hB0.out⟩
        case round =>
          obtain ⟨k, q, rfl, rfl, hk', H⟩ := hrel
          obtain ⟨c0, c1, c2⟩ := H.out.2.2.cells
          by_cases hkl : k < l.length
          · have hki : (k : Int) < (l.length : Int) := by omega
            have hk63 : (k : Int) < 9223372036854775807 := by omega
            cases q
            · go_wp2_with fail
              go_ret
              refine TB.no (fun z => ?_) H.out.2.1
              have := H.out.1.2 ⟨(hisT.out.1 z).1, fun y hy => (hisT.out.1 z).2 y (List.mem_of_mem_take hy)⟩
              cases this
            · obtain ⟨b, o, c, he, hbl, hlc, hcm, ns', ls', hrg, hrd⟩ := hr'.out.at k hkl
              have he' := Value.slice.inj he
              obtain ⟨rfl, _, rfl⟩ := he'
              clear he
              obtain ⟨q0, q1, q2⟩ := range3 (rangeAt_below hrg H.out.2.1 hbl)
              have hrd' := hide (hrd.below H.out.2.1)
              obtain ⟨a1, m1, d1, a2, m2, d2, rfl, rfl⟩ := hrd.shape
              clear hrg hrd
              obtain ⟨bk, hbk⟩ := tells (IsT n l[k])
              have hcall := hide (Calls.tb (ih'.out l[k] (.slice a1 m1 d1) (.slice a2 m2 d2) wr hrd'.out (hz'.out.2.2 _ (List.getElem_mem _))) hbk)
              have hbk' := hide hbk
              clear hbk
              simp only at q0 q1 q2 hcall
              obtain ⟨hp, hhp⟩ : ∃ hp, thd n l[k] = hp := ⟨_, rfl⟩
              rw [hhp] at q0 hcall
              simp only [tvs] at hcall
              clear hhp
              go_wp2_with fail
              refine hcall.out.mono ?_
              rintro e w3 ⟨rfl, hb3⟩
              have T3 := hide hb3
              clear hb3
              go_wp2_with fail
              refine ⟨⟨k + 1, bk, rfl, by go_num, by omega, ⟨fun z => ⟨(H.out.1.1 (by simp)).1, mem_take_more hkl (H.out.1.1 (by simp)).2 (hbk'.out.1 z)⟩, fun z => hbk'.out.2 (z.2 _ (by rw [List.take_succ_eq_append_getElem hkl]; exact List.mem_append_right _ (by simp)))⟩, below_then H.out.2.1 T3.out, H.out.2.2.below T3.out⟩, by simp [intOf]; omega⟩
          · have hki : ¬ ((k : Int) < (l.length : Int)) := by omega
            have hE := hide (show l.take k = l from List.take_of_length_le (by omega))
            cases q
            · go_wp2_with fail
              go_ret
              refine TB.no (fun z => ?_) H.out.2.1
              have := H.out.1.2 ⟨(hisT.out.1 z).1, fun y hy => (hisT.out.1 z).2 y (List.mem_of_mem_take hy)⟩
              cases this
            · go_wp2_with fail
              go_ret
              refine TB.yes (hisT.out.2 ?_) H.out.2.1
              have := H.out.1.1 (by simp)
              rw [hE.out] at this
              exact this
    · have hq : Hid (¬ (TFil ⟨hk, hm⟩ l.length)) := fun z => by have := k9h.out; have := k10h.out; have := k11h.out; rcases z with ⟨z1, z2, z3⟩ | ⟨z1, z2, z3⟩ | ⟨z1, z2, z3, z4⟩ <;> simp only at z1 z2 z3 <;> omega
      go_enter Tryd.func36, Tryd.ntmps36
      go_wp2_with fail
      go_loopw [3, 4] (fun ok i w' => ∃ (k : Nat) (q : Bool), ok = .bool q ∧ i = .int .i64 k ∧ k ≤ l.length ∧ Hid ((q = true ↔ TFil ⟨hk, hm⟩ l.length ∧ ∀ y ∈ l.take k, IsT n y) ∧ Below w.heap.size w w' ∧ Tx w' w.heap.size ⟨hk, hm⟩ (.slice an hm.length cn) (.slice al l.length cl))) (fun _ i _ => l.length - (intOf i).toNat)
      case atStart => exact ⟨0, false, rfl, rfl, Nat.zero_le _, ⟨(fun q => by cases q), fun q => absurd q.1 hq.out⟩, hb0.out _, hB0.out⟩
      case round =>
        obtain ⟨k, q, rfl, rfl, hk', H⟩ := hrel
        obtain ⟨c0, c1, c2⟩ := H.out.2.2.cells
        by_cases hkl : k < l.length
        · have hki : (k : Int) < (l.length : Int) := by omega
          have hk63 : (k : Int) < 9223372036854775807 := by omega
          cases q
          · go_wp2_with fail
            go_ret
            refine TB.no (fun z => ?_) H.out.2.1
            have := H.out.1.2 ⟨(hisT.out.1 z).1, fun y hy => (hisT.out.1 z).2 y (List.mem_of_mem_take hy)⟩
            cases this
          · obtain ⟨b, o, c, he, hbl, hlc, hcm, ns', ls', hrg, hrd⟩ := hr'.out.at k hkl
            have he' := Value.slice.inj he
            obtain ⟨rfl, _, rfl⟩ := he'
            clear he
            obtain ⟨q0, q1, q2⟩ := range3 (rangeAt_below hrg H.out.2.1 hbl)
            have hrd' := hide (hrd.below H.out.2.1)
            obtain ⟨a1, m1, d1, a2, m2, d2, rfl, rfl⟩ := hrd.shape
            clear hrg hrd
            obtain ⟨bk, hbk⟩ := tells (IsT n l[k])
            have hcall := hide (Calls.tb (ih'.out l[k] (.slice a1 m1 d1) (.slice a2 m2 d2) wr hrd'.out (hz'.out.2.2 _ (List.getElem_mem _))) hbk)
            have hbk' := hide hbk
            clear hbk
            simp only at q0 q1 q2 hcall
            obtain ⟨hp, hhp⟩ : ∃ hp, thd n l[k] = hp := ⟨_, rfl⟩
            rw [hhp] at q0 hcall
            simp only [tvs] at hcall
            clear hhp
            go_wp2_with fail
            refine hcall.out.mono ?_
            rintro e w3 ⟨rfl, hb3⟩
            have T3 := hide hb3
            clear hb3
            go_wp2_with fail
            refine ⟨⟨k + 1, bk, rfl, by go_num, by omega, ⟨fun z => ⟨(H.out.1.1 (by simp)).1, mem_take_more hkl (H.out.1.1 (by simp)).2 (hbk'.out.1 z)⟩, fun z => hbk'.out.2 (z.2 _ (by rw [List.take_succ_eq_append_getElem hkl]; exact List.mem_append_right _ (by simp)))⟩, below_then H.out.2.1 T3.out, H.out.2.2.below T3.out⟩, by simp [intOf]; omega⟩
        · have hki : ¬ ((k : Int) < (l.length : Int)) := by omega
          have hE := hide (show l.take k = l from List.take_of_length_le (by omega))
          cases q
          · go_wp2_with fail
            go_ret
            refine TB.no (fun z => ?_) H.out.2.1
            have := H.out.1.2 ⟨(hisT.out.1 z).1, fun y hy => (hisT.out.1 z).2 y (List.mem_of_mem_take hy)⟩
            cases this
          · go_wp2_with fail
            go_ret
            refine TB.yes (hisT.out.2 ?_) H.out.2.1
            have := H.out.1.1 (by simp)
            rw [hE.out] at this
            exact this
theorem sht_eq : ∀ (n : Nat) (x : TT n), IsT n x → (RSht n x ↔ TSht n x)
  | 0, x, _ => Empty.elim x
  | n + 1, x, ⟨hf, hk⟩ => by
    have h1 : x.1.names.length ≤ x.2.length := by rcases hf with ⟨_, q, _⟩ | ⟨_, q, _⟩ | ⟨_, _, q, _⟩ <;> omega
    have h2 : x.2.length ≤ x.1.names.length ∨ x.2.length ≤ 1 := by rcases hf with ⟨_, _, q⟩ | ⟨_, q, _⟩ | ⟨_, _, _, q⟩ <;> omega
    constructor
    · rintro ⟨a, b, c⟩
      exact ⟨by omega, b, fun y hy => (sht_eq n y (hk y hy)).1 (c y hy)⟩
    · rintro ⟨a, b, c⟩
      exact ⟨by omega, b, fun y hy => (sht_eq n y (hk y hy)).2 (c y hy)⟩
end Go.Proofs.YtolmbjeinilhlaaDoor
/- calamusref11.Check: walked. -/
namespace Go.Proofs.YtolmbjeinilhlaaDoor
open Go.RowKit Go.Maps
set_option linter.unusedSimpArgs false
set_option linter.unusedVariables false
set_option maxHeartbeats 1000000 in
set_option maxRecDepth 100000 in
theorem rtcheck_any (rv : RVal) (n : Nat) (x : TT n) (ns ls : Value) (w : World) (hr : TRd n w x ns ls) (E : Int) (hE : TChk n x E) :
    Calls Tryd.prog 16 #[.agg (tvs (thd n x) ns ls)] w fun e w' => e = .returned (.int .i64 E) ∧ Below w.heap.size w w' := by
  obtain ⟨a1, m1, d1, a2, m2, d2, rfl, rfl⟩ := hr.rd.shape
  obtain ⟨h, hh⟩ : ∃ h, thd n x = h := ⟨_, rfl⟩
  obtain ⟨b1, hb1⟩ := tells (IsT n x)
  obtain ⟨b2, hb2⟩ := tells (RSht n x)
  have hV := hide (fun o => Calls.tb (rformed_any rv n x (.slice a1 m1 d1) (.slice a2 m2 d2) (w.alloc o) (hr.rd.below (below_al (Below.refl _ _))) hr.sz) hb1)
  have hS := hide (fun W (hb : Below w.heap.size w W) => Calls.tb (rtshort_any n x (.slice a1 m1 d1) (.slice a2 m2 d2) W (hr.rd.below hb)) hb2)
  have hD := hide (fun W (hb : Below w.heap.size w W) => rtdepth_any n x (.slice a1 m1 d1) (.slice a2 m2 d2) W (hr.rd.below hb) hr.le)
  have hZ := hide (fun W (hb : Below w.heap.size w W) => rtsize_any n x (.slice a1 m1 d1) (.slice a2 m2 d2) W (hr.rd.below hb) hr.le)
  have hb0 : Hid (∀ o, Below w.heap.size w (w.alloc o)) := fun o => below_al (Below.refl _ _)
  obtain ⟨D, hDD⟩ : ∃ D, tdep n x = D := ⟨_, rfl⟩
  obtain ⟨Z, hZZ⟩ : ∃ Z, tsiz n x = Z := ⟨_, rfl⟩
  have hE' := hide (show (E = 110 ∧ b1 = false) ∨ (E = 2 ∧ b1 = true ∧ ¬ (b2 = true ∧ D ≤ 16 ∧ Z ≤ 4096)) ∨ (E = 0 ∧ b1 = true ∧ b2 = true ∧ D ≤ 16 ∧ Z ≤ 4096) by
    rcases hE with ⟨e, q⟩ | ⟨e, q, r⟩ | ⟨e, q, r⟩
    · refine Or.inl ⟨e, ?_⟩
      cases b1
      · rfl
      · exact absurd (hb1.1 rfl) q
    · refine Or.inr (Or.inl ⟨e, hb1.2 q, fun z => r ⟨(sht_eq n x q).1 (hb2.1 z.1), by rw [hDD]; exact z.2.1, by rw [hZZ]; exact z.2.2⟩⟩)
    · exact Or.inr (Or.inr ⟨e, hb1.2 q, hb2.2 ((sht_eq n x q).2 r.1), by rw [← hDD]; exact r.2.1, by rw [← hZZ]; exact r.2.2⟩))
  rw [hh] at hV hS hD hZ ⊢
  rw [hDD] at hD
  rw [hZZ] at hZ
  have hB0 := hide (tx_new w h (.slice a1 m1 d1) (.slice a2 m2 d2))
  clear hr rv hh hDD hZZ hE hb1 hb2
  show Calls _ _ #[.agg #[.int .i64 h.kind, .slice a1 m1 d1, .slice a2 m2 d2]] _ _
  cases b1
  · have e0 : E = 110 := by rcases hE'.out with ⟨q, _⟩ | ⟨_, q, _⟩ | ⟨_, q, _⟩; exact q; cases q; cases q
    subst e0
    go_enter Tryd.func16, Tryd.ntmps16
    go_wp2_with (go_at_call 36; refine (hV.out _).mono ?_; rintro e w1 ⟨rfl, hb1⟩)
    go_ret
    exact ⟨rfl, below_then (hb0.out _) hb1⟩
  · have hE2 := hide (show (E = 2 ∧ ¬ (b2 = true ∧ D ≤ 16 ∧ Z ≤ 4096)) ∨ (E = 0 ∧ b2 = true ∧ D ≤ 16 ∧ Z ≤ 4096) by
      rcases hE'.out with ⟨_, q⟩ | ⟨q, _, r⟩ | ⟨q, _, r⟩
      · cases q
      · exact Or.inl ⟨q, r⟩
      · exact Or.inr ⟨q, r⟩)
    clear hE'
    go_enter Tryd.func16, Tryd.ntmps16
    go_wp2_with fail
    refine (hV.out _).mono ?_
    rintro e w1 ⟨rfl, hb1⟩
    have hw1 := hide (below_then (hb0.out _) hb1)
    have hB1 := hide (hB0.out.below hb1)
    obtain ⟨c0, c1, c2⟩ := hB1.out.cells
    have hS1 := hide (hS.out w1 hw1.out)
    cases b2
    · have e0 : E = 2 := by rcases hE2.out with ⟨q, _⟩ | ⟨_, q, _⟩; exact q; cases q
      subst e0
      go_wp2_with (go_at_call 37; refine hS1.out.mono ?_; rintro e w2 ⟨rfl, hb2⟩)
      go_ret
      exact ⟨rfl, below_then hw1.out hb2⟩
    · have hE3 := hide (show (E = 2 ∧ ¬ (D ≤ 16 ∧ Z ≤ 4096)) ∨ (E = 0 ∧ D ≤ 16 ∧ Z ≤ 4096) by
        rcases hE2.out with ⟨q, r⟩ | ⟨q, _, r⟩
        · exact Or.inl ⟨q, fun s => r ⟨rfl, s⟩⟩
        · exact Or.inr ⟨q, r⟩)
      clear hE2
      go_wp2_with fail
      refine hS1.out.mono ?_
      rintro e w2 ⟨rfl, hb2⟩
      have hw2 := hide (below_then hw1.out hb2)
      have hB2 := hide (hB1.out.below hb2)
      clear c0 c1 c2
      obtain ⟨c0, c1, c2⟩ := hB2.out.cells
      have hD1 := hide (hD.out w2 hw2.out)
      by_cases hd : (16 : Int) < (D : Int)
      · have e0 : E = 2 := by rcases hE3.out with ⟨q, _⟩ | ⟨_, q, _⟩; exact q; omega
        subst e0
        go_wp2_with (go_at_call 38; refine hD1.out.mono ?_; rintro e w3 ⟨rfl, hb3⟩)
        go_ret
        exact ⟨rfl, below_then hw2.out hb3⟩
      · go_wp2_with fail
        refine hD1.out.mono ?_
        rintro e w3 ⟨rfl, hb3⟩
        have hw3 := hide (below_then hw2.out hb3)
        have hB3 := hide (hB2.out.below hb3)
        clear c0 c1 c2
        obtain ⟨c0, c1, c2⟩ := hB3.out.cells
        have hZ1 := hide (hZ.out w3 hw3.out)
        by_cases hz : (4096 : Int) < (Z : Int)
        · have e0 : E = 2 := by rcases hE3.out with ⟨q, _⟩ | ⟨_, _, q⟩; exact q; omega
          subst e0
          go_wp2_with (go_at_call 39; refine hZ1.out.mono ?_; rintro e w4 ⟨rfl, hb4⟩)
          go_ret
          exact ⟨rfl, below_then hw3.out hb4⟩
        · have e0 : E = 0 := by
            rcases hE3.out with ⟨_, q⟩ | ⟨q, _⟩
            · exact absurd ⟨by omega, by omega⟩ q
            · exact q
          subst e0
          go_wp2_with (go_at_call 39; refine hZ1.out.mono ?_; rintro e w4 ⟨rfl, hb4⟩)
          go_ret
          exact ⟨rfl, below_then hw3.out hb4⟩
end Go.Proofs.YtolmbjeinilhlaaDoor
