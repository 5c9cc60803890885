/- Merged by program: EuFlat, EvEvents, EwFlats, EyLists, EzLists. -/
import Derived.Test.YthbfopdeaknbkaaDoorEpFacts
import Derived.Test.YthbfopdeaknbkaaDoorEqAwake
import Derived.Test.YthbfopdeaknbkaaDoorXkVal
import Derived.BigQuiet
/- calamusref05.Flat, Flatten; calamuskeep.Events: walked. -/
namespace Go.Proofs.YthbfopdeaknbkaaDoor
open Go.RowKit
set_option linter.unusedSimpArgs false
set_option linter.unusedVariables false
section
variable {w : World} {ops : Array Oper} {rest : List Oper} {o : Oper} {a : Act} {Q : Exit → Act → World → Prop}
theorem app_e (hgd : o.guard = none) (s x : Operand) (ho : o.op = .call { callee := .builtin .append, args := #[s, x], argTypes := #[32, 32] })
    (B : Nat) (v : Value) (n : Nat) (es : List Hd) (hs : a.eval s = v) (hown : w.ownsRow B 42 7 v n (ecs es)) (ad : Addr) (m c : Nat) (hx : a.eval x = .slice (some ad) m c) (fs : List Hd) (hm : fs.length = m)
    (hnews : ∀ j u, (ecs fs)[j]? = some u → w.cell? (ad.add j) = some u) (hk : n + m ≤ 3000000) (hp : 0 < n + m) (hB : B ≤ w.heap.size)
    (h : ∀ g c' w', Hid (w'.ownsRow B 42 7 (.slice (some ⟨g, 0, none⟩) (n + m) c') (n + m) (ecs (es ++ fs))) → Hid (w.grownBy w' v.ownBlock) → wpList Tryd.prog ops Q rest (a.put o.dst (.slice (some ⟨g, 0, none⟩) (n + m) c')) w') : wpList Tryd.prog ops Q (o :: rest) a w := by
  obtain ⟨i0, hi, hz0, hz1, hz2⟩ := info_parts infoE
  refine wpList_append_own_at w hgd s x 32 ho B 42 i0 _ 7 72 Tryd.underlying32 hi hz0 hz1 hz2 rfl (by decide) v n (ecs es) hs hown ad m c (ecs fs) hx (by rw [ecs_len, hm]) hnews (ecs_cell _) (by unfold maxLen; omega) (by omega) hB ?_
  intro v' w' h1 h2 _ _
  rw [← ecs_app] at h1
  obtain ⟨k, hk'⟩ : ∃ k, n + m = k + 1 := ⟨n + m - 1, by omega⟩
  have h1' := h1
  rw [hk'] at h1'
  obtain ⟨g, c', rfl⟩ := ownsRow_succ h1'
  rw [← hk'] at h1' ⊢
  exact h g c' w' h1' h2
end
theorem ownsRow_base {W : World} {B B' T sz n : Nat} {v : Value} {xs : List Value} (h : W.ownsRow B T sz v n xs) (hb : B' ≤ B) : W.ownsRow B' T sz v n xs := by
  refine ⟨h.1, ?_⟩
  rcases h.2 with h0 | ⟨g, cap, cur, rfl, h1, h2⟩
  · exact Or.inl h0
  · exact Or.inr ⟨g, cap, cur, rfl, Nat.le_trans hb h1, h2⟩
theorem one_news (W : World) (h : Hd) : ∀ j u, (ecs [h])[j]? = some u → (W.alloc (.cells (evs h) 42)).cell? ((⟨W.heap.size, 0, none⟩ : Addr).add j) = some u := by
  rw [ecs_one]; exact ev_news W h
/-- What a list, a record, a tag has beside its Kind and Text is nought. -/
theorem isv_hd {n : Nat} {h : Hd} {l : List (VT n)} (hv : IsV (n + 1) (h, l)) (h7 : 7 ≤ h.kind) : hd0 h = { zr h.kind with text := h.text } := by
  obtain ⟨⟨b1, b2, b3, b4⟩, _, _⟩ := hv
  have e2 : (h.kind == 2) = false := by simp; omega
  have e3 : (h.kind == 3) = false := by simp; omega
  have e4 : (h.kind == 4) = false := by simp; omega
  have b3 : strip h = zr h.kind := b3
  have f1 := congrArg Hd.flag b3
  have f2 := congrArg Hd.neg b3
  have f3 := congrArg Hd.dig b3
  have f4 := congrArg Hd.exp b3
  have f5 := congrArg Hd.bits b3
  simp only [strip, zr, e2, e3, e4, cond_false] at f1 f2 f3 f4 f5
  unfold hd0 zr
  rw [f1, f2, f3, f4, f5]
set_option maxHeartbeats 4000000 in
set_option maxRecDepth 100000 in
theorem rflat_any : ∀ (n : Nat) (x : VT n) (ns ls : Value) (w : World), RD n w x ns ls → IsV n x → (fl n x).length ≤ 1000000 →
    Calls Tryd.prog 30 #[.agg (vals (vhd n x) ns ls)] w fun e w' => ∃ g c, e = .returned (.slice (some ⟨g, 0, none⟩) (fl n x).length c) ∧ Hid (w'.ownsRow w.heap.size 42 7 (.slice (some ⟨g, 0, none⟩) (fl n x).length c) (fl n x).length (ecs (fl n x))) ∧ Hid (Below w.heap.size w w') := by
  intro n
  induction n with
  | zero => intro x; exact Empty.elim x
  | succ n ih =>
    intro x ns ls w hr hv hlen
    obtain ⟨h, l⟩ := x
    obtain ⟨al, cl, rfl, hc1, hc2⟩ := hr.len
    obtain ⟨an, cn, rfl, hn1, hn2⟩ := hr.1.len
    have hr := hide hr
    have ih' := hide ih
    have hv' := hide hv
    have hlen' := hide hlen
    clear ih hv hlen
    have hk9 : h.kind ≤ 9 := hv'.out.1.2.1
    have ml : maxLen = 9223372036854775807 := rfl
    have hB0 := hide (bx_new w h (.slice an h.names.length cn) (.slice al l.length cl))
    simp only at hc1 hc2 hn1 hn2
    show Calls _ _ #[.agg #[.int .i64 h.kind, .bool h.flag, .bool h.neg, .string h.dig, .int .i64 h.exp, .int .u64 h.bits, .string h.text, .slice an h.names.length cn, .slice al l.length cl]] _ _
    by_cases h7 : h.kind < 7
    · have hfl : fl (n + 1) (h, l) = [hd0 h] := by rw [fl_succ, if_pos h7]
      rw [hfl]
      have nw := hide (fun W => one_news W (hd0 h))
      simp only [evs, hd0] at nw
      go_enter Tryd.func30, Tryd.ntmps30
      go_wp2_with (at_builtin; refine Stop.out ?_)
      refine Stop.mk ?_
      refine app_e rfl (.tmp 8) (.tmp 20) rfl w.heap.size (.slice none 0 0) 0 [] rfl (World.ownsRow_nil _ _ _ _) ⟨w.heap.size + 1, 0, none⟩ 1 1 rfl [hd0 h] rfl ?_ (by omega) (by omega) (by simp; omega) ?_
      · have := nw.out (w.alloc (.cells #[.int .i64 h.kind, .bool h.flag, .bool h.neg, .string h.dig, .int .i64 h.exp, .int .u64 h.bits, .string h.text, .slice an h.names.length cn, .slice al l.length cl] 29))
        rw [World.size_alloc] at this
        exact this
      intro g c' w1 ho hg
      have B1 : Hid (Below w.heap.size w w1) := (below_al (below_al (Below.refl _ _))).grown hg.out (by simp; omega) (fun k hk => by cases hk)
      go_wp2_with fail
      go_ret
      exact ⟨g, c', rfl, by simpa using ho, B1⟩
    · have hfl : fl (n + 1) (h, l) = hd0 h :: (kids n h l l.length ++ [evE]) := by rw [fl_succ, if_neg h7]
      have hdd := isv_hd hv'.out (by omega)
      have nw := hide (fun W => one_news W (hd0 h))
      rw [hdd] at nw
      simp only [evs, zr] at nw
      have hfll : (fl (n + 1) (h, l)).length = (kids n h l l.length).length + 2 := by rw [hfl]; simp
      have hkl := hide (fun k (hk : k ≤ l.length) => (kids_le n h l hk).length_le)
      have hbig : (kids n h l l.length).length ≤ 1000000 := by have := hlen'.out; omega
      rw [hfll]
      rw [hfl]
      clear hfll hfl
      obtain ⟨wB, hwB⟩ : ∃ wB, wB = w.alloc (.cells (vals h (.slice an h.names.length cn) (.slice al l.length cl)) 29) := ⟨_, rfl⟩
      have wb : Hid (∀ W, Below (w.heap.size + 1) wB W → Below w.heap.size w W) := fun W hb => by subst hwB; exact (below_al (Below.refl _ _)).trans (hb.mono (Nat.le_succ _))
      have zB : wB.heap.size = w.heap.size + 1 := by rw [hwB]; simp
      have hB1 := hide hB0.out
      rw [← hwB] at hB1
      have hwB' := hide hwB
      clear hwB hB0
      go_enter Tryd.func30, Tryd.ntmps30
      go_wp2_with (at_builtin; refine Stop.out ?_)
      refine Stop.mk ?_
      refine app_e rfl (.tmp 22) (.tmp 28) rfl (w.heap.size + 1) (.slice none 0 0) 0 [] rfl (World.ownsRow_nil _ _ _ _) ⟨w.heap.size + 1, 0, none⟩ 1 1 rfl [hd0 h] rfl ?_ (by omega) (by omega) (by simp) ?_
      · have := nw.out (w.alloc (.cells #[.int .i64 h.kind, .bool h.flag, .bool h.neg, .string h.dig, .int .i64 h.exp, .int .u64 h.bits, .string h.text, .slice an h.names.length cn, .slice al l.length cl] 29))
        rw [World.size_alloc] at this
        rw [hdd]
        exact this
      intro g1 c1 w1 ho1 hg1
      have L1 : Hid (Below (w.heap.size + 1) wB w1) := by rw [hwB'.out]; exact hide (((Below.refl _ _).alloc (by simp) _).grown hg1.out (by simp) (fun q hq => by cases hq))
      have O1 := hide ho1.out
      clear ho1 hg1 nw
      go_wp2_with fail
      go_loopw [3, 4] (fun u i W => ∃ k g c, i = .int .i64 (k : Nat) ∧ u = .slice (some ⟨g, 0, none⟩) ((kids n h l k).length + 1) c ∧ k ≤ l.length ∧ Hid (W.ownsRow (w.heap.size + 1) 42 7 (.slice (some ⟨g, 0, none⟩) ((kids n h l k).length + 1) c) ((kids n h l k).length + 1) (ecs (hd0 h :: kids n h l k)) ∧ Below (w.heap.size + 1) wB W)) (fun _ i _ => l.length - (intOf i).toNat)
      case atStart => exact ⟨0, g1, c1, rfl, rfl, Nat.zero_le _, hide ⟨by simpa [kids_zero] using O1.out, L1.out⟩⟩
      case round =>
        obtain ⟨k, gg, cc, rfl, rfl, hk, HH⟩ := hrel
        obtain ⟨ho, hL⟩ := HH.out
        have BX := hB1.out.low hL (Nat.lt_succ_self _)
        obtain ⟨c0, c1, c2, c3, c4, c5, c6, c7, c8⟩ := BX.cells
        have zr0 : w.heap.size + 1 ≤ wr.heap.size := by have := hL.size; omega
        have OR := hide ho
        have LR := hide hL
        have hkk := hkl.out k hk
        clear HH ho hL BX O1 L1
        by_cases hkl' : k < l.length
        · have hki : (k : Int) < (l.length : Int) := by omega
          obtain ⟨b, o, c, he, hbl, hlc, hcm, ns', ls', hrg, hrd⟩ := hr.out.at k hkl'
          have he' := Value.slice.inj he
          obtain ⟨rfl, _, rfl⟩ := he'
          clear he
          have hrd := hide hrd
          have hrg := hide hrg
          have hvk : Hid (IsV n l[k]) := hv'.out.2.2 _ (List.getElem_mem hkl')
          have hks := hide (kids_succ n h l k hkl')
          have hk1 := hkl.out (k + 1) hkl'
          have hlk : Hid ((fl n l[k]).length ≤ 1000000) := by
            have h1 := hks.out
            have := congrArg List.length h1
            simp only [List.length_append] at this
            show _ ≤ _
            omega
          have hlt : Hid ((kids n h l k).length + (fl n l[k]).length ≤ 1000000) := by
            have h1 := hks.out
            have := congrArg List.length h1
            simp only [List.length_append] at this
            show _ ≤ _
            omega
          by_cases h8 : h.kind = 8
          · have hkn : k < h.names.length := by have : h.names.length = l.length := (hv'.out.2.1.2.2.1 h8).1; omega
            obtain ⟨bn, on, cn', hen, hbn, hln, hcn, hsn⟩ := hr.out.1.at k hkn
            have hen' := Value.slice.inj hen
            obtain ⟨rfl, _, rfl⟩ := hen'
            clear hen
            obtain ⟨t, ht⟩ : ∃ t, h.names[k] = t := ⟨_, rfl⟩
            have s0 : wr.cell? ⟨bn, on + k, none⟩ = some (.string t) := by rw [← ht]; exact ((wb.out _ LR.out).cell (p := ⟨bn, on + k, none⟩) hbn).trans hsn
            have hp0 : preN h k = [evN t] := by unfold preN; rw [if_pos h8]; simp [hkn, ht]
            rw [hp0] at hks
            have hkni : (k : Int) < (h.names.length : Int) := by omega
            have q8 : (h.kind == 8) = true := by simpa using h8
            have q8' : decide (h.kind = 8) = true := by simpa using h8
            have nw := hide (one_news wr (evN t))
            simp only [evs, evN, zr] at nw
            have hbnw : bn < wr.heap.size := by omega
            have hblw : b < wr.heap.size := by omega
            have h8' := hide h8
            clear hsn hp0 h8
            go_wp2_with (at_builtin; refine Stop.out ?_)
            refine Stop.mk ?_
            refine app_e rfl (.tmp 40) (.tmp 47) rfl (w.heap.size + 1) (.slice (some ⟨gg, 0, none⟩) ((kids n h l k).length + 1) cc) ((kids n h l k).length + 1) (hd0 h :: kids n h l k) rfl (ownsRow_of OR.out fun q _ hq => (below_al (Below.refl _ _)).block q hq) ⟨wr.heap.size, 0, none⟩ 1 1 rfl [evN t] rfl nw.out (by omega) (by omega) (by simp; omega) ?_
            intro g2 c2' w2 ho2 hg2
            have c2 := c2'
            have LW : Hid (Below (w.heap.size + 1) wB w2) := (LR.out.alloc zr0 _).grown hg2.out (by simp; omega) (fun q hq => (World.ownsRow.lt OR.out q hq).1)
            have zW : w.heap.size + 1 ≤ w2.heap.size := by have := LW.out.size; omega
            have OW0 : w2.ownsRow (w.heap.size + 1) 42 7 (.slice (some ⟨g2, 0, none⟩) ((kids n h l k).length + 1 + 1) c2') ((kids n h l k).length + 1 + 1) (ecs (hd0 h :: (kids n h l k ++ [evN t]))) := by have := ho2.out; simpa using this
            have OW := hide OW0
            clear OW0
            obtain ⟨e0, e1, e2, e3, e4, e5, e6, e7, e8⟩ := range9 (rangeAt_below hrg.out (wb.out _ LW.out) hbl)
            have BX := hB1.out.low LW.out (Nat.lt_succ_self _)
            obtain ⟨b0, b1, b2, b3, b4, b5, b6, b7, b8⟩ := BX.cells
            obtain ⟨a1, m1, d1, a2, m2, d2, rfl, rfl⟩ := hrd.out.shape
            have hblw2 : b < w2.heap.size := by omega
            clear ho2 hg2 nw BX c0 c1 c2 c3 c4 c5 c6 c7 c8 s0 OR LR
            have cal := hide (ih'.out l[k] (.slice a1 m1 d1) (.slice a2 m2 d2) w2 (hrd.out.below (wb.out _ LW.out)) (hvk.out) hlk.out)
            obtain ⟨hk', hhk'⟩ : ∃ hk', vhd n l[k] = hk' := ⟨_, rfl⟩
            rw [hhk'] at cal e0 e1 e2 e3 e4 e5 e6
            simp only [vals] at cal
            go_wp2_with (go_at_call 30; refine Stop.out ?_)
            refine Stop.mk (cal.out.mono ?_)
            rintro e w3 ⟨g3, c3, rfl, ho3, hb3⟩
            have z3 := hb3.out.size
            have L3 := hide (LW.out.trans (hb3.out.mono zW))
            obtain ⟨F, hF⟩ : ∃ F, (fl n l[k]).length = F := ⟨_, rfl⟩
            rw [hF] at ho3 ⊢
            go_wp2_with (at_builtin; refine Stop.out ?_)
            refine Stop.mk ?_
            refine app_e rfl (.tmp 49) (.tmp 55) rfl (w.heap.size + 1) (.slice (some ⟨g2, 0, none⟩) ((kids n h l k).length + 1 + 1) c2') ((kids n h l k).length + 1 + 1) (hd0 h :: (kids n h l k ++ [evN t])) rfl (ownsRow_of OW.out fun q _ hq => hb3.out.block q hq) ⟨g3, 0, none⟩ F c3 rfl (fl n l[k]) hF (row_news ho3.out) (by have := hlt.out; have := hF; omega) (by omega) (by omega) ?_
            intro g4 c4 w4 ho4 hg4
            have L4 := hide (L3.out.grown hg4.out (by omega) (fun q hq => (World.ownsRow.lt OW.out q hq).1))
            clear cal ho3 hb3 hg4 L3
            go_wp2_with fail
            refine ⟨⟨k + 1, g4, c4, by go_num, ?_, by omega, hide ⟨?_, L4.out⟩⟩, by simp [intOf]; omega⟩
            · rw [hks.out]; simp only [List.length_append, List.length_cons, List.length_nil, hF]; congr 1; omega
            · have h1 := ho4.out
              have h2 : hd0 h :: (kids n h l k ++ [evN t]) ++ fl n l[k] = hd0 h :: kids n h l (k + 1) := by rw [hks.out]; simp
              rw [h2] at h1
              have h3 : ((kids n h l k).length + 1 + 1) + F = (kids n h l (k + 1)).length + 1 := by rw [hks.out]; simp only [List.length_append, List.length_cons, List.length_nil, hF]; omega
              rw [h3] at h1
              exact h1
          · have hp0 : preN h k = [] := if_neg h8
            rw [hp0] at hks
            have q8 : (h.kind == 8) = false := by simpa using h8
            have q8' : decide (h.kind = 8) = false := by simpa using h8
            have LW := LR
            have OW := OR
            have zW := zr0
            obtain ⟨e0, e1, e2, e3, e4, e5, e6, e7, e8⟩ := range9 (rangeAt_below hrg.out (wb.out _ LW.out) hbl)
            obtain ⟨a1, m1, d1, a2, m2, d2, rfl, rfl⟩ := hrd.out.shape
            have hblw : b < wr.heap.size := by omega
            have h8' := hide h8
            clear hp0 h8 OR LR
            have cal := hide (ih'.out l[k] (.slice a1 m1 d1) (.slice a2 m2 d2) wr (hrd.out.below (wb.out _ LW.out)) (hvk.out) hlk.out)
            obtain ⟨hk', hhk'⟩ : ∃ hk', vhd n l[k] = hk' := ⟨_, rfl⟩
            rw [hhk'] at cal e0 e1 e2 e3 e4 e5 e6
            simp only [vals] at cal
            go_wp2_with (go_at_call 30; refine Stop.out ?_)
            refine Stop.mk (cal.out.mono ?_)
            rintro e w3 ⟨g3, c3, rfl, ho3, hb3⟩
            have z3 := hb3.out.size
            have L3 := hide (LW.out.trans (hb3.out.mono zW))
            obtain ⟨F, hF⟩ : ∃ F, (fl n l[k]).length = F := ⟨_, rfl⟩
            rw [hF] at ho3 ⊢
            go_wp2_with (at_builtin; refine Stop.out ?_)
            refine Stop.mk ?_
            refine app_e rfl (.tmp 49) (.tmp 55) rfl (w.heap.size + 1) (.slice (some ⟨gg, 0, none⟩) ((kids n h l k).length + 1) cc) ((kids n h l k).length + 1) (hd0 h :: kids n h l k) rfl (ownsRow_of OW.out fun q _ hq => hb3.out.block q hq) ⟨g3, 0, none⟩ F c3 rfl (fl n l[k]) hF (row_news ho3.out) (by have := hlt.out; have := hF; omega) (by omega) (by omega) ?_
            intro g4 c4 w4 ho4 hg4
            have L4 := hide (L3.out.grown hg4.out (by omega) (fun q hq => (World.ownsRow.lt OW.out q hq).1))
            clear cal ho3 hb3 hg4 L3
            go_wp2_with fail
            refine ⟨⟨k + 1, g4, c4, by go_num, ?_, by omega, hide ⟨?_, L4.out⟩⟩, by simp [intOf]; omega⟩
            · rw [hks.out]; simp only [List.length_append, List.length_cons, List.length_nil, hF]; congr 1; omega
            · have h1 := ho4.out
              have h2 : hd0 h :: kids n h l k ++ fl n l[k] = hd0 h :: kids n h l (k + 1) := by rw [hks.out]; simp
              rw [h2] at h1
              have h3 : ((kids n h l k).length + 1) + F = (kids n h l (k + 1)).length + 1 := by rw [hks.out]; simp only [List.length_append, List.length_cons, List.length_nil, hF]; omega
              rw [h3] at h1
              exact h1
        · have hki : ¬ ((k : Int) < (l.length : Int)) := by omega
          have hkeq : k = l.length := by omega
          subst hkeq
          have nw := hide (one_news wr evE)
          simp only [evs, evE, zr] at nw
          go_wp2_with (at_builtin; refine Stop.out ?_)
          refine Stop.mk ?_
          refine app_e rfl (.tmp 57) (.tmp 59) rfl (w.heap.size + 1) (.slice (some ⟨gg, 0, none⟩) ((kids n h l l.length).length + 1) cc) ((kids n h l l.length).length + 1) (hd0 h :: kids n h l l.length) rfl (ownsRow_of OR.out fun q _ hq => (below_al (Below.refl _ _)).block q hq) ⟨wr.heap.size, 0, none⟩ 1 1 rfl [evE] rfl nw.out (by omega) (by omega) (by simp; omega) ?_
          intro g5 c5' w5 ho5 hg5
          have L5 := hide ((LR.out.alloc zr0 _).grown hg5.out (by simp; omega) (fun q hq => (World.ownsRow.lt OR.out q hq).1))
          go_wp2_with fail
          go_ret
          exact ⟨g5, c5', rfl, hide (ownsRow_base (by have := ho5.out; simpa using this) (Nat.le_succ _)), hide (wb.out _ L5.out)⟩
end Go.Proofs.YthbfopdeaknbkaaDoor
/- calamuskeep.Events: walked. -/
namespace Go.Proofs.YthbfopdeaknbkaaDoor
open Go.RowKit
set_option linter.unusedSimpArgs false
set_option linter.unusedVariables false
/-- A slice of events reads as es. -/
def ES (W : World) (v : Value) (es : List Hd) : Prop := ∃ a c, v = .slice a es.length c ∧ es.length ≤ c ∧ c ≤ maxLen ∧ (0 < es.length → ∃ b o, a = some ⟨b, o, none⟩ ∧ b < W.heap.size ∧ EL W b o es)
theorem ES.below {w W : World} {v : Value} {es : List Hd} (h : ES w v es) (hb : Below w.heap.size w W) : ES W v es := by
  obtain ⟨a, c, rfl, h1, h2, h3⟩ := h
  refine ⟨a, c, rfl, h1, h2, fun hp => ?_⟩
  obtain ⟨b, o, e, hlt, hel⟩ := h3 hp
  exact ⟨b, o, e, Nat.lt_of_lt_of_le hlt hb.size, hel.below hb hlt⟩
theorem ES.nil (w : World) : ES w (.slice none 0 0) [] := ⟨none, 0, rfl, Nat.le_refl _, by decide, fun h => by simp at h⟩
theorem ES.row {W : World} {B g n cap : Nat} {es : List Hd} (h : W.ownsRow B 42 7 (.slice (some ⟨g, 0, none⟩) n cap) n (ecs es)) (hn : n = es.length) : ES W (.slice (some ⟨g, 0, none⟩) n cap) es := by
  have hlt := (World.ownsRow.lt h g rfl).2
  have hel := el_row h hn
  rcases h.2 with ⟨h0, _⟩ | ⟨g', cap', cur, he, _, _, h1, h2, _⟩
  · cases h0
  · cases he
    subst hn
    exact ⟨_, _, rfl, h1, h2, fun _ => ⟨g, 0, rfl, hlt, hel⟩⟩
set_option maxHeartbeats 2000000 in
set_option maxRecDepth 100000 in
theorem events_any (va vb : Value) (es : List Hd) (w : World) (ha : ES w va es) (hb : ES w vb es) :
    Calls Tryd.prog 14 #[va, vb] w fun e w' => e = .returned (.bool true) ∧ Below w.heap.size w w' := by
  obtain ⟨aa, ca, rfl, ha1, ha2, ha3⟩ := ha
  obtain ⟨ab, cb, rfl, hb1, hb2, hb3⟩ := hb
  have ml : maxLen = 9223372036854775807 := rfl
  have ha3 := hide ha3
  have hb3 := hide hb3
  go_enter Tryd.func14, Tryd.ntmps14
  go_wp2_with fail
  go_loopw [5] (fun i W => ∃ k : Nat, i = .int .i64 k ∧ k ≤ es.length ∧ Hid (Below w.heap.size w W)) (fun i _ => es.length - (intOf i).toNat)
  case atStart => exact ⟨0, rfl, Nat.zero_le _, hide (Below.refl _ _)⟩
  case round =>
    obtain ⟨k, rfl, hk, hB⟩ := hrel
    by_cases hkl : k < es.length
    · have hki : (k : Int) < (es.length : Int) := by omega
      have hk63 : (k : Int) < 9223372036854775807 := by omega
      obtain ⟨b, o, rfl, hlt, hel⟩ := ha3.out (by omega)
      obtain ⟨b', o', rfl, hlt', hel'⟩ := hb3.out (by omega)
      obtain ⟨c0, c1, c2, c3, c4, c5, c6⟩ := range7 (rangeAt_below (hel k hkl) hB.out hlt)
      obtain ⟨d0, d1, d2, d3, d4, d5, d6⟩ := range7 (rangeAt_below (hel' k hkl) hB.out hlt')
      obtain ⟨h, hh⟩ : ∃ h, es[k] = h := ⟨_, rfl⟩
      rw [hh] at c0 c1 c2 c3 c4 c5 c6 d0 d1 d2 d3 d4 d5 d6
      have hkc : k < ca := by omega
      have hkc' : k < cb := by omega
      clear hel hel' ha3 hb3
      go_wp2_with fail
      go_region_with (fail)
      all_goals
        clear c0 c1 c2 c3 c4 c5 c6 d0 d1 d2 d3 d4 d5 d6 hh ha1 hb1 ha2 hb2 hkc hkc' hlt hlt'
        go_simp
        go_wp2_with fail
        exact ⟨⟨k + 1, by go_num, by omega, hide hB.out.drew⟩, by simp [intOf]; omega⟩
    · have hki : ¬ ((k : Int) < (es.length : Int)) := by omega
      go_wp2_with fail
      go_ret
      exact ⟨rfl, hB.out⟩
end Go.Proofs.YthbfopdeaknbkaaDoor
/- calamuslaw05.EventFlattens: walked. -/
namespace Go.Proofs.YthbfopdeaknbkaaDoor
open Go.RowKit
set_option linter.unusedSimpArgs false
set_option linter.unusedVariables false
set_option maxHeartbeats 2000000 in
set_option maxRecDepth 100000 in
/-- What the reference's Flatten answers. -/
theorem rflatten_any (n : Nat) (x : VT n) (ns ls : Value) (w : World) (hr : Rdy n w x ns ls) (E : Int) (hE : Chk n x E) :
    Calls Tryd.prog 12 #[.agg (vals (vhd n x) ns ls)] w fun e w' => ∃ v, e = .returned (.tuple #[v, .int .i64 E]) ∧ Below w.heap.size w w' ∧ Hid (ES w' v (if E = 0 then fl n x else [])) := by
  obtain ⟨a1, m1, d1, a2, m2, d2, rfl, rfl⟩ := hr.rd.shape
  have ck := hide (fun W (hb : Below w.heap.size w W) => rcheck_any rval n x (.slice a1 m1 d1) (.slice a2 m2 d2) W (hr.below hb) E hE)
  obtain ⟨h, hh⟩ : ∃ h, vhd n x = h := ⟨_, rfl⟩
  have hB0 := hide (bx_new w h (.slice a1 m1 d1) (.slice a2 m2 d2))
  by_cases h0 : E = 0
  · subst h0
    have hv : IsV n x ∧ Win n x := by rcases hE with ⟨h, _⟩ | ⟨h, _⟩ | ⟨_, h⟩ <;> first | exact h | cases h
    have hl := fl_len n x
    have hs := hv.2.2.2
    have hlen : (fl n x).length ≤ 1000000 := by omega
    have ft := hide (fun W (hb : Below w.heap.size w W) => rflat_any n x (.slice a1 m1 d1) (.slice a2 m2 d2) W (hr.rd.below hb) hv.1 hlen)
    rw [if_pos rfl]
    rw [hh] at ck ft ⊢
    simp only [vals] at ck ft ⊢
    clear hr hE hv hl hs hlen
    go_enter Tryd.func12, Tryd.ntmps12
    go_wp2_with (go_at_call 29; refine Stop.out ?_)
    refine Stop.mk ((ck.out _ (below_al (Below.refl _ _))).mono ?_)
    rintro e w1 ⟨rfl, hb1⟩
    have B1 := hide (below_then (below_al (Below.refl _ _)) hb1)
    obtain ⟨c0, c1, c2, c3, c4, c5, c6, c7, c8⟩ := (hB0.out.below hb1).cells
    clear hb1
    go_wp2_with (go_at_call 30; refine Stop.out ?_)
    refine Stop.mk ((ft.out _ B1.out).mono ?_)
    rintro e w2 ⟨g, c, rfl, ho, hb2⟩
    have R2 := hide (ES.row ho.out rfl)
    have B2 := hide (below_then B1.out hb2.out)
    go_wp2_with fail
    exact bodyPost_ret (v := .tuple #[.slice (some ⟨g, 0, none⟩) (fl n x).length c, .int .i64 0]) (by simp [results, Tryd.results12, go_sem]) rfl ⟨_, rfl, B2.out, R2⟩
  · rw [if_neg h0]
    rw [hh] at ck ⊢
    simp only [vals] at ck ⊢
    clear hr hE
    go_enter Tryd.func12, Tryd.ntmps12
    go_wp2_with (go_at_call 29; refine Stop.out ?_)
    refine Stop.mk ((ck.out _ (below_al (Below.refl _ _))).mono ?_)
    rintro e w1 ⟨rfl, hb1⟩
    have B1 := hide (below_then (below_al (Below.refl _ _)) hb1)
    obtain ⟨c0, c1, c2, c3, c4, c5, c6, c7, c8⟩ := (hB0.out.below hb1).cells
    clear hb1
    go_wp2_with fail
    exact bodyPost_ret (v := .tuple #[.slice none 0 0, .int .i64 E]) (by simp [results, Tryd.results12, go_sem]) rfl ⟨_, rfl, B1.out, hide (ES.nil _)⟩
/-- Flatten's answer as a slice that reads. -/
theorem flatten_es (n : Nat) (x : VT n) (ns ls : Value) (w : World) (hr : Rdy n w x ns ls) (g : Ut.Gu w) (E : Int) (hE : Chk n x E) :
    Calls Tryd.prog 11 #[.agg (vals (vhd n x) ns ls)] w fun e w' => ∃ v, e = .returned (.tuple #[v, .int .i64 E]) ∧ Below w.heap.size w w' ∧ Hid (ES w' v (if E = 0 then fl n x else [])) := by
  refine (flat_any n x ns ls w hr g E hE).mono ?_
  rintro e w' ⟨v, rfl, hb, h0, h1⟩
  refine ⟨v, rfl, hb, ?_⟩
  by_cases e0 : E = 0
  · rw [if_pos e0]
    have ho := h0 e0
    obtain ⟨k, hk⟩ : ∃ k, (fl n x).length = k + 1 := ⟨(fl n x).length - 1, by have := fl_pos n x; omega⟩
    have ho' := ho
    rw [hk] at ho'
    obtain ⟨g', c', rfl⟩ := ownsRow_succ ho'
    rw [← hk] at ho ⊢
    exact hide (ES.row ho rfl)
  · rw [if_neg e0, h1 e0]
    exact hide (ES.nil _)
/-- Where EventFlattens stands: the struct, and its copy. -/
structure Fx (w : World) (n : Nat) (x : VT n) (h : Hd) (ns ls ns2 ls2 : Value) (i2 : Nat) (W : World) : Prop where
  below : Below w.heap.size w W
  ba : Bx W w.heap.size h ns ls
  bb : Bx W i2 h ns2 ls2
  rd : RD n W x ns2 ls2
theorem Fx.then {w W W1 : World} {n i2 : Nat} {x : VT n} {h : Hd} {ns ls ns2 ls2 : Value} (c : Fx w n x h ns ls ns2 ls2 i2 W) (hb : Below W.heap.size W W1) : Fx w n x h ns ls ns2 ls2 i2 W1 :=
  ⟨below_then c.below hb, c.ba.below hb, c.bb.below hb, c.rd.below hb⟩
theorem es_shape {W : World} {v : Value} {es : List Hd} (h : ES W v es) : ∃ a c, v = .slice a es.length c := by
  obtain ⟨a, c, rfl, _⟩ := h
  exact ⟨a, c, rfl⟩
set_option maxHeartbeats 4000000 in
set_option maxRecDepth 100000 in
theorem flattens_law (n : Nat) (x : VT n) (ns ls : Value) (w : World) (hr : RD n w x ns ls) (hz : Sz n x) (g : Ut.Gu w) :
    Calls Tryd.prog 3 #[.agg (vals (vhd n x) ns ls)] w fun e w' => e = .returned (.bool true) ∧ Below w.heap.size w w' := by
  obtain ⟨a1, m1, d1, a2, m2, d2, rfl, rfl⟩ := hr.shape
  obtain ⟨h, hh⟩ : ∃ h, vhd n x = h := ⟨_, rfl⟩
  have hbig := hide (fun o => Go.Proofs.YthbfopdeaknbkaaDoor.big_any n x (.slice a1 m1 d1) (.slice a2 m2 d2) (w.alloc o) (hr.below (below_al (Below.refl _ _))) hz)
  have hB0 := hide (bx_new w h (.slice a1 m1 d1) (.slice a2 m2 d2))
  have hb0 : Hid (∀ o, Below w.heap.size w (w.alloc o)) := fun o => below_al (Below.refl _ _)
  have hcp := hide (fun W (hb : Below w.heap.size w W) (hk : blk n x ≤ 65536) => copy_any n x _ _ W (hr.below hb) (by omega))
  replace hr := hide hr
  replace hz := hide hz
  replace g := hide g
  have hh' := hide hh
  rw [hh] at hbig hcp ⊢
  clear hh
  simp only [vals] at hcp hbig
  show Calls _ _ #[.agg #[.int .i64 h.kind, .bool h.flag, .bool h.neg, .string h.dig, .int .i64 h.exp, .int .u64 h.bits, .string h.text, .slice a1 m1 d1, .slice a2 m2 d2]] _ _
  go_enter Tryd.func3, Tryd.ntmps3
  go_wp2_with (go_at_call 9; refine Stop.out ?_)
  refine Stop.mk ((hbig.out _).mono ?_)
  rintro e w1 ⟨bb, rfl, hsm, hb1⟩
  have hw1 := hide (below_then (hb0.out _) hb1)
  have hB1 := hide (hB0.out.below hb1)
  clear hb1 hbig hB0
  cases bb
  · have hblk := hide (hsm.out rfl)
    obtain ⟨c0, c1, c2, c3, c4, c5, c6, c7, c8⟩ := hB1.out.cells
    go_wp2_with (go_at_call 10; refine Stop.out ?_)
    refine Stop.mk ((hcp.out _ hw1.out hblk.out.1).mono ?_)
    rintro e w2 ⟨ns2, ls2, rfl, hk2, hb2⟩
    obtain ⟨e1, e2, e3, e4, e5, e6, rfl, rfl⟩ := hk2.out.rd.shape
    clear c0 c1 c2 c3 c4 c5 c6 c7 c8
    have C2 : Hid (Fx w n x h (.slice a1 m1 d1) (.slice a2 m2 d2) (.slice e1 e2 e3) (.slice e4 e5 e6) w2.heap.size (w2.alloc (.cells (vals h (.slice e1 e2 e3) (.slice e4 e5 e6)) 29))) :=
      ⟨below_al (below_then hw1.out hb2), (hB1.out.below hb2).below (below_al (Below.refl _ _)), bx_new _ _ _ _, hk2.out.rd.below (below_al (Below.refl _ _))⟩
    clear hb2 hk2 hB1 hw1 hcp
    obtain ⟨E, hE⟩ := chk_ex n x
    have hsz : siz n x ≤ 65536 := Nat.le_trans (siz_blk n x) hblk.out.1
    have k1 := hide (fun W (c : Fx w n x h (.slice a1 m1 d1) (.slice a2 m2 d2) (.slice e1 e2 e3) (.slice e4 e5 e6) w2.heap.size W) => flatten_es n x _ _ W ⟨c.rd, hz.out, by omega⟩ (g.out.below c.below) E hE)
    have k2 := hide (fun W (c : Fx w n x h (.slice a1 m1 d1) (.slice a2 m2 d2) (.slice e1 e2 e3) (.slice e4 e5 e6) w2.heap.size W) => rflatten_any n x _ _ W ⟨hr.out.below c.below, hz.out, by omega⟩ E hE)
    have k7 := hide (fun W (c : Fx w n x h (.slice a1 m1 d1) (.slice a2 m2 d2) (.slice e1 e2 e3) (.slice e4 e5 e6) w2.heap.size W) => Calls.tb (b := true) (requal_any n x x _ _ _ _ W c.rd (hr.out.below c.below)) (by simp))
    rw [hh'.out] at k1 k2 k7
    simp only [vals] at k1 k2 k7
    obtain ⟨es, hes⟩ : ∃ es, (if E = 0 then fl n x else []) = es := ⟨_, rfl⟩
    rw [hes] at k1 k2
    clear hE hsz hes hblk hsm
    go_wp2_with (go_at_call 11; refine Stop.out ?_)
    refine Stop.mk ((k1.out _ C2.out).mono ?_)
    rintro e w3 ⟨v3, rfl, hb3, hs3⟩
    obtain ⟨b1, b2, rfl⟩ := es_shape hs3.out
    have C3 := hide (C2.out.then hb3)
    clear hb3 C2
    obtain ⟨p0, p1, p2, p3, p4, p5, p6, p7, p8⟩ := C3.out.ba.cells
    have zb := C3.out.bb.lt
    go_wp2_with (go_at_call 12; refine Stop.out ?_)
    refine Stop.mk ((k2.out _ C3.out).mono ?_)
    rintro e w4 ⟨v4, rfl, hb4, hs4⟩
    obtain ⟨b3, b4, rfl⟩ := es_shape hs4.out
    have C4 := hide (C3.out.then hb4)
    have S3 := hide (hs3.out.below hb4)
    clear hb4 C3 hs3 p0 p1 p2 p3 p4 p5 p6 p7 p8
    have aw := hide (awake_any w4 (g.out.below C4.out.below))
    go_wp2_with (go_at_call 13; refine Stop.out ?_)
    refine Stop.mk (aw.out.mono ?_)
    rintro e w5 ⟨rfl, hb5⟩
    have C5 := hide (C4.out.then hb5)
    have ev := hide (events_any _ _ es w5 (S3.out.below hb5) (hs4.out.below hb5))
    clear hb5 C4 S3 hs4 aw
    have hEE : (E == E) = true := by simp
    go_wp2_with (go_at_call 14; refine Stop.out ?_)
    refine Stop.mk (ev.out.mono ?_)
    rintro e w6 ⟨rfl, hb6⟩
    have C6 := hide (C5.out.then hb6)
    clear hb6 C5 ev
    obtain ⟨p0, p1, p2, p3, p4, p5, p6, p7, p8⟩ := C6.out.ba.cells
    obtain ⟨q0, q1, q2, q3, q4, q5, q6, q7, q8⟩ := C6.out.bb.cells
    go_wp2_with (go_at_call 15; refine Stop.out ?_)
    refine Stop.mk ((k7.out _ C6.out).mono ?_)
    rintro e w7 ⟨rfl, hb7⟩
    have B7 := hide (below_then C6.out.below hb7)
    clear hb7
    go_wp2_with fail
    go_ret
    exact ⟨rfl, B7.out⟩
  · go_wp2_with fail
    go_ret
    exact ⟨rfl, hw1.out⟩
end Go.Proofs.YthbfopdeaknbkaaDoor
/- calamuslaw05.EventLists: walked. -/
namespace Go.Proofs.YthbfopdeaknbkaaDoor
open Go.RowKit
set_option linter.unusedSimpArgs false
set_option linter.unusedVariables false
set_option maxHeartbeats 2000000 in
set_option maxRecDepth 100000 in
theorem events_q (va vb : Value) (es : List Hd) (w : World) (ha : ES w va es) (hb : ES w vb es) :
    Calls Tryd.prog 14 #[va, vb] w fun e w' => e = .returned (.bool true) ∧ ∃ m, w' = w.drewN m := by
  obtain ⟨aa, ca, rfl, ha1, ha2, ha3⟩ := ha
  obtain ⟨ab, cb, rfl, hb1, hb2, hb3⟩ := hb
  have ml : maxLen = 9223372036854775807 := rfl
  have ha3 := hide ha3
  have hb3 := hide hb3
  go_enter Tryd.func14, Tryd.ntmps14
  go_wp2_with fail
  go_loopw [5] (fun i W => ∃ k : Nat, i = .int .i64 k ∧ k ≤ es.length ∧ Hid (∃ m, W = w.drewN m)) (fun i _ => es.length - (intOf i).toNat)
  case atStart => exact ⟨0, rfl, Nat.zero_le _, hide ⟨0, rfl⟩⟩
  case round =>
    obtain ⟨k, rfl, hk, hB⟩ := hrel
    by_cases hkl : k < es.length
    · have hki : (k : Int) < (es.length : Int) := by omega
      have hk63 : (k : Int) < 9223372036854775807 := by omega
      obtain ⟨b, o, rfl, hlt, hel⟩ := ha3.out (by omega)
      obtain ⟨b', o', rfl, hlt', hel'⟩ := hb3.out (by omega)
      have hBB : Below w.heap.size w wr := by obtain ⟨m, rfl⟩ := hB.out; exact ⟨rfl, rfl, rfl, Nat.le_refl _, fun _ _ => rfl⟩
      obtain ⟨c0, c1, c2, c3, c4, c5, c6⟩ := range7 (rangeAt_below (hel k hkl) hBB hlt)
      obtain ⟨d0, d1, d2, d3, d4, d5, d6⟩ := range7 (rangeAt_below (hel' k hkl) hBB hlt')
      obtain ⟨h, hh⟩ : ∃ h, es[k] = h := ⟨_, rfl⟩
      rw [hh] at c0 c1 c2 c3 c4 c5 c6 d0 d1 d2 d3 d4 d5 d6
      have hkc : k < ca := by omega
      have hkc' : k < cb := by omega
      clear hel hel' ha3 hb3 hBB
      go_wp2_with fail
      go_region_with (fail)
      all_goals
        clear c0 c1 c2 c3 c4 c5 c6 d0 d1 d2 d3 d4 d5 d6 hh ha1 hb1 ha2 hb2 hkc hkc' hlt hlt'
        go_simp
        go_wp2_with fail
        exact ⟨⟨k + 1, by go_num, by omega, by obtain ⟨m, rfl⟩ := hB.out; exact hide ⟨m + 1, rfl⟩⟩, by simp [intOf]; omega⟩
    · have hki : ¬ ((k : Int) < (es.length : Int)) := by omega
      go_wp2_with fail
      go_ret
      exact ⟨rfl, hB.out⟩
/-- A tag's head. -/
def tg (s : ByteArray) : Hd := { zr 9 with text := s }
theorem isV_one7 (n : Nat) (x : VT n) : IsV (n + 1) ((zr 7, [x]) : VT (n + 1)) ↔ IsV n x := by
  constructor
  · intro h
    exact h.2.2 x (by show x ∈ [x]; simp)
  · intro h
    exact ⟨⟨(show (1 : Int) ≤ 7 by decide), (show (7 : Int) ≤ 9 by decide), rfl, Or.inl (show (7 : Int) ≤ 7 by decide)⟩, ⟨fun h => (by cases h), fun h => (by cases h), fun h => (by cases h), fun h => (by cases h)⟩, ex_one h⟩
theorem isV_one9 (n : Nat) (x : VT n) (s : ByteArray) : IsV (n + 1) ((tg s, [x]) : VT (n + 1)) → IsV n x := fun h => h.2.2 x (by show x ∈ [x]; simp)
theorem dep_one (n : Nat) (x : VT n) (h : Hd) : dep (n + 1) ((h, [x]) : VT (n + 1)) = dep n x + 1 := by
  show 1 + mxl [dep n x] = _
  simp [mxl]; omega
theorem siz_one (n : Nat) (x : VT n) (h : Hd) : siz (n + 1) ((h, [x]) : VT (n + 1)) = siz n x + 1 := by
  show 1 + suml [siz n x] = _
  simp [suml]; omega
theorem win_one (n : Nat) (x : VT n) (h : Hd) : Win (n + 1) ((h, [x]) : VT (n + 1)) → Win n x := by
  rintro ⟨h1, h2, h3⟩
  rw [dep_one] at h2
  rw [siz_one] at h3
  exact ⟨h1.2.2.2 x (by show x ∈ [x]; simp), by omega, by omega⟩
theorem chk_zero {n : Nat} {x : VT n} {E : Int} (h : Chk n x E) : E = 0 ↔ IsV n x ∧ Win n x := by
  rcases h with ⟨rfl, h⟩ | ⟨rfl, h, k⟩ | ⟨rfl, h, k⟩
  · exact ⟨fun q => (by cases q), fun q => absurd q.1 h⟩
  · exact ⟨fun q => (by cases q), fun q => absurd q.2 k⟩
  · exact ⟨fun _ => ⟨h, k⟩, fun _ => rfl⟩
theorem chk7 {n : Nat} {x : VT n} {E F : Int} (h : Chk n x E) (k : Chk (n + 1) ((zr 7, [x]) : VT (n + 1)) F) : (E ≠ 0 → F ≠ 0) ∧ (E = 0 → F = 0 ∨ F = 2) := by
  constructor
  · intro h0 hF
    obtain ⟨q1, q2⟩ := (chk_zero k).1 hF
    exact h0 ((chk_zero h).2 ⟨(isV_one7 n x).1 q1, win_one n x _ q2⟩)
  · intro h0
    obtain ⟨q1, q2⟩ := (chk_zero h).1 h0
    rcases k with ⟨rfl, r⟩ | ⟨rfl, _⟩ | ⟨rfl, _⟩
    · exact absurd ((isV_one7 n x).2 q1) r
    · exact Or.inr rfl
    · exact Or.inl rfl
theorem chk9 {n : Nat} {x : VT n} {s : ByteArray} {E F : Int} (h : Chk n x E) (k : Chk (n + 1) ((tg s, [x]) : VT (n + 1)) F) (h0 : E ≠ 0) : F ≠ 0 := by
  intro hF
  obtain ⟨q1, q2⟩ := (chk_zero k).1 hF
  exact h0 ((chk_zero h).2 ⟨isV_one9 n x s q1, win_one n x _ q2⟩)
theorem sz_one7 (n : Nat) (x : VT n) (h : Hd) (hn : h.names = []) (ht : h.text.size ≤ 281474976710656) (hd : h.dig.size ≤ 281474976710656) (k : Sz n x) : Sz (n + 1) ((h, [x]) : VT (n + 1)) :=
  ⟨ht, hd, by show h.names.length ≤ _; rw [hn]; simp, (by intro s hs; have : s ∈ h.names := hs; rw [hn] at this; cases this), ex_one k⟩
theorem rd_one {n : Nat} {W : World} {x : VT n} {ns ls : Value} (h : RD n W x ns ls) (hh : Hd) (hn : hh.names = []) : RD (n + 1) (W.alloc (.cells (vals (vhd n x) ns ls) 29)) ((hh, [x]) : VT (n + 1)) (.slice none 0 0) (.slice (some ⟨W.heap.size, 0, none⟩) 1 1) := by
  refine ⟨Or.inl ⟨rfl, hn⟩, Or.inr ⟨W.heap.size, 0, 1, none, rfl, Nat.le_refl _, by decide, fun _ => ⟨rfl, by simp⟩, fun i hi => ?_⟩⟩
  have hi0 : i = 0 := by have : i < 1 := hi; omega
  subst hi0
  exact ⟨ns, ls, (bx_new W (vhd n x) ns ls).range, h.below (below_al (Below.refl _ _))⟩
theorem fl_one (n : Nat) (x : VT n) (h : Hd) (h7 : ¬ h.kind < 7) (h8 : h.kind ≠ 8) : fl (n + 1) ((h, [x]) : VT (n + 1)) = hd0 h :: (fl n x ++ [evE]) := by
  rw [fl_succ, if_neg h7]
  have : kids n h [x] 1 = fl n x := by
    rw [kids_succ n h [x] 0 (by simp), kids_zero]
    unfold preN
    rw [if_neg h8]
    simp
  show hd0 h :: (kids n h [x] 1 ++ [evE]) = _
  rw [this]
/-- What Flatten gives, as the law wants it. -/
theorem flat_row (n : Nat) (x : VT n) (ns ls : Value) (w : World) (hr : Rdy n w x ns ls) (g : Ut.Gu w) (E : Int) (hE : Chk n x E) :
    Calls Tryd.prog 11 #[.agg (vals (vhd n x) ns ls)] w fun e w' => ∃ a k c, e = .returned (.tuple #[.slice a k c, .int .i64 E]) ∧ Below w.heap.size w w' ∧ Hid (E = 0 → k = (fl n x).length ∧ ∃ b, a = some ⟨b, 0, none⟩ ∧ b < w'.heap.size ∧ EL w' b 0 (fl n x) ∧ k ≤ c ∧ c ≤ maxLen) := by
  refine (flat_any n x ns ls w hr g E hE).mono ?_
  rintro e w' ⟨v, rfl, hb, h0, h1⟩
  by_cases e0 : E = 0
  · have ho := h0 e0
    obtain ⟨k, hk⟩ : ∃ k, (fl n x).length = k + 1 := ⟨(fl n x).length - 1, by have := fl_pos n x; omega⟩
    have ho' := ho
    rw [hk] at ho'
    obtain ⟨g', c', rfl⟩ := ownsRow_succ ho'
    rw [← hk] at ho
    refine ⟨_, _, _, rfl, hb, hide fun _ => ⟨hk.symm, g', rfl, (World.ownsRow.lt ho g' (by rw [hk]; rfl)).2, el_row (by rw [hk] at ho ⊢; exact ho) rfl, ?_⟩⟩
    rcases ho.2 with ⟨q, _⟩ | ⟨g2, cap', cur, he, _, _, q1, q2, _⟩
    · cases q
    · cases he
      exact ⟨by omega, q2⟩
  · exact ⟨none, 0, 0, by rw [h1 e0], hb, hide fun q => absurd q e0⟩
end Go.Proofs.YthbfopdeaknbkaaDoor
/- calamuslaw05.EventLists: the law. -/
namespace Go.Proofs.YthbfopdeaknbkaaDoor
open Go.RowKit
set_option linter.unusedSimpArgs false
set_option linter.unusedVariables false
/-- Where EventLists stands. -/
structure Lx (w : World) (h : Hd) (ns ls : Value) (W : World) : Prop where
  below : Below w.heap.size w W
  ba : Bx W w.heap.size h ns ls
theorem Lx.then {w W W1 : World} {h : Hd} {ns ls : Value} (c : Lx w h ns ls W) (hb : Below W.heap.size W W1) : Lx w h ns ls W1 := ⟨below_then c.below hb, c.ba.below hb⟩
theorem wp_any {P : Program} {c : Code} {Q : Exit → Act → World → Prop} {a : Act} {W : World} {m : Nat} (h : ∀ W5, (∃ m, W5 = W.drewN m) → Code.wp P c Q a W5) : Code.wp P c Q a (W.drewN m) := h _ ⟨m, rfl⟩
theorem dn_below {w W : World} (h : Below w.heap.size w W) (d : Nat) : Below w.heap.size w (W.drewN d) := h.trans ⟨rfl, rfl, rfl, Nat.le_refl _, fun _ _ => rfl⟩
set_option maxHeartbeats 4000000 in
set_option maxRecDepth 100000 in
theorem lists_law (n : Nat) (x : VT n) (ns ls : Value) (s : ByteArray) (w : World) (hr : RD n w x ns ls) (hz : Sz n x) (hs : s.size ≤ 281474976710656) (g : Ut.Gu w) :
    Calls Tryd.prog 8 #[.agg (vals (vhd n x) ns ls), .string s] w fun e w' => e = .returned (.bool true) ∧ Below w.heap.size w w' := by
  obtain ⟨a1, m1, d1, a2, m2, d2, rfl, rfl⟩ := hr.shape
  obtain ⟨h, hh⟩ : ∃ h, vhd n x = h := ⟨_, rfl⟩
  have hbig := hide (fun o => Go.Proofs.YthbfopdeaknbkaaDoor.big_any n x (.slice a1 m1 d1) (.slice a2 m2 d2) (w.alloc o) (hr.below (below_al (Below.refl _ _))) hz)
  have hB0 := hide (bx_new w h (.slice a1 m1 d1) (.slice a2 m2 d2))
  have hb0 : Hid (∀ o, Below w.heap.size w (w.alloc o)) := fun o => below_al (Below.refl _ _)
  replace hr := hide hr
  replace hz := hide hz
  replace g := hide g
  have hh' := hide hh
  rw [hh] at hbig ⊢
  clear hh
  simp only [vals] at hbig
  show Calls _ _ #[.agg #[.int .i64 h.kind, .bool h.flag, .bool h.neg, .string h.dig, .int .i64 h.exp, .int .u64 h.bits, .string h.text, .slice a1 m1 d1, .slice a2 m2 d2], .string s] _ _
  go_enter Tryd.func8, Tryd.ntmps8
  go_wp2_with (go_at_call 9; refine Stop.out ?_)
  refine Stop.mk ((hbig.out _).mono ?_)
  rintro e w1 ⟨bb, rfl, hsm, hb1⟩
  have L1 : Hid (Lx w h (.slice a1 m1 d1) (.slice a2 m2 d2) w1) := ⟨below_then (hb0.out _) hb1, hB0.out.below hb1⟩
  clear hb1 hbig hB0
  cases bb
  · have hblk := hide (hsm.out rfl)
    have hsz : siz n x ≤ 65536 := Nat.le_trans (siz_blk n x) hblk.out.1
    obtain ⟨E, hE⟩ := chk_ex n x
    obtain ⟨F, hF⟩ := chk_ex (n + 1) ((zr 7, [x]) : VT (n + 1))
    obtain ⟨G, hG⟩ := chk_ex (n + 1) ((tg s, [x]) : VT (n + 1))
    have q7 := chk7 hE hF
    have q9 := chk9 hE hG
    have k1 := hide (fun W (c : Lx w h (.slice a1 m1 d1) (.slice a2 m2 d2) W) => flat_row n x _ _ W ⟨hr.out.below c.below, hz.out, by omega⟩ (g.out.below c.below) E hE)
    have k2 := hide (fun W (c : Lx w h (.slice a1 m1 d1) (.slice a2 m2 d2) W) => flat_row (n + 1) ((zr 7, [x]) : VT (n + 1)) _ _ _ ⟨rd_one (hr.out.below c.below) (zr 7) rfl, sz_one7 n x (zr 7) rfl (by show 0 ≤ _; omega) (by show 0 ≤ _; omega) hz.out, by rw [siz_one]; omega⟩ (g.out.below (below_al c.below)) F hF)
    have k3 := hide (fun W (c : Lx w h (.slice a1 m1 d1) (.slice a2 m2 d2) W) => flat_row (n + 1) ((tg s, [x]) : VT (n + 1)) _ _ _ ⟨rd_one (hr.out.below c.below) (tg s) rfl, sz_one7 n x (tg s) rfl hs (by show 0 ≤ _; omega) hz.out, by rw [siz_one]; omega⟩ (g.out.below (below_al c.below)) G hG)
    obtain ⟨M, hM⟩ : ∃ M, fl (n + 1) ((zr 7, [x]) : VT (n + 1)) = M := ⟨_, rfl⟩
    obtain ⟨T, hT⟩ : ∃ T, fl (n + 1) ((tg s, [x]) : VT (n + 1)) = T := ⟨_, rfl⟩
    rw [hM] at k2
    rw [hT] at k3
    rw [hh'.out] at k1 k2 k3
    simp only [vals, vhd, zr, tg] at k1 k2 k3
    have fl7 : Hid (M = hd0 (zr 7) :: (fl n x ++ [evE])) := hM.symm.trans (fl_one n x (zr 7) (by decide) (by decide))
    have fl9 : Hid (T = hd0 (tg s) :: (fl n x ++ [evE])) := hT.symm.trans (fl_one n x (tg s) (show ¬ (9 : Int) < 7 by decide) (show (9 : Int) ≠ 8 by decide))
    clear hM hT
    have q7' := hide q7
    have q9' := hide q9
    have hfb : Hid (E = 0 → (fl n x).length ≤ 1000000) := fun e0 => by
      have := ((chk_zero hE).1 e0).2.2.2
      have := fl_len n x
      omega
    have hG3 : Hid (G = 0 ∨ G = 2 ∨ G = 40) := by rcases hG with ⟨q, _⟩ | ⟨q, _⟩ | ⟨q, _⟩; exact Or.inr (Or.inr q); exact Or.inr (Or.inl q); exact Or.inl q
    clear hE hF hG q7 q9 hsm hblk hsz
    obtain ⟨c0, c1, c2, c3, c4, c5, c6, c7, c8⟩ := L1.out.ba.cells
    by_cases hs1 : (1000 : Int) < (s.size : Int)
    · go_wp2_with fail
      go_ret
      exact ⟨rfl, L1.out.below⟩
    · go_wp2_with (go_at_call 11; refine Stop.out ?_)
      refine Stop.mk ((k1.out _ L1.out).mono ?_)
      rintro e w2 ⟨va, vk, vc, rfl, hb2, h2⟩
      have L2 := hide (L1.out.then hb2)
      clear hb2 L1 c0 c1 c2 c3 c4 c5 c6 c7 c8 k1
      obtain ⟨c0, c1, c2, c3, c4, c5, c6, c7, c8⟩ := L2.out.ba.cells
      go_wp2_with (go_at_call 11; refine Stop.out ?_)
      refine Stop.mk ((k2.out _ L2.out).mono ?_)
      rintro e w3 ⟨ma, mk, mc, rfl, hb3, h3⟩
      have B23 := hide (below_then (below_al (Below.refl _ _)) hb3)
      have L3 := hide (L2.out.then B23.out)
      clear hb3 L2 c0 c1 c2 c3 c4 c5 c6 c7 c8 k2
      obtain ⟨c0, c1, c2, c3, c4, c5, c6, c7, c8⟩ := L3.out.ba.cells
      go_wp2_with (go_at_call 11; refine Stop.out ?_)
      refine Stop.mk ((k3.out _ L3.out).mono ?_)
      rintro e w4 ⟨ta, tk, tc, rfl, hb4, h4⟩
      have B34 := hide (below_then (below_al (Below.refl _ _)) hb4)
      have L4 := hide (L3.out.then B34.out)
      clear hb4 L3 c0 c1 c2 c3 c4 c5 c6 c7 c8 k3
      have aw := hide (fun W (hb : Below w.heap.size w W) => awake_any W (g.out.below hb))
      by_cases e0 : E = 0
      · subst e0
        obtain ⟨rfl, gl, rfl, hgl, el, hlc, hlm⟩ := h2.out rfl
        obtain ⟨K, hK⟩ : ∃ K, (fl n x).length = K := ⟨_, rfl⟩
        have hKb : K ≤ 1000000 := by rw [← hK]; exact hfb.out rfl
        have hKp : 1 ≤ K := by rw [← hK]; exact fl_pos n x
        have SL : Hid (∀ W, Below w4.heap.size w4 W → ES W (.slice (some ⟨gl, 0, none⟩) K vc) (fl n x)) := fun W hb => ⟨_, _, by rw [hK], by rw [hK]; rw [hK] at hlc; exact hlc, hlm, fun _ => ⟨gl, 0, rfl, Nat.lt_of_lt_of_le hgl (Nat.le_trans B23.out.size (Nat.le_trans B34.out.size hb.size)), ((el.below B23.out hgl).below B34.out (Nat.lt_of_lt_of_le hgl B23.out.size)).below hb (Nat.lt_of_lt_of_le hgl (Nat.le_trans B23.out.size B34.out.size))⟩⟩
        rw [hK] at hlc ⊢
        have ml : maxLen = 9223372036854775807 := rfl
        have EE := hide (EB.new w4 evE)
        have hw1 : IntKind.i64.wrap ((K : Int) + 2) = (K : Int) + 2 := by rw [IntKind.wrap_i64] <;> omega
        have hw2 : IntKind.i64.wrap ((K : Int) + 2 - 1) = (K : Int) + 1 := by rw [IntKind.wrap_i64] <;> omega
        have hKc : ((K + 2 : Nat) : Int) = (K : Int) + 2 := by omega
        clear el hgl
        rcases q7'.out.2 rfl with f0 | f0
        · subst f0
          obtain ⟨rfl, gm, rfl, hgm, em, hmc, hmm⟩ := h3.out rfl
          rw [fl7.out] at em hmc ⊢
          have hL7 : (hd0 (zr 7) :: (fl n x ++ [evE])).length = K + 2 := by simp [hK]
          rw [hL7] at hmc ⊢
          have em4 : EL w4 gm 0 (hd0 (zr 7) :: (fl n x ++ [evE])) := em.below B34.out hgm
          have hgm4 : gm < w4.heap.size := Nat.lt_of_lt_of_le hgm B34.out.size
          have SM : Hid (∀ W, Below w4.heap.size w4 W → ES W (.slice (some ⟨gm, 7, none⟩) K (mc - 1)) (fl n x)) := fun W hb => ⟨_, _, by rw [hK], by omega, by omega, fun _ => ⟨gm, 7, rfl, Nat.lt_of_lt_of_le hgm4 hb.size, fun i hi => by
            have h1 := em4 (i + 1) (by simp; omega)
            rw [List.getElem_cons_succ, List.getElem_append_left hi] at h1
            have h2 := rangeAt_below h1 hb hgm4
            rw [show 7 + i * 7 = 0 + (i + 1) * 7 by omega]
            exact h2⟩⟩
          have ev := hide (fun W (hb : Below w4.heap.size w4 W) => events_q _ _ (fl n x) W (SM.out W hb) (SL.out W hb))
          obtain ⟨u0, u1, u2, u3, u4, u5, u6⟩ := range7 (em4 0 (by simp))
          have hlast := em4 (K + 1) (by simp [hK])
          have hle : (hd0 (zr 7) :: (fl n x ++ [evE]))[K + 1]'(by simp [hK]) = evE := by
            rw [List.getElem_cons_succ, List.getElem_append_right (by omega)]
            simp
          rw [hle] at hlast
          obtain ⟨y0, y1, y2, y3, y4, y5, y6⟩ := range7 hlast
          simp only [Nat.zero_add, Nat.zero_mul, List.getElem_cons_zero, hd0, zr, evE] at u0 u1 u2 u3 u4 u5 u6 y0 y1 y2 y3 y4 y5 y6
          clear em em4 hlast hle
          have ev2 := hide (fun d => ev.out ((w4.alloc (.cells #[.int .i64 11, .bool false, .bool false, .string ⟨#[]⟩, .int .i64 0, .int .u64 0, .string ⟨#[]⟩] 42)).drewN d) ((below_al (Below.refl _ _)).trans ⟨rfl, rfl, rfl, by simp [World.drewN], fun _ _ => rfl⟩))
          have g1 : ¬ (mc = 1) := by omega
          have g2 : K + 1 ≤ mc := by omega
          have g3 : (1 : Int) ≤ (K : Int) + 1 := by omega
          go_wp2_with fail
          go_quiet (first | (go_at_call 14; exact Calls.quiet_of (ev2.out _)))
          clear u0 u1 u2 u3 u4 u5 u6 y0 y1 y2 y3 y4 y5 y6 g1 g2 g3
          by_cases g0 : G = 0
          · subst g0
            obtain ⟨rfl, gt, rfl, hgt, et, htc, htm⟩ := h4.out rfl
            rw [fl9.out] at et htc ⊢
            have hL9 : (hd0 (tg s) :: (fl n x ++ [evE])).length = K + 2 := by simp [hK]
            rw [hL9] at htc ⊢
            have ST : Hid (∀ W, Below w4.heap.size w4 W → ES W (.slice (some ⟨gt, 7, none⟩) K (tc - 1)) (fl n x)) := fun W hb => ⟨_, _, by rw [hK], by omega, by omega, fun _ => ⟨gt, 7, rfl, Nat.lt_of_lt_of_le hgt hb.size, fun i hi => by
              have h1 := et (i + 1) (by simp; omega)
              rw [List.getElem_cons_succ, List.getElem_append_left hi] at h1
              have h2 := rangeAt_below h1 hb hgt
              rw [show 7 + i * 7 = 0 + (i + 1) * 7 by omega]
              exact h2⟩⟩
            have ev9 := hide (fun W (hb : Below w4.heap.size w4 W) => events_q _ _ (fl n x) W (ST.out W hb) (SL.out W hb))
            have t1 : ¬ (tc = 1) := by omega
            have t2 : K + 1 ≤ tc := by omega
            have t3 : (1 : Int) ≤ (K : Int) + 1 := by omega
            go_wp2_with fail
            refine wp_any fun W5 hW5 => ?_
            have hb5 : Below w4.heap.size w4 W5 := by obtain ⟨m5, rfl⟩ := hW5; exact (by repeat (first | exact Below.refl _ _ | refine dn_below ?_ _ | refine below_al ?_))
            have EE5 : EB W5 w4.heap.size evE := by obtain ⟨m5, rfl⟩ := hW5; exact EE.out
            obtain ⟨v0, v1, v2, v3, v4, v5, v6⟩ := range7 (rangeAt_below (et 0 (by simp)) hb5 hgt)
            have hlast := et (K + 1) (by simp [hK])
            have hle : (hd0 (tg s) :: (fl n x ++ [evE]))[K + 1]'(by simp [hK]) = evE := by
              rw [List.getElem_cons_succ, List.getElem_append_right (by omega)]
              simp
            rw [hle] at hlast
            obtain ⟨z0, z1, z2, z3, z4, z5, z6⟩ := range7 (rangeAt_below hlast hb5 hgt)
            obtain ⟨e0, e1, e2, e3, e4, e5, e6⟩ := EE5.cells
            simp only [Nat.zero_add, Nat.zero_mul, List.getElem_cons_zero, hd0, tg, zr, evE] at v0 v1 v2 v3 v4 v5 v6 z0 z1 z2 z3 z4 z5 z6 e0 e1 e2 e3 e4 e5 e6
            have hb5' := hide hb5
            have hgt5 : gt < W5.heap.size := Nat.lt_of_lt_of_le hgt hb5.size
            clear et hlast hle hW5 hb5 EE5
            go_quiet (first | (go_at_call 14; exact Calls.quiet_of (ev9.out _ (dn_below hb5'.out _))))
            have awr := hide (fun W (hb : Below w4.heap.size w4 W) => aw.out W (below_then L4.out.below hb))
            clear v0 v1 v2 v3 v4 v5 v6 z0 z1 z2 z3 z4 z5 z6 e0 e1 e2 e3 e4 e5 e6
            go_wp2_with (go_at_call 13; refine Stop.out ?_)
            refine Stop.mk ((awr.out _ (by repeat (first | exact hb5'.out | refine dn_below ?_ _))).mono ?_)
            rintro e w9 ⟨rfl, hb9⟩
            have B9 := hide (below_then (below_then L4.out.below (by repeat (first | exact hb5'.out | refine dn_below ?_ _))) hb9)
            clear hb9
            go_wp2_with fail
            go_ret
            exact ⟨rfl, B9.out⟩
          · have g3' : G = 2 ∨ G = 40 := by rcases hG3.out with q | q | q; exact absurd q g0; exact Or.inl q; exact Or.inr q
            rcases g3' with rfl | rfl
            all_goals
              go_wp2_with fail
              go_quiet (fail)
              have awr := hide (fun W (hb : Below w4.heap.size w4 W) => aw.out W (below_then L4.out.below hb))
              go_wp2_with (go_at_call 13; refine Stop.out ?_)
              refine Stop.mk ((awr.out _ (by repeat (first | exact Below.refl _ _ | refine dn_below ?_ _ | refine below_al ?_))).mono ?_)
              rintro e w9 ⟨rfl, hb9⟩
              have B9 := hide (below_then (below_then L4.out.below (by repeat (first | exact Below.refl _ _ | refine dn_below ?_ _ | refine below_al ?_))) hb9)
              clear hb9
              go_wp2_with fail
              go_ret
              exact ⟨rfl, B9.out⟩
        · subst f0
          go_wp2_with fail
          go_quiet (fail)
          by_cases g0 : G = 0
          · subst g0
            obtain ⟨rfl, gt, rfl, hgt, et, htc, htm⟩ := h4.out rfl
            rw [fl9.out] at et htc ⊢
            have hL9 : (hd0 (tg s) :: (fl n x ++ [evE])).length = K + 2 := by simp [hK]
            rw [hL9] at htc ⊢
            have ST : Hid (∀ W, Below w4.heap.size w4 W → ES W (.slice (some ⟨gt, 7, none⟩) K (tc - 1)) (fl n x)) := fun W hb => ⟨_, _, by rw [hK], by omega, by omega, fun _ => ⟨gt, 7, rfl, Nat.lt_of_lt_of_le hgt hb.size, fun i hi => by
              have h1 := et (i + 1) (by simp; omega)
              rw [List.getElem_cons_succ, List.getElem_append_left hi] at h1
              have h2 := rangeAt_below h1 hb hgt
              rw [show 7 + i * 7 = 0 + (i + 1) * 7 by omega]
              exact h2⟩⟩
            have ev9 := hide (fun W (hb : Below w4.heap.size w4 W) => events_q _ _ (fl n x) W (ST.out W hb) (SL.out W hb))
            have t1 : ¬ (tc = 1) := by omega
            have t2 : K + 1 ≤ tc := by omega
            have t3 : (1 : Int) ≤ (K : Int) + 1 := by omega
            go_wp2_with fail
            refine wp_any fun W5 hW5 => ?_
            have hb5 : Below w4.heap.size w4 W5 := by obtain ⟨m5, rfl⟩ := hW5; exact (by repeat (first | exact Below.refl _ _ | refine dn_below ?_ _ | refine below_al ?_))
            have EE5 : EB W5 w4.heap.size evE := by obtain ⟨m5, rfl⟩ := hW5; exact EE.out
            obtain ⟨v0, v1, v2, v3, v4, v5, v6⟩ := range7 (rangeAt_below (et 0 (by simp)) hb5 hgt)
            have hlast := et (K + 1) (by simp [hK])
            have hle : (hd0 (tg s) :: (fl n x ++ [evE]))[K + 1]'(by simp [hK]) = evE := by
              rw [List.getElem_cons_succ, List.getElem_append_right (by omega)]
              simp
            rw [hle] at hlast
            obtain ⟨z0, z1, z2, z3, z4, z5, z6⟩ := range7 (rangeAt_below hlast hb5 hgt)
            obtain ⟨e0, e1, e2, e3, e4, e5, e6⟩ := EE5.cells
            simp only [Nat.zero_add, Nat.zero_mul, List.getElem_cons_zero, hd0, tg, zr, evE] at v0 v1 v2 v3 v4 v5 v6 z0 z1 z2 z3 z4 z5 z6 e0 e1 e2 e3 e4 e5 e6
            have hb5' := hide hb5
            have hgt5 : gt < W5.heap.size := Nat.lt_of_lt_of_le hgt hb5.size
            clear et hlast hle hW5 hb5 EE5
            go_quiet (first | (go_at_call 14; exact Calls.quiet_of (ev9.out _ (dn_below hb5'.out _))))
            have awr := hide (fun W (hb : Below w4.heap.size w4 W) => aw.out W (below_then L4.out.below hb))
            clear v0 v1 v2 v3 v4 v5 v6 z0 z1 z2 z3 z4 z5 z6 e0 e1 e2 e3 e4 e5 e6
            go_wp2_with (go_at_call 13; refine Stop.out ?_)
            refine Stop.mk ((awr.out _ (by repeat (first | exact hb5'.out | refine dn_below ?_ _))).mono ?_)
            rintro e w9 ⟨rfl, hb9⟩
            have B9 := hide (below_then (below_then L4.out.below (by repeat (first | exact hb5'.out | refine dn_below ?_ _))) hb9)
            clear hb9
            go_wp2_with fail
            go_ret
            exact ⟨rfl, B9.out⟩
          · have g3' : G = 2 ∨ G = 40 := by rcases hG3.out with q | q | q; exact absurd q g0; exact Or.inl q; exact Or.inr q
            rcases g3' with rfl | rfl
            all_goals
              go_wp2_with fail
              go_quiet (fail)
              have awr := hide (fun W (hb : Below w4.heap.size w4 W) => aw.out W (below_then L4.out.below hb))
              go_wp2_with (go_at_call 13; refine Stop.out ?_)
              refine Stop.mk ((awr.out _ (by repeat (first | exact Below.refl _ _ | refine dn_below ?_ _ | refine below_al ?_))).mono ?_)
              rintro e w9 ⟨rfl, hb9⟩
              have B9 := hide (below_then (below_then L4.out.below (by repeat (first | exact Below.refl _ _ | refine dn_below ?_ _ | refine below_al ?_))) hb9)
              clear hb9
              go_wp2_with fail
              go_ret
              exact ⟨rfl, B9.out⟩
      · have f0 : F ≠ 0 := q7'.out.1 e0
        have g0 : G ≠ 0 := q9'.out e0
        have e1 : (E != 0) = true := by simpa using e0
        have f1 : (F != 0) = true := by simpa using f0
        have g1 : (G != 0) = true := by simpa using g0
        go_wp2_with (go_at_call 13; refine Stop.out ?_)
        refine Stop.mk ((aw.out _ L4.out.below).mono ?_)
        rintro e w5 ⟨rfl, hb5⟩
        have B5 := hide (below_then L4.out.below hb5)
        clear hb5
        go_wp2_with fail
        go_ret
        exact ⟨by simp [f1, g1], B5.out⟩
  · go_wp2_with fail
    go_ret
    exact ⟨rfl, L1.out.below⟩
end Go.Proofs.YthbfopdeaknbkaaDoor
