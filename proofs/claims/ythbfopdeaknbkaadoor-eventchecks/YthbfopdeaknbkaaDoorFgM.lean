/- Merged by program: EuFlat, EvEvents, EwFlats, EyLists, EzLists, FbParse, ElOne, FcRound, FdBuild, FeBig, FgRound, EsOpen, FfOpen. -/
import Derived.Test.YthbfopdeaknbkaaDoorEpFacts
import Derived.Test.YthbfopdeaknbkaaDoorEqAwake
import Derived.Test.YthbfopdeaknbkaaDoorXkVal
import Derived.BigQuiet
import Derived.Test.YthbfopdeaknbkaaDoorEmRun
import Derived.Test.YthbfopdeaknbkaaDoorElBuild
import Derived.Test.YthbfopdeaknbkaaDoorEaHead
import Derived.Test.YthbfopdeaknbkaaDoorWoOpen
/- calamusref05.Flat, Flatten; calamuskeep.Events: walked. -/
namespace Go.Proofs.YthbfopdeaknbkaaDoor
open Go.RowKit
set_option linter.unusedSimpArgs false
set_option linter.unusedVariables false
section
variable {w : World} {ops : Array Oper} {rest : List Oper} {o : Oper} {a : Act} {Q : Exit → Act → World → Prop}
theorem app_e (hgd : o.guard = none) (s x : Operand) (ho : o.op = .call { callee := .builtin .append, args := #[s, x], argTypes := #[32, 32] })
    (B : Nat) (v : Value) (n : Nat) (es : List Hd) (hs : a.eval s = v) (hown : w.ownsRow B 42 7 v n (ecs es)) (ad : Addr) (m c : Nat) (hx : a.eval x = .slice (some ad) m c) (fs : List Hd) (hm : fs.length = m)
    (hnews : ∀ j u, (ecs fs)[j]? = some u → w.cell? (ad.add j) = some u) (hk : n + m ≤ 3000000) (hp : 0 < n + m) (hB : B ≤ w.heap.size)
    (h : ∀ g c' w', Hid (w'.ownsRow B 42 7 (.slice (some ⟨g, 0, none⟩) (n + m) c') (n + m) (ecs (es ++ fs))) → Hid (w.grownBy w' v.ownBlock) → wpList Tryd.prog ops Q rest (a.put o.dst (.slice (some ⟨g, 0, none⟩) (n + m) c')) w') : wpList Tryd.prog ops Q (o :: rest) a w := by
  obtain ⟨i0, hi, hz0, hz1, hz2⟩ := info_parts infoE
  refine wpList_append_own_at w hgd s x 32 ho B 42 i0 _ 7 72 Tryd.underlying32 hi hz0 hz1 hz2 rfl (by decide) v n (ecs es) hs hown ad m c (ecs fs) hx (by rw [ecs_len, hm]) hnews (ecs_cell _) (by unfold maxLen; omega) (by omega) hB ?_
  intro v' w' h1 h2 _ _
  rw [← ecs_app] at h1
  obtain ⟨k, hk'⟩ : ∃ k, n + m = k + 1 := ⟨n + m - 1, by omega⟩
  have h1' := h1
  rw [hk'] at h1'
  obtain ⟨g, c', rfl⟩ := ownsRow_succ h1'
  rw [← hk'] at h1' ⊢
  exact h g c' w' h1' h2
end
theorem ownsRow_base {W : World} {B B' T sz n : Nat} {v : Value} {xs : List Value} (h : W.ownsRow B T sz v n xs) (hb : B' ≤ B) : W.ownsRow B' T sz v n xs := by
  refine ⟨h.1, ?_⟩
  rcases h.2 with h0 | ⟨g, cap, cur, rfl, h1, h2⟩
  · exact Or.inl h0
  · exact Or.inr ⟨g, cap, cur, rfl, Nat.le_trans hb h1, h2⟩
theorem one_news (W : World) (h : Hd) : ∀ j u, (ecs [h])[j]? = some u → (W.alloc (.cells (evs h) 42)).cell? ((⟨W.heap.size, 0, none⟩ : Addr).add j) = some u := by
  rw [ecs_one]; exact ev_news W h
/-- What a list, a record, a tag has beside its Kind and Text is nought. -/
theorem isv_hd {n : Nat} {h : Hd} {l : List (VT n)} (hv : IsV (n + 1) (h, l)) (h7 : 7 ≤ h.kind) : hd0 h = { zr h.kind with text := h.text } := by
  obtain ⟨⟨b1, b2, b3, b4⟩, _, _⟩ := hv
  have e2 : (h.kind == 2) = false := by simp; omega
  have e3 : (h.kind == 3) = false := by simp; omega
  have e4 : (h.kind == 4) = false := by simp; omega
  have b3 : strip h = zr h.kind := b3
  have f1 := congrArg Hd.flag b3
  have f2 := congrArg Hd.neg b3
  have f3 := congrArg Hd.dig b3
  have f4 := congrArg Hd.exp b3
  have f5 := congrArg Hd.bits b3
  simp only [strip, zr, e2, e3, e4, cond_false] at f1 f2 f3 f4 f5
  unfold hd0 zr
  rw [f1, f2, f3, f4, f5]
set_option maxHeartbeats 4000000 in
set_option maxRecDepth 100000 in
theorem rflat_any : ∀ (n : Nat) (x : VT n) (ns ls : Value) (w : World), RD n w x ns ls → IsV n x → (fl n x).length ≤ 1000000 →
    Calls Tryd.prog 30 #[.agg (vals (vhd n x) ns ls)] w fun e w' => ∃ g c, e = .returned (.slice (some ⟨g, 0, none⟩) (fl n x).length c) ∧ Hid (w'.ownsRow w.heap.size 42 7 (.slice (some ⟨g, 0, none⟩) (fl n x).length c) (fl n x).length (ecs (fl n x))) ∧ Hid (Below w.heap.size w w') := by
  intro n
  induction n with
  | zero => intro x; exact Empty.elim x
  | succ n ih =>
    intro x ns ls w hr hv hlen
    obtain ⟨h, l⟩ := x
    obtain ⟨al, cl, rfl, hc1, hc2⟩ := hr.len
    obtain ⟨an, cn, rfl, hn1, hn2⟩ := hr.1.len
    have hr := hide hr
    have ih' := hide ih
    have hv' := hide hv
    have hlen' := hide hlen
    clear ih hv hlen
    have hk9 : h.kind ≤ 9 := hv'.out.1.2.1
    have ml : maxLen = 9223372036854775807 := rfl
    have hB0 := hide (bx_new w h (.slice an h.names.length cn) (.slice al l.length cl))
    simp only at hc1 hc2 hn1 hn2
    show Calls _ _ #[.agg #[.int .i64 h.kind, .bool h.flag, .bool h.neg, .string h.dig, .int .i64 h.exp, .int .u64 h.bits, .string h.text, .slice an h.names.length cn, .slice al l.length cl]] _ _
    by_cases h7 : h.kind < 7
    · have hfl : fl (n + 1) (h, l) = [hd0 h] := by rw [fl_succ, if_pos h7]
      rw [hfl]
      have nw := hide (fun W => one_news W (hd0 h))
      simp only [evs, hd0] at nw
      go_enter Tryd.func30, Tryd.ntmps30
      go_wp2_with (at_builtin; refine Stop.out ?_)
      refine Stop.mk ?_
      refine app_e rfl (.tmp 8) (.tmp 20) rfl w.heap.size (.slice none 0 0) 0 [] rfl (World.ownsRow_nil _ _ _ _) ⟨w.heap.size + 1, 0, none⟩ 1 1 rfl [hd0 h] rfl ?_ (by omega) (by omega) (by simp; omega) ?_
      · have := nw.out (w.alloc (.cells #[.int .i64 h.kind, .bool h.flag, .bool h.neg, .string h.dig, .int .i64 h.exp, .int .u64 h.bits, .string h.text, .slice an h.names.length cn, .slice al l.length cl] 29))
        rw [World.size_alloc] at this
        exact this
      intro g c' w1 ho hg
      have B1 : Hid (Below w.heap.size w w1) := (below_al (below_al (Below.refl _ _))).grown hg.out (by simp; omega) (fun k hk => by cases hk)
      go_wp2_with fail
      go_ret
      exact ⟨g, c', rfl, by simpa using ho, B1⟩
    · have hfl : fl (n + 1) (h, l) = hd0 h :: (kids n h l l.length ++ [evE]) := by rw [fl_succ, if_neg h7]
      have hdd := isv_hd hv'.out (by omega)
      have nw := hide (fun W => one_news W (hd0 h))
      rw [hdd] at nw
      simp only [evs, zr] at nw
      have hfll : (fl (n + 1) (h, l)).length = (kids n h l l.length).length + 2 := by rw [hfl]; simp
      have hkl := hide (fun k (hk : k ≤ l.length) => (kids_le n h l hk).length_le)
      have hbig : (kids n h l l.length).length ≤ 1000000 := by have := hlen'.out; omega
      rw [hfll]
      rw [hfl]
      clear hfll hfl
      obtain ⟨wB, hwB⟩ : ∃ wB, wB = w.alloc (.cells (vals h (.slice an h.names.length cn) (.slice al l.length cl)) 29) := ⟨_, rfl⟩
      have wb : Hid (∀ W, Below (w.heap.size + 1) wB W → Below w.heap.size w W) := fun W hb => by subst hwB; exact (below_al (Below.refl _ _)).trans (hb.mono (Nat.le_succ _))
      have zB : wB.heap.size = w.heap.size + 1 := by rw [hwB]; simp
      have hB1 := hide hB0.out
      rw [← hwB] at hB1
      have hwB' := hide hwB
      clear hwB hB0
      go_enter Tryd.func30, Tryd.ntmps30
      go_wp2_with (at_builtin; refine Stop.out ?_)
      refine Stop.mk ?_
      refine app_e rfl (.tmp 22) (.tmp 28) rfl (w.heap.size + 1) (.slice none 0 0) 0 [] rfl (World.ownsRow_nil _ _ _ _) ⟨w.heap.size + 1, 0, none⟩ 1 1 rfl [hd0 h] rfl ?_ (by omega) (by omega) (by simp) ?_
      · have := nw.out (w.alloc (.cells #[.int .i64 h.kind, .bool h.flag, .bool h.neg, .string h.dig, .int .i64 h.exp, .int .u64 h.bits, .string h.text, .slice an h.names.length cn, .slice al l.length cl] 29))
        rw [World.size_alloc] at this
        rw [hdd]
        exact this
      intro g1 c1 w1 ho1 hg1
      have L1 : Hid (Below (w.heap.size + 1) wB w1) := by rw [hwB'.out]; exact hide (((Below.refl _ _).alloc (by simp) _).grown hg1.out (by simp) (fun q hq => by cases hq))
      have O1 := hide ho1.out
      clear ho1 hg1 nw
      go_wp2_with fail
      go_loopw [3, 4] (fun u i W => ∃ k g c, i = .int .i64 (k : Nat) ∧ u = .slice (some ⟨g, 0, none⟩) ((kids n h l k).length + 1) c ∧ k ≤ l.length ∧ Hid (W.ownsRow (w.heap.size + 1) 42 7 (.slice (some ⟨g, 0, none⟩) ((kids n h l k).length + 1) c) ((kids n h l k).length + 1) (ecs (hd0 h :: kids n h l k)) ∧ Below (w.heap.size + 1) wB W)) (fun _ i _ => l.length - (intOf i).toNat)
      case atStart => exact ⟨0, g1, c1, rfl, rfl, Nat.zero_le _, hide ⟨by simpa [kids_zero] using O1.out, L1.out⟩⟩
      case round =>
        obtain ⟨k, gg, cc, rfl, rfl, hk, HH⟩ := hrel
        obtain ⟨ho, hL⟩ := HH.out
        have BX := hB1.out.low hL (Nat.lt_succ_self _)
        obtain ⟨c0, c1, c2, c3, c4, c5, c6, c7, c8⟩ := BX.cells
        have zr0 : w.heap.size + 1 ≤ wr.heap.size := by have := hL.size; omega
        have OR := hide ho
        have LR := hide hL
        have hkk := hkl.out k hk
        clear HH ho hL BX O1 L1
        by_cases hkl' : k < l.length
        · have hki : (k : Int) < (l.length : Int) := by omega
          obtain ⟨b, o, c, he, hbl, hlc, hcm, ns', ls', hrg, hrd⟩ := hr.out.at k hkl'
          have he' := Value.slice.inj he
          obtain ⟨rfl, _, rfl⟩ := he'
          clear he
          have hrd := hide hrd
          have hrg := hide hrg
          have hvk : Hid (IsV n l[k]) := hv'.out.2.2 _ (List.getElem_mem hkl')
          have hks := hide (kids_succ n h l k hkl')
          have hk1 := hkl.out (k + 1) hkl'
          have hlk : Hid ((fl n l[k]).length ≤ 1000000) := by
            have h1 := hks.out
            have := congrArg List.length h1
            simp only [List.length_append] at this
            show _ ≤ _
            omega
          have hlt : Hid ((kids n h l k).length + (fl n l[k]).length ≤ 1000000) := by
            have h1 := hks.out
            have := congrArg List.length h1
            simp only [List.length_append] at this
            show _ ≤ _
            omega
          by_cases h8 : h.kind = 8
          · have hkn : k < h.names.length := by have : h.names.length = l.length := (hv'.out.2.1.2.2.1 h8).1; omega
            obtain ⟨bn, on, cn', hen, hbn, hln, hcn, hsn⟩ := hr.out.1.at k hkn
            have hen' := Value.slice.inj hen
            obtain ⟨rfl, _, rfl⟩ := hen'
            clear hen
            obtain ⟨t, ht⟩ : ∃ t, h.names[k] = t := ⟨_, rfl⟩
            have s0 : wr.cell? ⟨bn, on + k, none⟩ = some (.string t) := by rw [← ht]; exact ((wb.out _ LR.out).cell (p := ⟨bn, on + k, none⟩) hbn).trans hsn
            have hp0 : preN h k = [evN t] := by unfold preN; rw [if_pos h8]; simp [hkn, ht]
            rw [hp0] at hks
            have hkni : (k : Int) < (h.names.length : Int) := by omega
            have q8 : (h.kind == 8) = true := by simpa using h8
            have q8' : decide (h.kind = 8) = true := by simpa using h8
            have nw := hide (one_news wr (evN t))
            simp only [evs, evN, zr] at nw
            have hbnw : bn < wr.heap.size := by omega
            have hblw : b < wr.heap.size := by omega
            have h8' := hide h8
            clear hsn hp0 h8
            go_wp2_with (at_builtin; refine Stop.out ?_)
            refine Stop.mk ?_
            refine app_e rfl (.tmp 40) (.tmp 47) rfl (w.heap.size + 1) (.slice (some ⟨gg, 0, none⟩) ((kids n h l k).length + 1) cc) ((kids n h l k).length + 1) (hd0 h :: kids n h l k) rfl (ownsRow_of OR.out fun q _ hq => (below_al (Below.refl _ _)).block q hq) ⟨wr.heap.size, 0, none⟩ 1 1 rfl [evN t] rfl nw.out (by omega) (by omega) (by simp; omega) ?_
            intro g2 c2' w2 ho2 hg2
            have c2 := c2'
            have LW : Hid (Below (w.heap.size + 1) wB w2) := (LR.out.alloc zr0 _).grown hg2.out (by simp; omega) (fun q hq => (World.ownsRow.lt OR.out q hq).1)
            have zW : w.heap.size + 1 ≤ w2.heap.size := by have := LW.out.size; omega
            have OW0 : w2.ownsRow (w.heap.size + 1) 42 7 (.slice (some ⟨g2, 0, none⟩) ((kids n h l k).length + 1 + 1) c2') ((kids n h l k).length + 1 + 1) (ecs (hd0 h :: (kids n h l k ++ [evN t]))) := by have := ho2.out; simpa using this
            have OW := hide OW0
            clear OW0
            obtain ⟨e0, e1, e2, e3, e4, e5, e6, e7, e8⟩ := range9 (rangeAt_below hrg.out (wb.out _ LW.out) hbl)
            have BX := hB1.out.low LW.out (Nat.lt_succ_self _)
            obtain ⟨b0, b1, b2, b3, b4, b5, b6, b7, b8⟩ := BX.cells
            obtain ⟨a1, m1, d1, a2, m2, d2, rfl, rfl⟩ := hrd.out.shape
            have hblw2 : b < w2.heap.size := by omega
            clear ho2 hg2 nw BX c0 c1 c2 c3 c4 c5 c6 c7 c8 s0 OR LR
            have cal := hide (ih'.out l[k] (.slice a1 m1 d1) (.slice a2 m2 d2) w2 (hrd.out.below (wb.out _ LW.out)) (hvk.out) hlk.out)
            obtain ⟨hk', hhk'⟩ : ∃ hk', vhd n l[k] = hk' := ⟨_, rfl⟩
            rw [hhk'] at cal e0 e1 e2 e3 e4 e5 e6
            simp only [vals] at cal
            go_wp2_with (go_at_call 30; refine Stop.out ?_)
            refine Stop.mk (cal.out.mono ?_)
            rintro e w3 ⟨g3, c3, rfl, ho3, hb3⟩
            have z3 := hb3.out.size
            have L3 := hide (LW.out.trans (hb3.out.mono zW))
            obtain ⟨F, hF⟩ : ∃ F, (fl n l[k]).length = F := ⟨_, rfl⟩
            rw [hF] at ho3 ⊢
            go_wp2_with (at_builtin; refine Stop.out ?_)
            refine Stop.mk ?_
            refine app_e rfl (.tmp 49) (.tmp 55) rfl (w.heap.size + 1) (.slice (some ⟨g2, 0, none⟩) ((kids n h l k).length + 1 + 1) c2') ((kids n h l k).length + 1 + 1) (hd0 h :: (kids n h l k ++ [evN t])) rfl (ownsRow_of OW.out fun q _ hq => hb3.out.block q hq) ⟨g3, 0, none⟩ F c3 rfl (fl n l[k]) hF (row_news ho3.out) (by have := hlt.out; have := hF; omega) (by omega) (by omega) ?_
            intro g4 c4 w4 ho4 hg4
            have L4 := hide (L3.out.grown hg4.out (by omega) (fun q hq => (World.ownsRow.lt OW.out q hq).1))
            clear cal ho3 hb3 hg4 L3
            go_wp2_with fail
            refine ⟨⟨k + 1, g4, c4, by go_num, ?_, by omega, hide ⟨?_, L4.out⟩⟩, by simp [intOf]; omega⟩
            · rw [hks.out]; simp only [List.length_append, List.length_cons, List.length_nil, hF]; congr 1; omega
            · have h1 := ho4.out
              have h2 : hd0 h :: (kids n h l k ++ [evN t]) ++ fl n l[k] = hd0 h :: kids n h l (k + 1) := by rw [hks.out]; simp
              rw [h2] at h1
              have h3 : ((kids n h l k).length + 1 + 1) + F = (kids n h l (k + 1)).length + 1 := by rw [hks.out]; simp only [List.length_append, List.length_cons, List.length_nil, hF]; omega
              rw [h3] at h1
              exact h1
          · have hp0 : preN h k = [] := if_neg h8
            rw [hp0] at hks
            have q8 : (h.kind == 8) = false := by simpa using h8
            have q8' : decide (h.kind = 8) = false := by simpa using h8
            have LW := LR
            have OW := OR
            have zW := zr0
            obtain ⟨e0, e1, e2, e3, e4, e5, e6, e7, e8⟩ := range9 (rangeAt_below hrg.out (wb.out _ LW.out) hbl)
            obtain ⟨a1, m1, d1, a2, m2, d2, rfl, rfl⟩ := hrd.out.shape
            have hblw : b < wr.heap.size := by omega
            have h8' := hide h8
            clear hp0 h8 OR LR
            have cal := hide (ih'.out l[k] (.slice a1 m1 d1) (.slice a2 m2 d2) wr (hrd.out.below (wb.out _ LW.out)) (hvk.out) hlk.out)
            obtain ⟨hk', hhk'⟩ : ∃ hk', vhd n l[k] = hk' := ⟨_, rfl⟩
            rw [hhk'] at cal e0 e1 e2 e3 e4 e5 e6
            simp only [vals] at cal
            go_wp2_with (go_at_call 30; refine Stop.out ?_)
            refine Stop.mk (cal.out.mono ?_)
            rintro e w3 ⟨g3, c3, rfl, ho3, hb3⟩
            have z3 := hb3.out.size
            have L3 := hide (LW.out.trans (hb3.out.mono zW))
            obtain ⟨F, hF⟩ : ∃ F, (fl n l[k]).length = F := ⟨_, rfl⟩
            rw [hF] at ho3 ⊢
            go_wp2_with (at_builtin; refine Stop.out ?_)
            refine Stop.mk ?_
            refine app_e rfl (.tmp 49) (.tmp 55) rfl (w.heap.size + 1) (.slice (some ⟨gg, 0, none⟩) ((kids n h l k).length + 1) cc) ((kids n h l k).length + 1) (hd0 h :: kids n h l k) rfl (ownsRow_of OW.out fun q _ hq => hb3.out.block q hq) ⟨g3, 0, none⟩ F c3 rfl (fl n l[k]) hF (row_news ho3.out) (by have := hlt.out; have := hF; omega) (by omega) (by omega) ?_
            intro g4 c4 w4 ho4 hg4
            have L4 := hide (L3.out.grown hg4.out (by omega) (fun q hq => (World.ownsRow.lt OW.out q hq).1))
            clear cal ho3 hb3 hg4 L3
            go_wp2_with fail
            refine ⟨⟨k + 1, g4, c4, by go_num, ?_, by omega, hide ⟨?_, L4.out⟩⟩, by simp [intOf]; omega⟩
            · rw [hks.out]; simp only [List.length_append, List.length_cons, List.length_nil, hF]; congr 1; omega
            · have h1 := ho4.out
              have h2 : hd0 h :: kids n h l k ++ fl n l[k] = hd0 h :: kids n h l (k + 1) := by rw [hks.out]; simp
              rw [h2] at h1
              have h3 : ((kids n h l k).length + 1) + F = (kids n h l (k + 1)).length + 1 := by rw [hks.out]; simp only [List.length_append, List.length_cons, List.length_nil, hF]; omega
              rw [h3] at h1
              exact h1
        · have hki : ¬ ((k : Int) < (l.length : Int)) := by omega
          have hkeq : k = l.length := by omega
          subst hkeq
          have nw := hide (one_news wr evE)
          simp only [evs, evE, zr] at nw
          go_wp2_with (at_builtin; refine Stop.out ?_)
          refine Stop.mk ?_
          refine app_e rfl (.tmp 57) (.tmp 59) rfl (w.heap.size + 1) (.slice (some ⟨gg, 0, none⟩) ((kids n h l l.length).length + 1) cc) ((kids n h l l.length).length + 1) (hd0 h :: kids n h l l.length) rfl (ownsRow_of OR.out fun q _ hq => (below_al (Below.refl _ _)).block q hq) ⟨wr.heap.size, 0, none⟩ 1 1 rfl [evE] rfl nw.out (by omega) (by omega) (by simp; omega) ?_
          intro g5 c5' w5 ho5 hg5
          have L5 := hide ((LR.out.alloc zr0 _).grown hg5.out (by simp; omega) (fun q hq => (World.ownsRow.lt OR.out q hq).1))
          go_wp2_with fail
          go_ret
          exact ⟨g5, c5', rfl, hide (ownsRow_base (by have := ho5.out; simpa using this) (Nat.le_succ _)), hide (wb.out _ L5.out)⟩
end Go.Proofs.YthbfopdeaknbkaaDoor
/- calamuskeep.Events: walked. -/
namespace Go.Proofs.YthbfopdeaknbkaaDoor
open Go.RowKit
set_option linter.unusedSimpArgs false
set_option linter.unusedVariables false
/-- A slice of events reads as es. -/
def ES (W : World) (v : Value) (es : List Hd) : Prop := ∃ a c, v = .slice a es.length c ∧ es.length ≤ c ∧ c ≤ maxLen ∧ (0 < es.length → ∃ b o, a = some ⟨b, o, none⟩ ∧ b < W.heap.size ∧ EL W b o es)
theorem ES.below {w W : World} {v : Value} {es : List Hd} (h : ES w v es) (hb : Below w.heap.size w W) : ES W v es := by
  obtain ⟨a, c, rfl, h1, h2, h3⟩ := h
  refine ⟨a, c, rfl, h1, h2, fun hp => ?_⟩
  obtain ⟨b, o, e, hlt, hel⟩ := h3 hp
  exact ⟨b, o, e, Nat.lt_of_lt_of_le hlt hb.size, hel.below hb hlt⟩
theorem ES.nil (w : World) : ES w (.slice none 0 0) [] := ⟨none, 0, rfl, Nat.le_refl _, by decide, fun h => by simp at h⟩
theorem ES.row {W : World} {B g n cap : Nat} {es : List Hd} (h : W.ownsRow B 42 7 (.slice (some ⟨g, 0, none⟩) n cap) n (ecs es)) (hn : n = es.length) : ES W (.slice (some ⟨g, 0, none⟩) n cap) es := by
  have hlt := (World.ownsRow.lt h g rfl).2
  have hel := el_row h hn
  rcases h.2 with ⟨h0, _⟩ | ⟨g', cap', cur, he, _, _, h1, h2, _⟩
  · cases h0
  · cases he
    subst hn
    exact ⟨_, _, rfl, h1, h2, fun _ => ⟨g, 0, rfl, hlt, hel⟩⟩
set_option maxHeartbeats 2000000 in
set_option maxRecDepth 100000 in
theorem events_any (va vb : Value) (es : List Hd) (w : World) (ha : ES w va es) (hb : ES w vb es) :
    Calls Tryd.prog 14 #[va, vb] w fun e w' => e = .returned (.bool true) ∧ Below w.heap.size w w' := by
  obtain ⟨aa, ca, rfl, ha1, ha2, ha3⟩ := ha
  obtain ⟨ab, cb, rfl, hb1, hb2, hb3⟩ := hb
  have ml : maxLen = 9223372036854775807 := rfl
  have ha3 := hide ha3
  have hb3 := hide hb3
  go_enter Tryd.func14, Tryd.ntmps14
  go_wp2_with fail
  go_loopw [5] (fun i W => ∃ k : Nat, i = .int .i64 k ∧ k ≤ es.length ∧ Hid (Below w.heap.size w W)) (fun i _ => es.length - (intOf i).toNat)
  case atStart => exact ⟨0, rfl, Nat.zero_le _, hide (Below.refl _ _)⟩
  case round =>
    obtain ⟨k, rfl, hk, hB⟩ := hrel
    by_cases hkl : k < es.length
    · have hki : (k : Int) < (es.length : Int) := by omega
      have hk63 : (k : Int) < 9223372036854775807 := by omega
      obtain ⟨b, o, rfl, hlt, hel⟩ := ha3.out (by omega)
      obtain ⟨b', o', rfl, hlt', hel'⟩ := hb3.out (by omega)
      obtain ⟨c0, c1, c2, c3, c4, c5, c6⟩ := range7 (rangeAt_below (hel k hkl) hB.out hlt)
      obtain ⟨d0, d1, d2, d3, d4, d5, d6⟩ := range7 (rangeAt_below (hel' k hkl) hB.out hlt')
      obtain ⟨h, hh⟩ : ∃ h, es[k] = h := ⟨_, rfl⟩
      rw [hh] at c0 c1 c2 c3 c4 c5 c6 d0 d1 d2 d3 d4 d5 d6
      have hkc : k < ca := by omega
      have hkc' : k < cb := by omega
      clear hel hel' ha3 hb3
      go_wp2_with fail
      go_region_with (fail)
      all_goals
        clear c0 c1 c2 c3 c4 c5 c6 d0 d1 d2 d3 d4 d5 d6 hh ha1 hb1 ha2 hb2 hkc hkc' hlt hlt'
        go_simp
        go_wp2_with fail
        exact ⟨⟨k + 1, by go_num, by omega, hide hB.out.drew⟩, by simp [intOf]; omega⟩
    · have hki : ¬ ((k : Int) < (es.length : Int)) := by omega
      go_wp2_with fail
      go_ret
      exact ⟨rfl, hB.out⟩
end Go.Proofs.YthbfopdeaknbkaaDoor
/- calamuslaw05.EventFlattens: walked. -/
namespace Go.Proofs.YthbfopdeaknbkaaDoor
open Go.RowKit
set_option linter.unusedSimpArgs false
set_option linter.unusedVariables false
set_option maxHeartbeats 2000000 in
set_option maxRecDepth 100000 in
/-- What the reference's Flatten answers. -/
theorem rflatten_any (n : Nat) (x : VT n) (ns ls : Value) (w : World) (hr : Rdy n w x ns ls) (E : Int) (hE : Chk n x E) :
    Calls Tryd.prog 12 #[.agg (vals (vhd n x) ns ls)] w fun e w' => ∃ v, e = .returned (.tuple #[v, .int .i64 E]) ∧ Below w.heap.size w w' ∧ Hid (ES w' v (if E = 0 then fl n x else [])) := by
  obtain ⟨a1, m1, d1, a2, m2, d2, rfl, rfl⟩ := hr.rd.shape
  have ck := hide (fun W (hb : Below w.heap.size w W) => rcheck_any rval n x (.slice a1 m1 d1) (.slice a2 m2 d2) W (hr.below hb) E hE)
  obtain ⟨h, hh⟩ : ∃ h, vhd n x = h := ⟨_, rfl⟩
  have hB0 := hide (bx_new w h (.slice a1 m1 d1) (.slice a2 m2 d2))
  by_cases h0 : E = 0
  · subst h0
    have hv : IsV n x ∧ Win n x := by rcases hE with ⟨h, _⟩ | ⟨h, _⟩ | ⟨_, h⟩ <;> first | exact h | cases h
    have hl := fl_len n x
    have hs := hv.2.2.2
    have hlen : (fl n x).length ≤ 1000000 := by omega
    have ft := hide (fun W (hb : Below w.heap.size w W) => rflat_any n x (.slice a1 m1 d1) (.slice a2 m2 d2) W (hr.rd.below hb) hv.1 hlen)
    rw [if_pos rfl]
    rw [hh] at ck ft ⊢
    simp only [vals] at ck ft ⊢
    clear hr hE hv hl hs hlen
    go_enter Tryd.func12, Tryd.ntmps12
    go_wp2_with (go_at_call 29; refine Stop.out ?_)
    refine Stop.mk ((ck.out _ (below_al (Below.refl _ _))).mono ?_)
    rintro e w1 ⟨rfl, hb1⟩
    have B1 := hide (below_then (below_al (Below.refl _ _)) hb1)
    obtain ⟨c0, c1, c2, c3, c4, c5, c6, c7, c8⟩ := (hB0.out.below hb1).cells
    clear hb1
    go_wp2_with (go_at_call 30; refine Stop.out ?_)
    refine Stop.mk ((ft.out _ B1.out).mono ?_)
    rintro e w2 ⟨g, c, rfl, ho, hb2⟩
    have R2 := hide (ES.row ho.out rfl)
    have B2 := hide (below_then B1.out hb2.out)
    go_wp2_with fail
    exact bodyPost_ret (v := .tuple #[.slice (some ⟨g, 0, none⟩) (fl n x).length c, .int .i64 0]) (by simp [results, Tryd.results12, go_sem]) rfl ⟨_, rfl, B2.out, R2⟩
  · rw [if_neg h0]
    rw [hh] at ck ⊢
    simp only [vals] at ck ⊢
    clear hr hE
    go_enter Tryd.func12, Tryd.ntmps12
    go_wp2_with (go_at_call 29; refine Stop.out ?_)
    refine Stop.mk ((ck.out _ (below_al (Below.refl _ _))).mono ?_)
    rintro e w1 ⟨rfl, hb1⟩
    have B1 := hide (below_then (below_al (Below.refl _ _)) hb1)
    obtain ⟨c0, c1, c2, c3, c4, c5, c6, c7, c8⟩ := (hB0.out.below hb1).cells
    clear hb1
    go_wp2_with fail
    exact bodyPost_ret (v := .tuple #[.slice none 0 0, .int .i64 E]) (by simp [results, Tryd.results12, go_sem]) rfl ⟨_, rfl, B1.out, hide (ES.nil _)⟩
/-- Flatten's answer as a slice that reads. -/
theorem flatten_es (n : Nat) (x : VT n) (ns ls : Value) (w : World) (hr : Rdy n w x ns ls) (g : Ut.Gu w) (E : Int) (hE : Chk n x E) :
    Calls Tryd.prog 11 #[.agg (vals (vhd n x) ns ls)] w fun e w' => ∃ v, e = .returned (.tuple #[v, .int .i64 E]) ∧ Below w.heap.size w w' ∧ Hid (ES w' v (if E = 0 then fl n x else [])) := by
  refine (flat_any n x ns ls w hr g E hE).mono ?_
  rintro e w' ⟨v, rfl, hb, h0, h1⟩
  refine ⟨v, rfl, hb, ?_⟩
  by_cases e0 : E = 0
  · rw [if_pos e0]
    have ho := h0 e0
    obtain ⟨k, hk⟩ : ∃ k, (fl n x).length = k + 1 := ⟨(fl n x).length - 1, by have := fl_pos n x; omega⟩
    have ho' := ho
    rw [hk] at ho'
    obtain ⟨g', c', rfl⟩ := ownsRow_succ ho'
    rw [← hk] at ho ⊢
    exact hide (ES.row ho rfl)
  · rw [if_neg e0, h1 e0]
    exact hide (ES.nil _)
/-- Where EventFlattens stands: the struct, and its copy. -/
structure Fx (w : World) (n : Nat) (x : VT n) (h : Hd) (ns ls ns2 ls2 : Value) (i2 : Nat) (W : World) : Prop where
  below : Below w.heap.size w W
  ba : Bx W w.heap.size h ns ls
  bb : Bx W i2 h ns2 ls2
  rd : RD n W x ns2 ls2
theorem Fx.then {w W W1 : World} {n i2 : Nat} {x : VT n} {h : Hd} {ns ls ns2 ls2 : Value} (c : Fx w n x h ns ls ns2 ls2 i2 W) (hb : Below W.heap.size W W1) : Fx w n x h ns ls ns2 ls2 i2 W1 :=
  ⟨below_then c.below hb, c.ba.below hb, c.bb.below hb, c.rd.below hb⟩
theorem es_shape {W : World} {v : Value} {es : List Hd} (h : ES W v es) : ∃ a c, v = .slice a es.length c := by
  obtain ⟨a, c, rfl, _⟩ := h
  exact ⟨a, c, rfl⟩
set_option maxHeartbeats 4000000 in
set_option maxRecDepth 100000 in
theorem flattens_law (n : Nat) (x : VT n) (ns ls : Value) (w : World) (hr : RD n w x ns ls) (hz : Sz n x) (g : Ut.Gu w) :
    Calls Tryd.prog 3 #[.agg (vals (vhd n x) ns ls)] w fun e w' => e = .returned (.bool true) ∧ Below w.heap.size w w' := by
  obtain ⟨a1, m1, d1, a2, m2, d2, rfl, rfl⟩ := hr.shape
  obtain ⟨h, hh⟩ : ∃ h, vhd n x = h := ⟨_, rfl⟩
  have hbig := hide (fun o => Go.Proofs.YthbfopdeaknbkaaDoor.big_any n x (.slice a1 m1 d1) (.slice a2 m2 d2) (w.alloc o) (hr.below (below_al (Below.refl _ _))) hz)
  have hB0 := hide (bx_new w h (.slice a1 m1 d1) (.slice a2 m2 d2))
  have hb0 : Hid (∀ o, Below w.heap.size w (w.alloc o)) := fun o => below_al (Below.refl _ _)
  have hcp := hide (fun W (hb : Below w.heap.size w W) (hk : blk n x ≤ 65536) => copy_any n x _ _ W (hr.below hb) (by omega))
  replace hr := hide hr
  replace hz := hide hz
  replace g := hide g
  have hh' := hide hh
  rw [hh] at hbig hcp ⊢
  clear hh
  simp only [vals] at hcp hbig
  show Calls _ _ #[.agg #[.int .i64 h.kind, .bool h.flag, .bool h.neg, .string h.dig, .int .i64 h.exp, .int .u64 h.bits, .string h.text, .slice a1 m1 d1, .slice a2 m2 d2]] _ _
  go_enter Tryd.func3, Tryd.ntmps3
  go_wp2_with (go_at_call 9; refine Stop.out ?_)
  refine Stop.mk ((hbig.out _).mono ?_)
  rintro e w1 ⟨bb, rfl, hsm, hb1⟩
  have hw1 := hide (below_then (hb0.out _) hb1)
  have hB1 := hide (hB0.out.below hb1)
  clear hb1 hbig hB0
  cases bb
  · have hblk := hide (hsm.out rfl)
    obtain ⟨c0, c1, c2, c3, c4, c5, c6, c7, c8⟩ := hB1.out.cells
    go_wp2_with (go_at_call 10; refine Stop.out ?_)
    refine Stop.mk ((hcp.out _ hw1.out hblk.out.1).mono ?_)
    rintro e w2 ⟨ns2, ls2, rfl, hk2, hb2⟩
    obtain ⟨e1, e2, e3, e4, e5, e6, rfl, rfl⟩ := hk2.out.rd.shape
    clear c0 c1 c2 c3 c4 c5 c6 c7 c8
    have C2 : Hid (Fx w n x h (.slice a1 m1 d1) (.slice a2 m2 d2) (.slice e1 e2 e3) (.slice e4 e5 e6) w2.heap.size (w2.alloc (.cells (vals h (.slice e1 e2 e3) (.slice e4 e5 e6)) 29))) :=
      ⟨below_al (below_then hw1.out hb2), (hB1.out.below hb2).below (below_al (Below.refl _ _)), bx_new _ _ _ _, hk2.out.rd.below (below_al (Below.refl _ _))⟩
    clear hb2 hk2 hB1 hw1 hcp
    obtain ⟨E, hE⟩ := chk_ex n x
    have hsz : siz n x ≤ 65536 := Nat.le_trans (siz_blk n x) hblk.out.1
    have k1 := hide (fun W (c : Fx w n x h (.slice a1 m1 d1) (.slice a2 m2 d2) (.slice e1 e2 e3) (.slice e4 e5 e6) w2.heap.size W) => flatten_es n x _ _ W ⟨c.rd, hz.out, by omega⟩ (g.out.below c.below) E hE)
    have k2 := hide (fun W (c : Fx w n x h (.slice a1 m1 d1) (.slice a2 m2 d2) (.slice e1 e2 e3) (.slice e4 e5 e6) w2.heap.size W) => rflatten_any n x _ _ W ⟨hr.out.below c.below, hz.out, by omega⟩ E hE)
    have k7 := hide (fun W (c : Fx w n x h (.slice a1 m1 d1) (.slice a2 m2 d2) (.slice e1 e2 e3) (.slice e4 e5 e6) w2.heap.size W) => Calls.tb (b := true) (requal_any n x x _ _ _ _ W c.rd (hr.out.below c.below)) (by simp))
    rw [hh'.out] at k1 k2 k7
    simp only [vals] at k1 k2 k7
    obtain ⟨es, hes⟩ : ∃ es, (if E = 0 then fl n x else []) = es := ⟨_, rfl⟩
    rw [hes] at k1 k2
    clear hE hsz hes hblk hsm
    go_wp2_with (go_at_call 11; refine Stop.out ?_)
    refine Stop.mk ((k1.out _ C2.out).mono ?_)
    rintro e w3 ⟨v3, rfl, hb3, hs3⟩
    obtain ⟨b1, b2, rfl⟩ := es_shape hs3.out
    have C3 := hide (C2.out.then hb3)
    clear hb3 C2
    obtain ⟨p0, p1, p2, p3, p4, p5, p6, p7, p8⟩ := C3.out.ba.cells
    have zb := C3.out.bb.lt
    go_wp2_with (go_at_call 12; refine Stop.out ?_)
    refine Stop.mk ((k2.out _ C3.out).mono ?_)
    rintro e w4 ⟨v4, rfl, hb4, hs4⟩
    obtain ⟨b3, b4, rfl⟩ := es_shape hs4.out
    have C4 := hide (C3.out.then hb4)
    have S3 := hide (hs3.out.below hb4)
    clear hb4 C3 hs3 p0 p1 p2 p3 p4 p5 p6 p7 p8
    have aw := hide (awake_any w4 (g.out.below C4.out.below))
    go_wp2_with (go_at_call 13; refine Stop.out ?_)
    refine Stop.mk (aw.out.mono ?_)
    rintro e w5 ⟨rfl, hb5⟩
    have C5 := hide (C4.out.then hb5)
    have ev := hide (events_any _ _ es w5 (S3.out.below hb5) (hs4.out.below hb5))
    clear hb5 C4 S3 hs4 aw
    have hEE : (E == E) = true := by simp
    go_wp2_with (go_at_call 14; refine Stop.out ?_)
    refine Stop.mk (ev.out.mono ?_)
    rintro e w6 ⟨rfl, hb6⟩
    have C6 := hide (C5.out.then hb6)
    clear hb6 C5 ev
    obtain ⟨p0, p1, p2, p3, p4, p5, p6, p7, p8⟩ := C6.out.ba.cells
    obtain ⟨q0, q1, q2, q3, q4, q5, q6, q7, q8⟩ := C6.out.bb.cells
    go_wp2_with (go_at_call 15; refine Stop.out ?_)
    refine Stop.mk ((k7.out _ C6.out).mono ?_)
    rintro e w7 ⟨rfl, hb7⟩
    have B7 := hide (below_then C6.out.below hb7)
    clear hb7
    go_wp2_with fail
    go_ret
    exact ⟨rfl, B7.out⟩
  · go_wp2_with fail
    go_ret
    exact ⟨rfl, hw1.out⟩
end Go.Proofs.YthbfopdeaknbkaaDoor
/- calamuslaw05.EventLists: walked. -/
namespace Go.Proofs.YthbfopdeaknbkaaDoor
open Go.RowKit
set_option linter.unusedSimpArgs false
set_option linter.unusedVariables false
set_option maxHeartbeats 2000000 in
set_option maxRecDepth 100000 in
theorem events_q (va vb : Value) (es : List Hd) (w : World) (ha : ES w va es) (hb : ES w vb es) :
    Calls Tryd.prog 14 #[va, vb] w fun e w' => e = .returned (.bool true) ∧ ∃ m, w' = w.drewN m := by
  obtain ⟨aa, ca, rfl, ha1, ha2, ha3⟩ := ha
  obtain ⟨ab, cb, rfl, hb1, hb2, hb3⟩ := hb
  have ml : maxLen = 9223372036854775807 := rfl
  have ha3 := hide ha3
  have hb3 := hide hb3
  go_enter Tryd.func14, Tryd.ntmps14
  go_wp2_with fail
  go_loopw [5] (fun i W => ∃ k : Nat, i = .int .i64 k ∧ k ≤ es.length ∧ Hid (∃ m, W = w.drewN m)) (fun i _ => es.length - (intOf i).toNat)
  case atStart => exact ⟨0, rfl, Nat.zero_le _, hide ⟨0, rfl⟩⟩
  case round =>
    obtain ⟨k, rfl, hk, hB⟩ := hrel
    by_cases hkl : k < es.length
    · have hki : (k : Int) < (es.length : Int) := by omega
      have hk63 : (k : Int) < 9223372036854775807 := by omega
      obtain ⟨b, o, rfl, hlt, hel⟩ := ha3.out (by omega)
      obtain ⟨b', o', rfl, hlt', hel'⟩ := hb3.out (by omega)
      have hBB : Below w.heap.size w wr := by obtain ⟨m, rfl⟩ := hB.out; exact ⟨rfl, rfl, rfl, Nat.le_refl _, fun _ _ => rfl⟩
      obtain ⟨c0, c1, c2, c3, c4, c5, c6⟩ := range7 (rangeAt_below (hel k hkl) hBB hlt)
      obtain ⟨d0, d1, d2, d3, d4, d5, d6⟩ := range7 (rangeAt_below (hel' k hkl) hBB hlt')
      obtain ⟨h, hh⟩ : ∃ h, es[k] = h := ⟨_, rfl⟩
      rw [hh] at c0 c1 c2 c3 c4 c5 c6 d0 d1 d2 d3 d4 d5 d6
      have hkc : k < ca := by omega
      have hkc' : k < cb := by omega
      clear hel hel' ha3 hb3 hBB
      go_wp2_with fail
      go_region_with (fail)
      all_goals
        clear c0 c1 c2 c3 c4 c5 c6 d0 d1 d2 d3 d4 d5 d6 hh ha1 hb1 ha2 hb2 hkc hkc' hlt hlt'
        go_simp
        go_wp2_with fail
        exact ⟨⟨k + 1, by go_num, by omega, by obtain ⟨m, rfl⟩ := hB.out; exact hide ⟨m + 1, rfl⟩⟩, by simp [intOf]; omega⟩
    · have hki : ¬ ((k : Int) < (es.length : Int)) := by omega
      go_wp2_with fail
      go_ret
      exact ⟨rfl, hB.out⟩
/-- A tag's head. -/
def tg (s : ByteArray) : Hd := { zr 9 with text := s }
theorem isV_one7 (n : Nat) (x : VT n) : IsV (n + 1) ((zr 7, [x]) : VT (n + 1)) ↔ IsV n x := by
  constructor
  · intro h
    exact h.2.2 x (by show x ∈ [x]; simp)
  · intro h
    exact ⟨⟨(show (1 : Int) ≤ 7 by decide), (show (7 : Int) ≤ 9 by decide), rfl, Or.inl (show (7 : Int) ≤ 7 by decide)⟩, ⟨fun h => (by cases h), fun h => (by cases h), fun h => (by cases h), fun h => (by cases h)⟩, ex_one h⟩
theorem isV_one9 (n : Nat) (x : VT n) (s : ByteArray) : IsV (n + 1) ((tg s, [x]) : VT (n + 1)) → IsV n x := fun h => h.2.2 x (by show x ∈ [x]; simp)
theorem dep_one (n : Nat) (x : VT n) (h : Hd) : dep (n + 1) ((h, [x]) : VT (n + 1)) = dep n x + 1 := by
  show 1 + mxl [dep n x] = _
  simp [mxl]; omega
theorem siz_one (n : Nat) (x : VT n) (h : Hd) : siz (n + 1) ((h, [x]) : VT (n + 1)) = siz n x + 1 := by
  show 1 + suml [siz n x] = _
  simp [suml]; omega
theorem win_one (n : Nat) (x : VT n) (h : Hd) : Win (n + 1) ((h, [x]) : VT (n + 1)) → Win n x := by
  rintro ⟨h1, h2, h3⟩
  rw [dep_one] at h2
  rw [siz_one] at h3
  exact ⟨h1.2.2.2 x (by show x ∈ [x]; simp), by omega, by omega⟩
theorem chk_zero {n : Nat} {x : VT n} {E : Int} (h : Chk n x E) : E = 0 ↔ IsV n x ∧ Win n x := by
  rcases h with ⟨rfl, h⟩ | ⟨rfl, h, k⟩ | ⟨rfl, h, k⟩
  · exact ⟨fun q => (by cases q), fun q => absurd q.1 h⟩
  · exact ⟨fun q => (by cases q), fun q => absurd q.2 k⟩
  · exact ⟨fun _ => ⟨h, k⟩, fun _ => rfl⟩
theorem chk7 {n : Nat} {x : VT n} {E F : Int} (h : Chk n x E) (k : Chk (n + 1) ((zr 7, [x]) : VT (n + 1)) F) : (E ≠ 0 → F ≠ 0) ∧ (E = 0 → F = 0 ∨ F = 2) := by
  constructor
  · intro h0 hF
    obtain ⟨q1, q2⟩ := (chk_zero k).1 hF
    exact h0 ((chk_zero h).2 ⟨(isV_one7 n x).1 q1, win_one n x _ q2⟩)
  · intro h0
    obtain ⟨q1, q2⟩ := (chk_zero h).1 h0
    rcases k with ⟨rfl, r⟩ | ⟨rfl, _⟩ | ⟨rfl, _⟩
    · exact absurd ((isV_one7 n x).2 q1) r
    · exact Or.inr rfl
    · exact Or.inl rfl
theorem chk9 {n : Nat} {x : VT n} {s : ByteArray} {E F : Int} (h : Chk n x E) (k : Chk (n + 1) ((tg s, [x]) : VT (n + 1)) F) (h0 : E ≠ 0) : F ≠ 0 := by
  intro hF
  obtain ⟨q1, q2⟩ := (chk_zero k).1 hF
  exact h0 ((chk_zero h).2 ⟨isV_one9 n x s q1, win_one n x _ q2⟩)
theorem sz_one7 (n : Nat) (x : VT n) (h : Hd) (hn : h.names = []) (ht : h.text.size ≤ 281474976710656) (hd : h.dig.size ≤ 281474976710656) (k : Sz n x) : Sz (n + 1) ((h, [x]) : VT (n + 1)) :=
  ⟨ht, hd, by show h.names.length ≤ _; rw [hn]; simp, (by intro s hs; have : s ∈ h.names := hs; rw [hn] at this; cases this), ex_one k⟩
theorem rd_one {n : Nat} {W : World} {x : VT n} {ns ls : Value} (h : RD n W x ns ls) (hh : Hd) (hn : hh.names = []) : RD (n + 1) (W.alloc (.cells (vals (vhd n x) ns ls) 29)) ((hh, [x]) : VT (n + 1)) (.slice none 0 0) (.slice (some ⟨W.heap.size, 0, none⟩) 1 1) := by
  refine ⟨Or.inl ⟨rfl, hn⟩, Or.inr ⟨W.heap.size, 0, 1, none, rfl, Nat.le_refl _, by decide, fun _ => ⟨rfl, by simp⟩, fun i hi => ?_⟩⟩
  have hi0 : i = 0 := by have : i < 1 := hi; omega
  subst hi0
  exact ⟨ns, ls, (bx_new W (vhd n x) ns ls).range, h.below (below_al (Below.refl _ _))⟩
theorem fl_one (n : Nat) (x : VT n) (h : Hd) (h7 : ¬ h.kind < 7) (h8 : h.kind ≠ 8) : fl (n + 1) ((h, [x]) : VT (n + 1)) = hd0 h :: (fl n x ++ [evE]) := by
  rw [fl_succ, if_neg h7]
  have : kids n h [x] 1 = fl n x := by
    rw [kids_succ n h [x] 0 (by simp), kids_zero]
    unfold preN
    rw [if_neg h8]
    simp
  show hd0 h :: (kids n h [x] 1 ++ [evE]) = _
  rw [this]
/-- What Flatten gives, as the law wants it. -/
theorem flat_row (n : Nat) (x : VT n) (ns ls : Value) (w : World) (hr : Rdy n w x ns ls) (g : Ut.Gu w) (E : Int) (hE : Chk n x E) :
    Calls Tryd.prog 11 #[.agg (vals (vhd n x) ns ls)] w fun e w' => ∃ a k c, e = .returned (.tuple #[.slice a k c, .int .i64 E]) ∧ Below w.heap.size w w' ∧ Hid (E = 0 → k = (fl n x).length ∧ ∃ b, a = some ⟨b, 0, none⟩ ∧ b < w'.heap.size ∧ EL w' b 0 (fl n x) ∧ k ≤ c ∧ c ≤ maxLen) := by
  refine (flat_any n x ns ls w hr g E hE).mono ?_
  rintro e w' ⟨v, rfl, hb, h0, h1⟩
  by_cases e0 : E = 0
  · have ho := h0 e0
    obtain ⟨k, hk⟩ : ∃ k, (fl n x).length = k + 1 := ⟨(fl n x).length - 1, by have := fl_pos n x; omega⟩
    have ho' := ho
    rw [hk] at ho'
    obtain ⟨g', c', rfl⟩ := ownsRow_succ ho'
    rw [← hk] at ho
    refine ⟨_, _, _, rfl, hb, hide fun _ => ⟨hk.symm, g', rfl, (World.ownsRow.lt ho g' (by rw [hk]; rfl)).2, el_row (by rw [hk] at ho ⊢; exact ho) rfl, ?_⟩⟩
    rcases ho.2 with ⟨q, _⟩ | ⟨g2, cap', cur, he, _, _, q1, q2, _⟩
    · cases q
    · cases he
      exact ⟨by omega, q2⟩
  · exact ⟨none, 0, 0, by rw [h1 e0], hb, hide fun q => absurd q e0⟩
end Go.Proofs.YthbfopdeaknbkaaDoor
/- calamuslaw05.EventLists: the law. -/
namespace Go.Proofs.YthbfopdeaknbkaaDoor
open Go.RowKit
set_option linter.unusedSimpArgs false
set_option linter.unusedVariables false
/-- Where EventLists stands. -/
structure Lx (w : World) (h : Hd) (ns ls : Value) (W : World) : Prop where
  below : Below w.heap.size w W
  ba : Bx W w.heap.size h ns ls
theorem Lx.then {w W W1 : World} {h : Hd} {ns ls : Value} (c : Lx w h ns ls W) (hb : Below W.heap.size W W1) : Lx w h ns ls W1 := ⟨below_then c.below hb, c.ba.below hb⟩
theorem wp_any {P : Program} {c : Code} {Q : Exit → Act → World → Prop} {a : Act} {W : World} {m : Nat} (h : ∀ W5, (∃ m, W5 = W.drewN m) → Code.wp P c Q a W5) : Code.wp P c Q a (W.drewN m) := h _ ⟨m, rfl⟩
theorem dn_below {w W : World} (h : Below w.heap.size w W) (d : Nat) : Below w.heap.size w (W.drewN d) := h.trans ⟨rfl, rfl, rfl, Nat.le_refl _, fun _ _ => rfl⟩
set_option maxHeartbeats 4000000 in
set_option maxRecDepth 100000 in
theorem lists_law (n : Nat) (x : VT n) (ns ls : Value) (s : ByteArray) (w : World) (hr : RD n w x ns ls) (hz : Sz n x) (hs : s.size ≤ 281474976710656) (g : Ut.Gu w) :
    Calls Tryd.prog 8 #[.agg (vals (vhd n x) ns ls), .string s] w fun e w' => e = .returned (.bool true) ∧ Below w.heap.size w w' := by
  obtain ⟨a1, m1, d1, a2, m2, d2, rfl, rfl⟩ := hr.shape
  obtain ⟨h, hh⟩ : ∃ h, vhd n x = h := ⟨_, rfl⟩
  have hbig := hide (fun o => Go.Proofs.YthbfopdeaknbkaaDoor.big_any n x (.slice a1 m1 d1) (.slice a2 m2 d2) (w.alloc o) (hr.below (below_al (Below.refl _ _))) hz)
  have hB0 := hide (bx_new w h (.slice a1 m1 d1) (.slice a2 m2 d2))
  have hb0 : Hid (∀ o, Below w.heap.size w (w.alloc o)) := fun o => below_al (Below.refl _ _)
  replace hr := hide hr
  replace hz := hide hz
  replace g := hide g
  have hh' := hide hh
  rw [hh] at hbig ⊢
  clear hh
  simp only [vals] at hbig
  show Calls _ _ #[.agg #[.int .i64 h.kind, .bool h.flag, .bool h.neg, .string h.dig, .int .i64 h.exp, .int .u64 h.bits, .string h.text, .slice a1 m1 d1, .slice a2 m2 d2], .string s] _ _
  go_enter Tryd.func8, Tryd.ntmps8
  go_wp2_with (go_at_call 9; refine Stop.out ?_)
  refine Stop.mk ((hbig.out _).mono ?_)
  rintro e w1 ⟨bb, rfl, hsm, hb1⟩
  have L1 : Hid (Lx w h (.slice a1 m1 d1) (.slice a2 m2 d2) w1) := ⟨below_then (hb0.out _) hb1, hB0.out.below hb1⟩
  clear hb1 hbig hB0
  cases bb
  · have hblk := hide (hsm.out rfl)
    have hsz : siz n x ≤ 65536 := Nat.le_trans (siz_blk n x) hblk.out.1
    obtain ⟨E, hE⟩ := chk_ex n x
    obtain ⟨F, hF⟩ := chk_ex (n + 1) ((zr 7, [x]) : VT (n + 1))
    obtain ⟨G, hG⟩ := chk_ex (n + 1) ((tg s, [x]) : VT (n + 1))
    have q7 := chk7 hE hF
    have q9 := chk9 hE hG
    have k1 := hide (fun W (c : Lx w h (.slice a1 m1 d1) (.slice a2 m2 d2) W) => flat_row n x _ _ W ⟨hr.out.below c.below, hz.out, by omega⟩ (g.out.below c.below) E hE)
    have k2 := hide (fun W (c : Lx w h (.slice a1 m1 d1) (.slice a2 m2 d2) W) => flat_row (n + 1) ((zr 7, [x]) : VT (n + 1)) _ _ _ ⟨rd_one (hr.out.below c.below) (zr 7) rfl, sz_one7 n x (zr 7) rfl (by show 0 ≤ _; omega) (by show 0 ≤ _; omega) hz.out, by rw [siz_one]; omega⟩ (g.out.below (below_al c.below)) F hF)
    have k3 := hide (fun W (c : Lx w h (.slice a1 m1 d1) (.slice a2 m2 d2) W) => flat_row (n + 1) ((tg s, [x]) : VT (n + 1)) _ _ _ ⟨rd_one (hr.out.below c.below) (tg s) rfl, sz_one7 n x (tg s) rfl hs (by show 0 ≤ _; omega) hz.out, by rw [siz_one]; omega⟩ (g.out.below (below_al c.below)) G hG)
    obtain ⟨M, hM⟩ : ∃ M, fl (n + 1) ((zr 7, [x]) : VT (n + 1)) = M := ⟨_, rfl⟩
    obtain ⟨T, hT⟩ : ∃ T, fl (n + 1) ((tg s, [x]) : VT (n + 1)) = T := ⟨_, rfl⟩
    rw [hM] at k2
    rw [hT] at k3
    rw [hh'.out] at k1 k2 k3
    simp only [vals, vhd, zr, tg] at k1 k2 k3
    have fl7 : Hid (M = hd0 (zr 7) :: (fl n x ++ [evE])) := hM.symm.trans (fl_one n x (zr 7) (by decide) (by decide))
    have fl9 : Hid (T = hd0 (tg s) :: (fl n x ++ [evE])) := hT.symm.trans (fl_one n x (tg s) (show ¬ (9 : Int) < 7 by decide) (show (9 : Int) ≠ 8 by decide))
    clear hM hT
    have q7' := hide q7
    have q9' := hide q9
    have hfb : Hid (E = 0 → (fl n x).length ≤ 1000000) := fun e0 => by
      have := ((chk_zero hE).1 e0).2.2.2
      have := fl_len n x
      omega
    have hG3 : Hid (G = 0 ∨ G = 2 ∨ G = 40) := by rcases hG with ⟨q, _⟩ | ⟨q, _⟩ | ⟨q, _⟩; exact Or.inr (Or.inr q); exact Or.inr (Or.inl q); exact Or.inl q
    clear hE hF hG q7 q9 hsm hblk hsz
    obtain ⟨c0, c1, c2, c3, c4, c5, c6, c7, c8⟩ := L1.out.ba.cells
    by_cases hs1 : (1000 : Int) < (s.size : Int)
    · go_wp2_with fail
      go_ret
      exact ⟨rfl, L1.out.below⟩
    · go_wp2_with (go_at_call 11; refine Stop.out ?_)
      refine Stop.mk ((k1.out _ L1.out).mono ?_)
      rintro e w2 ⟨va, vk, vc, rfl, hb2, h2⟩
      have L2 := hide (L1.out.then hb2)
      clear hb2 L1 c0 c1 c2 c3 c4 c5 c6 c7 c8 k1
      obtain ⟨c0, c1, c2, c3, c4, c5, c6, c7, c8⟩ := L2.out.ba.cells
      go_wp2_with (go_at_call 11; refine Stop.out ?_)
      refine Stop.mk ((k2.out _ L2.out).mono ?_)
      rintro e w3 ⟨ma, mk, mc, rfl, hb3, h3⟩
      have B23 := hide (below_then (below_al (Below.refl _ _)) hb3)
      have L3 := hide (L2.out.then B23.out)
      clear hb3 L2 c0 c1 c2 c3 c4 c5 c6 c7 c8 k2
      obtain ⟨c0, c1, c2, c3, c4, c5, c6, c7, c8⟩ := L3.out.ba.cells
      go_wp2_with (go_at_call 11; refine Stop.out ?_)
      refine Stop.mk ((k3.out _ L3.out).mono ?_)
      rintro e w4 ⟨ta, tk, tc, rfl, hb4, h4⟩
      have B34 := hide (below_then (below_al (Below.refl _ _)) hb4)
      have L4 := hide (L3.out.then B34.out)
      clear hb4 L3 c0 c1 c2 c3 c4 c5 c6 c7 c8 k3
      have aw := hide (fun W (hb : Below w.heap.size w W) => awake_any W (g.out.below hb))
      by_cases e0 : E = 0
      · subst e0
        obtain ⟨rfl, gl, rfl, hgl, el, hlc, hlm⟩ := h2.out rfl
        obtain ⟨K, hK⟩ : ∃ K, (fl n x).length = K := ⟨_, rfl⟩
        have hKb : K ≤ 1000000 := by rw [← hK]; exact hfb.out rfl
        have hKp : 1 ≤ K := by rw [← hK]; exact fl_pos n x
        have SL : Hid (∀ W, Below w4.heap.size w4 W → ES W (.slice (some ⟨gl, 0, none⟩) K vc) (fl n x)) := fun W hb => ⟨_, _, by rw [hK], by rw [hK]; rw [hK] at hlc; exact hlc, hlm, fun _ => ⟨gl, 0, rfl, Nat.lt_of_lt_of_le hgl (Nat.le_trans B23.out.size (Nat.le_trans B34.out.size hb.size)), ((el.below B23.out hgl).below B34.out (Nat.lt_of_lt_of_le hgl B23.out.size)).below hb (Nat.lt_of_lt_of_le hgl (Nat.le_trans B23.out.size B34.out.size))⟩⟩
        rw [hK] at hlc ⊢
        have ml : maxLen = 9223372036854775807 := rfl
        have EE := hide (EB.new w4 evE)
        have hw1 : IntKind.i64.wrap ((K : Int) + 2) = (K : Int) + 2 := by rw [IntKind.wrap_i64] <;> omega
        have hw2 : IntKind.i64.wrap ((K : Int) + 2 - 1) = (K : Int) + 1 := by rw [IntKind.wrap_i64] <;> omega
        have hKc : ((K + 2 : Nat) : Int) = (K : Int) + 2 := by omega
        clear el hgl
        rcases q7'.out.2 rfl with f0 | f0
        · subst f0
          obtain ⟨rfl, gm, rfl, hgm, em, hmc, hmm⟩ := h3.out rfl
          rw [fl7.out] at em hmc ⊢
          have hL7 : (hd0 (zr 7) :: (fl n x ++ [evE])).length = K + 2 := by simp [hK]
          rw [hL7] at hmc ⊢
          have em4 : EL w4 gm 0 (hd0 (zr 7) :: (fl n x ++ [evE])) := em.below B34.out hgm
          have hgm4 : gm < w4.heap.size := Nat.lt_of_lt_of_le hgm B34.out.size
          have SM : Hid (∀ W, Below w4.heap.size w4 W → ES W (.slice (some ⟨gm, 7, none⟩) K (mc - 1)) (fl n x)) := fun W hb => ⟨_, _, by rw [hK], by omega, by omega, fun _ => ⟨gm, 7, rfl, Nat.lt_of_lt_of_le hgm4 hb.size, fun i hi => by
            have h1 := em4 (i + 1) (by simp; omega)
            rw [List.getElem_cons_succ, List.getElem_append_left hi] at h1
            have h2 := rangeAt_below h1 hb hgm4
            rw [show 7 + i * 7 = 0 + (i + 1) * 7 by omega]
            exact h2⟩⟩
          have ev := hide (fun W (hb : Below w4.heap.size w4 W) => events_q _ _ (fl n x) W (SM.out W hb) (SL.out W hb))
          obtain ⟨u0, u1, u2, u3, u4, u5, u6⟩ := range7 (em4 0 (by simp))
          have hlast := em4 (K + 1) (by simp [hK])
          have hle : (hd0 (zr 7) :: (fl n x ++ [evE]))[K + 1]'(by simp [hK]) = evE := by
            rw [List.getElem_cons_succ, List.getElem_append_right (by omega)]
            simp
          rw [hle] at hlast
          obtain ⟨y0, y1, y2, y3, y4, y5, y6⟩ := range7 hlast
          simp only [Nat.zero_add, Nat.zero_mul, List.getElem_cons_zero, hd0, zr, evE] at u0 u1 u2 u3 u4 u5 u6 y0 y1 y2 y3 y4 y5 y6
          clear em em4 hlast hle
          have ev2 := hide (fun d => ev.out ((w4.alloc (.cells #[.int .i64 11, .bool false, .bool false, .string ⟨#[]⟩, .int .i64 0, .int .u64 0, .string ⟨#[]⟩] 42)).drewN d) ((below_al (Below.refl _ _)).trans ⟨rfl, rfl, rfl, by simp [World.drewN], fun _ _ => rfl⟩))
          have g1 : ¬ (mc = 1) := by omega
          have g2 : K + 1 ≤ mc := by omega
          have g3 : (1 : Int) ≤ (K : Int) + 1 := by omega
          go_wp2_with fail
          go_quiet (first | (go_at_call 14; exact Calls.quiet_of (ev2.out _)))
          clear u0 u1 u2 u3 u4 u5 u6 y0 y1 y2 y3 y4 y5 y6 g1 g2 g3
          by_cases g0 : G = 0
          · subst g0
            obtain ⟨rfl, gt, rfl, hgt, et, htc, htm⟩ := h4.out rfl
            rw [fl9.out] at et htc ⊢
            have hL9 : (hd0 (tg s) :: (fl n x ++ [evE])).length = K + 2 := by simp [hK]
            rw [hL9] at htc ⊢
            have ST : Hid (∀ W, Below w4.heap.size w4 W → ES W (.slice (some ⟨gt, 7, none⟩) K (tc - 1)) (fl n x)) := fun W hb => ⟨_, _, by rw [hK], by omega, by omega, fun _ => ⟨gt, 7, rfl, Nat.lt_of_lt_of_le hgt hb.size, fun i hi => by
              have h1 := et (i + 1) (by simp; omega)
              rw [List.getElem_cons_succ, List.getElem_append_left hi] at h1
              have h2 := rangeAt_below h1 hb hgt
              rw [show 7 + i * 7 = 0 + (i + 1) * 7 by omega]
              exact h2⟩⟩
            have ev9 := hide (fun W (hb : Below w4.heap.size w4 W) => events_q _ _ (fl n x) W (ST.out W hb) (SL.out W hb))
            have t1 : ¬ (tc = 1) := by omega
            have t2 : K + 1 ≤ tc := by omega
            have t3 : (1 : Int) ≤ (K : Int) + 1 := by omega
            go_wp2_with fail
            refine wp_any fun W5 hW5 => ?_
            have hb5 : Below w4.heap.size w4 W5 := by obtain ⟨m5, rfl⟩ := hW5; exact (by repeat (first | exact Below.refl _ _ | refine dn_below ?_ _ | refine below_al ?_))
            have EE5 : EB W5 w4.heap.size evE := by obtain ⟨m5, rfl⟩ := hW5; exact EE.out
            obtain ⟨v0, v1, v2, v3, v4, v5, v6⟩ := range7 (rangeAt_below (et 0 (by simp)) hb5 hgt)
            have hlast := et (K + 1) (by simp [hK])
            have hle : (hd0 (tg s) :: (fl n x ++ [evE]))[K + 1]'(by simp [hK]) = evE := by
              rw [List.getElem_cons_succ, List.getElem_append_right (by omega)]
              simp
            rw [hle] at hlast
            obtain ⟨z0, z1, z2, z3, z4, z5, z6⟩ := range7 (rangeAt_below hlast hb5 hgt)
            obtain ⟨e0, e1, e2, e3, e4, e5, e6⟩ := EE5.cells
            simp only [Nat.zero_add, Nat.zero_mul, List.getElem_cons_zero, hd0, tg, zr, evE] at v0 v1 v2 v3 v4 v5 v6 z0 z1 z2 z3 z4 z5 z6 e0 e1 e2 e3 e4 e5 e6
            have hb5' := hide hb5
            have hgt5 : gt < W5.heap.size := Nat.lt_of_lt_of_le hgt hb5.size
            clear et hlast hle hW5 hb5 EE5
            go_quiet (first | (go_at_call 14; exact Calls.quiet_of (ev9.out _ (dn_below hb5'.out _))))
            have awr := hide (fun W (hb : Below w4.heap.size w4 W) => aw.out W (below_then L4.out.below hb))
            clear v0 v1 v2 v3 v4 v5 v6 z0 z1 z2 z3 z4 z5 z6 e0 e1 e2 e3 e4 e5 e6
            go_wp2_with (go_at_call 13; refine Stop.out ?_)
            refine Stop.mk ((awr.out _ (by repeat (first | exact hb5'.out | refine dn_below ?_ _))).mono ?_)
            rintro e w9 ⟨rfl, hb9⟩
            have B9 := hide (below_then (below_then L4.out.below (by repeat (first | exact hb5'.out | refine dn_below ?_ _))) hb9)
            clear hb9
            go_wp2_with fail
            go_ret
            exact ⟨rfl, B9.out⟩
          · have g3' : G = 2 ∨ G = 40 := by rcases hG3.out with q | q | q; exact absurd q g0; exact Or.inl q; exact Or.inr q
            rcases g3' with rfl | rfl
            all_goals
              go_wp2_with fail
              go_quiet (fail)
              have awr := hide (fun W (hb : Below w4.heap.size w4 W) => aw.out W (below_then L4.out.below hb))
              go_wp2_with (go_at_call 13; refine Stop.out ?_)
              refine Stop.mk ((awr.out _ (by repeat (first | exact Below.refl _ _ | refine dn_below ?_ _ | refine below_al ?_))).mono ?_)
              rintro e w9 ⟨rfl, hb9⟩
              have B9 := hide (below_then (below_then L4.out.below (by repeat (first | exact Below.refl _ _ | refine dn_below ?_ _ | refine below_al ?_))) hb9)
              clear hb9
              go_wp2_with fail
              go_ret
              exact ⟨rfl, B9.out⟩
        · subst f0
          go_wp2_with fail
          go_quiet (fail)
          by_cases g0 : G = 0
          · subst g0
            obtain ⟨rfl, gt, rfl, hgt, et, htc, htm⟩ := h4.out rfl
            rw [fl9.out] at et htc ⊢
            have hL9 : (hd0 (tg s) :: (fl n x ++ [evE])).length = K + 2 := by simp [hK]
            rw [hL9] at htc ⊢
            have ST : Hid (∀ W, Below w4.heap.size w4 W → ES W (.slice (some ⟨gt, 7, none⟩) K (tc - 1)) (fl n x)) := fun W hb => ⟨_, _, by rw [hK], by omega, by omega, fun _ => ⟨gt, 7, rfl, Nat.lt_of_lt_of_le hgt hb.size, fun i hi => by
              have h1 := et (i + 1) (by simp; omega)
              rw [List.getElem_cons_succ, List.getElem_append_left hi] at h1
              have h2 := rangeAt_below h1 hb hgt
              rw [show 7 + i * 7 = 0 + (i + 1) * 7 by omega]
              exact h2⟩⟩
            have ev9 := hide (fun W (hb : Below w4.heap.size w4 W) => events_q _ _ (fl n x) W (ST.out W hb) (SL.out W hb))
            have t1 : ¬ (tc = 1) := by omega
            have t2 : K + 1 ≤ tc := by omega
            have t3 : (1 : Int) ≤ (K : Int) + 1 := by omega
            go_wp2_with fail
            refine wp_any fun W5 hW5 => ?_
            have hb5 : Below w4.heap.size w4 W5 := by obtain ⟨m5, rfl⟩ := hW5; exact (by repeat (first | exact Below.refl _ _ | refine dn_below ?_ _ | refine below_al ?_))
            have EE5 : EB W5 w4.heap.size evE := by obtain ⟨m5, rfl⟩ := hW5; exact EE.out
            obtain ⟨v0, v1, v2, v3, v4, v5, v6⟩ := range7 (rangeAt_below (et 0 (by simp)) hb5 hgt)
            have hlast := et (K + 1) (by simp [hK])
            have hle : (hd0 (tg s) :: (fl n x ++ [evE]))[K + 1]'(by simp [hK]) = evE := by
              rw [List.getElem_cons_succ, List.getElem_append_right (by omega)]
              simp
            rw [hle] at hlast
            obtain ⟨z0, z1, z2, z3, z4, z5, z6⟩ := range7 (rangeAt_below hlast hb5 hgt)
            obtain ⟨e0, e1, e2, e3, e4, e5, e6⟩ := EE5.cells
            simp only [Nat.zero_add, Nat.zero_mul, List.getElem_cons_zero, hd0, tg, zr, evE] at v0 v1 v2 v3 v4 v5 v6 z0 z1 z2 z3 z4 z5 z6 e0 e1 e2 e3 e4 e5 e6
            have hb5' := hide hb5
            have hgt5 : gt < W5.heap.size := Nat.lt_of_lt_of_le hgt hb5.size
            clear et hlast hle hW5 hb5 EE5
            go_quiet (first | (go_at_call 14; exact Calls.quiet_of (ev9.out _ (dn_below hb5'.out _))))
            have awr := hide (fun W (hb : Below w4.heap.size w4 W) => aw.out W (below_then L4.out.below hb))
            clear v0 v1 v2 v3 v4 v5 v6 z0 z1 z2 z3 z4 z5 z6 e0 e1 e2 e3 e4 e5 e6
            go_wp2_with (go_at_call 13; refine Stop.out ?_)
            refine Stop.mk ((awr.out _ (by repeat (first | exact hb5'.out | refine dn_below ?_ _))).mono ?_)
            rintro e w9 ⟨rfl, hb9⟩
            have B9 := hide (below_then (below_then L4.out.below (by repeat (first | exact hb5'.out | refine dn_below ?_ _))) hb9)
            clear hb9
            go_wp2_with fail
            go_ret
            exact ⟨rfl, B9.out⟩
          · have g3' : G = 2 ∨ G = 40 := by rcases hG3.out with q | q | q; exact absurd q g0; exact Or.inl q; exact Or.inr q
            rcases g3' with rfl | rfl
            all_goals
              go_wp2_with fail
              go_quiet (fail)
              have awr := hide (fun W (hb : Below w4.heap.size w4 W) => aw.out W (below_then L4.out.below hb))
              go_wp2_with (go_at_call 13; refine Stop.out ?_)
              refine Stop.mk ((awr.out _ (by repeat (first | exact Below.refl _ _ | refine dn_below ?_ _ | refine below_al ?_))).mono ?_)
              rintro e w9 ⟨rfl, hb9⟩
              have B9 := hide (below_then (below_then L4.out.below (by repeat (first | exact Below.refl _ _ | refine dn_below ?_ _ | refine below_al ?_))) hb9)
              clear hb9
              go_wp2_with fail
              go_ret
              exact ⟨rfl, B9.out⟩
      · have f0 : F ≠ 0 := q7'.out.1 e0
        have g0 : G ≠ 0 := q9'.out e0
        have e1 : (E != 0) = true := by simpa using e0
        have f1 : (F != 0) = true := by simpa using f0
        have g1 : (G != 0) = true := by simpa using g0
        go_wp2_with (go_at_call 13; refine Stop.out ?_)
        refine Stop.mk ((aw.out _ L4.out.below).mono ?_)
        rintro e w5 ⟨rfl, hb5⟩
        have B5 := hide (below_then L4.out.below hb5)
        clear hb5
        go_wp2_with fail
        go_ret
        exact ⟨by simp [f1, g1], B5.out⟩
  · go_wp2_with fail
    go_ret
    exact ⟨rfl, L1.out.below⟩
end Go.Proofs.YthbfopdeaknbkaaDoor
/- What a checker that is done says of its events (no program in sight). -/
namespace Go.Proofs.YthbfopdeaknbkaaDoor
open Go.RowKit
set_option linter.unusedSimpArgs false
set_option linter.unusedVariables false
/-- What an open part has told: its head h, its children l; busy: a child of it is under way. -/
def Prt (N j : Nat) (p : Pa) (busy : Bool) (es : List Hd) : Prop :=
  ∃ (n : Nat) (h : Hd) (l : List (VT n)), j + (n + 1) = N ∧ h.kind = p.1 ∧ 7 ≤ p.1 ∧ p.1 ≤ 9 ∧ strip h = zr p.1 ∧ h.names = p.2.2 ∧ (p.1 ≠ 8 → p.2.2 = []) ∧ (p.1 = 9 → okT h.text = true) ∧ (p.1 = 8 → Nms p.2.2) ∧ (∀ y ∈ l, IsV n y) ∧
    (p.1 = 8 → p.2.2.length = l.length + (if p.2.1 || busy then 1 else 0)) ∧ (p.1 = 9 → l.length = if p.2.1 || busy then 0 else 1) ∧ (busy = true → p.2.1 = false) ∧ (p.1 = 7 → p.2.1 = false) ∧
    es = hd0 h :: (kids n h l l.length ++ (if p.2.1 || busy then preN h l.length else []))
def Rep (N : Nat) : List Pa → Bool → List Hd → Prop
  | [], _, es => es = []
  | p :: r, busy, es => ∃ es0 e1, es = es0 ++ e1 ∧ Rep N r true es0 ∧ Prt N r.length p busy e1
def Inv (N : Nat) (st : List Pa) (bg : Bool) (es : List Hd) : Prop :=
  (st = [] ∧ bg = false ∧ es = []) ∨ (st = [] ∧ bg = true ∧ ∃ x : VT N, IsV N x ∧ es = fl N x) ∨ (st ≠ [] ∧ bg = true ∧ Rep N st false es)
theorem kids_same (n : Nat) (h h' : Hd) (l l' : List (VT n)) (k : Nat) (hk : h'.kind = h.kind) (hn : ∀ i, i < k → h'.names[i]? = h.names[i]?) (hl : ∀ i, i < k → l'[i]? = l[i]?) : kids n h' l' k = kids n h l k := by
  unfold kids
  congr 1
  refine List.map_congr_left fun i hi => ?_
  have hi' : i < k := List.mem_range.1 hi
  unfold kid preN
  rw [hk, hn i hi', hl i hi']
/-- A value has been told within what is open. -/
theorem child_done (N : Nat) (r : List Pa) (es0 : List Hd) (n : Nat) (c : VT n) (hn : r.length + n = N) (hc : IsV n c) (hr : Rep N r true es0) : Inv N r true (es0 ++ fl n c) := by
  cases r with
  | nil =>
    have e : es0 = [] := hr
    have hn' : n = N := by simpa using hn
    subst hn'
    rw [e]
    exact Or.inr (Or.inl ⟨rfl, rfl, c, hc, rfl⟩)
  | cons p r =>
    obtain ⟨a, e1, rfl, hr', m, h, l, q1, q2, q3, q4, q5, q6, q7, q8, q9, q10, q11, q12, q13, q14, rfl⟩ := hr
    have hm : m = n := by simp at hn; omega
    subst hm
    have hw := q13 rfl
    simp only [hw, Bool.false_or, if_true, Bool.or_true] at q11 q12 ⊢
    refine Or.inr (Or.inr ⟨by simp, rfl, a, (hd0 h :: (kids m h l l.length ++ preN h l.length)) ++ fl m c, by simp, hr', m, h, l ++ [c], q1, q2, q3, q4, q5, q6, q7, q8, q9, ?_, ?_, ?_, fun e => (by cases e), q14, ?_⟩)
    · intro y hy
      rcases List.mem_append.1 hy with q | q
      · exact q10 y q
      · rw [List.mem_singleton.1 q]; exact hc
    · intro e; rw [q11 e, hw]; simp
    · intro e; rw [hw]; simp [q12 e]
    · rw [hw]
      simp only [List.length_append, List.length_cons, List.length_nil, Nat.zero_add, Bool.or_self, if_false, List.append_nil, List.cons_append, List.append_assoc]
      congr 1
      rw [kids_succ m h (l ++ [c]) l.length (by simp), kids_same m h h l (l ++ [c]) l.length rfl (fun _ _ => rfl) (fun i hi => by rw [List.getElem?_append_left hi])]
      simp
theorem to_busy {N : Nat} {k : Int} {w : Bool} {ns : List ByteArray} {r : List Pa} {es : List Hd} (h : Rep N ((k, w, ns) :: r) false es) (hw : w = true ∨ k = 7) : Rep N ((k, false, ns) :: r) true es := by
  obtain ⟨a, e1, rfl, hr', n, h, l, q1, q2, q3, q4, q5, q6, q7, q8, q9, q10, q11, q12, q13, q14, rfl⟩ := h
  refine ⟨a, _, rfl, hr', n, h, l, q1, q2, q3, q4, q5, q6, q7, q8, q9, q10, ?_, ?_, fun _ => rfl, fun _ => rfl, ?_⟩
  · intro e
    rcases hw with rfl | e7
    · simpa using q11 e
    · have : k = 8 := e; omega
  · intro e
    rcases hw with rfl | e7
    · simpa using q12 e
    · have : k = 9 := e; omega
  · rcases hw with rfl | e7
    · simp
    · have hp : preN h l.length = [] := by unfold preN; rw [if_neg (by rw [q2]; show k ≠ 8; omega)]
      have : w = false := q14 e7
      simp [this, hp]
theorem val_busy {N : Nat} {st st' : List Pa} {bg bg' : Bool} {es : List Hd} (h : Inv N st bg es) (hv : valE st bg = some (st', bg')) : bg' = true ∧ Rep N st' true es ∧ st'.length = st.length := by
  cases st with
  | nil =>
    cases bg with
    | true => cases hv
    | false =>
      cases hv
      rcases h with ⟨_, _, rfl⟩ | ⟨_, e, _⟩ | ⟨e, _⟩
      · exact ⟨rfl, rfl, rfl⟩
      · cases e
      · exact absurd rfl e
  | cons p r =>
    obtain ⟨k, w, ns⟩ := p
    rcases h with ⟨e, _⟩ | ⟨e, _⟩ | ⟨_, hb, hr⟩
    · cases e
    · cases e
    · have hv2 : (if w = true ∨ k = 7 then some ((k, false, ns) :: r, bg) else none) = some (st', bg') := hv
      by_cases hw : w = true ∨ k = 7
      · rw [if_pos hw] at hv2
        cases hv2
        exact ⟨hb, to_busy hr hw, rfl⟩
      · rw [if_neg hw] at hv2
        cases hv2
theorem may_fields {h : Hd} (hm : May h) : (if h.kind = 9 ∨ h.kind = 10 then ({ h with kind := 9 } : Hd) else if h.kind = 11 then { h with kind := 1 } else h).names = [] ∧ sB (if h.kind = 9 ∨ h.kind = 10 then { h with kind := 9 } else if h.kind = 11 then { h with kind := 1 } else h) = true := by
  have := (mayB_iff h).2 hm
  unfold mayB at this
  exact ⟨((sB_iff _).1 this).2.2.2.1, this⟩
theorem may_10 {h : Hd} (hm : May h) (hk : h.kind = 10) : h = evN h.text ∧ okT h.text = true := by
  have := (may_fields hm).2
  rw [if_pos (Or.inr hk)] at this
  obtain ⟨_, _, h3, h4, _, _, h7⟩ := (sB_iff _).1 this
  obtain ⟨kd, f, ng, dg, ex, bt, tx, nm⟩ := h
  simp only at hk h4
  subst hk h4
  unfold strip zr at h3
  simp at h3
  obtain ⟨rfl, rfl, rfl, rfl, rfl⟩ := h3
  exact ⟨rfl, h7 rfl⟩
theorem may_11 {h : Hd} (hm : May h) (hk : h.kind = 11) : h = evE := by
  have := (may_fields hm).2
  rw [if_neg (by omega), if_pos hk] at this
  obtain ⟨_, _, h3, h4, _, _, h7⟩ := (sB_iff _).1 this
  obtain ⟨kd, f, ng, dg, ex, bt, tx, nm⟩ := h
  simp only at hk h4
  subst hk h4
  unfold strip zr at h3
  simp at h3
  obtain ⟨rfl, rfl, rfl, rfl, rfl, rfl⟩ := h3
  rfl
theorem may_val {h : Hd} (hm : May h) (h10 : h.kind ≠ 10) (h11 : h.kind ≠ 11) : 1 ≤ h.kind ∧ h.kind ≤ 9 ∧ strip h = zr h.kind ∧ h.names = [] ∧ (h.kind = 3 → isN h.neg h.dig h.exp = true) ∧ (h.kind = 5 → okT h.text = true) ∧ (h.kind = 9 → okT h.text = true) := by
  have := (may_fields hm).2
  by_cases h9 : h.kind = 9
  · rw [if_pos (Or.inl h9)] at this
    have e : ({ h with kind := 9 } : Hd) = h := by cases h; simp at h9; subst h9; rfl
    rw [e] at this
    exact (sB_iff _).1 this
  · rw [if_neg (by omega), if_neg h11] at this
    exact (sB_iff _).1 this
theorem hd0_id {h : Hd} (hn : h.names = []) : hd0 h = h := by
  obtain ⟨kd, f, ng, dg, ex, bt, tx, nm⟩ := h
  simp only at hn
  subst hn
  rfl
theorem valE_len {st st' : List Pa} {bg bg' : Bool} (hv : valE st bg = some (st', bg')) : st'.length = st.length := by
  cases st with
  | nil =>
    cases bg with
    | true => cases hv
    | false => cases hv; rfl
  | cons p r =>
    obtain ⟨k, w, ns⟩ := p
    have hv2 : (if w = true ∨ k = 7 then some ((k, false, ns) :: r, bg) else none) = some (st', bg') := hv
    by_cases hw : w = true ∨ k = 7
    · rw [if_pos hw] at hv2
      cases hv2
      rfl
    · rw [if_neg hw] at hv2
      cases hv2
theorem inv_step {N : Nat} {st st' : List Pa} {bg bg' : Bool} {es : List Hd} {h : Hd} (hN : st.length < N) (hI : Inv N st bg es) (hm : May h) (hs : stepE st bg h = some (st', bg')) : Inv N st' bg' (es ++ [h]) ∧ st'.length ≤ st.length + 1 := by
  by_cases h10 : h.kind = 10
  · obtain ⟨he, hok⟩ := may_10 hm h10
    unfold stepE at hs
    rw [if_pos h10] at hs
    cases st with
    | nil => cases hs
    | cons p r =>
      obtain ⟨k, w, ns⟩ := p
      by_cases hc : k = 8 ∧ w = false ∧ inN ns h.text = false
      · have hs2 : some ((8, true, ns ++ [h.text]) :: r, bg) = some (st', bg') := by
          have := hs
          simp only [if_pos hc] at this
          exact this
        cases hs2
        obtain ⟨rfl, rfl, hnot⟩ := hc
        rcases hI with ⟨e, _⟩ | ⟨e, _⟩ | ⟨_, hb, a, e1, rfl, hr', n, hh, l, q1, q2, q3, q4, q5, q6, q7, q8, q9, q10, q11, q12, q13, q14, rfl⟩
        · cases e
        · cases e
        · have hlen : ns.length = l.length := by have := q11 rfl; simpa using this
          have q6' : hh.names = ns := q6
          have hk8 : hh.kind = 8 := q2
          have hmem : h.text ∉ ns := fun hin => by rw [(inN_iff ns h.text).2 hin] at hnot; cases hnot
          obtain ⟨hn1, hn2⟩ := q9 rfl
          refine ⟨Or.inr (Or.inr ⟨by simp, hb, a, _, List.append_assoc _ _ _, hr', n, { hh with names := ns ++ [h.text] }, l, q1, q2, q3, q4, ?_, rfl, fun e => absurd rfl e, fun e => (by cases e), fun _ => ⟨?_, ?_⟩, q10, ?_, fun e => (by cases e), fun e => (by cases e), fun e => (by cases e), ?_⟩), by simp⟩
          · have q5' : strip hh = zr 8 := q5
            unfold strip zr at q5' ⊢
            simp [hk8] at q5' ⊢
            exact q5'
          · intro s hs'
            rcases List.mem_append.1 hs' with q | q
            · exact hn1 s q
            · rw [List.mem_singleton.1 q]; exact hok
          · rw [List.nodup_append]
            exact ⟨hn2, by simp, fun x hx y hy => by rw [List.mem_singleton.1 hy]; rintro rfl; exact hmem hx⟩
          · intro _; simp [hlen]
          · have hk1 : kids n { hh with names := ns ++ [h.text] } l l.length = kids n hh l l.length := kids_same n hh _ l l l.length rfl (fun i hi => by show (ns ++ [h.text])[i]? = hh.names[i]?; rw [q6', List.getElem?_append_left (by omega)]) (fun _ _ => rfl)
            have hp1 : preN { hh with names := ns ++ [h.text] } l.length = [h] := by
              unfold preN
              rw [if_pos hk8]
              show [evN (((ns ++ [h.text])[l.length]?).getD ByteArray.empty)] = [h]
              rw [← hlen]
              simp [← he]
            simp only [Bool.or_false, Bool.or_self, if_true, Bool.false_eq_true, if_false, List.append_nil, hk1, hp1]
            rfl
      · simp only [if_neg hc] at hs
        cases hs
  · by_cases h11 : h.kind = 11
    · have he := may_11 hm h11
      unfold stepE at hs
      rw [if_neg h10, if_pos h11] at hs
      cases st with
      | nil => cases hs
      | cons p r =>
        obtain ⟨k, w, ns⟩ := p
        cases w with
        | true => cases hs
        | false =>
          cases hs
          rcases hI with ⟨e, _⟩ | ⟨e, _⟩ | ⟨_, hb, a, e1, rfl, hr', n, hh, l, q1, q2, q3, q4, q5, q6, q7, q8, q9, q10, q11, q12, q13, q14, rfl⟩
          · cases e
          · cases e
          · subst hb
            have q2 : hh.kind = k := q2
            have q3 : 7 ≤ k := q3
            have q4 : k ≤ 9 := q4
            have q5 : strip hh = zr k := q5
            have q6 : hh.names = ns := q6
            have hv : IsV (n + 1) ((hh, l) : VT (n + 1)) := by
              refine ⟨⟨by show 1 ≤ hh.kind; omega, by show hh.kind ≤ 9; omega, by show strip hh = zr hh.kind; rw [q2]; exact q5, Or.inl (by show 7 ≤ hh.kind; omega)⟩, ⟨fun e => ?_, fun e => ?_, fun e => ?_, fun e => ?_⟩, q10⟩
              · have : hh.kind = 3 := e; omega
              · have : hh.kind = 5 := e; omega
              · have e8 : k = 8 := q2.symm.trans e
                refine ⟨?_, ?_⟩
                · show hh.names.length = l.length
                  rw [q6]; have := q11 e8; simpa using this
                · show Nms hh.names
                  rw [q6]; exact q9 e8
              · have e9 : k = 9 := q2.symm.trans e
                exact ⟨q8 e9, by have := q12 e9; simpa using this⟩
            have hfl : fl (n + 1) ((hh, l) : VT (n + 1)) = hd0 hh :: (kids n hh l l.length ++ [evE]) := by rw [fl_succ, if_neg (by omega)]
            have hd := child_done N _ a (n + 1) (hh, l) q1 hv hr'
            rw [hfl] at hd
            refine ⟨?_, by simp; omega⟩
            rw [he]
            simpa using hd
    · obtain ⟨m1, m2, m3, m4, m5, m6, m7⟩ := may_val hm h10 h11
      unfold stepE at hs
      rw [if_neg h10, if_neg h11] at hs
      cases hv : valE st bg with
      | none => rw [hv] at hs; cases hs
      | some x =>
        obtain ⟨s1, b1⟩ := x
        rw [hv] at hs
        have hs2 : some (newE h.kind ++ s1, b1) = some (st', bg') := hs
        cases hs2
        obtain ⟨hb, hrep, hlen⟩ := val_busy hI hv
        subst hb
        obtain ⟨n, hn⟩ : ∃ n, s1.length + (n + 1) = N := ⟨N - s1.length - 1, by omega⟩
        by_cases h7 : h.kind < 7
        · have hnew : newE h.kind = [] := by unfold newE; rw [if_neg (by omega), if_neg (by omega), if_neg (by omega)]
          rw [hnew]
          have hv2 : IsV (n + 1) ((h, []) : VT (n + 1)) := ⟨⟨m1, m2, m3, Or.inr rfl⟩, ⟨m5, m6, fun e => (by have : h.kind = 8 := e; omega), fun e => (by have : h.kind = 9 := e; omega)⟩, fun y hy => (by cases hy)⟩
          have hd := child_done N s1 es (n + 1) (h, []) hn hv2 hrep
          rw [fl_succ, if_pos h7, hd0_id m4] at hd
          exact ⟨hd, by simp; omega⟩
        · have hk : h.kind = 7 ∨ h.kind = 8 ∨ h.kind = 9 := by omega
          have hnew : newE h.kind = [(h.kind, decide (h.kind = 9), [])] := by
            rcases hk with e | e | e <;> rw [e] <;> rfl
          rw [hnew]
          refine ⟨Or.inr (Or.inr ⟨by simp, rfl, es, [h], rfl, hrep, n, h, [], hn, rfl, by show 7 ≤ h.kind; omega, m2, m3, m4, fun _ => rfl, m7, fun _ => ⟨fun s hs' => (by cases hs'), List.nodup_nil⟩, fun y hy => (by cases hy), ?_, ?_, fun e => (by cases e), ?_, ?_⟩), by simp; omega⟩
          · intro e
            have e8 : h.kind = 8 := e
            simp [e8]
          · intro e
            have e9 : h.kind = 9 := e
            simp [e9]
          · intro e
            have e7 : h.kind = 7 := e
            simp [e7]
          · have hp : (if (decide (h.kind = 9) || false) = true then preN h 0 else []) = [] := by
              by_cases e9 : h.kind = 9
              · simp only [e9, decide_true, Bool.true_or, if_true]
                unfold preN
                rw [if_neg (by omega)]
              · simp [e9]
            show [h] = hd0 h :: (kids n h [] 0 ++ (if (decide (h.kind = 9) || false) = true then preN h 0 else []))
            rw [hp, kids_zero, hd0_id m4]
            rfl
theorem run_inv (N : Nat) : ∀ (k : Nat) (es : List Hd), es.length = k → k ≤ N → ∀ (st : List Pa) (bg : Bool), runE es = some (st, bg) → Inv N st bg es ∧ st.length ≤ es.length := by
  intro k
  induction k with
  | zero =>
    intro es hl _ st bg hr
    have e : es = [] := List.eq_nil_of_length_eq_zero hl
    subst e
    have : some (([] : List Pa), false) = some (st, bg) := hr
    cases this
    exact ⟨Or.inl ⟨rfl, rfl, rfl⟩, by simp⟩
  | succ k ih =>
    intro es hl hN st bg hr
    rcases List.eq_nil_or_concat es with rfl | ⟨p, h, rfl⟩
    · cases hl
    · rw [List.concat_eq_append] at hl hr ⊢
      have hp : p.length = k := by simpa using hl
      have hr2 : feedE (runE p) (mayB h) h = some (st, bg) := by
        unfold runE at hr ⊢
        rw [runS_app] at hr
        exact hr
      cases hq : runE p with
      | none => rw [hq, feedE_none] at hr2; cases hr2
      | some x =>
        obtain ⟨s0, b0⟩ := x
        rw [hq] at hr2
        cases hmb : mayB h with
        | false => rw [hmb] at hr2; cases hr2
        | true =>
          have hm := (mayB_iff h).1 hmb
          rw [feedE_ok hm] at hr2
          obtain ⟨h1, h2⟩ := ih p hp (by omega) s0 b0 hq
          obtain ⟨h3, h4⟩ := inv_step (by omega) h1 hm hr2
          exact ⟨h3, by simp; omega⟩
/-- Events at which a checker is done are a value's. -/
theorem parse (es : List Hd) (hd : runE es = some ([], true)) : ∃ x : VT es.length, IsV es.length x ∧ es = fl es.length x := by
  obtain ⟨h, _⟩ := run_inv es.length es.length es rfl (Nat.le_refl _) [] true hd
  rcases h with ⟨_, e, _⟩ | ⟨_, _, x, h1, h2⟩ | ⟨e, _⟩
  · cases e
  · exact ⟨x, h1, h2⟩
  · exact absurd rfl e
end Go.Proofs.YthbfopdeaknbkaaDoor
/- event.build over a slice of capacity 1: walked. -/
namespace Go.Proofs.YthbfopdeaknbkaaDoor
open Go.RowKit
set_option linter.unusedSimpArgs false
set_option linter.unusedVariables false
set_option maxHeartbeats 4000000 in
set_option maxRecDepth 100000 in
theorem build_one (n : Nat) (h : Hd) (h7 : h.kind < 7) (hn0 : h.names = []) (b o : Nat) (w : World) (he : EL w b o [h]) (hb : b < w.heap.size) :
    Calls Tryd.prog 32 #[.slice (some ⟨b, o, none⟩) 1 1] w fun e w' => ∃ ns ls sv, e = .returned (.tuple #[.agg (vals h ns ls), sv]) ∧ Hid (KR (n + 1) w' ((h, []) : VT (n + 1)) ns ls w.heap.size w'.heap.size) ∧ Hid (Below w.heap.size w w') := by
    obtain ⟨c0, c1, c2, c3, c4, c5, c6⟩ := range7 he.head
    have hd := hide (head_ex h)
    simp only [evs, vals] at hd
    clear he
    go_enter Tryd.func32, Tryd.ntmps32
    go_wp2_with fail
    rename_i Q K hK
    have key : ∀ (V : Nat) (W : World), Below w.heap.size w W → Bx W V h (.slice none 0 0) (.slice none 0 0) → Bx W w.heap.size (zr 0) (.slice none 0 0) (.slice none 0 0) → w.heap.size < V →
        K { tmps := #[.slice (some ⟨b, o, none⟩) 0 0, undef, .pointer (some ⟨w.heap.size, 0, none⟩), .slice none 0 0, .pointer (some ⟨V, 0, none⟩), undef, .slice (some ⟨b, o, none⟩) 1 1, .pointer (some ⟨b, o, none⟩), .agg #[.int .i64 h.kind, .bool h.flag, .bool h.neg, .string h.dig, .int .i64 h.exp, .int .u64 h.bits, .string h.text], .agg #[.int .i64 h.kind, .bool h.flag, .bool h.neg, .string h.dig, .int .i64 h.exp, .int .u64 h.bits, .string h.text, .slice none 0 0, .slice none 0 0], .slice (some ⟨b, o, none⟩) 1 1, .slice (some ⟨b, o, none⟩) 0 0, undef, undef, undef, undef, undef, undef, undef, undef, undef, undef, undef, undef, undef, undef, undef, undef, undef, undef, undef, undef, undef, undef, undef, undef, undef, undef, undef, undef, undef, undef, undef, undef, undef, undef, undef, undef, undef, undef], defers := [] } W := by
      intro V W hbW hbx hR hV
      have hVl := hbx.lt
      refine hK _ _ ?_
      clear hK hd c0 c1 c2 c3 c4 c5 c6
      obtain ⟨d0, d1, d2, d3, d4, d5, d6, d7, d8⟩ := hbx.cells
      obtain ⟨r0, r1, r2, r3, r4, r5, r6, r7, r8⟩ := hR.cells
      have fz := hR.frz
      simp only [zr] at r0 r1 r2 r3 r4 r5 r6
      go_wp2_with fail
      refine bodyPost_ret (v := .tuple #[.agg #[.int .i64 h.kind, .bool h.flag, .bool h.neg, .string h.dig, .int .i64 h.exp, .int .u64 h.bits, .string h.text, .slice none 0 0, .slice none 0 0], .slice (some ⟨b, o, none⟩) 0 0]) (by simp [results, Tryd.results32, go_sem, *]) rfl ⟨.slice none 0 0, .slice none 0 0, _, rfl, ?_, ?_⟩
      · exact KR.leaf hn0 (by simp; exact hbW.size)
      · show Below _ _ _
        iterate 9 refine Below.setCell ?_ (by show _ ≤ _; exact Nat.le_refl _) _
        exact hbW
    have A1 : Bx ((((w.alloc (.cells #[.int .i64 0, .bool false, .bool false, .string ⟨#[]⟩, .int .i64 0, .int .u64 0, .string ⟨#[]⟩, .slice none 0 0, .slice none 0 0] 29)).alloc (.cells (vals h (.slice none 0 0) (.slice none 0 0)) 29)).alloc (.cells (evs h) 42)).alloc (.cells (vals h (.slice none 0 0) (.slice none 0 0)) 29)).drew (w.heap.size + 1) h (.slice none 0 0) (.slice none 0 0) := by
      have := bx_new (w.alloc (.cells #[.int .i64 0, .bool false, .bool false, .string ⟨#[]⟩, .int .i64 0, .int .u64 0, .string ⟨#[]⟩, .slice none 0 0, .slice none 0 0] 29)) h (.slice none 0 0) (.slice none 0 0)
      rw [World.size_alloc] at this
      exact this.below (Below.drew (below_al (below_al (Below.refl _ _))))
    have A3 : Bx ((((w.alloc (.cells #[.int .i64 0, .bool false, .bool false, .string ⟨#[]⟩, .int .i64 0, .int .u64 0, .string ⟨#[]⟩, .slice none 0 0, .slice none 0 0] 29)).alloc (.cells (evs h) 42)).alloc (.cells (vals h (.slice none 0 0) (.slice none 0 0)) 29)).alloc (.cells (vals h (.slice none 0 0) (.slice none 0 0)) 29)).drew (w.heap.size + 1 + 1 + 1) h (.slice none 0 0) (.slice none 0 0) := by
      have := bx_new (((w.alloc (.cells #[.int .i64 0, .bool false, .bool false, .string ⟨#[]⟩, .int .i64 0, .int .u64 0, .string ⟨#[]⟩, .slice none 0 0, .slice none 0 0] 29)).alloc (.cells (evs h) 42)).alloc (.cells (vals h (.slice none 0 0) (.slice none 0 0)) 29)) h (.slice none 0 0) (.slice none 0 0)
      rw [World.size_alloc, World.size_alloc, World.size_alloc] at this
      exact this.drew
    have R1 : ∀ o1 o2 o3, Bx ((((w.alloc (.cells #[.int .i64 0, .bool false, .bool false, .string ⟨#[]⟩, .int .i64 0, .int .u64 0, .string ⟨#[]⟩, .slice none 0 0, .slice none 0 0] 29)).alloc o1).alloc o2).alloc o3).drew w.heap.size (zr 0) (.slice none 0 0) (.slice none 0 0) := fun o1 o2 o3 =>
      (bx_new w (zr 0) (.slice none 0 0) (.slice none 0 0)).below (Below.drew (below_al (below_al (below_al (Below.refl _ _)))))
    have B1 : ∀ o0 o1 o2 o3, Below w.heap.size w ((((w.alloc o0).alloc o1).alloc o2).alloc o3).drew := fun o0 o1 o2 o3 => Below.drew (below_al (below_al (below_al (below_al (Below.refl _ _)))))
    have k1 := key _ _ (B1 _ _ _ _) A1 (R1 _ _ _) (by omega)
    have k3 := key _ _ (B1 _ _ _ _) A3 (R1 _ _ _) (by omega)
    clear key hK A1 A3 R1 B1
    simp only [evs, vals] at k1 k3
    go_region_with (go_at_call 45; refine (hd.out _).mono ?_; rintro e w1 ⟨rfl, rfl⟩)
    all_goals first | exact k1 | exact k3
end Go.Proofs.YthbfopdeaknbkaaDoor
/- What EventRound leans on. -/
namespace Go.Proofs.YthbfopdeaknbkaaDoor
open Go.RowKit
set_option linter.unusedSimpArgs false
set_option linter.unusedVariables false
theorem doneS_iff (s : Option (List Pa × Bool)) : doneS s = true ↔ s = some ([], true) := by
  constructor
  · intro h
    match s, h with
    | some ([], true), _ => rfl
  · rintro rfl; rfl
theorem step_full (h : Hd) : stepE [] true h = none := by
  unfold stepE
  by_cases h10 : h.kind = 10
  · rw [if_pos h10]
  · rw [if_neg h10]
    by_cases h11 : h.kind = 11
    · rw [if_pos h11]
    · rw [if_neg h11]; rfl
/-- What is done is not done before its end. -/
theorem not_done (es : List Hd) (hd : runE es = some ([], true)) (k : Nat) (hk : k < es.length) : doneS (runE (es.take k)) = false := by
  rw [Bool.eq_false_iff]
  intro h
  have h1 := (doneS_iff _).1 h
  have h2 := List.take_append_drop k es
  rw [← h2] at hd
  unfold runE at hd h1
  rw [runS_app, h1] at hd
  rw [List.drop_eq_getElem_cons hk, runS_cons] at hd
  have h3 : feedE (some ([], true)) (mayB es[k]) es[k] = none := by
    unfold feedE
    cases mayB es[k]
    · rfl
    · exact step_full _
  rw [h3, runS_none] at hd
  cases hd
theorem fl_siz : ∀ (n : Nat) (x : VT n), IsV n x → siz n x ≤ (fl n x).length
  | 0, x, _ => Empty.elim x
  | n + 1, (h, l), hv => by
    obtain ⟨⟨b1, b2, b3, b4⟩, _, hc⟩ := hv
    have hc : ∀ y ∈ l, IsV n y := hc
    have hk : ∀ k, k ≤ l.length → suml ((l.take k).map (siz n)) ≤ (kids n h l k).length := by
      intro k
      induction k with
      | zero => intro _; simp [suml]
      | succ k ih =>
        intro hk
        have h1 := ih (by omega)
        have h2 := fl_siz n l[k] (hc _ (List.getElem_mem (by omega)))
        rw [kids_succ n h l k (by omega), List.take_succ_eq_append_getElem (by omega), List.map_append, suml_app]
        simp only [List.length_append, List.map_cons, List.map_nil, suml]
        omega
    have h1 := hk l.length (Nat.le_refl _)
    rw [List.take_length] at h1
    rw [fl_succ]
    simp only [siz, List.length_cons]
    by_cases h7 : h.kind < 7
    · rw [if_pos h7]
      have hl : l = [] := by rcases b4 with q | q; exact absurd h7 (by have : 7 ≤ h.kind := q; omega); exact q
      subst hl
      simp [suml]
    · rw [if_neg h7]
      simp only [List.length_append, List.length_cons, List.length_nil]; omega
theorem kids_mem (n : Nat) (h : Hd) (l : List (VT n)) (i : Nat) (hi : i < l.length) : ∀ e, (e ∈ preN h i ∨ e ∈ fl n l[i]) → e ∈ kids n h l l.length := by
  intro e he
  unfold kids
  refine List.mem_flatten.2 ⟨kid n h l i, List.mem_map.2 ⟨i, List.mem_range.2 hi, rfl⟩, ?_⟩
  unfold kid
  rw [List.getElem?_eq_getElem hi]
  exact List.mem_append.2 he
theorem siz_pos : ∀ (n : Nat) (x : VT n), 1 ≤ siz n x
  | 0, x => Empty.elim x
  | n + 1, x => by simp only [siz]; omega
theorem len_suml (n : Nat) (l : List (VT n)) : l.length ≤ suml (l.map (siz n)) := by
  induction l with
  | nil => simp
  | cons a l ih =>
    simp only [List.map_cons, suml, List.length_cons]
    have := siz_pos n a
    omega
theorem fl_sz : ∀ (n : Nat) (x : VT n), IsV n x → (fl n x).length ≤ 50000 → (∀ e ∈ fl n x, EvZ e) → Sz n x
  | 0, x, _, _, _ => Empty.elim x
  | n + 1, (h, l), hv, hlen, hz => by
    have hs := fl_siz (n + 1) (h, l) hv
    obtain ⟨⟨b1, b2, b3, b4⟩, ⟨f1, f2, f3, f4⟩, hc⟩ := hv
    have hc : ∀ y ∈ l, IsV n y := hc
    rw [fl_succ] at hz hlen
    obtain ⟨z1, z2, _⟩ := hz (hd0 h) (by simp)
    have hnm : h.kind ≠ 8 → h.names = [] := fun h8 => strip_names h b3 h8
    by_cases h7 : h.kind < 7
    · have hl : l = [] := by rcases b4 with q | q; exact absurd h7 (by have : 7 ≤ h.kind := q; omega); exact q
      subst hl
      have hn := hnm (by omega)
      exact ⟨z1, z2, by show h.names.length ≤ _; rw [hn]; simp, (by intro s hs'; have : s ∈ h.names := hs'; rw [hn] at this; cases this), fun y hy => (by cases hy)⟩
    · rw [if_neg h7] at hz hlen
      have hkz : ∀ e ∈ kids n h l l.length, EvZ e := fun e he => hz e (by simp [he])
      have hkl : (kids n h l l.length).length ≤ 50000 := by simp at hlen; omega
      refine ⟨z1, z2, ?_, ?_, ?_⟩
      · show h.names.length ≤ _
        by_cases h8 : h.kind = 8
        · have h3 : h.names.length = l.length := (f3 h8).1
          have h4 : siz (n + 1) ((h, l) : VT (n + 1)) = 1 + suml (l.map (siz n)) := rfl
          have h5 := len_suml n l
          have h6 : (fl (n + 1) ((h, l) : VT (n + 1))).length ≤ 50002 := by rw [fl_succ, if_neg h7]; simp; omega
          omega
        · rw [hnm h8]; simp
      · intro s hs'
        have hs' : s ∈ h.names := hs'
        by_cases h8 : h.kind = 8
        · obtain ⟨i, hi, rfl⟩ := List.getElem_of_mem hs'
          have h3 : h.names.length = l.length := (f3 h8).1
          have hp : preN h i = [evN h.names[i]] := by unfold preN; rw [if_pos h8]; simp [hi]
          exact (hkz (evN h.names[i]) (kids_mem n h l i (by omega) _ (Or.inl (by rw [hp]; simp)))).1
        · rw [hnm h8] at hs'; cases hs'
      · intro y hy
        obtain ⟨i, hi, rfl⟩ := List.getElem_of_mem hy
        have hi : i < l.length := hi
        refine fl_sz n _ (hc _ (List.getElem_mem hi)) ?_ (fun e he => hkz e (kids_mem n h l i hi e (Or.inr he)))
        have h1 := kids_succ n h l i hi
        have h2 := (kids_le n h l (k := i + 1) (by omega)).length_le
        rw [h1] at h2
        simp only [List.length_append] at h2
        show (fl n l[i]).length ≤ 50000
        omega
set_option maxHeartbeats 2000000 in
set_option maxRecDepth 100000 in
/-- Build of no events. -/
theorem Build_empty (a : Option Addr) (c : Nat) (w : World) : Calls Tryd.prog 17 #[.slice a 0 c] w fun e w' => Below w.heap.size w w' ∧ e = .returned (.tuple #[.agg #[.int .i64 0, .bool false, .bool false, .string ⟨#[]⟩, .int .i64 0, .int .u64 0, .string ⟨#[]⟩, .slice none 0 0, .slice none 0 0], .int .i64 51]) := by
  have hnew := hide cnew_any
  go_enter Tryd.func17, Tryd.ntmps17
  go_wp2_with (go_at_call 19; refine Stop.out ?_)
  refine Stop.mk ((hnew.out _).mono ?_)
  rintro e w1 ⟨rfl, hk1, hb1⟩
  simp only [World.size_alloc] at hk1
  have z1 : w.heap.size + 1 < w1.heap.size := hk1.lt
  have HR1 := hide ((bx_new w (zr 0) (.slice none 0 0) (.slice none 0 0)).below hb1)
  have HB1 := hide (below_then (below_al (Below.refl _ _)) hb1)
  have HC1 := hide (CkS.new hk1 (by omega))
  clear hk1 hb1 hnew
  go_wp2_with fail
  go_loopw [13] (fun u W => u = .int .i64 0 ∧ W = w1) (fun _ _ => 0)
  case atStart => exact ⟨rfl, rfl⟩
  case round =>
    obtain ⟨rfl, rfl⟩ := hrel
    have dn := hide HC1.out.done
    simp only [doneS] at dn
    obtain ⟨r0, r1, r2, r3, r4, r5, r6, r7, r8⟩ := HR1.out.cells
    have fR := HR1.out.frz
    simp only [zr] at r0 r1 r2 r3 r4 r5 r6
    go_wp2_with (go_at_call 20; refine Stop.out ?_)
    refine Stop.mk (dn.out.mono ?_)
    rintro e w2 ⟨rfl, m2, rfl⟩
    go_wp2_with fail
    refine bodyPost_ret (v := .tuple #[.agg #[.int .i64 0, .bool false, .bool false, .string ⟨#[]⟩, .int .i64 0, .int .u64 0, .string ⟨#[]⟩, .slice none 0 0, .slice none 0 0], .int .i64 51]) (by simp [results, Tryd.results17, go_sem, *]) rfl ⟨?_, rfl⟩
    (iterate 9 (refine Below.setCell ?_ (by show _ ≤ _; exact Nat.le_refl _) _))
    exact HB1.out.trans ⟨rfl, rfl, rfl, Nat.le_refl _, fun _ _ => rfl⟩
end Go.Proofs.YthbfopdeaknbkaaDoor
/- event.Build over a slice of capacity 1, and over any slice: walked. -/
namespace Go.Proofs.YthbfopdeaknbkaaDoor
open Go.RowKit
set_option linter.unusedSimpArgs false
set_option linter.unusedVariables false
theorem build_c1 : ∀ (n : Nat) (x : VT n), NF n x → (fl n x).length ≤ 1 → ∀ (b o : Nat) (W : World), EL W b o (fl n x) → b < W.heap.size →
    Calls Tryd.prog 32 #[.slice (some ⟨b, o, none⟩) (fl n x).length 1] W fun e w' => ∃ ns ls sv, e = .returned (.tuple #[.agg (vals (vhd n x) ns ls), sv]) ∧ Hid (KR n w' x ns ls W.heap.size w'.heap.size) ∧ Hid (Below W.heap.size W w') ∧ True
  | 0, x, _, _, _, _, _, _, _ => Empty.elim x
  | n + 1, (h, l), nf, hl, b, o, W, he, hb => by
    have h7 : h.kind < 7 := by
      by_cases h7 : h.kind < 7
      · exact h7
      · rw [fl_succ, if_neg h7] at hl
        simp at hl
    have hl0 : l = [] := nf.2.2.1 h7
    subst hl0
    have hn0 : h.names = [] := nf.2.2.2.2.1 (by show h.kind ≠ 8; omega)
    have hf : fl (n + 1) ((h, []) : VT (n + 1)) = [h] := by rw [fl_succ, if_pos h7, hd0_id hn0]
    rw [hf] at he ⊢
    refine (build_one n h h7 hn0 b o W he hb).mono ?_
    rintro e w' ⟨ns, ls, sv, rfl, h1, h2⟩
    exact ⟨ns, ls, sv, rfl, h1, h2, trivial⟩
set_option maxHeartbeats 4000000 in
set_option maxRecDepth 100000 in
theorem Build_one (es : List Hd) (b o : Nat) (w : World) (hB : Bd w es b o 1) (g : Ut.Gu w) (n : Nat) (x : VT n) (tr : doneS (runE es) = true → es = fl n x ∧ NF n x ∧ Sz n x ∧ siz n x ≤ 200000) (E : Int) (hE : Chk n x E) :
    Calls Tryd.prog 17 #[.slice (some ⟨b, o, none⟩) es.length 1] w fun e w' => Below w.heap.size w w' ∧ BR es n x E w w' e := by
  have hnew := hide cnew_any
  have hlen := hB.len
  have hmax := hB.max
  have hsm := hB.small
  have hlt := hB.lt
  have hB' := hide hB
  have tr' := hide tr
  have hE' := hide hE
  have g' := hide g
  have ml : maxLen = 9223372036854775807 := rfl
  clear hB tr hE g
  go_enter Tryd.func17, Tryd.ntmps17
  go_wp2_with (go_at_call 19; refine (hnew.out _).mono ?_; rintro e w1 ⟨rfl, hk1, hb1⟩)
  simp only [World.size_alloc] at hk1
  have z1 : w.heap.size + 1 < w1.heap.size := hk1.lt
  have HR1 := hide ((bx_new w (zr 0) (.slice none 0 0) (.slice none 0 0)).below hb1)
  have HB1 := hide (below_then (below_al (Below.refl _ _)) hb1)
  have HC1 := hide (CkS.new hk1 (by omega))
  clear hk1 hb1 hnew
  go_loopw [13] (fun u W => ∃ k : Nat, u = .int .i64 k ∧ k ≤ es.length ∧ Hid (CkS W (w.heap.size + 1) (w.heap.size + 1 + 1) k (runE (es.take k)) ∧ runE (es.take k) ≠ none ∧ Below w.heap.size w W ∧ Bx W w.heap.size (zr 0) (.slice none 0 0) (.slice none 0 0) ∧ w.heap.size + 1 < W.heap.size)) (fun u _ => es.length - (intOf u).toNat)
  case atStart => exact ⟨0, rfl, Nat.zero_le _, hide ⟨by simpa [runE, runS] using HC1.out, by simp [runE, runS], HB1.out, HR1.out, z1⟩⟩
  case round =>
    obtain ⟨k, rfl, hk, HH⟩ := hrel
    obtain ⟨hC, hne, hbw, hR, hz⟩ := HH.out
    have hbr : b < wr.heap.size := Nat.lt_of_lt_of_le hlt hbw.size
    have zw : w.heap.size < wr.heap.size := by omega
    obtain ⟨r0, r1, r2, r3, r4, r5, r6, r7, r8⟩ := hR.cells
    have fR := hR.frz
    simp only [zr] at r0 r1 r2 r3 r4 r5 r6
    clear HC1 HR1 HB1 HH
    by_cases hkl : k < es.length
    · have hki : (k : Int) < (es.length : Int) := by omega
      obtain ⟨c0, c1, c2, c3, c4, c5, c6⟩ := range7 (rangeAt_below (hB'.out.at k hkl) hbw hlt)
      have fd := hide (cfeed_any (W := wr.alloc (.cells (evs es[k]) 42)) (i := w.heap.size + 1) (B := w.heap.size + 1 + 1) (n := k) (runE (es.take k)) es[k] (hB'.out.ez _ (List.getElem_mem hkl)) (hC.then (below_al (Below.refl _ _))) (by simp; omega) (by omega) (by simp; omega) (by omega) (g'.out.below (below_al hbw)) (mayB es[k]) (mayB_iff _))
      rw [← runE_take es k hkl] at fd
      obtain ⟨h, hh⟩ : ∃ h, es[k] = h := ⟨_, rfl⟩
      rw [hh] at c0 c1 c2 c3 c4 c5 c6 fd
      simp only [evs] at fd
      have hR' := hide hR
      have hbw' := hide hbw
      have hrun := hide (fun q : runE (es.take (k + 1)) = none => runE_cut es (k + 1) q)
      obtain ⟨s, hs⟩ : ∃ s, runE (es.take (k + 1)) = s := ⟨_, rfl⟩
      rw [hs] at fd hrun
      have hs' := hide hs
      clear hC hne hR hbw hs
      cases s with
      | none =>
        go_wp2_with (go_at_call 23; refine fd.out.mono ?_; rintro e w2 ⟨rfl, hc2', hb2⟩; have R2 := hide ((hR'.out.below (below_al (Below.refl _ _))).low hb2 (Nat.lt_succ_self _)); obtain ⟨r0, r1, r2, r3, r4, r5, r6, r7, r8⟩ := R2.out.cells; have fR := R2.out.frz; simp only [zr] at r0 r1 r2 r3 r4 r5 r6; have B2 := hide ((below_al hbw'.out).trans (hb2.mono (Nat.le_succ _))); clear hc2' hb2)
        refine bodyPost_ret (v := .tuple #[.agg #[.int .i64 0, .bool false, .bool false, .string ⟨#[]⟩, .int .i64 0, .int .u64 0, .string ⟨#[]⟩, .slice none 0 0, .slice none 0 0], .int .i64 50]) (by simp [results, Tryd.results17, go_sem, *]) rfl ⟨?_, ?_⟩
        · (iterate 9 (refine Below.setCell ?_ (by show _ ≤ _; exact Nat.le_refl _) _))
          exact B2.out
        · have hn := hrun.out trivial
          exact ⟨fun _ => rfl, fun h => absurd hn h, fun h => by rw [hn] at h; cases h⟩
      | some y =>
        go_wp2_with (go_at_call 23; refine fd.out.mono ?_; rintro e w2 ⟨rfl, hc2', hb2⟩; have R2 := hide ((hR'.out.below (below_al (Below.refl _ _))).low hb2 (Nat.lt_succ_self _)); have B2 := hide ((below_al hbw'.out).trans (hb2.mono (Nat.le_succ _))); have C2 := hide hc2'; have z2 := hb2.size; simp only [World.size_alloc] at z2; clear hc2' hb2)
        exact ⟨⟨k + 1, by go_num, by omega, hide ⟨by rw [hs'.out]; exact C2.out, by rw [hs'.out]; simp, B2.out, R2.out, by omega⟩⟩, by simp [intOf]; omega⟩
    · have hki : ¬ ((k : Int) < (es.length : Int)) := by omega
      have hkeq : k = es.length := by omega
      subst hkeq
      rw [List.take_length] at hC hne
      have dn := hide hC.done
      have hne' := hide hne
      have hR' := hide hR
      have hbw' := hide hbw
      clear hC hne hR hbw
      have drewN_below : ∀ m, Below wr.heap.size wr (wr.drewN m) := fun m => ⟨rfl, rfl, rfl, Nat.le_refl _, fun _ _ => rfl⟩
      by_cases hd : doneS (runE es) = true
      · obtain ⟨he, nf, sz, le⟩ := tr'.out hd
        have bl := hide (fun W (hb : Below w.heap.size w W) => build_c1 n x nf (by rw [← he]; exact hlen) b o W (by rw [← he]; exact hB'.out.el.below hb hlt) (Nat.lt_of_lt_of_le hlt hb.size))
        have ck := hide (fun W ns ls (hb : Below w.heap.size w W) (hr : RD n W x ns ls) => check_any n x ns ls W ⟨hr, sz, le⟩ (g'.out.below hb) E hE'.out)
        rw [hd] at dn
        have dd := hide drewN_below
        have he' := hide he
        have hd' := hide hd
        rw [← he] at bl
        obtain ⟨hx, hhx⟩ : ∃ hx, vhd n x = hx := ⟨_, rfl⟩
        rw [hhx] at bl ck
        simp only [vals] at bl ck
        clear drewN_below r0 r1 r2 r3 r4 r5 r6 r7 r8 fR hd he
        go_wp2_with (go_at_call 20; refine dn.out.mono ?_; rintro e w2 ⟨rfl, m2, rfl⟩)
        have B2 := hide (hbw'.out.trans ((dd.out m2).mono hbw'.out.size))
        refine (bl.out _ B2.out).mono ?_
        rintro e w3 ⟨ns3, ls3, sv, rfl, hk3, hb3, _⟩
        obtain ⟨q1, q2, q3, q4, q5, q6, rfl, rfl⟩ := hk3.out.rd.shape
        have B3 := hide (below_then B2.out hb3.out)
        have z3 : wr.heap.size ≤ w3.heap.size := hb3.out.size
        have R3 := hide ((hR'.out.below (dd.out m2)).below hb3.out)
        by_cases hE0 : E = 0
        · subst hE0
          go_wp2_with (go_at_call 27; refine (ck.out _ _ _ (below_al B3.out) (hk3.out.rd.below (below_al (Below.refl _ _)))).mono ?_; rintro e w4 ⟨rfl, hb4⟩; have R4 := hide ((R3.out.below (below_al (Below.refl _ _))).below hb4); obtain ⟨r0, r1, r2, r3, r4, r5, r6, r7, r8⟩ := R4.out.cells; have fR := R4.out.frz; simp only [zr] at r0 r1 r2 r3 r4 r5 r6; have V4 := hide ((bx_new w3 hx (.slice q1 q2 q3) (.slice q4 q5 q6)).below hb4); obtain ⟨v0, v1, v2, v3, v4, v5, v6, v7, v8⟩ := V4.out.cells; have B4 := hide (below_then (below_al B3.out) hb4); have z4 := hb4.size; simp only [World.size_alloc] at z4; have K4 := hide (hk3.out.move (W1 := w4) (by omega) (fun q p1 p2 => by rw [hb4.block q (by simp; omega), Below.heap_alloc _ _ _ p2])); clear hb4)
          refine bodyPost_ret (v := .tuple #[.agg #[.int .i64 hx.kind, .bool hx.flag, .bool hx.neg, .string hx.dig, .int .i64 hx.exp, .int .u64 hx.bits, .string hx.text, .slice q1 q2 q3, .slice q4 q5 q6], .int .i64 0]) (by simp [results, Tryd.results17, go_sem, *]) rfl ⟨?_, ?_⟩
          · (iterate 9 (refine Below.setCell ?_ (by show _ ≤ _; exact Nat.le_refl _) _))
            exact B4.out
          · refine ⟨fun h => absurd h hne'.out, fun _ h => (by rw [hd'.out] at h; cases h), fun _ => ⟨fun h => absurd rfl h, fun _ => ⟨.slice q1 q2 q3, .slice q4 q5 q6, wr.heap.size, w3.heap.size, by rw [hhx]; rfl, by omega, ?_⟩⟩⟩
            refine hide (K4.out.move (by simp; omega) ?_)
            intro q p1 p2
            have p1' : wr.heap.size ≤ q := p1
            simp only [heap_set_ne (show q ≠ w.heap.size by omega)]
        · have hE1 : (E != 0) = true := by simpa using hE0
          go_wp2_with (go_at_call 27; refine (ck.out _ _ _ (below_al B3.out) (hk3.out.rd.below (below_al (Below.refl _ _)))).mono ?_; rintro e w4 ⟨rfl, hb4⟩; have R4 := hide ((R3.out.below (below_al (Below.refl _ _))).below hb4); obtain ⟨r0, r1, r2, r3, r4, r5, r6, r7, r8⟩ := R4.out.cells; have fR := R4.out.frz; simp only [zr] at r0 r1 r2 r3 r4 r5 r6; have V4 := hide ((bx_new w3 hx (.slice q1 q2 q3) (.slice q4 q5 q6)).below hb4); obtain ⟨v0, v1, v2, v3, v4, v5, v6, v7, v8⟩ := V4.out.cells; have B4 := hide (below_then (below_al B3.out) hb4); have z4 := hb4.size; simp only [World.size_alloc] at z4; have K4 := hide (hk3.out.move (W1 := w4) (by omega) (fun q p1 p2 => by rw [hb4.block q (by simp; omega), Below.heap_alloc _ _ _ p2])); clear hb4)
          refine bodyPost_ret (v := .tuple #[.agg #[.int .i64 0, .bool false, .bool false, .string ⟨#[]⟩, .int .i64 0, .int .u64 0, .string ⟨#[]⟩, .slice none 0 0, .slice none 0 0], .int .i64 2]) (by simp [results, Tryd.results17, go_sem, *]) rfl ⟨?_, ?_⟩
          · (iterate 9 (refine Below.setCell ?_ (by show _ ≤ _; exact Nat.le_refl _) _))
            exact B4.out
          · exact ⟨fun h => absurd h hne'.out, fun _ h => (by rw [hd'.out] at h; cases h), fun _ => ⟨fun _ => rfl, fun h => absurd h hE0⟩⟩
      · rw [Bool.not_eq_true] at hd
        rw [hd] at dn
        have hd' := hide hd
        have dd := hide (fun m => (hR'.out.below (drewN_below m)).cells)
        have df := hide (fun m => (hR'.out.below (drewN_below m)).frz)
        have db := hide drewN_below
        clear drewN_below r0 r1 r2 r3 r4 r5 r6 r7 r8 fR hd
        go_wp2_with (go_at_call 20; refine dn.out.mono ?_; rintro e w2 ⟨rfl, m2, rfl⟩; obtain ⟨r0, r1, r2, r3, r4, r5, r6, r7, r8⟩ := dd.out m2; have fR := df.out m2; simp only [zr] at r0 r1 r2 r3 r4 r5 r6)
        refine bodyPost_ret (v := .tuple #[.agg #[.int .i64 0, .bool false, .bool false, .string ⟨#[]⟩, .int .i64 0, .int .u64 0, .string ⟨#[]⟩, .slice none 0 0, .slice none 0 0], .int .i64 51]) (by simp [results, Tryd.results17, go_sem, *]) rfl ⟨?_, ?_⟩
        · (iterate 9 (refine Below.setCell ?_ (by show _ ≤ _; exact Nat.le_refl _) _))
          exact hbw'.out.trans ((db.out m2).mono hbw'.out.size)
        · exact ⟨fun h => absurd h hne'.out, fun _ _ => rfl, fun h => by rw [hd'.out] at h; cases h⟩
/-- What Build answers of any slice of events. -/
theorem Build_es (v : Value) (es : List Hd) (w : World) (hv : ES w v es) (hs : es.length ≤ 50000) (hz : ∀ e ∈ es, EvZ e) (g : Ut.Gu w) :
    Calls Tryd.prog 17 #[v] w fun e w' => Below w.heap.size w w' ∧ ∃ y E, e = .returned (.tuple #[.agg y, .int .i64 E]) ∧ (E ≠ 0 → y = #[.int .i64 0, .bool false, .bool false, .string ⟨#[]⟩, .int .i64 0, .int .u64 0, .string ⟨#[]⟩, .slice none 0 0, .slice none 0 0]) ∧ (doneS (runE es) = false → E ≠ 0) ∧
      (doneS (runE es) = true → ∃ x : VT es.length, es = fl es.length x ∧ IsV es.length x ∧ Sz es.length x ∧ (E = 0 ↔ Win es.length x) ∧ (E = 0 → ∃ ns ls s f, y = vals (vhd es.length x) ns ls ∧ w.heap.size ≤ s ∧ KR es.length w' x ns ls s f)) := by
  obtain ⟨a, c, rfl, h1, h2, h3⟩ := hv
  by_cases h0 : es.length = 0
  · have e : es = [] := List.eq_nil_of_length_eq_zero h0
    subst e
    refine (Build_empty a c w).mono ?_
    rintro e w' ⟨hb, rfl⟩
    exact ⟨hb, _, _, rfl, fun _ => rfl, fun _ => by decide, fun h => by cases h⟩
  · obtain ⟨b, o, rfl, hlt, hel⟩ := h3 (by omega)
    have hB : Bd w es b o c := ⟨hel, hlt, h1, h2, hs, hz⟩
    have hc2 : c ≠ 1 → 2 ≤ c := fun q => by omega
    by_cases hd : doneS (runE es) = true
    · obtain ⟨x, hx, hfl⟩ := parse es ((doneS_iff _).1 hd)
      have hsz : Sz es.length x := fl_sz _ x hx (by rw [← hfl]; exact hs) (by rw [← hfl]; exact hz)
      have hsi : siz es.length x ≤ 200000 := by have := fl_siz _ x hx; rw [← hfl] at this; omega
      obtain ⟨E, hE⟩ := chk_ex es.length x
      have hE0 : E = 0 ↔ Win es.length x := by
        rw [chk_zero hE]; exact ⟨fun q => q.2, fun q => ⟨hx, q⟩⟩
      have main : ∀ e w', Below w.heap.size w w' ∧ BR es es.length x E w w' e → Below w.heap.size w w' ∧ ∃ y E, e = .returned (.tuple #[.agg y, .int .i64 E]) ∧ (E ≠ 0 → y = #[.int .i64 0, .bool false, .bool false, .string ⟨#[]⟩, .int .i64 0, .int .u64 0, .string ⟨#[]⟩, .slice none 0 0, .slice none 0 0]) ∧ (doneS (runE es) = false → E ≠ 0) ∧
          (doneS (runE es) = true → ∃ x : VT es.length, es = fl es.length x ∧ IsV es.length x ∧ Sz es.length x ∧ (E = 0 ↔ Win es.length x) ∧ (E = 0 → ∃ ns ls s f, y = vals (vhd es.length x) ns ls ∧ w.heap.size ≤ s ∧ KR es.length w' x ns ls s f)) := by
        rintro e w' ⟨hb, _, _, hbr⟩
        obtain ⟨r1, r2⟩ := hbr hd
        by_cases e0 : E = 0
        · obtain ⟨ns, ls, s', f, rfl, hs', hk⟩ := r2 e0
          refine ⟨hb, _, 0, rfl, fun q => absurd rfl q, fun q => (by rw [hd] at q; cases q), fun _ => ⟨x, hfl, hx, hsz, ?_, fun _ => ⟨ns, ls, s', f, rfl, hs', hk.out⟩⟩⟩
          exact ⟨fun _ => hE0.1 e0, fun _ => rfl⟩
        · rw [r1 e0]
          exact ⟨hb, _, 2, rfl, fun _ => rfl, fun _ => by decide, fun _ => ⟨x, hfl, hx, hsz, ⟨fun q => (by cases q), fun q => absurd (hE0.2 q) e0⟩, fun q => (by cases q)⟩⟩
      by_cases hc : c = 1
      · subst hc
        exact (Build_one es b o w hB g es.length x (fun _ => ⟨hfl, isv_nf _ x hx, hsz, hsi⟩) E hE).mono main
      · exact (Build_any es b o c w hB (hc2 hc) g es.length x (fun _ => ⟨hfl, isv_nf _ x hx, hsz, hsi⟩) E hE).mono main
    · have hd' : doneS (runE es) = false := by simpa using hd
      have main : ∀ e w', Below w.heap.size w w' ∧ BR es 1 null1 0 w w' e → Below w.heap.size w w' ∧ ∃ y E, e = .returned (.tuple #[.agg y, .int .i64 E]) ∧ (E ≠ 0 → y = #[.int .i64 0, .bool false, .bool false, .string ⟨#[]⟩, .int .i64 0, .int .u64 0, .string ⟨#[]⟩, .slice none 0 0, .slice none 0 0]) ∧ (doneS (runE es) = false → E ≠ 0) ∧
          (doneS (runE es) = true → ∃ x : VT es.length, es = fl es.length x ∧ IsV es.length x ∧ Sz es.length x ∧ (E = 0 ↔ Win es.length x) ∧ (E = 0 → ∃ ns ls s f, y = vals (vhd es.length x) ns ls ∧ w.heap.size ≤ s ∧ KR es.length w' x ns ls s f)) := by
        rintro e w' ⟨hb, r1, r2, _⟩
        by_cases hn : runE es = none
        · rw [r1 hn]
          exact ⟨hb, _, 50, rfl, fun _ => rfl, fun _ => by decide, fun q => absurd q hd⟩
        · rw [r2 hn hd']
          exact ⟨hb, _, 51, rfl, fun _ => rfl, fun _ => by decide, fun q => absurd q hd⟩
      by_cases hc : c = 1
      · subst hc
        exact (Build_one es b o w hB g 1 null1 (fun q => absurd q hd) 0 null_chk).mono main
      · exact (Build_any es b o c w hB (hc2 hc) g 1 null1 (fun q => absurd q hd) 0 null_chk).mono main
theorem sz_ez : ∀ (n : Nat) (x : VT n), Sz n x → ∀ e ∈ fl n x, EvZ e
  | 0, x, _ => Empty.elim x
  | n + 1, (h, l), hz => by
    obtain ⟨z1, z2, z3, z4, z5⟩ := hz
    have z1 : h.text.size ≤ 281474976710656 := z1
    have z2 : h.dig.size ≤ 281474976710656 := z2
    have z4 : ∀ s ∈ h.names, s.size ≤ 281474976710656 := z4
    have z5 : ∀ y ∈ l, Sz n y := z5
    have hend : EvZ evE := ⟨by decide, by decide, rfl⟩
    have hk : ∀ e ∈ kids n h l l.length, EvZ e := by
      intro e he
      unfold kids at he
      obtain ⟨L, hL, heL⟩ := List.mem_flatten.1 he
      obtain ⟨i, hi, rfl⟩ := List.mem_map.1 hL
      have hi : i < l.length := List.mem_range.1 hi
      unfold kid at heL
      rw [List.getElem?_eq_getElem hi] at heL
      rcases List.mem_append.1 heL with q | q
      · unfold preN at q
        by_cases h8 : h.kind = 8
        · rw [if_pos h8] at q
          rw [List.mem_singleton.1 q]
          refine ⟨?_, by show 0 ≤ _; omega, rfl⟩
          show ((h.names[i]?).getD ByteArray.empty).size ≤ _
          cases hq : h.names[i]? with
          | none => simp
          | some t => exact z4 t (List.mem_of_getElem? hq)
        · rw [if_neg h8] at q; cases q
      · exact sz_ez n _ (z5 _ (List.getElem_mem hi)) e q
    intro e he
    rw [fl_succ] at he
    rcases List.mem_cons.1 he with rfl | q
    · exact ⟨z1, z2, rfl⟩
    · by_cases h7 : h.kind < 7
      · rw [if_pos h7] at q; cases q
      · rw [if_neg h7] at q
        rcases List.mem_append.1 q with r | r
        · exact hk e r
        · rw [List.mem_singleton.1 r]; exact hend
/-- Build of what Flatten gave. -/
theorem Build_of (n : Nat) (x : VT n) (v : Value) (w : World) (hx : Chk n x 0) (hz : Sz n x) (hv : ES w v (fl n x)) (g : Ut.Gu w) :
    Calls Tryd.prog 17 #[v] w fun e w' => Below w.heap.size w w' ∧ ∃ ns ls s f, e = .returned (.tuple #[.agg (vals (vhd n x) ns ls), .int .i64 0]) ∧ w.heap.size ≤ s ∧ Hid (KR n w' x ns ls s f) := by
  obtain ⟨hi, hw⟩ := (chk_zero hx).1 rfl
  have hlen : (fl n x).length ≤ 50000 := by have := fl_len n x; have := hw.2.2; omega
  have hsi : siz n x ≤ 200000 := by have := hw.2.2; omega
  have hp := fl_pos n x
  obtain ⟨a, c, rfl, h1, h2, h3⟩ := hv
  obtain ⟨b, o, rfl, hlt, hel⟩ := h3 (by omega)
  have hB : Bd w (fl n x) b o c := ⟨hel, hlt, h1, h2, hlen, sz_ez n x hz⟩
  have hd : doneS (runE (fl n x)) = true := by rw [runE_fl n x hi]; rfl
  have hc2 : c ≠ 1 → 2 ≤ c := fun q => by omega
  have main : ∀ e w', Below w.heap.size w w' ∧ BR (fl n x) n x 0 w w' e → Below w.heap.size w w' ∧ ∃ ns ls s f, e = .returned (.tuple #[.agg (vals (vhd n x) ns ls), .int .i64 0]) ∧ w.heap.size ≤ s ∧ Hid (KR n w' x ns ls s f) := by
    rintro e w' ⟨hb, _, _, hbr⟩
    exact ⟨hb, (hbr hd).2 rfl⟩
  by_cases hc : c = 1
  · subst hc
    exact (Build_one (fl n x) b o w hB g n x (fun _ => ⟨rfl, isv_nf n x hi, hz, hsi⟩) 0 hx).mono main
  · exact (Build_any (fl n x) b o c w hB (hc2 hc) g n x (fun _ => ⟨rfl, isv_nf n x hi, hz, hsi⟩) 0 hx).mono main
end Go.Proofs.YthbfopdeaknbkaaDoor
/- calamuslaw05.big: walked. -/
namespace Go.Proofs.YthbfopdeaknbkaaDoor
open Go.RowKit
set_option linter.unusedSimpArgs false
set_option linter.unusedVariables false
def LB (es : List Hd) (w : World) (e : Ending) (w' : World) : Prop := ∃ b, e = .returned (.bool b) ∧ (b = false → es.length ≤ 400) ∧ Below w.heap.size w w'
set_option maxHeartbeats 2000000 in
set_option maxRecDepth 100000 in
theorem lbig_any (v : Value) (es : List Hd) (w : World) (hv : ES w v es) (hz : ∀ e ∈ es, EvZ e) :
    Calls Tryd.prog 16 #[v] w fun e w' => LB es w e w' := by
  obtain ⟨aa, ca, rfl, ha1, ha2, ha3⟩ := hv
  have ml : maxLen = 9223372036854775807 := rfl
  have ha3 := hide ha3
  have hz := hide hz
  by_cases h4 : (400 : Int) < (es.length : Int)
  · go_enter Tryd.func16, Tryd.ntmps16
    go_wp2_with fail
    go_ret
    exact ⟨true, rfl, fun q => (by cases q), Below.refl _ _⟩
  · have h400 : Hid (es.length ≤ 400) := by show _ ≤ _; omega
    go_enter Tryd.func16, Tryd.ntmps16
    go_wp2_with fail
    go_loopw [3, 4] (fun u i W => ∃ (k S : Nat), i = .int .i64 k ∧ u = .int .i64 S ∧ k ≤ es.length ∧ S ≤ 65536 ∧ Hid (Below w.heap.size w W)) (fun _ i _ => es.length - (intOf i).toNat)
    case atStart => exact ⟨0, 0, rfl, rfl, Nat.zero_le _, by omega, hide (Below.refl _ _)⟩
    case round =>
      obtain ⟨k, S, rfl, rfl, hk, hS, hB⟩ := hrel
      by_cases hkl : k < es.length
      · have hki : (k : Int) < (es.length : Int) := by omega
        have hk63 : (k : Int) < 9223372036854775807 := by omega
        obtain ⟨b, o, rfl, hlt, hel⟩ := ha3.out (by omega)
        obtain ⟨c0, c1, c2, c3, c4, c5, c6⟩ := range7 (rangeAt_below (hel k hkl) hB.out hlt)
        obtain ⟨h, hh⟩ : ∃ h, es[k] = h := ⟨_, rfl⟩
        have hzk := hz.out _ (List.getElem_mem hkl)
        rw [hh] at c0 c1 c2 c3 c4 c5 c6 hzk
        obtain ⟨z1, z2, _⟩ := hzk
        have hkc : k < ca := by omega
        have hblt : b < wr.heap.size := Nat.lt_of_lt_of_le hlt hB.out.size
        obtain ⟨T, hT⟩ : ∃ T, h.text.size = T := ⟨_, rfl⟩
        obtain ⟨D, hD⟩ : ∃ D, h.dig.size = D := ⟨_, rfl⟩
        have hw1 : IntKind.i64.wrap ((S : Int) + (h.text.size : Int)) = (S : Int) + (h.text.size : Int) := by rw [IntKind.wrap_i64] <;> omega
        have hw2 : IntKind.i64.wrap ((S : Int) + (h.text.size : Int) + (h.dig.size : Int)) = (S : Int) + (h.text.size : Int) + (h.dig.size : Int) := by rw [IntKind.wrap_i64] <;> omega
        clear hel ha3 hT hD
        by_cases hbig : (65536 : Int) < (S : Int) + (h.text.size : Int) + (h.dig.size : Int)
        · go_wp2_with fail
          go_quiet (fail)
          go_wp2_with fail
          go_ret
          exact ⟨true, rfl, fun q => (by cases q), hB.out.trans ⟨rfl, rfl, rfl, Nat.le_refl _, fun _ _ => rfl⟩⟩
        · go_wp2_with fail
          go_quiet (fail)
          obtain ⟨S', hS'⟩ : ∃ S' : Nat, (S : Int) + (h.text.size : Int) + (h.dig.size : Int) = (S' : Int) := ⟨S + h.text.size + h.dig.size, by omega⟩
          rw [hS'] at hbig ⊢
          have hb6 : S' ≤ 65536 := by omega
          clear c0 c1 c2 c3 c4 c5 c6 hh hlt hblt hkc z1 z2 hw1 hw2 ha1 ha2 ml hS'
          have hb6' := hide hb6
          have h4' := hide h4
          have hq : decide ((65536 : Int) < (S' : Int)) = false := by simpa using hbig
          clear hS hb6 h4 hk63
          have hk4 : (k : Int) < 9223372036854775807 := by have := h400.out; omega
          go_simp
          go_wp2_with fail
          have hb6 := hb6'.out
          exact ⟨⟨k + 1, S', by go_num, by first | rfl | (simp; done), by omega, by omega, hide (hB.out.trans ⟨rfl, rfl, rfl, Nat.le_refl _, fun _ _ => rfl⟩)⟩, by simp [intOf]; omega⟩
      · have hki : ¬ ((k : Int) < (es.length : Int)) := by omega
        go_wp2_with fail
        go_ret
        exact ⟨false, rfl, fun _ => h400.out, hB.out⟩
end Go.Proofs.YthbfopdeaknbkaaDoor
/- calamuslaw05.EventRound: walked. -/
namespace Go.Proofs.YthbfopdeaknbkaaDoor
open Go.RowKit
set_option linter.unusedSimpArgs false
set_option linter.unusedVariables false
theorem agg9 {y : Array Value} (h : y.size = 9) : ∃ a0 a1 a2 a3 a4 a5 a6 a7 a8, y = #[a0, a1, a2, a3, a4, a5, a6, a7, a8] := by
  obtain ⟨l⟩ := y
  match l, h with
  | [a0, a1, a2, a3, a4, a5, a6, a7, a8], _ => exact ⟨_, _, _, _, _, _, _, _, _, rfl⟩
set_option maxHeartbeats 4000000 in
set_option maxRecDepth 100000 in
theorem round_law (n : Nat) (x : VT n) (ns ls : Value) (v : Value) (es : List Hd) (w : World) (hr : RD n w x ns ls) (hz : Sz n x) (hv : ES w v es) (hvz : ∀ e ∈ es, EvZ e) (g : Ut.Gu w) :
    Calls Tryd.prog 6 #[.agg (vals (vhd n x) ns ls), v] w fun e w' => e = .returned (.bool true) ∧ Below w.heap.size w w' := by
  obtain ⟨a1, m1, d1, a2, m2, d2, rfl, rfl⟩ := hr.shape
  obtain ⟨h, hh⟩ : ∃ h, vhd n x = h := ⟨_, rfl⟩
  have hbig := hide (fun o => Go.Proofs.YthbfopdeaknbkaaDoor.big_any n x (.slice a1 m1 d1) (.slice a2 m2 d2) (w.alloc o) (hr.below (below_al (Below.refl _ _))) hz)
  have hB0 := hide (bx_new w h (.slice a1 m1 d1) (.slice a2 m2 d2))
  have hb0 : Hid (∀ o, Below w.heap.size w (w.alloc o)) := fun o => below_al (Below.refl _ _)
  have hlb := hide (fun W (hb : Below w.heap.size w W) => lbig_any v es W (hv.below hb) hvz)
  have hv' := hide hv
  have hvz' := hide hvz
  obtain ⟨va, vc, rfl⟩ := es_shape hv
  replace hr := hide hr
  replace hz := hide hz
  replace g := hide g
  have hh' := hide hh
  rw [hh] at hbig ⊢
  clear hh hv hvz
  simp only [vals] at hbig
  show Calls _ _ #[.agg #[.int .i64 h.kind, .bool h.flag, .bool h.neg, .string h.dig, .int .i64 h.exp, .int .u64 h.bits, .string h.text, .slice a1 m1 d1, .slice a2 m2 d2], .slice va es.length vc] _ _
  go_enter Tryd.func6, Tryd.ntmps6
  go_wp2_with (go_at_call 9; refine Stop.out ?_)
  refine Stop.mk ((hbig.out _).mono ?_)
  rintro e w1 ⟨bb, rfl, hsm, hb1⟩
  have L1 : Hid (Lx w h (.slice a1 m1 d1) (.slice a2 m2 d2) w1) := ⟨below_then (hb0.out _) hb1, hB0.out.below hb1⟩
  clear hb1 hbig hB0
  cases bb
  · have hblk := hide (hsm.out rfl)
    go_wp2_with (go_at_call 16; refine Stop.out ?_)
    refine Stop.mk ((hlb.out _ L1.out.below).mono ?_)
    rintro e w2 ⟨bl, rfl, hsm2, hb2⟩
    have L2 := hide (L1.out.then hb2)
    have hsm2 := hide hsm2
    clear hb2 L1
    cases bl
    · have h400 := hide (hsm2.out rfl)
      have hsz : siz n x ≤ 65536 := Nat.le_trans (siz_blk n x) hblk.out.1
      obtain ⟨E, hE⟩ := chk_ex n x
      have k1 := hide (fun W (c : Lx w h (.slice a1 m1 d1) (.slice a2 m2 d2) W) => flatten_es n x _ _ W ⟨hr.out.below c.below, hz.out, by omega⟩ (g.out.below c.below) E hE)
      rw [hh'.out] at k1
      simp only [vals] at k1
      have hE' := hide hE
      clear hsm hsm2 hblk hsz hE
      obtain ⟨c0, c1, c2, c3, c4, c5, c6, c7, c8⟩ := L2.out.ba.cells
      go_wp2_with (go_at_call 11; refine Stop.out ?_)
      refine Stop.mk ((k1.out _ L2.out).mono ?_)
      rintro e w3 ⟨v3, rfl, hb3, hs3⟩
      have L3 := hide (L2.out.then hb3)
      clear hb3 L2 c0 c1 c2 c3 c4 c5 c6 c7 c8 k1
      obtain ⟨b1, b2, rfl⟩ := es_shape hs3.out
      -- what comes behind
      have last : Hid (∀ W, Lx w h (.slice a1 m1 d1) (.slice a2 m2 d2) W → Calls Tryd.prog 17 #[.slice va es.length vc] W fun e w' => Below W.heap.size W w' ∧ ∃ y E, e = .returned (.tuple #[.agg y, .int .i64 E]) ∧ (E ≠ 0 → y = #[.int .i64 0, .bool false, .bool false, .string ⟨#[]⟩, .int .i64 0, .int .u64 0, .string ⟨#[]⟩, .slice none 0 0, .slice none 0 0]) ∧ (doneS (runE es) = false → E ≠ 0) ∧
          (doneS (runE es) = true → ∃ x : VT es.length, es = fl es.length x ∧ IsV es.length x ∧ Sz es.length x ∧ (E = 0 ↔ Win es.length x) ∧ (E = 0 → ∃ ns ls s f, y = vals (vhd es.length x) ns ls ∧ W.heap.size ≤ s ∧ KR es.length w' x ns ls s f))) :=
        fun W c => Build_es _ es W (hv'.out.below c.below) (by have := h400.out; omega) hvz'.out (g.out.below c.below)
      by_cases e0 : E = 0
      · subst e0
        rw [if_pos rfl] at hs3
        have bo := hide (Build_of n x (.slice b1 (fl n x).length b2) w3 hE'.out hz.out hs3.out (g.out.below L3.out.below))
        obtain ⟨hi0, hw0⟩ := (chk_zero hE'.out).1 rfl
        have hrun := runE_fl n x hi0
        have hezx := hide (sz_ez n x hz.out)
        obtain ⟨X, hX⟩ : ∃ X, fl n x = X := ⟨_, rfl⟩
        have hXl : X.length ≤ 50000 := by rw [← hX]; have := fl_len n x; have := hw0.2.2; omega
        have hXp : 1 ≤ X.length := by rw [← hX]; exact fl_pos n x
        rw [hX] at bo hs3 hrun hezx ⊢
        rw [hh'.out] at bo
        simp only [vals] at bo
        have hrun' := hide hrun
        clear hX hi0 hw0 hrun
        go_wp2_with (go_at_call 17; refine Stop.out ?_)
        refine Stop.mk (bo.out.mono ?_)
        rintro e w4 ⟨hb4, ns4, ls4, s4, f4, rfl, hs4, hk4⟩
        obtain ⟨q1, q2, q3, q4, q5, q6, rfl, rfl⟩ := hk4.out.rd.shape
        have L4 := hide (L3.out.then hb4)
        have S4 := hide (hs3.out.below hb4)
        have z40 := L4.out.ba.lt
        clear hb4 bo hs3
        have hnew := hide cnew_any
        go_wp2_with (go_at_call 19; refine Stop.out ?_)
        refine Stop.mk ((hnew.out _).mono ?_)
        rintro e w5 ⟨rfl, hk5, hb5⟩
        simp only [World.size_alloc] at hk5
        have z5 := hk5.lt
        have CK := hide (CkS.new hk5 (by omega))
        have B45 := hide (below_then (below_al (Below.refl _ _)) hb5)
        have L5 := hide (L4.out.then B45.out)
        have S5 := hide (S4.out.below B45.out)
        have V5 := hide ((bx_new w4 h (.slice q1 q2 q3) (.slice q4 q5 q6)).below hb5)
        have kq := hide (Calls.tb (b := true) (requal_any n x x _ _ _ _ w5 (hk4.out.rd.below B45.out) (hr.out.below L5.out.below)) (by simp))
        rw [hh'.out] at kq
        simp only [vals] at kq
        clear hk5 hb5 hnew hk4 L4
        obtain ⟨c0, c1, c2, c3, c4, c5, c6, c7, c8⟩ := L5.out.ba.cells
        obtain ⟨e0, e1, e2, e3, e4, e5, e6, e7, e8⟩ := V5.out.cells
        go_wp2_with (go_at_call 15; refine Stop.out ?_)
        refine Stop.mk (kq.out.mono ?_)
        rintro e w6 ⟨rfl, hb6⟩
        have L6 := hide (L5.out.then hb6)
        have S6 := hide (S5.out.below hb6)
        have C6 := hide (CK.out.then hb6)
        have z6 : w4.heap.size + 1 < w6.heap.size := Nat.lt_of_lt_of_le z5 hb6.size
        have z4 : w.heap.size < w4.heap.size + 1 := by omega
        have B46 := hide (below_then B45.out hb6)
        clear hb6 kq CK S5 L5 V5 c0 c1 c2 c3 c4 c5 c6 c7 c8 e0 e1 e2 e3 e4 e5 e6 e7 e8
        go_wp2_with fail
        go_loopw [10] (fun i W => ∃ k : Nat, i = .int .i64 k ∧ k ≤ X.length ∧ Hid (CkS W (w4.heap.size + 1) (w4.heap.size + 1 + 1) k (runE (X.take k)) ∧ Below (w4.heap.size + 1) w6 W)) (fun i _ => X.length - (intOf i).toNat)
        case atStart => exact ⟨0, rfl, Nat.zero_le _, hide ⟨by simpa [runE, runS] using C6.out, Below.refl _ _⟩⟩
        case round =>
          obtain ⟨k, rfl, hk, HH⟩ := hrel
          obtain ⟨hC, hBB⟩ := HH.out
          have LR : Hid (Lx w h (.slice a1 m1 d1) (.slice a2 m2 d2) wr) := ⟨L6.out.below.trans (hBB.mono (by omega)), L6.out.ba.low hBB z4⟩
          have zr6 : w4.heap.size + 1 < wr.heap.size := Nat.lt_of_lt_of_le z6 hBB.size
          have CR := hide hC
          have BR' := hide hBB
          have B4r := hide (B46.out.trans (hBB.mono (Nat.le_succ _)))
          clear HH hC hBB C6
          by_cases hkl : k < X.length
          · have hki : (k : Int) < (X.length : Int) := by omega
            have hk63 : (k : Int) < 9223372036854775807 := by omega
            obtain ⟨a, c, hes, h1, h2, h3⟩ := S4.out
            obtain ⟨b, o, ha, hlt, hel⟩ := h3 (by omega)
            cases hes
            subst ha
            obtain ⟨c0, c1, c2, c3, c4, c5, c6⟩ := range7 (rangeAt_below (hel k hkl) B4r.out hlt)
            have fd := hide (cfeed_any (W := wr) (i := w4.heap.size + 1) (B := w4.heap.size + 1 + 1) (n := k) (runE (X.take k)) X[k] (hezx.out _ (List.getElem_mem hkl)) CR.out zr6 (by omega) zr6 (by omega) (g.out.below LR.out.below) (mayB X[k]) (mayB_iff _))
            rw [← runE_take X k hkl] at fd
            obtain ⟨hq, hhq⟩ : ∃ hq, X[k] = hq := ⟨_, rfl⟩
            rw [hhq] at c0 c1 c2 c3 c4 c5 c6 fd
            simp only [evs] at fd
            have hblt : b < wr.heap.size := by have := B4r.out.size; omega
            have hkc : k < b2 := by omega
            have hnn : runE (X.take (k + 1)) ≠ none := fun q => by have := runE_cut X (k + 1) q; rw [hrun'.out] at this; cases this
            obtain ⟨st, hst⟩ : ∃ st, runE (X.take (k + 1)) = st := ⟨_, rfl⟩
            have hst' := hide hst
            rw [hst] at fd hnn
            clear hst hel
            have hw1 : IntKind.i64.wrap ((X.length : Int) - 1) = (X.length : Int) - 1 := by rw [IntKind.wrap_i64] <;> omega
            cases st with
            | none => exact absurd rfl hnn
            | some y =>
              by_cases hke : k + 1 = X.length
              · have hdy : doneS (some y) = true := by rw [← hst'.out, hke, List.take_length, hrun'.out]; rfl
                have hie : decide ((k : Int) = (X.length : Int) - 1) = true := by simp; omega
                have hie2 : ((k : Int) == (X.length : Int) - 1) = true := by simp; omega
                have hke' := hide hke
                clear hnn hke h1 h2 h3
                have hXl' := hide hXl
                have hXp' := hide hXp
                clear hXl hXp
                go_wp2_with (go_at_call 23; refine Stop.out ?_)
                refine Stop.mk (fd.out.mono ?_)
                rintro e w7 ⟨rfl, hc7, hb7⟩
                have dn := hide hc7.done
                rw [hdy] at dn
                have C7 := hide hc7
                have B7 := hide (BR'.out.trans hb7)
                clear hc7 hb7 c0 c1 c2 c3 c4 c5 c6
                go_wp2_with (go_at_call 20; refine Stop.out ?_)
                refine Stop.mk (dn.out.mono ?_)
                rintro e w8 ⟨rfl, m8, rfl⟩
                have dB : Below w7.heap.size w7 (w7.drewN m8) := ⟨rfl, rfl, rfl, Nat.le_refl _, fun _ _ => rfl⟩
                have C8 := hide (C7.out.then dB)
                have B8 := hide (B7.out.trans (dB.mono (by have := B7.out.size; omega)))
                clear dB
                go_simp
                go_wp2_with fail
                exact ⟨⟨k + 1, by go_num, by omega, hide ⟨by rw [hst'.out]; exact C8.out, B8.out⟩⟩, by simp [intOf]; omega⟩
              · have hdy : doneS (some y) = false := by rw [← hst'.out]; exact not_done X hrun'.out (k + 1) (by omega)
                have hie : decide ((k : Int) = (X.length : Int) - 1) = false := by simp; omega
                have hie2 : ((k : Int) == (X.length : Int) - 1) = false := by simp; omega
                have hke' := hide hke
                clear hke
                clear hnn h1 h2 h3
                have hXl' := hide hXl
                have hXp' := hide hXp
                clear hXl hXp
                go_wp2_with (go_at_call 23; refine Stop.out ?_)
                refine Stop.mk (fd.out.mono ?_)
                rintro e w7 ⟨rfl, hc7, hb7⟩
                have dn := hide hc7.done
                rw [hdy] at dn
                have C7 := hide hc7
                have B7 := hide (BR'.out.trans hb7)
                clear hc7 hb7 c0 c1 c2 c3 c4 c5 c6
                go_wp2_with (go_at_call 20; refine Stop.out ?_)
                refine Stop.mk (dn.out.mono ?_)
                rintro e w8 ⟨rfl, m8, rfl⟩
                have dB : Below w7.heap.size w7 (w7.drewN m8) := ⟨rfl, rfl, rfl, Nat.le_refl _, fun _ _ => rfl⟩
                have C8 := hide (C7.out.then dB)
                have B8 := hide (B7.out.trans (dB.mono (by have := B7.out.size; omega)))
                clear dB
                go_simp
                go_wp2_with fail
                exact ⟨⟨k + 1, by go_num, by omega, hide ⟨by rw [hst'.out]; exact C8.out, B8.out⟩⟩, by simp [intOf]; omega⟩
          · have hki : ¬ ((k : Int) < (X.length : Int)) := by omega
            go_wp2_with (go_at_call 17; refine Stop.out ?_)
            refine Stop.mk ((last.out _ LR.out).mono ?_)
            rintro e wt ⟨hbt, y, F, rfl, hy, hnd, hdn⟩
            have LT := hide (LR.out.then hbt)
            have ST := hide (hv'.out.below LT.out.below)
            by_cases f0 : F = 0
            · subst f0
              have hd : doneS (runE es) = true := by
                cases hq : doneS (runE es) with
                | true => rfl
                | false => exact absurd rfl (hnd hq)
              obtain ⟨x', hfl', hx', hsz', hwin, hval⟩ := hdn hd
              obtain ⟨ns', ls', s', f', rfl, hs', hk'⟩ := hval rfl
              have hC' : Chk es.length x' 0 := Or.inr (Or.inr ⟨rfl, hx', hwin.1 rfl⟩)
              have hsi' : siz es.length x' ≤ 200000 := by have := (hwin.1 rfl).2.2; exact Nat.le_trans this (by decide)
              obtain ⟨q1, q2, q3, q4, q5, q6, rfl, rfl⟩ := hk'.rd.shape
              have kf := hide (fun W (hb : Below wt.heap.size wt W) => flatten_es es.length x' (.slice q1 q2 q3) (.slice q4 q5 q6) W ⟨hk'.rd.below hb, hsz', hsi'⟩ (g.out.below (below_then LT.out.below hb)) 0 hC')
              rw [if_pos rfl, ← hfl'] at kf
              obtain ⟨hx0, hhx0⟩ : ∃ hx0, vhd es.length x' = hx0 := ⟨_, rfl⟩
              rw [hhx0] at kf ⊢
              simp only [vals] at kf ⊢
              clear hy hnd hdn hval hwin hfl' hx' hsz' hC' hsi' hk' hs' hhx0 hbt
              go_wp2_with (go_at_call 11; refine Stop.out ?_)
              refine Stop.mk ((kf.out _ (below_al (Below.refl _ _))).mono ?_)
              rintro e wu ⟨vu, rfl, hbu, hsu⟩
              obtain ⟨u1, u2, rfl⟩ := es_shape hsu.out
              have BU := hide (below_then (below_al LT.out.below) hbu)
              have SU := hide (ST.out.below (below_then (below_al (Below.refl _ _)) hbu))
              clear hbu
              have aw := hide (awake_any wu (g.out.below BU.out))
              go_wp2_with (go_at_call 13; refine Stop.out ?_)
              refine Stop.mk (aw.out.mono ?_)
              rintro e wy ⟨rfl, hby⟩
              have BY := hide (below_then BU.out hby)
              have ev := hide (events_any _ _ es wy (hsu.out.below hby) (SU.out.below hby))
              clear hby aw
              go_wp2_with (go_at_call 14; refine Stop.out ?_)
              refine Stop.mk (ev.out.mono ?_)
              rintro e wz ⟨rfl, hbz⟩
              have BZ := hide (below_then BY.out hbz)
              clear hbz
              go_wp2_with fail
              go_ret
              exact ⟨rfl, BZ.out⟩
            · have hy' := hy f0
              subst hy'
              have f1 : (F != 0) = true := by simpa using f0
              have aw := hide (fun o => awake_any (wt.alloc o) (g.out.below (below_al LT.out.below)))
              clear hy hnd hdn hbt
              go_wp2_with (go_at_call 13; refine Stop.out ?_)
              refine Stop.mk ((aw.out _).mono ?_)
              rintro e wy ⟨rfl, hby⟩
              have BY := hide (below_then (below_al LT.out.below) hby)
              clear hby
              go_wp2_with fail
              go_ret
              exact ⟨rfl, BY.out⟩
      · have e1 : (E == 0) = false := by simpa using e0
        go_wp2_with (go_at_call 17; refine Stop.out ?_)
        refine Stop.mk ((last.out _ L3.out).mono ?_)
        rintro e wt ⟨hbt, y, F, rfl, hy, hnd, hdn⟩
        have LT := hide (L3.out.then hbt)
        have ST := hide (hv'.out.below LT.out.below)
        by_cases f0 : F = 0
        · subst f0
          have hd : doneS (runE es) = true := by
            cases hq : doneS (runE es) with
            | true => rfl
            | false => exact absurd rfl (hnd hq)
          obtain ⟨x', hfl', hx', hsz', hwin, hval⟩ := hdn hd
          obtain ⟨ns', ls', s', f', rfl, hs', hk'⟩ := hval rfl
          have hC' : Chk es.length x' 0 := Or.inr (Or.inr ⟨rfl, hx', hwin.1 rfl⟩)
          have hsi' : siz es.length x' ≤ 200000 := by have := (hwin.1 rfl).2.2; exact Nat.le_trans this (by decide)
          obtain ⟨q1, q2, q3, q4, q5, q6, rfl, rfl⟩ := hk'.rd.shape
          have kf := hide (fun W (hb : Below wt.heap.size wt W) => flatten_es es.length x' (.slice q1 q2 q3) (.slice q4 q5 q6) W ⟨hk'.rd.below hb, hsz', hsi'⟩ (g.out.below (below_then LT.out.below hb)) 0 hC')
          rw [if_pos rfl, ← hfl'] at kf
          obtain ⟨hx0, hhx0⟩ : ∃ hx0, vhd es.length x' = hx0 := ⟨_, rfl⟩
          rw [hhx0] at kf ⊢
          simp only [vals] at kf ⊢
          clear hy hnd hdn hval hwin hfl' hx' hsz' hC' hsi' hk' hs' hhx0 hbt
          go_wp2_with (go_at_call 11; refine Stop.out ?_)
          refine Stop.mk ((kf.out _ (below_al (Below.refl _ _))).mono ?_)
          rintro e wu ⟨vu, rfl, hbu, hsu⟩
          obtain ⟨u1, u2, rfl⟩ := es_shape hsu.out
          have BU := hide (below_then (below_al LT.out.below) hbu)
          have SU := hide (ST.out.below (below_then (below_al (Below.refl _ _)) hbu))
          clear hbu
          have aw := hide (awake_any wu (g.out.below BU.out))
          go_wp2_with (go_at_call 13; refine Stop.out ?_)
          refine Stop.mk (aw.out.mono ?_)
          rintro e wy ⟨rfl, hby⟩
          have BY := hide (below_then BU.out hby)
          have ev := hide (events_any _ _ es wy (hsu.out.below hby) (SU.out.below hby))
          clear hby aw
          go_wp2_with (go_at_call 14; refine Stop.out ?_)
          refine Stop.mk (ev.out.mono ?_)
          rintro e wz ⟨rfl, hbz⟩
          have BZ := hide (below_then BY.out hbz)
          clear hbz
          go_wp2_with fail
          go_ret
          exact ⟨rfl, BZ.out⟩
        · have hy' := hy f0
          subst hy'
          have f1 : (F != 0) = true := by simpa using f0
          have aw := hide (fun o => awake_any (wt.alloc o) (g.out.below (below_al LT.out.below)))
          clear hy hnd hdn hbt
          go_wp2_with (go_at_call 13; refine Stop.out ?_)
          refine Stop.mk ((aw.out _).mono ?_)
          rintro e wy ⟨rfl, hby⟩
          have BY := hide (below_then (below_al LT.out.below) hby)
          clear hby
          go_wp2_with fail
          go_ret
          exact ⟨rfl, BY.out⟩
    · go_wp2_with fail
      go_ret
      exact ⟨rfl, L2.out.below⟩
  · go_wp2_with fail
    go_ret
    exact ⟨rfl, L1.out.below⟩
end Go.Proofs.YthbfopdeaknbkaaDoor
/- An event that comes in: opened. -/
namespace Go.Proofs.YthbfopdeaknbkaaDoor
open Go.ChangeShapes Go.WideShapes Go.ChangeAt Go.RowKit Go.Joins
set_option linter.unusedVariables false
set_option maxRecDepth 100000
theorem cE : Tryd.prog.cellsOf 42 = 7 := by kernel_rfl
theorem cEK : Tryd.prog.cellsOf 40 = 1 := by kernel_rfl
theorem seven {cs : List Value} (h : cs.length = 7) : ∃ a0 a1 a2 a3 a4 a5 a6, cs = [a0, a1, a2, a3, a4, a5, a6] := by
  match cs, h with
  | [a0, a1, a2, a3, a4, a5, a6], _ => exact ⟨_, _, _, _, _, _, _, rfl⟩
theorem open_e {H : Type} {enc : TypeId × Value → H} {W : World} (fuel : Nat) (cs : List Value) (x : DataW H × List MemPlace) (h : DataW.trod enc Tryd.prog W 0 (fun _ => true) true fuel 42 cs = some x)
    (hw : ∀ k ∈ DataW.weights Tryd.prog 42 x.1, k ≤ reachBytes) : ∃ t : Hd, cs = (evs t).toList ∧ EvZ t := by
  obtain ⟨xs, n, rfl, rfl, hlen, hxs, hel⟩ := DataW.trod_struct Tryd.underlying42 h
  rw [cE] at hlen
  obtain ⟨a0, a1, a2, a3, a4, a5, a6, rfl⟩ := seven hlen
  obtain ⟨x0, x1, x2, x3, x4, rfl⟩ : ∃ x0 x1 x2 x3 x4, xs = [x0, x1, x2, x3, x4] := by
    match xs, hxs with
    | [x0, x1, x2, x3, x4], _ => exact ⟨_, _, _, _, _, rfl⟩
  have e0 := hel 0 _ rfl
  have e1 := hel 1 _ rfl
  have e2 := hel 2 _ rfl
  have e3 := hel 3 _ rfl
  have e4 := hel 4 _ rfl
  replace e0 : DataW.trod enc Tryd.prog W 0 (fun _ => true) true n 40 (([a0, a1, a2, a3, a4, a5, a6].drop 0).take (Tryd.prog.cellsOf 40)) = some x0 := e0
  rw [cEK] at e0
  replace e1 : DataW.trod enc Tryd.prog W 0 (fun _ => true) true n 4 (([a0, a1, a2, a3, a4, a5, a6].drop 1).take (Tryd.prog.cellsOf 4)) = some x1 := e1
  rw [c4] at e1
  replace e2 : DataW.trod enc Tryd.prog W 0 (fun _ => true) true n 24 (([a0, a1, a2, a3, a4, a5, a6].drop 2).take (Tryd.prog.cellsOf 24)) = some x2 := e2
  rw [cN] at e2
  replace e3 : DataW.trod enc Tryd.prog W 0 (fun _ => true) true n 25 (([a0, a1, a2, a3, a4, a5, a6].drop 5).take (Tryd.prog.cellsOf 25)) = some x3 := e3
  rw [cU] at e3
  replace e4 : DataW.trod enc Tryd.prog W 0 (fun _ => true) true n 9 (([a0, a1, a2, a3, a4, a5, a6].drop 6).take (Tryd.prog.cellsOf 9)) = some x4 := e4
  rw [c9] at e4
  replace e0 : DataW.trod enc Tryd.prog W 0 (fun _ => true) true n 40 [a0] = some x0 := e0
  replace e1 : DataW.trod enc Tryd.prog W 0 (fun _ => true) true n 4 [a1] = some x1 := e1
  replace e2 : DataW.trod enc Tryd.prog W 0 (fun _ => true) true n 24 [a2, a3, a4] = some x2 := e2
  replace e3 : DataW.trod enc Tryd.prog W 0 (fun _ => true) true n 25 [a5] = some x3 := e3
  replace e4 : DataW.trod enc Tryd.prog W 0 (fun _ => true) true n 9 [a6] = some x4 := e4
  obtain ⟨kd, q0, rfl, _⟩ := DataW.trod_int Tryd.underlying40 e0
  obtain ⟨fl, q1, rfl⟩ := DataW.trod_bool Tryd.underlying4 e1
  obtain ⟨ys, n2, rfl, rfl, _, hys, hel2⟩ := DataW.trod_struct Tryd.underlying24 e2
  obtain ⟨y0, y1, y2, rfl⟩ : ∃ y0 y1 y2, ys = [y0, y1, y2] := by
    match ys, hys with
    | [y0, y1, y2], _ => exact ⟨_, _, _, rfl⟩
  have g0 := hel2 0 _ rfl
  have g1 := hel2 1 _ rfl
  have g2 := hel2 2 _ rfl
  replace g0 : DataW.trod enc Tryd.prog W 0 (fun _ => true) true n2 4 (([a2, a3, a4].drop 0).take (Tryd.prog.cellsOf 4)) = some y0 := g0
  rw [c4] at g0
  replace g1 : DataW.trod enc Tryd.prog W 0 (fun _ => true) true n2 9 (([a2, a3, a4].drop 1).take (Tryd.prog.cellsOf 9)) = some y1 := g1
  rw [c9] at g1
  replace g2 : DataW.trod enc Tryd.prog W 0 (fun _ => true) true n2 3 (([a2, a3, a4].drop 2).take (Tryd.prog.cellsOf 3)) = some y2 := g2
  rw [c3] at g2
  replace g0 : DataW.trod enc Tryd.prog W 0 (fun _ => true) true n2 4 [a2] = some y0 := g0
  replace g1 : DataW.trod enc Tryd.prog W 0 (fun _ => true) true n2 9 [a3] = some y1 := g1
  replace g2 : DataW.trod enc Tryd.prog W 0 (fun _ => true) true n2 3 [a4] = some y2 := g2
  obtain ⟨ng, p0, rfl⟩ := DataW.trod_bool Tryd.underlying4 g0
  obtain ⟨dg, p1, rfl, _⟩ := DataW.trod_string Tryd.underlying9 g1
  obtain ⟨ex, p2, rfl, _⟩ := DataW.trod_int Tryd.underlying3 g2
  obtain ⟨bt, q3, rfl, _⟩ := DataW.trod_int Tryd.underlying25 e3
  obtain ⟨tx', q4, rfl, _⟩ := DataW.trod_string Tryd.underlying9 e4
  simp only [List.cons.injEq, and_true] at q0 q1 q3 q4 p0 p1 p2
  subst q0 q1 q3 q4 p0 p1 p2
  have hwt : ∀ k, (k = tx'.size ∨ k = dg.size) → k ≤ reachBytes := by
    intro k hk
    apply hw
    simp only [DataW.weights, Tryd.underlying42, Tryd.underlying24, List.map_cons, List.map_nil, weightsE, List.mem_append, DataW.weightsEach]
    rcases hk with q | q
    · simp [q]
    · simp [q]
  exact ⟨⟨kd, fl, ng, dg, ex, bt, tx', []⟩, rfl, reach_le (hwt _ (Or.inl rfl)), reach_le (hwt _ (Or.inr rfl)), rfl⟩
end Go.Proofs.YthbfopdeaknbkaaDoor
/- A slice of events that comes in: opened. -/
namespace Go.Proofs.YthbfopdeaknbkaaDoor
open Go.ChangeShapes Go.WideShapes Go.ChangeAt Go.RowKit Go.Joins
set_option linter.unusedVariables false
set_option maxRecDepth 100000
theorem cEL : Tryd.prog.cellsOf 32 = 1 := by kernel_rfl
theorem open_es {H : Type} {enc : TypeId × Value → H} {W : World} (fuel : Nat) (v : Value) (x : DataW H × List MemPlace) (h : DataW.trod enc Tryd.prog W 0 (fun _ => true) true fuel 32 [v] = some x)
    (hp : ∀ q ∈ x.2, q.block < W.heap.size) (hw : ∀ k ∈ DataW.weights Tryd.prog 32 x.1, k ≤ reachBytes) : ∃ es : List Hd, ES W v es ∧ ∀ e ∈ es, EvZ e := by
  rcases DataW.trod_slice Tryd.underlying32 h with ⟨hcs, hx⟩ | ⟨a, len, cap, elems, rest, n3, hn3, hcs, hx, _, hl, hm, hlen2, hele, hsp, _⟩
  · simp only [List.cons.injEq, and_true] at hcs
    exact ⟨[], by rw [hcs]; exact ES.nil W, by intro e he; cases he⟩
  · simp only [List.cons.injEq, and_true] at hcs
    subst hx
    rw [cE] at hele hp
    have key : ∀ i, i < len → ∃ t : Hd, W.rangeAt a.block (a.off + i * 7) (evs t).toList ∧ EvZ t ∧ (a.add (i * 7)).spot = none := by
      intro i hi
      have he := hele i hi
      rw [List.getElem?_eq_getElem (by omega)] at he
      obtain ⟨cs', hcells, htr⟩ := Option.bind_eq_some_iff.1 he
      obtain ⟨_, hcl, hcc⟩ := World.cells?_some hcells
      have hmem : elems[i]'(by omega) ∈ elems := List.getElem_mem _
      obtain ⟨t, r1, r3⟩ := open_e n3 cs' _ htr
        (fun k hk => hw k (by
          simp only [DataW.weights, Tryd.underlying32, List.mem_cons, List.mem_append]
          exact Or.inr (Or.inl (weights_in (List.mem_map.2 ⟨_, hmem, rfl⟩) hk))))
      have hsn : (a.add (i * 7)).spot = none := by
        have q := hcc 0 (by omega)
        have q2 : cs'[0]? = some cs'[0] := List.getElem?_eq_getElem (by omega)
        rw [q2] at q
        exact spot_none (a := a.add (i * 7)) (by simpa [Addr.add] using q)
      have hab : (a.add (i * 7)).block = a.block ∧ (a.add (i * 7)).off = a.off + i * 7 := by
        unfold Addr.add
        split
        · rename_i q; rw [q]; exact ⟨rfl, rfl⟩
        · exact ⟨rfl, rfl⟩
      refine ⟨t, ?_, r3, hsn⟩
      rw [← r1]
      intro j v hj
      have hj7 : j < 7 := by have := (List.getElem?_eq_some_iff.1 hj).1; omega
      have q := hcc j hj7
      rw [hj, add_none hsn, hab.1, hab.2] at q
      exact q
    obtain ⟨l, hll, hlp⟩ := list_of len key
    refine ⟨l, ⟨some a, cap, by rw [hcs, hll], by rw [hll]; exact hl, hm, fun h0 => ?_⟩, ?_⟩
    · have hs0 : a.spot = none := by have := (hlp 0 h0).2.2; simpa [Addr.add] using this
      refine ⟨a.block, a.off, ?_, ?_, fun i hi => (hlp i hi).1⟩
      · obtain ⟨b, o, sp⟩ := a
        simp only at hs0
        rw [hs0]
      · exact hp (.cell a.block (a.off + 0)) (List.mem_append.2 (Or.inl (MemPlace.mem_row.2 ⟨0, by omega, rfl⟩)))
    · intro y hy
      obtain ⟨i, hi, rfl⟩ := List.mem_iff_getElem.1 hy
      exact (hlp i hi).2.1
end Go.Proofs.YthbfopdeaknbkaaDoor
