/- types.isType, isShort, Check, checkBoth: walked. -/
import Derived.Test.YtolmbjeinilhlaaDoorZtHeCheck
import Derived.Test.YtolmbjeinilhlaaDoorZtW
namespace Go.Proofs.YtolmbjeinilhlaaDoor
open Go.RowKit Go.Maps
set_option linter.unusedSimpArgs false
set_option linter.unusedVariables false
set_option maxHeartbeats 1000000 in
set_option maxRecDepth 100000 in
theorem isType_any : ∀ (n : Nat) (x : TT n) (ns ls : Value) (w : World), RT n w x ns ls → TSz n x → Ut.Gu w → Gt w →
    Calls Tryd.prog 27 #[.agg (tvs (thd n x) ns ls)] w fun e w' => TB (IsT n x) w e w' := by
  intro n
  induction n with
  | zero => intro x; exact Empty.elim x
  | succ n ih =>
    intro x ns ls w hr hz g gt
    obtain ⟨h, l⟩ := x
    obtain ⟨al, cl, rfl, hc1, hc2⟩ := hr.len
    obtain ⟨an, cn, rfl, hn1, hn2⟩ := hr.1.len
    obtain ⟨b1, hb1⟩ := tells (TFil h l.length)
    have hF := hide (fun o => Calls.tb (tisFilled_any n h l (.slice an h.names.length cn) (.slice al l.length cl) (w.alloc o) (hr.below (below_al (Below.refl _ _))) hz (g.below (below_al (Below.refl _ _))) (gt.below (below_al (Below.refl _ _)))) hb1)
    have hb1' := hide hb1
    have hr := hide hr
    have hz := hide hz
    have g := hide g
    have gt := hide gt
    have ih' := hide ih
    clear ih hb1
    simp only at hn1 hn2 hc1 hc2
    have ml : maxLen = 9223372036854775807 := rfl
    have hb0 : Hid (∀ o, Below w.heap.size w (w.alloc o)) := fun o => below_al (Below.refl _ _)
    have hB0 := hide (tx_new w h (.slice an h.names.length cn) (.slice al l.length cl))
    show Calls _ _ #[.agg #[.int .i64 h.kind, .slice an h.names.length cn, .slice al l.length cl]] _ _
    cases b1
    · go_enter Tryd.func27, Tryd.ntmps27
      go_wp2_with (go_at_call 46; refine (hF.out _).mono ?_; rintro e w1 ⟨rfl, hb1⟩)
      go_ret
      exact TB.no (fun q => by have := hb1'.out.2 q.1; cases this) (below_then (hb0.out _) hb1)
    · go_enter Tryd.func27, Tryd.ntmps27
      go_wp2_with fail
      refine (hF.out _).mono ?_
      rintro e w1 ⟨rfl, hb1⟩
      have hw1 := hide (below_then (hb0.out _) hb1)
      obtain ⟨c0, c1, c2⟩ := (hB0.out.below hb1).cells
      go_wp2_with fail
      go_loopw [11] (fun i w' => ∃ k : Nat, i = .int .i64 k ∧ k ≤ l.length ∧ Hid ((∀ y ∈ l.take k, IsT n y) ∧ Below w.heap.size w w')) (fun i _ => l.length - (intOf i).toNat)
      case atStart => exact ⟨0, rfl, Nat.zero_le _, (fun y hy => by simp at hy), hw1.out⟩
      case round =>
        clear c0 c1 c2
        obtain ⟨k, rfl, hk, H⟩ := hrel
        by_cases hkl : k < l.length
        · have hki : (k : Int) < (l.length : Int) := by omega
          have hk63 : (k : Int) < 9223372036854775807 := by omega
          obtain ⟨b, o, c, he, hbl, hlc, hcm, ns', ls', hrg, hrd⟩ := hr.out.at k hkl
          have he' := Value.slice.inj he
          obtain ⟨rfl, _, rfl⟩ := he'
          clear he
          obtain ⟨q0, q1, q2⟩ := range3 (rangeAt_below hrg H.out.2 hbl)
          have hrd' := hide (hrd.below H.out.2)
          obtain ⟨a1, m1, d1, a2, m2, d2, rfl, rfl⟩ := hrd.shape
          clear hrg hrd
          obtain ⟨bk, hbk⟩ := tells (IsT n l[k])
          have hcall := hide (fun o => Calls.tb (ih'.out l[k] (.slice a1 m1 d1) (.slice a2 m2 d2) (wr.alloc o) (hrd'.out.below (below_al (Below.refl _ _))) (hz.out.2.2 _ (List.getElem_mem _)) (g.out.below (below_al H.out.2)) (gt.out.below (below_al H.out.2))) hbk)
          have hbk' := hide hbk
          clear hbk
          cases bk
          · go_wp2_with (go_at_call 27; refine (hcall.out _).mono ?_; rintro e w3 ⟨rfl, hb3⟩)
            go_ret
            exact TB.no (fun q => by have := hbk'.out.2 (q.2 _ (List.getElem_mem _)); cases this) (below_then (below_al H.out.2) hb3)
          · go_wp2_with (go_at_call 27; refine (hcall.out _).mono ?_; rintro e w3 ⟨rfl, hb3⟩)
            exact ⟨⟨k + 1, by go_num, by omega, mem_take_more hkl H.out.1 (hbk'.out.1 (by simp)), below_then (below_al H.out.2) hb3⟩, by simp [intOf]; omega⟩
        · have hki : ¬ ((k : Int) < (l.length : Int)) := by omega
          have hE := H.out.1
          rw [List.take_of_length_le (by omega)] at hE
          have hE' := hide hE
          clear hE
          go_wp2_with fail
          go_ret
          exact TB.yes ⟨hb1'.out.1 (by simp), hE'.out⟩ H.out.2
/-- No name is too long, and there are not too many. -/
def TSht : (n : Nat) → TT n → Prop
  | 0, _ => False
  | n + 1, x => x.1.names.length ≤ 256 ∧ (∀ s ∈ x.1.names, s.size ≤ 64) ∧ ∀ y ∈ x.2, TSht n y
set_option maxHeartbeats 1000000 in
set_option maxRecDepth 100000 in
theorem tisShort_any : ∀ (n : Nat) (x : TT n) (ns ls : Value) (w : World), RT n w x ns ls → TSz n x →
    Calls Tryd.prog 28 #[.agg (tvs (thd n x) ns ls)] w fun e w' => TB (TSht n x) w e w' := by
  intro n
  induction n with
  | zero => intro x; exact Empty.elim x
  | succ n ih =>
    intro x ns ls w hr hz
    obtain ⟨h, l⟩ := x
    obtain ⟨al, cl, rfl, hc1, hc2⟩ := hr.len
    obtain ⟨an, cn, rfl, hn1, hn2⟩ := hr.1.len
    have hr := hide hr
    have hz := hide hz
    have ih' := hide ih
    clear ih
    simp only at hn1 hn2 hc1 hc2
    have ml : maxLen = 9223372036854775807 := rfl
    have hb0 : Hid (∀ o, Below w.heap.size w (w.alloc o)) := fun o => below_al (Below.refl _ _)
    have hB0 := hide (tx_new w h (.slice an h.names.length cn) (.slice al l.length cl))
    show Calls _ _ #[.agg #[.int .i64 h.kind, .slice an h.names.length cn, .slice al l.length cl]] _ _
    by_cases h2 : (256 : Int) < (h.names.length : Int)
    · have hx : Hid (¬ TSht (n + 1) (h, l)) := fun q => by have := q.1; simp only at this; omega
      go_enter Tryd.func28, Tryd.ntmps28
      go_wp2_with fail
      go_ret
      exact TB.no hx.out (hb0.out _)
    · have h2' := hide h2
      go_enter Tryd.func28, Tryd.ntmps28
      go_wp2_with fail
      clear h2
      go_loopw [14] (fun i w' => ∃ k : Nat, i = .int .i64 k ∧ k ≤ h.names.length ∧ Hid ((∀ y ∈ h.names.take k, y.size ≤ 64) ∧ Below w.heap.size w w' ∧ Tx w' w.heap.size h (.slice an h.names.length cn) (.slice al l.length cl))) (fun i _ => h.names.length - (intOf i).toNat)
      case atStart => exact ⟨0, rfl, Nat.zero_le _, (fun y hy => by simp at hy), hb0.out _, hB0.out⟩
      case round =>
        obtain ⟨k, rfl, hk, H⟩ := hrel
        obtain ⟨c0, c1, c2⟩ := H.out.2.2.cells
        by_cases hkl : k < h.names.length
        · have hki : (k : Int) < (h.names.length : Int) := by omega
          have hk63 : (k : Int) < 9223372036854775807 := by omega
          obtain ⟨b, o, c, he, hbl, hlc, hcm, hcell⟩ := hr.out.1.at k hkl
          have he' := Value.slice.inj he
          obtain ⟨rfl, _, rfl⟩ := he'
          clear he
          have hcell := (H.out.2.1.cell (p := ⟨b, o + k, none⟩) hbl).trans hcell
          obtain ⟨s, hs⟩ : ∃ s, Hid (h.names[k] = s) := ⟨_, hide rfl⟩
          simp only at hcell
          rw [hs.out] at hcell
          by_cases h64 : (64 : Int) < (s.size : Int)
          · have hx : Hid (¬ TSht (n + 1) (h, l)) := fun q => by have := q.2.1 _ (List.getElem_mem hkl); simp only [hs.out] at this; omega
            go_wp2_with fail
            go_ret
            exact TB.no hx.out H.out.2.1
          · go_wp2_with fail
            exact ⟨⟨k + 1, by go_num, by omega, mem_take_more hkl H.out.1 (by rw [hs.out]; omega), H.out.2⟩, by simp [intOf]; omega⟩
        · have hki : ¬ ((k : Int) < (h.names.length : Int)) := by omega
          have hE := H.out.1
          rw [List.take_of_length_le (by omega)] at hE
          have hE' := hide hE
          clear hE
          have hH := hide H.out.2.1
          go_wp2_with fail
          go_loopw [25] (fun i w' => ∃ k : Nat, i = .int .i64 k ∧ k ≤ l.length ∧ Hid ((∀ y ∈ l.take k, TSht n y) ∧ Below w.heap.size w w')) (fun i _ => l.length - (intOf i).toNat)
          case atStart => exact ⟨0, rfl, Nat.zero_le _, (fun y hy => by simp at hy), hH.out⟩
          case round =>
            clear c0 c1 c2 H hki hk
            obtain ⟨k, rfl, hk, H⟩ := hrel
            by_cases hkl : k < l.length
            · have hki : (k : Int) < (l.length : Int) := by omega
              have hk63 : (k : Int) < 9223372036854775807 := by omega
              obtain ⟨b, o, c, he, hbl, hlc, hcm, ns', ls', hrg, hrd⟩ := hr.out.at k hkl
              have he' := Value.slice.inj he
              obtain ⟨rfl, _, rfl⟩ := he'
              clear he
              obtain ⟨q0, q1, q2⟩ := range3 (rangeAt_below hrg H.out.2 hbl)
              have hrd' := hide (hrd.below H.out.2)
              obtain ⟨a1, m1, d1, a2, m2, d2, rfl, rfl⟩ := hrd.shape
              clear hrg hrd
              obtain ⟨bk, hbk⟩ := tells (TSht n l[k])
              have hcall := hide (fun o => Calls.tb (ih'.out l[k] (.slice a1 m1 d1) (.slice a2 m2 d2) (wr.alloc o) (hrd'.out.below (below_al (Below.refl _ _))) (hz.out.2.2 _ (List.getElem_mem _))) hbk)
              have hbk' := hide hbk
              clear hbk
              cases bk
              · go_wp2_with (go_at_call 28; refine (hcall.out _).mono ?_; rintro e w3 ⟨rfl, hb3⟩)
                go_ret
                exact TB.no (fun q => by have := hbk'.out.2 (q.2.2 _ (List.getElem_mem _)); cases this) (below_then (below_al H.out.2) hb3)
              · go_wp2_with (go_at_call 28; refine (hcall.out _).mono ?_; rintro e w3 ⟨rfl, hb3⟩)
                exact ⟨⟨k + 1, by go_num, by omega, mem_take_more hkl H.out.1 (hbk'.out.1 (by simp)), below_then (below_al H.out.2) hb3⟩, by simp [intOf]; omega⟩
            · have hki : ¬ ((k : Int) < (l.length : Int)) := by omega
              have hF := H.out.1
              rw [List.take_of_length_le (by omega)] at hF
              have hF' := hide hF
              clear hF
              go_wp2_with fail
              go_ret
              exact TB.yes ⟨by have := h2'.out; simp only; omega, hE'.out, hF'.out⟩ H.out.2
/-- It is within the limits. -/
def TWin (n : Nat) (x : TT n) : Prop := TSht n x ∧ tdep n x ≤ 16 ∧ tsiz n x ≤ 4096
/-- What Check answers. -/
def TChk (n : Nat) (x : TT n) (e : Int) : Prop := (e = 110 ∧ ¬ IsT n x) ∨ (e = 2 ∧ IsT n x ∧ ¬ TWin n x) ∨ (e = 0 ∧ IsT n x ∧ TWin n x)
theorem tchk_ex (n : Nat) (x : TT n) : ∃ e, TChk n x e := by
  by_cases h : IsT n x
  · by_cases k : TWin n x
    · exact ⟨0, Or.inr (Or.inr ⟨rfl, h, k⟩)⟩
    · exact ⟨2, Or.inr (Or.inl ⟨rfl, h, k⟩)⟩
  · exact ⟨110, Or.inl ⟨rfl, h⟩⟩
/-- What a call of types's functions may lean on. -/
structure TRd (n : Nat) (w : World) (x : TT n) (ns ls : Value) : Prop where
  rd : RT n w x ns ls
  sz : TSz n x
  le : tsiz n x ≤ 200000
theorem TRd.below {n : Nat} {w W : World} {x : TT n} {ns ls : Value} (h : TRd n w x ns ls) (hb : Below w.heap.size w W) : TRd n W x ns ls := ⟨h.rd.below hb, h.sz, h.le⟩
set_option maxHeartbeats 1000000 in
set_option maxRecDepth 100000 in
theorem tcheck_any (n : Nat) (x : TT n) (ns ls : Value) (w : World) (hr : TRd n w x ns ls) (g : Ut.Gu w) (gt : Gt w) (E : Int) (hE : TChk n x E) :
    Calls Tryd.prog 12 #[.agg (tvs (thd n x) ns ls)] w fun e w' => e = .returned (.int .i64 E) ∧ Below w.heap.size w w' := by
  obtain ⟨a1, m1, d1, a2, m2, d2, rfl, rfl⟩ := hr.rd.shape
  obtain ⟨h, hh⟩ : ∃ h, thd n x = h := ⟨_, rfl⟩
  obtain ⟨b1, hb1⟩ := tells (IsT n x)
  obtain ⟨b2, hb2⟩ := tells (TSht n x)
  have hV := hide (fun o => Calls.tb (isType_any n x (.slice a1 m1 d1) (.slice a2 m2 d2) (w.alloc o) (hr.rd.below (below_al (Below.refl _ _))) hr.sz (g.below (below_al (Below.refl _ _))) (gt.below (below_al (Below.refl _ _)))) hb1)
  have hS := hide (fun W (hb : Below w.heap.size w W) => Calls.tb (tisShort_any n x (.slice a1 m1 d1) (.slice a2 m2 d2) W (hr.rd.below hb) hr.sz) hb2)
  have hD := hide (fun W (hb : Below w.heap.size w W) => tdepth_any n x (.slice a1 m1 d1) (.slice a2 m2 d2) W (hr.rd.below hb) hr.le)
  have hZ := hide (fun W (hb : Below w.heap.size w W) => tsize_any n x (.slice a1 m1 d1) (.slice a2 m2 d2) W (hr.rd.below hb) hr.le)
  have hb0 : Hid (∀ o, Below w.heap.size w (w.alloc o)) := fun o => below_al (Below.refl _ _)
  obtain ⟨D, hDD⟩ : ∃ D, tdep n x = D := ⟨_, rfl⟩
  obtain ⟨Z, hZZ⟩ : ∃ Z, tsiz n x = Z := ⟨_, rfl⟩
  have hE' := hide (show (E = 110 ∧ b1 = false) ∨ (E = 2 ∧ b1 = true ∧ ¬ (b2 = true ∧ D ≤ 16 ∧ Z ≤ 4096)) ∨ (E = 0 ∧ b1 = true ∧ b2 = true ∧ D ≤ 16 ∧ Z ≤ 4096) by
    unfold TChk TWin at hE
    rw [hDD, hZZ, ← hb1, ← hb2] at hE
    simpa using hE)
  rw [hh] at hV hS hD hZ ⊢
  rw [hDD] at hD
  rw [hZZ] at hZ
  have hB0 := hide (tx_new w h (.slice a1 m1 d1) (.slice a2 m2 d2))
  clear hr g gt hh hDD hZZ hE hb1 hb2
  show Calls _ _ #[.agg #[.int .i64 h.kind, .slice a1 m1 d1, .slice a2 m2 d2]] _ _
  cases b1
  · have e0 : E = 110 := by rcases hE'.out with ⟨q, _⟩ | ⟨_, q, _⟩ | ⟨_, q, _⟩; exact q; cases q; cases q
    subst e0
    go_enter Tryd.func12, Tryd.ntmps12
    go_wp2_with (go_at_call 27; refine (hV.out _).mono ?_; rintro e w1 ⟨rfl, hb1⟩)
    go_ret
    exact ⟨rfl, below_then (hb0.out _) hb1⟩
  · have hE2 := hide (show (E = 2 ∧ ¬ (b2 = true ∧ D ≤ 16 ∧ Z ≤ 4096)) ∨ (E = 0 ∧ b2 = true ∧ D ≤ 16 ∧ Z ≤ 4096) by
      rcases hE'.out with ⟨_, q⟩ | ⟨q, _, r⟩ | ⟨q, _, r⟩
      · cases q
      · exact Or.inl ⟨q, r⟩
      · exact Or.inr ⟨q, r⟩)
    clear hE'
    go_enter Tryd.func12, Tryd.ntmps12
    go_wp2_with fail
    refine (hV.out _).mono ?_
    rintro e w1 ⟨rfl, hb1⟩
    have hw1 := hide (below_then (hb0.out _) hb1)
    have hB1 := hide (hB0.out.below hb1)
    obtain ⟨c0, c1, c2⟩ := hB1.out.cells
    have hS1 := hide (hS.out w1 hw1.out)
    cases b2
    · have e0 : E = 2 := by rcases hE2.out with ⟨q, _⟩ | ⟨_, q, _⟩; exact q; cases q
      subst e0
      go_wp2_with (go_at_call 28; refine hS1.out.mono ?_; rintro e w2 ⟨rfl, hb2⟩)
      go_ret
      exact ⟨rfl, below_then hw1.out hb2⟩
    · have hE3 := hide (show (E = 2 ∧ ¬ (D ≤ 16 ∧ Z ≤ 4096)) ∨ (E = 0 ∧ D ≤ 16 ∧ Z ≤ 4096) by
        rcases hE2.out with ⟨q, r⟩ | ⟨q, _, r⟩
        · exact Or.inl ⟨q, fun s => r ⟨rfl, s⟩⟩
        · exact Or.inr ⟨q, r⟩)
      clear hE2
      go_wp2_with fail
      refine hS1.out.mono ?_
      rintro e w2 ⟨rfl, hb2⟩
      have hw2 := hide (below_then hw1.out hb2)
      have hB2 := hide (hB1.out.below hb2)
      clear c0 c1 c2
      obtain ⟨c0, c1, c2⟩ := hB2.out.cells
      have hD1 := hide (hD.out w2 hw2.out)
      by_cases hd : (16 : Int) < (D : Int)
      · have e0 : E = 2 := by rcases hE3.out with ⟨q, _⟩ | ⟨_, q, _⟩; exact q; omega
        subst e0
        go_wp2_with (go_at_call 29; refine hD1.out.mono ?_; rintro e w3 ⟨rfl, hb3⟩)
        go_ret
        exact ⟨rfl, below_then hw2.out hb3⟩
      · go_wp2_with fail
        refine hD1.out.mono ?_
        rintro e w3 ⟨rfl, hb3⟩
        have hw3 := hide (below_then hw2.out hb3)
        have hB3 := hide (hB2.out.below hb3)
        clear c0 c1 c2
        obtain ⟨c0, c1, c2⟩ := hB3.out.cells
        have hZ1 := hide (hZ.out w3 hw3.out)
        by_cases hz : (4096 : Int) < (Z : Int)
        · have e0 : E = 2 := by rcases hE3.out with ⟨q, _⟩ | ⟨_, _, q⟩; exact q; omega
          subst e0
          go_wp2_with (go_at_call 30; refine hZ1.out.mono ?_; rintro e w4 ⟨rfl, hb4⟩)
          go_ret
          exact ⟨rfl, below_then hw3.out hb4⟩
        · have e0 : E = 0 := by
            rcases hE3.out with ⟨_, q⟩ | ⟨q, _⟩
            · exact absurd ⟨by omega, by omega⟩ q
            · exact q
          subst e0
          go_wp2_with (go_at_call 30; refine hZ1.out.mono ?_; rintro e w4 ⟨rfl, hb4⟩)
          go_ret
          exact ⟨rfl, below_then hw3.out hb4⟩
/-- Either's error. -/
def Chk2 (e f : Int) : Int := bif e == 0 then f else e
set_option maxHeartbeats 1000000 in
set_option maxRecDepth 100000 in
theorem checkBoth_any (n m : Nat) (x : TT n) (y : TT m) (ns ls ns' ls' : Value) (w : World) (hx : TRd n w x ns ls) (hy : TRd m w y ns' ls') (g : Ut.Gu w) (gt : Gt w) (E F : Int) (hE : TChk n x E) (hF : TChk m y F) :
    Calls Tryd.prog 40 #[.agg (tvs (thd n x) ns ls), .agg (tvs (thd m y) ns' ls')] w fun e w' => e = .returned (.int .i64 (Chk2 E F)) ∧ Below w.heap.size w w' := by
  obtain ⟨a1, m1, d1, a2, m2, d2, rfl, rfl⟩ := hx.rd.shape
  obtain ⟨a3, m3, d3, a4, m4, d4, rfl, rfl⟩ := hy.rd.shape
  have hA := hide (fun W (hb : Below w.heap.size w W) => tcheck_any n x _ _ W (hx.below hb) (g.below hb) (gt.below hb) E hE)
  have hB := hide (fun W (hb : Below w.heap.size w W) => tcheck_any m y _ _ W (hy.below hb) (g.below hb) (gt.below hb) F hF)
  have hb0 : Hid (∀ o o', Below w.heap.size w ((w.alloc o).alloc o')) := fun o o' => below_al (below_al (Below.refl _ _))
  obtain ⟨h, hh⟩ : ∃ h, thd n x = h := ⟨_, rfl⟩
  obtain ⟨k, hk⟩ : ∃ k, thd m y = k := ⟨_, rfl⟩
  rw [hh] at hA ⊢
  rw [hk] at hB ⊢
  have hE' := hide hE
  clear hh hk hx hy g gt hE hF
  have hT : Hid (∀ w1, Below ((w.alloc (.cells (tvs h (.slice a1 m1 d1) (.slice a2 m2 d2)) 26)).alloc (.cells (tvs k (.slice a3 m3 d3) (.slice a4 m4 d4)) 26)).heap.size ((w.alloc (.cells (tvs h (.slice a1 m1 d1) (.slice a2 m2 d2)) 26)).alloc (.cells (tvs k (.slice a3 m3 d3) (.slice a4 m4 d4)) 26)) w1 → w1.cell? ⟨w.heap.size + 1, 0, none⟩ = some (.int .i64 k.kind) ∧ w1.cell? ⟨w.heap.size + 1, 1, none⟩ = some (.slice a3 m3 d3) ∧ w1.cell? ⟨w.heap.size + 1, 2, none⟩ = some (.slice a4 m4 d4)) := fun w1 hb => ⟨(two_cells hb 0).2, (two_cells hb 1).2, (two_cells hb 2).2⟩
  show Calls _ _ #[.agg #[.int .i64 h.kind, .slice a1 m1 d1, .slice a2 m2 d2], .agg #[.int .i64 k.kind, .slice a3 m3 d3, .slice a4 m4 d4]] _ _
  by_cases h0 : E = 0
  · have hr : Hid (Chk2 E F = F) := by rw [h0]; rfl
    rw [hr.out]
    subst h0
    go_enter Tryd.func40, Tryd.ntmps40
    go_wp2_with fail
    refine (hA.out _ (hb0.out _ _)).mono ?_
    rintro e w1 ⟨rfl, hb1⟩
    have hw1 := hide (below_then (hb0.out _ _) hb1)
    obtain ⟨c0, c1, c2⟩ := hT.out w1 hb1
    go_wp2_with fail
    refine (hB.out _ hw1.out).mono ?_
    rintro e w2 ⟨rfl, hb2⟩
    go_wp2_with fail
    go_ret
    exact ⟨rfl, below_then hw1.out hb2⟩
  · have hr : Hid (Chk2 E F = E) := by
      have : (E == 0) = false := beq_eq_false_iff_ne.2 h0
      show (bif E == 0 then F else E) = E
      rw [this]; rfl
    rw [hr.out]
    have h1 : (E != 0) = true := by simpa using h0
    have h2 : (E == 0) = false := beq_eq_false_iff_ne.2 h0
    have h3 : decide (E = 0) = false := decide_eq_false h0
    go_enter Tryd.func40, Tryd.ntmps40
    go_wp2_with fail
    refine (hA.out _ (hb0.out _ _)).mono ?_
    rintro e w1 ⟨rfl, hb1⟩
    have hw1 := hide (below_then (hb0.out _ _) hb1)
    go_wp2_with fail
    go_ret
    exact ⟨rfl, hw1.out⟩
end Go.Proofs.YtolmbjeinilhlaaDoor
