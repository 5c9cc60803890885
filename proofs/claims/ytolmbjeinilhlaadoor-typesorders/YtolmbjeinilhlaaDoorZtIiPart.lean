/- The reference of layer 11: Part: walked. -/
import Derived.Test.YtolmbjeinilhlaaDoorZtI
import Derived.Test.YtolmbjeinilhlaaDoorZtH
import Derived.Deep.RegionHeld3
import Derived.BigQuiet
namespace Go.Proofs.YtolmbjeinilhlaaDoor
open Go.RowKit Go.Maps
set_option linter.unusedSimpArgs false
set_option linter.unusedVariables false
/-- What the reference's Part says of types less than n deep. -/
def RPartOk (n : Nat) : Prop := ∀ (x y : TT n) (ns ls ns' ls' : Value) (w : World), RT n w x ns ls → RT n w y ns' ls' → IsT n x → IsT n y →
    Calls Tryd.prog 42 #[.agg (tvs (thd n x) ns ls), .agg (tvs (thd n y) ns' ls')] w fun e w' => TB (Prt n x y) w e w'
set_option maxHeartbeats 2000000 in
set_option maxRecDepth 100000 in
theorem rpart_q (n : Nat) (x y : TT (n + 1)) (ns ls ns' ls' : Value) (w : World) (hr : RT (n + 1) w x ns ls) (hr' : RT (n + 1) w y ns' ls') (hq : y.1.kind = 1 ∨ (¬ y.1.kind = 1 ∧ x.1.kind = 5 ∧ y.1.kind = 4)) :
    Calls Tryd.prog 42 #[.agg (tvs x.1 ns ls), .agg (tvs y.1 ns' ls')] w fun e w' => TB (Prt (n + 1) x y) w e w' := by
  obtain ⟨⟨hk, hm⟩, l⟩ := x
  obtain ⟨⟨gk, gm⟩, m⟩ := y
  obtain ⟨al, cl, rfl, hc1, hc2⟩ := hr.len
  obtain ⟨an, cn, rfl, hn1, hn2⟩ := hr.1.len
  obtain ⟨bl', dl, rfl, hd1, hd2⟩ := hr'.len
  obtain ⟨bn, dn, rfl, ho1, ho2⟩ := hr'.1.len
  simp only at hq
  have hP : Hid (Prt (n + 1) ((⟨hk, hm⟩, l) : TT (n + 1)) (⟨gk, gm⟩, m)) := by
    rcases hq with h | ⟨_, h1, h2⟩
    · exact Or.inl h
    · exact Or.inr (Or.inl ⟨h1, h2⟩)
  have hbel : Hid (∀ o o', Below w.heap.size w ((w.alloc o).alloc o')) := fun o o' => below_al (below_al (Below.refl _ _))
  show Calls _ _ #[.agg #[.int .i64 hk, .slice an hm.length cn, .slice al l.length cl], .agg #[.int .i64 gk, .slice bn gm.length dn, .slice bl' m.length dl]] _ _
  clear hr hr'
  rcases hq with h | ⟨h, h1, h2⟩
  · subst h
    go_enter Tryd.func42, Tryd.ntmps42
    go_wp2_with fail
    go_ret
    exact TB.yes hP.out (hbel.out _ _)
  · subst h1 h2
    clear h
    go_enter Tryd.func42, Tryd.ntmps42
    go_wp2_with fail
    go_ret
    exact TB.yes hP.out (hbel.out _ _)
set_option maxHeartbeats 2000000 in
set_option maxRecDepth 100000 in
theorem rpart_k (n : Nat) (x y : TT (n + 1)) (ns ls ns' ls' : Value) (w : World) (hr : RT (n + 1) w x ns ls) (hr' : RT (n + 1) w y ns' ls') (h1 : ¬ y.1.kind = 1) (h54 : ¬ (x.1.kind = 5 ∧ y.1.kind = 4)) (hne : ¬ x.1.kind = y.1.kind) :
    Calls Tryd.prog 42 #[.agg (tvs x.1 ns ls), .agg (tvs y.1 ns' ls')] w fun e w' => TB (Prt (n + 1) x y) w e w' := by
  obtain ⟨⟨hk, hm⟩, l⟩ := x
  obtain ⟨⟨gk, gm⟩, m⟩ := y
  obtain ⟨al, cl, rfl, hc1, hc2⟩ := hr.len
  obtain ⟨an, cn, rfl, hn1, hn2⟩ := hr.1.len
  obtain ⟨bl', dl, rfl, hd1, hd2⟩ := hr'.len
  obtain ⟨bn, dn, rfl, ho1, ho2⟩ := hr'.1.len
  simp only at h1 h54 hne
  have hP : Hid (¬ Prt (n + 1) ((⟨hk, hm⟩, l) : TT (n + 1)) (⟨gk, gm⟩, m)) := fun z => by
    rcases z with z | z | ⟨z, _⟩
    · exact h1 z
    · exact h54 z
    · exact hne z
  have hbel : Hid (∀ o o', Below w.heap.size w ((w.alloc o).alloc o')) := fun o o' => below_al (below_al (Below.refl _ _))
  show Calls _ _ #[.agg #[.int .i64 hk, .slice an hm.length cn, .slice al l.length cl], .agg #[.int .i64 gk, .slice bn gm.length dn, .slice bl' m.length dl]] _ _
  have e1 : (gk == 1) = false := by simpa using h1
  have e2 : (hk != gk) = true := by simpa using hne
  have e2' : (hk == gk) = false := by simpa using hne
  have e2'' : decide (hk = gk) = false := decide_eq_false hne
  have hw : hk = 5 ∨ ¬ hk = 5 := by omega
  clear hr hr'
  rcases hw with h5 | h5
  · have e4 : (gk == 4) = false := by simp; exact fun e => h54 ⟨h5, e⟩
    subst h5
    clear h1 h54 hne
    go_enter Tryd.func42, Tryd.ntmps42
    go_wp2_with fail
    go_ret
    exact TB.no hP.out (hbel.out _ _)
  · have e5 : (hk == 5) = false := by simpa using h5
    clear h1 h54 hne h5
    go_enter Tryd.func42, Tryd.ntmps42
    go_wp2_with fail
    go_ret
    exact TB.no hP.out (hbel.out _ _)
set_option maxHeartbeats 4000000 in
set_option maxRecDepth 100000 in
theorem rpart_p (n : Nat) (k : Int) (ns ls ns' ls' : Value) (w : World) (hr : RT (n + 1) w ((⟨k, []⟩, []) : TT (n + 1)) ns ls) (hr' : RT (n + 1) w ((⟨k, []⟩, []) : TT (n + 1)) ns' ls') (h1 : ¬ k = 1) (h8 : k ≤ 8) :
    Calls Tryd.prog 42 #[.agg (tvs ⟨k, []⟩ ns ls), .agg (tvs ⟨k, []⟩ ns' ls')] w fun e w' => TB (Prt (n + 1) ((⟨k, []⟩, []) : TT (n + 1)) (⟨k, []⟩, [])) w e w' := by
  obtain ⟨al, cl, rfl, hc1, hc2⟩ := hr.len
  obtain ⟨an, cn, rfl, hn1, hn2⟩ := hr.1.len
  obtain ⟨bl', dl, rfl, hd1, hd2⟩ := hr'.len
  obtain ⟨bn, dn, rfl, ho1, ho2⟩ := hr'.1.len
  have hP : Hid (Prt (n + 1) ((⟨k, []⟩, []) : TT (n + 1)) (⟨k, []⟩, [])) := Or.inr (Or.inr ⟨rfl, Or.inr ⟨(by intro z; have z : k = 11 := z; omega), rfl, rfl, fun i h => by simp at h⟩⟩)
  have T0 := hide (Bo2.new w ⟨k, []⟩ ⟨k, []⟩ (.slice an 0 cn) (.slice al 0 cl) (.slice bn 0 dn) (.slice bl' 0 dl))
  show Calls _ _ #[.agg #[.int .i64 k, .slice an 0 cn, .slice al 0 cl], .agg #[.int .i64 k, .slice bn 0 dn, .slice bl' 0 dl]] _ _
  have e1 : (k == 1) = false := by simpa using h1
  have e11 : (k == 11) = false := by simp; omega
  have hw : k = 5 ∨ ¬ k = 5 := by omega
  clear hr hr'
  rcases hw with h5 | h5
  · subst h5
    clear h1 h8 e1 e11
    go_enter Tryd.func42, Tryd.ntmps42
    go_wp2_with fail
    go_loopw [7] (fun i w' => i = .int .i64 0 ∧ Hid (Bo2 w ⟨5, []⟩ ⟨5, []⟩ (.slice an 0 cn) (.slice al 0 cl) (.slice bn 0 dn) (.slice bl' 0 dl) w')) (fun i _ => 0)
    case atStart => exact ⟨rfl, T0.out⟩
    case round =>
      obtain ⟨rfl, H⟩ := hrel
      obtain ⟨x0, x1, x2⟩ := H.out.ba.cells
      go_wp2_with fail
      go_ret
      exact TB.yes hP.out H.out.below
  · have e5 : (k == 5) = false := by simpa using h5
    clear h5 h1 h8
    go_enter Tryd.func42, Tryd.ntmps42
    go_wp2_with fail
    go_loopw [7] (fun i w' => i = .int .i64 0 ∧ Hid (Bo2 w ⟨k, []⟩ ⟨k, []⟩ (.slice an 0 cn) (.slice al 0 cl) (.slice bn 0 dn) (.slice bl' 0 dl) w')) (fun i _ => 0)
    case atStart => exact ⟨rfl, T0.out⟩
    case round =>
      obtain ⟨rfl, H⟩ := hrel
      obtain ⟨x0, x1, x2⟩ := H.out.ba.cells
      go_wp2_with fail
      go_ret
      exact TB.yes hP.out H.out.below
set_option maxHeartbeats 4000000 in
set_option maxRecDepth 100000 in
theorem rpart_11 (n : Nat) (ih : RPartOk n) (x y : TT (n + 1)) (ns ls ns' ls' : Value) (w : World) (hr : RT (n + 1) w x ns ls) (hr' : RT (n + 1) w y ns' ls') (tx : IsT (n + 1) x) (ty : IsT (n + 1) y) (hk1 : x.1.kind = 11) (hk2 : y.1.kind = 11) :
    Calls Tryd.prog 42 #[.agg (tvs x.1 ns ls), .agg (tvs y.1 ns' ls')] w fun e w' => TB (Prt (n + 1) x y) w e w' := by
  obtain ⟨⟨hk, hm⟩, l⟩ := x
  obtain ⟨⟨gk, gm⟩, m⟩ := y
  simp only at hk1 hk2
  subst hk1 hk2
  obtain ⟨al, cl, rfl, hc1, hc2⟩ := hr.len
  obtain ⟨an, cn, rfl, hn1, hn2⟩ := hr.1.len
  obtain ⟨bl', dl, rfl, hd1, hd2⟩ := hr'.len
  obtain ⟨bn, dn, rfl, ho1, ho2⟩ := hr'.1.len
  have hx := hide hr
  have hy := hide hr'
  have tX := hide tx
  have tY := hide ty
  have ih' := hide ih
  clear ih hr hr' tx ty
  simp only at hn1 hn2 hc1 hc2 hd1 hd2 ho1 ho2
  have ml : maxLen = 9223372036854775807 := rfl
  have T0 := hide (Bo2.new w ⟨11, hm⟩ ⟨11, gm⟩ (.slice an hm.length cn) (.slice al l.length cl) (.slice bn gm.length dn) (.slice bl' m.length dl))
  show Calls _ _ #[.agg #[.int .i64 11, .slice an hm.length cn, .slice al l.length cl], .agg #[.int .i64 11, .slice bn gm.length dn, .slice bl' m.length dl]] _ _
  have hA : Hid (hm.length = l.length ∧ hm.Nodup) := tX.out.1.eleven rfl
  have hB : Hid (gm.length = m.length ∧ gm.Nodup) := tY.out.1.eleven rfl
  have HP : Hid (Prt (n + 1) ((⟨11, hm⟩, l) : TT (n + 1)) (⟨11, gm⟩, m) ↔ PNm (fun x y => Prt n x y) hm l gm m) := by
    constructor
    · intro z
      rcases z with z | ⟨z, _⟩ | ⟨_, ⟨_, z⟩ | ⟨z, _⟩⟩
      · exact absurd (show (11 : Int) = 1 from z) (by decide)
      · exact absurd (show (11 : Int) = 5 from z) (by decide)
      · exact z
      · exact absurd rfl z
    · intro z
      exact Or.inr (Or.inr ⟨rfl, Or.inl ⟨rfl, z⟩⟩)
  go_enter Tryd.func42, Tryd.ntmps42
  go_wp2_with fail
  go_loopw [5] (fun i w' => ∃ k : Nat, i = .int .i64 k ∧ k ≤ hm.length ∧ Hid ((∀ i (h1 : i < hm.length) (h2 : i < l.length), i < k → ∃ q, ∃ (h3 : q < gm.length) (h4 : q < m.length), gm[q] = hm[i] ∧ Prt n l[i] m[q]) ∧ Bo2 w ⟨11, hm⟩ ⟨11, gm⟩ (.slice an hm.length cn) (.slice al l.length cl) (.slice bn gm.length dn) (.slice bl' m.length dl) w')) (fun i _ => hm.length - (intOf i).toNat)
  case atStart => exact ⟨0, rfl, Nat.zero_le _, (fun i _ _ h => by omega), T0.out⟩
  case round =>
    clear T0
    obtain ⟨k, rfl, hk', H⟩ := hrel
    obtain ⟨x0, x1, x2⟩ := H.out.2.ba.cells
    obtain ⟨y0, y1, y2⟩ := H.out.2.bb.cells
    by_cases hkl : k < hm.length
    · have hki : (k : Int) < (hm.length : Int) := by omega
      have hk63 : (k : Int) < 9223372036854775807 := by omega
      obtain ⟨b, o, c, he, hbl, hlc, hcm, hcell⟩ := hx.out.1.at k hkl
      have he' := Value.slice.inj he
      obtain ⟨rfl, _, rfl⟩ := he'
      clear he
      have hcell := (H.out.2.below.cell (p := ⟨b, o + k, none⟩) hbl).trans hcell
      obtain ⟨s, hs⟩ : ∃ s, Hid (hm[k] = s) := ⟨_, hide rfl⟩
      simp only at hcell
      rw [hs.out] at hcell
      have hP := hide (fun W (hb : Below wr.heap.size wr W) => place_any (.slice bn gm.length dn) gm s W (hy.out.1.below (below_then H.out.2.below hb)))
      have hlt0 := H.out.2.ba.lt
      have hlt1 := H.out.2.bb.lt
      have hltb : b < wr.heap.size := Nat.lt_of_lt_of_le hbl H.out.2.below.size
      have mkS : Hid (∀ W : World, Below wr.heap.size wr W → W.cell? ⟨w.heap.size, 1, none⟩ = some (.slice (some ⟨b, o, none⟩) hm.length cn) ∧ W.cell? ⟨w.heap.size + 1, 1, none⟩ = some (.slice bn gm.length dn) ∧ W.cell? ⟨b, o + k, none⟩ = some (.string s)) := fun W hW => ⟨(hW.cell (p := ⟨w.heap.size, 1, none⟩) (by show _ < wr.heap.size; omega)).trans x1, (hW.cell (p := ⟨w.heap.size + 1, 1, none⟩) (by show _ < wr.heap.size; omega)).trans y1, (hW.cell (p := ⟨b, o + k, none⟩) (by show _ < wr.heap.size; omega)).trans hcell⟩
      clear hlt0 hlt1 hltb
      go_wp2_with fail
      go_region_held3 (fun W => W.cell? ⟨w.heap.size, 1, none⟩ = some (.slice (some ⟨b, o, none⟩) hm.length cn) ∧ W.cell? ⟨w.heap.size + 1, 1, none⟩ = some (.slice bn gm.length dn) ∧ W.cell? ⟨b, o + k, none⟩ = some (.string s)) (first | (exact mkS.out _ T3.out) | (simp [go_sem]; done) | go_keep) (first | (go_at_call 57; refine (hP.out _ (by repeat (first | exact Below.refl _ _ | refine below_dr ?_ | refine below_dn ?_ _))).mono ?_; rintro e w1 ⟨r, rfl, hr4, hb3⟩; have T3 : Hid (Below wr.heap.size wr w1) := below_then (by repeat (first | exact Below.refl _ _ | refine below_dr ?_ | refine below_dn ?_ _)) hb3))
      have T1 : Hid (Bo2 w ⟨11, hm⟩ ⟨11, gm⟩ (.slice (some ⟨b, o, none⟩) hm.length cn) (.slice al l.length cl) (.slice bn gm.length dn) (.slice bl' m.length dl) w1) := H.out.2.then T3.out
      clear T3 mkS hP hcell x0 x1 x2 y0 y1 y2
      obtain ⟨x0, x1, x2⟩ := T1.out.ba.cells
      obtain ⟨y0, y1, y2⟩ := T1.out.bb.cells
      have hkL : k < l.length := by have := hA.out.1; omega
      have hkLi : (k : Int) < (l.length : Int) := by omega
      rcases hr4.out with ⟨rfl, hn⟩ | ⟨q, rfl, hq, hqe⟩
      · have hn := hide hn
        clear hr4
        go_wp2_with fail
        go_quiet (fail)
        go_wp2_with fail
        go_ret
        refine TB.no (fun z => ?_) (below_dn T1.out.below _)
        obtain ⟨q, h3, h4, z, _⟩ := HP.out.1 z k hkl hkL
        exact hn.out (by rw [← hs.out, ← z]; exact List.getElem_mem _)
      · have hqM : q < m.length := by have := hB.out.1; omega
        have hqi : (q : Int) < (m.length : Int) := by omega
        have hq0 : (0 : Int) ≤ (q : Int) := by omega
        have hq63 : (q : Int) < 9223372036854775807 := by omega
        have hqd : decide ((q : Int) < 0) = false := decide_eq_false (by omega)
        have hqn : ¬ (q : Int) < 0 := by omega
        have hqe' := hide (show ∃ h : q < gm.length, gm[q] = s from ⟨hq, hqe⟩)
        clear hr4 hqe hq
        obtain ⟨b1, o1, f1, he, hbl1, hlc1, hcm1, ns1, ls1, hrg1, hrd1⟩ := hx.out.at k hkL
        have he' := Value.slice.inj he
        obtain ⟨rfl, _, rfl⟩ := he'
        clear he
        obtain ⟨q0, q1, q2⟩ := range3 (rangeAt_below hrg1 T1.out.below hbl1)
        obtain ⟨b2, o2, f2, he, hbl2, hlc2, hcm2, ns2, ls2, hrg2, hrd2⟩ := hy.out.at q hqM
        have he' := Value.slice.inj he
        obtain ⟨rfl, _, rfl⟩ := he'
        clear he
        obtain ⟨r0, r1, r2⟩ := range3 (rangeAt_below hrg2 T1.out.below hbl2)
        have hd1' := hide hrd1
        have hd2' := hide hrd2
        obtain ⟨a1, m1, d1, a2, m2, d2, rfl, rfl⟩ := hrd1.shape
        obtain ⟨a3, m3, d3, a4, m4, d4, rfl, rfl⟩ := hrd2.shape
        clear hrg1 hrd1 hrg2 hrd2
        obtain ⟨bk, hbk⟩ := tells (Prt n l[k] m[q])
        have hcall := hide (fun W (hW : Below w1.heap.size w1 W) => Calls.tb (ih'.out l[k] m[q] _ _ _ _ W (hd1'.out.below (below_then T1.out.below hW)) (hd2'.out.below (below_then T1.out.below hW)) (tX.out.2 _ (List.getElem_mem _)) (tY.out.2 _ (List.getElem_mem _))) hbk)
        have hbk' := hide hbk
        clear hbk
        simp only at q0 q1 q2 r0 r1 r2 hcall
        obtain ⟨hp, hhp⟩ : ∃ hp, thd n l[k] = hp := ⟨_, rfl⟩
        obtain ⟨hq, hhq⟩ : ∃ hq, thd n m[q] = hq := ⟨_, rfl⟩
        rw [hhp] at q0 hcall
        rw [hhq] at r0 hcall
        clear hhp hhq
        simp only [tvs] at hcall
        have hlt0 := T1.out.ba.lt
        have hlt1 := T1.out.bb.lt
        have hltb1 : b1 < w1.heap.size := Nat.lt_of_lt_of_le hbl1 T1.out.below.size
        have hltb2 : b2 < w1.heap.size := Nat.lt_of_lt_of_le hbl2 T1.out.below.size
        have mkS : Hid (∀ W : World, Below w1.heap.size w1 W → W.cell? ⟨w.heap.size, 2, none⟩ = some (.slice (some ⟨b1, o1, none⟩) l.length cl) ∧ W.cell? ⟨w.heap.size + 1, 2, none⟩ = some (.slice (some ⟨b2, o2, none⟩) m.length dl) ∧ W.cell? ⟨b1, o1 + k * 3, none⟩ = some (.int .i64 hp.kind) ∧ W.cell? ⟨b1, o1 + k * 3 + 1, none⟩ = some (.slice a1 m1 d1) ∧ W.cell? ⟨b1, o1 + k * 3 + 2, none⟩ = some (.slice a2 m2 d2) ∧ W.cell? ⟨b2, o2 + q * 3, none⟩ = some (.int .i64 hq.kind) ∧ W.cell? ⟨b2, o2 + q * 3 + 1, none⟩ = some (.slice a3 m3 d3) ∧ W.cell? ⟨b2, o2 + q * 3 + 2, none⟩ = some (.slice a4 m4 d4)) := fun W hW => ⟨(hW.cell (p := ⟨w.heap.size, 2, none⟩) (by show _ < w1.heap.size; omega)).trans x2, (hW.cell (p := ⟨w.heap.size + 1, 2, none⟩) (by show _ < w1.heap.size; omega)).trans y2, (hW.cell (p := ⟨b1, o1 + k * 3, none⟩) (by show _ < w1.heap.size; omega)).trans q0, (hW.cell (p := ⟨b1, o1 + k * 3 + 1, none⟩) (by show _ < w1.heap.size; omega)).trans q1, (hW.cell (p := ⟨b1, o1 + k * 3 + 2, none⟩) (by show _ < w1.heap.size; omega)).trans q2, (hW.cell (p := ⟨b2, o2 + q * 3, none⟩) (by show _ < w1.heap.size; omega)).trans r0, (hW.cell (p := ⟨b2, o2 + q * 3 + 1, none⟩) (by show _ < w1.heap.size; omega)).trans r1, (hW.cell (p := ⟨b2, o2 + q * 3 + 2, none⟩) (by show _ < w1.heap.size; omega)).trans r2⟩
        clear hlt0 hlt1 hltb1 hltb2
        cases bk
        · go_wp2_with fail
          go_region_held3 (fun W => W.cell? ⟨w.heap.size, 2, none⟩ = some (.slice (some ⟨b1, o1, none⟩) l.length cl) ∧ W.cell? ⟨w.heap.size + 1, 2, none⟩ = some (.slice (some ⟨b2, o2, none⟩) m.length dl) ∧ W.cell? ⟨b1, o1 + k * 3, none⟩ = some (.int .i64 hp.kind) ∧ W.cell? ⟨b1, o1 + k * 3 + 1, none⟩ = some (.slice a1 m1 d1) ∧ W.cell? ⟨b1, o1 + k * 3 + 2, none⟩ = some (.slice a2 m2 d2) ∧ W.cell? ⟨b2, o2 + q * 3, none⟩ = some (.int .i64 hq.kind) ∧ W.cell? ⟨b2, o2 + q * 3 + 1, none⟩ = some (.slice a3 m3 d3) ∧ W.cell? ⟨b2, o2 + q * 3 + 2, none⟩ = some (.slice a4 m4 d4)) (first | (exact mkS.out _ T3.out) | (simp [go_sem]; done) | go_keep) (first | (go_at_call 42; refine (hcall.out _ (by repeat (first | exact Below.refl _ _ | refine below_dr ?_ | refine below_dn ?_ _))).mono ?_; rintro e w3 ⟨rfl, hb3⟩; have T3 : Hid (Below w1.heap.size w1 w3) := below_then (by repeat (first | exact Below.refl _ _ | refine below_dr ?_ | refine below_dn ?_ _)) hb3))
          go_wp2_with fail
          go_ret
          refine TB.no (fun z => ?_) (below_then T1.out.below T3.out)
          obtain ⟨hqm, hqe⟩ := hqe'.out
          obtain ⟨q', h3, h4, z, z2⟩ := HP.out.1 z k hkl hkL
          have e : q' = q := (List.getElem_inj hB.out.2).1 (z.trans (hs.out.trans hqe.symm))
          subst e
          exact absurd (hbk'.out.2 z2) (by decide)
        · go_wp2_with fail
          go_region_held3 (fun W => W.cell? ⟨w.heap.size, 2, none⟩ = some (.slice (some ⟨b1, o1, none⟩) l.length cl) ∧ W.cell? ⟨w.heap.size + 1, 2, none⟩ = some (.slice (some ⟨b2, o2, none⟩) m.length dl) ∧ W.cell? ⟨b1, o1 + k * 3, none⟩ = some (.int .i64 hp.kind) ∧ W.cell? ⟨b1, o1 + k * 3 + 1, none⟩ = some (.slice a1 m1 d1) ∧ W.cell? ⟨b1, o1 + k * 3 + 2, none⟩ = some (.slice a2 m2 d2) ∧ W.cell? ⟨b2, o2 + q * 3, none⟩ = some (.int .i64 hq.kind) ∧ W.cell? ⟨b2, o2 + q * 3 + 1, none⟩ = some (.slice a3 m3 d3) ∧ W.cell? ⟨b2, o2 + q * 3 + 2, none⟩ = some (.slice a4 m4 d4)) (first | (exact mkS.out _ T3.out) | (simp [go_sem]; done) | go_keep) (first | (go_at_call 42; refine (hcall.out _ (by repeat (first | exact Below.refl _ _ | refine below_dr ?_ | refine below_dn ?_ _))).mono ?_; rintro e w3 ⟨rfl, hb3⟩; have T3 : Hid (Below w1.heap.size w1 w3) := below_then (by repeat (first | exact Below.refl _ _ | refine below_dr ?_ | refine below_dn ?_ _)) hb3))
          go_wp2_with fail
          obtain ⟨hqm, hqe⟩ := hqe'.out
          refine ⟨⟨k + 1, by go_num, by omega, (fun i h1 h2 h3 => ?_), T1.out.then T3.out⟩, by simp [intOf]; omega⟩
          by_cases e : i = k
          · subst e; exact ⟨q, hqm, hqM, hqe.trans hs.out.symm, hbk'.out.1 (by simp)⟩
          · exact H.out.1 i h1 h2 (by omega)
    · have hki : ¬ ((k : Int) < (hm.length : Int)) := by omega
      go_wp2_with fail
      go_ret
      exact TB.yes (HP.out.2 fun i h1 h2 => H.out.1 i h1 h2 (by omega)) H.out.2.below
set_option maxHeartbeats 4000000 in
set_option maxRecDepth 100000 in
theorem rpart_9 (n : Nat) (ih : RPartOk n) (x y : TT (n + 1)) (ns ls ns' ls' : Value) (w : World) (hr : RT (n + 1) w x ns ls) (hr' : RT (n + 1) w y ns' ls') (tx : IsT (n + 1) x) (ty : IsT (n + 1) y) (hk1 : x.1.kind = 9) (hk2 : y.1.kind = 9) :
    Calls Tryd.prog 42 #[.agg (tvs x.1 ns ls), .agg (tvs y.1 ns' ls')] w fun e w' => TB (Prt (n + 1) x y) w e w' := by
  obtain ⟨⟨hk, hm⟩, l⟩ := x
  obtain ⟨⟨gk, gm⟩, m⟩ := y
  simp only at hk1 hk2
  subst hk1 hk2
  obtain ⟨al, cl, rfl, hc1, hc2⟩ := hr.len
  obtain ⟨an, cn, rfl, hn1, hn2⟩ := hr.1.len
  obtain ⟨bl', dl, rfl, hd1, hd2⟩ := hr'.len
  obtain ⟨bn, dn, rfl, ho1, ho2⟩ := hr'.1.len
  have hx := hide hr
  have hy := hide hr'
  have tX := hide tx
  have tY := hide ty
  have ih' := hide ih
  clear ih hr hr' tx ty
  simp only at hn1 hn2 hc1 hc2 hd1 hd2 ho1 ho2
  have ml : maxLen = 9223372036854775807 := rfl
  have T0 := hide (Bo2.new w ⟨9, hm⟩ ⟨9, gm⟩ (.slice an hm.length cn) (.slice al l.length cl) (.slice bn gm.length dn) (.slice bl' m.length dl))
  show Calls _ _ #[.agg #[.int .i64 9, .slice an hm.length cn, .slice al l.length cl], .agg #[.int .i64 9, .slice bn gm.length dn, .slice bl' m.length dl]] _ _
  have hE : Hid (hm = gm) := by
    have h1 : hm = [] := by
      rcases tX.out.1 with ⟨_, q, _⟩ | ⟨q, _⟩ | ⟨_, q, _⟩
      · exact List.length_eq_zero_iff.1 q
      · rcases q with q | q
        · exact absurd (show (9 : Int) = 10 from q) (by decide)
        · exact absurd (show (9 : Int) = 11 from q) (by decide)
      · exact absurd (show (9 : Int) ≤ 8 from q) (by decide)
    have h2 : gm = [] := by
      rcases tY.out.1 with ⟨_, q, _⟩ | ⟨q, _⟩ | ⟨_, q, _⟩
      · exact List.length_eq_zero_iff.1 q
      · rcases q with q | q
        · exact absurd (show (9 : Int) = 10 from q) (by decide)
        · exact absurd (show (9 : Int) = 11 from q) (by decide)
      · exact absurd (show (9 : Int) ≤ 8 from q) (by decide)
    exact h1.trans h2.symm
  have HP : Hid (Prt (n + 1) ((⟨9, hm⟩, l) : TT (n + 1)) (⟨9, gm⟩, m) ↔ hm = gm ∧ PPl (fun x y => Prt n x y) l m) := by
    constructor
    · intro z
      rcases z with z | ⟨z, _⟩ | ⟨_, ⟨z, _⟩ | ⟨_, z⟩⟩
      · exact absurd (show (9 : Int) = 1 from z) (by decide)
      · exact absurd (show (9 : Int) = 5 from z) (by decide)
      · exact absurd (show (9 : Int) = 11 from z) (by decide)
      · exact z
    · intro z
      exact Or.inr (Or.inr ⟨rfl, Or.inr ⟨(show (9 : Int) ≠ 11 by decide), z⟩⟩)
  by_cases hlm : (l.length : Int) = (m.length : Int)
  · have hg3 := hide (show m.length = l.length by omega)
    rw [hg3.out] at hd1 T0 ⊢
    clear hlm
    go_enter Tryd.func42, Tryd.ntmps42
    go_wp2_with fail
    go_loopw [7] (fun i w' => ∃ k : Nat, i = .int .i64 k ∧ k ≤ l.length ∧ Hid ((∀ i (h1 : i < l.length) (h2 : i < m.length), i < k → Prt n l[i] m[i]) ∧ Bo2 w ⟨9, hm⟩ ⟨9, gm⟩ (.slice an hm.length cn) (.slice al l.length cl) (.slice bn gm.length dn) (.slice bl' l.length dl) w')) (fun i _ => l.length - (intOf i).toNat)
    case atStart => exact ⟨0, rfl, Nat.zero_le _, (fun i _ _ h => by omega), T0.out⟩
    case round =>
      clear T0
      obtain ⟨k, rfl, hk', H⟩ := hrel
      obtain ⟨x0, x1, x2⟩ := H.out.2.ba.cells
      obtain ⟨y0, y1, y2⟩ := H.out.2.bb.cells
      by_cases hkL : k < l.length
      · have hki : (k : Int) < (l.length : Int) := by omega
        have hk63 : (k : Int) < 9223372036854775807 := by omega
        have hqM : k < m.length := by have := hg3.out; omega
        obtain ⟨b1, o1, f1, he, hbl1, hlc1, hcm1, ns1, ls1, hrg1, hrd1⟩ := hx.out.at k hkL
        have he' := Value.slice.inj he
        obtain ⟨rfl, _, rfl⟩ := he'
        clear he
        obtain ⟨q0, q1, q2⟩ := range3 (rangeAt_below hrg1 H.out.2.below hbl1)
        obtain ⟨b2, o2, f2, he, hbl2, hlc2, hcm2, ns2, ls2, hrg2, hrd2⟩ := hy.out.at k hqM
        have he' := Value.slice.inj he
        obtain ⟨rfl, _, rfl⟩ := he'
        clear he
        obtain ⟨r0, r1, r2⟩ := range3 (rangeAt_below hrg2 H.out.2.below hbl2)
        have hd1' := hide hrd1
        have hd2' := hide hrd2
        obtain ⟨a1, m1, d1, a2, m2, d2, rfl, rfl⟩ := hrd1.shape
        obtain ⟨a3, m3, d3, a4, m4, d4, rfl, rfl⟩ := hrd2.shape
        clear hrg1 hrd1 hrg2 hrd2
        obtain ⟨bk, hbk⟩ := tells (Prt n l[k] m[k])
        have hcall := hide (fun W (hW : Below wr.heap.size wr W) => Calls.tb (ih'.out l[k] m[k] _ _ _ _ W (hd1'.out.below (below_then H.out.2.below hW)) (hd2'.out.below (below_then H.out.2.below hW)) (tX.out.2 _ (List.getElem_mem _)) (tY.out.2 _ (List.getElem_mem _))) hbk)
        have hbk' := hide hbk
        clear hbk
        simp only at q0 q1 q2 r0 r1 r2 hcall
        obtain ⟨hp, hhp⟩ : ∃ hp, thd n l[k] = hp := ⟨_, rfl⟩
        obtain ⟨hq, hhq⟩ : ∃ hq, thd n m[k] = hq := ⟨_, rfl⟩
        rw [hhp] at q0 hcall
        rw [hhq] at r0 hcall
        clear hhp hhq
        simp only [tvs] at hcall
        have hlt0 := H.out.2.ba.lt
        have hlt1 := H.out.2.bb.lt
        have hltb1 : b1 < wr.heap.size := Nat.lt_of_lt_of_le hbl1 H.out.2.below.size
        have hltb2 : b2 < wr.heap.size := Nat.lt_of_lt_of_le hbl2 H.out.2.below.size
        have mkS : Hid (∀ W : World, Below wr.heap.size wr W → W.cell? ⟨w.heap.size, 0, none⟩ = some (.int .i64 9) ∧ W.cell? ⟨w.heap.size, 2, none⟩ = some (.slice (some ⟨b1, o1, none⟩) l.length cl) ∧ W.cell? ⟨w.heap.size + 1, 2, none⟩ = some (.slice (some ⟨b2, o2, none⟩) l.length dl) ∧ W.cell? ⟨b1, o1 + k * 3, none⟩ = some (.int .i64 hp.kind) ∧ W.cell? ⟨b1, o1 + k * 3 + 1, none⟩ = some (.slice a1 m1 d1) ∧ W.cell? ⟨b1, o1 + k * 3 + 2, none⟩ = some (.slice a2 m2 d2) ∧ W.cell? ⟨b2, o2 + k * 3, none⟩ = some (.int .i64 hq.kind) ∧ W.cell? ⟨b2, o2 + k * 3 + 1, none⟩ = some (.slice a3 m3 d3) ∧ W.cell? ⟨b2, o2 + k * 3 + 2, none⟩ = some (.slice a4 m4 d4)) := fun W hW => ⟨(hW.cell (p := ⟨w.heap.size, 0, none⟩) (by show _ < wr.heap.size; omega)).trans x0, (hW.cell (p := ⟨w.heap.size, 2, none⟩) (by show _ < wr.heap.size; omega)).trans x2, (hW.cell (p := ⟨w.heap.size + 1, 2, none⟩) (by show _ < wr.heap.size; omega)).trans y2, (hW.cell (p := ⟨b1, o1 + k * 3, none⟩) (by show _ < wr.heap.size; omega)).trans q0, (hW.cell (p := ⟨b1, o1 + k * 3 + 1, none⟩) (by show _ < wr.heap.size; omega)).trans q1, (hW.cell (p := ⟨b1, o1 + k * 3 + 2, none⟩) (by show _ < wr.heap.size; omega)).trans q2, (hW.cell (p := ⟨b2, o2 + k * 3, none⟩) (by show _ < wr.heap.size; omega)).trans r0, (hW.cell (p := ⟨b2, o2 + k * 3 + 1, none⟩) (by show _ < wr.heap.size; omega)).trans r1, (hW.cell (p := ⟨b2, o2 + k * 3 + 2, none⟩) (by show _ < wr.heap.size; omega)).trans r2⟩
        clear hlt0 hlt1 hltb1 hltb2
        cases bk
        · go_wp2_with fail
          refine wp_region_held_drew (S := (fun W => W.cell? ⟨w.heap.size, 0, none⟩ = some (.int .i64 9) ∧ W.cell? ⟨w.heap.size, 2, none⟩ = some (.slice (some ⟨b1, o1, none⟩) l.length cl) ∧ W.cell? ⟨w.heap.size + 1, 2, none⟩ = some (.slice (some ⟨b2, o2, none⟩) l.length dl) ∧ W.cell? ⟨b1, o1 + k * 3, none⟩ = some (.int .i64 hp.kind) ∧ W.cell? ⟨b1, o1 + k * 3 + 1, none⟩ = some (.slice a1 m1 d1) ∧ W.cell? ⟨b1, o1 + k * 3 + 2, none⟩ = some (.slice a2 m2 d2) ∧ W.cell? ⟨b2, o2 + k * 3, none⟩ = some (.int .i64 hq.kind) ∧ W.cell? ⟨b2, o2 + k * 3 + 1, none⟩ = some (.slice a3 m3 d3) ∧ W.cell? ⟨b2, o2 + k * 3 + 2, none⟩ = some (.slice a4 m4 d4))) (by kernel_rfl) (mkS.out _ (by repeat (first | exact Below.refl _ _ | refine below_dr ?_ | refine below_dn ?_ _))) (fun hHeld => ?_)
          refine wpAnyH_take (i := 0) (v := ?_) rfl (by kernel_rfl) (by kernel_rfl) (by kernel_rfl) (fun _ _ _ h => h) (Or.inl ⟨by kernel_rfl, ?_⟩) (by assumption) ?_
          rotate_left
          · intro wq hSw; (try dsimp only at hSw); go_simp; try rfl
          try simp only [Act.put, List.setIfInBounds_toArray, List.set_cons_zero, List.set_cons_succ]
          refine wpAnyH_take (i := 1) (v := ?_) rfl (by kernel_rfl) (by kernel_rfl) (by kernel_rfl) (fun _ _ _ h => h) (Or.inl ⟨by kernel_rfl, ?_⟩) (by assumption) ?_
          rotate_left
          · intro wq hSw; (try dsimp only at hSw); go_simp; try rfl
          try simp only [Act.put, List.setIfInBounds_toArray, List.set_cons_zero, List.set_cons_succ]
          refine wpAnyH_take (i := 2) (v := ?_) rfl (by kernel_rfl) (by kernel_rfl) (by kernel_rfl) (fun _ _ _ h => h) (Or.inl ⟨by kernel_rfl, ?_⟩) (by assumption) ?_
          rotate_left
          · intro wq hSw; (try dsimp only at hSw); go_simp; try rfl
          try simp only [Act.put, List.setIfInBounds_toArray, List.set_cons_zero, List.set_cons_succ]
          refine wpAnyH_take (i := 3) (v := ?_) rfl (by kernel_rfl) (by kernel_rfl) (by kernel_rfl) (fun _ _ _ h => h) (Or.inl ⟨by kernel_rfl, ?_⟩) (by assumption) ?_
          rotate_left
          · intro wq hSw; (try dsimp only at hSw); go_simp; try rfl
          try simp only [Act.put, List.setIfInBounds_toArray, List.set_cons_zero, List.set_cons_succ]
          refine wpAnyH_take (i := 4) (v := undef) rfl (by kernel_rfl) (by kernel_rfl) (by kernel_rfl) (fun _ _ _ h => h) (Or.inr ⟨by kernel_rfl, rfl⟩) (by assumption) ?_
          try simp only [Act.put, List.setIfInBounds_toArray, List.set_cons_zero, List.set_cons_succ]
          refine wpAnyH_take (i := 5) (v := undef) rfl (by kernel_rfl) (by kernel_rfl) (by kernel_rfl) (fun _ _ _ h => h) (Or.inr ⟨by kernel_rfl, rfl⟩) (by assumption) ?_
          try simp only [Act.put, List.setIfInBounds_toArray, List.set_cons_zero, List.set_cons_succ]
          refine wpAnyH_take (i := 6) (v := undef) rfl (by kernel_rfl) (by kernel_rfl) (by kernel_rfl) (fun _ _ _ h => h) (Or.inr ⟨by kernel_rfl, rfl⟩) (by assumption) ?_
          try simp only [Act.put, List.setIfInBounds_toArray, List.set_cons_zero, List.set_cons_succ]
          refine wpAnyH_take (i := 7) (v := undef) rfl (by kernel_rfl) (by kernel_rfl) (by kernel_rfl) (fun _ _ _ h => h) (Or.inr ⟨by kernel_rfl, rfl⟩) (by assumption) ?_
          try simp only [Act.put, List.setIfInBounds_toArray, List.set_cons_zero, List.set_cons_succ]
          refine wpAnyH_take (i := 8) (v := undef) rfl (by kernel_rfl) (by kernel_rfl) (by kernel_rfl) (fun _ _ _ h => h) (Or.inr ⟨by kernel_rfl, rfl⟩) (by assumption) ?_
          try simp only [Act.put, List.setIfInBounds_toArray, List.set_cons_zero, List.set_cons_succ]
          refine wpAnyH_take (i := 9) (v := undef) rfl (by kernel_rfl) (by kernel_rfl) (by kernel_rfl) (fun _ _ _ h => h) (Or.inr ⟨by kernel_rfl, rfl⟩) (by assumption) ?_
          try simp only [Act.put, List.setIfInBounds_toArray, List.set_cons_zero, List.set_cons_succ]
          refine wpAnyH_take (i := 10) (v := undef) rfl (by kernel_rfl) (by kernel_rfl) (by kernel_rfl) (fun _ _ _ h => h) (Or.inr ⟨by kernel_rfl, rfl⟩) (by assumption) ?_
          try simp only [Act.put, List.setIfInBounds_toArray, List.set_cons_zero, List.set_cons_succ]
          refine wpAnyH_take (i := 11) (v := undef) rfl (by kernel_rfl) (by kernel_rfl) (by kernel_rfl) (fun _ _ _ h => h) (Or.inr ⟨by kernel_rfl, rfl⟩) (by assumption) ?_
          try simp only [Act.put, List.setIfInBounds_toArray, List.set_cons_zero, List.set_cons_succ]
          refine wpAnyH_take (i := 12) (v := undef) rfl (by kernel_rfl) (by kernel_rfl) (by kernel_rfl) (fun _ _ _ h => h) (Or.inr ⟨by kernel_rfl, rfl⟩) (by assumption) ?_
          try simp only [Act.put, List.setIfInBounds_toArray, List.set_cons_zero, List.set_cons_succ]
          refine wpAnyH_take (i := 13) (v := undef) rfl (by kernel_rfl) (by kernel_rfl) (by kernel_rfl) (fun _ _ _ h => h) (Or.inr ⟨by kernel_rfl, rfl⟩) (by assumption) ?_
          try simp only [Act.put, List.setIfInBounds_toArray, List.set_cons_zero, List.set_cons_succ]
          refine wpAnyH_take (i := 14) (v := undef) rfl (by kernel_rfl) (by kernel_rfl) (by kernel_rfl) (fun _ _ _ h => h) (Or.inr ⟨by kernel_rfl, rfl⟩) (by assumption) ?_
          try simp only [Act.put, List.setIfInBounds_toArray, List.set_cons_zero, List.set_cons_succ]
          refine wpAnyH_take (i := 15) (v := ?_) rfl (by kernel_rfl) (by kernel_rfl) (by kernel_rfl) (fun _ _ _ h => h) (Or.inl ⟨by kernel_rfl, ?_⟩) (by assumption) ?_
          rotate_left
          · intro wq hSw; (try dsimp only at hSw); go_simp; try rfl
          try simp only [Act.put, List.setIfInBounds_toArray, List.set_cons_zero, List.set_cons_succ]
          refine wpAnyH_take (i := 16) (v := ?_) rfl (by kernel_rfl) (by kernel_rfl) (by kernel_rfl) (fun _ _ _ h => h) (Or.inl ⟨by kernel_rfl, ?_⟩) (by assumption) ?_
          rotate_left
          · intro wq hSw; (try dsimp only at hSw); go_simp; try rfl
          try simp only [Act.put, List.setIfInBounds_toArray, List.set_cons_zero, List.set_cons_succ]
          refine wpAnyH_take (i := 17) (v := ?_) rfl (by kernel_rfl) (by kernel_rfl) (by kernel_rfl) (fun _ _ _ h => h) (Or.inl ⟨by kernel_rfl, ?_⟩) (by assumption) ?_
          rotate_left
          · intro wq hSw; (try dsimp only at hSw); go_simp; try rfl
          try simp only [Act.put, List.setIfInBounds_toArray, List.set_cons_zero, List.set_cons_succ]
          refine wpAnyH_take (i := 18) (v := ?_) rfl (by kernel_rfl) (by kernel_rfl) (by kernel_rfl) (fun _ _ _ h => h) (Or.inl ⟨by kernel_rfl, ?_⟩) (by assumption) ?_
          rotate_left
          · intro wq hSw; (try dsimp only at hSw); go_simp; try rfl
          try simp only [Act.put, List.setIfInBounds_toArray, List.set_cons_zero, List.set_cons_succ]
          refine wpAnyH_take (i := 19) (v := ?_) rfl (by kernel_rfl) (by kernel_rfl) (by kernel_rfl) (fun _ _ _ h => h) (Or.inl ⟨by kernel_rfl, ?_⟩) (by assumption) ?_
          rotate_left
          · intro wq hSw; (try dsimp only at hSw); go_simp; try rfl
          try simp only [Act.put, List.setIfInBounds_toArray, List.set_cons_zero, List.set_cons_succ]
          refine wpAnyH_take (i := 20) (v := ?_) rfl (by kernel_rfl) (by kernel_rfl) (by kernel_rfl) (fun _ _ _ h => h) (Or.inl ⟨by kernel_rfl, ?_⟩) (by assumption) ?_
          rotate_left
          · intro wq hSw; (try dsimp only at hSw); go_simp; try rfl
          try simp only [Act.put, List.setIfInBounds_toArray, List.set_cons_zero, List.set_cons_succ]
          refine wpAnyH_take (i := 21) (v := ?_) rfl (by kernel_rfl) (by kernel_rfl) (by kernel_rfl) (fun _ _ _ h => h) (Or.inl ⟨by kernel_rfl, ?_⟩) (by assumption) ?_
          rotate_left
          · intro wq hSw; (try dsimp only at hSw); go_simp; try rfl
          try simp only [Act.put, List.setIfInBounds_toArray, List.set_cons_zero, List.set_cons_succ]
          refine wpAnyH_take (i := 22) (v := ?_) rfl (by kernel_rfl) (by kernel_rfl) (by kernel_rfl) (fun _ _ _ h => h) (Or.inl ⟨by kernel_rfl, ?_⟩) (by assumption) ?_
          rotate_left
          · intro wq hSw; (try dsimp only at hSw); go_simp; try rfl
          try simp only [Act.put, List.setIfInBounds_toArray, List.set_cons_zero, List.set_cons_succ]
          refine wpAnyH_take (i := 23) (v := ?_) rfl (by kernel_rfl) (by kernel_rfl) (by kernel_rfl) (fun _ _ _ h => h) (Or.inl ⟨by kernel_rfl, ?_⟩) (by assumption) ?_
          rotate_left
          · intro wq hSw; (try dsimp only at hSw); go_simp; try rfl
          try simp only [Act.put, List.setIfInBounds_toArray, List.set_cons_zero, List.set_cons_succ]
          refine wpAnyH_take (i := 24) (v := ?_) rfl (by kernel_rfl) (by kernel_rfl) (by kernel_rfl) (fun _ _ _ h => h) (Or.inl ⟨by kernel_rfl, ?_⟩) (by assumption) ?_
          rotate_left
          · intro wq hSw; (try dsimp only at hSw); go_simp; try rfl
          try simp only [Act.put, List.setIfInBounds_toArray, List.set_cons_zero, List.set_cons_succ]
          refine wpAnyH_take (i := 25) (v := ?_) rfl (by kernel_rfl) (by kernel_rfl) (by kernel_rfl) (fun _ _ _ h => h) (Or.inl ⟨by kernel_rfl, ?_⟩) (by assumption) ?_
          rotate_left
          · intro wq hSw; (try dsimp only at hSw); go_simp; try rfl
          try simp only [Act.put, List.setIfInBounds_toArray, List.set_cons_zero, List.set_cons_succ]
          refine wpAnyH_take (i := 26) (v := ?_) rfl (by kernel_rfl) (by kernel_rfl) (by kernel_rfl) (fun _ _ _ h => h) (Or.inl ⟨by kernel_rfl, ?_⟩) (by assumption) ?_
          rotate_left
          · intro wq hSw; (try dsimp only at hSw); go_simp; try rfl
          try simp only [Act.put, List.setIfInBounds_toArray, List.set_cons_zero, List.set_cons_succ]
          refine wpAnyH_ready (rs := [27]) (by kernel_rfl) (by simp) (AllReadyH.cons rfl (fun K hK => ?_) AllReadyH.nil)
          go_simp
          refine (hcall.out _ (by repeat (first | exact Below.refl _ _ | refine below_dr ?_ | refine below_dn ?_ _))).mono ?_
          rintro e w3 ⟨rfl, hb3⟩
          have T3 : Hid (Below wr.heap.size wr w3) := below_then (by repeat (first | exact Below.refl _ _ | refine below_dr ?_ | refine below_dn ?_ _)) hb3
          clear hb3 hHeld
          dsimp only
          refine hK.out _ _ (mkS.out _ T3.out) (fun hHeld => ?_)
          clear hK K
          try go_simp
          refine wpAnyH_take (i := 28) (v := ?_) rfl (by kernel_rfl) (by kernel_rfl) (by kernel_rfl) (fun _ _ _ h => h) (Or.inl ⟨by kernel_rfl, ?_⟩) (by assumption) ?_
          rotate_left
          · intro wq hSw; (try dsimp only at hSw); go_simp; try rfl
          try simp only [Act.put, List.setIfInBounds_toArray, List.set_cons_zero, List.set_cons_succ]
          refine wpAnyH_take (i := 29) (v := ?_) rfl (by kernel_rfl) (by kernel_rfl) (by kernel_rfl) (fun _ _ _ h => h) (Or.inl ⟨by kernel_rfl, ?_⟩) (by assumption) ?_
          rotate_left
          · intro wq hSw; (try dsimp only at hSw); go_simp; try rfl
          try simp only [Act.put, List.setIfInBounds_toArray, List.set_cons_zero, List.set_cons_succ]
          refine wpAnyH_done (by kernel_rfl) ?_ _
          clear hHeld mkS
          try simp only [Int.reduceBEq, Int.reduceEq, decide_false, decide_true]
          try go_simp
          go_wp2_with fail
          go_ret
          refine TB.no (fun z => ?_) (below_then H.out.2.below T3.out)
          exact absurd (hbk'.out.2 ((HP.out.1 z).2.2 k hkL hqM)) (by decide)
        · go_wp2_with fail
          refine wp_region_held_drew (S := (fun W => W.cell? ⟨w.heap.size, 0, none⟩ = some (.int .i64 9) ∧ W.cell? ⟨w.heap.size, 2, none⟩ = some (.slice (some ⟨b1, o1, none⟩) l.length cl) ∧ W.cell? ⟨w.heap.size + 1, 2, none⟩ = some (.slice (some ⟨b2, o2, none⟩) l.length dl) ∧ W.cell? ⟨b1, o1 + k * 3, none⟩ = some (.int .i64 hp.kind) ∧ W.cell? ⟨b1, o1 + k * 3 + 1, none⟩ = some (.slice a1 m1 d1) ∧ W.cell? ⟨b1, o1 + k * 3 + 2, none⟩ = some (.slice a2 m2 d2) ∧ W.cell? ⟨b2, o2 + k * 3, none⟩ = some (.int .i64 hq.kind) ∧ W.cell? ⟨b2, o2 + k * 3 + 1, none⟩ = some (.slice a3 m3 d3) ∧ W.cell? ⟨b2, o2 + k * 3 + 2, none⟩ = some (.slice a4 m4 d4))) (by kernel_rfl) (mkS.out _ (by repeat (first | exact Below.refl _ _ | refine below_dr ?_ | refine below_dn ?_ _))) (fun hHeld => ?_)
          refine wpAnyH_take (i := 0) (v := ?_) rfl (by kernel_rfl) (by kernel_rfl) (by kernel_rfl) (fun _ _ _ h => h) (Or.inl ⟨by kernel_rfl, ?_⟩) (by assumption) ?_
          rotate_left
          · intro wq hSw; (try dsimp only at hSw); go_simp; try rfl
          try simp only [Act.put, List.setIfInBounds_toArray, List.set_cons_zero, List.set_cons_succ]
          refine wpAnyH_take (i := 1) (v := ?_) rfl (by kernel_rfl) (by kernel_rfl) (by kernel_rfl) (fun _ _ _ h => h) (Or.inl ⟨by kernel_rfl, ?_⟩) (by assumption) ?_
          rotate_left
          · intro wq hSw; (try dsimp only at hSw); go_simp; try rfl
          try simp only [Act.put, List.setIfInBounds_toArray, List.set_cons_zero, List.set_cons_succ]
          refine wpAnyH_take (i := 2) (v := ?_) rfl (by kernel_rfl) (by kernel_rfl) (by kernel_rfl) (fun _ _ _ h => h) (Or.inl ⟨by kernel_rfl, ?_⟩) (by assumption) ?_
          rotate_left
          · intro wq hSw; (try dsimp only at hSw); go_simp; try rfl
          try simp only [Act.put, List.setIfInBounds_toArray, List.set_cons_zero, List.set_cons_succ]
          refine wpAnyH_take (i := 3) (v := ?_) rfl (by kernel_rfl) (by kernel_rfl) (by kernel_rfl) (fun _ _ _ h => h) (Or.inl ⟨by kernel_rfl, ?_⟩) (by assumption) ?_
          rotate_left
          · intro wq hSw; (try dsimp only at hSw); go_simp; try rfl
          try simp only [Act.put, List.setIfInBounds_toArray, List.set_cons_zero, List.set_cons_succ]
          refine wpAnyH_take (i := 4) (v := undef) rfl (by kernel_rfl) (by kernel_rfl) (by kernel_rfl) (fun _ _ _ h => h) (Or.inr ⟨by kernel_rfl, rfl⟩) (by assumption) ?_
          try simp only [Act.put, List.setIfInBounds_toArray, List.set_cons_zero, List.set_cons_succ]
          refine wpAnyH_take (i := 5) (v := undef) rfl (by kernel_rfl) (by kernel_rfl) (by kernel_rfl) (fun _ _ _ h => h) (Or.inr ⟨by kernel_rfl, rfl⟩) (by assumption) ?_
          try simp only [Act.put, List.setIfInBounds_toArray, List.set_cons_zero, List.set_cons_succ]
          refine wpAnyH_take (i := 6) (v := undef) rfl (by kernel_rfl) (by kernel_rfl) (by kernel_rfl) (fun _ _ _ h => h) (Or.inr ⟨by kernel_rfl, rfl⟩) (by assumption) ?_
          try simp only [Act.put, List.setIfInBounds_toArray, List.set_cons_zero, List.set_cons_succ]
          refine wpAnyH_take (i := 7) (v := undef) rfl (by kernel_rfl) (by kernel_rfl) (by kernel_rfl) (fun _ _ _ h => h) (Or.inr ⟨by kernel_rfl, rfl⟩) (by assumption) ?_
          try simp only [Act.put, List.setIfInBounds_toArray, List.set_cons_zero, List.set_cons_succ]
          refine wpAnyH_take (i := 8) (v := undef) rfl (by kernel_rfl) (by kernel_rfl) (by kernel_rfl) (fun _ _ _ h => h) (Or.inr ⟨by kernel_rfl, rfl⟩) (by assumption) ?_
          try simp only [Act.put, List.setIfInBounds_toArray, List.set_cons_zero, List.set_cons_succ]
          refine wpAnyH_take (i := 9) (v := undef) rfl (by kernel_rfl) (by kernel_rfl) (by kernel_rfl) (fun _ _ _ h => h) (Or.inr ⟨by kernel_rfl, rfl⟩) (by assumption) ?_
          try simp only [Act.put, List.setIfInBounds_toArray, List.set_cons_zero, List.set_cons_succ]
          refine wpAnyH_take (i := 10) (v := undef) rfl (by kernel_rfl) (by kernel_rfl) (by kernel_rfl) (fun _ _ _ h => h) (Or.inr ⟨by kernel_rfl, rfl⟩) (by assumption) ?_
          try simp only [Act.put, List.setIfInBounds_toArray, List.set_cons_zero, List.set_cons_succ]
          refine wpAnyH_take (i := 11) (v := undef) rfl (by kernel_rfl) (by kernel_rfl) (by kernel_rfl) (fun _ _ _ h => h) (Or.inr ⟨by kernel_rfl, rfl⟩) (by assumption) ?_
          try simp only [Act.put, List.setIfInBounds_toArray, List.set_cons_zero, List.set_cons_succ]
          refine wpAnyH_take (i := 12) (v := undef) rfl (by kernel_rfl) (by kernel_rfl) (by kernel_rfl) (fun _ _ _ h => h) (Or.inr ⟨by kernel_rfl, rfl⟩) (by assumption) ?_
          try simp only [Act.put, List.setIfInBounds_toArray, List.set_cons_zero, List.set_cons_succ]
          refine wpAnyH_take (i := 13) (v := undef) rfl (by kernel_rfl) (by kernel_rfl) (by kernel_rfl) (fun _ _ _ h => h) (Or.inr ⟨by kernel_rfl, rfl⟩) (by assumption) ?_
          try simp only [Act.put, List.setIfInBounds_toArray, List.set_cons_zero, List.set_cons_succ]
          refine wpAnyH_take (i := 14) (v := undef) rfl (by kernel_rfl) (by kernel_rfl) (by kernel_rfl) (fun _ _ _ h => h) (Or.inr ⟨by kernel_rfl, rfl⟩) (by assumption) ?_
          try simp only [Act.put, List.setIfInBounds_toArray, List.set_cons_zero, List.set_cons_succ]
          refine wpAnyH_take (i := 15) (v := ?_) rfl (by kernel_rfl) (by kernel_rfl) (by kernel_rfl) (fun _ _ _ h => h) (Or.inl ⟨by kernel_rfl, ?_⟩) (by assumption) ?_
          rotate_left
          · intro wq hSw; (try dsimp only at hSw); go_simp; try rfl
          try simp only [Act.put, List.setIfInBounds_toArray, List.set_cons_zero, List.set_cons_succ]
          refine wpAnyH_take (i := 16) (v := ?_) rfl (by kernel_rfl) (by kernel_rfl) (by kernel_rfl) (fun _ _ _ h => h) (Or.inl ⟨by kernel_rfl, ?_⟩) (by assumption) ?_
          rotate_left
          · intro wq hSw; (try dsimp only at hSw); go_simp; try rfl
          try simp only [Act.put, List.setIfInBounds_toArray, List.set_cons_zero, List.set_cons_succ]
          refine wpAnyH_take (i := 17) (v := ?_) rfl (by kernel_rfl) (by kernel_rfl) (by kernel_rfl) (fun _ _ _ h => h) (Or.inl ⟨by kernel_rfl, ?_⟩) (by assumption) ?_
          rotate_left
          · intro wq hSw; (try dsimp only at hSw); go_simp; try rfl
          try simp only [Act.put, List.setIfInBounds_toArray, List.set_cons_zero, List.set_cons_succ]
          refine wpAnyH_take (i := 18) (v := ?_) rfl (by kernel_rfl) (by kernel_rfl) (by kernel_rfl) (fun _ _ _ h => h) (Or.inl ⟨by kernel_rfl, ?_⟩) (by assumption) ?_
          rotate_left
          · intro wq hSw; (try dsimp only at hSw); go_simp; try rfl
          try simp only [Act.put, List.setIfInBounds_toArray, List.set_cons_zero, List.set_cons_succ]
          refine wpAnyH_take (i := 19) (v := ?_) rfl (by kernel_rfl) (by kernel_rfl) (by kernel_rfl) (fun _ _ _ h => h) (Or.inl ⟨by kernel_rfl, ?_⟩) (by assumption) ?_
          rotate_left
          · intro wq hSw; (try dsimp only at hSw); go_simp; try rfl
          try simp only [Act.put, List.setIfInBounds_toArray, List.set_cons_zero, List.set_cons_succ]
          refine wpAnyH_take (i := 20) (v := ?_) rfl (by kernel_rfl) (by kernel_rfl) (by kernel_rfl) (fun _ _ _ h => h) (Or.inl ⟨by kernel_rfl, ?_⟩) (by assumption) ?_
          rotate_left
          · intro wq hSw; (try dsimp only at hSw); go_simp; try rfl
          try simp only [Act.put, List.setIfInBounds_toArray, List.set_cons_zero, List.set_cons_succ]
          refine wpAnyH_take (i := 21) (v := ?_) rfl (by kernel_rfl) (by kernel_rfl) (by kernel_rfl) (fun _ _ _ h => h) (Or.inl ⟨by kernel_rfl, ?_⟩) (by assumption) ?_
          rotate_left
          · intro wq hSw; (try dsimp only at hSw); go_simp; try rfl
          try simp only [Act.put, List.setIfInBounds_toArray, List.set_cons_zero, List.set_cons_succ]
          refine wpAnyH_take (i := 22) (v := ?_) rfl (by kernel_rfl) (by kernel_rfl) (by kernel_rfl) (fun _ _ _ h => h) (Or.inl ⟨by kernel_rfl, ?_⟩) (by assumption) ?_
          rotate_left
          · intro wq hSw; (try dsimp only at hSw); go_simp; try rfl
          try simp only [Act.put, List.setIfInBounds_toArray, List.set_cons_zero, List.set_cons_succ]
          refine wpAnyH_take (i := 23) (v := ?_) rfl (by kernel_rfl) (by kernel_rfl) (by kernel_rfl) (fun _ _ _ h => h) (Or.inl ⟨by kernel_rfl, ?_⟩) (by assumption) ?_
          rotate_left
          · intro wq hSw; (try dsimp only at hSw); go_simp; try rfl
          try simp only [Act.put, List.setIfInBounds_toArray, List.set_cons_zero, List.set_cons_succ]
          refine wpAnyH_take (i := 24) (v := ?_) rfl (by kernel_rfl) (by kernel_rfl) (by kernel_rfl) (fun _ _ _ h => h) (Or.inl ⟨by kernel_rfl, ?_⟩) (by assumption) ?_
          rotate_left
          · intro wq hSw; (try dsimp only at hSw); go_simp; try rfl
          try simp only [Act.put, List.setIfInBounds_toArray, List.set_cons_zero, List.set_cons_succ]
          refine wpAnyH_take (i := 25) (v := ?_) rfl (by kernel_rfl) (by kernel_rfl) (by kernel_rfl) (fun _ _ _ h => h) (Or.inl ⟨by kernel_rfl, ?_⟩) (by assumption) ?_
          rotate_left
          · intro wq hSw; (try dsimp only at hSw); go_simp; try rfl
          try simp only [Act.put, List.setIfInBounds_toArray, List.set_cons_zero, List.set_cons_succ]
          refine wpAnyH_take (i := 26) (v := ?_) rfl (by kernel_rfl) (by kernel_rfl) (by kernel_rfl) (fun _ _ _ h => h) (Or.inl ⟨by kernel_rfl, ?_⟩) (by assumption) ?_
          rotate_left
          · intro wq hSw; (try dsimp only at hSw); go_simp; try rfl
          try simp only [Act.put, List.setIfInBounds_toArray, List.set_cons_zero, List.set_cons_succ]
          refine wpAnyH_ready (rs := [27]) (by kernel_rfl) (by simp) (AllReadyH.cons rfl (fun K hK => ?_) AllReadyH.nil)
          go_simp
          refine (hcall.out _ (by repeat (first | exact Below.refl _ _ | refine below_dr ?_ | refine below_dn ?_ _))).mono ?_
          rintro e w3 ⟨rfl, hb3⟩
          have T3 : Hid (Below wr.heap.size wr w3) := below_then (by repeat (first | exact Below.refl _ _ | refine below_dr ?_ | refine below_dn ?_ _)) hb3
          clear hb3 hHeld
          dsimp only
          refine hK.out _ _ (mkS.out _ T3.out) (fun hHeld => ?_)
          clear hK K
          try go_simp
          refine wpAnyH_take (i := 28) (v := ?_) rfl (by kernel_rfl) (by kernel_rfl) (by kernel_rfl) (fun _ _ _ h => h) (Or.inl ⟨by kernel_rfl, ?_⟩) (by assumption) ?_
          rotate_left
          · intro wq hSw; (try dsimp only at hSw); go_simp; try rfl
          try simp only [Act.put, List.setIfInBounds_toArray, List.set_cons_zero, List.set_cons_succ]
          refine wpAnyH_take (i := 29) (v := ?_) rfl (by kernel_rfl) (by kernel_rfl) (by kernel_rfl) (fun _ _ _ h => h) (Or.inl ⟨by kernel_rfl, ?_⟩) (by assumption) ?_
          rotate_left
          · intro wq hSw; (try dsimp only at hSw); go_simp; try rfl
          try simp only [Act.put, List.setIfInBounds_toArray, List.set_cons_zero, List.set_cons_succ]
          refine wpAnyH_done (by kernel_rfl) ?_ _
          clear hHeld mkS
          try simp only [Int.reduceBEq, Int.reduceEq, decide_false, decide_true]
          try go_simp
          go_wp2_with fail
          refine ⟨⟨k + 1, by go_num, by omega, (fun i h1 h2 h3 => ?_), H.out.2.then T3.out⟩, by simp [intOf]; omega⟩
          by_cases e : i = k
          · subst e; exact hbk'.out.1 (by simp)
          · exact H.out.1 i h1 h2 (by omega)
      · have hki : ¬ ((k : Int) < (l.length : Int)) := by omega
        go_wp2_with fail
        go_ret
        exact TB.yes (HP.out.2 ⟨hE.out, hg3.out.symm, fun i h1 h2 => H.out.1 i h1 h2 (by omega)⟩) H.out.2.below
  · have hF : Hid (¬ Prt (n + 1) ((⟨9, hm⟩, l) : TT (n + 1)) (⟨9, gm⟩, m)) := fun z => hlm (by rw [(HP.out.1 z).2.1])
    have hT := hide T0.out.below
    clear T0
    go_enter Tryd.func42, Tryd.ntmps42
    go_wp2_with fail
    go_ret
    exact TB.no hF.out hT.out
set_option maxHeartbeats 4000000 in
set_option maxRecDepth 100000 in
theorem rpart_10 (n : Nat) (ih : RPartOk n) (x y : TT (n + 1)) (ns ls ns' ls' : Value) (w : World) (hr : RT (n + 1) w x ns ls) (hr' : RT (n + 1) w y ns' ls') (tx : IsT (n + 1) x) (ty : IsT (n + 1) y) (hk1 : x.1.kind = 10) (hk2 : y.1.kind = 10) :
    Calls Tryd.prog 42 #[.agg (tvs x.1 ns ls), .agg (tvs y.1 ns' ls')] w fun e w' => TB (Prt (n + 1) x y) w e w' := by
  obtain ⟨⟨hk, hm⟩, l⟩ := x
  obtain ⟨⟨gk, gm⟩, m⟩ := y
  simp only at hk1 hk2
  subst hk1 hk2
  obtain ⟨al, cl, rfl, hc1, hc2⟩ := hr.len
  obtain ⟨an, cn, rfl, hn1, hn2⟩ := hr.1.len
  obtain ⟨bl', dl, rfl, hd1, hd2⟩ := hr'.len
  obtain ⟨bn, dn, rfl, ho1, ho2⟩ := hr'.1.len
  have hx := hide hr
  have hy := hide hr'
  have tX := hide tx
  have tY := hide ty
  have ih' := hide ih
  clear ih hr hr' tx ty
  simp only at hn1 hn2 hc1 hc2 hd1 hd2 ho1 ho2
  have ml : maxLen = 9223372036854775807 := rfl
  have T0 := hide (Bo2.new w ⟨10, hm⟩ ⟨10, gm⟩ (.slice an hm.length cn) (.slice al l.length cl) (.slice bn gm.length dn) (.slice bl' m.length dl))
  show Calls _ _ #[.agg #[.int .i64 10, .slice an hm.length cn, .slice al l.length cl], .agg #[.int .i64 10, .slice bn gm.length dn, .slice bl' m.length dl]] _ _
  have hA : Hid (hm.length = l.length) := by
    rcases tX.out.1 with ⟨q, _⟩ | ⟨_, q, _⟩ | ⟨_, q, _⟩
    · exact absurd (show (10 : Int) = 9 from q) (by decide)
    · exact q
    · exact absurd (show (10 : Int) ≤ 8 from q) (by decide)
  have hB : Hid (gm.length = m.length) := by
    rcases tY.out.1 with ⟨q, _⟩ | ⟨_, q, _⟩ | ⟨_, q, _⟩
    · exact absurd (show (10 : Int) = 9 from q) (by decide)
    · exact q
    · exact absurd (show (10 : Int) ≤ 8 from q) (by decide)
  have HP : Hid (Prt (n + 1) ((⟨10, hm⟩, l) : TT (n + 1)) (⟨10, gm⟩, m) ↔ hm = gm ∧ PPl (fun x y => Prt n x y) l m) := by
    constructor
    · intro z
      rcases z with z | ⟨z, _⟩ | ⟨_, ⟨z, _⟩ | ⟨_, z⟩⟩
      · exact absurd (show (10 : Int) = 1 from z) (by decide)
      · exact absurd (show (10 : Int) = 5 from z) (by decide)
      · exact absurd (show (10 : Int) = 11 from z) (by decide)
      · exact z
    · intro z
      exact Or.inr (Or.inr ⟨rfl, Or.inr ⟨(show (10 : Int) ≠ 11 by decide), z⟩⟩)
  by_cases hlm : (l.length : Int) = (m.length : Int)
  · have hg3 := hide (show m.length = l.length by omega)
    rw [hg3.out] at hd1 T0 ⊢
    clear hlm
    go_enter Tryd.func42, Tryd.ntmps42
    go_wp2_with fail
    go_loopw [7] (fun i w' => ∃ k : Nat, i = .int .i64 k ∧ k ≤ l.length ∧ Hid (((∀ i (h1 : i < l.length) (h2 : i < m.length), i < k → Prt n l[i] m[i]) ∧ (∀ i (h1 : i < hm.length) (h2 : i < gm.length), i < k → hm[i] = gm[i])) ∧ Bo2 w ⟨10, hm⟩ ⟨10, gm⟩ (.slice an hm.length cn) (.slice al l.length cl) (.slice bn gm.length dn) (.slice bl' l.length dl) w')) (fun i _ => l.length - (intOf i).toNat)
    case atStart => exact ⟨0, rfl, Nat.zero_le _, ⟨(fun i _ _ h => by omega), (fun i _ _ h => by omega)⟩, T0.out⟩
    case round =>
      clear T0
      obtain ⟨k, rfl, hk', H⟩ := hrel
      obtain ⟨x0, x1, x2⟩ := H.out.2.ba.cells
      obtain ⟨y0, y1, y2⟩ := H.out.2.bb.cells
      by_cases hkL : k < l.length
      · have hki : (k : Int) < (l.length : Int) := by omega
        have hk63 : (k : Int) < 9223372036854775807 := by omega
        have hqM : k < m.length := by have := hg3.out; omega
        have hkl : k < hm.length := by have := hA.out; omega
        have hkg : k < gm.length := by have := hB.out; have := hg3.out; omega
        have hkn : (k : Int) < (hm.length : Int) := by omega
        have hkm : (k : Int) < (gm.length : Int) := by omega
        obtain ⟨b, o, c, he, hbl, hlc, hcm, hcell⟩ := hx.out.1.at k hkl
        have he' := Value.slice.inj he
        obtain ⟨rfl, _, rfl⟩ := he'
        clear he
        have hcell := (H.out.2.below.cell (p := ⟨b, o + k, none⟩) hbl).trans hcell
        obtain ⟨b', o', c', he, hbl', hlc', hcm', hcell'⟩ := hy.out.1.at k hkg
        have he' := Value.slice.inj he
        obtain ⟨rfl, _, rfl⟩ := he'
        clear he
        have hcell' := (H.out.2.below.cell (p := ⟨b', o' + k, none⟩) hbl').trans hcell'
        obtain ⟨s, hs⟩ : ∃ s, Hid (hm[k] = s) := ⟨_, hide rfl⟩
        obtain ⟨t, ht⟩ : ∃ t, Hid (gm[k] = t) := ⟨_, hide rfl⟩
        simp only at hcell hcell'
        rw [hs.out] at hcell
        rw [ht.out] at hcell'
        by_cases hst : s = t
        · subst hst
          obtain ⟨b1, o1, f1, he, hbl1, hlc1, hcm1, ns1, ls1, hrg1, hrd1⟩ := hx.out.at k hkL
          have he' := Value.slice.inj he
          obtain ⟨rfl, _, rfl⟩ := he'
          clear he
          obtain ⟨q0, q1, q2⟩ := range3 (rangeAt_below hrg1 H.out.2.below hbl1)
          obtain ⟨b2, o2, f2, he, hbl2, hlc2, hcm2, ns2, ls2, hrg2, hrd2⟩ := hy.out.at k hqM
          have he' := Value.slice.inj he
          obtain ⟨rfl, _, rfl⟩ := he'
          clear he
          obtain ⟨r0, r1, r2⟩ := range3 (rangeAt_below hrg2 H.out.2.below hbl2)
          have hd1' := hide hrd1
          have hd2' := hide hrd2
          obtain ⟨a1, m1, d1, a2, m2, d2, rfl, rfl⟩ := hrd1.shape
          obtain ⟨a3, m3, d3, a4, m4, d4, rfl, rfl⟩ := hrd2.shape
          clear hrg1 hrd1 hrg2 hrd2
          obtain ⟨bk, hbk⟩ := tells (Prt n l[k] m[k])
          have hcall := hide (fun W (hW : Below wr.heap.size wr W) => Calls.tb (ih'.out l[k] m[k] _ _ _ _ W (hd1'.out.below (below_then H.out.2.below hW)) (hd2'.out.below (below_then H.out.2.below hW)) (tX.out.2 _ (List.getElem_mem _)) (tY.out.2 _ (List.getElem_mem _))) hbk)
          have hbk' := hide hbk
          clear hbk
          simp only at q0 q1 q2 r0 r1 r2 hcall
          obtain ⟨hp, hhp⟩ : ∃ hp, thd n l[k] = hp := ⟨_, rfl⟩
          obtain ⟨hq, hhq⟩ : ∃ hq, thd n m[k] = hq := ⟨_, rfl⟩
          rw [hhp] at q0 hcall
          rw [hhq] at r0 hcall
          clear hhp hhq
          simp only [tvs] at hcall
          have hlt0 := H.out.2.ba.lt
          have hlt1 := H.out.2.bb.lt
          have hltb : b < wr.heap.size := Nat.lt_of_lt_of_le hbl H.out.2.below.size
          have hltb' : b' < wr.heap.size := Nat.lt_of_lt_of_le hbl' H.out.2.below.size
          have hltb1 : b1 < wr.heap.size := Nat.lt_of_lt_of_le hbl1 H.out.2.below.size
          have hltb2 : b2 < wr.heap.size := Nat.lt_of_lt_of_le hbl2 H.out.2.below.size
          have mkS : Hid (∀ W : World, Below wr.heap.size wr W → W.cell? ⟨w.heap.size, 0, none⟩ = some (.int .i64 10) ∧ W.cell? ⟨w.heap.size, 1, none⟩ = some (.slice (some ⟨b, o, none⟩) hm.length cn) ∧ W.cell? ⟨w.heap.size + 1, 1, none⟩ = some (.slice (some ⟨b', o', none⟩) gm.length dn) ∧ W.cell? ⟨b, o + k, none⟩ = some (.string s) ∧ W.cell? ⟨b', o' + k, none⟩ = some (.string s) ∧ W.cell? ⟨w.heap.size, 2, none⟩ = some (.slice (some ⟨b1, o1, none⟩) l.length cl) ∧ W.cell? ⟨w.heap.size + 1, 2, none⟩ = some (.slice (some ⟨b2, o2, none⟩) l.length dl) ∧ W.cell? ⟨b1, o1 + k * 3, none⟩ = some (.int .i64 hp.kind) ∧ W.cell? ⟨b1, o1 + k * 3 + 1, none⟩ = some (.slice a1 m1 d1) ∧ W.cell? ⟨b1, o1 + k * 3 + 2, none⟩ = some (.slice a2 m2 d2) ∧ W.cell? ⟨b2, o2 + k * 3, none⟩ = some (.int .i64 hq.kind) ∧ W.cell? ⟨b2, o2 + k * 3 + 1, none⟩ = some (.slice a3 m3 d3) ∧ W.cell? ⟨b2, o2 + k * 3 + 2, none⟩ = some (.slice a4 m4 d4)) := fun W hW => ⟨(hW.cell (p := ⟨w.heap.size, 0, none⟩) (by show _ < wr.heap.size; omega)).trans x0, (hW.cell (p := ⟨w.heap.size, 1, none⟩) (by show _ < wr.heap.size; omega)).trans x1, (hW.cell (p := ⟨w.heap.size + 1, 1, none⟩) (by show _ < wr.heap.size; omega)).trans y1, (hW.cell (p := ⟨b, o + k, none⟩) (by show _ < wr.heap.size; omega)).trans hcell, (hW.cell (p := ⟨b', o' + k, none⟩) (by show _ < wr.heap.size; omega)).trans hcell', (hW.cell (p := ⟨w.heap.size, 2, none⟩) (by show _ < wr.heap.size; omega)).trans x2, (hW.cell (p := ⟨w.heap.size + 1, 2, none⟩) (by show _ < wr.heap.size; omega)).trans y2, (hW.cell (p := ⟨b1, o1 + k * 3, none⟩) (by show _ < wr.heap.size; omega)).trans q0, (hW.cell (p := ⟨b1, o1 + k * 3 + 1, none⟩) (by show _ < wr.heap.size; omega)).trans q1, (hW.cell (p := ⟨b1, o1 + k * 3 + 2, none⟩) (by show _ < wr.heap.size; omega)).trans q2, (hW.cell (p := ⟨b2, o2 + k * 3, none⟩) (by show _ < wr.heap.size; omega)).trans r0, (hW.cell (p := ⟨b2, o2 + k * 3 + 1, none⟩) (by show _ < wr.heap.size; omega)).trans r1, (hW.cell (p := ⟨b2, o2 + k * 3 + 2, none⟩) (by show _ < wr.heap.size; omega)).trans r2⟩
          clear hlt0 hlt1 hltb hltb' hltb1 hltb2
          cases bk
          · go_wp2_with fail
            go_region_held3 (fun W => W.cell? ⟨w.heap.size, 0, none⟩ = some (.int .i64 10) ∧ W.cell? ⟨w.heap.size, 1, none⟩ = some (.slice (some ⟨b, o, none⟩) hm.length cn) ∧ W.cell? ⟨w.heap.size + 1, 1, none⟩ = some (.slice (some ⟨b', o', none⟩) gm.length dn) ∧ W.cell? ⟨b, o + k, none⟩ = some (.string s) ∧ W.cell? ⟨b', o' + k, none⟩ = some (.string s) ∧ W.cell? ⟨w.heap.size, 2, none⟩ = some (.slice (some ⟨b1, o1, none⟩) l.length cl) ∧ W.cell? ⟨w.heap.size + 1, 2, none⟩ = some (.slice (some ⟨b2, o2, none⟩) l.length dl) ∧ W.cell? ⟨b1, o1 + k * 3, none⟩ = some (.int .i64 hp.kind) ∧ W.cell? ⟨b1, o1 + k * 3 + 1, none⟩ = some (.slice a1 m1 d1) ∧ W.cell? ⟨b1, o1 + k * 3 + 2, none⟩ = some (.slice a2 m2 d2) ∧ W.cell? ⟨b2, o2 + k * 3, none⟩ = some (.int .i64 hq.kind) ∧ W.cell? ⟨b2, o2 + k * 3 + 1, none⟩ = some (.slice a3 m3 d3) ∧ W.cell? ⟨b2, o2 + k * 3 + 2, none⟩ = some (.slice a4 m4 d4)) (first | (exact mkS.out _ T3.out) | (simp [go_sem]; done) | go_keep) (first | (go_at_call 42; refine (hcall.out _ (by repeat (first | exact Below.refl _ _ | refine below_dr ?_ | refine below_dn ?_ _))).mono ?_; rintro e w3 ⟨rfl, hb3⟩; have T3 : Hid (Below wr.heap.size wr w3) := below_then (by repeat (first | exact Below.refl _ _ | refine below_dr ?_ | refine below_dn ?_ _)) hb3))
            go_wp2_with fail
            go_ret
            refine TB.no (fun z => ?_) (below_then H.out.2.below T3.out)
            exact absurd (hbk'.out.2 ((HP.out.1 z).2.2 k hkL hqM)) (by decide)
          · go_wp2_with fail
            go_region_held3 (fun W => W.cell? ⟨w.heap.size, 0, none⟩ = some (.int .i64 10) ∧ W.cell? ⟨w.heap.size, 1, none⟩ = some (.slice (some ⟨b, o, none⟩) hm.length cn) ∧ W.cell? ⟨w.heap.size + 1, 1, none⟩ = some (.slice (some ⟨b', o', none⟩) gm.length dn) ∧ W.cell? ⟨b, o + k, none⟩ = some (.string s) ∧ W.cell? ⟨b', o' + k, none⟩ = some (.string s) ∧ W.cell? ⟨w.heap.size, 2, none⟩ = some (.slice (some ⟨b1, o1, none⟩) l.length cl) ∧ W.cell? ⟨w.heap.size + 1, 2, none⟩ = some (.slice (some ⟨b2, o2, none⟩) l.length dl) ∧ W.cell? ⟨b1, o1 + k * 3, none⟩ = some (.int .i64 hp.kind) ∧ W.cell? ⟨b1, o1 + k * 3 + 1, none⟩ = some (.slice a1 m1 d1) ∧ W.cell? ⟨b1, o1 + k * 3 + 2, none⟩ = some (.slice a2 m2 d2) ∧ W.cell? ⟨b2, o2 + k * 3, none⟩ = some (.int .i64 hq.kind) ∧ W.cell? ⟨b2, o2 + k * 3 + 1, none⟩ = some (.slice a3 m3 d3) ∧ W.cell? ⟨b2, o2 + k * 3 + 2, none⟩ = some (.slice a4 m4 d4)) (first | (exact mkS.out _ T3.out) | (simp [go_sem]; done) | go_keep) (first | (go_at_call 42; refine (hcall.out _ (by repeat (first | exact Below.refl _ _ | refine below_dr ?_ | refine below_dn ?_ _))).mono ?_; rintro e w3 ⟨rfl, hb3⟩; have T3 : Hid (Below wr.heap.size wr w3) := below_then (by repeat (first | exact Below.refl _ _ | refine below_dr ?_ | refine below_dn ?_ _)) hb3))
            go_wp2_with fail
            refine ⟨⟨k + 1, by go_num, by omega, ⟨(fun i h1 h2 h3 => ?_), (fun i h1 h2 h3 => ?_)⟩, H.out.2.then T3.out⟩, by simp [intOf]; omega⟩
            · by_cases e : i = k
              · subst e; exact hbk'.out.1 (by simp)
              · exact H.out.1.1 i h1 h2 (by omega)
            · by_cases e : i = k
              · subst e; rw [hs.out, ht.out]
              · exact H.out.1.2 i h1 h2 (by omega)
        · have hst2 : decide (s = t) = false := decide_eq_false hst
          have hst3 := ba_ne hst
          have hst' := hide hst
          clear hst
          go_wp2_with fail
          go_quiet (fail)
          go_wp2_with fail
          go_ret
          refine TB.no (fun z => ?_) (below_then H.out.2.below (below_dn (Below.refl _ _) _))
          have q2 := (HP.out.1 z).1
          exact hst'.out (by rw [← hs.out, ← ht.out]; congr 1)
      · have hki : ¬ ((k : Int) < (l.length : Int)) := by omega
        go_wp2_with fail
        go_ret
        exact TB.yes (HP.out.2 ⟨List.ext_getElem (by rw [hA.out, hB.out, hg3.out]) (fun i h1 h2 => H.out.1.2 i h1 h2 (by have := hA.out; omega)), hg3.out.symm, fun i h1 h2 => H.out.1.1 i h1 h2 (by omega)⟩) H.out.2.below
  · have hF : Hid (¬ Prt (n + 1) ((⟨10, hm⟩, l) : TT (n + 1)) (⟨10, gm⟩, m)) := fun z => hlm (by rw [(HP.out.1 z).2.1])
    have hT := hide T0.out.below
    clear T0
    go_enter Tryd.func42, Tryd.ntmps42
    go_wp2_with fail
    go_ret
    exact TB.no hF.out hT.out
theorem rpart_any : ∀ n, RPartOk n
  | 0 => fun t => Empty.elim t
  | n + 1 => fun x y ns ls ns' ls' w hr hr' tx ty => by
    by_cases h1 : y.1.kind = 1
    · exact rpart_q n x y ns ls ns' ls' w hr hr' (Or.inl h1)
    by_cases h54 : x.1.kind = 5 ∧ y.1.kind = 4
    · exact rpart_q n x y ns ls ns' ls' w hr hr' (Or.inr ⟨h1, h54⟩)
    by_cases hne : x.1.kind = y.1.kind
    · rcases tx.1 with ⟨q, _⟩ | ⟨q, _⟩ | ⟨q1, q2, q3, q4⟩
      · exact rpart_9 n (rpart_any n) x y ns ls ns' ls' w hr hr' tx ty q (hne ▸ q)
      · rcases q with q | q
        · exact rpart_10 n (rpart_any n) x y ns ls ns' ls' w hr hr' tx ty q (hne ▸ q)
        · exact rpart_11 n (rpart_any n) x y ns ls ns' ls' w hr hr' tx ty q (hne ▸ q)
      · rcases ty.1 with ⟨p, _⟩ | ⟨p, _⟩ | ⟨p1, p2, p3, p4⟩
        · omega
        · omega
        · obtain ⟨⟨k, hm⟩, l⟩ := x
          obtain ⟨⟨k', gm⟩, m⟩ := y
          simp only at h1 hne q1 q2 q3 q4 p1 p2 p3 p4
          subst hne
          have a1 := List.length_eq_zero_iff.1 q3
          have a2 := List.length_eq_zero_iff.1 q4
          have a3 := List.length_eq_zero_iff.1 p3
          have a4 := List.length_eq_zero_iff.1 p4
          subst a1 a2 a3 a4
          exact rpart_p n k ns ls ns' ls' w hr hr' h1 q2
    · exact rpart_k n x y ns ls ns' ls' w hr hr' h1 h54 hne
end Go.Proofs.YtolmbjeinilhlaaDoor
