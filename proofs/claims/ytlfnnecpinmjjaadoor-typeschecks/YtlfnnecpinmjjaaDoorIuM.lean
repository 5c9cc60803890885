/- Merged by program: IuIn, IvHas. -/
import Derived.Test.YtlfnnecpinmjjaaDoorIrM
import Derived.Test.YtlfnnecpinmjjaaDoorHkHas
import Derived.Test.YtlfnnecpinmjjaaDoorHsHas
/- calamusref11.In: walked. -/
namespace Go.Proofs.YtlfnnecpinmjjaaDoor
open Go.RowKit Go.Maps
set_option linter.unusedSimpArgs false
set_option linter.unusedVariables false
/-- A type and a value in their boxes. -/
structure BoTV (w : World) (h : Th) (g : Hd) (n0 l0 n1 l1 : Value) (W : World) : Prop where
  below : Below w.heap.size w W
  ba : Tx W w.heap.size h n0 l0
  bb : Bx W (w.heap.size + 1) g n1 l1
theorem BoTV.then {w W W1 : World} {h : Th} {g : Hd} {n0 l0 n1 l1 : Value} (k : BoTV w h g n0 l0 n1 l1 W) (hb : Below W.heap.size W W1) : BoTV w h g n0 l0 n1 l1 W1 := ⟨below_then k.below hb, k.ba.below hb, k.bb.below hb⟩
theorem BoTV.new (w : World) (h : Th) (g : Hd) (n0 l0 n1 l1 : Value) : BoTV w h g n0 l0 n1 l1 ((w.alloc (.cells (tvs h n0 l0) 26)).alloc (.cells (vals g n1 l1) 33)) := by
  refine ⟨below_al (below_al (Below.refl _ _)), (tx_new w h n0 l0).below (below_al (Below.refl _ _)), ?_⟩
  have := bx_new (w.alloc (.cells (tvs h n0 l0) 26)) g n1 l1
  rw [World.size_alloc] at this
  exact this
/-- What In says of types less than n deep. -/
def RinOk (n : Nat) : Prop := ∀ (t : TT n) (m : Nat) (v : VT m) (ns ls ns' ls' : Value) (w : World), RT n w t ns ls → RD m w v ns' ls' → IsT n t → IsV m v →
    Calls Tryd.prog 34 #[.agg (tvs (thd n t) ns ls), .agg (vals (vhd m v) ns' ls')] w fun e w' => TB (InT n t m v) w e w'
theorem rin_no5 {n m : Nat} {hm : List ByteArray} {l : List (TT n)} {g : Hd} {vl : List (VT m)} (h : g.kind ≠ 3 ∨ ¬ 0 ≤ g.exp) : ¬ InT (n + 1) ((⟨5, hm⟩, l) : TT (n + 1)) (m + 1) (g, vl) := by
  rintro (⟨_, z⟩ | ⟨z, _⟩ | ⟨z, _⟩ | ⟨z, _⟩)
  · rcases z with z | ⟨_, z2, z3⟩ | ⟨_, z2, _⟩
    · exact absurd (show (5 : Int) = 1 from z) (by decide)
    · rcases h with h | h
      · exact h z2
      · exact h z3
    · exact z2 rfl
  · exact absurd (show (5 : Int) = 9 from z) (by decide)
  · exact absurd (show (5 : Int) = 10 from z) (by decide)
  · exact absurd (show (5 : Int) = 11 from z) (by decide)
theorem rin_nok {n m : Nat} {k : Int} {hm : List ByteArray} {l : List (TT n)} {g : Hd} {vl : List (VT m)} (h1 : k ≠ 1) (h5 : k ≠ 5) (h8 : k ≤ 8) (h : g.kind ≠ pk k) : ¬ InT (n + 1) ((⟨k, hm⟩, l) : TT (n + 1)) (m + 1) (g, vl) := by
  rintro (⟨_, z⟩ | ⟨z, _⟩ | ⟨z, _⟩ | ⟨z, _⟩)
  · rcases z with z | ⟨z, _⟩ | ⟨_, _, z⟩
    · exact h1 z
    · exact h5 z
    · exact h z
  · simp only at z; omega
  · simp only at z; omega
  · simp only at z; omega
set_option maxHeartbeats 4000000 in
set_option maxRecDepth 100000 in
theorem rin_pl (n : Nat) (ih : RinOk n) (t : TT (n + 1)) (m : Nat) (v : VT (m + 1)) (ns ls ns' ls' : Value) (w : World) (hr : RT (n + 1) w t ns ls) (hv : RD (m + 1) w v ns' ls') (ht : IsT (n + 1) t) (hw : IsV (m + 1) v) (hkk : 1 ≤ t.1.kind ∧ t.1.kind ≤ 8) :
    Calls Tryd.prog 34 #[.agg (tvs t.1 ns ls), .agg (vals v.1 ns' ls')] w fun e w' => TB (InT (n + 1) t (m + 1) v) w e w' := by
    obtain ⟨⟨hk, hm⟩, l⟩ := t
    obtain ⟨⟨gk, gf, gn, gd, ge, gb, gs, gm⟩, vl⟩ := v
    obtain ⟨al, cl, rfl, hc1, hc2⟩ := hr.len
    obtain ⟨an, cn, rfl, hn1, hn2⟩ := hr.1.len
    obtain ⟨vl1, vl3, rfl, hd1, hd2⟩ := hv.len
    obtain ⟨vn1, vn3, rfl, ho1, ho2⟩ := hv.1.len
    have hx := hide hr
    have hy := hide hv
    have hT := hide ht
    have hV := hide hw
    have ih' := hide ih
    clear ih hr hv ht hw
    simp only at hn1 hn2 hc1 hc2 hd1 hd2 ho1 ho2
    have ml : maxLen = 9223372036854775807 := rfl
    simp only at hkk
    obtain ⟨hk1, hk8⟩ := hkk
    have T0 := hide (BoTV.new w ⟨hk, hm⟩ ⟨gk, gf, gn, gd, ge, gb, gs, gm⟩ (.slice an hm.length cn) (.slice al l.length cl) (.slice vn1 gm.length vn3) (.slice vl1 vl.length vl3))
    show Calls _ _ #[.agg #[.int .i64 hk, .slice an hm.length cn, .slice al l.length cl], .agg #[.int .i64 gk, .bool gf, .bool gn, .string gd, .int .i64 ge, .int .u64 gb, .string gs, .slice vn1 gm.length vn3, .slice vl1 vl.length vl3]] _ _
    by_cases k1 : hk = 1
    · subst k1
      have hbel := hide T0.out.below
      go_enter Tryd.func34, Tryd.ntmps34
      go_wp2_with fail
      go_ret
      exact TB.yes (Or.inl ⟨(show (1 : Int) ≤ 8 by decide), Or.inl rfl⟩) hbel.out
    by_cases k2 : hk = 2
    · subst k2
      by_cases g0 : gk = 1
      · subst g0
        have hin : Hid (InT (n + 1) ((⟨2, hm⟩, l) : TT (n + 1)) (m + 1) (⟨1, gf, gn, gd, ge, gb, gs, gm⟩, vl)) := Or.inl ⟨(show (2 : Int) ≤ 8 by decide), Or.inr (Or.inr ⟨(show (2 : Int) ≠ 1 by decide), (show (2 : Int) ≠ 5 by decide), rfl⟩)⟩
        have hbel := hide T0.out.below
        go_enter Tryd.func34, Tryd.ntmps34
        go_wp2_with fail
        go_ret
        exact TB.yes (hin.out) hbel.out
      · have hin : Hid (¬ InT (n + 1) ((⟨2, hm⟩, l) : TT (n + 1)) (m + 1) (⟨gk, gf, gn, gd, ge, gb, gs, gm⟩, vl)) := rin_nok (by decide) (by decide) (by decide) (show gk ≠ pk 2 from g0)
        have g0b : (gk == 1) = false := beq_eq_false_iff_ne.2 g0
        have g0c : (gk != 1) = true := by simpa using g0
        have g0d : decide (gk = 1) = false := decide_eq_false g0
        have g0h := hide g0
        clear g0
        have hbel := hide T0.out.below
        go_enter Tryd.func34, Tryd.ntmps34
        go_wp2_with fail
        go_ret
        exact TB.no (hin.out) hbel.out
    by_cases k3 : hk = 3
    · subst k3
      by_cases g0 : gk = 2
      · subst g0
        have hin : Hid (InT (n + 1) ((⟨3, hm⟩, l) : TT (n + 1)) (m + 1) (⟨2, gf, gn, gd, ge, gb, gs, gm⟩, vl)) := Or.inl ⟨(show (3 : Int) ≤ 8 by decide), Or.inr (Or.inr ⟨(show (3 : Int) ≠ 1 by decide), (show (3 : Int) ≠ 5 by decide), rfl⟩)⟩
        have hbel := hide T0.out.below
        go_enter Tryd.func34, Tryd.ntmps34
        go_wp2_with fail
        go_ret
        exact TB.yes (hin.out) hbel.out
      · have hin : Hid (¬ InT (n + 1) ((⟨3, hm⟩, l) : TT (n + 1)) (m + 1) (⟨gk, gf, gn, gd, ge, gb, gs, gm⟩, vl)) := rin_nok (by decide) (by decide) (by decide) (show gk ≠ pk 3 from g0)
        have g0b : (gk == 2) = false := beq_eq_false_iff_ne.2 g0
        have g0c : (gk != 2) = true := by simpa using g0
        have g0d : decide (gk = 2) = false := decide_eq_false g0
        have g0h := hide g0
        clear g0
        have hbel := hide T0.out.below
        go_enter Tryd.func34, Tryd.ntmps34
        go_wp2_with fail
        go_ret
        exact TB.no (hin.out) hbel.out
    by_cases k4 : hk = 4
    · subst k4
      by_cases g0 : gk = 3
      · subst g0
        have hin : Hid (InT (n + 1) ((⟨4, hm⟩, l) : TT (n + 1)) (m + 1) (⟨3, gf, gn, gd, ge, gb, gs, gm⟩, vl)) := Or.inl ⟨(show (4 : Int) ≤ 8 by decide), Or.inr (Or.inr ⟨(show (4 : Int) ≠ 1 by decide), (show (4 : Int) ≠ 5 by decide), rfl⟩)⟩
        have hbel := hide T0.out.below
        go_enter Tryd.func34, Tryd.ntmps34
        go_wp2_with fail
        go_ret
        exact TB.yes (hin.out) hbel.out
      · have hin : Hid (¬ InT (n + 1) ((⟨4, hm⟩, l) : TT (n + 1)) (m + 1) (⟨gk, gf, gn, gd, ge, gb, gs, gm⟩, vl)) := rin_nok (by decide) (by decide) (by decide) (show gk ≠ pk 4 from g0)
        have g0b : (gk == 3) = false := beq_eq_false_iff_ne.2 g0
        have g0c : (gk != 3) = true := by simpa using g0
        have g0d : decide (gk = 3) = false := decide_eq_false g0
        have g0h := hide g0
        clear g0
        have hbel := hide T0.out.below
        go_enter Tryd.func34, Tryd.ntmps34
        go_wp2_with fail
        go_ret
        exact TB.no (hin.out) hbel.out
    by_cases k5 : hk = 5
    · subst k5
      by_cases g3 : gk = 3
      · subst g3
        by_cases ge0 : 0 ≤ ge
        · have hin : Hid (InT (n + 1) ((⟨5, hm⟩, l) : TT (n + 1)) (m + 1) (⟨3, gf, gn, gd, ge, gb, gs, gm⟩, vl)) := Or.inl ⟨(show (5 : Int) ≤ 8 by decide), Or.inr (Or.inl ⟨rfl, rfl, ge0⟩)⟩
          have hbel := hide T0.out.below
          go_enter Tryd.func34, Tryd.ntmps34
          go_wp2_with fail
          go_ret
          exact TB.yes (hin.out) hbel.out
        · have hin : Hid (¬ InT (n + 1) ((⟨5, hm⟩, l) : TT (n + 1)) (m + 1) (⟨3, gf, gn, gd, ge, gb, gs, gm⟩, vl)) := rin_no5 (Or.inr ge0)
          have hbel := hide T0.out.below
          go_enter Tryd.func34, Tryd.ntmps34
          go_wp2_with fail
          go_ret
          exact TB.no (hin.out) hbel.out
      · have hin : Hid (¬ InT (n + 1) ((⟨5, hm⟩, l) : TT (n + 1)) (m + 1) (⟨gk, gf, gn, gd, ge, gb, gs, gm⟩, vl)) := rin_no5 (Or.inl g3)
        have g3b : (gk == 3) = false := beq_eq_false_iff_ne.2 g3
        have g3c : (gk != 3) = true := by simpa using g3
        have g3d : decide (gk = 3) = false := decide_eq_false g3
        have g3h := hide g3
        clear g3
        have hbel := hide T0.out.below
        go_enter Tryd.func34, Tryd.ntmps34
        go_wp2_with fail
        go_ret
        exact TB.no (hin.out) hbel.out
    by_cases k6 : hk = 6
    · subst k6
      by_cases g0 : gk = 4
      · subst g0
        have hin : Hid (InT (n + 1) ((⟨6, hm⟩, l) : TT (n + 1)) (m + 1) (⟨4, gf, gn, gd, ge, gb, gs, gm⟩, vl)) := Or.inl ⟨(show (6 : Int) ≤ 8 by decide), Or.inr (Or.inr ⟨(show (6 : Int) ≠ 1 by decide), (show (6 : Int) ≠ 5 by decide), rfl⟩)⟩
        have hbel := hide T0.out.below
        go_enter Tryd.func34, Tryd.ntmps34
        go_wp2_with fail
        go_ret
        exact TB.yes (hin.out) hbel.out
      · have hin : Hid (¬ InT (n + 1) ((⟨6, hm⟩, l) : TT (n + 1)) (m + 1) (⟨gk, gf, gn, gd, ge, gb, gs, gm⟩, vl)) := rin_nok (by decide) (by decide) (by decide) (show gk ≠ pk 6 from g0)
        have g0b : (gk == 4) = false := beq_eq_false_iff_ne.2 g0
        have g0c : (gk != 4) = true := by simpa using g0
        have g0d : decide (gk = 4) = false := decide_eq_false g0
        have g0h := hide g0
        clear g0
        have hbel := hide T0.out.below
        go_enter Tryd.func34, Tryd.ntmps34
        go_wp2_with fail
        go_ret
        exact TB.no (hin.out) hbel.out
    by_cases k7 : hk = 7
    · subst k7
      by_cases g0 : gk = 5
      · subst g0
        have hin : Hid (InT (n + 1) ((⟨7, hm⟩, l) : TT (n + 1)) (m + 1) (⟨5, gf, gn, gd, ge, gb, gs, gm⟩, vl)) := Or.inl ⟨(show (7 : Int) ≤ 8 by decide), Or.inr (Or.inr ⟨(show (7 : Int) ≠ 1 by decide), (show (7 : Int) ≠ 5 by decide), rfl⟩)⟩
        have hbel := hide T0.out.below
        go_enter Tryd.func34, Tryd.ntmps34
        go_wp2_with fail
        go_ret
        exact TB.yes (hin.out) hbel.out
      · have hin : Hid (¬ InT (n + 1) ((⟨7, hm⟩, l) : TT (n + 1)) (m + 1) (⟨gk, gf, gn, gd, ge, gb, gs, gm⟩, vl)) := rin_nok (by decide) (by decide) (by decide) (show gk ≠ pk 7 from g0)
        have g0b : (gk == 5) = false := beq_eq_false_iff_ne.2 g0
        have g0c : (gk != 5) = true := by simpa using g0
        have g0d : decide (gk = 5) = false := decide_eq_false g0
        have g0h := hide g0
        clear g0
        have hbel := hide T0.out.below
        go_enter Tryd.func34, Tryd.ntmps34
        go_wp2_with fail
        go_ret
        exact TB.no (hin.out) hbel.out
    by_cases k8 : hk = 8
    · subst k8
      by_cases g0 : gk = 6
      · subst g0
        have hin : Hid (InT (n + 1) ((⟨8, hm⟩, l) : TT (n + 1)) (m + 1) (⟨6, gf, gn, gd, ge, gb, gs, gm⟩, vl)) := Or.inl ⟨(show (8 : Int) ≤ 8 by decide), Or.inr (Or.inr ⟨(show (8 : Int) ≠ 1 by decide), (show (8 : Int) ≠ 5 by decide), rfl⟩)⟩
        have hbel := hide T0.out.below
        go_enter Tryd.func34, Tryd.ntmps34
        go_wp2_with fail
        go_ret
        exact TB.yes (hin.out) hbel.out
      · have hin : Hid (¬ InT (n + 1) ((⟨8, hm⟩, l) : TT (n + 1)) (m + 1) (⟨gk, gf, gn, gd, ge, gb, gs, gm⟩, vl)) := rin_nok (by decide) (by decide) (by decide) (show gk ≠ pk 8 from g0)
        have g0b : (gk == 6) = false := beq_eq_false_iff_ne.2 g0
        have g0c : (gk != 6) = true := by simpa using g0
        have g0d : decide (gk = 6) = false := decide_eq_false g0
        have g0h := hide g0
        clear g0
        have hbel := hide T0.out.below
        go_enter Tryd.func34, Tryd.ntmps34
        go_wp2_with fail
        go_ret
        exact TB.no (hin.out) hbel.out
    omega
set_option maxHeartbeats 4000000 in
set_option maxRecDepth 100000 in
theorem rin_9 (n : Nat) (ih : RinOk n) (t : TT (n + 1)) (m : Nat) (v : VT (m + 1)) (ns ls ns' ls' : Value) (w : World) (hr : RT (n + 1) w t ns ls) (hv : RD (m + 1) w v ns' ls') (ht : IsT (n + 1) t) (hw : IsV (m + 1) v) (hkk : t.1.kind = 9) :
    Calls Tryd.prog 34 #[.agg (tvs t.1 ns ls), .agg (vals v.1 ns' ls')] w fun e w' => TB (InT (n + 1) t (m + 1) v) w e w' := by
    obtain ⟨⟨hk, hm⟩, l⟩ := t
    obtain ⟨⟨gk, gf, gn, gd, ge, gb, gs, gm⟩, vl⟩ := v
    obtain ⟨al, cl, rfl, hc1, hc2⟩ := hr.len
    obtain ⟨an, cn, rfl, hn1, hn2⟩ := hr.1.len
    obtain ⟨vl1, vl3, rfl, hd1, hd2⟩ := hv.len
    obtain ⟨vn1, vn3, rfl, ho1, ho2⟩ := hv.1.len
    have hx := hide hr
    have hy := hide hv
    have hT := hide ht
    have hV := hide hw
    have ih' := hide ih
    clear ih hr hv ht hw
    simp only at hn1 hn2 hc1 hc2 hd1 hd2 ho1 ho2
    have ml : maxLen = 9223372036854775807 := rfl
    simp only at hkk
    subst hkk
    have T0 := hide (BoTV.new w ⟨9, hm⟩ ⟨gk, gf, gn, gd, ge, gb, gs, gm⟩ (.slice an hm.length cn) (.slice al l.length cl) (.slice vn1 gm.length vn3) (.slice vl1 vl.length vl3))
    show Calls _ _ #[.agg #[.int .i64 9, .slice an hm.length cn, .slice al l.length cl], .agg #[.int .i64 gk, .bool gf, .bool gn, .string gd, .int .i64 ge, .int .u64 gb, .string gs, .slice vn1 gm.length vn3, .slice vl1 vl.length vl3]] _ _
    · skip
      obtain ⟨u, rfl⟩ : ∃ u, l = [u] := by
        rcases hT.out.1 with ⟨_, _, q⟩ | ⟨q, _⟩ | ⟨_, q, _⟩
        · match l, q with
          | [u], _ => exact ⟨u, rfl⟩
        · simp only at q; omega
        · simp only at q; omega
      by_cases g7 : gk = 7
      · subst g7
        go_enter Tryd.func34, Tryd.ntmps34
        go_wp2_with fail
        go_loopw [5] (fun i w' => ∃ k : Nat, i = .int .i64 k ∧ k ≤ vl.length ∧ Hid ((∀ y ∈ vl.take k, InT n u m y) ∧ BoTV w ⟨9, hm⟩ ⟨7, gf, gn, gd, ge, gb, gs, gm⟩ (.slice an hm.length cn) (.slice al [u].length cl) (.slice vn1 gm.length vn3) (.slice vl1 vl.length vl3) w')) (fun i _ => vl.length - (intOf i).toNat)
        case atStart => exact ⟨0, rfl, Nat.zero_le _, (fun y hy => by simp at hy), T0.out⟩
        case round =>
          clear T0
          obtain ⟨k, rfl, hk', H⟩ := hrel
          obtain ⟨x0, x1, x2⟩ := H.out.2.ba.cells
          obtain ⟨y0, y1, y2, y3, y4, y5, y6, y7, y8⟩ := H.out.2.bb.cells
          simp only at y0
          simp only [List.length_singleton] at x2
          by_cases hkl : k < vl.length
          · have hki : (k : Int) < (vl.length : Int) := by omega
            have hk63 : (k : Int) < 9223372036854775807 := by omega
            obtain ⟨b1, o1, f1, he, hbl1, hlc1, hcm1, ns1, ls1, hrg1, hrd1⟩ := hx.out.at 0 (by simp)
            have he' := Value.slice.inj he
            obtain ⟨rfl, _, rfl⟩ := he'
            clear he
            obtain ⟨q0, q1, q2⟩ := range3 (rangeAt_below hrg1 H.out.2.below hbl1)
            obtain ⟨b2, o2, f2, he, hbl2, hlc2, hcm2, ns2, ls2, hrg2, hrd2⟩ := hy.out.at k hkl
            have he' := Value.slice.inj he
            obtain ⟨rfl, _, rfl⟩ := he'
            clear he
            have R9 := range9 (rangeAt_below hrg2 H.out.2.below hbl2)
            have hd1' := hide hrd1
            have hd2' := hide hrd2
            obtain ⟨a1, m1, d1, a2, m2, d2, rfl, rfl⟩ := hrd1.shape
            obtain ⟨a3, m3, d3, a4, m4, d4, rfl, rfl⟩ := hrd2.shape
            clear hrg1 hrd1 hrg2 hrd2
            obtain ⟨bk, hbk⟩ := tells (InT n u m vl[k])
            have hcall := hide (fun W (hW : Below wr.heap.size wr W) => Calls.tb (ih'.out u m vl[k] _ _ _ _ W (hd1'.out.below (below_then H.out.2.below hW)) (hd2'.out.below (below_then H.out.2.below hW)) (hT.out.2 _ (by simp)) (hV.out.2.2 _ (List.getElem_mem _))) hbk)
            have hbk' := hide hbk
            clear hbk
            simp only [List.getElem_cons_zero, Nat.zero_mul, Nat.add_zero] at q0 q1 q2
            simp only at R9 hcall
            obtain ⟨hp, hhp⟩ : ∃ hp, thd n u = hp := ⟨_, rfl⟩
            obtain ⟨hq, hhq⟩ : ∃ hq, vhd m vl[k] = hq := ⟨_, rfl⟩
            rw [hhp] at q0 hcall
            rw [hhq] at R9 hcall
            obtain ⟨r0, r1, r2, r3, r4, r5, r6, r7, r8⟩ := R9
            clear hhp hhq
            simp only [tvs, vals] at hcall
            have hlt0 := H.out.2.ba.lt
            have hlt1 := H.out.2.bb.lt
            have hltb1 : b1 < wr.heap.size := Nat.lt_of_lt_of_le hbl1 H.out.2.below.size
            have hltb2 : b2 < wr.heap.size := Nat.lt_of_lt_of_le hbl2 H.out.2.below.size
            have mkS : Hid (∀ W : World, Below wr.heap.size wr W → W.cell? ⟨w.heap.size + 1, 0, none⟩ = some (.int .i64 7) ∧ W.cell? ⟨w.heap.size, 2, none⟩ = some (.slice (some ⟨b1, o1, none⟩) 1 cl) ∧ W.cell? ⟨w.heap.size + 1, 8, none⟩ = some (.slice (some ⟨b2, o2, none⟩) vl.length vl3) ∧ W.cell? ⟨b1, o1, none⟩ = some (.int .i64 hp.kind) ∧ W.cell? ⟨b1, o1 + 1, none⟩ = some (.slice a1 m1 d1) ∧ W.cell? ⟨b1, o1 + 2, none⟩ = some (.slice a2 m2 d2) ∧ W.cell? ⟨b2, o2 + k * 9, none⟩ = some (.int .i64 hq.kind) ∧ W.cell? ⟨b2, o2 + k * 9 + 1, none⟩ = some (.bool hq.flag) ∧ W.cell? ⟨b2, o2 + k * 9 + 2, none⟩ = some (.bool hq.neg) ∧ W.cell? ⟨b2, o2 + k * 9 + 3, none⟩ = some (.string hq.dig) ∧ W.cell? ⟨b2, o2 + k * 9 + 4, none⟩ = some (.int .i64 hq.exp) ∧ W.cell? ⟨b2, o2 + k * 9 + 5, none⟩ = some (.int .u64 hq.bits) ∧ W.cell? ⟨b2, o2 + k * 9 + 6, none⟩ = some (.string hq.text) ∧ W.cell? ⟨b2, o2 + k * 9 + 7, none⟩ = some (.slice a3 m3 d3) ∧ W.cell? ⟨b2, o2 + k * 9 + 8, none⟩ = some (.slice a4 m4 d4)) := fun W hW => ⟨(hW.cell (p := ⟨w.heap.size + 1, 0, none⟩) (by show _ < wr.heap.size; omega)).trans y0, (hW.cell (p := ⟨w.heap.size, 2, none⟩) (by show _ < wr.heap.size; omega)).trans x2, (hW.cell (p := ⟨w.heap.size + 1, 8, none⟩) (by show _ < wr.heap.size; omega)).trans y8, (hW.cell (p := ⟨b1, o1, none⟩) (by show _ < wr.heap.size; omega)).trans q0, (hW.cell (p := ⟨b1, o1 + 1, none⟩) (by show _ < wr.heap.size; omega)).trans q1, (hW.cell (p := ⟨b1, o1 + 2, none⟩) (by show _ < wr.heap.size; omega)).trans q2, (hW.cell (p := ⟨b2, o2 + k * 9, none⟩) (by show _ < wr.heap.size; omega)).trans r0, (hW.cell (p := ⟨b2, o2 + k * 9 + 1, none⟩) (by show _ < wr.heap.size; omega)).trans r1, (hW.cell (p := ⟨b2, o2 + k * 9 + 2, none⟩) (by show _ < wr.heap.size; omega)).trans r2, (hW.cell (p := ⟨b2, o2 + k * 9 + 3, none⟩) (by show _ < wr.heap.size; omega)).trans r3, (hW.cell (p := ⟨b2, o2 + k * 9 + 4, none⟩) (by show _ < wr.heap.size; omega)).trans r4, (hW.cell (p := ⟨b2, o2 + k * 9 + 5, none⟩) (by show _ < wr.heap.size; omega)).trans r5, (hW.cell (p := ⟨b2, o2 + k * 9 + 6, none⟩) (by show _ < wr.heap.size; omega)).trans r6, (hW.cell (p := ⟨b2, o2 + k * 9 + 7, none⟩) (by show _ < wr.heap.size; omega)).trans r7, (hW.cell (p := ⟨b2, o2 + k * 9 + 8, none⟩) (by show _ < wr.heap.size; omega)).trans r8⟩
            clear hlt0 hlt1 hltb1 hltb2
            cases bk
            · go_wp2_with fail
              go_region_held3 (fun W => W.cell? ⟨w.heap.size + 1, 0, none⟩ = some (.int .i64 7) ∧ W.cell? ⟨w.heap.size, 2, none⟩ = some (.slice (some ⟨b1, o1, none⟩) 1 cl) ∧ W.cell? ⟨w.heap.size + 1, 8, none⟩ = some (.slice (some ⟨b2, o2, none⟩) vl.length vl3) ∧ W.cell? ⟨b1, o1, none⟩ = some (.int .i64 hp.kind) ∧ W.cell? ⟨b1, o1 + 1, none⟩ = some (.slice a1 m1 d1) ∧ W.cell? ⟨b1, o1 + 2, none⟩ = some (.slice a2 m2 d2) ∧ W.cell? ⟨b2, o2 + k * 9, none⟩ = some (.int .i64 hq.kind) ∧ W.cell? ⟨b2, o2 + k * 9 + 1, none⟩ = some (.bool hq.flag) ∧ W.cell? ⟨b2, o2 + k * 9 + 2, none⟩ = some (.bool hq.neg) ∧ W.cell? ⟨b2, o2 + k * 9 + 3, none⟩ = some (.string hq.dig) ∧ W.cell? ⟨b2, o2 + k * 9 + 4, none⟩ = some (.int .i64 hq.exp) ∧ W.cell? ⟨b2, o2 + k * 9 + 5, none⟩ = some (.int .u64 hq.bits) ∧ W.cell? ⟨b2, o2 + k * 9 + 6, none⟩ = some (.string hq.text) ∧ W.cell? ⟨b2, o2 + k * 9 + 7, none⟩ = some (.slice a3 m3 d3) ∧ W.cell? ⟨b2, o2 + k * 9 + 8, none⟩ = some (.slice a4 m4 d4)) (first | (exact mkS.out _ T3.out) | (simp [go_sem]; done) | go_keep) (first | (go_at_call 34; refine (hcall.out _ (by repeat (first | exact Below.refl _ _ | refine below_dr ?_ | refine below_dn ?_ _))).mono ?_; rintro e w3 ⟨rfl, hb3⟩; have T3 : Hid (Below wr.heap.size wr w3) := below_then (by repeat (first | exact Below.refl _ _ | refine below_dr ?_ | refine below_dn ?_ _)) hb3))
              go_wp2_with fail
              go_ret
              refine TB.no (fun z => ?_) (below_then H.out.2.below T3.out)
              rcases z with ⟨z, _⟩ | ⟨_, _, z⟩ | ⟨z, _⟩ | ⟨z, _⟩
              · exact absurd (show (9 : Int) ≤ 8 from z) (by decide)
              · have := hbk'.out.2 (z _ (List.getElem_mem hkl) u (by simp)); cases this
              · exact absurd (show (9 : Int) = 10 from z) (by decide)
              · exact absurd (show (9 : Int) = 11 from z) (by decide)
            · go_wp2_with fail
              go_region_held3 (fun W => W.cell? ⟨w.heap.size + 1, 0, none⟩ = some (.int .i64 7) ∧ W.cell? ⟨w.heap.size, 2, none⟩ = some (.slice (some ⟨b1, o1, none⟩) 1 cl) ∧ W.cell? ⟨w.heap.size + 1, 8, none⟩ = some (.slice (some ⟨b2, o2, none⟩) vl.length vl3) ∧ W.cell? ⟨b1, o1, none⟩ = some (.int .i64 hp.kind) ∧ W.cell? ⟨b1, o1 + 1, none⟩ = some (.slice a1 m1 d1) ∧ W.cell? ⟨b1, o1 + 2, none⟩ = some (.slice a2 m2 d2) ∧ W.cell? ⟨b2, o2 + k * 9, none⟩ = some (.int .i64 hq.kind) ∧ W.cell? ⟨b2, o2 + k * 9 + 1, none⟩ = some (.bool hq.flag) ∧ W.cell? ⟨b2, o2 + k * 9 + 2, none⟩ = some (.bool hq.neg) ∧ W.cell? ⟨b2, o2 + k * 9 + 3, none⟩ = some (.string hq.dig) ∧ W.cell? ⟨b2, o2 + k * 9 + 4, none⟩ = some (.int .i64 hq.exp) ∧ W.cell? ⟨b2, o2 + k * 9 + 5, none⟩ = some (.int .u64 hq.bits) ∧ W.cell? ⟨b2, o2 + k * 9 + 6, none⟩ = some (.string hq.text) ∧ W.cell? ⟨b2, o2 + k * 9 + 7, none⟩ = some (.slice a3 m3 d3) ∧ W.cell? ⟨b2, o2 + k * 9 + 8, none⟩ = some (.slice a4 m4 d4)) (first | (exact mkS.out _ T3.out) | (simp [go_sem]; done) | go_keep) (first | (go_at_call 34; refine (hcall.out _ (by repeat (first | exact Below.refl _ _ | refine below_dr ?_ | refine below_dn ?_ _))).mono ?_; rintro e w3 ⟨rfl, hb3⟩; have T3 : Hid (Below wr.heap.size wr w3) := below_then (by repeat (first | exact Below.refl _ _ | refine below_dr ?_ | refine below_dn ?_ _)) hb3))
              go_wp2_with fail
              exact ⟨⟨k + 1, by go_num, by omega, mem_take_more hkl H.out.1 (hbk'.out.1 (by simp)), H.out.2.then T3.out⟩, by simp [intOf]; omega⟩
          · have hki : ¬ ((k : Int) < (vl.length : Int)) := by omega
            have hE := hide (show vl.take k = vl from List.take_of_length_le (by omega))
            go_wp2_with fail
            go_ret
            refine TB.yes (Or.inr (Or.inl ⟨rfl, rfl, fun y hy u' hu' => ?_⟩)) H.out.2.below
            rw [List.mem_singleton.1 hu']
            exact H.out.1 y (by rw [hE.out]; exact hy)
      · have hin : Hid (¬ InT (n + 1) ((⟨9, hm⟩, [u]) : TT (n + 1)) (m + 1) (⟨gk, gf, gn, gd, ge, gb, gs, gm⟩, vl)) := fun z => by
          rcases z with ⟨z, _⟩ | ⟨_, z, _⟩ | ⟨z, _⟩ | ⟨z, _⟩
          · exact absurd (show (9 : Int) ≤ 8 from z) (by decide)
          · exact g7 z
          · exact absurd (show (9 : Int) = 10 from z) (by decide)
          · exact absurd (show (9 : Int) = 11 from z) (by decide)
        have g7b : (gk == 7) = false := beq_eq_false_iff_ne.2 g7
        have g7c : (gk != 7) = true := by simpa using g7
        have g7d : decide (gk = 7) = false := decide_eq_false g7
        have g7h := hide g7
        clear g7
        go_enter Tryd.func34, Tryd.ntmps34
        go_wp2_with fail
        go_loopw [5] (fun i w' => i = .int .i64 0 ∧ Hid (BoTV w ⟨9, hm⟩ ⟨gk, gf, gn, gd, ge, gb, gs, gm⟩ (.slice an hm.length cn) (.slice al [u].length cl) (.slice vn1 gm.length vn3) (.slice vl1 vl.length vl3) w')) (fun i _ => 0)
        case atStart => exact ⟨rfl, T0.out⟩
        case round =>
          clear T0
          obtain ⟨rfl, H⟩ := hrel
          obtain ⟨x0, x1, x2⟩ := H.out.ba.cells
          obtain ⟨y0, y1, y2, y3, y4, y5, y6, y7, y8⟩ := H.out.bb.cells
          simp only at y0
          by_cases hkl : (0 : Int) < (vl.length : Int)
          · go_wp2_with fail
            go_quiet (fail)
            go_wp2_with fail
            go_ret
            exact TB.no hin.out (below_dn H.out.below _)
          · go_wp2_with fail
            go_ret
            exact TB.no hin.out H.out.below
set_option maxHeartbeats 4000000 in
set_option maxRecDepth 100000 in
theorem rin_10 (n : Nat) (ih : RinOk n) (t : TT (n + 1)) (m : Nat) (v : VT (m + 1)) (ns ls ns' ls' : Value) (w : World) (hr : RT (n + 1) w t ns ls) (hv : RD (m + 1) w v ns' ls') (ht : IsT (n + 1) t) (hw : IsV (m + 1) v) (hkk : t.1.kind = 10) :
    Calls Tryd.prog 34 #[.agg (tvs t.1 ns ls), .agg (vals v.1 ns' ls')] w fun e w' => TB (InT (n + 1) t (m + 1) v) w e w' := by
    obtain ⟨⟨hk, hm⟩, l⟩ := t
    obtain ⟨⟨gk, gf, gn, gd, ge, gb, gs, gm⟩, vl⟩ := v
    obtain ⟨al, cl, rfl, hc1, hc2⟩ := hr.len
    obtain ⟨an, cn, rfl, hn1, hn2⟩ := hr.1.len
    obtain ⟨vl1, vl3, rfl, hd1, hd2⟩ := hv.len
    obtain ⟨vn1, vn3, rfl, ho1, ho2⟩ := hv.1.len
    have hx := hide hr
    have hy := hide hv
    have hT := hide ht
    have hV := hide hw
    have ih' := hide ih
    clear ih hr hv ht hw
    simp only at hn1 hn2 hc1 hc2 hd1 hd2 ho1 ho2
    have ml : maxLen = 9223372036854775807 := rfl
    simp only at hkk
    subst hkk
    have T0 := hide (BoTV.new w ⟨10, hm⟩ ⟨gk, gf, gn, gd, ge, gb, gs, gm⟩ (.slice an hm.length cn) (.slice al l.length cl) (.slice vn1 gm.length vn3) (.slice vl1 vl.length vl3))
    show Calls _ _ #[.agg #[.int .i64 10, .slice an hm.length cn, .slice al l.length cl], .agg #[.int .i64 gk, .bool gf, .bool gn, .string gd, .int .i64 ge, .int .u64 gb, .string gs, .slice vn1 gm.length vn3, .slice vl1 vl.length vl3]] _ _
    · skip
      have hln : Hid (hm.length = l.length) := by
        rcases hT.out.1 with ⟨q, _⟩ | ⟨_, q, _⟩ | ⟨_, q, _⟩
        · exact absurd (show (10 : Int) = 9 from q) (by decide)
        · exact q
        · exact absurd (show (10 : Int) ≤ 8 from q) (by decide)
      by_cases g8 : gk = 8
      · subst g8
        have hvn : Hid (gm.length = vl.length) := (hV.out.2.1.2.2.1 rfl).1
        by_cases hgl : (gm.length : Int) = (hm.length : Int)
        · have hgl2 := hide (show gm.length = hm.length by omega)
          rw [hgl2.out] at T0 ho1 ⊢
          clear hgl
          go_enter Tryd.func34, Tryd.ntmps34
          go_wp2_with fail
          go_loopw [6] (fun i w' => ∃ k : Nat, i = .int .i64 k ∧ k ≤ hm.length ∧ Hid ((∀ i (h1 : i < hm.length) (h2 : i < gm.length) (h3 : i < l.length) (h4 : i < vl.length), i < k → gm[i] = hm[i] ∧ InT n l[i] m vl[i]) ∧ BoTV w ⟨10, hm⟩ ⟨8, gf, gn, gd, ge, gb, gs, gm⟩ (.slice an hm.length cn) (.slice al l.length cl) (.slice vn1 hm.length vn3) (.slice vl1 vl.length vl3) w')) (fun i _ => hm.length - (intOf i).toNat)
          case atStart => exact ⟨0, rfl, Nat.zero_le _, (fun i _ _ _ _ h => by omega), T0.out⟩
          case round =>
            clear T0
            obtain ⟨k, rfl, hk', H⟩ := hrel
            obtain ⟨x0, x1, x2⟩ := H.out.2.ba.cells
            obtain ⟨y0, y1, y2, y3, y4, y5, y6, y7, y8⟩ := H.out.2.bb.cells
            by_cases hkl : k < hm.length
            · have hki : (k : Int) < (hm.length : Int) := by omega
              have hk63 : (k : Int) < 9223372036854775807 := by omega
              go_wp2_with fail
              have hkg : k < gm.length := by have := hgl2.out; omega
              obtain ⟨b3, o3, f3, he, hbl3, hlc3, hcm3, hcell3⟩ := hy.out.1.at k hkg
              have he' := Value.slice.inj he
              obtain ⟨rfl, _, rfl⟩ := he'
              clear he
              have hcell3 := (H.out.2.below.cell (p := ⟨b3, o3 + k, none⟩) hbl3).trans hcell3
              obtain ⟨b4, o4, f4, he, hbl4, hlc4, hcm4, hcell4⟩ := hx.out.1.at k hkl
              have he' := Value.slice.inj he
              obtain ⟨rfl, _, rfl⟩ := he'
              clear he
              have hcell4 := (H.out.2.below.cell (p := ⟨b4, o4 + k, none⟩) hbl4).trans hcell4
              obtain ⟨s, hs⟩ : ∃ s, Hid (gm[k] = s) := ⟨_, hide rfl⟩
              obtain ⟨s2, hs2⟩ : ∃ s, Hid (hm[k] = s) := ⟨_, hide rfl⟩
              simp only at hcell3 hcell4
              rw [hs.out] at hcell3
              rw [hs2.out] at hcell4
              by_cases hst : s = s2
              · subst hst
                have hkl1 : k < l.length := by have := hln.out; omega
                have hkl2 : k < vl.length := by have := hgl2.out; have := hvn.out; omega
                have hki1 : (k : Int) < (l.length : Int) := by omega
                have hki2 : (k : Int) < (vl.length : Int) := by omega
                obtain ⟨b1, o1, f1, he, hbl1, hlc1, hcm1, ns1, ls1, hrg1, hrd1⟩ := hx.out.at k hkl1
                have he' := Value.slice.inj he
                obtain ⟨rfl, _, rfl⟩ := he'
                clear he
                obtain ⟨q0, q1, q2⟩ := range3 (rangeAt_below hrg1 H.out.2.below hbl1)
                obtain ⟨b2, o2, f2, he, hbl2, hlc2, hcm2, ns2, ls2, hrg2, hrd2⟩ := hy.out.at k hkl2
                have he' := Value.slice.inj he
                obtain ⟨rfl, _, rfl⟩ := he'
                clear he
                have R9 := range9 (rangeAt_below hrg2 H.out.2.below hbl2)
                have hd1' := hide hrd1
                have hd2' := hide hrd2
                obtain ⟨a1, m1, d1, a2, m2, d2, rfl, rfl⟩ := hrd1.shape
                obtain ⟨a3, m3, d3, a4, m4, d4, rfl, rfl⟩ := hrd2.shape
                clear hrg1 hrd1 hrg2 hrd2
                obtain ⟨bk, hbk⟩ := tells (InT n l[k] m vl[k])
                have hcall := hide (fun W (hW : Below wr.heap.size wr W) => Calls.tb (ih'.out l[k] m vl[k] _ _ _ _ W (hd1'.out.below (below_then H.out.2.below hW)) (hd2'.out.below (below_then H.out.2.below hW)) (hT.out.2 _ (List.getElem_mem _)) (hV.out.2.2 _ (List.getElem_mem _))) hbk)
                have hbk' := hide hbk
                clear hbk
                simp only at q0 q1 q2 R9 hcall
                obtain ⟨hp, hhp⟩ : ∃ hp, thd n l[k] = hp := ⟨_, rfl⟩
                obtain ⟨hq, hhq⟩ : ∃ hq, vhd m vl[k] = hq := ⟨_, rfl⟩
                rw [hhp] at q0 hcall
                rw [hhq] at R9 hcall
                obtain ⟨r0, r1, r2, r3, r4, r5, r6, r7, r8⟩ := R9
                clear hhp hhq
                simp only [tvs, vals] at hcall
                have hlt0 := H.out.2.ba.lt
                have hlt1 := H.out.2.bb.lt
                have hltb1 : b1 < wr.heap.size := Nat.lt_of_lt_of_le hbl1 H.out.2.below.size
                have hltb2 : b2 < wr.heap.size := Nat.lt_of_lt_of_le hbl2 H.out.2.below.size
                have hltb3 : b3 < wr.heap.size := Nat.lt_of_lt_of_le hbl3 H.out.2.below.size
                have hltb4 : b4 < wr.heap.size := Nat.lt_of_lt_of_le hbl4 H.out.2.below.size
                have mkS : Hid (∀ W : World, Below wr.heap.size wr W → W.cell? ⟨w.heap.size + 1, 7, none⟩ = some (.slice (some ⟨b3, o3, none⟩) hm.length vn3) ∧ W.cell? ⟨w.heap.size, 1, none⟩ = some (.slice (some ⟨b4, o4, none⟩) hm.length cn) ∧ W.cell? ⟨b3, o3 + k, none⟩ = some (.string s) ∧ W.cell? ⟨b4, o4 + k, none⟩ = some (.string s) ∧ W.cell? ⟨w.heap.size, 2, none⟩ = some (.slice (some ⟨b1, o1, none⟩) l.length cl) ∧ W.cell? ⟨w.heap.size + 1, 8, none⟩ = some (.slice (some ⟨b2, o2, none⟩) vl.length vl3) ∧ W.cell? ⟨b1, o1 + k * 3, none⟩ = some (.int .i64 hp.kind) ∧ W.cell? ⟨b1, o1 + k * 3 + 1, none⟩ = some (.slice a1 m1 d1) ∧ W.cell? ⟨b1, o1 + k * 3 + 2, none⟩ = some (.slice a2 m2 d2) ∧ W.cell? ⟨b2, o2 + k * 9, none⟩ = some (.int .i64 hq.kind) ∧ W.cell? ⟨b2, o2 + k * 9 + 1, none⟩ = some (.bool hq.flag) ∧ W.cell? ⟨b2, o2 + k * 9 + 2, none⟩ = some (.bool hq.neg) ∧ W.cell? ⟨b2, o2 + k * 9 + 3, none⟩ = some (.string hq.dig) ∧ W.cell? ⟨b2, o2 + k * 9 + 4, none⟩ = some (.int .i64 hq.exp) ∧ W.cell? ⟨b2, o2 + k * 9 + 5, none⟩ = some (.int .u64 hq.bits) ∧ W.cell? ⟨b2, o2 + k * 9 + 6, none⟩ = some (.string hq.text) ∧ W.cell? ⟨b2, o2 + k * 9 + 7, none⟩ = some (.slice a3 m3 d3) ∧ W.cell? ⟨b2, o2 + k * 9 + 8, none⟩ = some (.slice a4 m4 d4)) := fun W hW => ⟨(hW.cell (p := ⟨w.heap.size + 1, 7, none⟩) (by show _ < wr.heap.size; omega)).trans y7, (hW.cell (p := ⟨w.heap.size, 1, none⟩) (by show _ < wr.heap.size; omega)).trans x1, (hW.cell (p := ⟨b3, o3 + k, none⟩) (by show _ < wr.heap.size; omega)).trans hcell3, (hW.cell (p := ⟨b4, o4 + k, none⟩) (by show _ < wr.heap.size; omega)).trans hcell4, (hW.cell (p := ⟨w.heap.size, 2, none⟩) (by show _ < wr.heap.size; omega)).trans x2, (hW.cell (p := ⟨w.heap.size + 1, 8, none⟩) (by show _ < wr.heap.size; omega)).trans y8, (hW.cell (p := ⟨b1, o1 + k * 3, none⟩) (by show _ < wr.heap.size; omega)).trans q0, (hW.cell (p := ⟨b1, o1 + k * 3 + 1, none⟩) (by show _ < wr.heap.size; omega)).trans q1, (hW.cell (p := ⟨b1, o1 + k * 3 + 2, none⟩) (by show _ < wr.heap.size; omega)).trans q2, (hW.cell (p := ⟨b2, o2 + k * 9, none⟩) (by show _ < wr.heap.size; omega)).trans r0, (hW.cell (p := ⟨b2, o2 + k * 9 + 1, none⟩) (by show _ < wr.heap.size; omega)).trans r1, (hW.cell (p := ⟨b2, o2 + k * 9 + 2, none⟩) (by show _ < wr.heap.size; omega)).trans r2, (hW.cell (p := ⟨b2, o2 + k * 9 + 3, none⟩) (by show _ < wr.heap.size; omega)).trans r3, (hW.cell (p := ⟨b2, o2 + k * 9 + 4, none⟩) (by show _ < wr.heap.size; omega)).trans r4, (hW.cell (p := ⟨b2, o2 + k * 9 + 5, none⟩) (by show _ < wr.heap.size; omega)).trans r5, (hW.cell (p := ⟨b2, o2 + k * 9 + 6, none⟩) (by show _ < wr.heap.size; omega)).trans r6, (hW.cell (p := ⟨b2, o2 + k * 9 + 7, none⟩) (by show _ < wr.heap.size; omega)).trans r7, (hW.cell (p := ⟨b2, o2 + k * 9 + 8, none⟩) (by show _ < wr.heap.size; omega)).trans r8⟩
                clear hlt0 hlt1 hltb1 hltb2 hltb3 hltb4
                cases bk
                · go_region_held3 (fun W => W.cell? ⟨w.heap.size + 1, 7, none⟩ = some (.slice (some ⟨b3, o3, none⟩) hm.length vn3) ∧ W.cell? ⟨w.heap.size, 1, none⟩ = some (.slice (some ⟨b4, o4, none⟩) hm.length cn) ∧ W.cell? ⟨b3, o3 + k, none⟩ = some (.string s) ∧ W.cell? ⟨b4, o4 + k, none⟩ = some (.string s) ∧ W.cell? ⟨w.heap.size, 2, none⟩ = some (.slice (some ⟨b1, o1, none⟩) l.length cl) ∧ W.cell? ⟨w.heap.size + 1, 8, none⟩ = some (.slice (some ⟨b2, o2, none⟩) vl.length vl3) ∧ W.cell? ⟨b1, o1 + k * 3, none⟩ = some (.int .i64 hp.kind) ∧ W.cell? ⟨b1, o1 + k * 3 + 1, none⟩ = some (.slice a1 m1 d1) ∧ W.cell? ⟨b1, o1 + k * 3 + 2, none⟩ = some (.slice a2 m2 d2) ∧ W.cell? ⟨b2, o2 + k * 9, none⟩ = some (.int .i64 hq.kind) ∧ W.cell? ⟨b2, o2 + k * 9 + 1, none⟩ = some (.bool hq.flag) ∧ W.cell? ⟨b2, o2 + k * 9 + 2, none⟩ = some (.bool hq.neg) ∧ W.cell? ⟨b2, o2 + k * 9 + 3, none⟩ = some (.string hq.dig) ∧ W.cell? ⟨b2, o2 + k * 9 + 4, none⟩ = some (.int .i64 hq.exp) ∧ W.cell? ⟨b2, o2 + k * 9 + 5, none⟩ = some (.int .u64 hq.bits) ∧ W.cell? ⟨b2, o2 + k * 9 + 6, none⟩ = some (.string hq.text) ∧ W.cell? ⟨b2, o2 + k * 9 + 7, none⟩ = some (.slice a3 m3 d3) ∧ W.cell? ⟨b2, o2 + k * 9 + 8, none⟩ = some (.slice a4 m4 d4)) (first | (exact mkS.out _ T3.out) | (simp [go_sem]; done) | go_keep) (first | (go_at_call 34; refine (hcall.out _ (by repeat (first | exact Below.refl _ _ | refine below_dr ?_ | refine below_dn ?_ _))).mono ?_; rintro e w3 ⟨rfl, hb3⟩; have T3 : Hid (Below wr.heap.size wr w3) := below_then (by repeat (first | exact Below.refl _ _ | refine below_dr ?_ | refine below_dn ?_ _)) hb3))
                  go_wp2_with fail
                  go_ret
                  refine TB.no (fun z => ?_) (below_then H.out.2.below T3.out)
                  rcases z with ⟨z, _⟩ | ⟨z, _⟩ | ⟨_, _, _, z⟩ | ⟨z, _⟩
                  · exact absurd (show (10 : Int) ≤ 8 from z) (by decide)
                  · exact absurd (show (10 : Int) = 9 from z) (by decide)
                  · have := hbk'.out.2 (z k hkl1 hkl2); cases this
                  · exact absurd (show (10 : Int) = 11 from z) (by decide)
                · go_region_held3 (fun W => W.cell? ⟨w.heap.size + 1, 7, none⟩ = some (.slice (some ⟨b3, o3, none⟩) hm.length vn3) ∧ W.cell? ⟨w.heap.size, 1, none⟩ = some (.slice (some ⟨b4, o4, none⟩) hm.length cn) ∧ W.cell? ⟨b3, o3 + k, none⟩ = some (.string s) ∧ W.cell? ⟨b4, o4 + k, none⟩ = some (.string s) ∧ W.cell? ⟨w.heap.size, 2, none⟩ = some (.slice (some ⟨b1, o1, none⟩) l.length cl) ∧ W.cell? ⟨w.heap.size + 1, 8, none⟩ = some (.slice (some ⟨b2, o2, none⟩) vl.length vl3) ∧ W.cell? ⟨b1, o1 + k * 3, none⟩ = some (.int .i64 hp.kind) ∧ W.cell? ⟨b1, o1 + k * 3 + 1, none⟩ = some (.slice a1 m1 d1) ∧ W.cell? ⟨b1, o1 + k * 3 + 2, none⟩ = some (.slice a2 m2 d2) ∧ W.cell? ⟨b2, o2 + k * 9, none⟩ = some (.int .i64 hq.kind) ∧ W.cell? ⟨b2, o2 + k * 9 + 1, none⟩ = some (.bool hq.flag) ∧ W.cell? ⟨b2, o2 + k * 9 + 2, none⟩ = some (.bool hq.neg) ∧ W.cell? ⟨b2, o2 + k * 9 + 3, none⟩ = some (.string hq.dig) ∧ W.cell? ⟨b2, o2 + k * 9 + 4, none⟩ = some (.int .i64 hq.exp) ∧ W.cell? ⟨b2, o2 + k * 9 + 5, none⟩ = some (.int .u64 hq.bits) ∧ W.cell? ⟨b2, o2 + k * 9 + 6, none⟩ = some (.string hq.text) ∧ W.cell? ⟨b2, o2 + k * 9 + 7, none⟩ = some (.slice a3 m3 d3) ∧ W.cell? ⟨b2, o2 + k * 9 + 8, none⟩ = some (.slice a4 m4 d4)) (first | (exact mkS.out _ T3.out) | (simp [go_sem]; done) | go_keep) (first | (go_at_call 34; refine (hcall.out _ (by repeat (first | exact Below.refl _ _ | refine below_dr ?_ | refine below_dn ?_ _))).mono ?_; rintro e w3 ⟨rfl, hb3⟩; have T3 : Hid (Below wr.heap.size wr w3) := below_then (by repeat (first | exact Below.refl _ _ | refine below_dr ?_ | refine below_dn ?_ _)) hb3))
                  go_wp2_with fail
                  refine ⟨⟨k + 1, by go_num, by omega, (fun i h1 h2 h3 h4 h5 => ?_), H.out.2.then T3.out⟩, by simp [intOf]; omega⟩
                  by_cases e : i = k
                  · subst e; exact ⟨by rw [hs.out, hs2.out], hbk'.out.1 (by simp)⟩
                  · exact H.out.1 i h1 h2 h3 h4 (by omega)
              · have hst2 : decide (s = s2) = false := decide_eq_false hst
                have hst3 := ba_ne hst
                have hst' := hide hst
                clear hst
                go_quiet (fail)
                go_wp2_with fail
                go_ret
                refine TB.no (fun z => ?_) (below_dn H.out.2.below _)
                rcases z with ⟨z, _⟩ | ⟨z, _⟩ | ⟨_, _, z, _⟩ | ⟨z, _⟩
                · exact absurd (show (10 : Int) ≤ 8 from z) (by decide)
                · exact absurd (show (10 : Int) = 9 from z) (by decide)
                · have z : gm = hm := z
                  subst z
                  exact hst'.out (by rw [← hs.out, ← hs2.out])
                · exact absurd (show (10 : Int) = 11 from z) (by decide)
            · have hki : ¬ ((k : Int) < (hm.length : Int)) := by omega
              go_wp2_with fail
              go_ret
              have e1 := hgl2.out
              have e2 := hln.out
              have e3 := hvn.out
              refine TB.yes (Or.inr (Or.inr (Or.inl ⟨rfl, rfl, ?_, fun i h1 h2 => ?_⟩))) H.out.2.below
              · show gm = hm
                exact List.ext_getElem e1 (fun i h1 h2 => (H.out.1 i h2 h1 (by omega) (by omega) (by omega)).1)
              · have h1 : i < l.length := h1
                have h2 : i < vl.length := h2
                exact (H.out.1 i (by omega) (by omega) h1 h2 (by omega)).2
        · have hin : Hid (¬ InT (n + 1) ((⟨10, hm⟩, l) : TT (n + 1)) (m + 1) (⟨8, gf, gn, gd, ge, gb, gs, gm⟩, vl)) := fun z => by
            rcases z with ⟨z, _⟩ | ⟨z, _⟩ | ⟨_, _, z, _⟩ | ⟨z, _⟩
            · exact absurd (show (10 : Int) ≤ 8 from z) (by decide)
            · exact absurd (show (10 : Int) = 9 from z) (by decide)
            · have z : gm = hm := z
              exact hgl (by rw [z])
            · exact absurd (show (10 : Int) = 11 from z) (by decide)
          have hbel := hide T0.out.below
          go_enter Tryd.func34, Tryd.ntmps34
          go_wp2_with fail
          go_ret
          exact TB.no (hin.out) hbel.out
      · have hin : Hid (¬ InT (n + 1) ((⟨10, hm⟩, l) : TT (n + 1)) (m + 1) (⟨gk, gf, gn, gd, ge, gb, gs, gm⟩, vl)) := fun z => by
          rcases z with ⟨z, _⟩ | ⟨z, _⟩ | ⟨_, z, _⟩ | ⟨z, _⟩
          · exact absurd (show (10 : Int) ≤ 8 from z) (by decide)
          · exact absurd (show (10 : Int) = 9 from z) (by decide)
          · exact g8 z
          · exact absurd (show (10 : Int) = 11 from z) (by decide)
        have g8b : (gk == 8) = false := beq_eq_false_iff_ne.2 g8
        have g8c : (gk != 8) = true := by simpa using g8
        have g8d : decide (gk = 8) = false := decide_eq_false g8
        have g8h := hide g8
        clear g8
        have hbel := hide T0.out.below
        go_enter Tryd.func34, Tryd.ntmps34
        go_wp2_with fail
        go_ret
        exact TB.no (hin.out) hbel.out
set_option maxHeartbeats 4000000 in
set_option maxRecDepth 100000 in
theorem rin_11 (n : Nat) (ih : RinOk n) (t : TT (n + 1)) (m : Nat) (v : VT (m + 1)) (ns ls ns' ls' : Value) (w : World) (hr : RT (n + 1) w t ns ls) (hv : RD (m + 1) w v ns' ls') (ht : IsT (n + 1) t) (hw : IsV (m + 1) v) (hkk : t.1.kind = 11) :
    Calls Tryd.prog 34 #[.agg (tvs t.1 ns ls), .agg (vals v.1 ns' ls')] w fun e w' => TB (InT (n + 1) t (m + 1) v) w e w' := by
    obtain ⟨⟨hk, hm⟩, l⟩ := t
    obtain ⟨⟨gk, gf, gn, gd, ge, gb, gs, gm⟩, vl⟩ := v
    obtain ⟨al, cl, rfl, hc1, hc2⟩ := hr.len
    obtain ⟨an, cn, rfl, hn1, hn2⟩ := hr.1.len
    obtain ⟨vl1, vl3, rfl, hd1, hd2⟩ := hv.len
    obtain ⟨vn1, vn3, rfl, ho1, ho2⟩ := hv.1.len
    have hx := hide hr
    have hy := hide hv
    have hT := hide ht
    have hV := hide hw
    have ih' := hide ih
    clear ih hr hv ht hw
    simp only at hn1 hn2 hc1 hc2 hd1 hd2 ho1 ho2
    have ml : maxLen = 9223372036854775807 := rfl
    simp only at hkk
    subst hkk
    have T0 := hide (BoTV.new w ⟨11, hm⟩ ⟨gk, gf, gn, gd, ge, gb, gs, gm⟩ (.slice an hm.length cn) (.slice al l.length cl) (.slice vn1 gm.length vn3) (.slice vl1 vl.length vl3))
    show Calls _ _ #[.agg #[.int .i64 11, .slice an hm.length cn, .slice al l.length cl], .agg #[.int .i64 gk, .bool gf, .bool gn, .string gd, .int .i64 ge, .int .u64 gb, .string gs, .slice vn1 gm.length vn3, .slice vl1 vl.length vl3]] _ _
    have hln : Hid (hm.length = l.length ∧ hm.Nodup) := hT.out.1.eleven rfl
    by_cases g9 : gk = 9
    · subst g9
      obtain ⟨y, rfl⟩ : ∃ y, vl = [y] := by
        have q := (hV.out.2.1.2.2.2 rfl).2
        simp only at q
        match vl, q with
        | [y], _ => exact ⟨y, rfl⟩
      have hP := hide (fun W (hb : Below w.heap.size w W) => place_any (.slice an hm.length cn) hm gs W (hx.out.1.below hb))
      obtain ⟨x0, x1, x2⟩ := T0.out.ba.cells
      obtain ⟨y0, y1, y2, y3, y4, y5, y6, y7, y8⟩ := T0.out.bb.cells
      simp only [tvs, vals] at x0 x1 x2 y0 y1 y2 y3 y4 y5 y6 y7 y8
      go_enter Tryd.func34, Tryd.ntmps34
      go_wp2_with fail
      refine (hP.out _ T0.out.below).mono ?_
      rintro e w1 ⟨r, rfl, hr4, hb⟩
      have T1 : Hid (BoTV w ⟨11, hm⟩ ⟨9, gf, gn, gd, ge, gb, gs, gm⟩ (.slice an hm.length cn) (.slice al l.length cl) (.slice vn1 gm.length vn3) (.slice vl1 [y].length vl3) w1) := T0.out.then hb
      clear hb T0 x0 x1 x2 y0 y1 y2 y3 y4 y5 y6 y7 y8
      obtain ⟨x0, x1, x2⟩ := T1.out.ba.cells
      obtain ⟨y0, y1, y2, y3, y4, y5, y6, y7, y8⟩ := T1.out.bb.cells
      simp only [List.length_singleton] at y8
      rcases hr4.out with ⟨rfl, hn⟩ | ⟨q, rfl, hq, hqe⟩
      · have hn := hide hn
        go_wp2_with fail
        go_quiet (fail)
        go_wp2_with fail
        go_ret
        refine TB.no (fun z => ?_) (below_dn T1.out.below _)
        rcases z with ⟨z, _⟩ | ⟨z, _⟩ | ⟨z, _⟩ | ⟨_, _, i, h1, h2, z, _⟩
        · exact absurd (show (11 : Int) ≤ 8 from z) (by decide)
        · exact absurd (show (11 : Int) = 9 from z) (by decide)
        · exact absurd (show (11 : Int) = 10 from z) (by decide)
        · have z : hm[i] = gs := z
          exact hn.out (by rw [← z]; exact List.getElem_mem _)
      · have hql : q < l.length := by have := hln.out.1; omega
        have hqi : (q : Int) < (l.length : Int) := by omega
        have hq0 : (0 : Int) ≤ (q : Int) := by omega
        have hq63 : (q : Int) < 9223372036854775807 := by omega
        have hqe' := hide (show ∃ h : q < hm.length, hm[q] = gs from ⟨hq, hqe⟩)
        clear hr4 hqe hq
        obtain ⟨b1, o1, f1, he, hbl1, hlc1, hcm1, ns1, ls1, hrg1, hrd1⟩ := hx.out.at q hql
        have he' := Value.slice.inj he
        obtain ⟨rfl, _, rfl⟩ := he'
        clear he
        obtain ⟨q0, q1, q2⟩ := range3 (rangeAt_below hrg1 T1.out.below hbl1)
        obtain ⟨b2, o2, f2, he, hbl2, hlc2, hcm2, ns2, ls2, hrg2, hrd2⟩ := hy.out.at 0 (by simp)
        have he' := Value.slice.inj he
        obtain ⟨rfl, _, rfl⟩ := he'
        clear he
        have R9 := range9 (rangeAt_below hrg2 T1.out.below hbl2)
        have hd1' := hide hrd1
        have hd2' := hide hrd2
        obtain ⟨a1, m1, d1, a2, m2, d2, rfl, rfl⟩ := hrd1.shape
        obtain ⟨a3, m3, d3, a4, m4, d4, rfl, rfl⟩ := hrd2.shape
        clear hrg1 hrd1 hrg2 hrd2
        obtain ⟨bk, hbk⟩ := tells (InT n l[q] m y)
        have hcall := hide (fun W (hW : Below w1.heap.size w1 W) => Calls.tb (ih'.out l[q] m y _ _ _ _ W (hd1'.out.below (below_then T1.out.below hW)) (hd2'.out.below (below_then T1.out.below hW)) (hT.out.2 _ (List.getElem_mem _)) (hV.out.2.2 _ (by simp))) hbk)
        have hbk' := hide hbk
        clear hbk
        simp only at q0 q1 q2
        simp only [List.getElem_cons_zero, Nat.zero_mul, Nat.add_zero] at R9
        obtain ⟨hp, hhp⟩ : ∃ hp, thd n l[q] = hp := ⟨_, rfl⟩
        obtain ⟨hq, hhq⟩ : ∃ hq, vhd m y = hq := ⟨_, rfl⟩
        rw [hhp] at q0 hcall
        rw [hhq] at R9 hcall
        obtain ⟨r0, r1, r2, r3, r4, r5, r6, r7, r8⟩ := R9
        clear hhp hhq
        simp only [tvs, vals] at hcall
        have hlt0 := T1.out.ba.lt
        have hlt1 := T1.out.bb.lt
        have hltb1 : b1 < w1.heap.size := Nat.lt_of_lt_of_le hbl1 T1.out.below.size
        have hltb2 : b2 < w1.heap.size := Nat.lt_of_lt_of_le hbl2 T1.out.below.size
        have mkS : Hid (∀ W : World, Below w1.heap.size w1 W → W.cell? ⟨w.heap.size, 2, none⟩ = some (.slice (some ⟨b1, o1, none⟩) l.length cl) ∧ W.cell? ⟨w.heap.size + 1, 8, none⟩ = some (.slice (some ⟨b2, o2, none⟩) 1 vl3) ∧ W.cell? ⟨b1, o1 + q * 3, none⟩ = some (.int .i64 hp.kind) ∧ W.cell? ⟨b1, o1 + q * 3 + 1, none⟩ = some (.slice a1 m1 d1) ∧ W.cell? ⟨b1, o1 + q * 3 + 2, none⟩ = some (.slice a2 m2 d2) ∧ W.cell? ⟨b2, o2, none⟩ = some (.int .i64 hq.kind) ∧ W.cell? ⟨b2, o2 + 1, none⟩ = some (.bool hq.flag) ∧ W.cell? ⟨b2, o2 + 2, none⟩ = some (.bool hq.neg) ∧ W.cell? ⟨b2, o2 + 3, none⟩ = some (.string hq.dig) ∧ W.cell? ⟨b2, o2 + 4, none⟩ = some (.int .i64 hq.exp) ∧ W.cell? ⟨b2, o2 + 5, none⟩ = some (.int .u64 hq.bits) ∧ W.cell? ⟨b2, o2 + 6, none⟩ = some (.string hq.text) ∧ W.cell? ⟨b2, o2 + 7, none⟩ = some (.slice a3 m3 d3) ∧ W.cell? ⟨b2, o2 + 8, none⟩ = some (.slice a4 m4 d4)) := fun W hW => ⟨(hW.cell (p := ⟨w.heap.size, 2, none⟩) (by show _ < w1.heap.size; omega)).trans x2, (hW.cell (p := ⟨w.heap.size + 1, 8, none⟩) (by show _ < w1.heap.size; omega)).trans y8, (hW.cell (p := ⟨b1, o1 + q * 3, none⟩) (by show _ < w1.heap.size; omega)).trans q0, (hW.cell (p := ⟨b1, o1 + q * 3 + 1, none⟩) (by show _ < w1.heap.size; omega)).trans q1, (hW.cell (p := ⟨b1, o1 + q * 3 + 2, none⟩) (by show _ < w1.heap.size; omega)).trans q2, (hW.cell (p := ⟨b2, o2, none⟩) (by show _ < w1.heap.size; omega)).trans r0, (hW.cell (p := ⟨b2, o2 + 1, none⟩) (by show _ < w1.heap.size; omega)).trans r1, (hW.cell (p := ⟨b2, o2 + 2, none⟩) (by show _ < w1.heap.size; omega)).trans r2, (hW.cell (p := ⟨b2, o2 + 3, none⟩) (by show _ < w1.heap.size; omega)).trans r3, (hW.cell (p := ⟨b2, o2 + 4, none⟩) (by show _ < w1.heap.size; omega)).trans r4, (hW.cell (p := ⟨b2, o2 + 5, none⟩) (by show _ < w1.heap.size; omega)).trans r5, (hW.cell (p := ⟨b2, o2 + 6, none⟩) (by show _ < w1.heap.size; omega)).trans r6, (hW.cell (p := ⟨b2, o2 + 7, none⟩) (by show _ < w1.heap.size; omega)).trans r7, (hW.cell (p := ⟨b2, o2 + 8, none⟩) (by show _ < w1.heap.size; omega)).trans r8⟩
        clear hlt0 hlt1 hltb1 hltb2
        go_wp2_with fail
        go_region_held3 (fun W => W.cell? ⟨w.heap.size, 2, none⟩ = some (.slice (some ⟨b1, o1, none⟩) l.length cl) ∧ W.cell? ⟨w.heap.size + 1, 8, none⟩ = some (.slice (some ⟨b2, o2, none⟩) 1 vl3) ∧ W.cell? ⟨b1, o1 + q * 3, none⟩ = some (.int .i64 hp.kind) ∧ W.cell? ⟨b1, o1 + q * 3 + 1, none⟩ = some (.slice a1 m1 d1) ∧ W.cell? ⟨b1, o1 + q * 3 + 2, none⟩ = some (.slice a2 m2 d2) ∧ W.cell? ⟨b2, o2, none⟩ = some (.int .i64 hq.kind) ∧ W.cell? ⟨b2, o2 + 1, none⟩ = some (.bool hq.flag) ∧ W.cell? ⟨b2, o2 + 2, none⟩ = some (.bool hq.neg) ∧ W.cell? ⟨b2, o2 + 3, none⟩ = some (.string hq.dig) ∧ W.cell? ⟨b2, o2 + 4, none⟩ = some (.int .i64 hq.exp) ∧ W.cell? ⟨b2, o2 + 5, none⟩ = some (.int .u64 hq.bits) ∧ W.cell? ⟨b2, o2 + 6, none⟩ = some (.string hq.text) ∧ W.cell? ⟨b2, o2 + 7, none⟩ = some (.slice a3 m3 d3) ∧ W.cell? ⟨b2, o2 + 8, none⟩ = some (.slice a4 m4 d4)) (first | (exact mkS.out _ T3.out) | (simp [go_sem]; done) | go_keep) (first | (go_at_call 34; refine (hcall.out _ (by repeat (first | exact Below.refl _ _ | refine below_dr ?_ | refine below_dn ?_ _))).mono ?_; rintro e w3 ⟨rfl, hb3⟩; have T3 : Hid (Below w1.heap.size w1 w3) := below_then (by repeat (first | exact Below.refl _ _ | refine below_dr ?_ | refine below_dn ?_ _)) hb3))
        go_wp2_with fail
        refine bodyPost_ret (v := .bool bk) (by simp [results, Tryd.results34, go_sem, *]) rfl ?_
        refine ⟨bk, rfl, ?_, below_then T1.out.below T3.out⟩
        obtain ⟨hqm, hqe⟩ := hqe'.out
        refine ⟨fun z => Or.inr (Or.inr (Or.inr ⟨rfl, rfl, q, hqm, hql, hqe, fun y' hy' => ?_⟩)), fun z => ?_⟩
        · rw [List.mem_singleton.1 hy']; exact hbk'.out.1 z
        · rcases z with ⟨z, _⟩ | ⟨z, _⟩ | ⟨z, _⟩ | ⟨_, _, i, h1, h2, z, z2⟩
          · exact absurd (show (11 : Int) ≤ 8 from z) (by decide)
          · exact absurd (show (11 : Int) = 9 from z) (by decide)
          · exact absurd (show (11 : Int) = 10 from z) (by decide)
          · have z : hm[i] = gs := z
            have e : i = q := (List.getElem_inj hln.out.2).1 (z.trans hqe.symm)
            subst e
            exact hbk'.out.2 (z2 y (by simp))
    · have hin : Hid (¬ InT (n + 1) ((⟨11, hm⟩, l) : TT (n + 1)) (m + 1) (⟨gk, gf, gn, gd, ge, gb, gs, gm⟩, vl)) := fun z => by
        rcases z with ⟨z, _⟩ | ⟨z, _⟩ | ⟨z, _⟩ | ⟨_, z, _⟩
        · exact absurd (show (11 : Int) ≤ 8 from z) (by decide)
        · exact absurd (show (11 : Int) = 9 from z) (by decide)
        · exact absurd (show (11 : Int) = 10 from z) (by decide)
        · exact g9 z
      have g9b : (gk == 9) = false := beq_eq_false_iff_ne.2 g9
      have g9c : (gk != 9) = true := by simpa using g9
      have g9d : decide (gk = 9) = false := decide_eq_false g9
      have g9h := hide g9
      clear g9
      have hbel := hide T0.out.below
      go_enter Tryd.func34, Tryd.ntmps34
      go_wp2_with fail
      go_ret
      exact TB.no (hin.out) hbel.out
theorem rin_any : ∀ n, RinOk n
  | 0 => fun t => Empty.elim t
  | n + 1 => fun t m v ns ls ns' ls' w hr hv ht hw => by
    cases m with
    | zero => exact Empty.elim v
    | succ m =>
      rcases ht.1 with ⟨q, _⟩ | ⟨q, _⟩ | ⟨q1, q2, _⟩
      · exact rin_9 n (rin_any n) t m v ns ls ns' ls' w hr hv ht hw q
      · rcases q with q | q
        · exact rin_10 n (rin_any n) t m v ns ls ns' ls' w hr hv ht hw q
        · exact rin_11 n (rin_any n) t m v ns ls ns' ls' w hr hv ht hw q
      · exact rin_pl n (rin_any n) t m v ns ls ns' ls' w hr hv ht hw ⟨q1, q2⟩
end Go.Proofs.YtlfnnecpinmjjaaDoor
/- calamusref11.Has: walked. -/
namespace Go.Proofs.YtlfnnecpinmjjaaDoor
open Go.RowKit Go.Maps
set_option linter.unusedSimpArgs false
set_option linter.unusedVariables false
set_option maxHeartbeats 1000000 in
set_option maxRecDepth 100000 in
theorem rhas_any (rv : RVal) (n : Nat) (t : TT n) (ns ls : Value) (m : Nat) (v : VT m) (ns' ls' : Value) (w : World) (ht : TRd n w t ns ls) (hv : Rdy m w v ns' ls') (E F : Int) (hE : TChk n t E) (hF : Chk m v F) :
    Calls Tryd.prog 14 #[.agg (tvs (thd n t) ns ls), .agg (vals (vhd m v) ns' ls')] w fun e w' => SubP (Chk2 E F) (InT n t m v) w e w' := by
  obtain ⟨a1, m1, d1, a2, m2, d2, rfl, rfl⟩ := ht.rd.shape
  obtain ⟨a3, m3, d3, a4, m4, d4, rfl, rfl⟩ := hv.rd.shape
  have hA := hide (fun W (hb : Below w.heap.size w W) => rtcheck_any rv n t _ _ W (ht.below hb) E hE)
  have hB := hide (fun W (hb : Below w.heap.size w W) => rcheck_any rv m v _ _ W (hv.below hb) F hF)
  have hH := hide (fun (q : IsT n t ∧ IsV m v) W (hb : Below w.heap.size w W) => rin_any n t m v _ _ _ _ W (ht.rd.below hb) (hv.rd.below hb) q.1 q.2)
  have hb0 : Hid (∀ o o', Below w.heap.size w ((w.alloc o).alloc o')) := fun o o' => below_al (below_al (Below.refl _ _))
  have hE0 : Hid (E = 0 → IsT n t) := fun q => by rw [q] at hE; exact hE.zero.1
  have hF0 : Hid (F = 0 → IsV m v) := by
    intro q
    rcases hF with ⟨e, _⟩ | ⟨e, _⟩ | ⟨e, k, _⟩
    · rw [e] at q; cases q
    · rw [e] at q; cases q
    · exact k
  obtain ⟨h, hh⟩ : ∃ h, thd n t = h := ⟨_, rfl⟩
  obtain ⟨k, hk⟩ : ∃ k, vhd m v = k := ⟨_, rfl⟩
  rw [hh] at hA hH ⊢
  rw [hk] at hB hH ⊢
  clear hh hk ht hv hE hF rv
  have T0 := hide (BoTV.new w h k (.slice a1 m1 d1) (.slice a2 m2 d2) (.slice a3 m3 d3) (.slice a4 m4 d4))
  simp only [tvs, vals] at hA hB hH
  show Calls _ _ #[.agg #[.int .i64 h.kind, .slice a1 m1 d1, .slice a2 m2 d2], .agg #[.int .i64 k.kind, .bool k.flag, .bool k.neg, .string k.dig, .int .i64 k.exp, .int .u64 k.bits, .string k.text, .slice a3 m3 d3, .slice a4 m4 d4]] _ _
  by_cases h0 : E = 0
  · have hr : Hid (Chk2 E F = F) := by rw [h0]; rfl
    rw [hr.out]
    have hIT := hide (hE0.out h0)
    subst h0
    go_enter Tryd.func14, Tryd.ntmps14
    go_wp2_with fail
    refine (hA.out _ T0.out.below).mono ?_
    rintro e w1 ⟨rfl, hb⟩
    have T1 := hide (T0.out.then hb)
    clear hb T0
    obtain ⟨c0, c1, c2, c3, c4, c5, c6, c7, c8⟩ := T1.out.bb.cells
    by_cases f0 : F = 0
    · have hIV := hide (hF0.out f0)
      subst f0
      go_wp2_with fail
      refine (hB.out _ T1.out.below).mono ?_
      rintro e w2 ⟨rfl, hb⟩
      have T2 := hide (T1.out.then hb)
      clear hb T1 c0 c1 c2 c3 c4 c5 c6 c7 c8
      obtain ⟨t0, t1, t2⟩ := T2.out.ba.cells
      obtain ⟨c0, c1, c2, c3, c4, c5, c6, c7, c8⟩ := T2.out.bb.cells
      have hcall := hide (hH.out ⟨hIT.out, hIV.out⟩ w2 T2.out.below)
      go_wp2_with fail
      refine hcall.out.mono ?_
      rintro e w3 ⟨b, rfl, hTT, hb3⟩
      have hTT := hide hTT
      have hb3' := hide hb3
      clear hb3
      go_wp2_with fail
      refine bodyPost_ret (v := .tuple #[.bool b, .int .i64 0]) (by simp [results, Tryd.results14, go_sem]) rfl ⟨b, rfl, ?_, below_then T2.out.below hb3'.out⟩
      exact ⟨fun q => ⟨rfl, hTT.out.1 q⟩, fun q => hTT.out.2 q.2⟩
    · have h1 : (F != 0) = true := by simpa using f0
      have h2 : (F == 0) = false := beq_eq_false_iff_ne.2 f0
      have h3 : decide (F = 0) = false := decide_eq_false f0
      go_wp2_with fail
      refine (hB.out _ T1.out.below).mono ?_
      rintro e w2 ⟨rfl, hb2⟩
      go_wp2_with fail
      refine bodyPost_ret (v := .tuple #[.bool false, .int .i64 F]) (by simp [results, Tryd.results14, go_sem]) rfl ⟨false, rfl, ?_, below_then T1.out.below hb2⟩
      exact ⟨(fun q => by cases q), fun q => absurd q.1 f0⟩
  · have hr : Hid (Chk2 E F = E) := by
      have : (E == 0) = false := beq_eq_false_iff_ne.2 h0
      show (bif E == 0 then F else E) = E
      rw [this]; rfl
    rw [hr.out]
    have h1 : (E != 0) = true := by simpa using h0
    have h2 : (E == 0) = false := beq_eq_false_iff_ne.2 h0
    have h3 : decide (E = 0) = false := decide_eq_false h0
    go_enter Tryd.func14, Tryd.ntmps14
    go_wp2_with fail
    refine (hA.out _ T0.out.below).mono ?_
    rintro e w1 ⟨rfl, hb1⟩
    have hw1 := hide (below_then T0.out.below hb1)
    go_wp2_with fail
    refine bodyPost_ret (v := .tuple #[.bool false, .int .i64 E]) (by simp [results, Tryd.results14, go_sem]) rfl ⟨false, rfl, ?_, hw1.out⟩
    exact ⟨(fun q => by cases q), fun q => absurd q.1 h0⟩
end Go.Proofs.YtlfnnecpinmjjaaDoor
