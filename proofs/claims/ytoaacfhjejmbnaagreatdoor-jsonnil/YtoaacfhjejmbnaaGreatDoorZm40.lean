/- Merged by program: JjTag, JkVal. -/
import Derived.Test.YtoaacfhjejmbnaaGreatDoorZm39
/- json's writer: tag, value: walked. -/
namespace Go.Proofs.YtoaacfhjejmbnaaGreatDoor
open Go.RowKit
set_option linter.unusedSimpArgs false
set_option linter.unusedVariables false
set_option maxHeartbeats 4000000 in
set_option maxRecDepth 100000 in
theorem jtag_any (n : Nat) (vo : ValOk n) (s : ByteArray) (x : VT n) (ns ls : Value) (w0 W : World) (i : Nat) (A : List UInt8) (hc : Vc n x ns ls w0 i W) (hs : s.size ≤ 281474976710656) (hW : WB W i A) (hA : A.length ≤ 65536) :
    Calls Tryz.prog 61 #[.pointer (some ⟨i, 0, none⟩), .string s, .agg (vals (vhd n x) ns ls)] W fun e w' => WO i A ([123] ++ (quo dTag ++ ([58, 91] ++ (quo (bl s) ++ ([44] ++ (jtx n x ++ [93, 125])))))) W e w' := by
  have hp := hide (fun s A W (h : WB W i A) (hA : A.length ≤ 65536) (hs : s.size ≤ 281474976710656) => put_any s A W i h hA hs)
  have ht := hide (fun s A W (h : WB W i A) (hA : A.length ≤ 65536) (hs : s.size ≤ 281474976710656) => text_any s A W i h hA hs)
  have vk := hide (fun W (b : Below w0.heap.size w0 W) A (y : WB W i A) (a : A.length ≤ 65536) => vo x _ _ w0 W i A ⟨hc.rd, hc.vo, hc.lo, b, hc.tab⟩ y a)
  have hc' := hide hc
  have hW' := hide hW
  have hA' := hide hA
  have hs' := hide hs
  obtain ⟨a1, m1, d1, a2, m2, d2, rfl, rfl⟩ := hc.rd.shape
  obtain ⟨g, hg⟩ : ∃ g, vhd n x = g := ⟨_, rfl⟩
  rw [hg] at vk ⊢
  simp only [vals] at vk
  have hloi := hc.lo
  have hiW := hW.lt
  have V0 := hide (bx_new W g (.slice a1 m1 d1) (.slice a2 m2 d2))
  have X0 := hide (fun o => hW.below (below_al (o := o) (Below.refl W.heap.size W)))
  have N0 : Hid (∀ o, NB W.heap.size (W.alloc o) i) := fun o => NB.new hW
  have F0 : Hid (∀ o, FW i W (W.alloc o)) := fun o => FW.al (FW.refl _ _) hiW
  obtain ⟨J, hJ⟩ : ∃ J, jtx n x = J := ⟨_, rfl⟩
  rw [hJ] at vk ⊢
  clear vo hc hW hA hs hg hJ
  show Calls _ _ #[_, _, .agg #[.int .i64 g.kind, .bool g.flag, .bool g.neg, .string g.dig, .int .i64 g.exp, .int .u64 g.bits, .string g.text, .slice a1 m1 d1, .slice a2 m2 d2]] _ _
  go_enter Tryz.func61, Tryz.ntmps61
  go_wp2_with (go_at_call 52; refine Sto.out ?_)
  refine Sto.mk ((hp.out ⟨#[123]⟩ _ _ (X0.out _) hA'.out (by decide)).mono ?_)
  rintro e w1 hw
  replace hw : WO i A ([123]) _ e w1 := hw
  have kp := hide (hw.1.kept (N0.out _))
  have hw2 := WO.step (A := A) (T := []) (F0.out _) (by simpa using hw)
  clear hw
  rcases hw2 with ⟨rfl, g1, g2, g3⟩ | ⟨rfl, g1, g2⟩
  · have F1 := hide g1
    have X1 := hide g2
    have L1 := hide g3
    have V1 := hide (V0.out.nb (i := i) kp.out.1)
    have N1 := hide kp.out.2
    clear g1 g2 g3 kp
    go_wp2_with (go_at_call 57; refine Sto.out ?_)
    refine Sto.mk ((ht.out ⟨#[36, 116, 97, 103]⟩ _ w1 X1.out L1.out (by decide)).mono ?_)
    rintro e w2 hw
    replace hw : WO i (A ++ ([] ++ [123])) (quo dTag) w1 e w2 := hw
    have kp := hide (hw.1.kept N1.out)
    have hw2 := WO.step (A := A) (T := [] ++ [123]) F1.out hw
    clear hw
    rcases hw2 with ⟨rfl, g1, g2, g3⟩ | ⟨rfl, g1, g2⟩
    · have F2 := hide g1
      have X2 := hide g2
      have L2 := hide g3
      have V2 := hide (V1.out.nb (i := i) kp.out.1)
      have N2 := hide kp.out.2
      clear g1 g2 g3 kp
      go_wp2_with (go_at_call 52; refine Sto.out ?_)
      refine Sto.mk ((hp.out ⟨#[58, 91]⟩ _ w2 X2.out L2.out (by decide)).mono ?_)
      rintro e w3 hw
      replace hw : WO i (A ++ ([] ++ [123] ++ (quo dTag))) ([58, 91]) w2 e w3 := hw
      have kp := hide (hw.1.kept N2.out)
      have hw2 := WO.step (A := A) (T := [] ++ [123] ++ (quo dTag)) F2.out hw
      clear hw
      rcases hw2 with ⟨rfl, g1, g2, g3⟩ | ⟨rfl, g1, g2⟩
      · have F3 := hide g1
        have X3 := hide g2
        have L3 := hide g3
        have V3 := hide (V2.out.nb (i := i) kp.out.1)
        have N3 := hide kp.out.2
        clear g1 g2 g3 kp
        go_wp2_with (go_at_call 57; refine Sto.out ?_)
        refine Sto.mk ((ht.out s _ w3 X3.out L3.out hs'.out).mono ?_)
        rintro e w4 hw
        replace hw : WO i (A ++ ([] ++ [123] ++ (quo dTag) ++ ([58, 91]))) (quo (bl s)) w3 e w4 := hw
        have kp := hide (hw.1.kept N3.out)
        have hw2 := WO.step (A := A) (T := [] ++ [123] ++ (quo dTag) ++ ([58, 91])) F3.out hw
        clear hw
        rcases hw2 with ⟨rfl, g1, g2, g3⟩ | ⟨rfl, g1, g2⟩
        · have F4 := hide g1
          have X4 := hide g2
          have L4 := hide g3
          have V4 := hide (V3.out.nb (i := i) kp.out.1)
          have N4 := hide kp.out.2
          clear g1 g2 g3 kp
          go_wp2_with (go_at_call 52; refine Sto.out ?_)
          refine Sto.mk ((hp.out ⟨#[44]⟩ _ w4 X4.out L4.out (by decide)).mono ?_)
          rintro e w5 hw
          replace hw : WO i (A ++ ([] ++ [123] ++ (quo dTag) ++ ([58, 91]) ++ (quo (bl s)))) ([44]) w4 e w5 := hw
          have kp := hide (hw.1.kept N4.out)
          have hw2 := WO.step (A := A) (T := [] ++ [123] ++ (quo dTag) ++ ([58, 91]) ++ (quo (bl s))) F4.out hw
          clear hw
          rcases hw2 with ⟨rfl, g1, g2, g3⟩ | ⟨rfl, g1, g2⟩
          · have F5 := hide g1
            have X5 := hide g2
            have L5 := hide g3
            have V5 := hide (V4.out.nb (i := i) kp.out.1)
            have N5 := hide kp.out.2
            clear g1 g2 g3 kp
            obtain ⟨v0, v1, v2, v3, v4, v5, v6, v7, v8⟩ := V5.out.cells
            go_wp2_with (go_at_call 34; refine Sto.out ?_)
            refine Sto.mk ((vk.out w5 (hc'.out.be.trans (F5.out.1.mono hloi)) _ X5.out L5.out).mono ?_)
            rintro e w6 hw
            replace hw : WO i (A ++ ([] ++ [123] ++ (quo dTag) ++ ([58, 91]) ++ (quo (bl s)) ++ ([44]))) (J) w5 e w6 := hw
            have kp := hide (hw.1.kept N5.out)
            have hw2 := WO.step (A := A) (T := [] ++ [123] ++ (quo dTag) ++ ([58, 91]) ++ (quo (bl s)) ++ ([44])) F5.out hw
            clear hw v0 v1 v2 v3 v4 v5 v6 v7 v8
            rcases hw2 with ⟨rfl, g1, g2, g3⟩ | ⟨rfl, g1, g2⟩
            · have F6 := hide g1
              have X6 := hide g2
              have L6 := hide g3
              have V6 := hide (V5.out.nb (i := i) kp.out.1)
              have N6 := hide kp.out.2
              clear g1 g2 g3 kp
              go_wp2_with (go_at_call 52; refine Sto.out ?_)
              refine Sto.mk ((hp.out ⟨#[93, 125]⟩ _ w6 X6.out L6.out (by decide)).mono ?_)
              rintro e w7 hw
              replace hw : WO i (A ++ ([] ++ [123] ++ (quo dTag) ++ ([58, 91]) ++ (quo (bl s)) ++ ([44]) ++ (J))) ([93, 125]) w6 e w7 := hw
              have kp := hide (hw.1.kept N6.out)
              have hw2 := WO.step (A := A) (T := [] ++ [123] ++ (quo dTag) ++ ([58, 91]) ++ (quo (bl s)) ++ ([44]) ++ (J)) F6.out hw
              clear hw
              rcases hw2 with ⟨rfl, g1, g2, g3⟩ | ⟨rfl, g1, g2⟩
              · have K : Hid (WO i A ([123] ++ (quo dTag ++ ([58, 91] ++ (quo (bl s) ++ ([44] ++ (J ++ [93, 125])))))) W (.returned (.tuple #[])) w7) := ⟨g1, Or.inl ⟨by simpa using g3, rfl, by simpa using g2⟩⟩
                clear g1 g2 g3 kp
                go_wp2_with fail
                go_end0
                exact K.out
              · have K := hide (WO.pre (A := A) (T := [] ++ [123] ++ (quo dTag) ++ ([58, 91]) ++ (quo (bl s)) ++ ([44]) ++ (J) ++ ([93, 125])) (U := [123] ++ (quo dTag ++ ([58, 91] ++ (quo (bl s) ++ ([44] ++ (J ++ [93, 125])))))) g1 (by simp) g2)
                clear g1 g2 kp
                go_wp2_with fail
                exact ⟨rfl, K.out⟩
            · have K := hide (WO.pre (A := A) (T := [] ++ [123] ++ (quo dTag) ++ ([58, 91]) ++ (quo (bl s)) ++ ([44]) ++ (J)) (U := [123] ++ (quo dTag ++ ([58, 91] ++ (quo (bl s) ++ ([44] ++ (J ++ [93, 125])))))) g1 (by simp) g2)
              clear g1 g2 kp
              go_wp2_with fail
              exact ⟨rfl, K.out⟩
          · have K := hide (WO.pre (A := A) (T := [] ++ [123] ++ (quo dTag) ++ ([58, 91]) ++ (quo (bl s)) ++ ([44])) (U := [123] ++ (quo dTag ++ ([58, 91] ++ (quo (bl s) ++ ([44] ++ (J ++ [93, 125])))))) g1 (by simp) g2)
            clear g1 g2 kp
            go_wp2_with fail
            exact ⟨rfl, K.out⟩
        · have K := hide (WO.pre (A := A) (T := [] ++ [123] ++ (quo dTag) ++ ([58, 91]) ++ (quo (bl s))) (U := [123] ++ (quo dTag ++ ([58, 91] ++ (quo (bl s) ++ ([44] ++ (J ++ [93, 125])))))) g1 (by simp) g2)
          clear g1 g2 kp
          go_wp2_with fail
          exact ⟨rfl, K.out⟩
      · have K := hide (WO.pre (A := A) (T := [] ++ [123] ++ (quo dTag) ++ ([58, 91])) (U := [123] ++ (quo dTag ++ ([58, 91] ++ (quo (bl s) ++ ([44] ++ (J ++ [93, 125])))))) g1 (by simp) g2)
        clear g1 g2 kp
        go_wp2_with fail
        exact ⟨rfl, K.out⟩
    · have K := hide (WO.pre (A := A) (T := [] ++ [123] ++ (quo dTag)) (U := [123] ++ (quo dTag ++ ([58, 91] ++ (quo (bl s) ++ ([44] ++ (J ++ [93, 125])))))) g1 (by simp) g2)
      clear g1 g2 kp
      go_wp2_with fail
      exact ⟨rfl, K.out⟩
  · have K := hide (WO.pre (A := A) (T := [] ++ [123]) (U := [123] ++ (quo dTag ++ ([58, 91] ++ (quo (bl s) ++ ([44] ++ (J ++ [93, 125])))))) g1 (by simp) g2)
    clear g1 g2 kp
    go_wp2_with fail
    exact ⟨rfl, K.out⟩
end Go.Proofs.YtoaacfhjejmbnaaGreatDoor
/- json's writer: value: walked. -/
namespace Go.Proofs.YtoaacfhjejmbnaaGreatDoor
open Go.RowKit
set_option linter.unusedSimpArgs false
set_option linter.unusedVariables false
theorem WO.base {i : Nat} {A T : List UInt8} {W W1 w' : World} {e : Ending} (h1 : FW i W W1) (h : WO i A T W1 e w') : WO i A T W e w' := ⟨h1.trans h.1, h.2⟩
theorem WO.two {i : Nat} {A T : List UInt8} {W w' : World} {e : Ending} (h : WO i A T W e w') : (e = .returned (.tuple #[]) ∨ e = .panicked (pan 2)) := by
  rcases h with ⟨_, ⟨_, q, _⟩ | ⟨_, q⟩⟩
  · exact Or.inl q
  · exact Or.inr q
theorem Tab.of {w0 W : World} (h : Tab w0.heap.size w0) (hb : Below w0.heap.size w0 W) : Tab W.heap.size W := Tab.up (h.on hb) hb.size
set_option maxHeartbeats 2000000 in
set_option maxRecDepth 100000 in
theorem jval_1 (n : Nat) (vo : ValOk n) (h : Hd) (l : List (VT n)) (ns ls : Value) (w0 W : World) (i : Nat) (A : List UInt8) (hc : Vc (n + 1) ((h, l) : VT (n + 1)) ns ls w0 i W) (hk : h.kind = 1) (hW : WB W i A) (hA : A.length ≤ 65536) :
    Calls Tryz.prog 34 #[.pointer (some ⟨i, 0, none⟩), .agg (vals h ns ls)] W fun e w' => WO i A (jtx (n + 1) ((h, l) : VT (n + 1))) W e w' := by
  have hiW := hW.lt
  have hloi := hc.lo
  obtain ⟨al, cl, rfl, hl1, hl2⟩ := hc.rd.len
  obtain ⟨an, cn, rfl, hn1, hn2⟩ := hc.rd.1.len
  have X0 := hide (fun o => hW.below (below_al (o := o) (Below.refl W.heap.size W)))
  have F0 : Hid (∀ o, FW i W (W.alloc o)) := fun o => FW.al (FW.refl _ _) hiW
  have B0 : Hid (∀ o, Below w0.heap.size w0 (W.alloc o)) := fun o => hc.be.trans ((below_al (Below.refl W.heap.size W)).mono hc.be.size)
  have hW' := hide hW
  have hA' := hide hA
  have hc' := hide hc
  have tz := hide hc.vo.2.1.1
  have hj := hide (show jtx (n + 1) ((h, l) : VT (n + 1)) = [110, 117, 108, 108] by
    show (if h.kind = 1 then _ else _) = _
    rw [if_pos hk]
    first | done | rfl)
  obtain ⟨kd, fl, ng, dg, ex, bt, tx, nm⟩ := h
  simp only at hk hj tz
  subst hk
  clear vo hc hW hA
  show Calls _ _ #[_, .agg #[.int .i64 1, .bool fl, .bool ng, .string dg, .int .i64 ex, .int .u64 bt, .string tx, .slice an nm.length cn, .slice al l.length cl]] _ _
  go_enter Tryz.func34, Tryz.ntmps34
  go_wp2_with (go_at_call 52; refine Sto.out ?_)
  refine Sto.mk ((put_all ⟨#[110, 117, 108, 108]⟩ A _ i (X0.out _) hA'.out).mono ?_)
  rintro e w2 hw
  replace hw : WO i A ([110, 117, 108, 108]) _ e w2 := hw
  have K : Hid (WO i A (jtx (n + 1) ((⟨1, fl, ng, dg, ex, bt, tx, nm⟩, l) : VT (n + 1))) W e w2) := by show WO _ _ _ _ _ _; rw [hj.out]; exact WO.base (F0.out _) hw
  rcases hw.two with rfl | rfl
  · clear hw
    go_wp2_with fail
    go_end0
    exact K.out
  · clear hw
    go_wp2_with fail
    exact ⟨rfl, K.out⟩
set_option maxHeartbeats 2000000 in
set_option maxRecDepth 100000 in
theorem jval_2 (n : Nat) (vo : ValOk n) (h : Hd) (l : List (VT n)) (ns ls : Value) (w0 W : World) (i : Nat) (A : List UInt8) (hc : Vc (n + 1) ((h, l) : VT (n + 1)) ns ls w0 i W) (hk : h.kind = 2) (hW : WB W i A) (hA : A.length ≤ 65536) :
    Calls Tryz.prog 34 #[.pointer (some ⟨i, 0, none⟩), .agg (vals h ns ls)] W fun e w' => WO i A (jtx (n + 1) ((h, l) : VT (n + 1))) W e w' := by
  have hiW := hW.lt
  have hloi := hc.lo
  obtain ⟨al, cl, rfl, hl1, hl2⟩ := hc.rd.len
  obtain ⟨an, cn, rfl, hn1, hn2⟩ := hc.rd.1.len
  have X0 := hide (fun o => hW.below (below_al (o := o) (Below.refl W.heap.size W)))
  have F0 : Hid (∀ o, FW i W (W.alloc o)) := fun o => FW.al (FW.refl _ _) hiW
  have B0 : Hid (∀ o, Below w0.heap.size w0 (W.alloc o)) := fun o => hc.be.trans ((below_al (Below.refl W.heap.size W)).mono hc.be.size)
  have hW' := hide hW
  have hA' := hide hA
  have hc' := hide hc
  have tz := hide hc.vo.2.1.1
  have hj := hide (show jtx (n + 1) ((h, l) : VT (n + 1)) = flgL h.flag by
    show (if h.kind = 1 then _ else _) = _
    rw [if_neg (show ¬ h.kind = 1 by omega), if_pos hk]
    first | done | rfl)
  obtain ⟨kd, fl, ng, dg, ex, bt, tx, nm⟩ := h
  simp only at hk hj tz
  subst hk
  clear vo hc hW hA
  show Calls _ _ #[_, .agg #[.int .i64 2, .bool fl, .bool ng, .string dg, .int .i64 ex, .int .u64 bt, .string tx, .slice an nm.length cn, .slice al l.length cl]] _ _
  go_enter Tryz.func34, Tryz.ntmps34
  go_wp2_with (go_at_call 53; refine Sto.out ?_)
  refine Sto.mk ((flag_any fl A _ i (X0.out _) hA'.out).mono ?_)
  rintro e w2 hw
  replace hw : WO i A (flgL fl) _ e w2 := hw
  have K : Hid (WO i A (jtx (n + 1) ((⟨2, fl, ng, dg, ex, bt, tx, nm⟩, l) : VT (n + 1))) W e w2) := by show WO _ _ _ _ _ _; rw [hj.out]; exact WO.base (F0.out _) hw
  rcases hw.two with rfl | rfl
  · clear hw
    go_wp2_with fail
    go_end0
    exact K.out
  · clear hw
    go_wp2_with fail
    exact ⟨rfl, K.out⟩
set_option maxHeartbeats 2000000 in
set_option maxRecDepth 100000 in
theorem jval_3 (n : Nat) (vo : ValOk n) (h : Hd) (l : List (VT n)) (ns ls : Value) (w0 W : World) (i : Nat) (A : List UInt8) (hc : Vc (n + 1) ((h, l) : VT (n + 1)) ns ls w0 i W) (hk : h.kind = 3) (hW : WB W i A) (hA : A.length ≤ 65536) :
    Calls Tryz.prog 34 #[.pointer (some ⟨i, 0, none⟩), .agg (vals h ns ls)] W fun e w' => WO i A (jtx (n + 1) ((h, l) : VT (n + 1))) W e w' := by
  have hiW := hW.lt
  have hloi := hc.lo
  obtain ⟨al, cl, rfl, hl1, hl2⟩ := hc.rd.len
  obtain ⟨an, cn, rfl, hn1, hn2⟩ := hc.rd.1.len
  have X0 := hide (fun o => hW.below (below_al (o := o) (Below.refl W.heap.size W)))
  have F0 : Hid (∀ o, FW i W (W.alloc o)) := fun o => FW.al (FW.refl _ _) hiW
  have B0 : Hid (∀ o, Below w0.heap.size w0 (W.alloc o)) := fun o => hc.be.trans ((below_al (Below.refl W.heap.size W)).mono hc.be.size)
  have hW' := hide hW
  have hA' := hide hA
  have hc' := hide hc
  have tz := hide hc.vo.2.1.1
  have hj := hide (show jtx (n + 1) ((h, l) : VT (n + 1)) = printL h.neg (bl h.dig) h.exp by
    show (if h.kind = 1 then _ else _) = _
    rw [if_neg (show ¬ h.kind = 1 by omega), if_neg (show ¬ h.kind = 2 by omega), if_pos hk]
    first | done | rfl)
  have hN : isN h.neg h.dig h.exp = true := hc.vo.1.2.1.1 hk
  have pr := hide (fun o => print_any h.neg h.dig h.exp (W.alloc o) hN (Tab.of hc.tab (B0.out o)))
  obtain ⟨kd, fl, ng, dg, ex, bt, tx, nm⟩ := h
  simp only at hk hj tz hN pr
  subst hk
  clear vo hc hW hA
  show Calls _ _ #[_, .agg #[.int .i64 3, .bool fl, .bool ng, .string dg, .int .i64 ex, .int .u64 bt, .string tx, .slice an nm.length cn, .slice al l.length cl]] _ _
  go_enter Tryz.func34, Tryz.ntmps34
  obtain ⟨S, hS⟩ : ∃ S, mkB (printL ng (bl dg) ex) = S := ⟨_, rfl⟩
  have hSb : Hid (bl S = printL ng (bl dg) ex) := by show _ = _; rw [← hS]; rfl
  rw [hS] at pr
  clear hS hN
  go_wp2_with (go_at_call 54; refine Sto.out ?_)
  refine Sto.mk ((pr.out _).mono ?_)
  rintro e w1 ⟨rfl, hb1⟩
  have F1 : Hid (FW i W w1) := (F0.out _).trans (FW.of hb1 (by simp; omega))
  have X1 : Hid (WB w1 i A) := (X0.out _).below hb1
  clear hb1
  go_wp2_with (go_at_call 52; refine Sto.out ?_)
  refine Sto.mk ((put_all S A _ i X1.out hA'.out).mono ?_)
  rintro e w2 hw
  replace hw : WO i A (bl S) _ e w2 := hw
  have K : Hid (WO i A (jtx (n + 1) ((⟨3, fl, ng, dg, ex, bt, tx, nm⟩, l) : VT (n + 1))) W e w2) := by show WO _ _ _ _ _ _; rw [hj.out, ← hSb.out]; exact WO.base F1.out hw
  rcases hw.two with rfl | rfl
  · clear hw
    go_wp2_with fail
    go_end0
    exact K.out
  · clear hw
    go_wp2_with fail
    exact ⟨rfl, K.out⟩
set_option maxHeartbeats 2000000 in
set_option maxRecDepth 100000 in
theorem jval_4 (n : Nat) (vo : ValOk n) (h : Hd) (l : List (VT n)) (ns ls : Value) (w0 W : World) (i : Nat) (A : List UInt8) (hc : Vc (n + 1) ((h, l) : VT (n + 1)) ns ls w0 i W) (hk : h.kind = 4) (hW : WB W i A) (hA : A.length ≤ 65536) :
    Calls Tryz.prog 34 #[.pointer (some ⟨i, 0, none⟩), .agg (vals h ns ls)] W fun e w' => WO i A (jtx (n + 1) ((h, l) : VT (n + 1))) W e w' := by
  have hiW := hW.lt
  have hloi := hc.lo
  obtain ⟨al, cl, rfl, hl1, hl2⟩ := hc.rd.len
  obtain ⟨an, cn, rfl, hn1, hn2⟩ := hc.rd.1.len
  have X0 := hide (fun o => hW.below (below_al (o := o) (Below.refl W.heap.size W)))
  have F0 : Hid (∀ o, FW i W (W.alloc o)) := fun o => FW.al (FW.refl _ _) hiW
  have B0 : Hid (∀ o, Below w0.heap.size w0 (W.alloc o)) := fun o => hc.be.trans ((below_al (Below.refl W.heap.size W)).mono hc.be.size)
  have hW' := hide hW
  have hA' := hide hA
  have hc' := hide hc
  have tz := hide hc.vo.2.1.1
  have hj := hide (show jtx (n + 1) ((h, l) : VT (n + 1)) = nmd dFloat (bl (fhexS h.bits.toNat)) by
    show (if h.kind = 1 then _ else _) = _
    rw [if_neg (show ¬ h.kind = 1 by omega), if_neg (show ¬ h.kind = 2 by omega), if_neg (show ¬ h.kind = 3 by omega), if_pos hk]
    first | done | rfl)
  have hR := hc.vo.2.2
  have hb1 : 0 ≤ h.bits := hR.1
  have hb2 : h.bits < 18446744073709551616 := hR.2.1
  obtain ⟨bn, hbn⟩ : ∃ bn : Nat, h.bits = (bn : Int) := ⟨h.bits.toNat, by omega⟩
  have hbt := hide (show h.bits.toNat = bn by omega)
  have fx := hide (fun o => fhex_any bn (W.alloc o) (by omega))
  have hbn' := hide hbn
  clear hR hb1 hb2
  obtain ⟨kd, fl, ng, dg, ex, bt, tx, nm⟩ := h
  simp only at hk hj tz hbn
  subst hk
  clear vo hc hW hA
  show Calls _ _ #[_, .agg #[.int .i64 4, .bool fl, .bool ng, .string dg, .int .i64 ex, .int .u64 bt, .string tx, .slice an nm.length cn, .slice al l.length cl]] _ _
  subst hbn
  go_enter Tryz.func34, Tryz.ntmps34
  obtain ⟨S, hS⟩ : ∃ S, fhexS bn = S := ⟨_, rfl⟩
  have hSb : Hid (fhexS bn = S) := hS
  rw [hS] at fx
  clear hS
  go_wp2_with (go_at_call 56; refine Sto.out ?_)
  refine Sto.mk ((fx.out _).mono ?_)
  rintro e w1 ⟨rfl, hb1⟩
  have F1 : Hid (FW i W w1) := (F0.out _).trans (FW.of hb1 (by simp; omega))
  have X1 : Hid (WB w1 i A) := (X0.out _).below hb1
  clear hb1
  go_wp2_with (go_at_call 55; refine Sto.out ?_)
  refine Sto.mk ((named_any ⟨#[36, 102, 108, 111, 97, 116]⟩ S A _ i X1.out hA'.out (by decide) (by rw [← hSb.out, ← bl_length]; simp [fhexS, bl, strOfNums]; rw [flowL_len]; omega)).mono ?_)
  rintro e w2 hw
  replace hw : WO i A (nmd dFloat (bl S)) _ e w2 := hw
  have K : Hid (WO i A (jtx (n + 1) ((⟨4, fl, ng, dg, ex, bn, tx, nm⟩, l) : VT (n + 1))) W e w2) := by show WO _ _ _ _ _ _; rw [hj.out]; show WO i A (nmd dFloat (bl (fhexS (Int.toNat (bn : Int))))) W e w2; rw [Int.toNat_natCast, hSb.out]; exact WO.base F1.out hw
  rcases hw.two with rfl | rfl
  · clear hw
    go_wp2_with fail
    go_end0
    exact K.out
  · clear hw
    go_wp2_with fail
    exact ⟨rfl, K.out⟩
set_option maxHeartbeats 2000000 in
set_option maxRecDepth 100000 in
theorem jval_5 (n : Nat) (vo : ValOk n) (h : Hd) (l : List (VT n)) (ns ls : Value) (w0 W : World) (i : Nat) (A : List UInt8) (hc : Vc (n + 1) ((h, l) : VT (n + 1)) ns ls w0 i W) (hk : h.kind = 5) (hW : WB W i A) (hA : A.length ≤ 65536) :
    Calls Tryz.prog 34 #[.pointer (some ⟨i, 0, none⟩), .agg (vals h ns ls)] W fun e w' => WO i A (jtx (n + 1) ((h, l) : VT (n + 1))) W e w' := by
  have hiW := hW.lt
  have hloi := hc.lo
  obtain ⟨al, cl, rfl, hl1, hl2⟩ := hc.rd.len
  obtain ⟨an, cn, rfl, hn1, hn2⟩ := hc.rd.1.len
  have X0 := hide (fun o => hW.below (below_al (o := o) (Below.refl W.heap.size W)))
  have F0 : Hid (∀ o, FW i W (W.alloc o)) := fun o => FW.al (FW.refl _ _) hiW
  have B0 : Hid (∀ o, Below w0.heap.size w0 (W.alloc o)) := fun o => hc.be.trans ((below_al (Below.refl W.heap.size W)).mono hc.be.size)
  have hW' := hide hW
  have hA' := hide hA
  have hc' := hide hc
  have tz := hide hc.vo.2.1.1
  have hj := hide (show jtx (n + 1) ((h, l) : VT (n + 1)) = quo (bl h.text) by
    show (if h.kind = 1 then _ else _) = _
    rw [if_neg (show ¬ h.kind = 1 by omega), if_neg (show ¬ h.kind = 2 by omega), if_neg (show ¬ h.kind = 3 by omega), if_neg (show ¬ h.kind = 4 by omega), if_pos hk]
    first | done | rfl)
  obtain ⟨kd, fl, ng, dg, ex, bt, tx, nm⟩ := h
  simp only at hk hj tz
  subst hk
  clear vo hc hW hA
  show Calls _ _ #[_, .agg #[.int .i64 5, .bool fl, .bool ng, .string dg, .int .i64 ex, .int .u64 bt, .string tx, .slice an nm.length cn, .slice al l.length cl]] _ _
  go_enter Tryz.func34, Tryz.ntmps34
  go_wp2_with (go_at_call 57; refine Sto.out ?_)
  refine Sto.mk ((text_any tx A _ i (X0.out _) hA'.out (by have := tz.out; have h2 : (tx.size : Int) ≤ 4096 := this; omega)).mono ?_)
  rintro e w2 hw
  replace hw : WO i A (quo (bl tx)) _ e w2 := hw
  have K : Hid (WO i A (jtx (n + 1) ((⟨5, fl, ng, dg, ex, bt, tx, nm⟩, l) : VT (n + 1))) W e w2) := by show WO _ _ _ _ _ _; rw [hj.out]; exact WO.base (F0.out _) hw
  rcases hw.two with rfl | rfl
  · clear hw
    go_wp2_with fail
    go_end0
    exact K.out
  · clear hw
    go_wp2_with fail
    exact ⟨rfl, K.out⟩
set_option maxHeartbeats 2000000 in
set_option maxRecDepth 100000 in
theorem jval_6 (n : Nat) (vo : ValOk n) (h : Hd) (l : List (VT n)) (ns ls : Value) (w0 W : World) (i : Nat) (A : List UInt8) (hc : Vc (n + 1) ((h, l) : VT (n + 1)) ns ls w0 i W) (hk : h.kind = 6) (hW : WB W i A) (hA : A.length ≤ 65536) :
    Calls Tryz.prog 34 #[.pointer (some ⟨i, 0, none⟩), .agg (vals h ns ls)] W fun e w' => WO i A (jtx (n + 1) ((h, l) : VT (n + 1))) W e w' := by
  have hiW := hW.lt
  have hloi := hc.lo
  obtain ⟨al, cl, rfl, hl1, hl2⟩ := hc.rd.len
  obtain ⟨an, cn, rfl, hn1, hn2⟩ := hc.rd.1.len
  have X0 := hide (fun o => hW.below (below_al (o := o) (Below.refl W.heap.size W)))
  have F0 : Hid (∀ o, FW i W (W.alloc o)) := fun o => FW.al (FW.refl _ _) hiW
  have B0 : Hid (∀ o, Below w0.heap.size w0 (W.alloc o)) := fun o => hc.be.trans ((below_al (Below.refl W.heap.size W)).mono hc.be.size)
  have hW' := hide hW
  have hA' := hide hA
  have hc' := hide hc
  have tz := hide hc.vo.2.1.1
  have hj := hide (show jtx (n + 1) ((h, l) : VT (n + 1)) = nmd dBytes (hexL (bl h.text)) by
    show (if h.kind = 1 then _ else _) = _
    rw [if_neg (show ¬ h.kind = 1 by omega), if_neg (show ¬ h.kind = 2 by omega), if_neg (show ¬ h.kind = 3 by omega), if_neg (show ¬ h.kind = 4 by omega), if_neg (show ¬ h.kind = 5 by omega), if_pos hk]
    first | done | rfl)
  obtain ⟨kd, fl, ng, dg, ex, bt, tx, nm⟩ := h
  simp only at hk hj tz
  subst hk
  clear vo hc hW hA
  show Calls _ _ #[_, .agg #[.int .i64 6, .bool fl, .bool ng, .string dg, .int .i64 ex, .int .u64 bt, .string tx, .slice an nm.length cn, .slice al l.length cl]] _ _
  go_enter Tryz.func34, Tryz.ntmps34
  have tz2 : (tx.size : Int) ≤ 4096 := tz.out
  have jx := hide (fun o => jhex_any tx (W.alloc o) (by omega))
  have hz6 := hide (show (hexL (bl tx)).length ≤ 8192 by rw [hexL_len, bl_length]; omega)
  clear tz2
  obtain ⟨S, hS⟩ : ∃ S, mkB (hexL (bl tx)) = S := ⟨_, rfl⟩
  have hSb : Hid (bl S = hexL (bl tx)) := by show _ = _; rw [← hS]; rfl
  rw [hS] at jx
  clear hS
  go_wp2_with (go_at_call 58; refine Sto.out ?_)
  refine Sto.mk ((jx.out _).mono ?_)
  rintro e w1 ⟨rfl, hb1⟩
  have F1 : Hid (FW i W w1) := (F0.out _).trans (FW.of hb1 (by simp; omega))
  have X1 : Hid (WB w1 i A) := (X0.out _).below hb1
  clear hb1
  go_wp2_with (go_at_call 55; refine Sto.out ?_)
  refine Sto.mk ((named_any ⟨#[36, 98, 121, 116, 101, 115]⟩ S A _ i X1.out hA'.out (by decide) (by rw [← bl_length, hSb.out]; have := hz6.out; omega)).mono ?_)
  rintro e w2 hw
  replace hw : WO i A (nmd dBytes (bl S)) _ e w2 := hw
  have K : Hid (WO i A (jtx (n + 1) ((⟨6, fl, ng, dg, ex, bt, tx, nm⟩, l) : VT (n + 1))) W e w2) := by show WO _ _ _ _ _ _; rw [hj.out, ← hSb.out]; exact WO.base F1.out hw
  rcases hw.two with rfl | rfl
  · clear hw
    go_wp2_with fail
    go_end0
    exact K.out
  · clear hw
    go_wp2_with fail
    exact ⟨rfl, K.out⟩
set_option maxHeartbeats 2000000 in
set_option maxRecDepth 100000 in
theorem jval_7 (n : Nat) (vo : ValOk n) (h : Hd) (l : List (VT n)) (ns ls : Value) (w0 W : World) (i : Nat) (A : List UInt8) (hc : Vc (n + 1) ((h, l) : VT (n + 1)) ns ls w0 i W) (hk : h.kind = 7) (hW : WB W i A) (hA : A.length ≤ 65536) :
    Calls Tryz.prog 34 #[.pointer (some ⟨i, 0, none⟩), .agg (vals h ns ls)] W fun e w' => WO i A (jtx (n + 1) ((h, l) : VT (n + 1))) W e w' := by
  have hiW := hW.lt
  have hloi := hc.lo
  obtain ⟨al, cl, rfl, hl1, hl2⟩ := hc.rd.len
  obtain ⟨an, cn, rfl, hn1, hn2⟩ := hc.rd.1.len
  have X0 := hide (fun o => hW.below (below_al (o := o) (Below.refl W.heap.size W)))
  have F0 : Hid (∀ o, FW i W (W.alloc o)) := fun o => FW.al (FW.refl _ _) hiW
  have B0 : Hid (∀ o, Below w0.heap.size w0 (W.alloc o)) := fun o => hc.be.trans ((below_al (Below.refl W.heap.size W)).mono hc.be.size)
  have hW' := hide hW
  have hA' := hide hA
  have hc' := hide hc
  have tz := hide hc.vo.2.1.1
  have hj := hide (show jtx (n + 1) ((h, l) : VT (n + 1)) = [91] ++ (jel n l l.length ++ [93]) by
    show (if h.kind = 1 then _ else _) = _
    rw [if_neg (show ¬ h.kind = 1 by omega), if_neg (show ¬ h.kind = 2 by omega), if_neg (show ¬ h.kind = 3 by omega), if_neg (show ¬ h.kind = 4 by omega), if_neg (show ¬ h.kind = 5 by omega), if_neg (show ¬ h.kind = 6 by omega), if_pos hk]
    first | done | rfl)
  have jl := hide (fun o => jlist_any n vo h l _ _ w0 (W.alloc o) i A ⟨hc.rd, hc.vo, hc.lo, B0.out o, hc.tab⟩ (X0.out o) hA)
  obtain ⟨kd, fl, ng, dg, ex, bt, tx, nm⟩ := h
  simp only at hk hj tz
  subst hk
  clear vo hc hW hA
  show Calls _ _ #[_, .agg #[.int .i64 7, .bool fl, .bool ng, .string dg, .int .i64 ex, .int .u64 bt, .string tx, .slice an nm.length cn, .slice al l.length cl]] _ _
  go_enter Tryz.func34, Tryz.ntmps34
  go_wp2_with (go_at_call 59; refine Sto.out ?_)
  refine Sto.mk ((jl.out _).mono ?_)
  rintro e w2 hw
  replace hw : WO i A ([91] ++ (jel n l l.length ++ [93])) _ e w2 := hw
  have K : Hid (WO i A (jtx (n + 1) ((⟨7, fl, ng, dg, ex, bt, tx, nm⟩, l) : VT (n + 1))) W e w2) := by show WO _ _ _ _ _ _; rw [hj.out]; exact WO.base (F0.out _) hw
  rcases hw.two with rfl | rfl
  · clear hw
    go_wp2_with fail
    go_end0
    exact K.out
  · clear hw
    go_wp2_with fail
    exact ⟨rfl, K.out⟩
set_option maxHeartbeats 2000000 in
set_option maxRecDepth 100000 in
theorem jval_8 (n : Nat) (vo : ValOk n) (h : Hd) (l : List (VT n)) (ns ls : Value) (w0 W : World) (i : Nat) (A : List UInt8) (hc : Vc (n + 1) ((h, l) : VT (n + 1)) ns ls w0 i W) (hk : h.kind = 8) (hW : WB W i A) (hA : A.length ≤ 65536) :
    Calls Tryz.prog 34 #[.pointer (some ⟨i, 0, none⟩), .agg (vals h ns ls)] W fun e w' => WO i A (jtx (n + 1) ((h, l) : VT (n + 1))) W e w' := by
  have hiW := hW.lt
  have hloi := hc.lo
  obtain ⟨al, cl, rfl, hl1, hl2⟩ := hc.rd.len
  obtain ⟨an, cn, rfl, hn1, hn2⟩ := hc.rd.1.len
  have X0 := hide (fun o => hW.below (below_al (o := o) (Below.refl W.heap.size W)))
  have F0 : Hid (∀ o, FW i W (W.alloc o)) := fun o => FW.al (FW.refl _ _) hiW
  have B0 : Hid (∀ o, Below w0.heap.size w0 (W.alloc o)) := fun o => hc.be.trans ((below_al (Below.refl W.heap.size W)).mono hc.be.size)
  have hW' := hide hW
  have hA' := hide hA
  have hc' := hide hc
  have tz := hide hc.vo.2.1.1
  have hj := hide (show jtx (n + 1) ((h, l) : VT (n + 1)) = [123] ++ (jrc n h.names l l.length ++ [125]) by
    show (if h.kind = 1 then _ else _) = _
    rw [if_neg (show ¬ h.kind = 1 by omega), if_neg (show ¬ h.kind = 2 by omega), if_neg (show ¬ h.kind = 3 by omega), if_neg (show ¬ h.kind = 4 by omega), if_neg (show ¬ h.kind = 5 by omega), if_neg (show ¬ h.kind = 6 by omega), if_neg (show ¬ h.kind = 7 by omega), if_pos hk]
    first | done | rfl)
  have jr := hide (fun o => jrec_any n vo h l _ _ w0 (W.alloc o) i A ⟨hc.rd, hc.vo, hc.lo, B0.out o, hc.tab⟩ hk (X0.out o) hA)
  simp only [vals] at jr
  obtain ⟨kd, fl, ng, dg, ex, bt, tx, nm⟩ := h
  simp only at hk hj tz
  subst hk
  clear vo hc hW hA
  show Calls _ _ #[_, .agg #[.int .i64 8, .bool fl, .bool ng, .string dg, .int .i64 ex, .int .u64 bt, .string tx, .slice an nm.length cn, .slice al l.length cl]] _ _
  go_enter Tryz.func34, Tryz.ntmps34
  go_wp2_with (go_at_call 60; refine Sto.out ?_)
  refine Sto.mk ((jr.out _).mono ?_)
  rintro e w2 hw
  replace hw : WO i A ([123] ++ (jrc n nm l l.length ++ [125])) _ e w2 := hw
  have K : Hid (WO i A (jtx (n + 1) ((⟨8, fl, ng, dg, ex, bt, tx, nm⟩, l) : VT (n + 1))) W e w2) := by show WO _ _ _ _ _ _; rw [hj.out]; exact WO.base (F0.out _) hw
  rcases hw.two with rfl | rfl
  · clear hw
    go_wp2_with fail
    go_end0
    exact K.out
  · clear hw
    go_wp2_with fail
    exact ⟨rfl, K.out⟩
end Go.Proofs.YtoaacfhjejmbnaaGreatDoor
