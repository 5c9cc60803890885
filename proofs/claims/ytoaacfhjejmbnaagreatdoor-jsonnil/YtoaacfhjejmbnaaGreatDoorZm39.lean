/- Merged by program: KxFeed, JiRec. -/
import Derived.Test.YtoaacfhjejmbnaaGreatDoorZm38
import Derived.Test.YtoaacfhjejmbnaaGreatDoorZm32
/- json's Reader: Feed's closure walked. -/
namespace Go.Proofs.YtoaacfhjejmbnaaGreatDoor
open Go.RowKit
set_option linter.unusedSimpArgs false
set_option linter.unusedVariables false
/-- Bytes as they are handed in: v reads as l, in a block that the reader leaves alone. -/
structure SB (W : World) (lo : Nat) (m : Mv) (v : Value) (l : List UInt8) : Prop where
  shape : ∃ a c, v = .slice a l.length c
  len : l.length ≤ 281474976710656
  rd : 0 < l.length → ∃ b o c, v = .slice (some ⟨b, o, none⟩) l.length c ∧ (∀ j (h : j < l.length), W.cell? ⟨b, o + j, none⟩ = some (.int .u8 l[j].toNat)) ∧ (b < lo ∨ (NoB m b ∧ ∃ c f, W.heap[b]? = some (.cells c 5 f)))
section
variable {W W1 W2 : World} {r : Nat} {g : Gv} {m m1 : Mv} {st : St}
theorem RF.blk (h : RF g m W W1) {k T : Nat} {c : Array Value} {f : Nat × Nat} (hk : W.heap[k]? = some (.cells c T f)) (n : NoB m k) (t1 : T ≠ 83) (t2 : T ≠ 109) (t3 : T ≠ 136) (t4 : T ≠ 112) (t5 : T ≠ 184) (t6 : T ≠ 86) : W1.heap[k]? = some (.cells c T f) :=
  h.keep k c T f hk t1 t2 t3 t4 t5 t6 n.1 n.2.1 n.2.2
theorem SB.move {v : Value} {l : List UInt8} (h : SB W g.lo m v l) (hf : RF g m W W1) (ho : OM W m m1) : SB W1 g.lo m1 v l := by
  refine ⟨h.shape, h.len, fun hl => ?_⟩
  obtain ⟨b, o, c, h1, h2, h3⟩ := h.rd hl
  have hb : W1.heap[b]? = W.heap[b]? := by
    rcases h3 with h3 | ⟨h3, c', f, h4⟩
    · exact hf.below.block b h3
    · rw [hf.blk h4 h3 (by decide) (by decide) (by decide) (by decide) (by decide) (by decide), h4]
  refine ⟨b, o, c, h1, fun j hj => ?_, ?_⟩
  · rw [← h2 j hj]
    exact World.cell?_of_block (w := W) hb
  · rcases h3 with h3 | ⟨h3, c', f, h4⟩
    · exact Or.inl h3
    · exact Or.inr ⟨h3.om ho (Array.getElem?_eq_some_iff.1 h4).1, c', f, hb.trans h4⟩
/-- A box beside the reader. -/
def Bo (W : World) (m : Mv) (k : Nat) (v : Value) (T : TypeId) : Prop := W.heap[k]? = some (.cells #[v] T (0, 0)) ∧ NoB m k
theorem Bo.move {k T : Nat} {v : Value} (h : Bo W m k v T) (hf : RF g m W W1) (ho : OM W m m1) (t1 : T ≠ 83) (t2 : T ≠ 109) (t3 : T ≠ 136) (t4 : T ≠ 112) (t5 : T ≠ 184) (t6 : T ≠ 86) : Bo W1 m1 k v T :=
  ⟨hf.blk h.1 h.2 t1 t2 t3 t4 t5 t6, h.2.om ho (Array.getElem?_eq_some_iff.1 h.1).1⟩
theorem Bo.cell {k T : Nat} {v : Value} (h : Bo W m k v T) : W.cell? ⟨k, 0, none⟩ = some v := by simp [World.cell?, h.1]
theorem Bo.frz {k T : Nat} {v : Value} (h : Bo W m k v T) : W.frozen? ⟨k, 0, none⟩ = false := by simp [World.frozen?, h.1]
set_option maxHeartbeats 4000000 in
set_option maxRecDepth 100000 in
theorem feed1_r (h : RM W r g m st) (hw : Wf st) {p q : Nat} {v : Value} {l : List UInt8} (hp : Bo W m p v 32) (hq : Bo W m q (.pointer (some ⟨r, 0, none⟩)) 48) (hs : SB W g.lo m v l) :
    Calls Tryz.prog 42 #[.pointer (some ⟨p, 0, none⟩), .pointer (some ⟨q, 0, none⟩)] W fun e w' => RP W r g m (feedS st l) e w' := by
  have ml : maxLen = 9223372036854775807 := rfl
  obtain ⟨va, vc, hv⟩ := hs.shape
  have H := hide h
  have P := hide hp
  have Q := hide hq
  have S := hide hs
  have cp := hp.cell
  have cq := hq.cell
  have hl := hs.len
  rw [hv] at cp
  clear h hp hq hs
  go_enter Tryz.func42, Tryz.ntmps42
  go_wp2
  go_loopw [6] (fun i wr => ∃ (k : Nat) (mk : Mv) (sk : St), k ≤ l.length ∧ i = .int .i64 k ∧ Hid (feedS st (l.take k) = .inr sk) ∧ Hid (RM wr r g mk sk) ∧ Hid (RF g m W wr) ∧ Hid (OM W m mk)) (fun i _ => l.length - (intOf i).toNat)
  case atStart => exact ⟨0, m, st, by omega, rfl, rfl, H.out, RF.refl, OM.refl _ _⟩
  case round =>
    obtain ⟨k, mk, sk, hk, rfl, hf, hm, hF, hO⟩ := hrel
    have wk := feedS_wf hw hf.out
    have Pk := P.out.move hF.out hO.out (by decide) (by decide) (by decide) (by decide) (by decide) (by decide)
    have Qk := Q.out.move hF.out hO.out (by decide) (by decide) (by decide) (by decide) (by decide) (by decide)
    have Sk := S.out.move hF.out hO.out
    have kp := Pk.cell
    have kq := Qk.cell
    rw [hv] at kp
    clear cp cq Pk Qk
    by_cases hlt : k < l.length
    · obtain ⟨b, o, c, s1, s2, _⟩ := Sk.rd (by omega)
      rw [hv] at s1
      cases s1
      have hc := s2 k hlt
      have hlt' : (k : Int) < l.length := by omega
      have TK := hide (take_r hm.out l[k] wk.dig wk.wk.k1 wk.wk.k11 (by have := wk.n; have := wk.tot; omega) (by have := wk.tot; omega))
      have hsn : Hid (feedS st (l.take (k + 1)) = takeS sk l[k]) := by
        show _ = _
        rw [List.take_succ_eq_append_getElem hlt, feedS_snoc, hf.out]; rfl
      have hwhole : Hid (∀ E, takeS sk l[k] = .inl E → feedS st l = .inl E) := fun E hE => by
        rw [← List.take_append_drop (k + 1) l, feedS_app, hsn.out, hE]; rfl
      obtain ⟨ch, hch⟩ : ∃ ch, l[k] = ch := ⟨_, rfl⟩
      rw [hch] at TK hsn hwhole hc
      clear hch s2 Sk wk
      cases ht : takeS sk ch with
      | inl E =>
        rw [ht] at TK
        have hE := hide (hwhole.out E ht)
        clear hwhole hsn ht
        go_wp2_with (go_at_call 43; refine TK.out.mono ?_; rintro q w1 ⟨hp1, rfl, hp2⟩; have F1 := hide hp1; have M1 := hide hp2; clear hp1 hp2)
        refine ⟨rfl, ?_⟩
        show RP W r g m (feedS st l) _ _
        rw [hE.out]
        exact RP.trans hF.out hO.out ⟨F1.out, rfl, M1.out⟩
      | inr x =>
        rw [ht] at TK hsn
        clear hwhole ht
        go_wp2_with (go_at_call 43; refine TK.out.mono ?_; rintro q w1 ⟨hp1, rfl, m1, hp2, hp3⟩; have F1 := hide hp1; have M1 := hide hp2; have O1 := hide hp3; clear hp1 hp2 hp3)
        refine ⟨⟨k + 1, m1, x, by omega, by go_num, hsn.out, M1.out, hF.out.trans hO.out F1.out, hO.out.trans O1.out hF.out.below.size⟩, by simp [intOf]; omega⟩
    · have hke : k = l.length := by omega
      have hff := hf.out
      rw [hke, List.take_length] at hff
      have hff' := hide hff
      have hge : decide ((k : Int) < (l.length : Int)) = false := by simp; omega
      clear hff Sk wk
      go_wp2
      go_end0
      show RP W r g m (feedS st l) _ _
      rw [hff'.out]
      exact ⟨hF.out, rfl, mk, hm.out, hO.out⟩
end
end Go.Proofs.YtoaacfhjejmbnaaGreatDoor
/- json's writer: record: walked. -/
namespace Go.Proofs.YtoaacfhjejmbnaaGreatDoor
open Go.RowKit
set_option linter.unusedSimpArgs false
set_option linter.unusedVariables false
theorem pre_app {T V U X : List UInt8} (h : T ++ V <+: U) : [123] ++ T <+: [123] ++ (U ++ X) := by
  obtain ⟨t, ht⟩ := h
  exact ⟨V ++ t ++ X, by rw [← ht]; simp⟩
set_option maxHeartbeats 4000000 in
set_option maxRecDepth 100000 in
theorem jrec_any (n : Nat) (vo : ValOk n) (h : Hd) (l : List (VT n)) (ns ls : Value) (w0 W : World) (i : Nat) (A : List UInt8) (hc : Vc (n + 1) ((h, l) : VT (n + 1)) ns ls w0 i W) (h8 : h.kind = 8) (hW : WB W i A) (hA : A.length ≤ 65536) :
    Calls Tryz.prog 60 #[.pointer (some ⟨i, 0, none⟩), .agg (vals h ns ls)] W fun e w' => WO i A ([123] ++ (jrc n h.names l l.length ++ [125])) W e w' := by
  have hp := hide (fun s A W (h : WB W i A) (hA : A.length ≤ 65536) (hs : s.size ≤ 281474976710656) => put_any s A W i h hA hs)
  have ht := hide (fun s A W (h : WB W i A) (hA : A.length ≤ 65536) (hs : s.size ≤ 281474976710656) => text_any s A W i h hA hs)
  have hcm := hide (fun k A W (h : WB W i A) (hA : A.length ≤ 65536) => comma_any k A W i h hA)
  have hhp := hide hasp_any
  have vo' := hide vo
  have hc' := hide hc
  have hW' := hide hW
  have hA' := hide hA
  obtain ⟨al, cl, rfl, hl1, hl2⟩ := hc.rd.len
  obtain ⟨an, cn, rfl, hn1, hn2⟩ := hc.rd.1.len
  have hl256 : l.length ≤ 256 := hc.vo.2.1.2.1
  have hnl : h.names.length = l.length := (hc.vo.1.2.1.2.2.1 h8).1
  have hnl' := hide hnl
  have hnm := hide hc.vo.2.1.2.2.1
  have hloi := hc.lo
  have hiW := hW.lt
  simp only at hl1 hl2 hn1 hn2
  have V0 := hide (bx_new W h (.slice an h.names.length cn) (.slice al l.length cl))
  have X0 := hide (fun o => hW.below (below_al (o := o) (Below.refl W.heap.size W)))
  have N0 : Hid (∀ o, NB W.heap.size (W.alloc o) i) := fun o => NB.new hW
  have F0 : Hid (∀ o, FW i W (W.alloc o)) := fun o => FW.al (FW.refl _ _) hiW
  clear vo hc hW hA h8 hnl
  show Calls _ _ #[_, .agg #[.int .i64 h.kind, .bool h.flag, .bool h.neg, .string h.dig, .int .i64 h.exp, .int .u64 h.bits, .string h.text, .slice an h.names.length cn, .slice al l.length cl]] _ _
  go_enter Tryz.func60, Tryz.ntmps60
  go_wp2_with (go_at_call 52; refine Sto.out ?_)
  refine Sto.mk ((hp.out _ A _ (X0.out _) hA'.out (by decide)).mono ?_)
  rintro e w1 hw1
  replace hw1 : WO i A [123] _ e w1 := hw1
  have kp := hide (hw1.1.kept (N0.out _))
  have hw2 := WO.step (A := A) (T := []) (F0.out _) (by simpa using hw1)
  clear hw1
  rcases hw2 with ⟨rfl, g1, g2, g3⟩ | ⟨rfl, g1, g2⟩
  · have F1 := hide g1
    have X1 : Hid (WB w1 i (A ++ [123])) := g2
    have L1 : Hid ((A ++ [123]).length ≤ 65536) := g3
    have V1 : Hid (Bx w1 W.heap.size h (.slice an h.names.length cn) (.slice al l.length cl)) := V0.out.nb (i := i) kp.out.1
    have N1 : Hid (NB W.heap.size w1 i) := kp.out.2
    obtain ⟨v0, v1, v2, v3, v4, v5, v6, v7, v8⟩ := V1.out.cells
    clear g1 g2 g3 kp
    go_wp2_with fail
    go_loopw [11] (fun j wr => ∃ k : Nat, j = .int .i64 k ∧ k ≤ h.names.length ∧ Hid (FW i W wr ∧ WB wr i (A ++ ([123] ++ jrc n h.names l k)) ∧ (A ++ ([123] ++ jrc n h.names l k)).length ≤ 65536 ∧ Bx wr W.heap.size h (.slice an h.names.length cn) (.slice al l.length cl) ∧ NB W.heap.size wr i)) (fun j _ => h.names.length - (intOf j).toNat)
    case atStart => exact ⟨0, rfl, Nat.zero_le _, hide ⟨F1.out, by simpa [jrc] using X1.out, by have := L1.out; simpa [jrc] using this, V1.out, N1.out⟩⟩
    case round =>
      obtain ⟨k, rfl, hk, HH⟩ := hrel
      obtain ⟨hF, hX, hL, hV, hN⟩ := HH.out
      have FR := hide hF
      have XR := hide hX
      have LR := hide hL
      have VR := hide hV
      have NR := hide hN
      have hiw := hX.lt
      clear HH hF hX hL hV hN F1 X1 L1 V1 N1 v0 v1 v2 v3 v4 v5 v6 v7 v8
      by_cases hkn : k < h.names.length
      · have hkl : k < l.length := by have := hnl'.out; omega
        have hki : (k : Int) < (h.names.length : Int) := by omega
        have hkli : (k : Int) < (l.length : Int) := by omega
        obtain ⟨b, o, c, he, hbl, hlc, hcm2, ns', ls', hrg, hrd⟩ := hc'.out.rd.at k hkl
        have he' := Value.slice.inj he
        obtain ⟨rfl, _, rfl⟩ := he'
        clear he
        obtain ⟨bn, on, cn', hen, hbn, hln, hcn, hsn⟩ := hc'.out.rd.1.at k hkn
        have hen' := Value.slice.inj hen
        obtain ⟨rfl, _, rfl⟩ := hen'
        clear hen
        have hsn' := hide hsn
        obtain ⟨t, htt⟩ : ∃ t, h.names[k] = t := ⟨_, rfl⟩
        have hsn2 : Hid (w0.cell? ⟨bn, on + k, none⟩ = some (.string t)) := by show _ = _; rw [← htt]; exact hsn
        have htz := hide (show t.size ≤ 64 by rw [← htt]; exact hnm.out _ (List.getElem_mem hkn))
        have BR : Hid (Below w0.heap.size w0 wr) := hc'.out.be.trans (FR.out.1.mono hloi)
        have s0 : wr.cell? ⟨bn, on + k, none⟩ = some (.string t) := (BR.out.cell (p := ⟨bn, on + k, none⟩) hbn).trans hsn2.out
        obtain ⟨a1, m1, d1, a2, m2, d2, rfl, rfl⟩ := hrd.shape
        have hsu := hide (jrc_succ n h.names l k hkl hkn)
        rw [htt] at hsu
        have hpr := hide (jrc_le n h.names l (k := k + 1) (m := l.length) hkl)
        rw [hsu.out] at hpr
        have vk := hide (fun W (b : Below w0.heap.size w0 W) A (x : WB W i A) (a : A.length ≤ 65536) => vo'.out l[k] _ _ w0 W i A ⟨hrd, hc'.out.vo.kid k hkl, hloi, b, hc'.out.tab⟩ x a)
        obtain ⟨g, hg⟩ : ∃ g, vhd n l[k] = g := ⟨_, rfl⟩
        have hg2 : vhd n ((h, l) : VT (n + 1)).2[k] = g := hg
        rw [hg] at vk
        simp only [vals] at vk
        have HRG := hide hrg
        rw [hg2] at HRG
        have hbnw : bn < wr.heap.size := Nat.lt_of_lt_of_le hbn BR.out.size
        clear hrg hrd hg hg2 hsn hsn' htt
        go_wp2_with (go_at_call 93; refine Sto.out ?_)
        refine Sto.mk ((hcm.out k _ _ XR.out LR.out).mono ?_)
        rintro e w3 hw3
        have kp3 := hide (hw3.1.kept NR.out)
        have hw4 := WO.step (A := A) (T := [123] ++ jrc n h.names l k) FR.out hw3
        clear hw3 s0
        rcases hw4 with ⟨rfl, g1, g2, g3⟩ | ⟨rfl, g1, g2⟩
        · have F3 := hide g1
          have X3 := hide g2
          have L3 := hide g3
          have V3 := hide (VR.out.nb (i := i) kp3.out.1)
          have N3 := hide kp3.out.2
          clear g1 g2 g3 kp3
          by_cases hk0 : k = 0
          · have hpq := hide (hhp.out t w3 (by have := htz.out; omega))
            have dk : decide ((k : Int) = 0) = true := decide_eq_true (by omega)
            have dk2 : ((k : Int) == 0) = true := by simp; omega
            cases hq : (bl t).head? == some 36
            · rw [hq] at hpq
              have hSb := hide (show quo (bl t) = quo (nmD k (bl t)) by unfold nmD; rw [hq]; simp)
              have hSz := hide (show t.size ≤ 281474976710656 by have := htz.out; omega)
              have hk0' := hide hk0
              have hq' := hide hq
              clear hk0 hq
              go_wp2_with (go_at_call 94; refine Sto.out ?_)
              refine Sto.mk (hpq.out.mono ?_)
              rintro e w3' ⟨rfl, hw3'⟩
              subst w3'
              go_wp2_with (go_at_call 57; refine Sto.out ?_)
              refine Sto.mk ((ht.out t _ w3 X3.out L3.out hSz.out).mono ?_)
              rintro e w5 hw5
              rw [hSb.out] at hw5
              have kp5 := hide (hw5.1.kept N3.out)
              have hw6 := WO.step (A := A) (T := [123] ++ jrc n h.names l k ++ cmL k) F3.out hw5
              clear hw5
              rcases hw6 with ⟨rfl, g1, g2, g3⟩ | ⟨rfl, g1, g2⟩
              · have F5 := hide g1
                have X5 := hide g2
                have L5 := hide g3
                have V5 := hide (V3.out.nb (i := i) kp5.out.1)
                have N5 := hide kp5.out.2
                clear g1 g2 g3 kp5
                go_wp2_with (go_at_call 52; refine Sto.out ?_)
                refine Sto.mk ((hp.out _ _ w5 X5.out L5.out (by decide)).mono ?_)
                rintro e w7 hw7
                replace hw7 : WO i (A ++ ([123] ++ jrc n h.names l k ++ cmL k ++ quo (nmD k (bl t)))) [58] w5 e w7 := hw7
                have kp7 := hide (hw7.1.kept N5.out)
                have hw8 := WO.step (A := A) F5.out hw7
                clear hw7
                rcases hw8 with ⟨rfl, g1, g2, g3⟩ | ⟨rfl, g1, g2⟩
                · have F7 := hide g1
                  have X7 := hide g2
                  have L7 := hide g3
                  have V7 := hide (V5.out.nb (i := i) kp7.out.1)
                  have N7 := hide kp7.out.2
                  have B7 : Hid (Below w0.heap.size w0 w7) := hc'.out.be.trans (F7.out.1.mono hloi)
                  obtain ⟨v0, v1, v2, v3, v4, v5, v6, v7, v8⟩ := V7.out.cells
                  obtain ⟨e0, e1, e2, e3, e4, e5, e6, e7, e8⟩ := range9 (rangeAt_below HRG.out B7.out hbl)
                  clear g1 g2 g3 kp7
                  go_wp2_with (go_at_call 34; refine Sto.out ?_)
                  refine Sto.mk ((vk.out w7 B7.out _ X7.out L7.out).mono ?_)
                  rintro e w9 hw9
                  have kp9 := hide (hw9.1.kept N7.out)
                  have hw10 := WO.step (A := A) F7.out hw9
                  clear hw9 v0 v1 v2 v3 v4 v5 v6 v7 v8 e0 e1 e2 e3 e4 e5 e6 e7 e8
                  rcases hw10 with ⟨rfl, g1, g2, g3⟩ | ⟨rfl, g1, g2⟩
                  · have K : Hid (FW i W w9 ∧ WB w9 i (A ++ ([123] ++ jrc n h.names l (k + 1))) ∧ (A ++ ([123] ++ jrc n h.names l (k + 1))).length ≤ 65536 ∧ Bx w9 W.heap.size h (.slice (some ⟨bn, on, none⟩) h.names.length cn) (.slice (some ⟨b, o, none⟩) l.length cl) ∧ NB W.heap.size w9 i) := by
                      refine ⟨g1, ?_, ?_, V7.out.nb (i := i) kp9.out.1, kp9.out.2⟩
                      · rw [hsu.out]; simpa only [List.append_assoc] using g2
                      · rw [hsu.out]; simpa only [List.append_assoc] using g3
                    clear g1 g2 g3 kp9
                    go_wp2_with fail
                    exact ⟨⟨k + 1, by go_num, hkn, K⟩, by simp [intOf]; omega⟩
                  · have K := hide (WO.pre (A := A) (T := [123] ++ (jrc n h.names l k ++ (cmL k ++ (quo (nmD k (bl t)) ++ ([58] ++ jtx n l[k]))))) (U := [123] ++ (jrc n h.names l l.length ++ [125])) g1 (pre_app (V := []) (by simpa using hpr.out)) (by simpa only [List.append_assoc] using g2))
                    clear g1 g2
                    go_wp2_with fail
                    exact ⟨rfl, K.out⟩
                · have K := hide (WO.pre (A := A) (T := [123] ++ (jrc n h.names l k ++ (cmL k ++ (quo (nmD k (bl t)) ++ [58])))) (U := [123] ++ (jrc n h.names l l.length ++ [125])) g1 (pre_app (V := jtx n l[k]) (by simpa using hpr.out)) (by simpa only [List.append_assoc] using g2))
                  clear g1 g2
                  go_wp2_with fail
                  exact ⟨rfl, K.out⟩
              · have K := hide (WO.pre (A := A) (T := [123] ++ (jrc n h.names l k ++ (cmL k ++ quo (nmD k (bl t))))) (U := [123] ++ (jrc n h.names l l.length ++ [125])) g1 (pre_app (V := [58] ++ jtx n l[k]) (by simpa using hpr.out)) (by simpa only [List.append_assoc] using g2))
                clear g1 g2
                go_wp2_with fail
                exact ⟨rfl, K.out⟩
            · rw [hq] at hpq
              obtain ⟨S, hS⟩ : ∃ S, (⟨#[36]⟩ : ByteArray) ++ t = S := ⟨_, rfl⟩
              have hadd : ∀ w, (Op.stringOp .add ⟨#[36]⟩ t).run Tryz.prog w = .ok (.string S) w := fun w => jcat_run _ _ _ w hS (by have := htz.out; show 1 + t.size ≤ _; omega)
              have hbS : bl S = 36 :: bl t := by rw [← hS]; simp [bl]
              have hSb := hide (show quo (bl S) = quo (nmD k (bl t)) by unfold nmD; rw [hq, hbS, hk0]; rfl)
              have hSz := hide (show S.size ≤ 281474976710656 by rw [← bl_length, hbS]; simp only [List.length_cons, bl_length]; have := htz.out; omega)
              have hk0' := hide hk0
              have hq' := hide hq
              clear hk0 hq hS hbS
              go_wp2_with (go_at_call 94; refine Sto.out ?_)
              refine Sto.mk (hpq.out.mono ?_)
              rintro e w3' ⟨rfl, hw3'⟩
              subst w3'
              go_wp2_with (go_at_call 57; refine Sto.out ?_)
              refine Sto.mk ((ht.out S _ w3 X3.out L3.out hSz.out).mono ?_)
              rintro e w5 hw5
              rw [hSb.out] at hw5
              have kp5 := hide (hw5.1.kept N3.out)
              have hw6 := WO.step (A := A) (T := [123] ++ jrc n h.names l k ++ cmL k) F3.out hw5
              clear hw5
              rcases hw6 with ⟨rfl, g1, g2, g3⟩ | ⟨rfl, g1, g2⟩
              · have F5 := hide g1
                have X5 := hide g2
                have L5 := hide g3
                have V5 := hide (V3.out.nb (i := i) kp5.out.1)
                have N5 := hide kp5.out.2
                clear g1 g2 g3 kp5
                go_wp2_with (go_at_call 52; refine Sto.out ?_)
                refine Sto.mk ((hp.out _ _ w5 X5.out L5.out (by decide)).mono ?_)
                rintro e w7 hw7
                replace hw7 : WO i (A ++ ([123] ++ jrc n h.names l k ++ cmL k ++ quo (nmD k (bl t)))) [58] w5 e w7 := hw7
                have kp7 := hide (hw7.1.kept N5.out)
                have hw8 := WO.step (A := A) F5.out hw7
                clear hw7
                rcases hw8 with ⟨rfl, g1, g2, g3⟩ | ⟨rfl, g1, g2⟩
                · have F7 := hide g1
                  have X7 := hide g2
                  have L7 := hide g3
                  have V7 := hide (V5.out.nb (i := i) kp7.out.1)
                  have N7 := hide kp7.out.2
                  have B7 : Hid (Below w0.heap.size w0 w7) := hc'.out.be.trans (F7.out.1.mono hloi)
                  obtain ⟨v0, v1, v2, v3, v4, v5, v6, v7, v8⟩ := V7.out.cells
                  obtain ⟨e0, e1, e2, e3, e4, e5, e6, e7, e8⟩ := range9 (rangeAt_below HRG.out B7.out hbl)
                  clear g1 g2 g3 kp7
                  go_wp2_with (go_at_call 34; refine Sto.out ?_)
                  refine Sto.mk ((vk.out w7 B7.out _ X7.out L7.out).mono ?_)
                  rintro e w9 hw9
                  have kp9 := hide (hw9.1.kept N7.out)
                  have hw10 := WO.step (A := A) F7.out hw9
                  clear hw9 v0 v1 v2 v3 v4 v5 v6 v7 v8 e0 e1 e2 e3 e4 e5 e6 e7 e8
                  rcases hw10 with ⟨rfl, g1, g2, g3⟩ | ⟨rfl, g1, g2⟩
                  · have K : Hid (FW i W w9 ∧ WB w9 i (A ++ ([123] ++ jrc n h.names l (k + 1))) ∧ (A ++ ([123] ++ jrc n h.names l (k + 1))).length ≤ 65536 ∧ Bx w9 W.heap.size h (.slice (some ⟨bn, on, none⟩) h.names.length cn) (.slice (some ⟨b, o, none⟩) l.length cl) ∧ NB W.heap.size w9 i) := by
                      refine ⟨g1, ?_, ?_, V7.out.nb (i := i) kp9.out.1, kp9.out.2⟩
                      · rw [hsu.out]; simpa only [List.append_assoc] using g2
                      · rw [hsu.out]; simpa only [List.append_assoc] using g3
                    clear g1 g2 g3 kp9
                    go_wp2_with fail
                    exact ⟨⟨k + 1, by go_num, hkn, K⟩, by simp [intOf]; omega⟩
                  · have K := hide (WO.pre (A := A) (T := [123] ++ (jrc n h.names l k ++ (cmL k ++ (quo (nmD k (bl t)) ++ ([58] ++ jtx n l[k]))))) (U := [123] ++ (jrc n h.names l l.length ++ [125])) g1 (pre_app (V := []) (by simpa using hpr.out)) (by simpa only [List.append_assoc] using g2))
                    clear g1 g2
                    go_wp2_with fail
                    exact ⟨rfl, K.out⟩
                · have K := hide (WO.pre (A := A) (T := [123] ++ (jrc n h.names l k ++ (cmL k ++ (quo (nmD k (bl t)) ++ [58])))) (U := [123] ++ (jrc n h.names l l.length ++ [125])) g1 (pre_app (V := jtx n l[k]) (by simpa using hpr.out)) (by simpa only [List.append_assoc] using g2))
                  clear g1 g2
                  go_wp2_with fail
                  exact ⟨rfl, K.out⟩
              · have K := hide (WO.pre (A := A) (T := [123] ++ (jrc n h.names l k ++ (cmL k ++ quo (nmD k (bl t))))) (U := [123] ++ (jrc n h.names l l.length ++ [125])) g1 (pre_app (V := [58] ++ jtx n l[k]) (by simpa using hpr.out)) (by simpa only [List.append_assoc] using g2))
                clear g1 g2
                go_wp2_with fail
                exact ⟨rfl, K.out⟩
          · have dk : decide ((k : Int) = 0) = false := decide_eq_false (by omega)
            have dk2 : ((k : Int) == 0) = false := by simp; omega
            have hSb := hide (show quo (bl t) = quo (nmD k (bl t)) by unfold nmD; rw [show (k == 0) = false by simpa using hk0]; rfl)
            have hSz := hide (show t.size ≤ 281474976710656 by have := htz.out; omega)
            have hk0' := hide hk0
            clear hk0
            go_wp2_with (go_at_call 57; refine Sto.out ?_)
            refine Sto.mk ((ht.out t _ w3 X3.out L3.out hSz.out).mono ?_)
            rintro e w5 hw5
            rw [hSb.out] at hw5
            have kp5 := hide (hw5.1.kept N3.out)
            have hw6 := WO.step (A := A) (T := [123] ++ jrc n h.names l k ++ cmL k) F3.out hw5
            clear hw5
            rcases hw6 with ⟨rfl, g1, g2, g3⟩ | ⟨rfl, g1, g2⟩
            · have F5 := hide g1
              have X5 := hide g2
              have L5 := hide g3
              have V5 := hide (V3.out.nb (i := i) kp5.out.1)
              have N5 := hide kp5.out.2
              clear g1 g2 g3 kp5
              go_wp2_with (go_at_call 52; refine Sto.out ?_)
              refine Sto.mk ((hp.out _ _ w5 X5.out L5.out (by decide)).mono ?_)
              rintro e w7 hw7
              replace hw7 : WO i (A ++ ([123] ++ jrc n h.names l k ++ cmL k ++ quo (nmD k (bl t)))) [58] w5 e w7 := hw7
              have kp7 := hide (hw7.1.kept N5.out)
              have hw8 := WO.step (A := A) F5.out hw7
              clear hw7
              rcases hw8 with ⟨rfl, g1, g2, g3⟩ | ⟨rfl, g1, g2⟩
              · have F7 := hide g1
                have X7 := hide g2
                have L7 := hide g3
                have V7 := hide (V5.out.nb (i := i) kp7.out.1)
                have N7 := hide kp7.out.2
                have B7 : Hid (Below w0.heap.size w0 w7) := hc'.out.be.trans (F7.out.1.mono hloi)
                obtain ⟨v0, v1, v2, v3, v4, v5, v6, v7, v8⟩ := V7.out.cells
                obtain ⟨e0, e1, e2, e3, e4, e5, e6, e7, e8⟩ := range9 (rangeAt_below HRG.out B7.out hbl)
                clear g1 g2 g3 kp7
                go_wp2_with (go_at_call 34; refine Sto.out ?_)
                refine Sto.mk ((vk.out w7 B7.out _ X7.out L7.out).mono ?_)
                rintro e w9 hw9
                have kp9 := hide (hw9.1.kept N7.out)
                have hw10 := WO.step (A := A) F7.out hw9
                clear hw9 v0 v1 v2 v3 v4 v5 v6 v7 v8 e0 e1 e2 e3 e4 e5 e6 e7 e8
                rcases hw10 with ⟨rfl, g1, g2, g3⟩ | ⟨rfl, g1, g2⟩
                · have K : Hid (FW i W w9 ∧ WB w9 i (A ++ ([123] ++ jrc n h.names l (k + 1))) ∧ (A ++ ([123] ++ jrc n h.names l (k + 1))).length ≤ 65536 ∧ Bx w9 W.heap.size h (.slice (some ⟨bn, on, none⟩) h.names.length cn) (.slice (some ⟨b, o, none⟩) l.length cl) ∧ NB W.heap.size w9 i) := by
                    refine ⟨g1, ?_, ?_, V7.out.nb (i := i) kp9.out.1, kp9.out.2⟩
                    · rw [hsu.out]; simpa only [List.append_assoc] using g2
                    · rw [hsu.out]; simpa only [List.append_assoc] using g3
                  clear g1 g2 g3 kp9
                  go_wp2_with fail
                  exact ⟨⟨k + 1, by go_num, hkn, K⟩, by simp [intOf]; omega⟩
                · have K := hide (WO.pre (A := A) (T := [123] ++ (jrc n h.names l k ++ (cmL k ++ (quo (nmD k (bl t)) ++ ([58] ++ jtx n l[k]))))) (U := [123] ++ (jrc n h.names l l.length ++ [125])) g1 (pre_app (V := []) (by simpa using hpr.out)) (by simpa only [List.append_assoc] using g2))
                  clear g1 g2
                  go_wp2_with fail
                  exact ⟨rfl, K.out⟩
              · have K := hide (WO.pre (A := A) (T := [123] ++ (jrc n h.names l k ++ (cmL k ++ (quo (nmD k (bl t)) ++ [58])))) (U := [123] ++ (jrc n h.names l l.length ++ [125])) g1 (pre_app (V := jtx n l[k]) (by simpa using hpr.out)) (by simpa only [List.append_assoc] using g2))
                clear g1 g2
                go_wp2_with fail
                exact ⟨rfl, K.out⟩
            · have K := hide (WO.pre (A := A) (T := [123] ++ (jrc n h.names l k ++ (cmL k ++ quo (nmD k (bl t))))) (U := [123] ++ (jrc n h.names l l.length ++ [125])) g1 (pre_app (V := [58] ++ jtx n l[k]) (by simpa using hpr.out)) (by simpa only [List.append_assoc] using g2))
              clear g1 g2
              go_wp2_with fail
              exact ⟨rfl, K.out⟩
        · have K := hide (WO.pre (A := A) (T := [123] ++ jrc n h.names l k ++ cmL k) (U := [123] ++ (jrc n h.names l l.length ++ [125])) g1 (by
            have := hpr.out
            rw [List.append_assoc]
            exact pre_app (V := quo (nmD k (bl t)) ++ ([58] ++ jtx n l[k])) (by simpa using this)) g2)
          clear g1 g2
          go_wp2_with fail
          exact ⟨rfl, K.out⟩
      · have hki : ¬ ((k : Int) < (h.names.length : Int)) := by omega
        have hke : k = l.length := by have := hnl'.out; omega
        rw [hke] at XR LR
        have hke' := hide hke
        clear hke
        go_wp2_with (go_at_call 52; refine Sto.out ?_)
        refine Sto.mk ((hp.out _ _ wr XR.out LR.out (by decide)).mono ?_)
        rintro e w2 hw2
        replace hw2 : WO i (A ++ ([123] ++ jrc n h.names l l.length)) [125] wr e w2 := hw2
        have hw3 := WO.trans (A := A) (T := [123] ++ jrc n h.names l l.length) FR.out (by have := LR.out; simp only [List.length_append] at this ⊢; omega) hw2
        have H3 := hide hw3
        rcases hw2 with ⟨_, ⟨_, rfl, _⟩ | ⟨_, rfl⟩⟩
        · go_wp2_with fail
          go_end0
          simpa only [List.append_assoc, List.cons_append, List.nil_append] using H3.out
        · go_wp2_with fail
          refine ⟨rfl, ?_⟩
          simpa only [List.append_assoc, List.cons_append, List.nil_append] using H3.out
  · have H1 := hide (WO.fail (A := A) (T := [123]) (U := jrc n h.names l l.length ++ [125]) g1 g2)
    clear g1 g2
    go_wp2_with fail
    exact ⟨rfl, H1.out⟩
end Go.Proofs.YtoaacfhjejmbnaaGreatDoor
