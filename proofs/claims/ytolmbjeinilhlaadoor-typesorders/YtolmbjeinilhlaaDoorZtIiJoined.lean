/- The reference of layer 11: Joined: walked. -/
import Derived.Test.YtolmbjeinilhlaaDoorZtS
import Derived.Test.YtolmbjeinilhlaaDoorZtP
import Derived.Deep.RegionHeld3
import Derived.BigQuiet
namespace Go.Proofs.YtolmbjeinilhlaaDoor
open Go.RowKit Go.Maps
set_option linter.unusedSimpArgs false
set_option linter.unusedVariables false
/-- What Joined answers. -/
def JoinedP (n : Nat) (x y : TT (n + 1)) (w0 w : World) (e : Ending) (w' : World) : Prop := ∃ (j : TT (n + 1)) (ns2 ls2 : Value), e = .returned (.agg (tvs j.1 ns2 ls2)) ∧ Hid (RJn n x y j ∧ ∀ W, Below w0.heap.size w0 W → (∀ k, w.heap.size ≤ k → k < w'.heap.size → W.heap[k]? = w'.heap[k]?) → RT (n + 1) W j ns2 ls2) ∧ Below w.heap.size w w'
set_option maxHeartbeats 8000000 in
set_option maxRecDepth 100000 in
theorem joined_any (rv : RVal) (n : Nat) (x y : TT (n + 1)) (ns ls ns' ls' : Value) (w0 w : World) (h0 : Below w0.heap.size w0 w) (hx : TRd (n + 1) w0 x ns ls) (hy : TRd (n + 1) w0 y ns' ls') (cx : TChk (n + 1) x 0) (cy : TChk (n + 1) y 0) :
    Calls Tryd.prog 45 #[.agg (tvs x.1 ns ls), .agg (tvs y.1 ns' ls')] w fun e w' => JoinedP n x y w0 w e w' := by
  have tx := cx.zero.1
  have ty := cy.zero.1
  have sx := cx.zero.2.2.2
  have sy := cy.zero.2.2.2
  have zx := hx.sz
  have zy := hy.sz
  have hx := hx.rd
  have hy := hy.rd
  obtain ⟨b1, h1⟩ := tells (Prt (n + 1) x y)
  obtain ⟨b2, h2⟩ := tells (Prt (n + 1) y x)
  have c1 := hide (fun W (hb : Below w.heap.size w W) => Calls.tb (rpart_any (n + 1) x y _ _ _ _ W (hx.below (below_then h0 hb)) (hy.below (below_then h0 hb)) tx ty) h1)
  have c2 := hide (fun W (hb : Below w.heap.size w W) => Calls.tb (rpart_any (n + 1) y x _ _ _ _ W (hy.below (below_then h0 hb)) (hx.below (below_then h0 hb)) ty tx) h2)
  obtain ⟨⟨hk, hm⟩, l⟩ := x
  obtain ⟨⟨gk, gm⟩, m⟩ := y
  obtain ⟨al, cl, rfl, hl1, hl2⟩ := hx.len
  obtain ⟨an, cn, rfl, hn1, hn2⟩ := hx.1.len
  obtain ⟨bl', dl, rfl, hm1, hm2⟩ := hy.len
  obtain ⟨bn, dn, rfl, ho1, ho2⟩ := hy.1.len
  have h1' := hide h1
  have h2' := hide h2
  have H0 := hide h0
  have hx' := hide hx
  have hy' := hide hy
  have tX := hide tx
  have tY := hide ty
  have Sx := hide sx
  have Sy := hide sy
  have Zx := hide zx
  have Zy := hide zy
  clear h1 h2 hx hy tx ty h0 cx cy sx sy zx zy
  simp only [thd, tvs] at c1 c2
  simp only at hl1 hl2 hn1 hn2 hm1 hm2 ho1 ho2
  have ml : maxLen = 9223372036854775807 := rfl
  have hb0 : Hid (Below w.heap.size w ((((w.alloc (.cells #[.int .i64 hk, .slice an hm.length cn, .slice al l.length cl] 26)).alloc (.cells #[.int .i64 gk, .slice bn gm.length dn, .slice bl' m.length dl] 26)).alloc (.cells #[.int .i64 0, .slice none 0 0, .slice none 0 0] 26)).alloc (.cells #[.int .i64 1, .slice none 0 0, .slice none 0 0] 26))) := by exact below_al (below_al (below_al (below_al (Below.refl _ _))))
  have hs0 : Hid (((((w.alloc (.cells #[.int .i64 hk, .slice an hm.length cn, .slice al l.length cl] 26)).alloc (.cells #[.int .i64 gk, .slice bn gm.length dn, .slice bl' m.length dl] 26)).alloc (.cells #[.int .i64 0, .slice none 0 0, .slice none 0 0] 26)).alloc (.cells #[.int .i64 1, .slice none 0 0, .slice none 0 0] 26)).heap.size = w.heap.size + 4) := by show _ = _; simp
  have hX : Hid (Tx ((((w.alloc (.cells #[.int .i64 hk, .slice an hm.length cn, .slice al l.length cl] 26)).alloc (.cells #[.int .i64 gk, .slice bn gm.length dn, .slice bl' m.length dl] 26)).alloc (.cells #[.int .i64 0, .slice none 0 0, .slice none 0 0] 26)).alloc (.cells #[.int .i64 1, .slice none 0 0, .slice none 0 0] 26)) w.heap.size ⟨hk, hm⟩ (.slice an hm.length cn) (.slice al l.length cl)) := by exact (tx_new w ⟨hk, hm⟩ _ _).below (below_al (below_al (below_al (Below.refl _ _))))
  have hY : Hid (Tx ((((w.alloc (.cells #[.int .i64 hk, .slice an hm.length cn, .slice al l.length cl] 26)).alloc (.cells #[.int .i64 gk, .slice bn gm.length dn, .slice bl' m.length dl] 26)).alloc (.cells #[.int .i64 0, .slice none 0 0, .slice none 0 0] 26)).alloc (.cells #[.int .i64 1, .slice none 0 0, .slice none 0 0] 26)) (w.heap.size + 1) ⟨gk, gm⟩ (.slice bn gm.length dn) (.slice bl' m.length dl)) := by
    have := tx_new (w.alloc (.cells #[.int .i64 hk, .slice an hm.length cn, .slice al l.length cl] 26)) ⟨gk, gm⟩ (.slice bn gm.length dn) (.slice bl' m.length dl)
    rw [World.size_alloc] at this
    exact this.below (below_al (below_al (Below.refl _ _)))
  have hZ : Hid (ZT ((((w.alloc (.cells #[.int .i64 hk, .slice an hm.length cn, .slice al l.length cl] 26)).alloc (.cells #[.int .i64 gk, .slice bn gm.length dn, .slice bl' m.length dl] 26)).alloc (.cells #[.int .i64 0, .slice none 0 0, .slice none 0 0] 26)).alloc (.cells #[.int .i64 1, .slice none 0 0, .slice none 0 0] 26)) (w.heap.size + 2)) := by
    have := heap_alloc_last ((w.alloc (.cells #[.int .i64 hk, .slice an hm.length cn, .slice al l.length cl] 26)).alloc (.cells #[.int .i64 gk, .slice bn gm.length dn, .slice bl' m.length dl] 26)) (.cells #[.int .i64 0, .slice none 0 0, .slice none 0 0] 26)
    rw [World.size_alloc, World.size_alloc] at this
    exact ZT.below (this : ZT _ (w.heap.size + 2)) (below_al (Below.refl _ _))
  have hV : Hid (Tx ((((w.alloc (.cells #[.int .i64 hk, .slice an hm.length cn, .slice al l.length cl] 26)).alloc (.cells #[.int .i64 gk, .slice bn gm.length dn, .slice bl' m.length dl] 26)).alloc (.cells #[.int .i64 0, .slice none 0 0, .slice none 0 0] 26)).alloc (.cells #[.int .i64 1, .slice none 0 0, .slice none 0 0] 26)) (w.heap.size + 3) ⟨1, []⟩ (.slice none 0 0) (.slice none 0 0)) := by
    have := tx_new (((w.alloc (.cells #[.int .i64 hk, .slice an hm.length cn, .slice al l.length cl] 26)).alloc (.cells #[.int .i64 gk, .slice bn gm.length dn, .slice bl' m.length dl] 26)).alloc (.cells #[.int .i64 0, .slice none 0 0, .slice none 0 0] 26)) ⟨1, []⟩ (.slice none 0 0) (.slice none 0 0)
    rw [World.size_alloc, World.size_alloc, World.size_alloc] at this
    exact this
  obtain ⟨x0, x1, x2⟩ := hX.out.cells
  obtain ⟨y0, y1, y2⟩ := hY.out.cells
  show Calls _ _ #[.agg #[.int .i64 hk, .slice an hm.length cn, .slice al l.length cl], .agg #[.int .i64 gk, .slice bn gm.length dn, .slice bl' m.length dl]] _ _
  go_enter Tryd.func45, Tryd.ntmps45
  go_wp2_with fail
  refine (c1.out _ hb0.out).mono ?_
  rintro e w1 ⟨rfl, hb1⟩
  have hw1 := hide (below_then hb0.out hb1)
  have hX1 := hide (hX.out.below hb1)
  have hY1 := hide (hY.out.below hb1)
  have hZ1 := hide (hZ.out.below hb1)
  have hV1 := hide (hV.out.below hb1)
  have hs1 : Hid (w.heap.size + 4 ≤ w1.heap.size) := by have := hb1.size; have := hs0.out; show _ ≤ _; omega
  clear x0 x1 x2 y0 y1 y2 hb1 hb0 hX hY hZ hV hs0
  obtain ⟨x0, x1, x2⟩ := hX1.out.cells
  obtain ⟨y0, y1, y2⟩ := hY1.out.cells
  obtain ⟨z0, z1, z2⟩ := hZ1.out.cells
  have zf := hZ1.out.frz
  cases b1
  rotate_left
  · go_wp2_with fail
    refine bodyPost_ret (v := .agg #[.int .i64 gk, .slice bn gm.length dn, .slice bl' m.length dl]) (by simp [results, Tryd.results45, go_sem, *]) rfl ?_
    exact ⟨(⟨gk, gm⟩, m), _, _, rfl, ⟨Or.inl ⟨h1'.out.1 (by simp), rfl⟩, fun W hW _ => hy'.out.below hW⟩, (by repeat (first | exact hw1.out | refine Below.setCell ?_ (by show w.heap.size ≤ w.heap.size + 2; omega) _))⟩
  have np1 : Hid (¬ Prt (n + 1) ((⟨hk, hm⟩, l) : TT (n + 1)) (⟨gk, gm⟩, m)) := fun q => by have := h1'.out.2 q; cases this
  go_wp2_with fail
  refine (c2.out _ hw1.out).mono ?_
  rintro e w2 ⟨rfl, hb2⟩
  have hw2 := hide (below_then hw1.out hb2)
  have hX2 := hide (hX1.out.below hb2)
  have hY2 := hide (hY1.out.below hb2)
  have hZ2 := hide (hZ1.out.below hb2)
  have hV2 := hide (hV1.out.below hb2)
  have hs2 : Hid (w.heap.size + 4 ≤ w2.heap.size) := by have := hb2.size; have := hs1.out; show _ ≤ _; omega
  clear x0 x1 x2 y0 y1 y2 z0 z1 z2 zf hb2 hX1 hY1 hZ1 hV1 hw1 hs1
  obtain ⟨x0, x1, x2⟩ := hX2.out.cells
  obtain ⟨y0, y1, y2⟩ := hY2.out.cells
  obtain ⟨z0, z1, z2⟩ := hZ2.out.cells
  obtain ⟨v0, v1, v2⟩ := hV2.out.cells
  have zf := hZ2.out.frz
  cases b2
  rotate_left
  · go_wp2_with fail
    refine bodyPost_ret (v := .agg #[.int .i64 hk, .slice an hm.length cn, .slice al l.length cl]) (by simp [results, Tryd.results45, go_sem, *]) rfl ?_
    exact ⟨(⟨hk, hm⟩, l), _, _, rfl, ⟨Or.inr (Or.inl ⟨np1.out, h2'.out.1 (by simp), rfl⟩), fun W hW _ => hx'.out.below hW⟩, (by repeat (first | exact hw2.out | refine Below.setCell ?_ (by show w.heap.size ≤ w.heap.size + 2; omega) _))⟩
  have np2 : Hid (¬ Prt (n + 1) ((⟨gk, gm⟩, m) : TT (n + 1)) (⟨hk, hm⟩, l)) := fun q => by have := h2'.out.2 q; cases this
  have fin : Hid (∀ W, Below w.heap.size w W → (¬ (hk = 11 ∧ gk = 11) ∨ Ubad n ((⟨hk, hm⟩, l) : TT (n + 1)) (⟨gk, gm⟩, m) ∨ ∃ nm ts, RU n ((⟨hk, hm⟩, l) : TT (n + 1)) (⟨gk, gm⟩, m) nm ts ∧ ¬ TChk (n + 1) (⟨11, nm⟩, ts) 0) → JoinedP n (⟨hk, hm⟩, l) (⟨gk, gm⟩, m) w0 w (.returned (.agg #[.int .i64 1, .slice none 0 0, .slice none 0 0])) W) := by
    intro W hW hq
    exact ⟨anyT n, .slice none 0 0, .slice none 0 0, rfl, ⟨Or.inr (Or.inr (Or.inr ⟨np1.out, np2.out, hq, rfl⟩)), fun _ _ _ => ⟨Or.inl ⟨rfl, rfl⟩, Or.inl ⟨rfl, rfl⟩⟩⟩, hW⟩
  by_cases e1 : hk = 11
  rotate_left
  · have e1b : (hk == 11) = false := beq_eq_false_iff_ne.2 e1
    have e1c : (hk != 11) = true := by simpa using e1
    have e1d : decide (hk = 11) = false := decide_eq_false e1
    have e1h := hide e1
    clear e1 c1 c2
    go_wp2_with fail
    refine bodyPost_ret (v := .agg #[.int .i64 1, .slice none 0 0, .slice none 0 0]) (by simp [results, Tryd.results45, go_sem, *]) rfl ?_
    exact fin.out _ (by repeat (first | exact hw2.out | refine below_al ?_ | refine Below.setCell ?_ (by show w.heap.size ≤ w.heap.size + 2; omega) _)) (Or.inl fun q => e1h.out q.1)
  by_cases e2 : gk = 11
  rotate_left
  · have e1b : (gk == 11) = false := beq_eq_false_iff_ne.2 e2
    have e1c : (gk != 11) = true := by simpa using e2
    have e1d : decide (gk = 11) = false := decide_eq_false e2
    have e1h := hide e2
    subst e1
    clear e2 c1 c2
    go_wp2_with fail
    refine bodyPost_ret (v := .agg #[.int .i64 1, .slice none 0 0, .slice none 0 0]) (by simp [results, Tryd.results45, go_sem, *]) rfl ?_
    exact fin.out _ (by repeat (first | exact hw2.out | refine below_al ?_ | refine Below.setCell ?_ (by show w.heap.size ≤ w.heap.size + 2; omega) _)) (Or.inl fun q => e1h.out q.2)
  subst e1 e2
  have hA : Hid (hm.length = l.length ∧ hm.Nodup) := tX.out.1.eleven rfl
  have hB : Hid (gm.length = m.length ∧ gm.Nodup) := tY.out.1.eleven rfl
  have ll : l.length ≤ 4096 := by have := tsiz_len l; have := Sx.out; simp only [tsiz] at this; omega
  have lm : m.length ≤ 4096 := by have := tsiz_len m; have := Sy.out; simp only [tsiz] at this; omega
  have lan : hm.length ≤ 4096 := by have := hA.out.1; omega
  have lbn : gm.length ≤ 4096 := by have := hB.out.1; omega
  have J0 : Hid (JI n w0 w ⟨11, hm⟩ ⟨11, gm⟩ (.slice an hm.length cn) (.slice al l.length cl) (.slice bn gm.length dn) (.slice bl' m.length dl) w2.heap.size [] [] (.slice none 0 0) (.slice none 0 0) (w2.alloc (.cells #[.int .i64 11, .slice none 0 0, .slice none 0 0] 26))) := by
    have hq := below_al (o := .cells #[.int .i64 11, .slice none 0 0, .slice none 0 0] 26) (Below.refl w2.heap.size w2)
    exact ⟨below_then hw2.out hq, hs2.out, tx_new w2 ⟨11, []⟩ _ _, World.ownsRow_nil _ _ _ _, OT.nil, by simp [Value.ownBlock], by simp [Value.ownBlock], hX2.out.below hq, hY2.out.below hq, ZT.below hZ2.out hq, hV2.out.below hq⟩
  clear c1 c2
  go_wp2_with fail
  go_loopw [7] (fun i w' => ∃ k : Nat, i = .int .i64 k ∧ k ≤ hm.length ∧ ∃ (ts : List (TT n)) (na : Option Addr) (nc : Nat) (la : Option Addr) (lc : Nat), ts.length = k ∧ Hid (JI n w0 w ⟨11, hm⟩ ⟨11, gm⟩ (.slice an hm.length cn) (.slice al l.length cl) (.slice bn gm.length dn) (.slice bl' m.length dl) w2.heap.size (hm.take k) ts (.slice na k nc) (.slice la k lc) w' ∧ ∀ j z, ts[j]? = some z → Wd n ((⟨11, hm⟩, l) : TT (n + 1)) (⟨11, gm⟩, m) gm.length j z)) (fun i _ => hm.length - (intOf i).toNat)
  case atStart => exact ⟨0, rfl, Nat.zero_le _, [], none, 0, none, 0, rfl, by rw [List.take_zero]; exact J0.out, fun j z h => by simp at h⟩
  case round =>
    clear J0 x0 x1 x2 y0 y1 y2 z0 z1 z2 v0 v1 v2 zf hX2 hY2 hZ2 hV2
    obtain ⟨k, rfl, hk', ts, na, nc, la, lc, htk, H⟩ := hrel
    obtain ⟨x0, x1, x2⟩ := H.out.1.ba.cells
    by_cases hkl : k < hm.length
    · have hki : (k : Int) < (hm.length : Int) := by omega
      have hk63 : (k : Int) < 9223372036854775807 := by omega
      have hkL : k < l.length := by have := hA.out.1; omega
      have hkLi : (k : Int) < (l.length : Int) := by omega
      obtain ⟨b, o, c, he, hbl, hlc, hcm, hcell⟩ := hx'.out.1.at k hkl
      have he' := Value.slice.inj he
      obtain ⟨rfl, _, rfl⟩ := he'
      clear he
      have hcell := hide (fun W (hW : Below w.heap.size w W) => ((below_then H0.out hW).cell (p := ⟨b, o + k, none⟩) hbl).trans hcell)
      obtain ⟨s, hs⟩ : ∃ s, Hid (hm[k] = s) := ⟨_, hide rfl⟩
      simp only at hcell
      rw [hs.out] at hcell
      obtain ⟨b1, o1, f1, he, hbl1, hlc1, hcm1, ns1, ls1, hrg1, hrd1⟩ := hx'.out.at k hkL
      have he' := Value.slice.inj he
      obtain ⟨rfl, _, rfl⟩ := he'
      clear he
      obtain ⟨q0, q1, q2⟩ := range3 (rangeAt_below hrg1 (below_then H0.out H.out.1.below) hbl1)
      have hd1 := hide hrd1
      obtain ⟨a1, m1, d1, a2, m2, d2, rfl, rfl⟩ := hrd1.shape
      clear hrg1 hrd1
      obtain ⟨hp, hhp⟩ : ∃ hp, Hid (thd n l[k] = hp) := ⟨_, hide rfl⟩
      simp only at q0 q1 q2
      rw [hhp.out] at q0
      have J1 : Hid (JI n w0 w ⟨11, hm⟩ ⟨11, gm⟩ (.slice (some ⟨b, o, none⟩) hm.length cn) (.slice (some ⟨b1, o1, none⟩) l.length cl) (.slice bn gm.length dn) (.slice bl' m.length dl) w2.heap.size (hm.take k) ts (.slice na k nc) (.slice la k lc) (wr.alloc (.cells #[.int .i64 hp.kind, .slice a1 m1 d1, .slice a2 m2 d2] 26))) := H.out.1.then (below_al (Below.refl _ _))
      have X1 : Hid (Tx (wr.alloc (.cells #[.int .i64 hp.kind, .slice a1 m1 d1, .slice a2 m2 d2] 26)) wr.heap.size hp (.slice a1 m1 d1) (.slice a2 m2 d2)) := tx_new wr hp _ _
      have hP := hide (fun W (hb : Below (wr.alloc (.cells #[.int .i64 hp.kind, .slice a1 m1 d1, .slice a2 m2 d2] 26)).heap.size (wr.alloc (.cells #[.int .i64 hp.kind, .slice a1 m1 d1, .slice a2 m2 d2] 26)) W) => place_any (.slice bn gm.length dn) gm s W (hy'.out.1.below (below_then H0.out (below_then J1.out.below hb))))
      have hlt0 := J1.out.ba.lt
      have hlt1 := J1.out.bb.lt
      have hltb : b < (wr.alloc (.cells #[.int .i64 hp.kind, .slice a1 m1 d1, .slice a2 m2 d2] 26)).heap.size := Nat.lt_of_lt_of_le hbl (below_then H0.out J1.out.below).size
      have u1 := J1.out.ba.cells.2.1
      have u2 := J1.out.bb.cells.2.1
      have u3 := hcell.out _ J1.out.below
      have mkS : Hid (∀ W : World, Below (wr.alloc (.cells #[.int .i64 hp.kind, .slice a1 m1 d1, .slice a2 m2 d2] 26)).heap.size (wr.alloc (.cells #[.int .i64 hp.kind, .slice a1 m1 d1, .slice a2 m2 d2] 26)) W → W.cell? ⟨w.heap.size, 1, none⟩ = some (.slice (some ⟨b, o, none⟩) hm.length cn) ∧ W.cell? ⟨w.heap.size + 1, 1, none⟩ = some (.slice bn gm.length dn) ∧ W.cell? ⟨b, o + k, none⟩ = some (.string s)) := fun W hW => ⟨(hW.cell (p := ⟨w.heap.size, 1, none⟩) (by show _ < (wr.alloc (.cells #[.int .i64 hp.kind, .slice a1 m1 d1, .slice a2 m2 d2] 26)).heap.size; omega)).trans u1, (hW.cell (p := ⟨w.heap.size + 1, 1, none⟩) (by show _ < (wr.alloc (.cells #[.int .i64 hp.kind, .slice a1 m1 d1, .slice a2 m2 d2] 26)).heap.size; omega)).trans u2, (hW.cell (p := ⟨b, o + k, none⟩) (by show _ < (wr.alloc (.cells #[.int .i64 hp.kind, .slice a1 m1 d1, .slice a2 m2 d2] 26)).heap.size; omega)).trans u3⟩
      go_wp2_with fail
      go_region_held3 (fun W => W.cell? ⟨w.heap.size, 1, none⟩ = some (.slice (some ⟨b, o, none⟩) hm.length cn) ∧ W.cell? ⟨w.heap.size + 1, 1, none⟩ = some (.slice bn gm.length dn) ∧ W.cell? ⟨b, o + k, none⟩ = some (.string s)) (first | (exact mkS.out _ T3.out) | (simp [go_sem]; done) | go_keep) (first | (go_at_call 57; refine (hP.out _ (by repeat (first | exact Below.refl _ _ | refine below_dr ?_ | refine below_al ?_ | refine below_dn ?_ _))).mono ?_; rintro e w3 ⟨r, rfl, hr4, hb3⟩; have T3 : Hid (Below (wr.alloc (.cells #[.int .i64 hp.kind, .slice a1 m1 d1, .slice a2 m2 d2] 26)).heap.size (wr.alloc (.cells #[.int .i64 hp.kind, .slice a1 m1 d1, .slice a2 m2 d2] 26)) w3) := below_then (by repeat (first | exact Below.refl _ _ | refine below_dr ?_ | refine below_al ?_ | refine below_dn ?_ _)) hb3))
      clear mkS
      clear hlt0 hlt1 hltb u1 u2 u3 hP
      have J3 : Hid (JI n w0 w ⟨11, hm⟩ ⟨11, gm⟩ (.slice (some ⟨b, o, none⟩) hm.length cn) (.slice (some ⟨b1, o1, none⟩) l.length cl) (.slice bn gm.length dn) (.slice bl' m.length dl) w2.heap.size (hm.take k) ts (.slice na k nc) (.slice la k lc) w3) := J1.out.then T3.out
      have X3 : Hid (Tx w3 wr.heap.size hp (.slice a1 m1 d1) (.slice a2 m2 d2)) := X1.out.below T3.out
      have hnT : Hid ((Value.slice na k nc).ownBlock ≠ some wr.heap.size) := fun e => by have := (World.ownsRow.lt H.out.1.nrow _ e).2; omega
      have hlT : Hid ((Value.slice la k lc).ownBlock ≠ some wr.heap.size) := fun e => by have := (H.out.1.lrow.lt _ e).2; omega
      have hVl : Hid (w2.heap.size < wr.heap.size) := H.out.1.box.lt
      have hlen : Hid ((hm.take k).length = k) := by show _ = _; simp; omega
      clear T3 x0 x1 x2 q0 q1 q2 J1 X1
      rcases hr4.out with ⟨rfl, hn⟩ | ⟨q, rfl, hq, hqe⟩
      · have hn := hide hn
        clear hr4
        have Wl : Hid (Wd n ((⟨11, hm⟩, l) : TT (n + 1)) (⟨11, gm⟩, m) gm.length k l[k]) := ⟨s, l[k], by rw [← hs.out]; exact List.getElem?_eq_getElem _, List.getElem?_eq_getElem _, Or.inl ⟨fun i hi e => hn.out (List.mem_of_getElem? e), rfl⟩⟩
        obtain ⟨v0, v1, v2⟩ := J3.out.box.cells
        have vf := J3.out.box.frz
        obtain ⟨x0, x1, x2⟩ := J3.out.ba.cells
        have hc := hcell.out _ J3.out.below
        have x1a := fun o => (J3.out.ba.below (W1 := w3.alloc o) (below_al (Below.refl _ _))).cells.2.1
        have v1a := fun o => (J3.out.box.below (W1 := w3.alloc o) (below_al (Below.refl _ _))).cells.2.1
        have hca := fun o => hcell.out _ (below_al (o := o) J3.out.below)
        have hcl : (w3.alloc (.cells #[.string s] 9)).cell? ⟨w3.heap.size, 0, none⟩ = some (.string s) := by unfold World.cell?; rw [show (w3.alloc (.cells #[.string s] 9)).heap[w3.heap.size]? = _ from heap_alloc_last w3 _]; rfl
        have hcl := hide hcl
        have hBs : Hid (w.heap.size + 4 ≤ (w3.alloc (.cells #[.string s] 9)).heap.size) := by have := J3.out.hV; have := J3.out.box.lt; show _ ≤ _; simp; omega
        have finN : Hid (∀ w6 av6 c6, (w3.alloc (.cells #[.string s] 9)).grownBy w6 (Value.slice na k nc).ownBlock → w6.ownsRow (w.heap.size + 4) 9 1 (.slice av6 (k + 1) c6) (k + 1) (scs (hm.take k) ++ [.string s]) → ((Value.slice av6 (k + 1) c6).ownBlock = (Value.slice na k nc).ownBlock ∨ (Value.slice av6 (k + 1) c6).ownBlock = some (w3.alloc (.cells #[.string s] 9)).heap.size) → (JI n w0 w ⟨11, hm⟩ ⟨11, gm⟩ (.slice (some ⟨b, o, none⟩) hm.length cn) (.slice (some ⟨b1, o1, none⟩) l.length cl) (.slice bn gm.length dn) (.slice bl' m.length dl) w2.heap.size (hm.take k ++ [s]) ts (.slice av6 (k + 1) c6) (.slice la k lc) (w6.setCell ⟨w2.heap.size, 1, none⟩ (.slice av6 (k + 1) c6)) ∧ Tx w6 w2.heap.size ⟨11, hm.take k⟩ (.slice na k nc) (.slice la k lc)) ∧ Tx (w6.setCell ⟨w2.heap.size, 1, none⟩ (.slice av6 (k + 1) c6)) wr.heap.size hp (.slice a1 m1 d1) (.slice a2 m2 d2)) := by
          intro w6 av6 c6 hg6 ho6 hat6
          refine ⟨JI.name J3.out (below_al (Below.refl _ _)) hg6 (by rw [hlen.out]; exact ho6) hat6, ⟨?_⟩⟩
          have e1 := X3.out.lt
          have e2 := hVl.out
          rw [heap_set_ne (show wr.heap.size ≠ w2.heap.size by omega), hg6.block wr.heap.size (by simp; omega) (fun e => hnT.out e.symm), (below_al (Below.refl w3.heap.size w3)).block wr.heap.size e1]
          exact X3.out.at_
        go_wp2_with fail
        go_region_law (first | (refine step_n1 rfl (.tmp 75) (.tmp 81) rfl (w.heap.size + 4) (.slice na k nc) (hm.take k) k hlen.out rfl (ownsRow_of J3.out.nrow fun g hg hlt => by first | exact (below_al (Below.refl w3.heap.size w3)).block g hlt | exact (below_dr (below_al (Below.refl w3.heap.size w3))).block g hlt) w3.heap.size 1 rfl s hcl.out (by omega) hBs.out ?_; intro av6 c6 w6 ho6 hg6 hat6; have F6 := hide (finN.out w6 av6 c6 (by first | exact grown_dr hg6.out | exact hg6.out) ho6.out hat6.out); obtain ⟨f0, f1, f2⟩ := F6.out.1.2.cells; have ff := F6.out.1.2.frz; obtain ⟨W5, hW5⟩ : ∃ W5, w6.setCell ⟨w2.heap.size, 1, none⟩ (.slice av6 (k + 1) c6) = W5 := ⟨_, rfl⟩; have F5 := hide (And.intro F6.out.1.1 F6.out.2); rw [hW5] at F5; clear F6 ho6 hg6 hat6))
        all_goals
          clear f0 f1 f2 ff hW5 v0 v1 v2 vf x0 x1 x2 hc x1a v1a hca
          obtain ⟨v0, v1, v2⟩ := F5.out.1.box.cells
          have vf := F5.out.1.box.frz
          obtain ⟨t0, t1, t2⟩ := F5.out.2.cells
          obtain ⟨xs, hx5, hall⟩ := F5.out.1.lrow
          have Hx := hide hx5
          have Hall := hide hall
          clear hx5 hall
          have HxA : Hid ((W5.alloc (.cells #[.int .i64 hp.kind, .slice a1 m1 d1, .slice a2 m2 d2] 26)).ownsRow (w.heap.size + 4) 26 3 (.slice la k lc) k xs) := by
            have h5 := Hx.out
            rw [htk] at h5
            exact ownsRow_of h5 fun g hg hlt => (below_al (Below.refl W5.heap.size W5)).block g hlt
          have hrgA : Hid ((W5.alloc (.cells #[.int .i64 hp.kind, .slice a1 m1 d1, .slice a2 m2 d2] 26)).rangeAt W5.heap.size 0 (tvs hp (.slice a1 m1 d1) (.slice a2 m2 d2)).toList) := (tx_new W5 hp (.slice a1 m1 d1) (.slice a2 m2 d2)).range
          have hmA : Hid (k ≤ 200000) := by show _ ≤ _; omega
          have hBA : Hid (w.heap.size + 4 ≤ (W5.alloc (.cells #[.int .i64 hp.kind, .slice a1 m1 d1, .slice a2 m2 d2] 26)).heap.size) := by have := F5.out.1.hV; have := F5.out.1.box.lt; show _ ≤ _; simp; omega
          go_wp2_with (first | (at_builtin; refine app_t1 rfl (.tmp 85) (.tmp 87) rfl (w.heap.size + 4) (.slice la k lc) k xs rfl HxA W5.heap.size 1 rfl hp (.slice a1 m1 d1) (.slice a2 m2 d2) rfl rfl hrgA hmA hBA ?_; intro av7 c7 w7 ho7 hg7 hat7; have F7 := hide (JI.push (ns := .slice a1 m1 d1) (ls := .slice a2 m2 d2) F5.out.1 (below_al (Below.refl _ _)) Hx.out Hall.out hd1.out hg7.out (by rw [htk, hhp.out]; exact ho7.out) hat7.out); obtain ⟨f0, f1, f2⟩ := F7.out.2.cells; have ff := F7.out.2.frz))
          refine ⟨⟨k + 1, by go_num, by omega, ts ++ [l[k]], av6, c6, av7, c7, by simp [htk], ?_, fun j' z' hz' => ?_⟩, by simp [intOf]; omega⟩
          · rw [List.take_succ_eq_append_getElem hkl, hs.out]; exact F7.out.1
          · by_cases hj : j' < ts.length
            · rw [List.getElem?_append_left hj] at hz'; exact H.out.2 j' z' hz'
            · rw [List.getElem?_append_right (by omega)] at hz'
              have hj0 : j' - ts.length = 0 := by have := (List.getElem?_eq_some_iff.1 hz').1; simp at this; omega
              rw [hj0] at hz'
              simp only [List.getElem?_cons_zero, Option.some.injEq] at hz'
              subst hz'
              have e : j' = k := by omega
              rw [e]; exact Wl.out
      · have hqM : q < m.length := by have := hB.out.1; omega
        have hqi : (q : Int) < (m.length : Int) := by omega
        have hq0 : (0 : Int) ≤ (q : Int) := by omega
        have hq63 : (q : Int) < 9223372036854775807 := by omega
        have hqn : ¬ (q : Int) < 0 := by omega
        have hqe' := hide (show ∃ h : q < gm.length, gm[q] = s from ⟨hq, hqe⟩)
        clear hr4 hqe hq
        have hqN : Hid (gm[q]? = some s ∧ m[q]? = some m[q] ∧ q < gm.length) := by
          obtain ⟨h5, h6⟩ := hqe'.out
          exact ⟨by rw [← h6]; exact List.getElem?_eq_getElem _, List.getElem?_eq_getElem _, h5⟩
        have hkN : Hid (hm[k]? = some s ∧ l[k]? = some l[k]) := ⟨by rw [← hs.out]; exact List.getElem?_eq_getElem _, List.getElem?_eq_getElem _⟩
        clear hqe'
        obtain ⟨b2, o2, f2, he, hbl2, hlc2, hcm2, ns2, ls2, hrg2, hrd2⟩ := hy'.out.at q hqM
        have he' := Value.slice.inj he
        obtain ⟨rfl, _, rfl⟩ := he'
        clear he
        have hrg2 := hide hrg2
        have hd2 := hide hrd2
        obtain ⟨a3, m3, d3, a4, m4, d4, rfl, rfl⟩ := hrd2.shape
        clear hrd2
        obtain ⟨hQ, hhQ⟩ : ∃ hQ, Hid (thd n m[q] = hQ) := ⟨_, hide rfl⟩
        have hRR := hide (fun W (hW : Below w.heap.size w W) => range3 (rangeAt_below hrg2.out (below_then H0.out hW) hbl2))
        simp only [tvs] at hRR
        rw [hhQ.out] at hRR
        clear hrg2
        obtain ⟨bk1, hbk1⟩ := tells (Prt n m[q] l[k])
        obtain ⟨bk2, hbk2⟩ := tells (Prt n l[k] m[q])
        have k1 := hide (fun W (hW : Below w.heap.size w W) => Calls.tb (rpart_any n m[q] l[k] _ _ _ _ W (hd2.out.below (below_then H0.out hW)) (hd1.out.below (below_then H0.out hW)) (tY.out.2 _ (List.getElem_mem _)) (tX.out.2 _ (List.getElem_mem _))) hbk1)
        have k2 := hide (fun W (hW : Below w.heap.size w W) => Calls.tb (rpart_any n l[k] m[q] _ _ _ _ W (hd1.out.below (below_then H0.out hW)) (hd2.out.below (below_then H0.out hW)) (tX.out.2 _ (List.getElem_mem _)) (tY.out.2 _ (List.getElem_mem _))) hbk2)
        rw [hhp.out, hhQ.out] at k1 k2
        simp only [tvs] at k1 k2
        have hbk1' := hide hbk1
        have hbk2' := hide hbk2
        clear hbk1 hbk2
        obtain ⟨t0, t1, t2⟩ := X3.out.cells
        have y2 := J3.out.bb.cells.2.2
        obtain ⟨r0, r1, r2⟩ := hRR.out _ J3.out.below
        have hlt0 := J3.out.bb.lt
        have hlt1 := X3.out.lt
        have hltb : b2 < w3.heap.size := Nat.lt_of_lt_of_le hbl2 (below_then H0.out J3.out.below).size
        have kk := hide (fun W (hW : Below w3.heap.size w3 W) => k1.out W (below_then J3.out.below hW))
        have mkS : Hid (∀ W : World, Below w3.heap.size w3 W → W.cell? ⟨w.heap.size + 1, 2, none⟩ = some (.slice (some ⟨b2, o2, none⟩) m.length dl) ∧ W.cell? ⟨wr.heap.size, 0, none⟩ = some (.int .i64 hp.kind) ∧ W.cell? ⟨wr.heap.size, 1, none⟩ = some (.slice a1 m1 d1) ∧ W.cell? ⟨wr.heap.size, 2, none⟩ = some (.slice a2 m2 d2) ∧ W.cell? ⟨b2, o2 + q * 3, none⟩ = some (.int .i64 hQ.kind) ∧ W.cell? ⟨b2, o2 + q * 3 + 1, none⟩ = some (.slice a3 m3 d3) ∧ W.cell? ⟨b2, o2 + q * 3 + 2, none⟩ = some (.slice a4 m4 d4)) := fun W hW => ⟨(hW.cell (p := ⟨w.heap.size + 1, 2, none⟩) (by show _ < w3.heap.size; omega)).trans y2, (hW.cell (p := ⟨wr.heap.size, 0, none⟩) (by show _ < w3.heap.size; omega)).trans t0, (hW.cell (p := ⟨wr.heap.size, 1, none⟩) (by show _ < w3.heap.size; omega)).trans t1, (hW.cell (p := ⟨wr.heap.size, 2, none⟩) (by show _ < w3.heap.size; omega)).trans t2, (hW.cell (p := ⟨b2, o2 + q * 3, none⟩) (by show _ < w3.heap.size; omega)).trans r0, (hW.cell (p := ⟨b2, o2 + q * 3 + 1, none⟩) (by show _ < w3.heap.size; omega)).trans r1, (hW.cell (p := ⟨b2, o2 + q * 3 + 2, none⟩) (by show _ < w3.heap.size; omega)).trans r2⟩
        go_wp2_with fail
        go_region_held3 (fun W => W.cell? ⟨w.heap.size + 1, 2, none⟩ = some (.slice (some ⟨b2, o2, none⟩) m.length dl) ∧ W.cell? ⟨wr.heap.size, 0, none⟩ = some (.int .i64 hp.kind) ∧ W.cell? ⟨wr.heap.size, 1, none⟩ = some (.slice a1 m1 d1) ∧ W.cell? ⟨wr.heap.size, 2, none⟩ = some (.slice a2 m2 d2) ∧ W.cell? ⟨b2, o2 + q * 3, none⟩ = some (.int .i64 hQ.kind) ∧ W.cell? ⟨b2, o2 + q * 3 + 1, none⟩ = some (.slice a3 m3 d3) ∧ W.cell? ⟨b2, o2 + q * 3 + 2, none⟩ = some (.slice a4 m4 d4)) (first | (exact mkS.out _ T3.out) | (simp [go_sem]; done) | go_keep) (first | (go_at_call 42; refine (kk.out _ (by repeat (first | exact Below.refl _ _ | refine below_dr ?_ | refine below_al ?_ | refine below_dn ?_ _))).mono ?_; rintro e w4 ⟨rfl, hb3⟩; have T3 : Hid (Below w3.heap.size w3 w4) := below_then (by repeat (first | exact Below.refl _ _ | refine below_dr ?_ | refine below_al ?_ | refine below_dn ?_ _)) hb3))
        clear mkS
        clear hlt0 hlt1 hltb t0 t1 t2 y2 r0 r1 r2 kk
        have J4 : Hid (JI n w0 w ⟨11, hm⟩ ⟨11, gm⟩ (.slice (some ⟨b, o, none⟩) hm.length cn) (.slice (some ⟨b1, o1, none⟩) l.length cl) (.slice bn gm.length dn) (.slice (some ⟨b2, o2, none⟩) m.length dl) w2.heap.size (hm.take k) ts (.slice na k nc) (.slice la k lc) w4) := J3.out.then T3.out
        have X4 : Hid (Tx w4 wr.heap.size hp (.slice a1 m1 d1) (.slice a2 m2 d2)) := X3.out.below T3.out
        clear T3 J3 X3 k1
        cases bk1
        rotate_left
        · have Wl : Hid (Wd n ((⟨11, hm⟩, l) : TT (n + 1)) (⟨11, gm⟩, m) gm.length k l[k]) := ⟨s, l[k], hkN.out.1, hkN.out.2, Or.inr ⟨q, m[q], hqN.out.2.2, hqN.out.1, hqN.out.2.1, Or.inl ⟨hbk1'.out.1 (by simp), rfl⟩⟩⟩
          obtain ⟨v0, v1, v2⟩ := J4.out.box.cells
          have vf := J4.out.box.frz
          obtain ⟨x0, x1, x2⟩ := J4.out.ba.cells
          have hc := hcell.out _ J4.out.below
          have x1a := fun o => (J4.out.ba.below (W1 := w4.alloc o) (below_al (Below.refl _ _))).cells.2.1
          have v1a := fun o => (J4.out.box.below (W1 := w4.alloc o) (below_al (Below.refl _ _))).cells.2.1
          have hca := fun o => hcell.out _ (below_al (o := o) J4.out.below)
          have hcl : (w4.alloc (.cells #[.string s] 9)).cell? ⟨w4.heap.size, 0, none⟩ = some (.string s) := by unfold World.cell?; rw [show (w4.alloc (.cells #[.string s] 9)).heap[w4.heap.size]? = _ from heap_alloc_last w4 _]; rfl
          have hcl := hide hcl
          have hBs : Hid (w.heap.size + 4 ≤ (w4.alloc (.cells #[.string s] 9)).heap.size) := by have := J4.out.hV; have := J4.out.box.lt; show _ ≤ _; simp; omega
          have finN : Hid (∀ w6 av6 c6, (w4.alloc (.cells #[.string s] 9)).grownBy w6 (Value.slice na k nc).ownBlock → w6.ownsRow (w.heap.size + 4) 9 1 (.slice av6 (k + 1) c6) (k + 1) (scs (hm.take k) ++ [.string s]) → ((Value.slice av6 (k + 1) c6).ownBlock = (Value.slice na k nc).ownBlock ∨ (Value.slice av6 (k + 1) c6).ownBlock = some (w4.alloc (.cells #[.string s] 9)).heap.size) → (JI n w0 w ⟨11, hm⟩ ⟨11, gm⟩ (.slice (some ⟨b, o, none⟩) hm.length cn) (.slice (some ⟨b1, o1, none⟩) l.length cl) (.slice bn gm.length dn) (.slice (some ⟨b2, o2, none⟩) m.length dl) w2.heap.size (hm.take k ++ [s]) ts (.slice av6 (k + 1) c6) (.slice la k lc) (w6.setCell ⟨w2.heap.size, 1, none⟩ (.slice av6 (k + 1) c6)) ∧ Tx w6 w2.heap.size ⟨11, hm.take k⟩ (.slice na k nc) (.slice la k lc)) ∧ Tx (w6.setCell ⟨w2.heap.size, 1, none⟩ (.slice av6 (k + 1) c6)) wr.heap.size hp (.slice a1 m1 d1) (.slice a2 m2 d2)) := by
            intro w6 av6 c6 hg6 ho6 hat6
            refine ⟨JI.name J4.out (below_al (Below.refl _ _)) hg6 (by rw [hlen.out]; exact ho6) hat6, ⟨?_⟩⟩
            have e1 := X4.out.lt
            have e2 := hVl.out
            rw [heap_set_ne (show wr.heap.size ≠ w2.heap.size by omega), hg6.block wr.heap.size (by simp; omega) (fun e => hnT.out e.symm), (below_al (Below.refl w4.heap.size w4)).block wr.heap.size e1]
            exact X4.out.at_
          go_wp2_with fail
          go_region_law (first | (refine step_n1 rfl (.tmp 75) (.tmp 81) rfl (w.heap.size + 4) (.slice na k nc) (hm.take k) k hlen.out rfl (ownsRow_of J4.out.nrow fun g hg hlt => by first | exact (below_al (Below.refl w4.heap.size w4)).block g hlt | exact (below_dr (below_al (Below.refl w4.heap.size w4))).block g hlt) w4.heap.size 1 rfl s hcl.out (by omega) hBs.out ?_; intro av6 c6 w6 ho6 hg6 hat6; have F6 := hide (finN.out w6 av6 c6 (by first | exact grown_dr hg6.out | exact hg6.out) ho6.out hat6.out); obtain ⟨f0, f1, f2⟩ := F6.out.1.2.cells; have ff := F6.out.1.2.frz; obtain ⟨W5, hW5⟩ : ∃ W5, w6.setCell ⟨w2.heap.size, 1, none⟩ (.slice av6 (k + 1) c6) = W5 := ⟨_, rfl⟩; have F5 := hide (And.intro F6.out.1.1 F6.out.2); rw [hW5] at F5; clear F6 ho6 hg6 hat6))
          all_goals
            clear f0 f1 f2 ff hW5 v0 v1 v2 vf x0 x1 x2 hc x1a v1a hca
            obtain ⟨v0, v1, v2⟩ := F5.out.1.box.cells
            have vf := F5.out.1.box.frz
            obtain ⟨t0, t1, t2⟩ := F5.out.2.cells
            obtain ⟨xs, hx5, hall⟩ := F5.out.1.lrow
            have Hx := hide hx5
            have Hall := hide hall
            clear hx5 hall
            have HxA : Hid ((W5.alloc (.cells #[.int .i64 hp.kind, .slice a1 m1 d1, .slice a2 m2 d2] 26)).ownsRow (w.heap.size + 4) 26 3 (.slice la k lc) k xs) := by
              have h5 := Hx.out
              rw [htk] at h5
              exact ownsRow_of h5 fun g hg hlt => (below_al (Below.refl W5.heap.size W5)).block g hlt
            have hrgA : Hid ((W5.alloc (.cells #[.int .i64 hp.kind, .slice a1 m1 d1, .slice a2 m2 d2] 26)).rangeAt W5.heap.size 0 (tvs hp (.slice a1 m1 d1) (.slice a2 m2 d2)).toList) := (tx_new W5 hp (.slice a1 m1 d1) (.slice a2 m2 d2)).range
            have hmA : Hid (k ≤ 200000) := by show _ ≤ _; omega
            have hBA : Hid (w.heap.size + 4 ≤ (W5.alloc (.cells #[.int .i64 hp.kind, .slice a1 m1 d1, .slice a2 m2 d2] 26)).heap.size) := by have := F5.out.1.hV; have := F5.out.1.box.lt; show _ ≤ _; simp; omega
            go_wp2_with (first | (at_builtin; refine app_t1 rfl (.tmp 85) (.tmp 87) rfl (w.heap.size + 4) (.slice la k lc) k xs rfl HxA W5.heap.size 1 rfl hp (.slice a1 m1 d1) (.slice a2 m2 d2) rfl rfl hrgA hmA hBA ?_; intro av7 c7 w7 ho7 hg7 hat7; have F7 := hide (JI.push (ns := .slice a1 m1 d1) (ls := .slice a2 m2 d2) F5.out.1 (below_al (Below.refl _ _)) Hx.out Hall.out hd1.out hg7.out (by rw [htk, hhp.out]; exact ho7.out) hat7.out); obtain ⟨f0, f1, f2⟩ := F7.out.2.cells; have ff := F7.out.2.frz))
            refine ⟨⟨k + 1, by go_num, by omega, ts ++ [l[k]], av6, c6, av7, c7, by simp [htk], ?_, fun j' z' hz' => ?_⟩, by simp [intOf]; omega⟩
            · rw [List.take_succ_eq_append_getElem hkl, hs.out]; exact F7.out.1
            · by_cases hj : j' < ts.length
              · rw [List.getElem?_append_left hj] at hz'; exact H.out.2 j' z' hz'
              · rw [List.getElem?_append_right (by omega)] at hz'
                have hj0 : j' - ts.length = 0 := by have := (List.getElem?_eq_some_iff.1 hz').1; simp at this; omega
                rw [hj0] at hz'
                simp only [List.getElem?_cons_zero, Option.some.injEq] at hz'
                subst hz'
                have e : j' = k := by omega
                rw [e]; exact Wl.out
        · have np3 : Hid (¬ Prt n m[q] l[k]) := fun z => by have := hbk1'.out.2 z; cases this
          obtain ⟨t0, t1, t2⟩ := X4.out.cells
          have y2 := J4.out.bb.cells.2.2
          obtain ⟨r0, r1, r2⟩ := hRR.out _ J4.out.below
          have hlt0 := J4.out.bb.lt
          have hlt1 := X4.out.lt
          have hltb : b2 < w4.heap.size := Nat.lt_of_lt_of_le hbl2 (below_then H0.out J4.out.below).size
          have kk := hide (fun W (hW : Below w4.heap.size w4 W) => k2.out W (below_then J4.out.below hW))
          have mkS : Hid (∀ W : World, Below w4.heap.size w4 W → W.cell? ⟨w.heap.size + 1, 2, none⟩ = some (.slice (some ⟨b2, o2, none⟩) m.length dl) ∧ W.cell? ⟨wr.heap.size, 0, none⟩ = some (.int .i64 hp.kind) ∧ W.cell? ⟨wr.heap.size, 1, none⟩ = some (.slice a1 m1 d1) ∧ W.cell? ⟨wr.heap.size, 2, none⟩ = some (.slice a2 m2 d2) ∧ W.cell? ⟨b2, o2 + q * 3, none⟩ = some (.int .i64 hQ.kind) ∧ W.cell? ⟨b2, o2 + q * 3 + 1, none⟩ = some (.slice a3 m3 d3) ∧ W.cell? ⟨b2, o2 + q * 3 + 2, none⟩ = some (.slice a4 m4 d4)) := fun W hW => ⟨(hW.cell (p := ⟨w.heap.size + 1, 2, none⟩) (by show _ < w4.heap.size; omega)).trans y2, (hW.cell (p := ⟨wr.heap.size, 0, none⟩) (by show _ < w4.heap.size; omega)).trans t0, (hW.cell (p := ⟨wr.heap.size, 1, none⟩) (by show _ < w4.heap.size; omega)).trans t1, (hW.cell (p := ⟨wr.heap.size, 2, none⟩) (by show _ < w4.heap.size; omega)).trans t2, (hW.cell (p := ⟨b2, o2 + q * 3, none⟩) (by show _ < w4.heap.size; omega)).trans r0, (hW.cell (p := ⟨b2, o2 + q * 3 + 1, none⟩) (by show _ < w4.heap.size; omega)).trans r1, (hW.cell (p := ⟨b2, o2 + q * 3 + 2, none⟩) (by show _ < w4.heap.size; omega)).trans r2⟩
          go_wp2_with fail
          go_region_held3 (fun W => W.cell? ⟨w.heap.size + 1, 2, none⟩ = some (.slice (some ⟨b2, o2, none⟩) m.length dl) ∧ W.cell? ⟨wr.heap.size, 0, none⟩ = some (.int .i64 hp.kind) ∧ W.cell? ⟨wr.heap.size, 1, none⟩ = some (.slice a1 m1 d1) ∧ W.cell? ⟨wr.heap.size, 2, none⟩ = some (.slice a2 m2 d2) ∧ W.cell? ⟨b2, o2 + q * 3, none⟩ = some (.int .i64 hQ.kind) ∧ W.cell? ⟨b2, o2 + q * 3 + 1, none⟩ = some (.slice a3 m3 d3) ∧ W.cell? ⟨b2, o2 + q * 3 + 2, none⟩ = some (.slice a4 m4 d4)) (first | (exact mkS.out _ T3.out) | (simp [go_sem]; done) | go_keep) (first | (go_at_call 42; refine (kk.out _ (by repeat (first | exact Below.refl _ _ | refine below_dr ?_ | refine below_al ?_ | refine below_dn ?_ _))).mono ?_; rintro e w5 ⟨rfl, hb3⟩; have T3 : Hid (Below w4.heap.size w4 w5) := below_then (by repeat (first | exact Below.refl _ _ | refine below_dr ?_ | refine below_al ?_ | refine below_dn ?_ _)) hb3))
          clear mkS
          clear hlt0 hlt1 hltb t0 t1 t2 y2 r0 r1 r2 kk
          have J5 : Hid (JI n w0 w ⟨11, hm⟩ ⟨11, gm⟩ (.slice (some ⟨b, o, none⟩) hm.length cn) (.slice (some ⟨b1, o1, none⟩) l.length cl) (.slice bn gm.length dn) (.slice (some ⟨b2, o2, none⟩) m.length dl) w2.heap.size (hm.take k) ts (.slice na k nc) (.slice la k lc) w5) := J4.out.then T3.out
          have X5 : Hid (Tx w5 wr.heap.size hp (.slice a1 m1 d1) (.slice a2 m2 d2)) := X4.out.below T3.out
          clear T3 J4 X4 k2
          cases bk2
          · have np4 : Hid (¬ Prt n l[k] m[q]) := fun z => by have := hbk2'.out.2 z; cases this
            obtain ⟨z0, z1, z2⟩ := J5.out.bz.cells
            have zf := J5.out.bz.frz
            obtain ⟨v0, v1, v2⟩ := J5.out.be.cells
            go_wp2_with fail
            refine bodyPost_ret (v := .agg #[.int .i64 1, .slice none 0 0, .slice none 0 0]) (by simp [results, Tryd.results45, go_sem, *]) rfl ?_
            exact fin.out _ (by repeat (first | exact J5.out.below | refine Below.setCell ?_ (by show w.heap.size ≤ w.heap.size + 2; omega) _)) (Or.inr (Or.inl ⟨q, k, s, l[k], m[q], hqN.out.1, hqN.out.2.1, hkN.out.1, hkN.out.2, np3.out, np4.out⟩))
          · have Wl : Hid (Wd n ((⟨11, hm⟩, l) : TT (n + 1)) (⟨11, gm⟩, m) gm.length k m[q]) := ⟨s, l[k], hkN.out.1, hkN.out.2, Or.inr ⟨q, m[q], hqN.out.2.2, hqN.out.1, hqN.out.2.1, Or.inr ⟨np3.out, hbk2'.out.1 (by simp), rfl⟩⟩⟩
            obtain ⟨W6, hW6⟩ : ∃ W6, ((w5.setCell ⟨wr.heap.size, 0, none⟩ (.int .i64 hQ.kind)).setCell ⟨wr.heap.size, 1, none⟩ (.slice a3 m3 d3)).setCell ⟨wr.heap.size, 2, none⟩ (.slice a4 m4 d4) = W6 := ⟨_, rfl⟩
            have X6 : Hid (Tx W6 wr.heap.size hQ (.slice a3 m3 d3) (.slice a4 m4 d4)) := by
              rw [← hW6]
              have s0 := set_heap9 w5 wr.heap.size 0 _ _ (.int .i64 hQ.kind) X5.out.at_
              have s1 := set_heap9 _ wr.heap.size 1 _ _ (.slice a3 m3 d3) s0.1
              have s2 := set_heap9 _ wr.heap.size 2 _ _ (.slice a4 m4 d4) s1.1
              exact ⟨s2.1⟩
            have J6 : Hid (JI n w0 w ⟨11, hm⟩ ⟨11, gm⟩ (.slice (some ⟨b, o, none⟩) hm.length cn) (.slice (some ⟨b1, o1, none⟩) l.length cl) (.slice bn gm.length dn) (.slice (some ⟨b2, o2, none⟩) m.length dl) w2.heap.size (hm.take k) ts (.slice na k nc) (.slice la k lc) W6) := by
              have B6 : ∀ q, q ≠ wr.heap.size → W6.heap[q]? = w5.heap[q]? := fun q hq => by rw [← hW6, heap_set_ne hq, heap_set_ne hq, heap_set_ne hq]
              have e1 := H.out.1.ba.lt
              have e2 := H.out.1.bb.lt
              have e3 := H.out.1.bz.lt
              have e4 := H.out.1.be.lt
              have e5 := hVl.out
              refine ⟨?_, J5.out.hV, ⟨(B6 _ (by omega)).trans J5.out.box.at_⟩, ownsRow_of J5.out.nrow fun g hg _ => B6 g (fun e => hnT.out (e ▸ hg)), J5.out.lrow.keep fun g hg _ => B6 g (fun e => hlT.out (e ▸ hg)), J5.out.nne, J5.out.lne, ⟨(B6 _ (by omega)).trans J5.out.ba.at_⟩, ⟨(B6 _ (by omega)).trans J5.out.bb.at_⟩, (B6 _ (by omega)).trans J5.out.bz, ⟨(B6 _ (by omega)).trans J5.out.be.at_⟩⟩
              rw [← hW6]
              iterate 3 refine Below.setCell ?_ (by show w.heap.size ≤ wr.heap.size; omega) _
              exact J5.out.below
            have tf := X5.out.frz
            obtain ⟨t0, t1, t2⟩ := X5.out.cells
            have y2 := J5.out.bb.cells.2.2
            obtain ⟨r0, r1, r2⟩ := hRR.out _ J5.out.below
            obtain ⟨v0, v1, v2⟩ := J6.out.box.cells
            have vf := J6.out.box.frz
            obtain ⟨x0, x1, x2⟩ := J6.out.ba.cells
            have hc := hcell.out _ J6.out.below
            have x1a := fun o => (J6.out.ba.below (W1 := W6.alloc o) (below_al (Below.refl _ _))).cells.2.1
            have v1a := fun o => (J6.out.box.below (W1 := W6.alloc o) (below_al (Below.refl _ _))).cells.2.1
            have hca := fun o => hcell.out _ (below_al (o := o) J6.out.below)
            have hcl : (W6.alloc (.cells #[.string s] 9)).cell? ⟨W6.heap.size, 0, none⟩ = some (.string s) := by unfold World.cell?; rw [show (W6.alloc (.cells #[.string s] 9)).heap[W6.heap.size]? = _ from heap_alloc_last W6 _]; rfl
            have hcl := hide hcl
            have hBs : Hid (w.heap.size + 4 ≤ (W6.alloc (.cells #[.string s] 9)).heap.size) := by have := J6.out.hV; have := J6.out.box.lt; show _ ≤ _; simp; omega
            have finN : Hid (∀ w6 av6 c6, (W6.alloc (.cells #[.string s] 9)).grownBy w6 (Value.slice na k nc).ownBlock → w6.ownsRow (w.heap.size + 4) 9 1 (.slice av6 (k + 1) c6) (k + 1) (scs (hm.take k) ++ [.string s]) → ((Value.slice av6 (k + 1) c6).ownBlock = (Value.slice na k nc).ownBlock ∨ (Value.slice av6 (k + 1) c6).ownBlock = some (W6.alloc (.cells #[.string s] 9)).heap.size) → (JI n w0 w ⟨11, hm⟩ ⟨11, gm⟩ (.slice (some ⟨b, o, none⟩) hm.length cn) (.slice (some ⟨b1, o1, none⟩) l.length cl) (.slice bn gm.length dn) (.slice (some ⟨b2, o2, none⟩) m.length dl) w2.heap.size (hm.take k ++ [s]) ts (.slice av6 (k + 1) c6) (.slice la k lc) (w6.setCell ⟨w2.heap.size, 1, none⟩ (.slice av6 (k + 1) c6)) ∧ Tx w6 w2.heap.size ⟨11, hm.take k⟩ (.slice na k nc) (.slice la k lc)) ∧ Tx (w6.setCell ⟨w2.heap.size, 1, none⟩ (.slice av6 (k + 1) c6)) wr.heap.size hQ (.slice a3 m3 d3) (.slice a4 m4 d4)) := by
              intro w6 av6 c6 hg6 ho6 hat6
              refine ⟨JI.name J6.out (below_al (Below.refl _ _)) hg6 (by rw [hlen.out]; exact ho6) hat6, ⟨?_⟩⟩
              have e1 := X6.out.lt
              have e2 := hVl.out
              rw [heap_set_ne (show wr.heap.size ≠ w2.heap.size by omega), hg6.block wr.heap.size (by simp; omega) (fun e => hnT.out e.symm), (below_al (Below.refl W6.heap.size W6)).block wr.heap.size e1]
              exact X6.out.at_
            go_wp2_with fail
            go_region_law (first | (refine step_n1 rfl (.tmp 75) (.tmp 81) rfl (w.heap.size + 4) (.slice na k nc) (hm.take k) k hlen.out rfl (ownsRow_of J6.out.nrow fun g hg hlt => by first | exact (below_al (Below.refl W6.heap.size W6)).block g hlt | exact (below_dr (below_al (Below.refl W6.heap.size W6))).block g hlt) W6.heap.size 1 rfl s hcl.out (by omega) hBs.out ?_; intro av6 c6 w6 ho6 hg6 hat6; have F6 := hide (finN.out w6 av6 c6 (by first | exact grown_dr hg6.out | exact hg6.out) ho6.out hat6.out); obtain ⟨f0, f1, f2⟩ := F6.out.1.2.cells; have ff := F6.out.1.2.frz; obtain ⟨W5, hW5⟩ : ∃ W5, w6.setCell ⟨w2.heap.size, 1, none⟩ (.slice av6 (k + 1) c6) = W5 := ⟨_, rfl⟩; have F5 := hide (And.intro F6.out.1.1 F6.out.2); rw [hW5] at F5; clear F6 ho6 hg6 hat6))
            all_goals
              clear f0 f1 f2 ff hW5 v0 v1 v2 vf x0 x1 x2 hc x1a v1a hca
              obtain ⟨v0, v1, v2⟩ := F5.out.1.box.cells
              have vf := F5.out.1.box.frz
              obtain ⟨t0, t1, t2⟩ := F5.out.2.cells
              obtain ⟨xs, hx5, hall⟩ := F5.out.1.lrow
              have Hx := hide hx5
              have Hall := hide hall
              clear hx5 hall
              have HxA : Hid ((W5.alloc (.cells #[.int .i64 hQ.kind, .slice a3 m3 d3, .slice a4 m4 d4] 26)).ownsRow (w.heap.size + 4) 26 3 (.slice la k lc) k xs) := by
                have h5 := Hx.out
                rw [htk] at h5
                exact ownsRow_of h5 fun g hg hlt => (below_al (Below.refl W5.heap.size W5)).block g hlt
              have hrgA : Hid ((W5.alloc (.cells #[.int .i64 hQ.kind, .slice a3 m3 d3, .slice a4 m4 d4] 26)).rangeAt W5.heap.size 0 (tvs hQ (.slice a3 m3 d3) (.slice a4 m4 d4)).toList) := (tx_new W5 hQ (.slice a3 m3 d3) (.slice a4 m4 d4)).range
              have hmA : Hid (k ≤ 200000) := by show _ ≤ _; omega
              have hBA : Hid (w.heap.size + 4 ≤ (W5.alloc (.cells #[.int .i64 hQ.kind, .slice a3 m3 d3, .slice a4 m4 d4] 26)).heap.size) := by have := F5.out.1.hV; have := F5.out.1.box.lt; show _ ≤ _; simp; omega
              go_wp2_with (first | (at_builtin; refine app_t1 rfl (.tmp 85) (.tmp 87) rfl (w.heap.size + 4) (.slice la k lc) k xs rfl HxA W5.heap.size 1 rfl hQ (.slice a3 m3 d3) (.slice a4 m4 d4) rfl rfl hrgA hmA hBA ?_; intro av7 c7 w7 ho7 hg7 hat7; have F7 := hide (JI.push (ns := .slice a3 m3 d3) (ls := .slice a4 m4 d4) F5.out.1 (below_al (Below.refl _ _)) Hx.out Hall.out hd2.out hg7.out (by rw [htk, hhQ.out]; exact ho7.out) hat7.out); obtain ⟨f0, f1, f2⟩ := F7.out.2.cells; have ff := F7.out.2.frz))
              refine ⟨⟨k + 1, by go_num, by omega, ts ++ [m[q]], av6, c6, av7, c7, by simp [htk], ?_, fun j' z' hz' => ?_⟩, by simp [intOf]; omega⟩
              · rw [List.take_succ_eq_append_getElem hkl, hs.out]; exact F7.out.1
              · by_cases hj : j' < ts.length
                · rw [List.getElem?_append_left hj] at hz'; exact H.out.2 j' z' hz'
                · rw [List.getElem?_append_right (by omega)] at hz'
                  have hj0 : j' - ts.length = 0 := by have := (List.getElem?_eq_some_iff.1 hz').1; simp at this; omega
                  rw [hj0] at hz'
                  simp only [List.getElem?_cons_zero, Option.some.injEq] at hz'
                  subst hz'
                  have e : j' = k := by omega
                  rw [e]; exact Wl.out
    · have hki : ¬ ((k : Int) < (hm.length : Int)) := by omega
      have hke : k = hm.length := by omega
      have J0 : Hid (JI n w0 w ⟨11, hm⟩ ⟨11, gm⟩ (.slice an hm.length cn) (.slice al l.length cl) (.slice bn gm.length dn) (.slice bl' m.length dl) w2.heap.size (hm ++ []) (ts ++ []) (.slice na k nc) (.slice la k lc) wr) := by have h5 := H.out.1; rw [List.take_of_length_le (by omega)] at h5; rw [List.append_nil, List.append_nil]; exact h5
      have HW : Hid (∀ j z, ts[j]? = some z → Wd n ((⟨11, hm⟩, l) : TT (n + 1)) (⟨11, gm⟩, m) gm.length j z) := H.out.2
      have hL : Hid (ts.length = l.length) := by have := hA.out.1; show _ = _; omega
      clear H
      go_wp2_with fail
      go_loopw [10] (fun i w' => ∃ k' : Nat, i = .int .i64 k' ∧ k' ≤ gm.length ∧ ∃ (ns' : List ByteArray) (ts' : List (TT n)) (N : Nat) (na : Option Addr) (nc : Nat) (la : Option Addr) (lc : Nat), (hm ++ ns').length = N ∧ (ts ++ ts').length = N ∧ N ≤ 8192 ∧ Hid (JI n w0 w ⟨11, hm⟩ ⟨11, gm⟩ (.slice an hm.length cn) (.slice al l.length cl) (.slice bn gm.length dn) (.slice bl' m.length dl) w2.heap.size (hm ++ ns') (ts ++ ts') (.slice na N nc) (.slice la N lc) w' ∧ New n ((⟨11, hm⟩, l) : TT (n + 1)) (⟨11, gm⟩, m) k' ns' ts')) (fun i _ => gm.length - (intOf i).toNat)
      case atStart => exact ⟨0, rfl, Nat.zero_le _, [], [], k, na, nc, la, lc, by simp; omega, by simp; omega, by omega, J0.out, rfl, rfl⟩
      case round =>
        clear J0 x0 x1 x2 hki hk'
        obtain ⟨r, rfl, hk', ns', ts', N, na, nc, la, lc, hN1, hN2, hN3, H⟩ := hrel
        obtain ⟨x0, x1, x2⟩ := H.out.1.ba.cells
        obtain ⟨y0, y1, y2⟩ := H.out.1.bb.cells
        by_cases hkl : r < gm.length
        · have hki : (r : Int) < (gm.length : Int) := by omega
          have hk63 : (r : Int) < 9223372036854775807 := by omega
          have hkL : r < m.length := by have := hB.out.1; omega
          have hkLi : (r : Int) < (m.length : Int) := by omega
          obtain ⟨b, o, c, he, hbl, hlc, hcm, hcell⟩ := hy'.out.1.at r hkl
          have he' := Value.slice.inj he
          obtain ⟨rfl, _, rfl⟩ := he'
          clear he
          have hcell := hide (fun W (hW : Below w.heap.size w W) => ((below_then H0.out hW).cell (p := ⟨b, o + r, none⟩) hbl).trans hcell)
          obtain ⟨s, hs⟩ : ∃ s, Hid (gm[r] = s) := ⟨_, hide rfl⟩
          simp only at hcell
          rw [hs.out] at hcell
          obtain ⟨b1, o1, f1, he, hbl1, hlc1, hcm1, ns1, ls1, hrg1, hrd1⟩ := hy'.out.at r hkL
          have he' := Value.slice.inj he
          obtain ⟨rfl, _, rfl⟩ := he'
          clear he
          have hrg1 := hide hrg1
          have hd1 := hide hrd1
          obtain ⟨a1, m1, d1, a2, m2, d2, rfl, rfl⟩ := hrd1.shape
          clear hrd1
          obtain ⟨hp, hhp⟩ : ∃ hp, Hid (thd n m[r] = hp) := ⟨_, hide rfl⟩
          have hRR := hide (fun W (hW : Below w.heap.size w W) => range3 (rangeAt_below hrg1.out (below_then H0.out hW) hbl1))
          simp only [tvs] at hRR
          rw [hhp.out] at hRR
          clear hrg1
          have hP := hide (fun W (hb : Below wr.heap.size wr W) => place_any (.slice an hm.length cn) hm s W (hx'.out.1.below (below_then H0.out (below_then H.out.1.below hb))))
          have hlt0 := H.out.1.ba.lt
          have hlt1 := H.out.1.bb.lt
          have hltb : b < wr.heap.size := Nat.lt_of_lt_of_le hbl (below_then H0.out H.out.1.below).size
          have u3 := hcell.out _ H.out.1.below
          have mkS : Hid (∀ W : World, Below wr.heap.size wr W → W.cell? ⟨w.heap.size, 1, none⟩ = some (.slice an hm.length cn) ∧ W.cell? ⟨w.heap.size + 1, 1, none⟩ = some (.slice (some ⟨b, o, none⟩) gm.length dn) ∧ W.cell? ⟨b, o + r, none⟩ = some (.string s)) := fun W hW => ⟨(hW.cell (p := ⟨w.heap.size, 1, none⟩) (by show _ < wr.heap.size; omega)).trans x1, (hW.cell (p := ⟨w.heap.size + 1, 1, none⟩) (by show _ < wr.heap.size; omega)).trans y1, (hW.cell (p := ⟨b, o + r, none⟩) (by show _ < wr.heap.size; omega)).trans u3⟩
          go_wp2_with fail
          go_region_held3 (fun W => W.cell? ⟨w.heap.size, 1, none⟩ = some (.slice an hm.length cn) ∧ W.cell? ⟨w.heap.size + 1, 1, none⟩ = some (.slice (some ⟨b, o, none⟩) gm.length dn) ∧ W.cell? ⟨b, o + r, none⟩ = some (.string s)) (first | (exact mkS.out _ T3.out) | (simp [go_sem]; done) | go_keep) (first | (go_at_call 57; refine (hP.out _ (by repeat (first | exact Below.refl _ _ | refine below_dr ?_ | refine below_al ?_ | refine below_dn ?_ _))).mono ?_; rintro e w3 ⟨rq, rfl, hr4, hb3⟩; have T3 : Hid (Below wr.heap.size wr w3) := below_then (by repeat (first | exact Below.refl _ _ | refine below_dr ?_ | refine below_al ?_ | refine below_dn ?_ _)) hb3))
          clear mkS
          clear hlt0 hlt1 hltb u3 hP
          have J3 : Hid (JI n w0 w ⟨11, hm⟩ ⟨11, gm⟩ (.slice an hm.length cn) (.slice al l.length cl) (.slice (some ⟨b, o, none⟩) gm.length dn) (.slice (some ⟨b1, o1, none⟩) m.length dl) w2.heap.size (hm ++ ns') (ts ++ ts') (.slice na N nc) (.slice la N lc) w3) := H.out.1.then T3.out
          clear T3 x0 x1 x2 y0 y1 y2
          rcases hr4.out with ⟨rfl, hn⟩ | ⟨q, rfl, hq, hqe⟩
          · have hn := hide hn
            clear hr4
            obtain ⟨v0, v1, v2⟩ := J3.out.box.cells
            have vf := J3.out.box.frz
            obtain ⟨y0, y1, y2⟩ := J3.out.bb.cells
            have hc := hcell.out _ J3.out.below
            have y1a := fun o => (J3.out.bb.below (W1 := w3.alloc o) (below_al (Below.refl _ _))).cells.2.1
            have v1a := fun o => (J3.out.box.below (W1 := w3.alloc o) (below_al (Below.refl _ _))).cells.2.1
            have hca := fun o => hcell.out _ (below_al (o := o) J3.out.below)
            have hcl : (w3.alloc (.cells #[.string s] 9)).cell? ⟨w3.heap.size, 0, none⟩ = some (.string s) := by unfold World.cell?; rw [show (w3.alloc (.cells #[.string s] 9)).heap[w3.heap.size]? = _ from heap_alloc_last w3 _]; rfl
            have hcl := hide hcl
            have hBs : Hid (w.heap.size + 4 ≤ (w3.alloc (.cells #[.string s] 9)).heap.size) := by have := J3.out.hV; have := J3.out.box.lt; show _ ≤ _; simp; omega
            have finN : Hid (∀ w6 av6 c6, (w3.alloc (.cells #[.string s] 9)).grownBy w6 (Value.slice na N nc).ownBlock → w6.ownsRow (w.heap.size + 4) 9 1 (.slice av6 (N + 1) c6) (N + 1) (scs (hm ++ ns') ++ [.string s]) → ((Value.slice av6 (N + 1) c6).ownBlock = (Value.slice na N nc).ownBlock ∨ (Value.slice av6 (N + 1) c6).ownBlock = some (w3.alloc (.cells #[.string s] 9)).heap.size) → (JI n w0 w ⟨11, hm⟩ ⟨11, gm⟩ (.slice an hm.length cn) (.slice al l.length cl) (.slice (some ⟨b, o, none⟩) gm.length dn) (.slice (some ⟨b1, o1, none⟩) m.length dl) w2.heap.size (hm ++ ns' ++ [s]) (ts ++ ts') (.slice av6 (N + 1) c6) (.slice la N lc) (w6.setCell ⟨w2.heap.size, 1, none⟩ (.slice av6 (N + 1) c6)) ∧ Tx w6 w2.heap.size ⟨11, hm ++ ns'⟩ (.slice na N nc) (.slice la N lc))) := by
              intro w6 av6 c6 hg6 ho6 hat6
              exact JI.name J3.out (below_al (Below.refl _ _)) hg6 (by rw [hN1]; exact ho6) hat6
            have hN1' := hide hN1
            try simp only [Int.reduceNeg, Int.reduceLT, decide_true, decide_false]
            try go_simp
            go_wp2_with fail
            go_region_law (first | (refine step_n1 rfl (.tmp 107) (.tmp 113) rfl (w.heap.size + 4) (.slice na N nc) (hm ++ ns') N hN1'.out rfl (ownsRow_of J3.out.nrow fun g hg hlt => by first | exact (below_al (Below.refl w3.heap.size w3)).block g hlt | exact (below_dr (below_al (Below.refl w3.heap.size w3))).block g hlt) w3.heap.size 1 rfl s hcl.out (by omega) hBs.out ?_; intro av6 c6 w6 ho6 hg6 hat6; have F6 := hide (finN.out w6 av6 c6 (by first | exact grown_dr hg6.out | exact hg6.out) ho6.out hat6.out); obtain ⟨f0, f1, f2⟩ := F6.out.2.cells; have ff := F6.out.2.frz; obtain ⟨W5, hW5⟩ : ∃ W5, w6.setCell ⟨w2.heap.size, 1, none⟩ (.slice av6 (N + 1) c6) = W5 := ⟨_, rfl⟩; have F5 := hide F6.out.1; rw [hW5] at F5; clear F6 ho6 hg6 hat6))
            all_goals
              clear f0 f1 f2 ff hW5 v0 v1 v2 vf y0 y1 y2 hc y1a v1a hca finN hBs hcl
              obtain ⟨v0, v1, v2⟩ := F5.out.box.cells
              have vf := F5.out.box.frz
              obtain ⟨y0, y1, y2⟩ := F5.out.bb.cells
              obtain ⟨r0, r1, r2⟩ := hRR.out _ F5.out.below
              have v2a := fun o => (F5.out.box.below (W1 := W5.alloc o) (below_al (Below.refl _ _))).cells.2.2
              obtain ⟨xs, hx5, hall⟩ := F5.out.lrow
              have Hx := hide hx5
              have Hall := hide hall
              clear hx5 hall
              have HxB : Hid (W5.ownsRow (w.heap.size + 4) 26 3 (.slice la N lc) N xs) := by have h5 := Hx.out; rw [hN2] at h5; exact h5
              have hBA : Hid (w.heap.size + 4 ≤ (W5.alloc (.cells (tvs hp (.slice a1 m1 d1) (.slice a2 m2 d2)) 26)).heap.size) := by have := F5.out.hV; have := F5.out.box.lt; show _ ≤ _; simp; omega
              have finT : Hid (∀ w7 av7 c7, (W5.alloc (.cells (tvs hp (.slice a1 m1 d1) (.slice a2 m2 d2)) 26)).grownBy w7 (Value.slice la N lc).ownBlock → w7.ownsRow (w.heap.size + 4) 26 3 (.slice av7 (N + 1) c7) (N + 1) (xs ++ (tvs hp (.slice a1 m1 d1) (.slice a2 m2 d2)).toList) → ((Value.slice av7 (N + 1) c7).ownBlock = (Value.slice la N lc).ownBlock ∨ (Value.slice av7 (N + 1) c7).ownBlock = some (W5.alloc (.cells (tvs hp (.slice a1 m1 d1) (.slice a2 m2 d2)) 26)).heap.size) → (JI n w0 w ⟨11, hm⟩ ⟨11, gm⟩ (.slice an hm.length cn) (.slice al l.length cl) (.slice (some ⟨b, o, none⟩) gm.length dn) (.slice (some ⟨b1, o1, none⟩) m.length dl) w2.heap.size (hm ++ ns' ++ [s]) (ts ++ ts' ++ [m[r]]) (.slice av6 (N + 1) c6) (.slice av7 (N + 1) c7) (w7.setCell ⟨w2.heap.size, 2, none⟩ (.slice av7 (N + 1) c7)) ∧ Tx w7 w2.heap.size ⟨11, hm ++ ns' ++ [s]⟩ (.slice av6 (N + 1) c6) (.slice la N lc))) := by
                intro w7 av7 c7 hg7 ho7 hat7
                exact JI.push (ns := .slice a1 m1 d1) (ls := .slice a2 m2 d2) F5.out (below_al (Below.refl _ _)) Hx.out Hall.out hd1.out hg7 (by rw [hN2, hhp.out]; exact ho7) hat7
              go_wp2_with fail
              go_region_law (first | (refine step_t rfl (.tmp 117) (.tmp 123) rfl (w.heap.size + 4) (.slice la N lc) N xs rfl (ownsRow_of HxB.out fun g hg hlt => by first | exact (below_al (Below.refl W5.heap.size W5)).block g hlt | exact (below_dr (below_al (Below.refl W5.heap.size W5))).block g hlt) W5.heap.size 1 rfl hp (.slice a1 m1 d1) (.slice a2 m2 d2) rfl rfl ((tx_new W5 hp (.slice a1 m1 d1) (.slice a2 m2 d2)).range) (by omega) hBA.out ?_; intro av7 c7 w7 ho7 hg7 hat7; have F7 := hide (finT.out w7 av7 c7 (by first | exact grown_dr hg7.out | exact hg7.out) ho7.out hat7.out); obtain ⟨f0, f1, f2⟩ := F7.out.2.cells; have ff := F7.out.2.frz))
              all_goals
                go_wp2_with fail
                have hNL := H.out.2.len
                refine ⟨⟨r + 1, by go_num, by omega, ns' ++ [s], ts' ++ [m[r]], N + 1, av6, c6, av7, c7, by rw [← hN1]; simp; omega, by rw [← hN2]; simp; omega, by have := hN1'.out; simp at this; omega, ?_, ns', ts', H.out.2, Or.inl ⟨s, m[r], by rw [← hs.out]; exact List.getElem?_eq_getElem _, List.getElem?_eq_getElem _, hn.out, rfl, rfl⟩⟩, by simp [intOf]; omega⟩
                rw [← List.append_assoc, ← List.append_assoc]
                exact F7.out.1
          · have hqn : ¬ (q : Int) < 0 := by omega
            have hqd : decide ((q : Int) < 0) = false := decide_eq_false hqn
            have hmem : Hid (s ∈ hm) := by rw [← hqe]; exact List.getElem_mem _
            clear hr4 hqe
            try simp only [hqd]
            try go_simp
            go_wp2_with fail
            exact ⟨⟨r + 1, by go_num, by omega, ns', ts', N, na, nc, la, lc, hN1, hN2, hN3, J3.out, ns', ts', H.out.2, Or.inr ⟨s, by rw [← hs.out]; exact List.getElem?_eq_getElem _, hmem.out, rfl, rfl⟩⟩, by simp [intOf]; omega⟩
        · have hki : ¬ ((r : Int) < (gm.length : Int)) := by omega
          have hke2 : r = gm.length := by omega
          have R : Hid (RU n ((⟨11, hm⟩, l) : TT (n + 1)) (⟨11, gm⟩, m) (hm ++ ns') (ts ++ ts')) := ⟨ts, ns', ts', rfl, rfl, hL.out, by have h5 := H.out.2; rw [hke2] at h5; exact h5, HW.out⟩
          have S := hide (RU.to_us hA.out.1 hB.out.1 hA.out.2 hB.out.2 R.out)
          obtain ⟨E, hE⟩ := tchk_ex (n + 1) ((⟨11, hm ++ ns'⟩, ts ++ ts') : TT (n + 1))
          have hrd := S.out.rd hA.out.1 hA.out.2 hB.out.2 Zx.out Zy.out Sx.out Sy.out lbn
          have hR : TRd (n + 1) wr ((⟨11, hm ++ ns'⟩, ts ++ ts') : TT (n + 1)) (.slice na N nc) (.slice la N lc) := ⟨⟨OwnS.nl H.out.1.nrow, H.out.1.lrow.vl (below_then H0.out H.out.1.below)⟩, hrd.1, hrd.2⟩
          have cc := hide (fun W (hW : Below wr.heap.size wr W) => rtcheck_any rv (n + 1) ((⟨11, hm ++ ns'⟩, ts ++ ts') : TT (n + 1)) _ _ W (hR.below hW) E hE)
          simp only [thd, tvs] at cc
          have hE' := hide hE
          clear hE hrd hR S
          obtain ⟨v0, v1, v2⟩ := H.out.1.box.cells
          go_wp2_with fail
          refine (cc.out _ (Below.refl _ _)).mono ?_
          rintro e w5 ⟨rfl, hb5⟩
          have J5 := hide (H.out.1.then hb5)
          clear hb5 v0 v1 v2 x0 x1 x2 y0 y1 y2
          obtain ⟨z0, z1, z2⟩ := J5.out.bz.cells
          have zf := J5.out.bz.frz
          by_cases e0 : E = 0
          · obtain ⟨v0, v1, v2⟩ := J5.out.box.cells
            subst e0
            go_wp2_with fail
            refine bodyPost_ret (v := .agg #[.int .i64 11, .slice na N nc, .slice la N lc]) (by simp [results, Tryd.results45, go_sem, *]) rfl ?_
            refine ⟨(⟨11, hm ++ ns'⟩, ts ++ ts'), .slice na N nc, .slice la N lc, rfl, ⟨Or.inr (Or.inr (Or.inl ⟨np1.out, np2.out, rfl, rfl, hm ++ ns', ts ++ ts', R.out, hE'.out, rfl⟩)), fun W hW hWk => ⟨OwnS.nl (ownsRow_of J5.out.nrow fun q e hq => ?_), (J5.out.lrow.keep fun q e hq => ?_).vl hW⟩⟩, ?_⟩
            · have hlo := (World.ownsRow.lt J5.out.nrow q e).1
              have hne : q ≠ w.heap.size + 2 := by omega
              rw [hWk q (by omega) (by simpa using hq)]
              repeat rw [heap_set_ne hne]
            · have hlo := (J5.out.lrow.lt q e).1
              have hne : q ≠ w.heap.size + 2 := by omega
              rw [hWk q (by omega) (by simpa using hq)]
              repeat rw [heap_set_ne hne]
            · repeat (first | exact J5.out.below | refine Below.setCell ?_ (by show w.heap.size ≤ w.heap.size + 2; omega) _)
          · have e0b : (E == 0) = false := beq_eq_false_iff_ne.2 e0
            have e0c : (E != 0) = true := by simpa using e0
            have e0d : decide (E = 0) = false := decide_eq_false e0
            have e0h := hide e0
            clear e0
            obtain ⟨v0, v1, v2⟩ := J5.out.be.cells
            go_wp2_with fail
            refine bodyPost_ret (v := .agg #[.int .i64 1, .slice none 0 0, .slice none 0 0]) (by simp [results, Tryd.results45, go_sem, *]) rfl ?_
            refine fin.out _ (by repeat (first | exact J5.out.below | refine Below.setCell ?_ (by show w.heap.size ≤ w.heap.size + 2; omega) _)) (Or.inr (Or.inr ⟨hm ++ ns', ts ++ ts', R.out, fun q => ?_⟩))
            rcases hE'.out with ⟨e, k1⟩ | ⟨e, k1, k2⟩ | ⟨e, _⟩
            · exact absurd q.zero.1 k1
            · exact absurd q.zero.2 k2
            · exact e0h.out e
theorem joinedOk (rv : RVal) : RJoinedOk := fun n x y ns ls ns' ls' w0 w h0 hx hy cx cy => joined_any rv n x y ns ls ns' ls' w0 w h0 hx hy cx cy
end Go.Proofs.YtolmbjeinilhlaaDoor
