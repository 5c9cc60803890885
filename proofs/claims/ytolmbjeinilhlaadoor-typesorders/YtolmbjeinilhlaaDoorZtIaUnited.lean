/- types.united: walked. -/
import Derived.Test.YtolmbjeinilhlaaDoorZtIhM
namespace Go.Proofs.YtolmbjeinilhlaaDoor
open Go.RowKit Go.Maps
set_option linter.unusedSimpArgs false
set_option linter.unusedVariables false
section
variable {w : World} {ops : Array Oper} {rest : List Oper} {o : Oper} {a : Act} {Q : Exit → Act → World → Prop}
/-- append(names, one). -/
theorem app_n1 (hgd : o.guard = none) (s x : Operand) (ho : o.op = .call { callee := .builtin .append, args := #[s, x], argTypes := #[23, 23] })
    (B : Nat) (v : Value) (nm : List ByteArray) (N : Nat) (hN : Hid (nm.length = N)) (hs : a.eval s = v) (hown : Hid (OwnS w B v nm)) (g c : Nat) (hx : a.eval x = .slice (some ⟨g, 0, none⟩) 1 c) (st : ByteArray) (hnews : w.cell? ⟨g, 0, none⟩ = some (.string st)) (hm : Hid (N ≤ 200000)) (hB : Hid (B ≤ w.heap.size))
    (h : ∀ av c' w', Hid (w'.ownsRow B 9 1 (.slice av (N + 1) c') (N + 1) (scs nm ++ [.string st])) → Hid (w.grownBy w' v.ownBlock) → Hid ((Value.slice av (N + 1) c').ownBlock = v.ownBlock ∨ (Value.slice av (N + 1) c').ownBlock = some w.heap.size) → wpList Tryd.prog ops Q rest (a.put o.dst (.slice av (N + 1) c')) w') : wpList Tryd.prog ops Q (o :: rest) a w := by
  obtain ⟨i0, hi, hz0, hz1, hz2⟩ := info_parts info9
  have hN := hN.out
  have hm := hm.out
  have hown := hown.out
  unfold OwnS at hown
  rw [hN] at hown
  refine wpList_append_own_at w hgd s x 23 ho B 9 i0 (.string ⟨#[]⟩) 1 16 Tryd.underlying23 hi hz0 hz1 hz2 rfl (by decide) v N (scs nm) hs hown ⟨g, 0, none⟩ 1 c [.string st] hx rfl ?_ (by intro u hu; rw [List.mem_singleton] at hu; subst hu; rfl) (by unfold maxLen; omega) (by omega) hB.out ?_
  · intro j u hj
    have hj0 : j = 0 := by have := (List.getElem?_eq_some_iff.1 hj).1; simp at this; omega
    subst hj0
    simp only [List.getElem?_cons_zero, Option.some.injEq] at hj
    subst hj
    exact hnews
  · intro v' w' h1 h2 h3 h4
    rcases h1.2 with ⟨rfl, e⟩ | ⟨g', cap, cur, rfl, _⟩
    · omega
    · exact h _ _ w' h1 h2 h4
end
theorem grown_dr {w W : World} {ob : Option Nat} (h : w.drew.grownBy W ob) : w.grownBy W ob := ⟨h.os, h.tape, h.output, h.size, h.block⟩
theorem three_below {wr w5 : World} {a b c : Value} (h : Below wr.heap.size wr w5) : Below wr.heap.size wr (((w5.setCell ⟨wr.heap.size, 0, none⟩ a).setCell ⟨wr.heap.size, 1, none⟩ b).setCell ⟨wr.heap.size, 2, none⟩ c) := by
  iterate 3 refine Below.setCell ?_ (by show wr.heap.size ≤ wr.heap.size; exact Nat.le_refl _) _
  exact h
theorem three_tx {w5 : World} {T : Nat} {hh : Th} {b c : Value} (z : ZT w5 T) : Tx (((w5.setCell ⟨T, 0, none⟩ (.int .i64 hh.kind)).setCell ⟨T, 1, none⟩ b).setCell ⟨T, 2, none⟩ c) T hh b c := by
  have s0 := set_heap9 w5 T 0 _ _ (.int .i64 hh.kind) z
  have s1 := set_heap9 _ T 1 _ _ b s0.1
  have s2 := set_heap9 _ T 2 _ _ c s1.1
  exact ⟨s2.1⟩
theorem le_al (W : World) (o : Obj) : W.heap.size ≤ (W.alloc o).heap.size := by simp
theorem lt_al (W : World) (o : Obj) : W.heap.size < (W.alloc o).heap.size := by simp
/-- What united answers. -/
def UP (n : Nat) (a b : TT (n + 1)) (w0 w : World) (e : Ending) (w' : World) : Prop :=
  Below w.heap.size w w' ∧ ((Ubad n a b ∧ e = .returned (.tuple #[.agg #[.int .i64 0, .slice none 0 0, .slice none 0 0], .bool false])) ∨
    ∃ nm ts nv lv q, US n a b b.1.names.length nm ts ∧ e = .returned (.tuple #[.agg (tvs ⟨11, nm⟩ nv lv), .bool q]) ∧ (OwnS w' (w.heap.size + 3) nv nm ∧ OT n w0 w' (w.heap.size + 3) lv ts) ∧ (q = true ↔ TChk (n + 1) (⟨11, nm⟩, ts) 0))
set_option maxHeartbeats 4000000 in
set_option maxRecDepth 100000 in
theorem united_any (n : Nat) (h g : Th) (l m : List (TT n)) (ns ls ns' ls' : Value) (w0 w : World) (h0 : Below w0.heap.size w0 w) (hx : RT (n + 1) w0 (h, l) ns ls) (hy : RT (n + 1) w0 (g, m) ns' ls') (zx : TSz (n + 1) (h, l)) (zy : TSz (n + 1) (g, m)) (tx : IsT (n + 1) (h, l)) (ty : IsT (n + 1) (g, m)) (h11 : h.kind = 11) (g11 : g.kind = 11) (sx : tsiz (n + 1) (h, l) ≤ 4096) (sy : tsiz (n + 1) (g, m) ≤ 4096) (gu : Ut.Gu w) (gt : Gt w) :
    Calls Tryd.prog 61 #[.agg (tvs h ns ls), .agg (tvs g ns' ls')] w fun e w' => UP n (h, l) (g, m) w0 w e w' := by
  obtain ⟨al, cl, rfl, hl1, hl2⟩ := hx.len
  obtain ⟨an, cn, rfl, hn1, hn2⟩ := hx.1.len
  obtain ⟨bl', dl, rfl, hm1, hm2⟩ := hy.len
  obtain ⟨bn, dn, rfl, ho1, ho2⟩ := hy.1.len
  obtain ⟨la, na⟩ := tx.1.eleven h11
  obtain ⟨lb, nb⟩ := ty.1.eleven g11
  simp only at la na lb nb hl1 hl2 hn1 hn2 hm1 hm2 ho1 ho2
  have ll : l.length ≤ 4096 := by have := tsiz_len l; simp only [tsiz] at sx; omega
  have lm : m.length ≤ 4096 := by have := tsiz_len m; simp only [tsiz] at sy; omega
  have lan : h.names.length ≤ 4096 := by omega
  have lbn : g.names.length ≤ 4096 := by omega
  have la' := hide la
  have lb' := hide lb
  have na' := hide na
  have nb' := hide nb
  have h11' := hide h11
  have g11' := hide g11
  clear la lb na nb h11 g11
  obtain ⟨W0, hW0⟩ : ∃ W0, ((w.alloc (.cells #[.int .i64 h.kind, .slice an h.names.length cn, .slice al l.length cl] 26)).alloc (.cells #[.int .i64 g.kind, .slice bn g.names.length dn, .slice bl' m.length dl] 26)).alloc (.cells #[.int .i64 0, .slice none 0 0, .slice none 0 0] 26) = W0 := ⟨_, rfl⟩
  have hs0 : Hid (W0.heap.size = w.heap.size + 3) := by rw [← hW0]; show _ = _; simp
  have hb0 : Hid (Below w.heap.size w W0) := by rw [← hW0]; exact below_al (below_al (below_al (Below.refl _ _)))
  have hX : Hid (Tx W0 w.heap.size h (.slice an h.names.length cn) (.slice al l.length cl)) := by rw [← hW0]; exact (tx_new w h _ _).below (below_al (below_al (Below.refl _ _)))
  have hY : Hid (Tx W0 (w.heap.size + 1) g (.slice bn g.names.length dn) (.slice bl' m.length dl)) := by
    rw [← hW0]
    have := tx_new (w.alloc (.cells #[.int .i64 h.kind, .slice an h.names.length cn, .slice al l.length cl] 26)) g (.slice bn g.names.length dn) (.slice bl' m.length dl)
    rw [World.size_alloc] at this
    exact this.below (below_al (Below.refl _ _))
  have hZ : Hid (ZT W0 (w.heap.size + 2)) := by
    rw [← hW0]
    have := heap_alloc_last ((w.alloc (.cells #[.int .i64 h.kind, .slice an h.names.length cn, .slice al l.length cl] 26)).alloc (.cells #[.int .i64 g.kind, .slice bn g.names.length dn, .slice bl' m.length dl] 26)) (.cells #[.int .i64 0, .slice none 0 0, .slice none 0 0] 26)
    rw [World.size_alloc, World.size_alloc] at this
    exact this
  have c1 := hide (fun W (hb : Below W0.heap.size W0 W) => cloneS_any (.slice an h.names.length cn) h.names W (hx.1.below (below_then (below_then h0 hb0.out) hb)) (by omega))
  have c2 := hide (fun W (hb : Below W0.heap.size W0 W) => cloneT_any n (.slice al l.length cl) l w0 W (below_then (below_then h0 hb0.out) hb) hx.tl (by omega))
  have c3 := hide (fun W (hb : Below w.heap.size w W) => places_any (.slice an h.names.length cn) h.names W (hx.1.below (below_then h0 hb)) ⟨zx.1, zx.2.1⟩)
  have h0 := hide h0
  have hx := hide hx
  have hy := hide hy
  obtain ⟨x0, x1, x2⟩ := hX.out.cells
  have x1a := fun o => (hX.out.below (W1 := W0.alloc o) (below_al (Below.refl _ _))).cells.2.1
  have x2a := fun o => (hX.out.below (W1 := W0.alloc o) (below_al (Below.refl _ _))).cells.2.2
  show Calls _ _ #[.agg #[.int .i64 h.kind, .slice an h.names.length cn, .slice al l.length cl], .agg #[.int .i64 g.kind, .slice bn g.names.length dn, .slice bl' m.length dl]] _ _
  go_enter Tryd.func61, Tryd.ntmps61
  go_wp2_with fail
  refine Code.wp_mono (Q := Exit.then (fun a' W => ∃ (V : Nat) (na1 : Option Addr) (nc1 : Nat) (la2 : Option Addr) (lc2 : Nat), a' = { tmps := #[.agg #[.int .i64 h.kind, .slice an h.names.length cn, .slice al l.length cl], .agg #[.int .i64 g.kind, .slice bn g.names.length dn, .slice bl' m.length dl], .pointer (some ⟨w.heap.size, 0, none⟩), .pointer (some ⟨w.heap.size + 1, 0, none⟩), .pointer (some ⟨w.heap.size + 1 + 1, 0, none⟩), .bool false, .pointer (some ⟨V, 0, none⟩), undef, undef, undef, undef, undef, undef, undef, .pointer (some ⟨w.heap.size, 1, none⟩), .slice an h.names.length cn, .slice na1 h.names.length nc1, .pointer (some ⟨w.heap.size, 2, none⟩), .slice al l.length cl, .slice la2 l.length lc2, .agg #[.int .i64 11, .slice na1 h.names.length nc1, .slice la2 l.length lc2], undef, undef, undef, undef, undef, undef, undef, undef, undef, undef, undef, undef, undef, undef, undef, undef, undef, undef, undef, undef, undef, undef, undef, undef, undef, undef, undef, undef, undef, undef, undef, undef, undef, undef, undef, undef, undef, undef, undef, undef, undef, undef, undef, undef, undef, undef, undef, undef, undef, undef, undef, undef, undef, undef, undef, undef, undef, undef, undef, undef, undef, undef], defers := [] } ∧ Hid (U0 n w0 w h g (.slice an h.names.length cn) (.slice al l.length cl) (.slice bn g.names.length dn) (.slice bl' m.length dl) V l (.slice na1 h.names.length nc1) (.slice la2 l.length lc2) W)) (fun _ _ _ => False)) ?_ ?_
  · intro e a' W hpost
    cases e
    rotate_left
    all_goals first | exact False.elim hpost | skip
    obtain ⟨V, na1, nc1, la2, lc2, rfl, hU⟩ := hpost
    clear c1 c2 x0 x1 x2 x1a x2a hX hY hZ hs0 hb0 hW0
    obtain ⟨x0, x1, x2⟩ := hU.out.ba.cells
    go_wp2_with fail
    refine (c3.out _ hU.out.below).mono ?_
    rintro e w1 ⟨rfl, hM1, hb1⟩
    obtain ⟨MB, hMB⟩ : ∃ MB, W.heap.size = MB := ⟨_, rfl⟩
    have U1 := hide (hU.out.map hM1.out hb1)
    rw [hMB] at U1 ⊢
    clear hU hM1 hb1 hMB x0 x1 x2 c3
    obtain ⟨x0, x1, x2⟩ := U1.out.bb.cells
    go_wp2_with fail
    clear x0 x1 x2
    go_loopw [27] (fun i w' => ∃ k : Nat, i = .int .i64 k ∧ k ≤ g.names.length ∧ Hid (∃ nm ts na nc la lc, UI n w0 w h g (.slice an h.names.length cn) (.slice al l.length cl) (.slice bn g.names.length dn) (.slice bl' m.length dl) V MB nm ts (.slice na nm.length nc) (.slice la ts.length lc) w' ∧ US n (h, l) (g, m) k nm ts)) (fun i _ => g.names.length - (intOf i).toNat)
    case atStart => exact ⟨0, rfl, Nat.zero_le _, h.names, l, na1, nc1, la2, lc2, U1.out, rfl, rfl⟩
    case round =>
      clear U1
      obtain ⟨k, rfl, hk, H0⟩ := hrel
      obtain ⟨nm, ts, na, nc, la, lc, H1, S1⟩ := H0.out
      have H := hide H1
      have S := hide S1
      clear H1 S1 H0
      obtain ⟨x0, x1, x2⟩ := H.out.ba.cells
      obtain ⟨y0, y1, y2⟩ := H.out.bb.cells
      by_cases hkl : k < g.names.length
      · have hki : (k : Int) < (g.names.length : Int) := by omega
        have hk63 : (k : Int) < 9223372036854775807 := by omega
        have hkl2 : k < m.length := by have := lb'.out; omega
        have hki2 : (k : Int) < (m.length : Int) := by omega
        obtain ⟨b, o, c, he, hbl, hlc, hcm, hcell⟩ := hy.out.1.at k hkl
        have he' := Value.slice.inj he
        obtain ⟨rfl, _, rfl⟩ := he'
        clear he
        have hcell := ((below_then h0.out H.out.below).cell (p := ⟨b, o + k, none⟩) hbl).trans hcell
        obtain ⟨s, hs⟩ : ∃ s, Hid (g.names[k] = s) := ⟨_, hide rfl⟩
        simp only at hcell
        rw [hs.out] at hcell
        have ml : maxLen = 9223372036854775807 := rfl
        have hkey := hide (show keyOf Tryd.prog 9 (.string s) = some (ks s) from WideMaps.keyOf_string_mk Tryd.underlying9 (by have := zy.2.1 _ (List.getElem_mem hkl); simp only [hs.out] at this; omega))
        obtain ⟨b2, o2, e2, he, hbl2, hlc2, hcm2, ns2, ls2, hrg2, hrd2⟩ := hy.out.at k hkl2
        have he' := Value.slice.inj he
        obtain ⟨rfl, _, rfl⟩ := he'
        clear he
        have hrg2 := hide hrg2
        have hd2 := hide hrd2
        obtain ⟨a3, m3, d3, a4, m4, d4, rfl, rfl⟩ := hrd2.shape
        clear hrd2
        obtain ⟨hq, hhq⟩ : ∃ hq, Hid (thd n m[k] = hq) := ⟨_, hide rfl⟩
        simp only at hrg2 hd2
        rw [hhq.out] at hrg2
        have hMP := hide H.out.mp
        have lnm := hide (S.out.len la'.out)
        have hlnm : nm.length ≤ 9000 := by have := lnm.out; simp only at this; omega
        have hlts : ts.length ≤ 9000 := by have := lnm.out; simp only at this; omega
        obtain ⟨v0, v1, v2⟩ := H.out.box.cells
        have vf := H.out.box.frz
        by_cases hmem : s ∈ h.names
        · obtain ⟨j, hj, hje⟩ := Pl_idx hmem
          have hj' := hide (show j < l.length by have := la'.out; omega)
          have hje' := hide hje
          have hhas := hide ((has_Pl h.names s h.names.length (Nat.le_refl _)).2 (by rw [List.take_of_length_le (Nat.le_refl _)]; exact hmem))
          have hat := hide (Pl_at h.names na'.out j hj (.lit (.int .i64 0)) h.names.length hj (Nat.le_refl _))
          rw [hje] at hat
          clear hmem hje
          have hji : (j : Int) < (l.length : Int) := by have := hj'.out; omega
          have hj63 : (j : Int) < 9223372036854775807 := by omega
          have hjt : j < ts.length := by have h1 := lnm.out; have h2 := hj'.out; simp only at h1; omega
          have hjti : (j : Int) < (ts.length : Int) := by omega
          obtain ⟨b1, o1, e1, he, hbl1, hlc1, hcm1, ns1, ls1, hrg1, hrd1⟩ := hx.out.at j hj'.out
          have he' := Value.slice.inj he
          obtain ⟨rfl, _, rfl⟩ := he'
          clear he
          obtain ⟨q0, q1, q2⟩ := range3 (rangeAt_below hrg1 (below_then h0.out H.out.below) hbl1)
          obtain ⟨r0, r1, r2⟩ := range3 (rangeAt_below hrg2.out (below_then h0.out H.out.below) hbl2)
          have hd1 := hide hrd1
          obtain ⟨a1, m1, d1, a2, m2, d2, rfl, rfl⟩ := hrd1.shape
          clear hrg1 hrd1
          obtain ⟨hp, hhp⟩ : ∃ hp, Hid (thd n (l[j]'hj'.out) = hp) := ⟨_, hide rfl⟩
          simp only at q0 q1 q2 hd1
          rw [hhp.out] at q0
          obtain ⟨t1, ht1⟩ := tells (Prt n m[k] (l[j]'hj'.out))
          obtain ⟨t2, ht2⟩ := tells (Prt n (l[j]'hj'.out) m[k])
          have cw := hide (fun W (hW : Below wr.heap.size wr W) => wider_any n (l[j]'hj'.out) m[k] _ _ _ _ W (hd1.out.below (below_then (below_then h0.out H.out.below) hW)) (hd2.out.below (below_then (below_then h0.out H.out.below) hW)) (zx.2.2 _ (List.getElem_mem _)) (zy.2.2 _ (List.getElem_mem _)) (tx.2 _ (List.getElem_mem _)) (ty.2 _ (List.getElem_mem _)) t1 t2 ht1 ht2)
          rw [hhp.out, hhq.out] at cw
          simp only [tvs] at cw
          have ht1' := hide ht1
          have ht2' := hide ht2
          clear ht1 ht2
          have al' : ∀ o, Hid (Below wr.heap.size wr (wr.alloc o)) := fun o => below_al (Below.refl _ _)
          have x2a := fun o => (H.out.ba.below (al' o).out).cells.2.2
          have y2a := fun o => (H.out.bb.below (al' o).out).cells.2.2
          have hb1w : b1 < wr.heap.size := Nat.lt_of_lt_of_le hbl1 (below_then h0.out H.out.below).size
          have hb2w : b2 < wr.heap.size := Nat.lt_of_lt_of_le hbl2 (below_then h0.out H.out.below).size
          have q0a := fun o => ((al' o).out.cell (p := ⟨b1, o1 + j * 3, none⟩) hb1w).trans q0
          have q1a := fun o => ((al' o).out.cell (p := ⟨b1, o1 + j * 3 + 1, none⟩) hb1w).trans q1
          have q2a := fun o => ((al' o).out.cell (p := ⟨b1, o1 + j * 3 + 2, none⟩) hb1w).trans q2
          have r0a := fun o => ((al' o).out.cell (p := ⟨b2, o2 + k * 3, none⟩) hb2w).trans r0
          have r1a := fun o => ((al' o).out.cell (p := ⟨b2, o2 + k * 3 + 1, none⟩) hb2w).trans r1
          have r2a := fun o => ((al' o).out.cell (p := ⟨b2, o2 + k * 3 + 2, none⟩) hb2w).trans r2
          obtain ⟨rh, p1, p2, p3, p4, p5, p6, ok, er, hres⟩ : ∃ (rh : Th) (p1 : Option Addr) (p2 p3 : Nat) (p4 : Option Addr) (p5 p6 : Nat) (ok : Bool), widV t1 t2 (.agg #[.int .i64 hp.kind, .slice a1 m1 d1, .slice a2 m2 d2]) (.agg #[.int .i64 hq.kind, .slice a3 m3 d3, .slice a4 m4 d4]) = #[.agg #[.int .i64 rh.kind, .slice p1 p2 p3, .slice p4 p5 p6], .bool ok] ∧ Hid ((ok = true ∧ ∃ z : TT n, thd n z = rh ∧ RT n w0 z (.slice p1 p2 p3) (.slice p4 p5 p6) ∧ ((Prt n m[k] (l[j]'hj'.out) ∧ z = l[j]'hj'.out) ∨ (¬ Prt n m[k] (l[j]'hj'.out) ∧ Prt n (l[j]'hj'.out) m[k] ∧ z = m[k]))) ∨ (ok = false ∧ ¬ Prt n m[k] (l[j]'hj'.out) ∧ ¬ Prt n (l[j]'hj'.out) m[k])) := by
            cases t1
            · refine ⟨hq, a3, m3, d3, a4, m4, d4, t2, rfl, ?_⟩
              have np : ¬ Prt n m[k] (l[j]'hj'.out) := fun q => by have := ht1'.out.2 q; cases this
              cases t2
              · exact Or.inr ⟨rfl, np, fun q => by have := ht2'.out.2 q; cases this⟩
              · exact Or.inl ⟨rfl, m[k], hhq.out, hd2.out, Or.inr ⟨np, ht2'.out.1 rfl, rfl⟩⟩
            · exact ⟨hp, a1, m1, d1, a2, m2, d2, true, rfl, Or.inl ⟨rfl, l[j]'hj'.out, hhp.out, hd1.out, Or.inl ⟨ht1'.out.1 rfl, rfl⟩⟩⟩
          rw [er] at cw
          clear er ht1' ht2'
          go_wp2_with (first | (at_lookup; refine lookup_int_at _ rfl _ _ 72 rfl 9 3 .i64 keyS Tryd.underlying72 u3 (zero3 _) MB h.names.length (Pl h.names h.names.length) rfl hMP.out _ _ rfl hkey.out _ true hat.out hhas.out ?_))
          refine Code.wp_mono (Q := Exit.then (fun a' w' => ∃ T, a' = { tmps := #[.agg #[.int .i64 h.kind, .slice an h.names.length cn, .slice (some ⟨b1, o1, none⟩) l.length cl], .agg #[.int .i64 g.kind, .slice (some ⟨b, o, none⟩) g.names.length dn, .slice (some ⟨b2, o2, none⟩) m.length dl], .pointer (some ⟨w.heap.size, 0, none⟩), .pointer (some ⟨w.heap.size + 1, 0, none⟩), .pointer (some ⟨w.heap.size + 1 + 1, 0, none⟩), u5, .pointer (some ⟨V, 0, none⟩), .map (some MB), .int .i64 k, .string s, .int .i64 j, .bool true, .pointer (some ⟨T, 0, none⟩), .bool ok, .pointer (some ⟨w.heap.size, 1, none⟩), .slice an h.names.length cn, .slice na1 h.names.length nc1, .pointer (some ⟨w.heap.size, 2, none⟩), .slice (some ⟨b1, o1, none⟩) l.length cl, .slice la2 l.length lc2, .agg #[.int .i64 11, .slice na1 h.names.length nc1, .slice la2 l.length lc2], .pointer (some ⟨w.heap.size, 1, none⟩), .slice an h.names.length cn, .map (some MB), .pointer (some ⟨w.heap.size + 1, 1, none⟩), .slice (some ⟨b, o, none⟩) g.names.length dn, .int .i64 g.names.length, .int .i64 k, .bool true, .int .i64 k, .pointer (some ⟨b, o + k, none⟩), .string s, .tuple #[.int .i64 j, .bool true], .map (some MB), .string s, .tuple #[.int .i64 j, .bool true], .int .i64 j, .bool true, .bool true, .bool false, u40, u41, u42, u43, u44, u45, u46, u47, u48, u49, u50, u51, u52, u53, u54, u55, .tuple #[.agg #[.int .i64 rh.kind, .slice p1 p2 p3, .slice p4 p5 p6], .bool ok], .pointer (some ⟨w.heap.size, 2, none⟩), .slice (some ⟨b1, o1, none⟩) l.length cl, .int .i64 j, .pointer (some ⟨b1, o1 + j * 3, none⟩), .agg #[.int .i64 hp.kind, .slice a1 m1 d1, .slice a2 m2 d2], .pointer (some ⟨w.heap.size + 1, 2, none⟩), .slice (some ⟨b2, o2, none⟩) m.length dl, .int .i64 k, .pointer (some ⟨b2, o2 + k * 3, none⟩), .agg #[.int .i64 hq.kind, .slice a3 m3 d3, .slice a4 m4 d4], .tuple #[.agg #[.int .i64 rh.kind, .slice p1 p2 p3, .slice p4 p5 p6], .bool ok], .agg #[.int .i64 rh.kind, .slice p1 p2 p3, .slice p4 p5 p6], .bool ok, u70, u71, u72, u73, u74, u75, u76, u77, u78, undef, undef, undef, undef], defers := [] } ∧ Hid (Below wr.heap.size wr w') ∧ Hid (Tx w' T rh (.slice p1 p2 p3) (.slice p4 p5 p6))) (fun _ _ _ => False)) ?_ ?_
          · intro e a' W6 hpost
            cases e
            case normal =>
             obtain ⟨T, rfl, T6, B6⟩ := hpost
             clear x0 x1 x2 y0 y1 y2 q0 q1 q2 r0 r1 r2 x2a y2a q0a q1a q2a r0a r1a r2a v0 v1 v2 vf hcell cw
             rcases hres.out with ⟨rfl, z, hz1, hz2, hz3⟩ | ⟨rfl, np1, np2⟩
             · have hz1 := hide hz1
               have hz2 := hide hz2
               have hz3 := hide hz3
               have U6 := hide (H.out.then T6.out)
               obtain ⟨G, cG, he, g1, g2, g3, g4, gf, u0, u1, u2, gc0, gc1, gc2⟩ := U6.out.elt j hjt
               have he' := Value.slice.inj he
               obtain ⟨rfl, _, rfl⟩ := he'
               clear he
               obtain ⟨v0, v1, v2⟩ := U6.out.box.cells
               obtain ⟨t0, t1, t2⟩ := B6.out.cells
               have fin : Hid (∀ W7, ((W6.setCell ⟨G, j * 3, none⟩ (.int .i64 rh.kind)).setCell ⟨G, j * 3 + 1, none⟩ (.slice p1 p2 p3)).setCell ⟨G, j * 3 + 2, none⟩ (.slice p4 p5 p6) = W7 → UI n w0 w h g (.slice an h.names.length cn) (.slice (some ⟨b1, o1, none⟩) l.length cl) (.slice (some ⟨b, o, none⟩) g.names.length dn) (.slice (some ⟨b2, o2, none⟩) m.length dl) V MB nm (ts.set j z) (.slice na nm.length nc) (.slice (some ⟨G, 0, none⟩) ts.length lc) W7) := fun W7 hW7 => U6.out.put j hjt hz2.out hz1.out hW7
               go_wp2_with fail
               refine ⟨⟨k + 1, by go_num, by omega, nm, ts.set j z, na, nc, some ⟨G, 0, none⟩, lc, ?_, nm, ts, S.out, Or.inr ⟨j, s, l[j]'hj'.out, m[k], ?_, ?_, ?_, ?_, rfl, ?_⟩⟩, by simp [intOf]; omega⟩
               · rw [List.length_set]; exact fin.out _ rfl
               · rw [← hs.out]; exact List.getElem?_eq_getElem _
               · exact List.getElem?_eq_getElem _
               · rw [← hje'.out]; exact List.getElem?_eq_getElem _
               · exact List.getElem?_eq_getElem _
               · rcases hz3.out with ⟨p, e⟩ | ⟨p, p', e⟩
                 · exact Or.inl ⟨p, by rw [e]⟩
                 · exact Or.inr ⟨p, p', by rw [e]⟩
             · have np1 := hide np1
               have np2 := hide np2
               have U6 := hide (H.out.then T6.out)
               obtain ⟨z0, z1, z2⟩ := U6.out.bz.cells
               have zf := U6.out.bz.frz
               go_wp2_with fail
               refine bodyPost_ret (v := .tuple #[.agg #[.int .i64 0, .slice none 0 0, .slice none 0 0], .bool false]) (by simp [results, Tryd.results61, go_sem, *]) rfl ⟨?_, Or.inl ⟨⟨k, j, s, l[j]'hj'.out, m[k], ?_, ?_, ?_, ?_, np1.out, np2.out⟩, rfl⟩⟩
               · iterate 3 refine Below.setCell ?_ (by show w.heap.size ≤ w.heap.size + 2; omega) _
                 exact U6.out.below
               · rw [← hs.out]; exact List.getElem?_eq_getElem _
               · exact List.getElem?_eq_getElem _
               · rw [← hje'.out]; exact List.getElem?_eq_getElem _
               · exact List.getElem?_eq_getElem _
            all_goals exact False.elim hpost
          · go_region_law (first | (go_simp; go_at_call 79; refine (cw.out _ (by repeat (first | exact Below.refl _ _ | refine below_dr ?_ | refine below_al ?_ | refine below_dn ?_ _))).mono ?_; rintro e w5 ⟨rfl, hb5⟩; have T5 : Hid (Below wr.heap.size wr w5) := below_then (by repeat (first | exact Below.refl _ _ | refine below_dr ?_ | refine below_al ?_)) hb5; first | (have vz : Hid (ZT w5 wr.heap.size) := (hb5.block wr.heap.size (by show wr.heap.size < (wr.alloc _).heap.size; rw [World.size_alloc]; omega)).trans (heap_alloc_last wr _); obtain ⟨z0, z1, z2⟩ := vz.out.cells; have zf := vz.out.frz) | skip; clear hb5; dsimp only))
            all_goals
              first
                | exact ⟨w5.heap.size, rfl, below_al T5.out, tx_new w5 rh _ _⟩
                | exact ⟨wr.heap.size, rfl, three_below T5.out, three_tx vz.out⟩
        · have hhas := hide (show Maps.has (Pl h.names h.names.length) (ks s) = false by
            cases hq : Maps.has (Pl h.names h.names.length) (ks s)
            · rfl
            · have := (has_Pl h.names s h.names.length (Nat.le_refl _)).1 hq
              rw [List.take_of_length_le (Nat.le_refl _)] at this
              exact absurd this hmem)
          have hat := hide (atKey_of_not_has hhas.out (.lit (.int .i64 0)))
          have hmem' := hide hmem
          clear hmem
          have hWa : Hid (Below wr.heap.size wr (wr.alloc (.cells #[.string s] 9))) := below_al (Below.refl _ _)
          have hnr : Hid (OwnS (wr.alloc (.cells #[.string s] 9)) (w.heap.size + 3) (.slice na nm.length nc) nm) := ownsRow_of H.out.nrow fun q _ hq => hWa.out.block q hq
          have hcl : (wr.alloc (.cells #[.string s] 9)).cell? ⟨wr.heap.size, 0, none⟩ = some (.string s) := by unfold World.cell?; rw [show (wr.alloc (.cells #[.string s] 9)).heap[wr.heap.size]? = _ from heap_alloc_last wr _]; rfl
          have hm2 : Hid (nm.length ≤ 200000) := by show _ ≤ _; omega
          have hB2 : Hid (w.heap.size + 3 ≤ (wr.alloc (.cells #[.string s] 9)).heap.size) := by have := H.out.hV; have := H.out.box.lt; show _ ≤ _; simp; omega
          have hlen1 : Hid (nm.length = nm.length) := rfl
          go_wp2_with (first | (at_lookup; refine lookup_int_at _ rfl _ _ 72 rfl 9 3 .i64 keyS Tryd.underlying72 u3 (zero3 _) MB h.names.length (Pl h.names h.names.length) rfl hMP.out _ _ rfl hkey.out _ false hat.out hhas.out ?_) | (at_builtin; refine app_n1 rfl (.tmp 41) (.tmp 43) rfl (w.heap.size + 3) (.slice na nm.length nc) nm nm.length hlen1 rfl hnr wr.heap.size 1 rfl s hcl hm2 hB2 ?_; intro av c' w4 ho4 hg4 hat4; have F4 := hide (H.out.name hWa.out hg4.out ho4.out hat4.out); obtain ⟨f0, f1, f2⟩ := F4.out.2.cells; have ff := F4.out.2.frz; obtain ⟨W5, hW5⟩ : ∃ W5, w4.setCell ⟨V, 1, none⟩ (.slice av (nm.length + 1) c') = W5 := ⟨_, rfl⟩; have F5 := hide F4.out.1; rw [hW5] at F5; clear F4 ho4 hg4 hat4))
          clear f0 f1 f2 ff hW5 hcl v0 v1 v2 vf x0 x1 x2 y0 y1 y2 hcell
          obtain ⟨v0, v1, v2⟩ := F5.out.box.cells
          obtain ⟨y0, y1, y2⟩ := F5.out.bb.cells
          have v2a := fun o => (F5.out.box.below (W1 := W5.alloc o) (below_al (Below.refl _ _))).cells.2.2
          obtain ⟨r0, r1, r2⟩ := range3 (rangeAt_below hrg2.out (below_then h0.out F5.out.below) hbl2)
          obtain ⟨xs, hx5, hall⟩ := F5.out.lrow
          have Hx := hide hx5
          have Hall := hide hall
          clear hx5 hall
          have hBs : Hid (w.heap.size + 3 ≤ (W5.alloc (.cells (tvs hq (.slice a3 m3 d3) (.slice a4 m4 d4)) 26)).heap.size) := by have := F5.out.hV; have := F5.out.box.lt; show _ ≤ _; simp; omega
          have fin : Hid (∀ w6 av6 c6, (W5.alloc (.cells (tvs hq (.slice a3 m3 d3) (.slice a4 m4 d4)) 26)).grownBy w6 (Value.slice la ts.length lc).ownBlock → w6.ownsRow (w.heap.size + 3) 26 3 (.slice av6 (ts.length + 1) c6) (ts.length + 1) (xs ++ (tvs hq (.slice a3 m3 d3) (.slice a4 m4 d4)).toList) → ((Value.slice av6 (ts.length + 1) c6).ownBlock = (Value.slice la ts.length lc).ownBlock ∨ (Value.slice av6 (ts.length + 1) c6).ownBlock = some (W5.alloc (.cells (tvs hq (.slice a3 m3 d3) (.slice a4 m4 d4)) 26)).heap.size) → (UI n w0 w h g (.slice an h.names.length cn) (.slice al l.length cl) (.slice (some ⟨b, o, none⟩) g.names.length dn) (.slice (some ⟨b2, o2, none⟩) m.length dl) V MB (nm ++ [s]) (ts ++ [m[k]]) (.slice av (nm.length + 1) c') (.slice av6 (ts.length + 1) c6) (w6.setCell ⟨V, 2, none⟩ (.slice av6 (ts.length + 1) c6)) ∧ Tx w6 V ⟨11, nm ++ [s]⟩ (.slice av (nm.length + 1) c') (.slice la ts.length lc))) := by
            intro w6 av6 c6 hg6 ho6 hat6
            exact UI.push (ns := .slice a3 m3 d3) (ls := .slice a4 m4 d4) F5.out (below_al (Below.refl _ _)) Hx.out Hall.out hd2.out hg6 (by rw [hhq.out]; exact ho6) hat6
          go_region_law (first | (refine step_t rfl (.tmp 47) (.tmp 53) rfl (w.heap.size + 3) (.slice la ts.length lc) ts.length xs rfl (ownsRow_of Hx.out fun g hg hlt => by first | exact (below_al (Below.refl W5.heap.size W5)).block g hlt | exact (below_dr (below_al (Below.refl W5.heap.size W5))).block g hlt) W5.heap.size 1 rfl hq (.slice a3 m3 d3) (.slice a4 m4 d4) rfl rfl ((tx_new W5 hq (.slice a3 m3 d3) (.slice a4 m4 d4)).range) (by omega) hBs.out ?_; intro av6 c6 w6 ho6 hg6 hat6; have F6 := hide (fin.out w6 av6 c6 (by first | exact grown_dr hg6.out | exact hg6.out) ho6.out hat6.out); obtain ⟨f0, f1, f2⟩ := F6.out.2.cells; have ff := F6.out.2.frz))
          all_goals
            go_wp2_with fail
            refine ⟨⟨k + 1, by go_num, by omega, nm ++ [s], ts ++ [m[k]], av, c', av6, c6, ?_, nm, ts, S.out, Or.inl ⟨s, m[k], ?_, ?_, hmem'.out, rfl, rfl⟩⟩, by simp [intOf]; omega⟩
            · rw [show (nm ++ [s]).length = nm.length + 1 by simp, show (ts ++ [m[k]]).length = ts.length + 1 by simp]
              exact F6.out.1
            · rw [← hs.out]; exact List.getElem?_eq_getElem _
            · exact List.getElem?_eq_getElem _
      · have hki : ¬ ((k : Int) < (g.names.length : Int)) := by omega
        have hke : k = g.names.length := by omega
        have S' : Hid (US n (h, l) (g, m) g.names.length nm ts) := by have := S.out; rw [hke] at this; exact this
        clear S hke
        obtain ⟨E, hE⟩ := tchk_ex (n + 1) ((⟨11, nm⟩, ts) : TT (n + 1))
        have hrd := S'.out.rd la'.out na'.out nb'.out zx zy sx sy lbn
        have hR : TRd (n + 1) wr ((⟨11, nm⟩, ts) : TT (n + 1)) (.slice na nm.length nc) (.slice la ts.length lc) := ⟨⟨OwnS.nl H.out.nrow, H.out.lrow.vl (below_then h0.out H.out.below)⟩, hrd.1, hrd.2⟩
        have cc := hide (fun W (hW : Below wr.heap.size wr W) => tcheck_any (n + 1) ((⟨11, nm⟩, ts) : TT (n + 1)) _ _ W (hR.below hW) (gu.below (below_then H.out.below hW)) (gt.below (below_then H.out.below hW)) E hE)
        simp only [thd, tvs] at cc
        have hEq : Hid ((E == 0) = true ↔ TChk (n + 1) ((⟨11, nm⟩, ts) : TT (n + 1)) 0) := by
          refine ⟨fun q => ?_, fun q => ?_⟩
          · have : E = 0 := by simpa using q
            rw [← this]; exact hE
          · rcases hE with ⟨e, k1⟩ | ⟨e, k1, k2⟩ | ⟨e, _⟩
            · exact absurd q.zero.1 k1
            · exact absurd q.zero.2 k2
            · rw [e]; rfl
        clear hE hrd hR
        obtain ⟨v0, v1, v2⟩ := H.out.box.cells
        obtain ⟨z0, z1, z2⟩ := H.out.bz.cells
        have zf := H.out.bz.frz
        go_wp2_with fail
        go_region_law (first | (go_simp; go_at_call 12; refine (cc.out _ (by repeat (first | exact Below.refl _ _ | refine below_dr ?_ | refine below_al ?_ | refine below_dn ?_ _))).mono ?_; rintro e w5 ⟨rfl, hb5⟩; have T5 : Hid (Below wr.heap.size wr w5) := below_then (by repeat (first | exact Below.refl _ _ | refine below_dr ?_ | refine below_al ?_)) hb5; have U5 := hide (H.out.then T5.out); obtain ⟨p0, p1, p2⟩ := U5.out.box.cells; obtain ⟨y0, y1, y2⟩ := U5.out.bz.cells; have yf := U5.out.bz.frz; clear hb5; dsimp only))
        all_goals
          go_wp2_with fail
          refine bodyPost_ret (v := .tuple #[.agg #[.int .i64 11, .slice na nm.length nc, .slice la ts.length lc], .bool (E == 0)]) (by simp [results, Tryd.results61, go_sem, *]) rfl ⟨?_, Or.inr ⟨nm, ts, .slice na nm.length nc, .slice la ts.length lc, (E == 0), S'.out, rfl, ?_, hEq.out⟩⟩
          · iterate 3 refine Below.setCell ?_ (by show w.heap.size ≤ w.heap.size + 2; omega) _
            exact U5.out.below
          · refine ⟨ownsRow_of U5.out.nrow fun q e _ => ?_, U5.out.lrow.keep fun q e _ => ?_⟩
            · have hne : q ≠ w.heap.size + 2 := by have := (World.ownsRow.lt U5.out.nrow q e).1; omega
              rw [heap_set_ne hne, heap_set_ne hne, heap_set_ne hne]
            · have hne : q ≠ w.heap.size + 2 := by have := (U5.out.lrow.lt q e).1; omega
              rw [heap_set_ne hne, heap_set_ne hne, heap_set_ne hne]
  · go_region_law (first | (go_simp; go_at_call 77; refine (c1.out _ (by repeat (first | exact Below.refl _ _ | refine below_dr ?_ | refine below_al ?_))).mono ?_; rintro e w1 ⟨na1, nc1, rfl, ho1, hb1⟩; have B1 : Hid (Below W0.heap.size W0 w1) := below_then (by repeat (first | exact Below.refl _ _ | refine below_dr ?_ | refine below_al ?_)) hb1; have t1 := (hX.out.below B1.out).cells.2.2; have t1a := (fun o => (hX.out.below (W1 := w1.alloc o) (below_al B1.out)).cells.2.2); first | (have vz : Hid (ZT w1 W0.heap.size) := (hb1.block W0.heap.size (by show W0.heap.size < (W0.alloc _).heap.size; rw [World.size_alloc]; omega)).trans (heap_alloc_last W0 _)) | skip; have hb1 := hide hb1; dsimp only) | (go_simp; go_at_call 78; refine (c2.out _ (by repeat (first | exact Below.refl _ _ | exact B1.out | refine below_dr ?_ | refine below_al ?_))).mono ?_; rintro e w2 ⟨la2, lc2, rfl, ho2, hb2⟩; first | (have vy : Hid (ZT w2 W0.heap.size) := (hb2.block W0.heap.size vz.out.lt).trans vz.out; obtain ⟨v0, v1, v2⟩ := vy.out.cells; have vf := vy.out.frz) | (have vy : Hid (ZT w2 w1.heap.size) := (hb2.block w1.heap.size (by show w1.heap.size < (w1.alloc _).heap.size; rw [World.size_alloc]; omega)).trans (heap_alloc_last w1 _); obtain ⟨v0, v1, v2⟩ := vy.out.cells; have vf := vy.out.frz) | skip; have hb2 := hide hb2; dsimp only))
    all_goals
      first
        | exact ⟨w2.heap.size, na1, nc1, la2, lc2, rfl, un_new hb0.out hs0.out hX.out hY.out hZ.out B1.out (by first | exact below_then (by repeat (first | exact Below.refl _ _ | refine below_dr ?_ | refine below_al ?_)) hb2 | exact below_then (by repeat (first | exact Below.refl _ _ | refine below_dr ?_ | refine below_al ?_)) hb2.out) ho1.out ho2.out (by first | exact Nat.le_refl _ | exact le_al _ _) (by first | exact B1.out.size | exact Nat.le_trans B1.out.size (le_al _ _))⟩
        | exact ⟨w1.heap.size, na1, nc1, la2, lc2, rfl, un_set hb0.out hs0.out hX.out hY.out hZ.out B1.out (by first | exact below_then (by repeat (first | exact Below.refl _ _ | refine below_dr ?_ | refine below_al ?_)) hb2 | exact below_then (by repeat (first | exact Below.refl _ _ | refine below_dr ?_ | refine below_al ?_)) hb2.out) ho1.out ho2.out (by first | exact Nat.le_refl _ | exact le_al _ _) (Nat.le_trans B1.out.size (le_al _ _)) B1.out.size vy.out (Or.inr (Nat.le_refl _)) (lt_al _ _)⟩
        | exact ⟨W0.heap.size, na1, nc1, la2, lc2, rfl, un_set hb0.out hs0.out hX.out hY.out hZ.out B1.out (by first | exact below_then (by repeat (first | exact Below.refl _ _ | refine below_dr ?_ | refine below_al ?_)) hb2 | exact below_then (by repeat (first | exact Below.refl _ _ | refine below_dr ?_ | refine below_al ?_)) hb2.out) ho1.out ho2.out (le_al _ _) B1.out.size (Nat.le_refl _) vy.out (Or.inl (lt_al _ _)) vz.out.lt⟩
end Go.Proofs.YtolmbjeinilhlaaDoor
