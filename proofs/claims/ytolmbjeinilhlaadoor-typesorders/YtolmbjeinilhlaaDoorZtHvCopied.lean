/- types.copied: walked (HuCopied has what it leans on). -/
import Derived.Test.YtolmbjeinilhlaaDoorZtL
namespace Go.Proofs.YtolmbjeinilhlaaDoor
open Go.RowKit Go.Maps
set_option linter.unusedSimpArgs false
set_option linter.unusedVariables false
theorem tblk_pos : ∀ (n : Nat) (x : TT n), 1 ≤ tblk n x
  | 0, x => Empty.elim x
  | n + 1, x => by simp only [tblk]; omega
theorem tblk_len (n : Nat) (l : List (TT n)) : l.length ≤ suml (l.map (tblk n)) := by
  induction l with
  | nil => simp [suml]
  | cons a l ih => simp only [List.map_cons, suml, List.length_cons]; have := tblk_pos n a; omega
theorem tblk_at (n : Nat) (l : List (TT n)) (k : Nat) (h : k < l.length) : tblk n l[k] ≤ suml (l.map (tblk n)) := by
  have h1 := suml_take (l.map (tblk n)) k (by simpa using h)
  have h2 := suml_take_le (l.map (tblk n)) (k + 1)
  rw [List.getElem_map] at h1
  omega
/-- How many structs and names a type has. -/
def tcnt : (n : Nat) → TT n → Nat
  | 0, _ => 0
  | n + 1, x => 1 + x.1.names.length + suml (x.2.map (tcnt n))
theorem tcnt_pos : ∀ (n : Nat) (x : TT n), 1 ≤ tcnt n x
  | 0, x => Empty.elim x
  | n + 1, x => by simp only [tcnt]; omega
theorem tcnt_len (n : Nat) (l : List (TT n)) : l.length ≤ suml (l.map (tcnt n)) := by
  induction l with
  | nil => simp [suml]
  | cons a l ih => simp only [List.map_cons, suml, List.length_cons]; have := tcnt_pos n a; omega
theorem tcnt_at (n : Nat) (l : List (TT n)) (k : Nat) (h : k < l.length) : tcnt n l[k] ≤ suml (l.map (tcnt n)) := by
  have h1 := suml_take (l.map (tcnt n)) k (by simpa using h)
  have h2 := suml_take_le (l.map (tcnt n)) (k + 1)
  rw [List.getElem_map] at h1
  omega
/-- An empty type in a block of its own. -/
def ZT (W : World) (i : Nat) : Prop := W.heap[i]? = some (.cells #[.int .i64 0, .slice none 0 0, .slice none 0 0] 26 (0, 0))
theorem ZT.cells {W : World} {i : Nat} (q : ZT W i) : W.cell? ⟨i, 0, none⟩ = some (.int .i64 0) ∧ W.cell? ⟨i, 1, none⟩ = some (.slice none 0 0) ∧ W.cell? ⟨i, 2, none⟩ = some (.slice none 0 0) := by
  unfold ZT at q
  simp [World.cell?, q]
theorem ZT.frz {W : World} {i : Nat} (q : ZT W i) (j : Nat) : W.frozen? ⟨i, j, none⟩ = false := by
  unfold ZT at q
  simp [World.frozen?, q]
theorem ZT.lt {W : World} {i : Nat} (q : ZT W i) : i < W.heap.size := (Array.getElem?_eq_some_iff.1 q).1
theorem ZT.below {W W1 : World} {i : Nat} (q : ZT W i) (h : Below W.heap.size W W1) : ZT W1 i := (h.block _ q.lt).trans q
theorem own_low {W : World} {B B' T sz n : Nat} {v : Value} {xs : List Value} (h : W.ownsRow B T sz v n xs) (hb : B' ≤ B) : W.ownsRow B' T sz v n xs := by
  refine ⟨h.1, ?_⟩
  rcases h.2 with h0 | ⟨g, cap, cur, rfl, h1, h2⟩
  · exact Or.inl h0
  · exact Or.inr ⟨g, cap, cur, rfl, Nat.le_trans hb h1, h2⟩
theorem cop_a {n : Nat} {l : List (TT n)} {h : Th} {w W0 w1 : World} {a b nv : Value} (hb0 : Below w.heap.size w W0) (hs : W0.heap.size = w.heap.size + 2) (hT : Tx W0 w.heap.size h a b) (hZ : ZT W0 (w.heap.size + 1)) (hb1 : Below W0.heap.size W0 w1) (ho : OwnS w1 W0.heap.size nv h.names) :
    LC n l h w w1.heap.size 0 nv (.slice none 0 0) (w1.alloc (.cells (tvs h nv (.slice none 0 0)) 26)) ∧ Tx (w1.alloc (.cells (tvs h nv (.slice none 0 0)) 26)) w.heap.size h a b ∧ ZT (w1.alloc (.cells (tvs h nv (.slice none 0 0)) 26)) (w.heap.size + 1) := by
  have hz := hb1.size
  have hb2 : Below w1.heap.size w1 (w1.alloc (.cells (tvs h nv (.slice none 0 0)) 26)) := below_al (Below.refl _ _)
  refine ⟨⟨below_al (below_then hb0 hb1), by omega, tx_new w1 h _ _, ?_, ?_, (fun e => by cases e), [], World.ownsRow_nil _ _ _ _, fun j _ hj => by omega⟩, (hT.below hb1).below hb2, (hZ.below hb1).below hb2⟩
  · have := ownsRow_of ho (W1 := w1.alloc (.cells (tvs h nv (.slice none 0 0)) 26)) fun g _ hg => hb2.block g hg
    rw [hs] at this
    exact this
  · intro e
    have := (World.ownsRow.lt ho _ e).2
    omega
theorem cop_b {n : Nat} {l : List (TT n)} {h : Th} {w W0 w1 : World} {a b nv : Value} (hb0 : Below w.heap.size w W0) (hs : W0.heap.size = w.heap.size + 2) (hT : Tx W0 w.heap.size h a b) (hZ : ZT W0 (w.heap.size + 1)) (hb1 : Below (W0.alloc (.cells #[.int .i64 0, .slice none 0 0, .slice none 0 0] 26)).heap.size (W0.alloc (.cells #[.int .i64 0, .slice none 0 0, .slice none 0 0] 26)) w1) (ho : OwnS w1 (W0.alloc (.cells #[.int .i64 0, .slice none 0 0, .slice none 0 0] 26)).heap.size nv h.names) :
    LC n l h w W0.heap.size 0 nv (.slice none 0 0) (((w1.setCell ⟨W0.heap.size, 0, none⟩ (.int .i64 h.kind)).setCell ⟨W0.heap.size, 1, none⟩ nv).setCell ⟨W0.heap.size, 2, none⟩ (.slice none 0 0)) ∧ Tx (((w1.setCell ⟨W0.heap.size, 0, none⟩ (.int .i64 h.kind)).setCell ⟨W0.heap.size, 1, none⟩ nv).setCell ⟨W0.heap.size, 2, none⟩ (.slice none 0 0)) w.heap.size h a b ∧ ZT (((w1.setCell ⟨W0.heap.size, 0, none⟩ (.int .i64 h.kind)).setCell ⟨W0.heap.size, 1, none⟩ nv).setCell ⟨W0.heap.size, 2, none⟩ (.slice none 0 0)) (w.heap.size + 1) := by
  have hz := hb1.size
  rw [World.size_alloc] at hz ho
  have hV : ZT w1 W0.heap.size := (hb1.block W0.heap.size (by rw [World.size_alloc]; omega)).trans (heap_alloc_last W0 _)
  have s0 := set_heap9 w1 W0.heap.size 0 _ _ (.int .i64 h.kind) hV
  have s1 := set_heap9 _ W0.heap.size 1 _ _ nv s0.1
  have s2 := set_heap9 _ W0.heap.size 2 _ _ (.slice none 0 0) s1.1
  have hB1 : Below W0.heap.size W0 w1 := below_then (below_al (Below.refl _ _)) hb1
  have oth : ∀ q, q ≠ W0.heap.size → (((w1.setCell ⟨W0.heap.size, 0, none⟩ (.int .i64 h.kind)).setCell ⟨W0.heap.size, 1, none⟩ nv).setCell ⟨W0.heap.size, 2, none⟩ (.slice none 0 0)).heap[q]? = w1.heap[q]? := fun q hq => by rw [s2.2 q hq, s1.2 q hq, s0.2 q hq]
  have hol := World.ownsRow.lt ho
  refine ⟨⟨?_, by omega, ⟨s2.1⟩, ?_, ?_, (fun e => by cases e), [], World.ownsRow_nil _ _ _ _, fun j _ hj => by omega⟩, ⟨?_⟩, ?_⟩
  · iterate 3 refine Below.setCell ?_ (by show w.heap.size ≤ W0.heap.size; omega) _
    exact below_then hb0 hB1
  · exact own_low (ownsRow_of ho fun g e _ => oth g (by have := (hol g e).1; omega)) (by omega)
  · intro e
    have := (hol _ e).1
    omega
  · rw [oth _ (by omega), hB1.block _ hT.lt]
    exact hT.at_
  · show _ = _
    rw [oth _ (by omega), hB1.block _ hZ.lt]
    exact hZ
/-- append(s, one type), as a step of a drawn region. -/
theorem step_t {w : World} {ops : Array Oper} {o : Oper} {a : Act} {K : Act → World → Prop} {Q : Exit → Act → World → Prop} {E : Prop} (hgd : o.guard = none) (s x : Operand) (ho : o.op = .call { callee := .builtin .append, args := #[s, x], argTypes := #[24, 24] })
    (B : Nat) (v : Value) (n : Nat) (xs : List Value) (hs : a.eval s = v) (hown : w.ownsRow B 26 3 v n xs) (g c : Nat) (hx : a.eval x = .slice (some ⟨g, 0, none⟩) 1 c) (hd : Th) (ns ls : Value) (hn : ns.oneCell' = true) (hl : ls.oneCell' = true)
    (hnews : w.rangeAt g 0 (tvs hd ns ls).toList) (hm : n ≤ 200000) (hB : B ≤ w.heap.size)
    (h : ∀ av c' w', Hid (w'.ownsRow B 26 3 (.slice av (n + 1) c') (n + 1) (xs ++ (tvs hd ns ls).toList)) → Hid (w.grownBy w' v.ownBlock) → Hid ((Value.slice av (n + 1) c').ownBlock = v.ownBlock ∨ (Value.slice av (n + 1) c').ownBlock = some w.heap.size) → K (a.put o.dst (.slice av (n + 1) c')) w') :
    if Region.wanted o (yielded ops a.tmps) = true then Oper.wp Tryd.prog o a w K Q else E := by
  have hw : Region.wanted o (yielded ops a.tmps) = true := by simp [Region.wanted, hgd]
  rw [if_pos hw]
  obtain ⟨i0, hi, hz0, hz1, hz2⟩ := info_parts infoTT
  obtain ⟨v', w', hr, h1, h2, h3, h4⟩ := run_append_own_at (P := Tryd.prog) w B 24 o.type 26 i0 _ 3 56 Tryd.underlying24 hi hz0 hz1 hz2 rfl (by decide) v n xs hown ⟨g, 0, none⟩ 1 c (tvs hd ns ls).toList rfl (by
    intro j u hj
    have := hnews j u hj
    rw [show (⟨g, 0, none⟩ : Addr).add j = ⟨g, 0 + j, none⟩ by unfold Addr.add; split <;> simp_all]
    exact this) (by
    intro u hu
    simp only [tvs, List.mem_cons, List.not_mem_nil, or_false] at hu
    rcases hu with rfl | rfl | rfl
    all_goals first | rfl | exact hn | exact hl) (by unfold maxLen; omega) (by omega) hB
  unfold Oper.wp execOp
  simp only [ho, resolve, invoke, builtin, Sem.run_bind, Sem.run_pure, Result.andThen_ok, List.map_toArray, List.map_cons, List.map_nil, hs, hx, hr]
  rcases h1.2 with ⟨rfl, e⟩ | ⟨g', cap, cur, rfl, _⟩
  · omega
  · exact h _ _ w' h1 h2 h4
set_option maxHeartbeats 2000000 in
set_option maxRecDepth 100000 in
theorem copied_any : ∀ (n : Nat) (x : TT n) (ns ls : Value) (w : World), RT n w x ns ls → tcnt n x ≤ 200000 →
    Calls Tryd.prog 43 #[.agg (tvs (thd n x) ns ls)] w fun e w' => ∃ ns' ls', e = .returned (.agg (tvs (thd n x) ns' ls')) ∧ Hid (KT n w' x ns' ls' w.heap.size w'.heap.size) ∧ Below w.heap.size w w' := by
  intro n
  induction n with
  | zero => intro x; exact Empty.elim x
  | succ n ih =>
    intro x ns ls w hr hbk
    obtain ⟨h, l⟩ := x
    obtain ⟨al, cl, rfl, hc1, hc2⟩ := hr.len
    obtain ⟨an, cn, rfl, hn1, hn2⟩ := hr.1.len
    have hr := hide hr
    have ih' := hide ih
    clear ih
    have hbn : h.names.length ≤ 200000 := by simp only [tcnt] at hbk; omega
    have hbl : l.length ≤ 200000 := by have := tcnt_len n l; simp only [tcnt] at hbk; omega
    have hbe : Hid (∀ k (hk : k < l.length), tcnt n l[k] ≤ 200000) := fun k hk => by have := tcnt_at n l k hk; simp only [tcnt] at hbk; omega
    clear hbk
    simp only at hn1 hn2 hc1 hc2
    have ml : maxLen = 9223372036854775807 := rfl
    obtain ⟨W0, hW0⟩ : ∃ W0, (w.alloc (.cells #[.int .i64 h.kind, .slice an h.names.length cn, .slice al l.length cl] 26)).alloc (.cells #[.int .i64 0, .slice none 0 0, .slice none 0 0] 26) = W0 := ⟨_, rfl⟩
    have hs0 : W0.heap.size = w.heap.size + 2 := by rw [← hW0]; simp
    have hT0 : Hid (Tx W0 w.heap.size h (.slice an h.names.length cn) (.slice al l.length cl)) := by rw [← hW0]; exact (tx_new w h _ _).below (below_al (Below.refl _ _))
    have hZ0 : Hid (ZT W0 (w.heap.size + 1)) := by
      rw [← hW0]
      have := heap_alloc_last (w.alloc (.cells #[.int .i64 h.kind, .slice an h.names.length cn, .slice al l.length cl] 26)) (.cells #[.int .i64 0, .slice none 0 0, .slice none 0 0] 26)
      rw [World.size_alloc] at this
      exact this
    have hb0 : Hid (Below w.heap.size w W0) := by rw [← hW0]; exact below_al (below_al (Below.refl _ _))
    have hs0' := hide hs0
    clear hs0
    obtain ⟨c0, c1, c2⟩ := hT0.out.cells
    have c0a := fun o => (hT0.out.below (W1 := W0.alloc o) (below_al (Below.refl _ _))).cells.1
    have c1a := fun o => (hT0.out.below (W1 := W0.alloc o) (below_al (Below.refl _ _))).cells.2.1
    show Calls _ _ #[.agg #[.int .i64 h.kind, .slice an h.names.length cn, .slice al l.length cl]] _ _
    go_enter Tryd.func43, Tryd.ntmps43
    go_wp2_with fail
    rename_i Q' K hK
    have key : ∀ (V : Nat) (W : World) (av : Option Addr) (c' : Nat), Hid (LC n l h w V 0 (.slice av h.names.length c') (.slice none 0 0) W) → Hid (Tx W w.heap.size h (.slice an h.names.length cn) (.slice al l.length cl)) → Hid (ZT W (w.heap.size + 1)) → K { tmps := #[.agg #[.int .i64 h.kind, .slice an h.names.length cn, .slice al l.length cl], .pointer (some ⟨w.heap.size, 0, none⟩), .pointer (some ⟨w.heap.size + 1, 0, none⟩), .pointer (some ⟨V, 0, none⟩), undef, undef, .pointer (some ⟨w.heap.size, 0, none⟩), .int .i64 h.kind, .pointer (some ⟨w.heap.size, 1, none⟩), .slice an h.names.length cn, .slice av h.names.length c', .agg #[.int .i64 h.kind, .slice av h.names.length c', .slice none 0 0], undef, undef, undef, undef, undef, undef, undef, undef, undef, undef, undef, undef, undef, undef, undef, undef], defers := [] } W := by
      clear c0 c1 c2 c0a c1a hT0 hZ0 hb0 hW0 hs0'
      intro V W av c' hL hT hZ
      refine hK _ _ ?_
      obtain ⟨c0, c1, c2⟩ := hT.out.cells
      go_wp2_with fail
      clear c0 c1 c2
      go_loopw [15] (fun i w' => ∃ k : Nat, i = .int .i64 k ∧ k ≤ l.length ∧ Hid (∃ la lc, LC n l h w V k (.slice av h.names.length c') (.slice la k lc) w' ∧ ZT w' (w.heap.size + 1))) (fun i _ => l.length - (intOf i).toNat)
      case atStart => exact ⟨0, rfl, Nat.zero_le _, none, 0, hL.out, hZ.out⟩
      case round =>
        clear hL hT hZ
        obtain ⟨k, rfl, hk, H0⟩ := hrel
        obtain ⟨la, lc, H1, hZ⟩ := H0.out
        have H := hide H1
        have hZ := hide hZ
        clear H1 H0
        obtain ⟨v0, v1, v2⟩ := H.out.box.cells
        have vf := H.out.box.frz
        have hVl := H.out.box.lt
        by_cases hkl : k < l.length
        · have hki : (k : Int) < (l.length : Int) := by omega
          have hk63 : (k : Int) < 9223372036854775807 := by omega
          obtain ⟨b, o, c, he, hbl', hlc, hcm, ns', ls', hrg, hrd⟩ := hr.out.at k hkl
          have he' := Value.slice.inj he
          obtain ⟨rfl, _, rfl⟩ := he'
          clear he
          obtain ⟨d0, d1, d2⟩ := range3 (rangeAt_below hrg H.out.below hbl')
          have hrdW := hide hrd
          obtain ⟨a1, m1, e1, a2, m2, e2, rfl, rfl⟩ := hrd.shape
          clear hrg hrd
          have cal := hide (fun W (hW : Below wr.heap.size wr W) => ih'.out l[k] (.slice a1 m1 e1) (.slice a2 m2 e2) W (hrdW.out.below (below_then H.out.below hW)) (hbe.out k hkl))
          obtain ⟨hd, hhd⟩ : ∃ hd, thd n l[k] = hd := ⟨_, rfl⟩
          rw [hhd] at d0 cal
          simp only [tvs] at cal
          have hhd := hide hhd
          obtain ⟨xs, hx, hall⟩ := H.out.row
          have Hx := hide hx
          have Hall := hide hall
          clear hx hall
          obtain ⟨W1, hW1⟩ : ∃ W1, wr.alloc (.cells #[.int .i64 hd.kind, .slice a1 m1 e1, .slice a2 m2 e2] 26) = W1 := ⟨_, rfl⟩
          have hB1 : Hid (Below wr.heap.size wr W1) := by rw [← hW1]; exact below_al (Below.refl _ _)
          have hs1 : Hid (W1.heap.size = wr.heap.size + 1) := by rw [← hW1]; show _ = _; simp
          have hX1 : Hid (Tx W1 wr.heap.size hd (.slice a1 m1 e1) (.slice a2 m2 e2)) := by rw [← hW1]; exact tx_new wr hd _ _
          have hV1 := hide (H.out.box.below hB1.out)
          obtain ⟨x0, x1, x2⟩ := hX1.out.cells
          obtain ⟨y0, y1, y2⟩ := hV1.out.cells
          have mkS : Hid (∀ W : World, W.heap[wr.heap.size]? = W1.heap[wr.heap.size]? → W.cell? ⟨wr.heap.size, 0, none⟩ = some (.int .i64 hd.kind) ∧ W.cell? ⟨wr.heap.size, 1, none⟩ = some (.slice a1 m1 e1) ∧ W.cell? ⟨wr.heap.size, 2, none⟩ = some (.slice a2 m2 e2)) := fun W hW => (⟨hW.trans hX1.out.at_⟩ : Tx W wr.heap.size hd (.slice a1 m1 e1) (.slice a2 m2 e2)).cells
          have fin : Hid (∀ w2 ns2 ls2 w4 av4 c4, KT n w2 l[k] ns2 ls2 W1.heap.size w2.heap.size → Below W1.heap.size W1 w2 → (w2.alloc (.cells (tvs hd ns2 ls2) 26)).grownBy w4 (Value.slice la k lc).ownBlock → w4.ownsRow (w.heap.size + 2) 26 3 (.slice av4 (k + 1) c4) (k + 1) (xs ++ (tvs hd ns2 ls2).toList) → ((Value.slice av4 (k + 1) c4).ownBlock = (Value.slice la k lc).ownBlock ∨ (Value.slice av4 (k + 1) c4).ownBlock = some (w2.alloc (.cells (tvs hd ns2 ls2) 26)).heap.size) → (LC n l h w V (k + 1) (.slice av h.names.length c') (.slice av4 (k + 1) c4) (w4.setCell ⟨V, 2, none⟩ (.slice av4 (k + 1) c4)) ∧ Tx w4 V h (.slice av h.names.length c') (.slice la k lc) ∧ ∀ q, q < w.heap.size + 2 → (w4.setCell ⟨V, 2, none⟩ (.slice av4 (k + 1) c4)).heap[q]? = wr.heap[q]?)) := by
            intro w2 ns2 ls2 w4 av4 c4 hk2 hb2 hg4 ho4 hat4
            have z1 := hs1.out
            have z2 := hb2.size
            exact LC.push (w2 := w2) (w3 := w2.alloc (.cells (tvs hd ns2 ls2) 26)) (ns := ns2) (ls := ls2) H.out hkl Hx.out Hall.out W1.heap.size (by omega) hk2 (by simp) (fun q hq => by rw [Below.heap_alloc _ _ _ (by omega), hb2.block q (by omega), hB1.out.block q hq]) (fun q h1 h2 => Below.heap_alloc _ _ _ h2) (below_al (below_then (below_then H.out.below hB1.out) hb2)) hg4 (by rw [hhd.out]; exact ho4) hat4
          go_wp2_with fail
          go_region_law (first | (refine step_t rfl (.tmp 20) (.tmp 23) rfl (w.heap.size + 2) (.slice la k lc) k xs rfl (ownsRow_of Hx.out fun g hg hlt => by first | (rw [(below_al T3.out).block g (by have := hs1.out; omega), hB1.out.block g hlt]) | (rw [(below_dr (below_al T3.out)).block g (by have := hs1.out; omega), hB1.out.block g hlt])) w2.heap.size 1 rfl hd (.slice q1 q2 q3) (.slice q4 q5 q6) rfl rfl ((tx_new w2 hd (.slice q1 q2 q3) (.slice q4 q5 q6)).range) (by omega) (by have h1 := H.out.below.size; have h2 := T3.out.size; have h3 := hs1.out; show _ ≤ (w2.alloc _).heap.size; rw [World.size_alloc]; omega) ?_; intro av4 c4 w4 ho4 hg4 hat4; have F4 := hide (fin.out w2 (.slice q1 q2 q3) (.slice q4 q5 q6) w4 av4 c4 K3.out T3.out hg4.out ho4.out hat4.out); obtain ⟨f0, f1, f2⟩ := F4.out.2.1.cells; have ff := F4.out.2.1.frz) | (go_simp; go_at_call 43; refine (cal.out _ (below_then hB1.out (by repeat (first | exact Below.refl _ _ | refine below_dr ?_ | refine below_dn ?_ _)))).mono ?_; rintro e w2 ⟨ns2, ls2, rfl, hk2, hb2⟩; obtain ⟨q1, q2, q3, q4, q5, q6, rfl, rfl⟩ := hk2.out.rd.shape; have T3 : Hid (Below W1.heap.size W1 w2) := (by first | exact below_then (below_dr (Below.refl _ _)) hb2 | exact hb2); have K3 : Hid (KT n w2 l[k] (.slice q1 q2 q3) (.slice q4 q5 q6) W1.heap.size w2.heap.size) := (by first | exact hk2.out | exact hk2); have g2 := (hV1.out.below T3.out).cells.2.2; have g2a := fun o => (hV1.out.below (W1 := w2.alloc o) (below_al T3.out)).cells.2.2; clear hb2 hk2; dsimp only))
          all_goals
            go_wp2_with fail
            refine ⟨⟨k + 1, by go_num, by omega, av4, c4, F4.out.1, ?_⟩, by simp [intOf]; omega⟩
            have := hZ.out
            unfold ZT at this ⊢
            rw [F4.out.2.2 (w.heap.size + 1) (by omega)]
            exact this
        · have hki : ¬ ((k : Int) < (l.length : Int)) := by omega
          have hke : k = l.length := by omega
          obtain ⟨r0, r1, r2⟩ := hZ.out.cells
          have fz := hZ.out.frz
          have hVn : V ≠ w.heap.size + 1 := by have := H.out.hV; omega
          have hkc := hide hke
          clear hke
          go_wp2_with fail
          refine bodyPost_ret (v := .agg #[.int .i64 h.kind, .slice av h.names.length c', .slice la k lc]) (by simp [results, Tryd.results43, go_sem, *]) rfl ⟨.slice av h.names.length c', .slice la k lc, rfl, ?_, ?_⟩
          · have e := hkc.out
            subst e
            refine LC.done (W := wr) H.out (by simp) ?_
            intro q hq
            simp only [heap_set_ne (show q ≠ w.heap.size + 1 by omega)]
          · iterate 3 refine Below.setCell ?_ (by show w.heap.size ≤ w.heap.size + 1; omega) _
            exact H.out.below
    go_region_law (refine step_names rfl (.const (.slice none 0 0)) (.tmp 9) rfl rfl an h.names.length cn h.names rfl rfl (hr.out.1.below (below_then hb0.out (by repeat (first | exact Below.refl _ _ | refine below_dr ?_ | refine below_al ?_)))) (by omega) ?_; intro av c' w1 ho1 hb1; have d0 := (hb1.out.cell (p := ⟨w.heap.size, 0, none⟩) (by first | (show w.heap.size < W0.heap.size; exact hT0.out.lt) | (show w.heap.size < (W0.alloc _).heap.size; have := hT0.out.lt; simp; omega))).trans (by first | exact c0 | exact c0a _); have hlw : w.heap.size < w1.heap.size := (by have q1 := hT0.out.lt; have q2 := hb1.out.size; first | omega | (have q3 : W0.heap.size ≤ w1.heap.size := q2; omega) | (have q3 : (W0.alloc (.cells #[.int .i64 0, .slice none 0 0, .slice none 0 0] 26)).heap.size ≤ w1.heap.size := q2; rw [World.size_alloc] at q3; omega)); have d0a := fun o => ((below_al (o := o) (Below.refl w1.heap.size w1)).cell (p := ⟨w.heap.size, 0, none⟩) hlw).trans d0; first | (have vz : ZT w1 W0.heap.size := (hb1.out.block W0.heap.size (by show W0.heap.size < (W0.alloc _).heap.size; rw [World.size_alloc]; omega)).trans (heap_alloc_last W0 _); obtain ⟨v0, v1, v2⟩ := vz.cells; have vf := vz.frz) | skip)
    all_goals
      first
        | (have C3 := cop_a (l := l) hb0.out hs0'.out hT0.out hZ0.out (below_then (below_dr (Below.refl _ _)) hb1.out) ho1.out
           exact key _ _ av c' C3.1 C3.2.1 C3.2.2)
        | (have C3 := cop_a (l := l) hb0.out hs0'.out hT0.out hZ0.out hb1.out ho1.out
           exact key _ _ av c' C3.1 C3.2.1 C3.2.2)
        | (have C3 := cop_b (l := l) hb0.out hs0'.out hT0.out hZ0.out (below_then (below_dr (Below.refl _ _)) hb1.out) ho1.out
           exact key _ _ av c' C3.1 C3.2.1 C3.2.2)
        | (have C3 := cop_b (l := l) hb0.out hs0'.out hT0.out hZ0.out hb1.out ho1.out
           exact key _ _ av c' C3.1 C3.2.1 C3.2.2)
end Go.Proofs.YtolmbjeinilhlaaDoor
