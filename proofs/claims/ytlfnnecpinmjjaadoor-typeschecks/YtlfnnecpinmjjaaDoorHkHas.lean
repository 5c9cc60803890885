/- types.eachHasAll, hasLists: walked. -/
import Derived.Test.YtlfnnecpinmjjaaDoorHjRows
namespace Go.Proofs.YtlfnnecpinmjjaaDoor
open Go.RowKit Go.Maps
set_option linter.unusedSimpArgs false
set_option linter.unusedVariables false
/-- A value is one of a type's. -/
def InT : (n : Nat) → TT n → (m : Nat) → VT m → Prop
  | 0, _, _, _ => False
  | _ + 1, _, 0, _ => False
  | n + 1, t, m + 1, x => (t.1.kind ≤ 8 ∧ PkOk t.1.kind x.1) ∨ (t.1.kind = 9 ∧ x.1.kind = 7 ∧ ∀ y ∈ x.2, ∀ u ∈ t.2, InT n u m y) ∨
      (t.1.kind = 10 ∧ x.1.kind = 8 ∧ x.1.names = t.1.names ∧ ∀ i (h1 : i < t.2.length) (h2 : i < x.2.length), InT n t.2[i] m x.2[i]) ∨
      (t.1.kind = 11 ∧ x.1.kind = 9 ∧ ∃ i, ∃ (h1 : i < t.1.names.length) (h2 : i < t.2.length), t.1.names[i] = x.1.text ∧ ∀ y ∈ x.2, InT n t.2[i] m y)
/-- How many structs are in some values. -/
def sizL (m : Nat) (l : List (VT m)) : Nat := suml (l.map (siz m))
theorem siz_pos : ∀ (m : Nat) (x : VT m), 1 ≤ siz m x
  | 0, x => Empty.elim x
  | n + 1, x => by simp only [siz]; omega
theorem sizL_len (m : Nat) (l : List (VT m)) : l.length ≤ sizL m l := by
  induction l with
  | nil => simp [sizL, suml]
  | cons a l ih => simp only [sizL, List.map_cons, suml, List.length_cons] at *; have := siz_pos m a; omega
theorem sizL_app (m : Nat) (l k : List (VT m)) : sizL m (l ++ k) = sizL m l + sizL m k := by
  simp only [sizL, List.map_append, suml_app]
theorem sizL_mem {m : Nat} {l : List (VT m)} {x : VT m} (h : x ∈ l) : siz m x ≤ sizL m l := by
  induction l with
  | nil => cases h
  | cons a l ih =>
    simp only [sizL, List.map_cons, suml] at *
    rcases List.mem_cons.1 h with rfl | q
    · omega
    · have := ih q; omega
theorem sizL_take (m : Nat) (l : List (VT m)) (k : Nat) : sizL m (l.take k) ≤ sizL m l := by
  have := sizL_app m (l.take k) (l.drop k)
  rw [List.take_append_drop] at this
  omega
/-- What is in some values, one behind the other. -/
def flat (m : Nat) (l : List (VT (m + 1))) : List (VT m) := l.flatMap (fun x => x.2)
theorem flat_siz (m : Nat) (l : List (VT (m + 1))) : sizL m (flat m l) ≤ sizL (m + 1) l := by
  induction l with
  | nil => simp [flat, sizL, suml]
  | cons a l ih =>
    have e : flat m (a :: l) = a.2 ++ flat m l := by simp [flat]
    rw [e, sizL_app]
    have : sizL (m + 1) (a :: l) = siz (m + 1) a + sizL (m + 1) l := by simp [sizL, suml]
    rw [this]
    simp only [siz]
    have : sizL m a.2 = suml (a.2.map (siz m)) := rfl
    omega
theorem flat_take (m : Nat) (l : List (VT (m + 1))) (k : Nat) (h : k < l.length) : flat m (l.take (k + 1)) = flat m (l.take k) ++ l[k].2 := by
  unfold flat
  rw [List.take_succ_eq_append_getElem h, List.flatMap_append, List.flatMap_singleton]
/-- Nothing is longer than memory is, and it is not too large. -/
def TSB (n : Nat) (t : TT n) : Prop := TSz n t ∧ tsiz n t ≤ 200000
/-- What hasAll says of types less than n deep. -/
def HasOk (n : Nat) : Prop := ∀ (t : TT n) (ns ls : Value) (m : Nat) (l : List (VT m)) (lv : Value) (w : World), RT n w t ns ls → VL m w lv l → IsT n t → TSB n t → (∀ v ∈ l, IsV m v ∧ Sz m v) → sizL m l ≤ 200000 → Gt w →
    Calls Tryd.prog 32 #[.agg (tvs (thd n t) ns ls), lv] w fun e w' => TB (∀ v ∈ l, InT n t m v) w e w'
set_option maxHeartbeats 1000000 in
set_option maxRecDepth 100000 in
theorem hasLists_any (n : Nat) (ih : HasOk n) (h : Th) (u : TT n) (ns ls : Value) (m : Nat) (l : List (VT (m + 1))) (lv : Value) (w : World) (hr : RT (n + 1) w (h, [u]) ns ls) (hl : VL (m + 1) w lv l) (hk9 : h.kind = 9) (tu : IsT n u) (zu : TSB n u) (hv : ∀ v ∈ l, IsV (m + 1) v ∧ Sz (m + 1) v) (hsz : sizL (m + 1) l ≤ 200000) (gt : Gt w) :
    Calls Tryd.prog 51 #[.agg (tvs h ns ls), lv] w fun e w' => TB (∀ v ∈ l, InT (n + 1) (h, [u]) (m + 1) v) w e w' := by
  obtain ⟨al, cl, rfl, hc1, hc2⟩ := hr.len
  obtain ⟨an, cn, rfl, hn1, hn2⟩ := hr.1.len
  obtain ⟨av, cv, rfl, hv1, hv2⟩ := hl.len
  simp only [List.length_singleton] at hc1 hc2 hn1 hn2 ⊢
  obtain ⟨b, o, c, he, hbl, hlc, hcm, ns', ls', hrg, hrd⟩ := hr.at 0 (by simp)
  simp only [List.length_singleton, List.getElem_cons_zero, Nat.zero_mul, Nat.add_zero] at he hlc hrg hrd
  have he' := Value.slice.inj he
  obtain ⟨rfl, _, rfl⟩ := he'
  clear he
  have hB0 := hide (tx_new w h (.slice an h.names.length cn) (.slice (some ⟨b, o, none⟩) 1 cl))
  have hb0 : Hid (∀ o, Below w.heap.size w (w.alloc o)) := fun o => below_al (Below.refl _ _)
  have hl := hide hl
  have hx : Hid ((∀ v ∈ l, v.1.kind = 7) → ((∀ v ∈ l, InT (n + 1) (h, [u]) (m + 1) v) ↔ ∀ y ∈ flat m l, InT n u m y)) := by
    intro h7
    constructor
    · intro q y hy
      obtain ⟨x, hx, hyx⟩ := List.mem_flatMap.1 hy
      rcases q x hx with ⟨q, _⟩ | ⟨_, _, q⟩ | ⟨q, _⟩ | ⟨q, _⟩
      · simp only at q; omega
      · exact q y hyx u (by simp)
      · simp only at q; omega
      · simp only at q; omega
    · intro q x hx
      refine Or.inr (Or.inl ⟨hk9, h7 x hx, fun y hy u' hu' => ?_⟩)
      rw [List.mem_singleton.1 hu']
      exact q y (List.mem_flatMap.2 ⟨x, hx, hy⟩)
  have hno : Hid (∀ v ∈ l, v.1.kind ≠ 7 → ¬ ∀ v ∈ l, InT (n + 1) (h, [u]) (m + 1) v) := by
    intro v hv h7 q
    rcases q v hv with ⟨q, _⟩ | ⟨_, q, _⟩ | ⟨q, _⟩ | ⟨q, _⟩
    · simp only at q; omega
    · exact h7 q
    · simp only at q; omega
    · simp only at q; omega
  have hvs : Hid (∀ y ∈ flat m l, IsV m y ∧ Sz m y) := by
    intro y hy
    obtain ⟨x, hx, hyx⟩ := List.mem_flatMap.1 hy
    exact ⟨(hv x hx).1.2.2 y hyx, (hv x hx).2.2.2.2.2 y hyx⟩
  have hcall := hide (fun W lv' (hb : Below w.heap.size w W) (hvl : VL m W lv' (flat m l)) => ih u ns' ls' m (flat m l) lv' W (hrd.below hb) hvl tu zu hvs.out (Nat.le_trans (flat_siz m l) hsz) (gt.below hb))
  obtain ⟨q1, q2, q3, q4, q5, q6, rfl, rfl⟩ := hrd.shape
  have hrg := hide hrg
  have hsz := hide hsz
  obtain ⟨hu', hhu⟩ : ∃ hu', thd n u = hu' := ⟨_, rfl⟩
  rw [hhu] at hcall hrg
  clear hr hrd tu zu gt hv hhu ih hk9
  have ml : maxLen = 9223372036854775807 := rfl
  show Calls _ _ #[.agg #[.int .i64 h.kind, .slice an h.names.length cn, .slice (some ⟨b, o, none⟩) 1 cl], _] _ _
  go_enter Tryd.func51, Tryd.ntmps51
  go_wp2_with fail
  go_loopw [5, 10] (fun u' i w' => ∃ (k N : Nat) (av : Option Addr) (c : Nat), i = .int .i64 k ∧ u' = .slice av N c ∧ k ≤ l.length ∧ Hid ((flat m (l.take k)).length = N) ∧ Hid ((∀ v ∈ l.take k, v.1.kind = 7) ∧ Below w.heap.size w w' ∧ Tx w' w.heap.size h (.slice an h.names.length cn) (.slice (some ⟨b, o, none⟩) 1 cl) ∧ OV m w w' (w.heap.size + 1) u' (flat m (l.take k)))) (fun _ i _ => l.length - (intOf i).toNat)
  case atStart => exact ⟨0, 0, none, 0, rfl, rfl, Nat.zero_le _, rfl, (fun v hv => by simp at hv), hb0.out _, hB0.out, OV.nil⟩
  case round =>
    obtain ⟨k, N, av', c', rfl, rfl, hk, hN, H⟩ := hrel
    have hlt := H.out.2.2.1.lt
    by_cases hkl : k < l.length
    · have hki : (k : Int) < (l.length : Int) := by omega
      have hk63 : (k : Int) < 9223372036854775807 := by omega
      obtain ⟨b', o', c'', he, hbl', hlc', hcm', ns1, ls1, hrg', hrd'⟩ := hl.out.at k hkl
      have he' := Value.slice.inj he
      obtain ⟨rfl, _, rfl⟩ := he'
      clear he
      obtain ⟨y0, y1, y2, y3, y4, y5, y6, y7, y8⟩ := range9 (rangeAt_below hrg' H.out.2.1 hbl')
      have hvl := hide hrd'.vl
      obtain ⟨e1, e2, rfl, he1, he2⟩ := hrd'.len
      obtain ⟨e3, e4, rfl, he3, he4⟩ := hrd'.1.len
      clear hrg' hrd'
      have hfl := hide (flat_take m l k hkl)
      have hmem := hide (List.getElem_mem hkl)
      have hbnd : Hid (N + (l[k]).2.length ≤ 200000) := by
        have h1 := sizL_len m (flat m (l.take (k + 1)))
        have h2 := flat_siz m (l.take (k + 1))
        have h3 := sizL_take (m + 1) l (k + 1)
        have h4 := hsz.out
        rw [hfl.out] at h1
        rw [hfl.out] at h2
        rw [List.length_append] at h1
        have h5 := hN.out
        show _ ≤ _
        omega
      obtain ⟨x, hxk⟩ : ∃ x, l[k] = x := ⟨_, rfl⟩
      rw [hxk] at y0 y1 y2 y3 y4 y5 y6 y7 y8 hvl hfl hmem hbnd
      simp only [hxk] at he1 he3
      have hxk' := hide hxk
      clear hxk
      obtain ⟨hd, ll⟩ := x
      simp only [vhd] at y0 y1 y2 y3 y4 y5 y6 y7 y8 hvl hfl hmem hbnd he1 he3
      by_cases h7 : hd.kind = 7
      · rw [h7] at y0
        have hbl1 : Hid (∀ o, Below w.heap.size w (wr.alloc o)) := fun o => below_al H.out.2.1
        have hov : Hid (∀ o, OV m w (wr.alloc o) (w.heap.size + 1) (.slice av' N c') (flat m (l.take k))) := fun o => H.out.2.2.2.below (below_al (Below.refl _ _))
        have hB : Hid (∀ o, w.heap.size + 1 ≤ (wr.alloc o).heap.size) := fun o => by show _ ≤ _; simp; omega
        have h7' := hide h7
        go_wp2_with (at_builtin; refine app_vs rfl (.tmp 17) (.tmp 19) rfl m w (w.heap.size + 1) av' N c' (flat m (l.take k)) rfl hN (hov.out _) e1 ll.length e2 ll rfl rfl hvl (hbl1.out _) hbnd (hB.out _) ?_; intro av2 c2 w2 ho2 hg2)
        refine ⟨⟨k + 1, N + ll.length, av2, c2, by go_num, rfl, by omega, ?_, ?_⟩, by simp [intOf]; omega⟩
        · show _ = _
          rw [hfl.out, List.length_append, hN.out]
        · refine ⟨?_, ?_, ?_, ?_⟩
          · intro v hv
            rw [List.take_succ_eq_append_getElem hkl] at hv
            rcases List.mem_append.1 hv with q | q
            · exact H.out.1 v q
            · rw [List.mem_singleton.1 q]
              rw [hxk'.out]
              exact h7'.out
          · exact (hbl1.out _).grown hg2.out (hbl1.out _).size (fun j hj => by have := H.out.2.2.2.lt j hj; omega)
          · have hne : ∀ g, (Value.slice av' N c').ownBlock = some g → w.heap.size ≠ g := fun g hg => by have := H.out.2.2.2.lt g hg; omega
            refine ⟨?_⟩
            rw [hg2.out.block w.heap.size (by simp; omega) (fun e => hne _ e.symm rfl)]
            exact (H.out.2.2.1.below (below_al (Below.refl _ _))).at_
          · rw [hfl.out]; exact ho2.out
      · have hne : (hd.kind != 7) = true := by simpa using h7
        have hne' : (hd.kind == 7) = false := beq_eq_false_iff_ne.2 h7
        have hnn := hide (hno.out (hd, ll) hmem.out h7)
        go_wp2_with fail
        go_ret
        exact TB.no hnn.out (below_al H.out.2.1)
    · have hki : ¬ ((k : Int) < (l.length : Int)) := by omega
      obtain ⟨c0, c1, c2⟩ := H.out.2.2.1.cells
      have hkk : l.take k = l := List.take_of_length_le (by omega)
      have h7 := hide (show ∀ v ∈ l, v.1.kind = 7 by have := H.out.1; rw [hkk] at this; exact this)
      have hov := hide (show OV m w wr (w.heap.size + 1) (.slice av' N c') (flat m l) by have := H.out.2.2.2; rw [hkk] at this; exact this)
      have hc := hide (hcall.out wr (.slice av' N c') H.out.2.1 (hov.out.vl H.out.2.1))
      obtain ⟨y0, y1, y2⟩ := range3 (rangeAt_below hrg.out H.out.2.1 hbl)
      clear hkk
      go_wp2_with (go_at_call 32; refine hc.out.mono ?_; rintro e w2 ⟨bb, rfl, hT, hb2⟩)
      go_ret
      cases bb
      · exact TB.no (fun q => by have := hT.2 ((hx.out h7.out).1 q); cases this) (below_then H.out.2.1 hb2)
      · exact TB.yes ((hx.out h7.out).2 (hT.1 rfl)) (below_then H.out.2.1 hb2)
end Go.Proofs.YtlfnnecpinmjjaaDoor
