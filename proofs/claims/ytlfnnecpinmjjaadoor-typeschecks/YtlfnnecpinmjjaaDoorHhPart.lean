/- types.isPartByName, isPart: walked. -/
import Derived.Test.YtlfnnecpinmjjaaDoorHgPart
namespace Go.Proofs.YtlfnnecpinmjjaaDoor
open Go.RowKit Go.Maps
set_option linter.unusedSimpArgs false
set_option linter.unusedVariables false
section
variable {H : Type} {P : Program} (w : World) {ops : Array Oper} {rest : List Oper} {o : Oper} {a : Act} {Q : Exit → Act → World → Prop}
/-- v, ok := m[k], of ints, where both are known. -/
theorem lookup_int_at (hg : o.guard = none) (m x : Operand) (t : TypeId) (hop : o.op = Op.lookup t m x true)
    (k e : TypeId) (q : IntKind) (K : Keyed P k) (ht : P.underlying t = some (.map k e)) (he : P.underlying e = some (.int q)) (hz : (zeroValue e).run P w = .ok (.int q 0) w) (b n : Nat) (D : DataW H)
    (hm : a.eval m = .map (some b)) (hown : w.ownsMap P k (plainElem P e) b n D) (key : Value) (kl : Lit) (hx : a.eval x = key) (hkey : keyOf P k key = some kl)
    (c0 : Int) (hb : Bool) (hc : D.atKey kl (.lit (.int q 0)) = .lit (.int q c0)) (hh : Maps.has D kl = hb)
    (hK : wpList P ops Q rest (a.put o.dst (.tuple #[.int q c0, .bool hb])) w) :
    wpList P ops Q (o :: rest) a w :=
  wpList_lookup_own_ok_int w hg m x t hop k e q K ht he hz b n D hm hown key kl hx hkey (fun c hat hwc => by
    have e : c = c0 := by
      rw [hc] at hat
      cases hat
      rfl
    subst e
    rw [hh]
    exact hK)
end
theorem below_dr {B : Nat} {w W : World} (h : Below B w W) : Below B w W.drew := ⟨h.os, h.tape, h.output, h.size, h.block⟩
theorem zero3 (w : World) : (zeroValue 3).run Tryd.prog w = .ok (.int .i64 0) w := by kernel_rfl
theorem Pl_idx {l : List ByteArray} {s : ByteArray} (h : s ∈ l) : ∃ k, ∃ hk : k < l.length, l[k] = s := by
  obtain ⟨k, hk, e⟩ := List.mem_iff_getElem.1 h
  exact ⟨k, hk, e⟩
set_option maxHeartbeats 1000000 in
set_option maxRecDepth 100000 in
theorem byName_any (n : Nat) (ih : PartOk n) (x y : TT (n + 1)) (ns ls ns' ls' : Value) (w : World) (hx : RT (n + 1) w x ns ls) (hy : RT (n + 1) w y ns' ls') (zx : TSz (n + 1) x) (zy : TSz (n + 1) y) (tx : IsT (n + 1) x) (ty : IsT (n + 1) y)
    (hxl : x.1.names.length = x.2.length) (hyl : y.1.names.length = y.2.length) (hnd : y.1.names.Nodup) :
    Calls Tryd.prog 59 #[.agg (tvs x.1 ns ls), .agg (tvs y.1 ns' ls')] w fun e w' => TB (PNm (fun x y => Prt n x y) x.1.names x.2 y.1.names y.2) w e w' := by
  obtain ⟨h, l⟩ := x
  obtain ⟨g, m⟩ := y
  obtain ⟨al, cl, rfl, hl1, hl2⟩ := hx.len
  obtain ⟨an, cn, rfl, hn1, hn2⟩ := hx.1.len
  obtain ⟨bl', dl, rfl, hm1, hm2⟩ := hy.len
  obtain ⟨bn, dn, rfl, ho1, ho2⟩ := hy.1.len
  simp only at hxl hyl hnd hl1 hl2 hn1 hn2 hm1 hm2 ho1 ho2 ⊢
  have hP := hide (fun W (hb : Below w.heap.size w W) => places_any _ g.names W (hy.1.below hb) ⟨zy.1, zy.2.1⟩)
  have hb0 : Hid (∀ o o', Below w.heap.size w ((w.alloc o).alloc o')) := fun o o' => below_al (below_al (Below.refl _ _))
  have hx := hide hx
  have hy := hide hy
  have zx := hide zx
  have zy := hide zy
  have tx := hide tx
  have ty := hide ty
  have ih := hide ih
  have hxl' := hide hxl
  have hyl' := hide hyl
  have hnd' := hide hnd
  clear hxl hyl hnd
  have ml : maxLen = 9223372036854775807 := rfl
  show Calls _ _ #[.agg #[.int .i64 h.kind, .slice an h.names.length cn, .slice al l.length cl], .agg #[.int .i64 g.kind, .slice bn g.names.length dn, .slice bl' m.length dl]] _ _
  go_enter Tryd.func59, Tryd.ntmps59
  go_wp2_with fail
  refine (hP.out _ (hb0.out _ _)).mono ?_
  rintro e w1 ⟨rfl, hM1, hb1⟩
  obtain ⟨B, hB⟩ : ∃ B, ((w.alloc (.cells #[.int .i64 h.kind, .slice an h.names.length cn, .slice al l.length cl] 26)).alloc (.cells #[.int .i64 g.kind, .slice bn g.names.length dn, .slice bl' m.length dl] 26)).heap.size = B := ⟨_, rfl⟩
  rw [hB] at hM1 ⊢
  clear hB
  have C1 : Hid (w1.cell? ⟨w.heap.size, 1, none⟩ = some (.slice an h.names.length cn) ∧ w1.cell? ⟨w.heap.size, 2, none⟩ = some (.slice al l.length cl) ∧ w1.cell? ⟨w.heap.size + 1, 2, none⟩ = some (.slice bl' m.length dl) ∧ w.heap.size + 2 ≤ w1.heap.size) := ⟨(two_cells hb1 1).1, (two_cells hb1 2).1, (two_cells hb1 2).2, by have := hb1.size; simp at this; omega⟩
  have hb2 := hide (below_then (hb0.out _ _) hb1)
  clear hb1
  obtain ⟨c1, c2, c3, _⟩ := C1.out
  go_wp2_with fail
  clear c1 c2 c3
  go_loopw [16] (fun i w' => ∃ k : Nat, i = .int .i64 k ∧ k ≤ h.names.length ∧ Hid ((∀ i (h1 : i < h.names.length) (h2 : i < l.length), i < k → ∃ k, ∃ (h3 : k < g.names.length) (h4 : k < m.length), g.names[k] = h.names[i] ∧ Prt n l[i] m[k]) ∧ Below w1.heap.size w1 w')) (fun i _ => h.names.length - (intOf i).toNat)
  case atStart => exact ⟨0, rfl, Nat.zero_le _, (fun i _ _ h => by omega), Below.refl _ _⟩
  case round =>
    obtain ⟨k, rfl, hk, H⟩ := hrel
    have hwr := hide (below_then hb2.out H.out.2)
    by_cases hkl : k < h.names.length
    · have hki : (k : Int) < (h.names.length : Int) := by omega
      have hk63 : (k : Int) < 9223372036854775807 := by omega
      have hkl2 : k < l.length := by have := hxl'.out; omega
      have hki2 : (k : Int) < (l.length : Int) := by omega
      obtain ⟨b, o, c, he, hbl, hlc, hcm, hcell⟩ := hx.out.1.at k hkl
      have he' := Value.slice.inj he
      obtain ⟨rfl, _, rfl⟩ := he'
      clear he
      have hcell := (hwr.out.cell (p := ⟨b, o + k, none⟩) hbl).trans hcell
      have c1 := (H.out.2.cell (p := ⟨w.heap.size, 1, none⟩) (show w.heap.size < _ by have := C1.out.2.2.2; omega)).trans C1.out.1
      have c2 := (H.out.2.cell (p := ⟨w.heap.size, 2, none⟩) (show w.heap.size < _ by have := C1.out.2.2.2; omega)).trans C1.out.2.1
      have c3 := (H.out.2.cell (p := ⟨w.heap.size + 1, 2, none⟩) (show w.heap.size + 1 < _ by have := C1.out.2.2.2; omega)).trans C1.out.2.2.1
      obtain ⟨s, hs⟩ : ∃ s, Hid (h.names[k] = s) := ⟨_, hide rfl⟩
      simp only at hcell
      rw [hs.out] at hcell
      have hkey := hide (show keyOf Tryd.prog 9 (.string s) = some (ks s) from WideMaps.keyOf_string_mk Tryd.underlying9 (by have := zx.out.2.1 _ (List.getElem_mem hkl); simp only [hs.out] at this; omega))
      have hMP := hide (hM1.out.below H.out.2)
      by_cases hmem : s ∈ g.names
      · obtain ⟨j, hj, hje⟩ := Pl_idx hmem
        have hj' := hide (show j < m.length by have := hyl'.out; omega)
        have hje' := hide hje
        have hhas := hide ((has_Pl g.names s g.names.length (Nat.le_refl _)).2 (by rw [List.take_of_length_le (Nat.le_refl _)]; exact hmem))
        have hat := hide (Pl_at g.names hnd'.out j hj (.lit (.int .i64 0)) g.names.length hj (Nat.le_refl _))
        rw [hje] at hat
        clear hmem hje
        have hji : (j : Int) < (m.length : Int) := by have := hj'.out; omega
        have hj63 : (j : Int) < 9223372036854775807 := by omega
        obtain ⟨b1, o1, e1, he, hbl1, hlc1, hcm1, ns1, ls1, hrg1, hrd1⟩ := hx.out.at k hkl2
        have he' := Value.slice.inj he
        obtain ⟨rfl, _, rfl⟩ := he'
        clear he
        obtain ⟨q0, q1, q2⟩ := range3 (rangeAt_below hrg1 hwr.out hbl1)
        obtain ⟨b2, o2, e2, he, hbl2, hlc2, hcm2, ns2, ls2, hrg2, hrd2⟩ := hy.out.at j hj'.out
        have he' := Value.slice.inj he
        obtain ⟨rfl, _, rfl⟩ := he'
        clear he
        obtain ⟨r0, r1, r2⟩ := range3 (rangeAt_below hrg2 hwr.out hbl2)
        have hd1 := hide hrd1
        have hd2 := hide hrd2
        obtain ⟨a1, m1, d1, a2, m2, d2, rfl, rfl⟩ := hrd1.shape
        obtain ⟨a3, m3, d3, a4, m4, d4, rfl, rfl⟩ := hrd2.shape
        clear hrg1 hrd1 hrg2 hrd2
        obtain ⟨bk, hbk⟩ := tells (Prt n l[k] (m[j]'hj'.out))
        have hcall := hide (fun W (hW : Below wr.heap.size wr W) => Calls.tb (ih.out l[k] (m[j]'hj'.out) _ _ _ _ W (hd1.out.below (below_then hwr.out hW)) (hd2.out.below (below_then hwr.out hW)) (zx.out.2.2 _ (List.getElem_mem _)) (zy.out.2.2 _ (List.getElem_mem _)) (tx.out.2 _ (List.getElem_mem _)) (ty.out.2 _ (List.getElem_mem _))) hbk)
        have hbk' := hide hbk
        clear hbk
        simp only at q0 q1 q2 r0 r1 r2 hcall
        obtain ⟨hp, hhp⟩ : ∃ hp, thd n l[k] = hp := ⟨_, rfl⟩
        obtain ⟨hq, hhq⟩ : ∃ hq, thd n (m[j]'hj'.out) = hq := ⟨_, rfl⟩
        rw [hhp] at q0 hcall
        rw [hhq] at r0 hcall
        clear hhp hhq
        have mkS : Hid (∀ W, Below wr.heap.size wr W → W.cell? ⟨w.heap.size, 2, none⟩ = some (.slice (some ⟨b1, o1, none⟩) l.length cl) ∧ W.cell? ⟨w.heap.size + 1, 2, none⟩ = some (.slice (some ⟨b2, o2, none⟩) m.length dl) ∧ W.cell? ⟨b1, o1 + k * 3, none⟩ = some (.int .i64 hp.kind) ∧ W.cell? ⟨b1, o1 + k * 3 + 1, none⟩ = some (.slice a1 m1 d1) ∧ W.cell? ⟨b1, o1 + k * 3 + 2, none⟩ = some (.slice a2 m2 d2) ∧ W.cell? ⟨b2, o2 + j * 3, none⟩ = some (.int .i64 hq.kind) ∧ W.cell? ⟨b2, o2 + j * 3 + 1, none⟩ = some (.slice a3 m3 d3) ∧ W.cell? ⟨b2, o2 + j * 3 + 2, none⟩ = some (.slice a4 m4 d4)) := fun W hW => by
          have hlt := C1.out.2.2.2
          have hsz := H.out.2.size
          have hs2 := hwr.out.size
          exact ⟨(hW.cell (p := ⟨w.heap.size, 2, none⟩) (show w.heap.size < _ by omega)).trans c2, (hW.cell (p := ⟨w.heap.size + 1, 2, none⟩) (show w.heap.size + 1 < _ by omega)).trans c3, (hW.cell (p := ⟨b1, o1 + k * 3, none⟩) (show b1 < _ by omega)).trans q0, (hW.cell (p := ⟨b1, o1 + k * 3 + 1, none⟩) (show b1 < _ by omega)).trans q1, (hW.cell (p := ⟨b1, o1 + k * 3 + 2, none⟩) (show b1 < _ by omega)).trans q2, (hW.cell (p := ⟨b2, o2 + j * 3, none⟩) (show b2 < _ by omega)).trans r0, (hW.cell (p := ⟨b2, o2 + j * 3 + 1, none⟩) (show b2 < _ by omega)).trans r1, (hW.cell (p := ⟨b2, o2 + j * 3 + 2, none⟩) (show b2 < _ by omega)).trans r2⟩
        cases bk
        · go_wp2_with (first | (at_lookup; refine lookup_int_at _ rfl _ _ 72 rfl 9 3 .i64 keyS Tryd.underlying72 u3 (zero3 _) B g.names.length (Pl g.names g.names.length) rfl hMP.out _ _ rfl hkey.out _ true hat.out hhas.out ?_))
          go_region_held3 (fun W => W.cell? ⟨w.heap.size, 2, none⟩ = some (.slice (some ⟨b1, o1, none⟩) l.length cl) ∧ W.cell? ⟨w.heap.size + 1, 2, none⟩ = some (.slice (some ⟨b2, o2, none⟩) m.length dl) ∧ W.cell? ⟨b1, o1 + k * 3, none⟩ = some (.int .i64 hp.kind) ∧ W.cell? ⟨b1, o1 + k * 3 + 1, none⟩ = some (.slice a1 m1 d1) ∧ W.cell? ⟨b1, o1 + k * 3 + 2, none⟩ = some (.slice a2 m2 d2) ∧ W.cell? ⟨b2, o2 + j * 3, none⟩ = some (.int .i64 hq.kind) ∧ W.cell? ⟨b2, o2 + j * 3 + 1, none⟩ = some (.slice a3 m3 d3) ∧ W.cell? ⟨b2, o2 + j * 3 + 2, none⟩ = some (.slice a4 m4 d4)) (first | (exact mkS.out _ T3.out) | (simp [go_sem]; done) | go_keep) (first | (go_at_call 41; refine (hcall.out _ (by repeat (first | exact Below.refl _ _ | refine below_dr ?_ | refine below_dn ?_ _))).mono ?_; rintro e w3 ⟨rfl, hb3⟩; have T3 : Hid (Below wr.heap.size wr w3) := below_then (by repeat (first | exact Below.refl _ _ | refine below_dr ?_ | refine below_dn ?_ _)) hb3))
          go_wp2_with fail
          go_ret
          refine TB.no (fun q => ?_) (below_then hwr.out T3.out)
          obtain ⟨k', h3, h4, e3, e4⟩ := q k hkl hkl2
          have : k' = j := (List.getElem_inj hnd'.out).1 (by rw [e3, hs.out, hje'.out])
          subst this
          have := hbk'.out.2 e4
          cases this
        · go_wp2_with (first | (at_lookup; refine lookup_int_at _ rfl _ _ 72 rfl 9 3 .i64 keyS Tryd.underlying72 u3 (zero3 _) B g.names.length (Pl g.names g.names.length) rfl hMP.out _ _ rfl hkey.out _ true hat.out hhas.out ?_))
          go_region_held3 (fun W => W.cell? ⟨w.heap.size, 2, none⟩ = some (.slice (some ⟨b1, o1, none⟩) l.length cl) ∧ W.cell? ⟨w.heap.size + 1, 2, none⟩ = some (.slice (some ⟨b2, o2, none⟩) m.length dl) ∧ W.cell? ⟨b1, o1 + k * 3, none⟩ = some (.int .i64 hp.kind) ∧ W.cell? ⟨b1, o1 + k * 3 + 1, none⟩ = some (.slice a1 m1 d1) ∧ W.cell? ⟨b1, o1 + k * 3 + 2, none⟩ = some (.slice a2 m2 d2) ∧ W.cell? ⟨b2, o2 + j * 3, none⟩ = some (.int .i64 hq.kind) ∧ W.cell? ⟨b2, o2 + j * 3 + 1, none⟩ = some (.slice a3 m3 d3) ∧ W.cell? ⟨b2, o2 + j * 3 + 2, none⟩ = some (.slice a4 m4 d4)) (first | (exact mkS.out _ T3.out) | (simp [go_sem]; done) | go_keep) (first | (go_at_call 41; refine (hcall.out _ (by repeat (first | exact Below.refl _ _ | refine below_dr ?_ | refine below_dn ?_ _))).mono ?_; rintro e w3 ⟨rfl, hb3⟩; have T3 : Hid (Below wr.heap.size wr w3) := below_then (by repeat (first | exact Below.refl _ _ | refine below_dr ?_ | refine below_dn ?_ _)) hb3))
          go_wp2_with fail
          refine ⟨⟨k + 1, by go_num, by omega, (fun i h1 h2 h3 => ?_), below_then H.out.2 T3.out⟩, by simp [intOf]; omega⟩
          by_cases e : i = k
          · subst e; exact ⟨j, hj, hj'.out, by rw [hje'.out, hs.out], hbk'.out.1 (by simp)⟩
          · exact H.out.1 i h1 h2 (by omega)
      · have hhas := hide (show Maps.has (Pl g.names g.names.length) (ks s) = false by
          cases hq : Maps.has (Pl g.names g.names.length) (ks s)
          · rfl
          · have := (has_Pl g.names s g.names.length (Nat.le_refl _)).1 hq
            rw [List.take_of_length_le (Nat.le_refl _)] at this
            exact absurd this hmem)
        have hat := hide (atKey_of_not_has hhas.out (.lit (.int .i64 0)))
        have hmem' := hide hmem
        clear hmem
        go_wp2_with (first | (at_lookup; refine lookup_int_at _ rfl _ _ 72 rfl 9 3 .i64 keyS Tryd.underlying72 u3 (zero3 _) B g.names.length (Pl g.names g.names.length) rfl hMP.out _ _ rfl hkey.out _ false hat.out hhas.out ?_))
        go_quiet (fail)
        go_wp2_with fail
        go_ret
        refine TB.no (fun q => ?_) (below_dn hwr.out _)
        obtain ⟨k', h3, h4, e3, e4⟩ := q k hkl hkl2
        rw [hs.out] at e3
        exact hmem'.out (e3 ▸ List.getElem_mem _)
    · have hki : ¬ ((k : Int) < (h.names.length : Int)) := by omega
      have hE' := hide (show PNm (fun x y => Prt n x y) h.names l g.names m from fun i h1 h2 => H.out.1 i h1 h2 (by omega))
      go_wp2_with fail
      go_ret
      exact TB.yes hE'.out hwr.out
theorem TFil.eleven {h : Th} {m : Nat} (q : TFil h m) (e : h.kind = 11) : h.names.length = m ∧ h.names.Nodup := by
  rcases q with ⟨r, _⟩ | ⟨_, r, s⟩ | ⟨_, r, _⟩
  · omega
  · exact ⟨r, s.2⟩
  · omega
set_option maxHeartbeats 1000000 in
set_option maxRecDepth 100000 in
theorem part_ok : ∀ n, PartOk n := by
  intro n
  induction n with
  | zero => intro x; exact Empty.elim x
  | succ n ih =>
    intro x y ns ls ns' ls' w hx hy zx zy tx ty
    obtain ⟨h, l⟩ := x
    obtain ⟨g, m⟩ := y
    have hP := hide (fun W (hb : Below w.heap.size w W) => byPlace_any n ih (h, l) (g, m) ns ls ns' ls' W (hx.below hb) (hy.below hb) zx zy tx ty)
    have hN := hide (fun (e : h.kind = 11) (e' : g.kind = 11) W (hb : Below w.heap.size w W) => byName_any n ih (h, l) (g, m) ns ls ns' ls' W (hx.below hb) (hy.below hb) zx zy tx ty (tx.1.eleven e).1 (ty.1.eleven e').1 (ty.1.eleven e').2)
    obtain ⟨al, cl, rfl, hl1, hl2⟩ := hx.len
    obtain ⟨an, cn, rfl, hn1, hn2⟩ := hx.1.len
    obtain ⟨bl', dl, rfl, hm1, hm2⟩ := hy.len
    obtain ⟨bn, dn, rfl, ho1, ho2⟩ := hy.1.len
    have hb0 : Hid (∀ o o', Below w.heap.size w ((w.alloc o).alloc o')) := fun o o' => below_al (below_al (Below.refl _ _))
    clear hx hy zx zy tx ty ih
    show Calls _ _ #[.agg #[.int .i64 h.kind, .slice an h.names.length cn, .slice al l.length cl], .agg #[.int .i64 g.kind, .slice bn g.names.length dn, .slice bl' m.length dl]] _ _
    by_cases g1 : g.kind = 1
    · have hx : Hid (Prt (n + 1) (h, l) (g, m)) := Or.inl g1
      rw [g1]
      go_enter Tryd.func41, Tryd.ntmps41
      go_wp2_with fail
      go_ret
      exact TB.yes hx.out (hb0.out _ _)
    have g1b : (g.kind == 1) = false := beq_eq_false_iff_ne.2 g1
    by_cases h54 : h.kind = 5 ∧ g.kind = 4
    · have hx : Hid (Prt (n + 1) (h, l) (g, m)) := Or.inr (Or.inl h54)
      rw [h54.1, h54.2]
      go_enter Tryd.func41, Tryd.ntmps41
      go_wp2_with fail
      go_ret
      exact TB.yes hx.out (hb0.out _ _)
    by_cases hg : h.kind = g.kind
    · by_cases h11 : h.kind = 11
      · have g11 : g.kind = 11 := by omega
        have hN := hide (fun W (hb : Below w.heap.size w W) => hN.out h11 g11 W hb)
        have hx : Hid (Prt (n + 1) (h, l) (g, m) ↔ PNm (fun x y => Prt n x y) h.names l g.names m) := by
          constructor
          · rintro (q | ⟨q, _⟩ | ⟨_, ⟨_, q⟩ | ⟨q, _⟩⟩)
            · exact absurd q g1
            · simp only at q; omega
            · exact q
            · exact absurd h11 q
          · exact fun q => Or.inr (Or.inr ⟨hg, Or.inl ⟨h11, q⟩⟩)
        have hN : Hid (∀ W, Below w.heap.size w W → Calls Tryd.prog 59 #[.agg #[.int .i64 11, .slice an h.names.length cn, .slice al l.length cl], .agg #[.int .i64 11, .slice bn g.names.length dn, .slice bl' m.length dl]] W fun e w' => TB (PNm (fun x y => Prt n x y) h.names l g.names m) W e w') := fun W hb => by
          have := hN.out W hb
          simp only [tvs, h11, g11] at this
          exact this
        rw [h11, g11]
        clear hg g1 g1b h54 hP
        go_enter Tryd.func41, Tryd.ntmps41
        go_wp2_with (go_at_call 59; refine (hN.out _ (hb0.out _ _)).mono ?_; rintro e w1 ⟨b, rfl, hT, hb1⟩)
        go_ret
        cases b
        · exact TB.no (fun e => by have := hT.2 (hx.out.1 e); cases this) (below_then (hb0.out _ _) hb1)
        · exact TB.yes (hx.out.2 (hT.1 rfl)) (below_then (hb0.out _ _) hb1)
      · have hx : Hid (Prt (n + 1) (h, l) (g, m) ↔ h.names = g.names ∧ PPl (fun x y => Prt n x y) l m) := by
          constructor
          · rintro (q | ⟨q, r⟩ | ⟨_, ⟨q, _⟩ | ⟨_, q⟩⟩)
            · exact absurd q g1
            · simp only at q r; omega
            · exact absurd q h11
            · exact q
          · exact fun q => Or.inr (Or.inr ⟨hg, Or.inr ⟨h11, q⟩⟩)
        have hP : Hid (∀ W, Below w.heap.size w W → Calls Tryd.prog 60 #[.agg #[.int .i64 g.kind, .slice an h.names.length cn, .slice al l.length cl], .agg #[.int .i64 g.kind, .slice bn g.names.length dn, .slice bl' m.length dl]] W fun e w' => TB (h.names = g.names ∧ PPl (fun x y => Prt n x y) l m) W e w') := fun W hb => by
          have := hP.out W hb
          simp only [tvs, hg] at this
          exact this
        have g11 : ¬ g.kind = 11 := by omega
        have gb : (g.kind == 11) = false := beq_eq_false_iff_ne.2 g11
        by_cases g5 : g.kind = 5
        · rw [hg, g5]
          rw [g5] at hP
          clear hg g1 g1b h54 hN h11 g11 gb g5
          go_enter Tryd.func41, Tryd.ntmps41
          go_wp2_with (go_at_call 60; refine (hP.out _ (hb0.out _ _)).mono ?_; rintro e w1 ⟨b, rfl, hT, hb1⟩)
          go_ret
          cases b
          · exact TB.no (fun e => by have := hT.2 (hx.out.1 e); cases this) (below_then (hb0.out _ _) hb1)
          · exact TB.yes (hx.out.2 (hT.1 rfl)) (below_then (hb0.out _ _) hb1)
        · have g5b : (g.kind == 5) = false := beq_eq_false_iff_ne.2 g5
          rw [hg]
          clear hg h54 hN h11
          go_enter Tryd.func41, Tryd.ntmps41
          go_wp2_with (go_at_call 60; refine (hP.out _ (hb0.out _ _)).mono ?_; rintro e w1 ⟨b, rfl, hT, hb1⟩)
          go_ret
          cases b
          · exact TB.no (fun e => by have := hT.2 (hx.out.1 e); cases this) (below_then (hb0.out _ _) hb1)
          · exact TB.yes (hx.out.2 (hT.1 rfl)) (below_then (hb0.out _ _) hb1)
    · have hx : Hid (¬ Prt (n + 1) (h, l) (g, m)) := by
        rintro (q | q | ⟨q, _⟩)
        · exact g1 q
        · exact h54 q
        · exact hg q
      have hgb : (h.kind == g.kind) = false := beq_eq_false_iff_ne.2 hg
      have hgn : (h.kind != g.kind) = true := by simpa using hg
      by_cases h5 : h.kind = 5
      · have g4 : ¬ g.kind = 4 := fun e => h54 ⟨h5, e⟩
        have g4b : (g.kind == 4) = false := beq_eq_false_iff_ne.2 g4
        rw [h5] at hg hgb hgn ⊢
        clear hP hN h54 h5
        go_enter Tryd.func41, Tryd.ntmps41
        go_wp2_with fail
        go_ret
        exact TB.no hx.out (hb0.out _ _)
      · have h5b : (h.kind == 5) = false := beq_eq_false_iff_ne.2 h5
        clear hP hN h54
        go_enter Tryd.func41, Tryd.ntmps41
        go_wp2_with fail
        go_ret
        exact TB.no hx.out (hb0.out _ _)
end Go.Proofs.YtlfnnecpinmjjaaDoor
