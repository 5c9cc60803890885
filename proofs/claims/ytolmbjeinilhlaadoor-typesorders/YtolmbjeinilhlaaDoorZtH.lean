/- Merged by program: HgPart, HhPart, HiHas. -/
import Derived.Test.YtolmbjeinilhlaaDoorZtHfCheck
import Derived.Test.YtolmbjeinilhlaaDoorZtXqCopy
/- types.isPart, isPartByPlace, isPartByName, slices.EqualFunc over it: walked. -/
namespace Go.Proofs.YtolmbjeinilhlaaDoor
open Go.RowKit Go.Maps
set_option linter.unusedSimpArgs false
set_option linter.unusedVariables false
/-- Part, place by place. -/
def PPl {α β : Type} (P : α → β → Prop) (l : List α) (m : List β) : Prop := l.length = m.length ∧ ∀ i (h1 : i < l.length) (h2 : i < m.length), P l[i] m[i]
/-- Part, name by name. -/
def PNm {α β : Type} (P : α → β → Prop) (ns : List ByteArray) (l : List α) (ms : List ByteArray) (m : List β) : Prop := ∀ i (h1 : i < ns.length) (h2 : i < l.length), ∃ k, ∃ (h3 : k < ms.length) (h4 : k < m.length), ms[k] = ns[i] ∧ P l[i] m[k]
/-- A type is part of another one. -/
def Prt : (n : Nat) → TT n → TT n → Prop
  | 0, _, _ => False
  | n + 1, a, b => b.1.kind = 1 ∨ (a.1.kind = 5 ∧ b.1.kind = 4) ∨ (a.1.kind = b.1.kind ∧ ((a.1.kind = 11 ∧ PNm (fun x y => Prt n x y) a.1.names a.2 b.1.names b.2) ∨ (a.1.kind ≠ 11 ∧ a.1.names = b.1.names ∧ PPl (fun x y => Prt n x y) a.2 b.2)))
/-- What isPart says of types less than n deep. -/
def PartOk (n : Nat) : Prop := ∀ (x y : TT n) (ns ls ns' ls' : Value) (w : World), RT n w x ns ls → RT n w y ns' ls' → TSz n x → TSz n y → IsT n x → IsT n y →
    Calls Tryd.prog 41 #[.agg (tvs (thd n x) ns ls), .agg (tvs (thd n y) ns' ls')] w fun e w' => TB (Prt n x y) w e w'
set_option maxHeartbeats 1000000 in
set_option maxRecDepth 100000 in
theorem teqfunc_any (n : Nat) (ih : PartOk n) (u v : Value) (l m : List (TT n)) (w : World) (hu : TL n w u l) (hv : TL n w v m) (zl : ∀ y ∈ l, TSz n y ∧ IsT n y) (zm : ∀ y ∈ m, TSz n y ∧ IsT n y) :
    Calls Tryd.prog 76 #[u, v, .func (.func 41) #[] #[]] w fun e w' => TB (PPl (fun x y => Prt n x y) l m) w e w' := by
  obtain ⟨al, cl, rfl, hl1, hl2⟩ := hu.len
  obtain ⟨bl', dl, rfl, hm1, hm2⟩ := hv.len
  have hu := hide hu
  have hv := hide hv
  have zl := hide zl
  have zm := hide zm
  have ih := hide ih
  have ml : maxLen = 9223372036854775807 := rfl
  by_cases hl : (l.length : Int) = (m.length : Int)
  · have hml := hide (show m.length = l.length by omega)
    rw [hml.out] at hm1 ⊢
    clear hl
    go_enter Tryd.func76, Tryd.ntmps76
    go_wp2_with fail
    go_loopw [17] (fun i w' => ∃ k : Nat, i = .int .i64 k ∧ k ≤ l.length ∧ Hid ((∀ i (h1 : i < l.length) (h2 : i < m.length), i < k → Prt n l[i] m[i]) ∧ Below w.heap.size w w')) (fun i _ => l.length - (intOf i).toNat)
    case atStart => exact ⟨0, rfl, Nat.zero_le _, (fun i _ _ h => by omega), Below.refl _ _⟩
    case round =>
      obtain ⟨k, rfl, hk, H⟩ := hrel
      by_cases hkl : k < l.length
      · have hki : (k : Int) < (l.length : Int) := by omega
        have hk63 : (k : Int) < 9223372036854775807 := by omega
        obtain ⟨b, o, c, he, hbl, hlc, hcm, ns1, ls1, hrg, hrd⟩ := hu.out.at k hkl
        have he' := Value.slice.inj he
        obtain ⟨rfl, _, rfl⟩ := he'
        clear he
        obtain ⟨q0, q1, q2⟩ := range3 (rangeAt_below hrg H.out.2 hbl)
        have hkm : k < m.length := by rw [hml.out]; exact hkl
        obtain ⟨b', o', c', he, hbl', hlc', hcm', ns2, ls2, hrg', hrd'⟩ := hv.out.at k hkm
        have he' := Value.slice.inj he
        obtain ⟨rfl, _, rfl⟩ := he'
        clear he
        have hwr : Hid (∀ o, Below w.heap.size w (wr.alloc o)) := fun o => below_al H.out.2
        have hwr2 : Hid (∀ o o', Below w.heap.size w ((wr.alloc o).alloc o')) := fun o o' => below_al (below_al H.out.2)
        have R9 := fun ob => range3 (rangeAt_below hrg' (hwr.out ob) hbl')
        have r0 := fun ob => (R9 ob).1
        have r1 := fun ob => (R9 ob).2.1
        have r2 := fun ob => (R9 ob).2.2
        clear R9
        have hd1 := hide hrd
        have hd2 := hide hrd'
        obtain ⟨a1, m1, d1, a2, m2, d2, rfl, rfl⟩ := hrd.shape
        obtain ⟨a3, m3, d3, a4, m4, d4, rfl, rfl⟩ := hrd'.shape
        clear hrg hrd hrg' hrd'
        have z1 := zl.out _ (List.getElem_mem hkl)
        have z2 := zm.out _ (List.getElem_mem hkm)
        have hcall := hide (fun o o' => ih.out l[k] m[k] _ _ _ _ _ (hd1.out.below (hwr2.out o o')) (hd2.out.below (hwr2.out o o')) z1.1 z2.1 z1.2 z2.2)
        clear z1 z2
        go_wp2_with fail
        refine (hcall.out _ _).mono ?_
        rintro e w2 ⟨b2, rfl, hT, hb1⟩
        have hb2 := hide (below_then (hwr2.out _ _) hb1)
        cases b2
        · have hne : ¬ PPl (fun x y => Prt n x y) l m := by
            intro e
            have := hT.2 (e.2 k hkl hkm)
            cases this
          have hne' := hide hne
          clear hne
          go_wp2_with fail
          go_ret
          exact TB.no hne'.out hb2.out
        · have hEq := hide (hT.1 rfl)
          go_wp2_with fail
          refine ⟨⟨k + 1, by go_num, by omega, (fun i h1 h2 h3 => ?_), hb2.out⟩, by simp [intOf]; omega⟩
          by_cases e : i = k
          · subst e; exact hEq.out
          · exact H.out.1 i h1 h2 (by omega)
      · have hki : ¬ ((k : Int) < (l.length : Int)) := by omega
        have hE' := hide (show PPl (fun x y => Prt n x y) l m from ⟨hml.out.symm, fun i h1 h2 => H.out.1 i h1 h2 (by omega)⟩)
        go_wp2_with fail
        go_ret
        exact TB.yes hE'.out H.out.2
  · go_enter Tryd.func76, Tryd.ntmps76
    go_wp2_with fail
    go_ret
    exact TB.no (fun h => hl (by rw [h.1])) (Below.refl _ _)
set_option maxHeartbeats 1000000 in
set_option maxRecDepth 100000 in
theorem byPlace_any (n : Nat) (ih : PartOk n) (x y : TT (n + 1)) (ns ls ns' ls' : Value) (w : World) (hx : RT (n + 1) w x ns ls) (hy : RT (n + 1) w y ns' ls') (zx : TSz (n + 1) x) (zy : TSz (n + 1) y) (tx : IsT (n + 1) x) (ty : IsT (n + 1) y) :
    Calls Tryd.prog 60 #[.agg (tvs x.1 ns ls), .agg (tvs y.1 ns' ls')] w fun e w' => TB (x.1.names = y.1.names ∧ PPl (fun x y => Prt n x y) x.2 y.2) w e w' := by
  obtain ⟨h, l⟩ := x
  obtain ⟨g, m⟩ := y
  obtain ⟨al, cl, rfl, hl1, hl2⟩ := hx.len
  obtain ⟨an, cn, rfl, hn1, hn2⟩ := hx.1.len
  obtain ⟨bl', dl, rfl, hm1, hm2⟩ := hy.len
  obtain ⟨bn, dn, rfl, ho1, ho2⟩ := hy.1.len
  have hN := hide (fun W (hb : Below w.heap.size w W) => sequal_any _ _ h.names g.names W (hx.1.below hb) (hy.1.below hb))
  have hF := hide (fun W (hb : Below w.heap.size w W) => teqfunc_any n ih _ _ l m W (hx.tl.below hb) (hy.tl.below hb) (fun y hy => ⟨zx.2.2 y hy, tx.2 y hy⟩) (fun y hy' => ⟨zy.2.2 y hy', ty.2 y hy'⟩))
  have hb0 : Hid (∀ o o', Below w.heap.size w ((w.alloc o).alloc o')) := fun o o' => below_al (below_al (Below.refl _ _))
  clear hx hy zx zy tx ty ih
  simp only at hN hF ⊢
  show Calls _ _ #[.agg #[.int .i64 h.kind, .slice an h.names.length cn, .slice al l.length cl], .agg #[.int .i64 g.kind, .slice bn g.names.length dn, .slice bl' m.length dl]] _ _
  go_enter Tryd.func60, Tryd.ntmps60
  go_wp2_with fail
  refine (hN.out _ (hb0.out _ _)).mono ?_
  rintro e w1 ⟨b, rfl, hT, hb1⟩
  obtain ⟨k1, k2⟩ := two_cells hb1 2
  replace k1 : w1.cell? ⟨w.heap.size, 2, none⟩ = some (.slice al l.length cl) := k1
  replace k2 : w1.cell? ⟨w.heap.size + 1, 2, none⟩ = some (.slice bl' m.length dl) := k2
  have hb2 := hide (below_then (below_al (below_al (Below.refl _ _))) hb1)
  cases b
  · go_wp2_with fail
    go_ret
    exact TB.no (fun e => by have := hT.2 e.1; cases this) hb2.out
  · have hcall := hide (hF.out w1 hb2.out)
    go_wp2_with (go_at_call 76; refine hcall.out.mono ?_; rintro e w2 ⟨b, rfl, hT2, hb3⟩)
    go_ret
    cases b
    · exact TB.no (fun e => by have := hT2.2 e.2; cases this) (below_then hb2.out hb3)
    · exact TB.yes ⟨hT.1 rfl, hT2.1 rfl⟩ (below_then hb2.out hb3)
end Go.Proofs.YtolmbjeinilhlaaDoor
/- types.isPartByName, isPart: walked. -/
namespace Go.Proofs.YtolmbjeinilhlaaDoor
open Go.RowKit Go.Maps
set_option linter.unusedSimpArgs false
set_option linter.unusedVariables false
section
variable {H : Type} {P : Program} (w : World) {ops : Array Oper} {rest : List Oper} {o : Oper} {a : Act} {Q : Exit → Act → World → Prop}
/-- v, ok := m[k], of ints, where both are known. -/
theorem lookup_int_at (hg : o.guard = none) (m x : Operand) (t : TypeId) (hop : o.op = Op.lookup t m x true)
    (k e : TypeId) (q : IntKind) (K : Keyed P k) (ht : P.underlying t = some (.map k e)) (he : P.underlying e = some (.int q)) (hz : (zeroValue e).run P w = .ok (.int q 0) w) (b n : Nat) (D : DataW H)
    (hm : a.eval m = .map (some b)) (hown : w.ownsMap P k (plainElem P e) b n D) (key : Value) (kl : Lit) (hx : a.eval x = key) (hkey : keyOf P k key = some kl)
    (c0 : Int) (hb : Bool) (hc : D.atKey kl (.lit (.int q 0)) = .lit (.int q c0)) (hh : Maps.has D kl = hb)
    (hK : wpList P ops Q rest (a.put o.dst (.tuple #[.int q c0, .bool hb])) w) :
    wpList P ops Q (o :: rest) a w :=
  wpList_lookup_own_ok_int w hg m x t hop k e q K ht he hz b n D hm hown key kl hx hkey (fun c hat hwc => by
    have e : c = c0 := by
      rw [hc] at hat
      cases hat
      rfl
    subst e
    rw [hh]
    exact hK)
end
theorem below_dr {B : Nat} {w W : World} (h : Below B w W) : Below B w W.drew := ⟨h.os, h.tape, h.output, h.size, h.block⟩
theorem zero3 (w : World) : (zeroValue 3).run Tryd.prog w = .ok (.int .i64 0) w := by kernel_rfl
theorem Pl_idx {l : List ByteArray} {s : ByteArray} (h : s ∈ l) : ∃ k, ∃ hk : k < l.length, l[k] = s := by
  obtain ⟨k, hk, e⟩ := List.mem_iff_getElem.1 h
  exact ⟨k, hk, e⟩
set_option maxHeartbeats 1000000 in
set_option maxRecDepth 100000 in
theorem byName_any (n : Nat) (ih : PartOk n) (x y : TT (n + 1)) (ns ls ns' ls' : Value) (w : World) (hx : RT (n + 1) w x ns ls) (hy : RT (n + 1) w y ns' ls') (zx : TSz (n + 1) x) (zy : TSz (n + 1) y) (tx : IsT (n + 1) x) (ty : IsT (n + 1) y)
    (hxl : x.1.names.length = x.2.length) (hyl : y.1.names.length = y.2.length) (hnd : y.1.names.Nodup) :
    Calls Tryd.prog 59 #[.agg (tvs x.1 ns ls), .agg (tvs y.1 ns' ls')] w fun e w' => TB (PNm (fun x y => Prt n x y) x.1.names x.2 y.1.names y.2) w e w' := by
  obtain ⟨h, l⟩ := x
  obtain ⟨g, m⟩ := y
  obtain ⟨al, cl, rfl, hl1, hl2⟩ := hx.len
  obtain ⟨an, cn, rfl, hn1, hn2⟩ := hx.1.len
  obtain ⟨bl', dl, rfl, hm1, hm2⟩ := hy.len
  obtain ⟨bn, dn, rfl, ho1, ho2⟩ := hy.1.len
  simp only at hxl hyl hnd hl1 hl2 hn1 hn2 hm1 hm2 ho1 ho2 ⊢
  have hP := hide (fun W (hb : Below w.heap.size w W) => places_any _ g.names W (hy.1.below hb) ⟨zy.1, zy.2.1⟩)
  have hb0 : Hid (∀ o o', Below w.heap.size w ((w.alloc o).alloc o')) := fun o o' => below_al (below_al (Below.refl _ _))
  have hx := hide hx
  have hy := hide hy
  have zx := hide zx
  have zy := hide zy
  have tx := hide tx
  have ty := hide ty
  have ih := hide ih
  have hxl' := hide hxl
  have hyl' := hide hyl
  have hnd' := hide hnd
  clear hxl hyl hnd
  have ml : maxLen = 9223372036854775807 := rfl
  show Calls _ _ #[.agg #[.int .i64 h.kind, .slice an h.names.length cn, .slice al l.length cl], .agg #[.int .i64 g.kind, .slice bn g.names.length dn, .slice bl' m.length dl]] _ _
  go_enter Tryd.func59, Tryd.ntmps59
  go_wp2_with fail
  refine (hP.out _ (hb0.out _ _)).mono ?_
  rintro e w1 ⟨rfl, hM1, hb1⟩
  obtain ⟨B, hB⟩ : ∃ B, ((w.alloc (.cells #[.int .i64 h.kind, .slice an h.names.length cn, .slice al l.length cl] 26)).alloc (.cells #[.int .i64 g.kind, .slice bn g.names.length dn, .slice bl' m.length dl] 26)).heap.size = B := ⟨_, rfl⟩
  rw [hB] at hM1 ⊢
  clear hB
  have C1 : Hid (w1.cell? ⟨w.heap.size, 1, none⟩ = some (.slice an h.names.length cn) ∧ w1.cell? ⟨w.heap.size, 2, none⟩ = some (.slice al l.length cl) ∧ w1.cell? ⟨w.heap.size + 1, 2, none⟩ = some (.slice bl' m.length dl) ∧ w.heap.size + 2 ≤ w1.heap.size) := ⟨(two_cells hb1 1).1, (two_cells hb1 2).1, (two_cells hb1 2).2, by have := hb1.size; simp at this; omega⟩
  have hb2 := hide (below_then (hb0.out _ _) hb1)
  clear hb1
  obtain ⟨c1, c2, c3, _⟩ := C1.out
  go_wp2_with fail
  clear c1 c2 c3
  go_loopw [16] (fun i w' => ∃ k : Nat, i = .int .i64 k ∧ k ≤ h.names.length ∧ Hid ((∀ i (h1 : i < h.names.length) (h2 : i < l.length), i < k → ∃ k, ∃ (h3 : k < g.names.length) (h4 : k < m.length), g.names[k] = h.names[i] ∧ Prt n l[i] m[k]) ∧ Below w1.heap.size w1 w')) (fun i _ => h.names.length - (intOf i).toNat)
  case atStart => exact ⟨0, rfl, Nat.zero_le _, (fun i _ _ h => by omega), Below.refl _ _⟩
  case round =>
    obtain ⟨k, rfl, hk, H⟩ := hrel
    have hwr := hide (below_then hb2.out H.out.2)
    by_cases hkl : k < h.names.length
    · have hki : (k : Int) < (h.names.length : Int) := by omega
      have hk63 : (k : Int) < 9223372036854775807 := by omega
      have hkl2 : k < l.length := by have := hxl'.out; omega
      have hki2 : (k : Int) < (l.length : Int) := by omega
      obtain ⟨b, o, c, he, hbl, hlc, hcm, hcell⟩ := hx.out.1.at k hkl
      have he' := Value.slice.inj he
      obtain ⟨rfl, _, rfl⟩ := he'
      clear he
      have hcell := (hwr.out.cell (p := ⟨b, o + k, none⟩) hbl).trans hcell
      have c1 := (H.out.2.cell (p := ⟨w.heap.size, 1, none⟩) (show w.heap.size < _ by have := C1.out.2.2.2; omega)).trans C1.out.1
      have c2 := (H.out.2.cell (p := ⟨w.heap.size, 2, none⟩) (show w.heap.size < _ by have := C1.out.2.2.2; omega)).trans C1.out.2.1
      have c3 := (H.out.2.cell (p := ⟨w.heap.size + 1, 2, none⟩) (show w.heap.size + 1 < _ by have := C1.out.2.2.2; omega)).trans C1.out.2.2.1
      obtain ⟨s, hs⟩ : ∃ s, Hid (h.names[k] = s) := ⟨_, hide rfl⟩
      simp only at hcell
      rw [hs.out] at hcell
      have hkey := hide (show keyOf Tryd.prog 9 (.string s) = some (ks s) from WideMaps.keyOf_string_mk Tryd.underlying9 (by have := zx.out.2.1 _ (List.getElem_mem hkl); simp only [hs.out] at this; omega))
      have hMP := hide (hM1.out.below H.out.2)
      by_cases hmem : s ∈ g.names
      · obtain ⟨j, hj, hje⟩ := Pl_idx hmem
        have hj' := hide (show j < m.length by have := hyl'.out; omega)
        have hje' := hide hje
        have hhas := hide ((has_Pl g.names s g.names.length (Nat.le_refl _)).2 (by rw [List.take_of_length_le (Nat.le_refl _)]; exact hmem))
        have hat := hide (Pl_at g.names hnd'.out j hj (.lit (.int .i64 0)) g.names.length hj (Nat.le_refl _))
        rw [hje] at hat
        clear hmem hje
        have hji : (j : Int) < (m.length : Int) := by have := hj'.out; omega
        have hj63 : (j : Int) < 9223372036854775807 := by omega
        obtain ⟨b1, o1, e1, he, hbl1, hlc1, hcm1, ns1, ls1, hrg1, hrd1⟩ := hx.out.at k hkl2
        have he' := Value.slice.inj he
        obtain ⟨rfl, _, rfl⟩ := he'
        clear he
        obtain ⟨q0, q1, q2⟩ := range3 (rangeAt_below hrg1 hwr.out hbl1)
        obtain ⟨b2, o2, e2, he, hbl2, hlc2, hcm2, ns2, ls2, hrg2, hrd2⟩ := hy.out.at j hj'.out
        have he' := Value.slice.inj he
        obtain ⟨rfl, _, rfl⟩ := he'
        clear he
        obtain ⟨r0, r1, r2⟩ := range3 (rangeAt_below hrg2 hwr.out hbl2)
        have hd1 := hide hrd1
        have hd2 := hide hrd2
        obtain ⟨a1, m1, d1, a2, m2, d2, rfl, rfl⟩ := hrd1.shape
        obtain ⟨a3, m3, d3, a4, m4, d4, rfl, rfl⟩ := hrd2.shape
        clear hrg1 hrd1 hrg2 hrd2
        obtain ⟨bk, hbk⟩ := tells (Prt n l[k] (m[j]'hj'.out))
        have hcall := hide (fun W (hW : Below wr.heap.size wr W) => Calls.tb (ih.out l[k] (m[j]'hj'.out) _ _ _ _ W (hd1.out.below (below_then hwr.out hW)) (hd2.out.below (below_then hwr.out hW)) (zx.out.2.2 _ (List.getElem_mem _)) (zy.out.2.2 _ (List.getElem_mem _)) (tx.out.2 _ (List.getElem_mem _)) (ty.out.2 _ (List.getElem_mem _))) hbk)
        have hbk' := hide hbk
        clear hbk
        simp only at q0 q1 q2 r0 r1 r2 hcall
        obtain ⟨hp, hhp⟩ : ∃ hp, thd n l[k] = hp := ⟨_, rfl⟩
        obtain ⟨hq, hhq⟩ : ∃ hq, thd n (m[j]'hj'.out) = hq := ⟨_, rfl⟩
        rw [hhp] at q0 hcall
        rw [hhq] at r0 hcall
        clear hhp hhq
        have mkS : Hid (∀ W, Below wr.heap.size wr W → W.cell? ⟨w.heap.size, 2, none⟩ = some (.slice (some ⟨b1, o1, none⟩) l.length cl) ∧ W.cell? ⟨w.heap.size + 1, 2, none⟩ = some (.slice (some ⟨b2, o2, none⟩) m.length dl) ∧ W.cell? ⟨b1, o1 + k * 3, none⟩ = some (.int .i64 hp.kind) ∧ W.cell? ⟨b1, o1 + k * 3 + 1, none⟩ = some (.slice a1 m1 d1) ∧ W.cell? ⟨b1, o1 + k * 3 + 2, none⟩ = some (.slice a2 m2 d2) ∧ W.cell? ⟨b2, o2 + j * 3, none⟩ = some (.int .i64 hq.kind) ∧ W.cell? ⟨b2, o2 + j * 3 + 1, none⟩ = some (.slice a3 m3 d3) ∧ W.cell? ⟨b2, o2 + j * 3 + 2, none⟩ = some (.slice a4 m4 d4)) := fun W hW => by
          have hlt := C1.out.2.2.2
          have hsz := H.out.2.size
          have hs2 := hwr.out.size
          exact ⟨(hW.cell (p := ⟨w.heap.size, 2, none⟩) (show w.heap.size < _ by omega)).trans c2, (hW.cell (p := ⟨w.heap.size + 1, 2, none⟩) (show w.heap.size + 1 < _ by omega)).trans c3, (hW.cell (p := ⟨b1, o1 + k * 3, none⟩) (show b1 < _ by omega)).trans q0, (hW.cell (p := ⟨b1, o1 + k * 3 + 1, none⟩) (show b1 < _ by omega)).trans q1, (hW.cell (p := ⟨b1, o1 + k * 3 + 2, none⟩) (show b1 < _ by omega)).trans q2, (hW.cell (p := ⟨b2, o2 + j * 3, none⟩) (show b2 < _ by omega)).trans r0, (hW.cell (p := ⟨b2, o2 + j * 3 + 1, none⟩) (show b2 < _ by omega)).trans r1, (hW.cell (p := ⟨b2, o2 + j * 3 + 2, none⟩) (show b2 < _ by omega)).trans r2⟩
        cases bk
        · go_wp2_with (first | (at_lookup; refine lookup_int_at _ rfl _ _ 72 rfl 9 3 .i64 keyS Tryd.underlying72 u3 (zero3 _) B g.names.length (Pl g.names g.names.length) rfl hMP.out _ _ rfl hkey.out _ true hat.out hhas.out ?_))
          go_region_held3 (fun W => W.cell? ⟨w.heap.size, 2, none⟩ = some (.slice (some ⟨b1, o1, none⟩) l.length cl) ∧ W.cell? ⟨w.heap.size + 1, 2, none⟩ = some (.slice (some ⟨b2, o2, none⟩) m.length dl) ∧ W.cell? ⟨b1, o1 + k * 3, none⟩ = some (.int .i64 hp.kind) ∧ W.cell? ⟨b1, o1 + k * 3 + 1, none⟩ = some (.slice a1 m1 d1) ∧ W.cell? ⟨b1, o1 + k * 3 + 2, none⟩ = some (.slice a2 m2 d2) ∧ W.cell? ⟨b2, o2 + j * 3, none⟩ = some (.int .i64 hq.kind) ∧ W.cell? ⟨b2, o2 + j * 3 + 1, none⟩ = some (.slice a3 m3 d3) ∧ W.cell? ⟨b2, o2 + j * 3 + 2, none⟩ = some (.slice a4 m4 d4)) (first | (exact mkS.out _ T3.out) | (simp [go_sem]; done) | go_keep) (first | (go_at_call 41; refine (hcall.out _ (by repeat (first | exact Below.refl _ _ | refine below_dr ?_ | refine below_dn ?_ _))).mono ?_; rintro e w3 ⟨rfl, hb3⟩; have T3 : Hid (Below wr.heap.size wr w3) := below_then (by repeat (first | exact Below.refl _ _ | refine below_dr ?_ | refine below_dn ?_ _)) hb3))
          go_wp2_with fail
          go_ret
          refine TB.no (fun q => ?_) (below_then hwr.out T3.out)
          obtain ⟨k', h3, h4, e3, e4⟩ := q k hkl hkl2
          have : k' = j := (List.getElem_inj hnd'.out).1 (by rw [e3, hs.out, hje'.out])
          subst this
          have := hbk'.out.2 e4
          cases this
        · go_wp2_with (first | (at_lookup; refine lookup_int_at _ rfl _ _ 72 rfl 9 3 .i64 keyS Tryd.underlying72 u3 (zero3 _) B g.names.length (Pl g.names g.names.length) rfl hMP.out _ _ rfl hkey.out _ true hat.out hhas.out ?_))
          go_region_held3 (fun W => W.cell? ⟨w.heap.size, 2, none⟩ = some (.slice (some ⟨b1, o1, none⟩) l.length cl) ∧ W.cell? ⟨w.heap.size + 1, 2, none⟩ = some (.slice (some ⟨b2, o2, none⟩) m.length dl) ∧ W.cell? ⟨b1, o1 + k * 3, none⟩ = some (.int .i64 hp.kind) ∧ W.cell? ⟨b1, o1 + k * 3 + 1, none⟩ = some (.slice a1 m1 d1) ∧ W.cell? ⟨b1, o1 + k * 3 + 2, none⟩ = some (.slice a2 m2 d2) ∧ W.cell? ⟨b2, o2 + j * 3, none⟩ = some (.int .i64 hq.kind) ∧ W.cell? ⟨b2, o2 + j * 3 + 1, none⟩ = some (.slice a3 m3 d3) ∧ W.cell? ⟨b2, o2 + j * 3 + 2, none⟩ = some (.slice a4 m4 d4)) (first | (exact mkS.out _ T3.out) | (simp [go_sem]; done) | go_keep) (first | (go_at_call 41; refine (hcall.out _ (by repeat (first | exact Below.refl _ _ | refine below_dr ?_ | refine below_dn ?_ _))).mono ?_; rintro e w3 ⟨rfl, hb3⟩; have T3 : Hid (Below wr.heap.size wr w3) := below_then (by repeat (first | exact Below.refl _ _ | refine below_dr ?_ | refine below_dn ?_ _)) hb3))
          go_wp2_with fail
          refine ⟨⟨k + 1, by go_num, by omega, (fun i h1 h2 h3 => ?_), below_then H.out.2 T3.out⟩, by simp [intOf]; omega⟩
          by_cases e : i = k
          · subst e; exact ⟨j, hj, hj'.out, by rw [hje'.out, hs.out], hbk'.out.1 (by simp)⟩
          · exact H.out.1 i h1 h2 (by omega)
      · have hhas := hide (show Maps.has (Pl g.names g.names.length) (ks s) = false by
          cases hq : Maps.has (Pl g.names g.names.length) (ks s)
          · rfl
          · have := (has_Pl g.names s g.names.length (Nat.le_refl _)).1 hq
            rw [List.take_of_length_le (Nat.le_refl _)] at this
            exact absurd this hmem)
        have hat := hide (atKey_of_not_has hhas.out (.lit (.int .i64 0)))
        have hmem' := hide hmem
        clear hmem
        go_wp2_with (first | (at_lookup; refine lookup_int_at _ rfl _ _ 72 rfl 9 3 .i64 keyS Tryd.underlying72 u3 (zero3 _) B g.names.length (Pl g.names g.names.length) rfl hMP.out _ _ rfl hkey.out _ false hat.out hhas.out ?_))
        go_quiet (fail)
        go_wp2_with fail
        go_ret
        refine TB.no (fun q => ?_) (below_dn hwr.out _)
        obtain ⟨k', h3, h4, e3, e4⟩ := q k hkl hkl2
        rw [hs.out] at e3
        exact hmem'.out (e3 ▸ List.getElem_mem _)
    · have hki : ¬ ((k : Int) < (h.names.length : Int)) := by omega
      have hE' := hide (show PNm (fun x y => Prt n x y) h.names l g.names m from fun i h1 h2 => H.out.1 i h1 h2 (by omega))
      go_wp2_with fail
      go_ret
      exact TB.yes hE'.out hwr.out
theorem TFil.eleven {h : Th} {m : Nat} (q : TFil h m) (e : h.kind = 11) : h.names.length = m ∧ h.names.Nodup := by
  rcases q with ⟨r, _⟩ | ⟨_, r, s⟩ | ⟨_, r, _⟩
  · omega
  · exact ⟨r, s.2⟩
  · omega
set_option maxHeartbeats 1000000 in
set_option maxRecDepth 100000 in
theorem part_ok : ∀ n, PartOk n := by
  intro n
  induction n with
  | zero => intro x; exact Empty.elim x
  | succ n ih =>
    intro x y ns ls ns' ls' w hx hy zx zy tx ty
    obtain ⟨h, l⟩ := x
    obtain ⟨g, m⟩ := y
    have hP := hide (fun W (hb : Below w.heap.size w W) => byPlace_any n ih (h, l) (g, m) ns ls ns' ls' W (hx.below hb) (hy.below hb) zx zy tx ty)
    have hN := hide (fun (e : h.kind = 11) (e' : g.kind = 11) W (hb : Below w.heap.size w W) => byName_any n ih (h, l) (g, m) ns ls ns' ls' W (hx.below hb) (hy.below hb) zx zy tx ty (tx.1.eleven e).1 (ty.1.eleven e').1 (ty.1.eleven e').2)
    obtain ⟨al, cl, rfl, hl1, hl2⟩ := hx.len
    obtain ⟨an, cn, rfl, hn1, hn2⟩ := hx.1.len
    obtain ⟨bl', dl, rfl, hm1, hm2⟩ := hy.len
    obtain ⟨bn, dn, rfl, ho1, ho2⟩ := hy.1.len
    have hb0 : Hid (∀ o o', Below w.heap.size w ((w.alloc o).alloc o')) := fun o o' => below_al (below_al (Below.refl _ _))
    clear hx hy zx zy tx ty ih
    show Calls _ _ #[.agg #[.int .i64 h.kind, .slice an h.names.length cn, .slice al l.length cl], .agg #[.int .i64 g.kind, .slice bn g.names.length dn, .slice bl' m.length dl]] _ _
    by_cases g1 : g.kind = 1
    · have hx : Hid (Prt (n + 1) (h, l) (g, m)) := Or.inl g1
      rw [g1]
      go_enter Tryd.func41, Tryd.ntmps41
      go_wp2_with fail
      go_ret
      exact TB.yes hx.out (hb0.out _ _)
    have g1b : (g.kind == 1) = false := beq_eq_false_iff_ne.2 g1
    by_cases h54 : h.kind = 5 ∧ g.kind = 4
    · have hx : Hid (Prt (n + 1) (h, l) (g, m)) := Or.inr (Or.inl h54)
      rw [h54.1, h54.2]
      go_enter Tryd.func41, Tryd.ntmps41
      go_wp2_with fail
      go_ret
      exact TB.yes hx.out (hb0.out _ _)
    by_cases hg : h.kind = g.kind
    · by_cases h11 : h.kind = 11
      · have g11 : g.kind = 11 := by omega
        have hN := hide (fun W (hb : Below w.heap.size w W) => hN.out h11 g11 W hb)
        have hx : Hid (Prt (n + 1) (h, l) (g, m) ↔ PNm (fun x y => Prt n x y) h.names l g.names m) := by
          constructor
          · rintro (q | ⟨q, _⟩ | ⟨_, ⟨_, q⟩ | ⟨q, _⟩⟩)
            · exact absurd q g1
            · simp only at q; omega
            · exact q
            · exact absurd h11 q
          · exact fun q => Or.inr (Or.inr ⟨hg, Or.inl ⟨h11, q⟩⟩)
        have hN : Hid (∀ W, Below w.heap.size w W → Calls Tryd.prog 59 #[.agg #[.int .i64 11, .slice an h.names.length cn, .slice al l.length cl], .agg #[.int .i64 11, .slice bn g.names.length dn, .slice bl' m.length dl]] W fun e w' => TB (PNm (fun x y => Prt n x y) h.names l g.names m) W e w') := fun W hb => by
          have := hN.out W hb
          simp only [tvs, h11, g11] at this
          exact this
        rw [h11, g11]
        clear hg g1 g1b h54 hP
        go_enter Tryd.func41, Tryd.ntmps41
        go_wp2_with (go_at_call 59; refine (hN.out _ (hb0.out _ _)).mono ?_; rintro e w1 ⟨b, rfl, hT, hb1⟩)
        go_ret
        cases b
        · exact TB.no (fun e => by have := hT.2 (hx.out.1 e); cases this) (below_then (hb0.out _ _) hb1)
        · exact TB.yes (hx.out.2 (hT.1 rfl)) (below_then (hb0.out _ _) hb1)
      · have hx : Hid (Prt (n + 1) (h, l) (g, m) ↔ h.names = g.names ∧ PPl (fun x y => Prt n x y) l m) := by
          constructor
          · rintro (q | ⟨q, r⟩ | ⟨_, ⟨q, _⟩ | ⟨_, q⟩⟩)
            · exact absurd q g1
            · simp only at q r; omega
            · exact absurd q h11
            · exact q
          · exact fun q => Or.inr (Or.inr ⟨hg, Or.inr ⟨h11, q⟩⟩)
        have hP : Hid (∀ W, Below w.heap.size w W → Calls Tryd.prog 60 #[.agg #[.int .i64 g.kind, .slice an h.names.length cn, .slice al l.length cl], .agg #[.int .i64 g.kind, .slice bn g.names.length dn, .slice bl' m.length dl]] W fun e w' => TB (h.names = g.names ∧ PPl (fun x y => Prt n x y) l m) W e w') := fun W hb => by
          have := hP.out W hb
          simp only [tvs, hg] at this
          exact this
        have g11 : ¬ g.kind = 11 := by omega
        have gb : (g.kind == 11) = false := beq_eq_false_iff_ne.2 g11
        by_cases g5 : g.kind = 5
        · rw [hg, g5]
          rw [g5] at hP
          clear hg g1 g1b h54 hN h11 g11 gb g5
          go_enter Tryd.func41, Tryd.ntmps41
          go_wp2_with (go_at_call 60; refine (hP.out _ (hb0.out _ _)).mono ?_; rintro e w1 ⟨b, rfl, hT, hb1⟩)
          go_ret
          cases b
          · exact TB.no (fun e => by have := hT.2 (hx.out.1 e); cases this) (below_then (hb0.out _ _) hb1)
          · exact TB.yes (hx.out.2 (hT.1 rfl)) (below_then (hb0.out _ _) hb1)
        · have g5b : (g.kind == 5) = false := beq_eq_false_iff_ne.2 g5
          rw [hg]
          clear hg h54 hN h11
          go_enter Tryd.func41, Tryd.ntmps41
          go_wp2_with (go_at_call 60; refine (hP.out _ (hb0.out _ _)).mono ?_; rintro e w1 ⟨b, rfl, hT, hb1⟩)
          go_ret
          cases b
          · exact TB.no (fun e => by have := hT.2 (hx.out.1 e); cases this) (below_then (hb0.out _ _) hb1)
          · exact TB.yes (hx.out.2 (hT.1 rfl)) (below_then (hb0.out _ _) hb1)
    · have hx : Hid (¬ Prt (n + 1) (h, l) (g, m)) := by
        rintro (q | q | ⟨q, _⟩)
        · exact g1 q
        · exact h54 q
        · exact hg q
      have hgb : (h.kind == g.kind) = false := beq_eq_false_iff_ne.2 hg
      have hgn : (h.kind != g.kind) = true := by simpa using hg
      by_cases h5 : h.kind = 5
      · have g4 : ¬ g.kind = 4 := fun e => h54 ⟨h5, e⟩
        have g4b : (g.kind == 4) = false := beq_eq_false_iff_ne.2 g4
        rw [h5] at hg hgb hgn ⊢
        clear hP hN h54 h5
        go_enter Tryd.func41, Tryd.ntmps41
        go_wp2_with fail
        go_ret
        exact TB.no hx.out (hb0.out _ _)
      · have h5b : (h.kind == 5) = false := beq_eq_false_iff_ne.2 h5
        clear hP hN h54
        go_enter Tryd.func41, Tryd.ntmps41
        go_wp2_with fail
        go_ret
        exact TB.no hx.out (hb0.out _ _)
end Go.Proofs.YtolmbjeinilhlaaDoor
/- types.Sub, hasPlain: walked; rows of values of the call's own. -/
namespace Go.Proofs.YtolmbjeinilhlaaDoor
open Go.RowKit Go.Maps
set_option linter.unusedSimpArgs false
set_option linter.unusedVariables false
/-- What Sub answers. -/
def SubP (E : Int) (p : Prop) (w : World) (e : Ending) (w' : World) : Prop := ∃ b, e = .returned (.tuple #[.bool b, .int .i64 E]) ∧ Hid (b = true ↔ E = 0 ∧ p) ∧ Below w.heap.size w w'
set_option maxHeartbeats 1000000 in
set_option maxRecDepth 100000 in
theorem sub_any (n : Nat) (x y : TT n) (ns ls ns' ls' : Value) (w : World) (hx : TRd n w x ns ls) (hy : TRd n w y ns' ls') (g : Ut.Gu w) (gt : Gt w) (E F : Int) (hE : TChk n x E) (hF : TChk n y F) :
    Calls Tryd.prog 18 #[.agg (tvs (thd n x) ns ls), .agg (tvs (thd n y) ns' ls')] w fun e w' => SubP (Chk2 E F) (Prt n x y) w e w' := by
  obtain ⟨a1, m1, d1, a2, m2, d2, rfl, rfl⟩ := hx.rd.shape
  obtain ⟨a3, m3, d3, a4, m4, d4, rfl, rfl⟩ := hy.rd.shape
  have hA := hide (fun W (hb : Below w.heap.size w W) => checkBoth_any n n x y _ _ _ _ W (hx.below hb) (hy.below hb) (g.below hb) (gt.below hb) E F hE hF)
  have hP := hide (fun (q : IsT n x ∧ IsT n y) W (hb : Below w.heap.size w W) => part_ok n x y _ _ _ _ W (hx.rd.below hb) (hy.rd.below hb) hx.sz hy.sz q.1 q.2)
  have hb0 : Hid (∀ o o', Below w.heap.size w ((w.alloc o).alloc o')) := fun o o' => below_al (below_al (Below.refl _ _))
  have h00 : Hid (Chk2 E F = 0 → IsT n x ∧ IsT n y) := by
    intro q
    rcases hE with ⟨e, _⟩ | ⟨e, _⟩ | ⟨e, k, _⟩
    · rw [e] at q; cases q
    · rw [e] at q; cases q
    · rw [e] at q
      have q : F = 0 := q
      rcases hF with ⟨e, _⟩ | ⟨e, _⟩ | ⟨e, k', _⟩
      · rw [e] at q; cases q
      · rw [e] at q; cases q
      · exact ⟨k, k'⟩
  obtain ⟨h, hh⟩ : ∃ h, thd n x = h := ⟨_, rfl⟩
  obtain ⟨k, hk⟩ : ∃ k, thd n y = k := ⟨_, rfl⟩
  obtain ⟨C, hC⟩ : ∃ C, Chk2 E F = C := ⟨_, rfl⟩
  rw [hh, hk] at hA hP ⊢
  rw [hC] at hA h00 ⊢
  clear hh hk hx hy g gt hE hF hC
  have hT : Hid (∀ w1, Below ((w.alloc (.cells (tvs h (.slice a1 m1 d1) (.slice a2 m2 d2)) 26)).alloc (.cells (tvs k (.slice a3 m3 d3) (.slice a4 m4 d4)) 26)).heap.size ((w.alloc (.cells (tvs h (.slice a1 m1 d1) (.slice a2 m2 d2)) 26)).alloc (.cells (tvs k (.slice a3 m3 d3) (.slice a4 m4 d4)) 26)) w1 → (w1.cell? ⟨w.heap.size, 0, none⟩ = some (.int .i64 h.kind) ∧ w1.cell? ⟨w.heap.size, 1, none⟩ = some (.slice a1 m1 d1) ∧ w1.cell? ⟨w.heap.size, 2, none⟩ = some (.slice a2 m2 d2)) ∧ w1.cell? ⟨w.heap.size + 1, 0, none⟩ = some (.int .i64 k.kind) ∧ w1.cell? ⟨w.heap.size + 1, 1, none⟩ = some (.slice a3 m3 d3) ∧ w1.cell? ⟨w.heap.size + 1, 2, none⟩ = some (.slice a4 m4 d4)) := fun w1 hb => ⟨⟨(two_cells hb 0).1, (two_cells hb 1).1, (two_cells hb 2).1⟩, (two_cells hb 0).2, (two_cells hb 1).2, (two_cells hb 2).2⟩
  show Calls _ _ #[.agg #[.int .i64 h.kind, .slice a1 m1 d1, .slice a2 m2 d2], .agg #[.int .i64 k.kind, .slice a3 m3 d3, .slice a4 m4 d4]] _ _
  by_cases h0 : C = 0
  · have hP := hide (hP.out (h00.out h0))
    subst h0
    go_enter Tryd.func18, Tryd.ntmps18
    go_wp2_with fail
    refine (hA.out _ (hb0.out _ _)).mono ?_
    rintro e w1 ⟨rfl, hb1⟩
    have hw1 := hide (below_then (hb0.out _ _) hb1)
    obtain ⟨⟨c0, c1, c2⟩, c3, c4, c5⟩ := hT.out w1 hb1
    go_wp2_with fail
    refine (hP.out _ hw1.out).mono ?_
    rintro e w2 ⟨b, rfl, hT2, hb2⟩
    have hT2 := hide hT2
    go_wp2_with fail
    refine bodyPost_ret (v := .tuple #[.bool b, .int .i64 0]) (by simp [results, Tryd.results18, go_sem]) rfl ⟨b, rfl, ?_, below_then hw1.out hb2⟩
    exact ⟨fun q => ⟨rfl, hT2.out.1 q⟩, fun q => hT2.out.2 q.2⟩
  · have h1 : (C != 0) = true := by simpa using h0
    have h2 : (C == 0) = false := beq_eq_false_iff_ne.2 h0
    have h3 : decide (C = 0) = false := decide_eq_false h0
    go_enter Tryd.func18, Tryd.ntmps18
    go_wp2_with fail
    refine (hA.out _ (hb0.out _ _)).mono ?_
    rintro e w1 ⟨rfl, hb1⟩
    have hw1 := hide (below_then (hb0.out _ _) hb1)
    go_wp2_with fail
    refine bodyPost_ret (v := .tuple #[.bool false, .int .i64 C]) (by simp [results, Tryd.results18, go_sem]) rfl ⟨false, rfl, ?_, hw1.out⟩
    exact ⟨(fun q => by cases q), fun q => absurd q.1 h0⟩
/-- A value is one of a plain type's. -/
def PkOk (k : Int) (h : Hd) : Prop := k = 1 ∨ (k = 5 ∧ h.kind = 3 ∧ 0 ≤ h.exp) ∨ (k ≠ 1 ∧ k ≠ 5 ∧ h.kind = pk k)
set_option maxHeartbeats 1000000 in
set_option maxRecDepth 100000 in
theorem hasPlain_any (k : Int) (h : Hd) (a1 a2 : Option Addr) (m1 d1 m2 d2 : Nat) (w : World) (gt : Gt w) (hk : 1 ≤ k ∧ k ≤ 8) (hn : h.kind = 3 → isN h.neg h.dig h.exp = true) (hz : h.dig.size ≤ maxLen) :
    Calls Tryd.prog 54 #[.int .i64 k, .agg (vals h (.slice a1 m1 d1) (.slice a2 m2 d2))] w fun e w' => TB (PkOk k h) w e w' := by
  have hb0 : Hid (∀ o, Below w.heap.size w (w.alloc o)) := fun o => below_al (Below.refl _ _)
  have hB0 := hide (bx_new w h (.slice a1 m1 d1) (.slice a2 m2 d2))
  have hI := hide (fun W => isInt_any h.neg h.dig h.exp W hz)
  have hP : Hid (∀ o, Calls Tryd.prog 63 #[.int .i64 k] (w.alloc o) fun e w' => e = .returned (.tuple #[.agg #[.int .i64 k, .int .i64 (pk k)], .bool true]) ∧ Below (w.alloc o).heap.size (w.alloc o) w') := fun o => by
    have := plain_any k (w.alloc o) (gt.below (hb0.out o))
    unfold plR at this
    rw [if_pos hk] at this
    exact this
  clear gt
  show Calls _ _ #[_, .agg #[.int .i64 h.kind, .bool h.flag, .bool h.neg, .string h.dig, .int .i64 h.exp, .int .u64 h.bits, .string h.text, .slice a1 m1 d1, .slice a2 m2 d2]] _ _
  by_cases k1 : k = 1
  · subst k1
    go_enter Tryd.func54, Tryd.ntmps54
    go_wp2_with fail
    go_ret
    exact TB.yes (Or.inl rfl) (hb0.out _)
  by_cases k5 : k = 5
  · subst k5
    by_cases h3 : h.kind = 3
    · have hx := hide (show PkOk 5 h ↔ 0 ≤ h.exp from ⟨fun q => by
        rcases q with q | ⟨_, _, q⟩ | ⟨_, q, _⟩
        · cases q
        · exact q
        · exact absurd rfl q, fun q => Or.inr (Or.inl ⟨rfl, h3, q⟩)⟩)
      have hI : Hid (∀ W, Calls Tryd.prog 69 #[.agg #[.bool h.neg, .string h.dig, .int .i64 h.exp]] W fun e w' => e = .returned (.bool (decide (0 ≤ h.exp))) ∧ Below W.heap.size W w') := fun W => by
        have := hI.out W
        rw [hn h3, Bool.true_and] at this
        exact this
      rw [h3]
      by_cases hx0 : 0 ≤ h.exp
      · have hx1 := hide hx0
        rw [decide_eq_true hx0] at hI
        clear hx0
        go_enter Tryd.func54, Tryd.ntmps54
        go_wp2_with (go_at_call 69; refine (hI.out _).mono ?_; rintro e w1 ⟨rfl, hb1⟩)
        go_ret
        exact TB.yes (hx.out.2 hx1.out) (below_then (hb0.out _) hb1)
      · have hx1 := hide hx0
        rw [decide_eq_false hx0] at hI
        clear hx0
        go_enter Tryd.func54, Tryd.ntmps54
        go_wp2_with (go_at_call 69; refine (hI.out _).mono ?_; rintro e w1 ⟨rfl, hb1⟩)
        go_ret
        exact TB.no (fun q => by have h1 := hx1.out; have h2 := hx.out.1 q; omega) (below_then (hb0.out _) hb1)
    · have h3b : (h.kind == 3) = false := beq_eq_false_iff_ne.2 h3
      have hx := hide (show ¬ PkOk 5 h by
        rintro (q | ⟨_, q, _⟩ | ⟨_, q, _⟩)
        · cases q
        · exact h3 q
        · exact absurd rfl q)
      go_enter Tryd.func54, Tryd.ntmps54
      go_wp2_with fail
      go_ret
      exact TB.no hx.out (hb0.out _)
  have k1b : (k == 1) = false := beq_eq_false_iff_ne.2 k1
  have k5b : (k == 5) = false := beq_eq_false_iff_ne.2 k5
  have hx := hide (show PkOk k h ↔ h.kind = pk k from ⟨fun q => by
    rcases q with q | ⟨q, _⟩ | ⟨_, _, q⟩
    · exact absurd q k1
    · exact absurd q k5
    · exact q, fun q => Or.inr (Or.inr ⟨k1, k5, q⟩)⟩)
  obtain ⟨V, hV⟩ : ∃ V, pk k = V := ⟨_, rfl⟩
  rw [hV] at hP hx
  clear hV hk hI hn
  have hB1 : Hid (∀ w1 o, Below (w.alloc (.cells (vals h (.slice a1 m1 d1) (.slice a2 m2 d2)) 33)).heap.size (w.alloc (.cells (vals h (.slice a1 m1 d1) (.slice a2 m2 d2)) 33)) w1 → (w1.alloc o).cell? ⟨w.heap.size, 0, none⟩ = some (.int .i64 h.kind)) := fun w1 o hb => ((hB0.out.below hb).below (below_al (Below.refl _ _))).cells.1
  by_cases hq : h.kind = V
  · have hqb : (h.kind == V) = true := beq_iff_eq.2 hq
    have hq' := hide hq
    clear hq
    go_enter Tryd.func54, Tryd.ntmps54
    go_wp2_with (go_at_call 63; refine (hP.out _).mono ?_; rintro e w1 ⟨rfl, hb1⟩; have c0 := fun o => hB1.out w1 o hb1)
    go_ret
    exact TB.yes (hx.out.2 hq'.out) (below_al (below_then (hb0.out _) hb1))
  · have hqb : (h.kind == V) = false := beq_eq_false_iff_ne.2 hq
    go_enter Tryd.func54, Tryd.ntmps54
    go_wp2_with (go_at_call 63; refine (hP.out _).mono ?_; rintro e w1 ⟨rfl, hb1⟩; have c0 := fun o => hB1.out w1 o hb1)
    go_ret
    exact TB.no (fun q => hq (hx.out.1 q)) (below_al (below_then (hb0.out _) hb1))
end Go.Proofs.YtolmbjeinilhlaaDoor
