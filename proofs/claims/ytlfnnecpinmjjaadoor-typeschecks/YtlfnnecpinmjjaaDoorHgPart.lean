/- types.isPart, isPartByPlace, isPartByName, slices.EqualFunc over it: walked. -/
import Derived.Test.YtlfnnecpinmjjaaDoorHfCheck
namespace Go.Proofs.YtlfnnecpinmjjaaDoor
open Go.RowKit Go.Maps
set_option linter.unusedSimpArgs false
set_option linter.unusedVariables false
/-- Part, place by place. -/
def PPl {α β : Type} (P : α → β → Prop) (l : List α) (m : List β) : Prop := l.length = m.length ∧ ∀ i (h1 : i < l.length) (h2 : i < m.length), P l[i] m[i]
/-- Part, name by name. -/
def PNm {α β : Type} (P : α → β → Prop) (ns : List ByteArray) (l : List α) (ms : List ByteArray) (m : List β) : Prop := ∀ i (h1 : i < ns.length) (h2 : i < l.length), ∃ k, ∃ (h3 : k < ms.length) (h4 : k < m.length), ms[k] = ns[i] ∧ P l[i] m[k]
/-- A type is part of another one. -/
def Prt : (n : Nat) → TT n → TT n → Prop
  | 0, _, _ => False
  | n + 1, a, b => b.1.kind = 1 ∨ (a.1.kind = 5 ∧ b.1.kind = 4) ∨ (a.1.kind = b.1.kind ∧ ((a.1.kind = 11 ∧ PNm (fun x y => Prt n x y) a.1.names a.2 b.1.names b.2) ∨ (a.1.kind ≠ 11 ∧ a.1.names = b.1.names ∧ PPl (fun x y => Prt n x y) a.2 b.2)))
/-- What isPart says of types less than n deep. -/
def PartOk (n : Nat) : Prop := ∀ (x y : TT n) (ns ls ns' ls' : Value) (w : World), RT n w x ns ls → RT n w y ns' ls' → TSz n x → TSz n y → IsT n x → IsT n y →
    Calls Tryd.prog 41 #[.agg (tvs (thd n x) ns ls), .agg (tvs (thd n y) ns' ls')] w fun e w' => TB (Prt n x y) w e w'
set_option maxHeartbeats 1000000 in
set_option maxRecDepth 100000 in
theorem teqfunc_any (n : Nat) (ih : PartOk n) (u v : Value) (l m : List (TT n)) (w : World) (hu : TL n w u l) (hv : TL n w v m) (zl : ∀ y ∈ l, TSz n y ∧ IsT n y) (zm : ∀ y ∈ m, TSz n y ∧ IsT n y) :
    Calls Tryd.prog 76 #[u, v, .func (.func 41) #[] #[]] w fun e w' => TB (PPl (fun x y => Prt n x y) l m) w e w' := by
  obtain ⟨al, cl, rfl, hl1, hl2⟩ := hu.len
  obtain ⟨bl', dl, rfl, hm1, hm2⟩ := hv.len
  have hu := hide hu
  have hv := hide hv
  have zl := hide zl
  have zm := hide zm
  have ih := hide ih
  have ml : maxLen = 9223372036854775807 := rfl
  by_cases hl : (l.length : Int) = (m.length : Int)
  · have hml := hide (show m.length = l.length by omega)
    rw [hml.out] at hm1 ⊢
    clear hl
    go_enter Tryd.func76, Tryd.ntmps76
    go_wp2_with fail
    go_loopw [17] (fun i w' => ∃ k : Nat, i = .int .i64 k ∧ k ≤ l.length ∧ Hid ((∀ i (h1 : i < l.length) (h2 : i < m.length), i < k → Prt n l[i] m[i]) ∧ Below w.heap.size w w')) (fun i _ => l.length - (intOf i).toNat)
    case atStart => exact ⟨0, rfl, Nat.zero_le _, (fun i _ _ h => by omega), Below.refl _ _⟩
    case round =>
      obtain ⟨k, rfl, hk, H⟩ := hrel
      by_cases hkl : k < l.length
      · have hki : (k : Int) < (l.length : Int) := by omega
        have hk63 : (k : Int) < 9223372036854775807 := by omega
        obtain ⟨b, o, c, he, hbl, hlc, hcm, ns1, ls1, hrg, hrd⟩ := hu.out.at k hkl
        have he' := Value.slice.inj he
        obtain ⟨rfl, _, rfl⟩ := he'
        clear he
        obtain ⟨q0, q1, q2⟩ := range3 (rangeAt_below hrg H.out.2 hbl)
        have hkm : k < m.length := by rw [hml.out]; exact hkl
        obtain ⟨b', o', c', he, hbl', hlc', hcm', ns2, ls2, hrg', hrd'⟩ := hv.out.at k hkm
        have he' := Value.slice.inj he
        obtain ⟨rfl, _, rfl⟩ := he'
        clear he
        have hwr : Hid (∀ o, Below w.heap.size w (wr.alloc o)) := fun o => below_al H.out.2
        have hwr2 : Hid (∀ o o', Below w.heap.size w ((wr.alloc o).alloc o')) := fun o o' => below_al (below_al H.out.2)
        have R9 := fun ob => range3 (rangeAt_below hrg' (hwr.out ob) hbl')
        have r0 := fun ob => (R9 ob).1
        have r1 := fun ob => (R9 ob).2.1
        have r2 := fun ob => (R9 ob).2.2
        clear R9
        have hd1 := hide hrd
        have hd2 := hide hrd'
        obtain ⟨a1, m1, d1, a2, m2, d2, rfl, rfl⟩ := hrd.shape
        obtain ⟨a3, m3, d3, a4, m4, d4, rfl, rfl⟩ := hrd'.shape
        clear hrg hrd hrg' hrd'
        have z1 := zl.out _ (List.getElem_mem hkl)
        have z2 := zm.out _ (List.getElem_mem hkm)
        have hcall := hide (fun o o' => ih.out l[k] m[k] _ _ _ _ _ (hd1.out.below (hwr2.out o o')) (hd2.out.below (hwr2.out o o')) z1.1 z2.1 z1.2 z2.2)
        clear z1 z2
        go_wp2_with fail
        refine (hcall.out _ _).mono ?_
        rintro e w2 ⟨b2, rfl, hT, hb1⟩
        have hb2 := hide (below_then (hwr2.out _ _) hb1)
        cases b2
        · have hne : ¬ PPl (fun x y => Prt n x y) l m := by
            intro e
            have := hT.2 (e.2 k hkl hkm)
            cases this
          have hne' := hide hne
          clear hne
          go_wp2_with fail
          go_ret
          exact TB.no hne'.out hb2.out
        · have hEq := hide (hT.1 rfl)
          go_wp2_with fail
          refine ⟨⟨k + 1, by go_num, by omega, (fun i h1 h2 h3 => ?_), hb2.out⟩, by simp [intOf]; omega⟩
          by_cases e : i = k
          · subst e; exact hEq.out
          · exact H.out.1 i h1 h2 (by omega)
      · have hki : ¬ ((k : Int) < (l.length : Int)) := by omega
        have hE' := hide (show PPl (fun x y => Prt n x y) l m from ⟨hml.out.symm, fun i h1 h2 => H.out.1 i h1 h2 (by omega)⟩)
        go_wp2_with fail
        go_ret
        exact TB.yes hE'.out H.out.2
  · go_enter Tryd.func76, Tryd.ntmps76
    go_wp2_with fail
    go_ret
    exact TB.no (fun h => hl (by rw [h.1])) (Below.refl _ _)
set_option maxHeartbeats 1000000 in
set_option maxRecDepth 100000 in
theorem byPlace_any (n : Nat) (ih : PartOk n) (x y : TT (n + 1)) (ns ls ns' ls' : Value) (w : World) (hx : RT (n + 1) w x ns ls) (hy : RT (n + 1) w y ns' ls') (zx : TSz (n + 1) x) (zy : TSz (n + 1) y) (tx : IsT (n + 1) x) (ty : IsT (n + 1) y) :
    Calls Tryd.prog 60 #[.agg (tvs x.1 ns ls), .agg (tvs y.1 ns' ls')] w fun e w' => TB (x.1.names = y.1.names ∧ PPl (fun x y => Prt n x y) x.2 y.2) w e w' := by
  obtain ⟨h, l⟩ := x
  obtain ⟨g, m⟩ := y
  obtain ⟨al, cl, rfl, hl1, hl2⟩ := hx.len
  obtain ⟨an, cn, rfl, hn1, hn2⟩ := hx.1.len
  obtain ⟨bl', dl, rfl, hm1, hm2⟩ := hy.len
  obtain ⟨bn, dn, rfl, ho1, ho2⟩ := hy.1.len
  have hN := hide (fun W (hb : Below w.heap.size w W) => sequal_any _ _ h.names g.names W (hx.1.below hb) (hy.1.below hb))
  have hF := hide (fun W (hb : Below w.heap.size w W) => teqfunc_any n ih _ _ l m W (hx.tl.below hb) (hy.tl.below hb) (fun y hy => ⟨zx.2.2 y hy, tx.2 y hy⟩) (fun y hy' => ⟨zy.2.2 y hy', ty.2 y hy'⟩))
  have hb0 : Hid (∀ o o', Below w.heap.size w ((w.alloc o).alloc o')) := fun o o' => below_al (below_al (Below.refl _ _))
  clear hx hy zx zy tx ty ih
  simp only at hN hF ⊢
  show Calls _ _ #[.agg #[.int .i64 h.kind, .slice an h.names.length cn, .slice al l.length cl], .agg #[.int .i64 g.kind, .slice bn g.names.length dn, .slice bl' m.length dl]] _ _
  go_enter Tryd.func60, Tryd.ntmps60
  go_wp2_with fail
  refine (hN.out _ (hb0.out _ _)).mono ?_
  rintro e w1 ⟨b, rfl, hT, hb1⟩
  obtain ⟨k1, k2⟩ := two_cells hb1 2
  replace k1 : w1.cell? ⟨w.heap.size, 2, none⟩ = some (.slice al l.length cl) := k1
  replace k2 : w1.cell? ⟨w.heap.size + 1, 2, none⟩ = some (.slice bl' m.length dl) := k2
  have hb2 := hide (below_then (below_al (below_al (Below.refl _ _))) hb1)
  cases b
  · go_wp2_with fail
    go_ret
    exact TB.no (fun e => by have := hT.2 e.1; cases this) hb2.out
  · have hcall := hide (hF.out w1 hb2.out)
    go_wp2_with (go_at_call 76; refine hcall.out.mono ?_; rintro e w2 ⟨b, rfl, hT2, hb3⟩)
    go_ret
    cases b
    · exact TB.no (fun e => by have := hT2.2 e.2; cases this) (below_then hb2.out hb3)
    · exact TB.yes ⟨hT.1 rfl, hT2.1 rfl⟩ (below_then hb2.out hb3)
end Go.Proofs.YtlfnnecpinmjjaaDoor
