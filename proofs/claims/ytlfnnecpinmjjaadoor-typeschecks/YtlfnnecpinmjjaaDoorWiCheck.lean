/- value.Check: walked. -/
import Derived.Test.YtlfnnecpinmjjaaDoorWhValue
namespace Go.Proofs.YtlfnnecpinmjjaaDoor
open Go.RowKit
set_option linter.unusedSimpArgs false
set_option linter.unusedVariables false
/-- It is within the limits. -/
def Win (n : Nat) (x : VT n) : Prop := Sht n x ∧ dep n x ≤ 16 ∧ siz n x ≤ 4096
/-- What Check answers. -/
def Chk (n : Nat) (x : VT n) (e : Int) : Prop := (e = 40 ∧ ¬ IsV n x) ∨ (e = 2 ∧ IsV n x ∧ ¬ Win n x) ∨ (e = 0 ∧ IsV n x ∧ Win n x)
theorem chk_ex (n : Nat) (x : VT n) : ∃ e, Chk n x e := by
  by_cases h : IsV n x
  · by_cases k : Win n x
    · exact ⟨0, Or.inr (Or.inr ⟨rfl, h, k⟩)⟩
    · exact ⟨2, Or.inr (Or.inl ⟨rfl, h, k⟩)⟩
  · exact ⟨40, Or.inl ⟨rfl, h⟩⟩
/-- What a call of value's functions may lean on. -/
structure Rdy (n : Nat) (w : World) (x : VT n) (ns ls : Value) : Prop where
  rd : RD n w x ns ls
  sz : Sz n x
  le : siz n x ≤ 200000
theorem Rdy.below {n : Nat} {w W : World} {x : VT n} {ns ls : Value} (h : Rdy n w x ns ls) (hb : Below w.heap.size w W) : Rdy n W x ns ls := ⟨h.rd.below hb, h.sz, h.le⟩
set_option maxHeartbeats 1000000 in
set_option maxRecDepth 100000 in
theorem check_any (n : Nat) (x : VT n) (ns ls : Value) (w : World) (hr : Rdy n w x ns ls) (g : Ut.Gu w) (E : Int) (hE : Chk n x E) :
    Calls Tryd.prog 31 #[.agg (vals (vhd n x) ns ls)] w fun e w' => e = .returned (.int .i64 E) ∧ Below w.heap.size w w' := by
  obtain ⟨a1, m1, d1, a2, m2, d2, rfl, rfl⟩ := hr.rd.shape
  obtain ⟨h, hh⟩ : ∃ h, vhd n x = h := ⟨_, rfl⟩
  obtain ⟨b1, hb1⟩ := tells (IsV n x)
  obtain ⟨b2, hb2⟩ := tells (Sht n x)
  have hV := hide (fun o => Calls.tb (isValue_any n x (.slice a1 m1 d1) (.slice a2 m2 d2) (w.alloc o) (hr.rd.below (below_al (Below.refl _ _))) hr.sz (g.below (below_al (Below.refl _ _)))) hb1)
  have hS := hide (fun W (hb : Below w.heap.size w W) => Calls.tb (isShort_any n x (.slice a1 m1 d1) (.slice a2 m2 d2) W (hr.rd.below hb) hr.sz) hb2)
  have hD := hide (fun W (hb : Below w.heap.size w W) => depth_any n x (.slice a1 m1 d1) (.slice a2 m2 d2) W (hr.rd.below hb) hr.le)
  have hZ := hide (fun W (hb : Below w.heap.size w W) => size_any n x (.slice a1 m1 d1) (.slice a2 m2 d2) W (hr.rd.below hb) hr.le)
  have hb0 : Hid (∀ o, Below w.heap.size w (w.alloc o)) := fun o => below_al (Below.refl _ _)
  obtain ⟨D, hDD⟩ : ∃ D, dep n x = D := ⟨_, rfl⟩
  obtain ⟨Z, hZZ⟩ : ∃ Z, siz n x = Z := ⟨_, rfl⟩
  have hE' := hide (show (E = 40 ∧ b1 = false) ∨ (E = 2 ∧ b1 = true ∧ ¬ (b2 = true ∧ D ≤ 16 ∧ Z ≤ 4096)) ∨ (E = 0 ∧ b1 = true ∧ b2 = true ∧ D ≤ 16 ∧ Z ≤ 4096) by
    unfold Chk Win at hE
    rw [hDD, hZZ, ← hb1, ← hb2] at hE
    simpa using hE)
  rw [hh] at hV hS hD hZ ⊢
  rw [hDD] at hD
  rw [hZZ] at hZ
  have hB0 := hide (bx_new w h (.slice a1 m1 d1) (.slice a2 m2 d2))
  clear hr g hh hDD hZZ hE hb1 hb2
  show Calls _ _ #[.agg #[.int .i64 h.kind, .bool h.flag, .bool h.neg, .string h.dig, .int .i64 h.exp, .int .u64 h.bits, .string h.text, .slice a1 m1 d1, .slice a2 m2 d2]] _ _
  cases b1
  · have e0 : E = 40 := by rcases hE'.out with ⟨q, _⟩ | ⟨_, q, _⟩ | ⟨_, q, _⟩; exact q; cases q; cases q
    subst e0
    go_enter Tryd.func31, Tryd.ntmps31
    go_wp2_with (go_at_call 47; refine (hV.out _).mono ?_; rintro e w1 ⟨rfl, hb1⟩)
    go_ret
    exact ⟨rfl, below_then (hb0.out _) hb1⟩
  · have hE2 := hide (show (E = 2 ∧ ¬ (b2 = true ∧ D ≤ 16 ∧ Z ≤ 4096)) ∨ (E = 0 ∧ b2 = true ∧ D ≤ 16 ∧ Z ≤ 4096) by
      rcases hE'.out with ⟨_, q⟩ | ⟨q, _, r⟩ | ⟨q, _, r⟩
      · cases q
      · exact Or.inl ⟨q, r⟩
      · exact Or.inr ⟨q, r⟩)
    clear hE'
    go_enter Tryd.func31, Tryd.ntmps31
    go_wp2_with fail
    refine (hV.out _).mono ?_
    rintro e w1 ⟨rfl, hb1⟩
    have hw1 := hide (below_then (hb0.out _) hb1)
    have hB1 := hide (hB0.out.below hb1)
    obtain ⟨c0, c1, c2, c3, c4, c5, c6, c7, c8⟩ := hB1.out.cells
    have hS1 := hide (hS.out w1 hw1.out)
    cases b2
    · have e0 : E = 2 := by rcases hE2.out with ⟨q, _⟩ | ⟨_, q, _⟩; exact q; cases q
      subst e0
      go_wp2_with (go_at_call 48; refine hS1.out.mono ?_; rintro e w2 ⟨rfl, hb2⟩)
      go_ret
      exact ⟨rfl, below_then hw1.out hb2⟩
    · have hE3 := hide (show (E = 2 ∧ ¬ (D ≤ 16 ∧ Z ≤ 4096)) ∨ (E = 0 ∧ D ≤ 16 ∧ Z ≤ 4096) by
        rcases hE2.out with ⟨q, r⟩ | ⟨q, _, r⟩
        · exact Or.inl ⟨q, fun s => r ⟨rfl, s⟩⟩
        · exact Or.inr ⟨q, r⟩)
      clear hE2
      go_wp2_with fail
      refine hS1.out.mono ?_
      rintro e w2 ⟨rfl, hb2⟩
      have hw2 := hide (below_then hw1.out hb2)
      have hB2 := hide (hB1.out.below hb2)
      clear c0 c1 c2 c3 c4 c5 c6 c7 c8
      obtain ⟨c0, c1, c2, c3, c4, c5, c6, c7, c8⟩ := hB2.out.cells
      have hD1 := hide (hD.out w2 hw2.out)
      by_cases hd : (16 : Int) < (D : Int)
      · have e0 : E = 2 := by rcases hE3.out with ⟨q, _⟩ | ⟨_, q, _⟩; exact q; omega
        subst e0
        go_wp2_with (go_at_call 49; refine hD1.out.mono ?_; rintro e w3 ⟨rfl, hb3⟩)
        go_ret
        exact ⟨rfl, below_then hw2.out hb3⟩
      · go_wp2_with fail
        refine hD1.out.mono ?_
        rintro e w3 ⟨rfl, hb3⟩
        have hw3 := hide (below_then hw2.out hb3)
        have hB3 := hide (hB2.out.below hb3)
        clear c0 c1 c2 c3 c4 c5 c6 c7 c8
        obtain ⟨c0, c1, c2, c3, c4, c5, c6, c7, c8⟩ := hB3.out.cells
        have hZ1 := hide (hZ.out w3 hw3.out)
        by_cases hz : (4096 : Int) < (Z : Int)
        · have e0 : E = 2 := by rcases hE3.out with ⟨q, _⟩ | ⟨_, _, q⟩; exact q; omega
          subst e0
          go_wp2_with (go_at_call 50; refine hZ1.out.mono ?_; rintro e w4 ⟨rfl, hb4⟩)
          go_ret
          exact ⟨rfl, below_then hw3.out hb4⟩
        · have e0 : E = 0 := by
            rcases hE3.out with ⟨_, q⟩ | ⟨q, _⟩
            · exact absurd ⟨by omega, by omega⟩ q
            · exact q
          subst e0
          go_wp2_with (go_at_call 50; refine hZ1.out.mono ?_; rintro e w4 ⟨rfl, hb4⟩)
          go_ret
          exact ⟨rfl, below_then hw3.out hb4⟩
end Go.Proofs.YtlfnnecpinmjjaaDoor
