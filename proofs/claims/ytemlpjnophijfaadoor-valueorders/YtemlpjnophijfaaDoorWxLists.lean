/- What calamuslaw04.ValueLists wants: Cmp of any two values; where the law stands. -/
import Derived.Test.YtemlpjnophijfaaDoorWwComp
import Derived.Test.YtemlpjnophijfaaDoorWnGrows
namespace Go.Proofs.YtemlpjnophijfaaDoor
open Go.RowKit
set_option linter.unusedSimpArgs false
set_option linter.unusedVariables false
theorem chk_ok {n : Nat} {x : VT n} {E : Int} (h : Chk n x E) (h0 : E = 0) : IsV n x ∧ Win n x := by
  subst h0
  rcases h with ⟨e, _⟩ | ⟨e, _⟩ | ⟨_, h⟩
  · cases e
  · cases e
  · exact h
/-- Cmp of two values. -/
theorem vcmpA (n : Nat) (x y : VT n) (ns ls ns' ls' : Value) (w : World) (hx : Rdy n w x ns ls) (hy : Rdy n w y ns' ls') (g : Ut.Gu w) (E1 E2 : Int) (h1 : Chk n x E1) (h2 : Chk n y E2) :
    Calls Tryd.prog 18 #[.agg (vals (vhd n x) ns ls), .agg (vals (vhd n y) ns' ls')] w fun e w' => e = .returned (.tuple #[.int .i64 (cmpE E1 E2 (cmpV n x y)).1, .int .i64 (cmpE E1 E2 (cmpV n x y)).2]) ∧ Below w.heap.size w w' :=
  vcmp_any n n x y ns ls ns' ls' w hx hy g E1 E2 (cmpV n x y) h1 h2 (fun e1 e2 W hb => compare_any n x y ns ls ns' ls' W (hx.rd.below hb) (hy.rd.below hb) ⟨(chk_ok h1 e1).1, (chk_ok h1 e1).2.1⟩ ⟨(chk_ok h2 e2).1, (chk_ok h2 e2).2.1⟩)
/-- What ValueLists holds. -/
structure Lw (w : World) (h g : Hd) (na la nb lb : Value) (W : World) : Prop where
  below : Below w.heap.size w W
  ba : Bx W w.heap.size h na la
  bb : Bx W (w.heap.size + 1) g nb lb
theorem Lw.then {w : World} {h g : Hd} {na la nb lb : Value} {W W1 : World} (k : Lw w h g na la nb lb W) (hb : Below W.heap.size W W1) : Lw w h g na la nb lb W1 := ⟨below_then k.below hb, k.ba.below hb, k.bb.below hb⟩
theorem lw_new (w : World) (h g : Hd) (na la nb lb : Value) : Lw w h g na la nb lb ((w.alloc (.cells (vals h na la) 29)).alloc (.cells (vals g nb lb) 29)) := by
  refine ⟨below_al (below_al (Below.refl _ _)), (bx_new w h na la).below (below_al (Below.refl _ _)), ?_⟩
  have := bx_new (w.alloc (.cells (vals h na la) 29)) g nb lb
  rw [size_al] at this
  exact this
end Go.Proofs.YtemlpjnophijfaaDoor
