/- Where calamuslaw04.ValueThree stands: its three structs in blocks of its own. -/
import Derived.Test.YtemlpjnophijfaaDoorWxLists
import Derived.Test.YtemlpjnophijfaaDoorWyOrdW
namespace Go.Proofs.YtemlpjnophijfaaDoor
open Go.RowKit
set_option linter.unusedSimpArgs false
set_option linter.unusedVariables false
/-- What ValueThree holds. -/
structure Tw (w : World) (h g k : Hd) (na la nb lb nc lc : Value) (W : World) : Prop where
  below : Below w.heap.size w W
  ba : Bx W w.heap.size h na la
  bb : Bx W (w.heap.size + 1) g nb lb
  bc : Bx W (w.heap.size + 1 + 1) k nc lc
theorem Tw.then {w : World} {h g k : Hd} {na la nb lb nc lc : Value} {W W1 : World} (q : Tw w h g k na la nb lb nc lc W) (hb : Below W.heap.size W W1) : Tw w h g k na la nb lb nc lc W1 := ⟨below_then q.below hb, q.ba.below hb, q.bb.below hb, q.bc.below hb⟩
theorem tw_new (w : World) (h g k : Hd) (na la nb lb nc lc : Value) : Tw w h g k na la nb lb nc lc (((w.alloc (.cells (vals h na la) 29)).alloc (.cells (vals g nb lb) 29)).alloc (.cells (vals k nc lc) 29)) := by
  have h1 := lw_new w h g na la nb lb
  refine ⟨below_al h1.below, h1.ba.below (below_al (Below.refl _ _)), h1.bb.below (below_al (Below.refl _ _)), ?_⟩
  have := bx_new ((w.alloc (.cells (vals h na la) 29)).alloc (.cells (vals g nb lb) 29)) k nc lc
  rw [size_al, size_al] at this
  exact this
end Go.Proofs.YtemlpjnophijfaaDoor
