/- Merged by program: LkLaid. -/
import Derived.Test.YtoaacfhjejmbnaaGreatDoorUZmq
import Derived.Test.YtoaacfhjejmbnaaGreatDoorZm11
import Derived.PinnedBridge
/- What the rows of layer 7 list, as the walks want it; bytes that come in. -/
namespace Go.Proofs.YtoaacfhjejmbnaaGreatDoor
open Go.ChangeShapes Go.WideShapes Go.ChangeAt Go.RowKit Go.Joins
set_option linter.unusedVariables false
set_option maxRecDepth 100000
theorem own : ownKnob Tryz.prog.godebug = none := by kernel_rfl
theorem laidOut : laidOutB Tryz.prog = true := by kernel_rfl
def laid7 : List (String × DataW Unit) := [("math/bits.deBruijn32tab", Rows.laid_math_bits_deBruijn32tab), ("math/bits.deBruijn64tab", Rows.laid_math_bits_deBruijn64tab), ("internal/strconv.uint64pow10", Rows.laid_internal_strconv_uint64pow10), ("unicode/utf8.acceptRanges", Rows.laid_unicode_utf8_acceptRanges), ("calamus/utf.between", Rows.laid_calamus_utf_between), ("calamus/utf.longer", Rows.laid_calamus_utf_longer), ("unicode/utf8.first", Rows.laid_unicode_utf8_first)]
theorem laidMet_tail {P : Program} {x : String × DataW Unit} {rest : List (String × DataW Unit)} {W : World} (h : laidMet P (x :: rest) W) : laidMet P rest W := by
  obtain ⟨ps, ⟨g, t, cs, f, p, q, h1, h2, h3, h4, h5, h6⟩, hn, hall⟩ := h
  subst h6
  exact ⟨q, h5, (List.nodup_append.1 hn).2.1, fun b off hm => hall b off (List.mem_append_right _ hm)⟩
theorem gP : Tryz.prog.globalNamed "internal/strconv.uint64pow10" = some 3 := by kernel_rfl
theorem gPT : (Tryz.prog.globals[3]?).map (·.type) = some 205 := by kernel_rfl
/-- What the walks want of the package variables. -/
structure Gj (W : World) : Prop where
  gu : Ut.Gu W
  tab : Tab W.heap.size W
  sz : 8 ≤ W.heap.size
theorem of_laid7 {W : World} (h : laidMetH Tryz.prog laid7 W) : Gj W := by
  rw [MakeChecks.laidMetH_plain _ _ _ (by kernel_rfl)] at h
  have ht : Lib.TabIs Tryz.prog W "internal/strconv.uint64pow10" .u64 Lib.pow10Tab := Lib.tabIs_of_head gP gPT Tryz.underlying205 Tryz.underlying25 (by kernel_rfl) (by kernel_rfl) (laidMet_tail (laidMet_tail h))
  have r0 := Lib.laidMet.reads h (.tail _ (.tail _ (.tail _ (.head _))))
  have r1 := Lib.laidMet.reads h (.tail _ (.tail _ (.tail _ (.tail _ (.head _)))))
  have r2 := Lib.laidMet.reads h (.tail _ (.tail _ (.tail _ (.tail _ (.tail _ (.head _))))))
  obtain ⟨g0, t0, cs0, f0, p0, hg0, ht0, hv0, hd0⟩ := r0
  obtain ⟨g1, t1, cs1, f1, p1, hg1, ht1, hv1, hd1⟩ := r1
  obtain ⟨g2, t2, cs2, f2, p2, hg2, ht2, hv2, hd2⟩ := r2
  obtain rfl := Option.some.inj ((show Tryz.prog.globalNamed "unicode/utf8.acceptRanges" = some 7 by kernel_rfl).symm.trans hg0)
  obtain rfl := Option.some.inj ((show Tryz.prog.globalNamed "calamus/utf.between" = some 0 by kernel_rfl).symm.trans hg1)
  obtain rfl := Option.some.inj ((show Tryz.prog.globalNamed "calamus/utf.longer" = some 2 by kernel_rfl).symm.trans hg2)
  obtain rfl := Option.some.inj ((show Option.map (fun x => x.type) Tryz.prog.globals[0]? = some 156 by kernel_rfl).symm.trans ht1)
  obtain rfl := Option.some.inj ((show Option.map (fun x => x.type) Tryz.prog.globals[2]? = some 182 by kernel_rfl).symm.trans ht2)
  have e1 := Ut.spans_cells hd1
  have e2 := Ut.longer_cells hd2
  obtain ⟨t', fr', q0⟩ := Ut.heap_of_var hg0 hv0
  obtain ⟨t, fr, q1⟩ := Ut.heap_of_var hg1 hv1
  obtain ⟨t', fr', q2⟩ := Ut.heap_of_var hg2 hv2
  have hc1 : cs1 = #[.int .u8 0, .int .u8 0, .int .u8 0, .int .u8 0, .int .u8 0, .int .u8 0, .int .u8 0, .int .u8 0] := Array.toList_inj.1 e1
  have hc2 : cs2 = Ut.lgC := Array.toList_inj.1 e2
  rw [hc1] at q1
  rw [hc2] at q2
  have hsz : 7 < W.heap.size := (Array.getElem?_eq_some_iff.1 q0).1
  refine ⟨⟨⟨t, fr, q1⟩, ⟨t', fr', q2⟩⟩, fun W' hW => ?_, by omega⟩
  exact tab_stays gP ht hW (Nat.le_refl _)
/-- A slice of bytes that comes in: its shape. -/
theorem open_shape {H : Type} {enc : TypeId × Value → H} {W : World} {v : Value} {d : DataW H} {p : List MemPlace} {r : Reach} {b0 : Nat} (hval : Value.okWide Tryz.prog W r b0 32 v)
    (h : DataW.Trod enc Tryz.prog W 0 (fun _ => true) true 32 v d p) : ∃ a n c, v = .slice a n c ∧ n ≤ maxLen := by
  obtain ⟨a0, n0, cap0, rfl⟩ := okWide_slice Tryz.underlying32 hval
  obtain ⟨fuel, hf⟩ := h
  rcases open_ints Tryz.underlying32 Tryz.underlying5 Ut.c5 hf with ⟨hcs, hx⟩ | ⟨a, len, cap, zs, hcs, _, hl, hm, hz, hx, hcell, hwz⟩
  · simp [Value.cells] at hcs
    obtain ⟨rfl, rfl, rfl⟩ := hcs
    exact ⟨_, _, _, rfl, by decide⟩
  · simp [Value.cells] at hcs
    obtain ⟨rfl, rfl, rfl⟩ := hcs
    exact ⟨_, _, _, rfl, Nat.le_trans hl hm⟩
end Go.Proofs.YtoaacfhjejmbnaaGreatDoor
