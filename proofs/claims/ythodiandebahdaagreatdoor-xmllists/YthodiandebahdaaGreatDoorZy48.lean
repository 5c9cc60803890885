/- Merged by program: BzLaid. -/
import Derived.Test.YthodiandebahdaaGreatDoorZy46
namespace Go.Proofs.YthodiandebahdaaGreatDoor
set_option linter.unusedSimpArgs false
set_option linter.unusedVariables false
set_option maxHeartbeats 8000000
section
open Go.ChangeShapes Go.WideShapes Go.ChangeAt Go.RowKit Go.Joins
set_option maxRecDepth 100000
def laid10s : List (String × DataW Unit) := [("math/bits.deBruijn32tab", Rows.laid_math_bits_deBruijn32tab), ("math/bits.deBruijn64tab", Rows.laid_math_bits_deBruijn64tab), ("internal/strconv.uint64pow10", Rows.laid_internal_strconv_uint64pow10), ("calamus/utf.between", Rows.laid_calamus_utf_between), ("calamus/utf.longer", Rows.laid_calamus_utf_longer)]
structure Gs10 (W:World):Prop where
 gu:Ut.Gu W
 tab:Tab W.heap.size W
 gz:Gz W
theorem of_laid10s {W:World} (h:laidMetH Tryz.prog laid10s W):Gs10 W:=by
 rw [MakeChecks.laidMetH_plain _ _ _ (by kernel_rfl)] at h
 have ht : Lib.TabIs Tryz.prog W "internal/strconv.uint64pow10" .u64 Lib.pow10Tab := Lib.tabIs_of_head gP gPT Tryz.underlying186 Tryz.underlying25 (by kernel_rfl) (by kernel_rfl) (laidMet_tail (laidMet_tail h))
 have hz : Lib.TabIs Tryz.prog W "math/bits.deBruijn64tab" .u8 zTab := Lib.tabIs_of_head gZ gZT Tryz.underlying224 Tryz.underlying5 (by kernel_rfl) (by kernel_rfl) (laidMet_tail h)
 have r1:=Lib.laidMet.reads h (.tail _ (.tail _ (.tail _ (.head _))))
 have r2:=Lib.laidMet.reads h (.tail _ (.tail _ (.tail _ (.tail _ (.head _)))))
 obtain ⟨g1,t1,cs1,f1,p1,hg1,ht1,hv1,hd1⟩:=r1
 obtain ⟨g2,t2,cs2,f2,p2,hg2,ht2,hv2,hd2⟩:=r2
 obtain rfl := Option.some.inj ((show Tryz.prog.globalNamed "calamus/utf.between" = some 1 by kernel_rfl).symm.trans hg1)
 obtain rfl := Option.some.inj ((show Tryz.prog.globalNamed "calamus/utf.longer" = some 5 by kernel_rfl).symm.trans hg2)
 obtain rfl:=Option.some.inj ((show Option.map (fun x=>x.type) Tryz.prog.globals[1]?=some 159 by kernel_rfl).symm.trans ht1)
 obtain rfl:=Option.some.inj ((show Option.map (fun x=>x.type) Tryz.prog.globals[5]?=some 208 by kernel_rfl).symm.trans ht2)
 have e1:=Ut.spans_cells hd1
 have e2:=Ut.longer_cells hd2
 obtain ⟨t,fr,q1⟩:=Ut.heap_of_var hg1 hv1
 obtain ⟨t',fr',q2⟩:=Ut.heap_of_var hg2 hv2
 have hc1:cs1=#[.int .u8 0,.int .u8 0,.int .u8 0,.int .u8 0,.int .u8 0,.int .u8 0,.int .u8 0,.int .u8 0]:=Array.toList_inj.1 e1
 have hc2:cs2=Ut.lgC:=Array.toList_inj.1 e2
 rw [hc1] at q1
 rw [hc2] at q2
 obtain ⟨tz,fz,qz⟩:=Ut.heap_of_var gZ hz
 refine ⟨⟨⟨t,fr,q1⟩,⟨t',fr',q2⟩⟩,fun W' hW=>?_,⟨_,tz,fz,qz,rfl⟩⟩
 exact tab_stays gP ht hW (Nat.le_refl _)
end
end Go.Proofs.YthodiandebahdaaGreatDoor
