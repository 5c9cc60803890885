/- Merged by program: DxLaid. -/
import Derived.Test.YthodiandebahdaaGreatDoorUZy44
import Derived.Test.YthodiandebahdaaGreatDoorZy29
import Derived.Stop.LaidErr
import Derived.PinnedBridge
namespace Go.Proofs.YthodiandebahdaaGreatDoor
set_option linter.unusedSimpArgs false
set_option linter.unusedVariables false
set_option maxHeartbeats 8000000
section
open Go.ChangeShapes Go.WideShapes Go.ChangeAt Go.RowKit Go.Joins
set_option maxRecDepth 100000
theorem own:ownKnob Tryz.prog.godebug=none:=by kernel_rfl
theorem laidOut:laidOutB Tryz.prog=true:=by kernel_rfl
def laid10 : List (String × DataW Unit) := [("math/bits.deBruijn32tab", Rows.laid_math_bits_deBruijn32tab), ("math/bits.deBruijn64tab", Rows.laid_math_bits_deBruijn64tab), ("internal/strconv.uint64pow10", Rows.laid_internal_strconv_uint64pow10), ("unicode/utf8.acceptRanges", Rows.laid_unicode_utf8_acceptRanges), ("strconv.ErrRange", Rows.laid_strconv_ErrRange), ("strconv.ErrSyntax", Rows.laid_strconv_ErrSyntax), ("calamus/utf.between", Rows.laid_calamus_utf_between), ("calamus/utf.longer", Rows.laid_calamus_utf_longer), ("unicode/utf8.first", Rows.laid_unicode_utf8_first)]
theorem laidMet_tail {P:Program} {x:String×DataW Unit} {rest:List (String×DataW Unit)} {W:World} (h:laidMet P (x :: rest) W):laidMet P rest W:=by
 obtain ⟨ps,⟨g,t,cs,f,p,q,h1,h2,h3,h4,h5,h6⟩,hn,hall⟩:=h
 subst h6
 exact ⟨q,h5,(List.nodup_append.1 hn).2.1,fun b off hm=>hall b off (List.mem_append_right _ hm)⟩
theorem gP : Tryz.prog.globalNamed "internal/strconv.uint64pow10" = some 2 := by kernel_rfl
theorem gPT:(Tryz.prog.globals[2]?).map (·.type)=some 186:=by kernel_rfl
theorem gZ : Tryz.prog.globalNamed "math/bits.deBruijn64tab" = some 7 := by kernel_rfl
theorem gZT:(Tryz.prog.globals[7]?).map (·.type)=some 224:=by kernel_rfl
def zTab:List Int:=[0,1,56,2,57,49,28,3,61,58,42,50,38,29,17,4,62,47,59,36,45,43,51,22,53,39,33,30,24,18,12,5,63,55,48,27,60,41,37,16,46,35,44,21,52,32,23,11,54,26,40,15,34,20,31,10,25,14,19,9,13,8,7,6]
theorem gE : Tryz.prog.globalNamed "strconv.ErrSyntax" = some 3 := by kernel_rfl
theorem gET:(Tryz.prog.globals[3]?).map (·.type)=some 140:=by kernel_rfl
theorem star_e : "*" ++ "errors.errorString" = "*errors.errorString" := by decide
theorem row_e (u : TypeId) (h : Tryz.prog.typeName? 3 u = some "*errors.errorString") : u = 220 :=
 typeName_ptr_named (nm := "errors.errorString") (by rw [star_e]; kernel_rfl) (by kernel_rfl) (by decide) u (by rw [star_e]; exact h)
structure Gw10 (W:World):Prop where
 gu:Ut.Gu W
 tab:Tab W.heap.size W
 gz:Gz W
 ge:Ge True W
theorem of_laid10 {W:World} (h:laidMetH Tryz.prog laid10 W):Gw10 W:=by
 rw [MakeChecks.laidMetH_plain _ _ _ (by kernel_rfl)] at h
 have ht : Lib.TabIs Tryz.prog W "internal/strconv.uint64pow10" .u64 Lib.pow10Tab := Lib.tabIs_of_head gP gPT Tryz.underlying186 Tryz.underlying25 (by kernel_rfl) (by kernel_rfl) (laidMet_tail (laidMet_tail h))
 have hz : Lib.TabIs Tryz.prog W "math/bits.deBruijn64tab" .u8 zTab := Lib.tabIs_of_head gZ gZT Tryz.underlying224 Tryz.underlying5 (by kernel_rfl) (by kernel_rfl) (laidMet_tail h)
 obtain ⟨ae,se,hve, -, -, -⟩:=laid_sentinel (laidMet_tail (laidMet_tail (laidMet_tail (laidMet_tail (laidMet_tail h))))) gE gET Tryz.underlying140 row_e Tryz.underlying220 Tryz.underlying222 rfl rfl Tryz.underlying9 (by kernel_rfl) (by kernel_rfl)
 have r0:=Lib.laidMet.reads h (.tail _ (.tail _ (.tail _ (.head _))))
 have r1:=Lib.laidMet.reads h (.tail _ (.tail _ (.tail _ (.tail _ (.tail _ (.tail _ (.head _)))))))
 have r2:=Lib.laidMet.reads h (.tail _ (.tail _ (.tail _ (.tail _ (.tail _ (.tail _ (.tail _ (.head _))))))))
 obtain ⟨g0,t0,cs0,f0,p0,hg0,ht0,hv0,hd0⟩:=r0
 obtain ⟨g1,t1,cs1,f1,p1,hg1,ht1,hv1,hd1⟩:=r1
 obtain ⟨g2,t2,cs2,f2,p2,hg2,ht2,hv2,hd2⟩:=r2
 obtain rfl := Option.some.inj ((show Tryz.prog.globalNamed "unicode/utf8.acceptRanges" = some 9 by kernel_rfl).symm.trans hg0)
 obtain rfl := Option.some.inj ((show Tryz.prog.globalNamed "calamus/utf.between" = some 1 by kernel_rfl).symm.trans hg1)
 obtain rfl := Option.some.inj ((show Tryz.prog.globalNamed "calamus/utf.longer" = some 5 by kernel_rfl).symm.trans hg2)
 obtain rfl:=Option.some.inj ((show Option.map (fun x=>x.type) Tryz.prog.globals[1]?=some 159 by kernel_rfl).symm.trans ht1)
 obtain rfl:=Option.some.inj ((show Option.map (fun x=>x.type) Tryz.prog.globals[5]?=some 208 by kernel_rfl).symm.trans ht2)
 have e1:=Ut.spans_cells hd1
 have e2:=Ut.longer_cells hd2
 obtain ⟨t',fr',q0⟩:=Ut.heap_of_var hg0 hv0
 obtain ⟨t,fr,q1⟩:=Ut.heap_of_var hg1 hv1
 obtain ⟨t',fr',q2⟩:=Ut.heap_of_var hg2 hv2
 have hc1:cs1=#[.int .u8 0,.int .u8 0,.int .u8 0,.int .u8 0,.int .u8 0,.int .u8 0,.int .u8 0,.int .u8 0]:=Array.toList_inj.1 e1
 have hc2:cs2=Ut.lgC:=Array.toList_inj.1 e2
 rw [hc1] at q1
 rw [hc2] at q2
 obtain ⟨tz,fz,qz⟩:=Ut.heap_of_var gZ hz
 refine ⟨⟨⟨t,fr,q1⟩,⟨t',fr',q2⟩⟩,fun W' hW=>?_,⟨_,tz,fz,qz,rfl⟩,fun _=>⟨_,by simpa using World.var?_cell gE hve 0,Or.inr ⟨_,_,rfl⟩⟩⟩
 exact tab_stays gP ht hW (Nat.le_refl _)
end
end Go.Proofs.YthodiandebahdaaGreatDoor
