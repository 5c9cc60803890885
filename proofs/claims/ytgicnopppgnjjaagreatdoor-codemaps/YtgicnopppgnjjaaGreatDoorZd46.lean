/- Merged by program: CyLaid. -/
import Derived.Test.YtgicnopppgnjjaaGreatDoorZd25
import Derived.Test.YtgicnopppgnjjaaGreatDoorUZd18
import Derived.Test.YtgicnopppgnjjaaGreatDoorZd07
import Derived.Test.YtgicnopppgnjjaaGreatDoorZd09
import Derived.Test.YtgicnopppgnjjaaGreatDoorZd19
import Derived.Test.YtgicnopppgnjjaaGreatDoorZd44
set_option linter.unusedSimpArgs false
set_option linter.unusedVariables false
namespace Go.Proofs.YtgicnopppgnjjaaGreatDoor
open Go.ChangeShapes Go.WideShapes Go.ChangeAt Go.RowKit Go.Joins Go.Shelf
set_option maxRecDepth 100000
def laid18 : List (String × DataW Unit) := [("math/bits.deBruijn32tab", Rows.laid_math_bits_deBruijn32tab), ("math/bits.deBruijn64tab", Rows.laid_math_bits_deBruijn64tab), ("internal/strconv.uint64pow10", Rows.laid_internal_strconv_uint64pow10), ("unicode/utf8.acceptRanges", Rows.laid_unicode_utf8_acceptRanges), ("strconv.ErrRange", Rows.laid_strconv_ErrRange), ("strconv.ErrSyntax", Rows.laid_strconv_ErrSyntax), ("calamus/utf.between", Rows.laid_calamus_utf_between), ("calamus/utf.longer", Rows.laid_calamus_utf_longer), ("calamus/lex.words", Rows.laid_calamus_lex_words), ("calamus/lex.longest", Rows.laid_calamus_lex_longest), ("calamus/lang.plainSteps", Rows.laid_calamus_lang_plainSteps), ("unicode/utf8.first", Rows.laid_unicode_utf8_first)]
theorem steps_cells {W:World} {fuel:Nat} {cs:List Value} {p:List MemPlace}
  (hd:DataW.trod (fun _=>()) Tryz.prog W 0 (fun _=>true) false fuel 155 cs=some (Rows.laid_calamus_lang_plainSteps,p)):cs=Lx.plC.toList:=by
 obtain ⟨xs,m1,rfl,hx1,hlen,hn3,hel⟩:=DataW.trod_array Tryz.underlying155 hd
 rw [show Tryz.prog.cellsOf 155=12 by kernel_rfl] at hlen
 have key:∀ (i:Nat) (bs:List UInt8),i<12→(match (Rows.laid_calamus_lang_plainSteps:DataW Unit) with | .agg ds=>ds|_=>[])[i]?=some (.lit (.string bs))→(cs.drop (i * 1)).take 1=[.string (mkB bs)]:=by
  intro i bs hi hxy
  obtain ⟨fuel',d',q,hdi,he⟩:=Lib.array_elem Tryz.underlying155 hd i hi
  have hdi2:=hdi.symm.trans hxy
  obtain rfl:=Option.some.inj hdi2
  rw [show Tryz.prog.cellsOf 9=1 by kernel_rfl] at he
  obtain ⟨s,q1,q2,_⟩:=DataW.trod_string Tryz.underlying9 he
  rw [q1]
  have q3:=congrArg Prod.fst q2
  simp only [DataW.lit.injEq,Lit.string.injEq] at q3
  rw [q3]
  exact congrArg (fun z=>[Value.string z]) (ByteArray.ext (by simp [mkB]))
 have k0:=key 0 [] (by omega) rfl
 have k1:=key 1 [105,100] (by omega) rfl
 have k2:=key 2 [] (by omega) rfl
 have k3:=key 3 [] (by omega) rfl
 have k4:=key 4 [] (by omega) rfl
 have k5:=key 5 [] (by omega) rfl
 have k6:=key 6 [] (by omega) rfl
 have k7:=key 7 [] (by omega) rfl
 have k8:=key 8 [116,111,116,101,120,116] (by omega) rfl
 have k9:=key 9 [116,111,110,117,109] (by omega) rfl
 have k10:=key 10 [115,117,109] (by omega) rfl
 have k11:=key 11 [99,111,117,110,116] (by omega) rfl
 have e0:cs=cs.drop 0:=rfl
 rw [e0,Ut.split_at' 0 1 cs,Ut.split_at' (0 + 1) 1 cs,Ut.split_at' (0 + 1 + 1) 1 cs,Ut.split_at' (0 + 1 + 1 + 1) 1 cs,Ut.split_at' (0 + 1 + 1 + 1 + 1) 1 cs,Ut.split_at' (0 + 1 + 1 + 1 + 1 + 1) 1 cs,Ut.split_at' (0 + 1 + 1 + 1 + 1 + 1 + 1) 1 cs,Ut.split_at' (0 + 1 + 1 + 1 + 1 + 1 + 1 + 1) 1 cs,Ut.split_at' (0 + 1 + 1 + 1 + 1 + 1 + 1 + 1 + 1) 1 cs,Ut.split_at' (0 + 1 + 1 + 1 + 1 + 1 + 1 + 1 + 1 + 1) 1 cs,Ut.split_at' (0 + 1 + 1 + 1 + 1 + 1 + 1 + 1 + 1 + 1 + 1) 1 cs,Ut.split_at' (0 + 1 + 1 + 1 + 1 + 1 + 1 + 1 + 1 + 1 + 1 + 1) 1 cs,List.drop_of_length_le (i:=0 + 1 + 1 + 1 + 1 + 1 + 1 + 1 + 1 + 1 + 1 + 1 + 1) (by omega)]
 simp only [Nat.reduceMul,Nat.reduceAdd] at k0 k1 k2 k3 k4 k5 k6 k7 k8 k9 k10 k11 ⊢
 rw [k0,k1,k2,k3,k4,k5,k6,k7,k8,k9,k10,k11]
 rfl
theorem gP : Tryz.prog.globalNamed "internal/strconv.uint64pow10" = some 10 := by kernel_rfl
theorem gPT:(Tryz.prog.globals[10]?).map (·.type)=some 265:=by kernel_rfl
theorem of_laid18 {W:World} (h:laidMetH Tryz.prog laid18 W):Lx.Gs W:=by
 rw [MakeChecks.laidMetH_plain _ _ _ (by kernel_rfl)] at h
 have h5:=laidMet_tail (laidMet_tail (laidMet_tail (laidMet_tail (laidMet_tail h))))
 have h8:=laidMet_tail (laidMet_tail (laidMet_tail h5))
 have hz : Lib.TabIs Tryz.prog W "math/bits.deBruijn64tab" .u8 zTab := Lib.tabIs_of_head gZ gZT Tryz.underlying277 Tryz.underlying5 (by kernel_rfl) (by kernel_rfl) (laidMet_tail h)
 have hw : Lib.TabIs Tryz.prog W "calamus/lex.words" .i64 [0, 1, 3, 2, 4] := Lib.tabIs_of_head gW gWT Tryz.underlying138 Tryz.underlying108 (by kernel_rfl) (by kernel_rfl) h8
 have hl : Lib.TabIs Tryz.prog W "calamus/lex.longest" .i64 [0, 64, 512, 4096, 1] := Lib.tabIs_of_head gL gLT Tryz.underlying125 Tryz.underlying3 (by kernel_rfl) (by kernel_rfl) (laidMet_tail h8)
 obtain ⟨ae,se,hve, -, -, -⟩:=laid_sentinel h5 gE gET Tryz.underlying242 row_e Tryz.underlying273 Tryz.underlying275 rfl rfl Tryz.underlying9 (by kernel_rfl) (by kernel_rfl)
 have r0:=Lib.laidMet.reads h (.tail _ (.tail _ (.tail _ (.head _))))
 have r1:=Lib.laidMet.reads h (.tail _ (.tail _ (.tail _ (.tail _ (.tail _ (.tail _ (.head _)))))))
 have r2:=Lib.laidMet.reads h (.tail _ (.tail _ (.tail _ (.tail _ (.tail _ (.tail _ (.tail _ (.head _))))))))
 have r3:=Lib.laidMet.reads h (.tail _ (.tail _ (.tail _ (.tail _ (.tail _ (.tail _ (.tail _ (.tail _ (.tail _ (.tail _ (.tail _ (.head _))))))))))))
 rw [accept_eq] at r0
 have r3' : Lib.VarReads Tryz.prog W "unicode/utf8.first" Lib.firstData := by
  rw [←Pinned.utf8First_eq];exact r3
 have hT:Lib.Utf8Tabs 8 9 W:=utf8Tabs_of_reads {laysDR with} ⟨by kernel_rfl,by kernel_rfl,by kernel_rfl,by kernel_rfl,by kernel_rfl,by kernel_rfl,by kernel_rfl⟩ r3' r0
 obtain ⟨g1,t1,cs1,f1,p1,hg1,ht1,hv1,hd1⟩:=r1
 obtain ⟨g2,t2,cs2,f2,p2,hg2,ht2,hv2,hd2⟩:=r2
 obtain rfl := Option.some.inj ((show Tryz.prog.globalNamed "calamus/utf.between" = some 4 by kernel_rfl).symm.trans hg1)
 obtain rfl := Option.some.inj ((show Tryz.prog.globalNamed "calamus/utf.longer" = some 6 by kernel_rfl).symm.trans hg2)
 obtain rfl:=Option.some.inj ((show Option.map (fun x=>x.type) Tryz.prog.globals[4]?=some 181 by kernel_rfl).symm.trans ht1)
 obtain rfl:=Option.some.inj ((show Option.map (fun x=>x.type) Tryz.prog.globals[6]?=some 228 by kernel_rfl).symm.trans ht2)
 have e1:=Ut.spans_cells hd1
 have e2:=Ut.longer_cells hd2
 obtain ⟨t,fr,q1⟩:=Ut.heap_of_var hg1 hv1
 obtain ⟨t',fr',q2⟩:=Ut.heap_of_var hg2 hv2
 have hc1:cs1=#[.int .u8 0,.int .u8 0,.int .u8 0,.int .u8 0,.int .u8 0,.int .u8 0,.int .u8 0,.int .u8 0]:=Array.toList_inj.1 e1
 have hc2:cs2=Ut.lgC:=Array.toList_inj.1 e2
 rw [hc1] at q1
 rw [hc2] at q2
 obtain ⟨tz,fz,qz⟩:=Ut.heap_of_var gZ hz
 obtain ⟨tw,fw,qw⟩:=Ut.heap_of_var gW hw
 obtain ⟨tl,fl,ql⟩:=Ut.heap_of_var gL hl
 have r5:=Lib.laidMet.reads h (.tail _ (.tail _ (.tail _ (.tail _ (.tail _ (.tail _ (.tail _ (.tail _ (.tail _ (.tail _ (.head _)))))))))))
 obtain ⟨g5,t5,cs5,f5,p5,hg5,ht5,hv5,hd5⟩:=r5
 obtain rfl := Option.some.inj ((show Tryz.prog.globalNamed "calamus/lang.plainSteps" = some 3 by kernel_rfl).symm.trans hg5)
 obtain rfl:=Option.some.inj ((show Option.map (fun x=>x.type) Tryz.prog.globals[3]?=some 155 by kernel_rfl).symm.trans ht5)
 have e5:=steps_cells hd5
 obtain ⟨t5,fr5,q5⟩:=Ut.heap_of_var hg5 hv5
 rw [show cs5=Lx.plC from Array.toList_inj.1 e5] at q5
 have hp10 : Lib.TabIs Tryz.prog W "internal/strconv.uint64pow10" .u64 Lib.pow10Tab := Lib.tabIs_of_head gP gPT Tryz.underlying265 Tryz.underlying28 (by kernel_rfl) (by kernel_rfl) (laidMet_tail (laidMet_tail h))
 refine ⟨?_,⟨t5,fr5,q5⟩,Lib.tabBelow_of_tabIs hp10⟩
 refine ⟨⟨⟨t,fr,q1⟩,⟨t',fr',q2⟩⟩,hT,⟨_,by simpa using World.var?_cell gE hve 0,Or.inr ⟨_,_,rfl⟩⟩,five ?_ ?_ ?_ ?_ ?_,five ?_ ?_ ?_ ?_ ?_,?_⟩
 all_goals first|(simp [World.cell?,ql,Lx.lgK];done)|(simp [World.cell?,qw,Lx.wdK];done)|skip
 have hlt:14<W.heap.size:=(Array.getElem?_eq_some_iff.1 qz).1
 omega
end Go.Proofs.YtgicnopppgnjjaaGreatDoor
