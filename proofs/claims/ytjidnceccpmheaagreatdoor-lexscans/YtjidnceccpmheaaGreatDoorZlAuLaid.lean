/- What the rows of layer 13 list, as the walks want it. -/
import Derived.Test.YtjidnceccpmheaaGreatDoorUZlUqLaid2
import Derived.Test.YtjidnceccpmheaaGreatDoorZlAiChar
import Derived.Stop.LaidErr
import Derived.PinnedBridge
namespace Go.Proofs.YtjidnceccpmheaaGreatDoor
open Go.ChangeShapes Go.WideShapes Go.ChangeAt Go.RowKit Go.Joins Go.Shelf
set_option linter.unusedVariables false
set_option maxRecDepth 100000
theorem own : ownKnob Tryz.prog.godebug = none := by kernel_rfl
theorem laidOut : laidOutB Tryz.prog = true := by kernel_rfl
def laid13 : List (String × DataW Unit) := [("math/bits.deBruijn32tab", Rows.laid_math_bits_deBruijn32tab), ("math/bits.deBruijn64tab", Rows.laid_math_bits_deBruijn64tab), ("internal/strconv.uint64pow10", Rows.laid_internal_strconv_uint64pow10), ("unicode/utf8.acceptRanges", Rows.laid_unicode_utf8_acceptRanges), ("strconv.ErrRange", Rows.laid_strconv_ErrRange), ("strconv.ErrSyntax", Rows.laid_strconv_ErrSyntax), ("calamus/utf.between", Rows.laid_calamus_utf_between), ("calamus/utf.longer", Rows.laid_calamus_utf_longer), ("calamus/lex.words", Rows.laid_calamus_lex_words), ("calamus/lex.longest", Rows.laid_calamus_lex_longest), ("unicode/utf8.first", Rows.laid_unicode_utf8_first)]
theorem laidMet_tail {P : Program} {x : String × DataW Unit} {rest : List (String × DataW Unit)} {W : World} (h : laidMet P (x :: rest) W) : laidMet P rest W := by
  obtain ⟨ps, ⟨g, t, cs, f, p, q, h1, h2, h3, h4, h5, h6⟩, hn, hall⟩ := h
  subst h6
  exact ⟨q, h5, (List.nodup_append.1 hn).2.1, fun b off hm => hall b off (List.mem_append_right _ hm)⟩
theorem gZ : Tryz.prog.globalNamed "math/bits.deBruijn64tab" = some 11 := by kernel_rfl
theorem gZT : (Tryz.prog.globals[11]?).map (·.type) = some 144 := by kernel_rfl
def zTab : List Int := [0, 1, 56, 2, 57, 49, 28, 3, 61, 58, 42, 50, 38, 29, 17, 4, 62, 47, 59, 36, 45, 43, 51, 22, 53, 39, 33, 30, 24, 18, 12, 5, 63, 55, 48, 27, 60, 41, 37, 16, 46, 35, 44, 21, 52, 32, 23, 11, 54, 26, 40, 15, 34, 20, 31, 10, 25, 14, 19, 9, 13, 8, 7, 6]
theorem gW : Tryz.prog.globalNamed "calamus/lex.words" = some 1 := by kernel_rfl
theorem gWT : (Tryz.prog.globals[1]?).map (·.type) = some 39 := by kernel_rfl
theorem gL : Tryz.prog.globalNamed "calamus/lex.longest" = some 0 := by kernel_rfl
theorem gLT : (Tryz.prog.globals[0]?).map (·.type) = some 38 := by kernel_rfl
theorem gE : Tryz.prog.globalNamed "strconv.ErrSyntax" = some 7 := by kernel_rfl
theorem gET : (Tryz.prog.globals[7]?).map (·.type) = some 100 := by kernel_rfl
theorem star_e : "*" ++ "errors.errorString" = "*errors.errorString" := by decide
theorem row_e (u : TypeId) (h : Tryz.prog.typeName? 3 u = some "*errors.errorString") : u = 127 :=
  typeName_ptr_named (nm := "errors.errorString") (by rw [star_e]; kernel_rfl) (by kernel_rfl) (by decide) u (by rw [star_e]; exact h)
theorem accept_eq : (Rows.laid_unicode_utf8_acceptRanges : DataW Unit) = Lib.acceptData := by kernel_rfl
theorem five {P : Nat → Prop} (h0 : P 0) (h1 : P 1) (h2 : P 2) (h3 : P 3) (h4 : P 4) : ∀ k, k < 5 → P k := by
  intro k hk
  have : k = 0 ∨ k = 1 ∨ k = 2 ∨ k = 3 ∨ k = 4 := by omega
  rcases this with rfl | rfl | rfl | rfl | rfl <;> assumption
theorem of_laid13 {W : World} (h : laidMetH Tryz.prog laid13 W) : Lx.Gg W := by
  rw [MakeChecks.laidMetH_plain _ _ _ (by kernel_rfl)] at h
  have h5 := laidMet_tail (laidMet_tail (laidMet_tail (laidMet_tail (laidMet_tail h))))
  have h8 := laidMet_tail (laidMet_tail (laidMet_tail h5))
  have hz : Lib.TabIs Tryz.prog W "math/bits.deBruijn64tab" .u8 zTab := Lib.tabIs_of_head gZ gZT Tryz.underlying144 Tryz.underlying5 (by kernel_rfl) (by kernel_rfl) (laidMet_tail h)
  have hw : Lib.TabIs Tryz.prog W "calamus/lex.words" .i64 [0, 1, 3, 2, 4] := Lib.tabIs_of_head gW gWT Tryz.underlying39 Tryz.underlying30 (by kernel_rfl) (by kernel_rfl) h8
  have hl : Lib.TabIs Tryz.prog W "calamus/lex.longest" .i64 [0, 64, 512, 4096, 1] := Lib.tabIs_of_head gL gLT Tryz.underlying38 Tryz.underlying3 (by kernel_rfl) (by kernel_rfl) (laidMet_tail h8)
  obtain ⟨ae, se, hve, -, -, -⟩ := laid_sentinel h5 gE gET Tryz.underlying100 row_e Tryz.underlying127 Tryz.underlying129 rfl rfl Tryz.underlying9 (by kernel_rfl) (by kernel_rfl)
  have r0 := Lib.laidMet.reads h (.tail _ (.tail _ (.tail _ (.head _))))
  have r1 := Lib.laidMet.reads h (.tail _ (.tail _ (.tail _ (.tail _ (.tail _ (.tail _ (.head _)))))))
  have r2 := Lib.laidMet.reads h (.tail _ (.tail _ (.tail _ (.tail _ (.tail _ (.tail _ (.tail _ (.head _))))))))
  have r3 := Lib.laidMet.reads h (.tail _ (.tail _ (.tail _ (.tail _ (.tail _ (.tail _ (.tail _ (.tail _ (.tail _ (.tail _ (.head _)))))))))))
  rw [accept_eq] at r0
  have r3' : Lib.VarReads Tryz.prog W "unicode/utf8.first" Lib.firstData := by
    rw [← Pinned.utf8First_eq]; exact r3
  have hT : Lib.Utf8Tabs 5 6 W := utf8Tabs_of_reads { laysDR with } ⟨by kernel_rfl, by kernel_rfl, by kernel_rfl, by kernel_rfl, by kernel_rfl, by kernel_rfl, by kernel_rfl⟩ r3' r0
  obtain ⟨g1, t1, cs1, f1, p1, hg1, ht1, hv1, hd1⟩ := r1
  obtain ⟨g2, t2, cs2, f2, p2, hg2, ht2, hv2, hd2⟩ := r2
  obtain rfl := Option.some.inj ((show Tryz.prog.globalNamed "calamus/utf.between" = some 2 by kernel_rfl).symm.trans hg1)
  obtain rfl := Option.some.inj ((show Tryz.prog.globalNamed "calamus/utf.longer" = some 3 by kernel_rfl).symm.trans hg2)
  obtain rfl := Option.some.inj ((show Option.map (fun x => x.type) Tryz.prog.globals[2]? = some 60 by kernel_rfl).symm.trans ht1)
  obtain rfl := Option.some.inj ((show Option.map (fun x => x.type) Tryz.prog.globals[3]? = some 97 by kernel_rfl).symm.trans ht2)
  have e1 := Ut.spans_cells hd1
  have e2 := Ut.longer_cells hd2
  obtain ⟨t, fr, q1⟩ := Ut.heap_of_var hg1 hv1
  obtain ⟨t', fr', q2⟩ := Ut.heap_of_var hg2 hv2
  have hc1 : cs1 = #[.int .u8 0, .int .u8 0, .int .u8 0, .int .u8 0, .int .u8 0, .int .u8 0, .int .u8 0, .int .u8 0] := Array.toList_inj.1 e1
  have hc2 : cs2 = Ut.lgC := Array.toList_inj.1 e2
  rw [hc1] at q1
  rw [hc2] at q2
  obtain ⟨tz, fz, qz⟩ := Ut.heap_of_var gZ hz
  obtain ⟨tw, fw, qw⟩ := Ut.heap_of_var gW hw
  obtain ⟨tl, fl, ql⟩ := Ut.heap_of_var gL hl
  refine ⟨⟨⟨t, fr, q1⟩, ⟨t', fr', q2⟩⟩, hT, ⟨_, by simpa using World.var?_cell gE hve 0, Or.inr ⟨_, _, rfl⟩⟩, five ?_ ?_ ?_ ?_ ?_, five ?_ ?_ ?_ ?_ ?_, ?_⟩
  all_goals first | (simp [World.cell?, ql, Lx.lgK]; done) | (simp [World.cell?, qw, Lx.wdK]; done) | skip
  have hlt : 11 < W.heap.size := (Array.getElem?_eq_some_iff.1 qz).1
  omega
end Go.Proofs.YtjidnceccpmheaaGreatDoor
