/- Merged by program: NwSplitA, OaAppend, OcPower. -/
import Derived.Test.YtgicnopppgnjjaaGreatDoorZd00
import Derived.Deep.RegionWith
import Derived.Lib.AppendStr
import Derived.Outline
set_option linter.unusedSimpArgs false
set_option linter.unusedVariables false
namespace Go.Proofs.YtgicnopppgnjjaaGreatDoor
open Go.RowKit
set_option maxHeartbeats 4000000 in
theorem split_one_no_nil (s:ByteArray) (w:World) (hs:s.size≤100000) (hbw:((tlB 45 (bl s)).takeWhile isDig).length=1) (hpt:hdB 46 ((tlB 45 (bl s)).dropWhile isDig)=false) (hL:((tlB 45 (bl s)).dropWhile isDig)=[]) :
  Calls Tryz.prog 196 #[.string s] w fun e w'=>e=splitE (splitT (hdB 45 (bl s)) ((tlB 45 (bl s)).takeWhile isDig) [] ((tlB 45 (bl s)).dropWhile isDig))∧Below w.heap.size w w':=by
 have ml:maxLen=2 ^ 63 - 1:=rfl
 have HT:=hide (two5_new w false ⟨#[]⟩ ⟨#[]⟩ false ⟨#[]⟩ false ⟨#[]⟩ ⟨#[]⟩ false ⟨#[]⟩)
 have q1:=tlB_length 45 (bl s)
 rw [bl_length] at q1
 have q2:=takeWhile_len (tlB 45 (bl s))
 have q3:=dropWhile_len (tlB 45 (bl s))
 obtain ⟨n,hn⟩:∃ n,hdB 45 (bl s)=n:=⟨_,rfl⟩
 obtain ⟨l1,hl1⟩:∃ l1,tlB 45 (bl s)=l1:=⟨_,rfl⟩
 rw [hl1] at q1 q2 q3
 obtain ⟨wh,hwh⟩:∃ wh,l1.takeWhile isDig=wh:=⟨_,rfl⟩
 obtain ⟨l2,hl2⟩:∃ l2,l1.dropWhile isDig=l2:=⟨_,rfl⟩
 rw [hwh] at q2
 rw [hl2] at q3
 rw [hl1,hwh] at hbw
 rw [hn,hl1,hwh,hl2]
 rw [hl1,hl2] at hpt hL
 have q6:l2.length≤100000:=by omega
 have hw0:(mkB wh).toList.isEmpty=false:=by rw [mkB_nil];cases wh with|nil=>simp at hbw|cons _ _=>rfl
 have hw1:¬ (1:Int)<(mkB wh).size:=by rw [mkB_size];omega
 have hw1':decide ((1:Int)<(mkB wh).size)=false:=decide_eq_false hw1
 have hn:=hide hn
 have hl1:=hide hl1
 have hwh:=hide hwh
 have hl2:=hide hl2
 have hpt':=hide hpt
 clear hbw hpt
 obtain ⟨sB,hsB⟩:∃ sB,mkB l2=sB:=⟨_,rfl⟩
 have hsz:sB.size≤100000:=by rw [←hsB,mkB_size];omega
 have hblB:=hide (show bl sB=l2 by rw [←hsB,bl_mkB])
 have hs0:sB.toList.isEmpty=true:=by rw [←hsB,mkB_nil,hL];rfl
 rw [hL]
 have hsB:=hide hsB
 have hL:=hide hL
 go_enter Tryz.func196, Tryz.ntmps196
 go_wp2_with fail
 refine (cutByte_any s 45 _ _ rfl (by omega)).mono ?_
 rw [hn.out,hl1.out]
 rintro e w1 ⟨rfl,hb1⟩
 have H1:=hide (HT.out.then hb1)
 clear HT hb1
 obtain ⟨c0,c1,c2,c3,c4,f0,f1,f2,f3,f4⟩:=H1.out.b1.cells
 go_wp2_with fail
 refine (cutDigits_any (mkB l1) _ (by rw [mkB_size];omega)).mono ?_
 rw [bl_mkB,hwh.out,hl2.out,hsB.out]
 rintro e w2 ⟨rfl,hb2⟩
 have H2:Hid (Two5 w w2 false ⟨#[]⟩ ⟨#[]⟩ false ⟨#[]⟩ n ⟨#[]⟩ ⟨#[]⟩ false ⟨#[]⟩):=by
  have h:=H1.out
  have h':Two5 w (w1.setCell ⟨w.heap.size + 1,0,none⟩ (.bool n)) false ⟨#[]⟩ ⟨#[]⟩ false ⟨#[]⟩ n ⟨#[]⟩ ⟨#[]⟩ false ⟨#[]⟩:=⟨below_set h.below (by omega),h.b0.other (by omega),h.b1.set0⟩
  exact h'.then hb2
 clear H1 hb2 c0 c1 c2 c3 c4 f0 f1 f2 f3 f4
 obtain ⟨c0,c1,c2,c3,c4,f0,f1,f2,f3,f4⟩:=H2.out.b1.cells
 obtain ⟨d0,d1,d2,d3,d4,g0,g1,g2,g3,g4⟩:=H2.out.b0.cells
 go_wp2_with fail
 refine (cutByte_any sB 46 _ _ rfl (by omega)).mono ?_
 rw [hblB.out,hpt'.out,tlB_no hpt'.out,hsB.out]
 rintro e w3 ⟨rfl,hb3⟩
 have H3:Hid (Two5 w w3 false ⟨#[]⟩ ⟨#[]⟩ false ⟨#[]⟩ n (mkB wh) ⟨#[]⟩ false ⟨#[]⟩):=by
  have h:=H2.out
  have h':Two5 w (w2.setCell ⟨w.heap.size + 1,1,none⟩ (.string (mkB wh))) false ⟨#[]⟩ ⟨#[]⟩ false ⟨#[]⟩ n (mkB wh) ⟨#[]⟩ false ⟨#[]⟩:=⟨below_set h.below (by omega),h.b0.other (by omega),h.b1.set1⟩
  exact h'.then hb3
 clear H2 hb3 c0 c1 c2 c3 c4 f0 f1 f2 f3 f4 d0 d1 d2 d3 d4 g0 g1 g2 g3 g4
 obtain ⟨c0,c1,c2,c3,c4,f0,f1,f2,f3,f4⟩:=H3.out.b1.cells
 obtain ⟨d0,d1,d2,d3,d4,g0,g1,g2,g3,g4⟩:=H3.out.b0.cells
 go_wp2
 refine bodyPost_ret (v:=.tuple #[.agg #[.bool n,.string (mkB wh),.string ⟨#[]⟩,.bool false,.string ⟨#[]⟩],.bool true]) (by simp [results,Tryz.results196,go_sem,d0,d1,d2,d3,d4]) rfl ⟨rfl,?_⟩
 iterate 5 refine below_set ?_ (by omega)
 exact H3.out.below
set_option maxHeartbeats 4000000 in
theorem split_one_no_bad (s:ByteArray) (w:World) (hs:s.size≤100000) (hbw:((tlB 45 (bl s)).takeWhile isDig).length=1) (hpt:hdB 46 ((tlB 45 (bl s)).dropWhile isDig)=false) (c:UInt8) (r:List UInt8) (hL:((tlB 45 (bl s)).dropWhile isDig)=c :: r) (hc1:c≠101) (hc2:c≠69) :
  Calls Tryz.prog 196 #[.string s] w fun e w'=>e=splitE (splitT (hdB 45 (bl s)) ((tlB 45 (bl s)).takeWhile isDig) [] ((tlB 45 (bl s)).dropWhile isDig))∧Below w.heap.size w w':=by
 have ml:maxLen=2 ^ 63 - 1:=rfl
 have HT:=hide (two5_new w false ⟨#[]⟩ ⟨#[]⟩ false ⟨#[]⟩ false ⟨#[]⟩ ⟨#[]⟩ false ⟨#[]⟩)
 have q1:=tlB_length 45 (bl s)
 rw [bl_length] at q1
 have q2:=takeWhile_len (tlB 45 (bl s))
 have q3:=dropWhile_len (tlB 45 (bl s))
 obtain ⟨n,hn⟩:∃ n,hdB 45 (bl s)=n:=⟨_,rfl⟩
 obtain ⟨l1,hl1⟩:∃ l1,tlB 45 (bl s)=l1:=⟨_,rfl⟩
 rw [hl1] at q1 q2 q3
 obtain ⟨wh,hwh⟩:∃ wh,l1.takeWhile isDig=wh:=⟨_,rfl⟩
 obtain ⟨l2,hl2⟩:∃ l2,l1.dropWhile isDig=l2:=⟨_,rfl⟩
 rw [hwh] at q2
 rw [hl2] at q3
 rw [hl1,hwh] at hbw
 rw [hn,hl1,hwh,hl2]
 rw [hl1,hl2] at hpt hL
 have q6:l2.length≤100000:=by omega
 have hw0:(mkB wh).toList.isEmpty=false:=by rw [mkB_nil];cases wh with|nil=>simp at hbw|cons _ _=>rfl
 have hw1:¬ (1:Int)<(mkB wh).size:=by rw [mkB_size];omega
 have hw1':decide ((1:Int)<(mkB wh).size)=false:=decide_eq_false hw1
 have hn:=hide hn
 have hl1:=hide hl1
 have hwh:=hide hwh
 have hl2:=hide hl2
 have hpt':=hide hpt
 clear hbw hpt
 obtain ⟨sB,hsB⟩:∃ sB,mkB l2=sB:=⟨_,rfl⟩
 have hsz:sB.size≤100000:=by rw [←hsB,mkB_size];omega
 have hblB:=hide (show bl sB=l2 by rw [←hsB,bl_mkB])
 have hs0:sB.toList.isEmpty=false:=by rw [←hsB,mkB_nil,hL];rfl
 have hs1:0<sB.size:=by rw [←hsB,mkB_size,hL];simp
 have hs1':(0:Int)<sB.size:=by omega
 have hs2:(1:Int)≤sB.size:=by omega
 have hc0:sB[0]=c:=by subst hsB;simp only [hL];exact get0_mkB c r (by rw [mkB_size];simp)
 have hrz:r.length≤100000:=by
  have e':l2.length=r.length + 1:=by rw [hL];rfl
  omega
 have hext:=hide (show sB.extract 1 sB.size=mkB r by rw [drop_mkB,←hsB,bl_mkB,hL];rfl)
 have hT:=hide (show splitE (splitT n wh [] l2)=partsE false false ⟨#[]⟩ ⟨#[]⟩ false ⟨#[]⟩ by rw [hL];unfold splitT;simp [hc1,hc2];rfl)
 have hb1:((sB[0].toNat:Int) != 101)=true:=by
  rw [bne_iff_ne,hc0];intro e;exact hc1 (UInt8.toNat_inj.1 (by have:(101:UInt8).toNat=101:=rfl;omega))
 have hb2:((sB[0].toNat:Int) != 69)=true:=by
  rw [bne_iff_ne,hc0];intro e;exact hc2 (UInt8.toNat_inj.1 (by have:(69:UInt8).toNat=69:=rfl;omega))
 clear hc0 hc1 hc2
 have hsB:=hide hsB
 have hL:=hide hL
 go_enter Tryz.func196, Tryz.ntmps196
 go_wp2_with fail
 refine (cutByte_any s 45 _ _ rfl (by omega)).mono ?_
 rw [hn.out,hl1.out]
 rintro e w1 ⟨rfl,hb1⟩
 have H1:=hide (HT.out.then hb1)
 clear HT hb1
 obtain ⟨c0,c1,c2,c3,c4,f0,f1,f2,f3,f4⟩:=H1.out.b1.cells
 go_wp2_with fail
 refine (cutDigits_any (mkB l1) _ (by rw [mkB_size];omega)).mono ?_
 rw [bl_mkB,hwh.out,hl2.out,hsB.out]
 rintro e w2 ⟨rfl,hb2⟩
 have H2:Hid (Two5 w w2 false ⟨#[]⟩ ⟨#[]⟩ false ⟨#[]⟩ n ⟨#[]⟩ ⟨#[]⟩ false ⟨#[]⟩):=by
  have h:=H1.out
  have h':Two5 w (w1.setCell ⟨w.heap.size + 1,0,none⟩ (.bool n)) false ⟨#[]⟩ ⟨#[]⟩ false ⟨#[]⟩ n ⟨#[]⟩ ⟨#[]⟩ false ⟨#[]⟩:=⟨below_set h.below (by omega),h.b0.other (by omega),h.b1.set0⟩
  exact h'.then hb2
 clear H1 hb2 c0 c1 c2 c3 c4 f0 f1 f2 f3 f4
 obtain ⟨c0,c1,c2,c3,c4,f0,f1,f2,f3,f4⟩:=H2.out.b1.cells
 obtain ⟨d0,d1,d2,d3,d4,g0,g1,g2,g3,g4⟩:=H2.out.b0.cells
 go_wp2_with fail
 refine (cutByte_any sB 46 _ _ rfl (by omega)).mono ?_
 rw [hblB.out,hpt'.out,tlB_no hpt'.out,hsB.out]
 rintro e w3 ⟨rfl,hb3⟩
 have H3:Hid (Two5 w w3 false ⟨#[]⟩ ⟨#[]⟩ false ⟨#[]⟩ n (mkB wh) ⟨#[]⟩ false ⟨#[]⟩):=by
  have h:=H2.out
  have h':Two5 w (w2.setCell ⟨w.heap.size + 1,1,none⟩ (.string (mkB wh))) false ⟨#[]⟩ ⟨#[]⟩ false ⟨#[]⟩ n (mkB wh) ⟨#[]⟩ false ⟨#[]⟩:=⟨below_set h.below (by omega),h.b0.other (by omega),h.b1.set1⟩
  exact h'.then hb3
 clear H2 hb3 c0 c1 c2 c3 c4 f0 f1 f2 f3 f4 d0 d1 d2 d3 d4 g0 g1 g2 g3 g4
 obtain ⟨c0,c1,c2,c3,c4,f0,f1,f2,f3,f4⟩:=H3.out.b1.cells
 obtain ⟨d0,d1,d2,d3,d4,g0,g1,g2,g3,g4⟩:=H3.out.b0.cells
 go_wp2
 refine bodyPost_ret (v:=.tuple #[.agg #[.bool false,.string ⟨#[]⟩,.string ⟨#[]⟩,.bool false,.string ⟨#[]⟩],.bool false]) (by simp [results,Tryz.results196,go_sem,d0,d1,d2,d3,d4]) rfl ⟨by rw [hT.out];rfl,?_⟩
 iterate 5 refine below_set ?_ (by omega)
 exact H3.out.below
set_option maxHeartbeats 4000000 in
theorem split_one_no_p (s:ByteArray) (w:World) (hs:s.size≤100000) (hbw:((tlB 45 (bl s)).takeWhile isDig).length=1) (hpt:hdB 46 ((tlB 45 (bl s)).dropWhile isDig)=false) (c:UInt8) (r:List UInt8) (hL:((tlB 45 (bl s)).dropWhile isDig)=c :: r) (hc:c=101∨c=69) :
  Calls Tryz.prog 196 #[.string s] w fun e w'=>e=splitE (splitT (hdB 45 (bl s)) ((tlB 45 (bl s)).takeWhile isDig) [] ((tlB 45 (bl s)).dropWhile isDig))∧Below w.heap.size w w':=by
 have ml:maxLen=2 ^ 63 - 1:=rfl
 have HT:=hide (two5_new w false ⟨#[]⟩ ⟨#[]⟩ false ⟨#[]⟩ false ⟨#[]⟩ ⟨#[]⟩ false ⟨#[]⟩)
 have q1:=tlB_length 45 (bl s)
 rw [bl_length] at q1
 have q2:=takeWhile_len (tlB 45 (bl s))
 have q3:=dropWhile_len (tlB 45 (bl s))
 obtain ⟨n,hn⟩:∃ n,hdB 45 (bl s)=n:=⟨_,rfl⟩
 obtain ⟨l1,hl1⟩:∃ l1,tlB 45 (bl s)=l1:=⟨_,rfl⟩
 rw [hl1] at q1 q2 q3
 obtain ⟨wh,hwh⟩:∃ wh,l1.takeWhile isDig=wh:=⟨_,rfl⟩
 obtain ⟨l2,hl2⟩:∃ l2,l1.dropWhile isDig=l2:=⟨_,rfl⟩
 rw [hwh] at q2
 rw [hl2] at q3
 rw [hl1,hwh] at hbw
 rw [hn,hl1,hwh,hl2]
 rw [hl1,hl2] at hpt hL
 have q6:l2.length≤100000:=by omega
 have hw0:(mkB wh).toList.isEmpty=false:=by rw [mkB_nil];cases wh with|nil=>simp at hbw|cons _ _=>rfl
 have hw1:¬ (1:Int)<(mkB wh).size:=by rw [mkB_size];omega
 have hw1':decide ((1:Int)<(mkB wh).size)=false:=decide_eq_false hw1
 have hn:=hide hn
 have hl1:=hide hl1
 have hwh:=hide hwh
 have hl2:=hide hl2
 have hpt':=hide hpt
 clear hbw hpt
 obtain ⟨sB,hsB⟩:∃ sB,mkB l2=sB:=⟨_,rfl⟩
 have hsz:sB.size≤100000:=by rw [←hsB,mkB_size];omega
 have hblB:=hide (show bl sB=l2 by rw [←hsB,bl_mkB])
 have hs0:sB.toList.isEmpty=false:=by rw [←hsB,mkB_nil,hL];rfl
 have hs1:0<sB.size:=by rw [←hsB,mkB_size,hL];simp
 have hs1':(0:Int)<sB.size:=by omega
 have hs2:(1:Int)≤sB.size:=by omega
 have hc0:sB[0]=c:=by subst hsB;simp only [hL];exact get0_mkB c r (by rw [mkB_size];simp)
 have hrz:r.length≤100000:=by
  have e':l2.length=r.length + 1:=by rw [hL];rfl
  omega
 have hext:=hide (show sB.extract 1 sB.size=mkB r by rw [drop_mkB,←hsB,bl_mkB,hL];rfl)
 obtain ⟨so,hso⟩:∃ so,spOk r=so:=⟨_,rfl⟩
 have hT:=hide (show splitE (splitT n wh [] l2)=(bif so then partsE true n (mkB wh) ⟨#[]⟩ (spPn r) (mkB (spL r)) else partsE false false ⟨#[]⟩ ⟨#[]⟩ false ⟨#[]⟩) by
  rw [hL];unfold splitT;rcases hc with q|q <;> cases so <;> simp [q,hso] <;> rfl)
 have hbb:(((sB[0].toNat:Int) != 101)=false)∨(((sB[0].toNat:Int) != 101)=true∧((sB[0].toNat:Int) != 69)=false):=by
  rcases hc with q|q
  ·rw [hc0,q];exact Or.inl rfl
  ·rw [hc0,q];exact Or.inr ⟨rfl,rfl⟩
 clear hc0 hc
 have hso:=hide hso
 have hsB:=hide hsB
 have hL:=hide hL
 have SP:=hide (fun W=>splitPower_any n (mkB wh) ⟨#[]⟩ ⟨#[]⟩ (sB.extract 1 sB.size) W (by rw [hext.out,mkB_size];omega) so (by rw [hext.out,bl_mkB];exact hso.out))
 rcases hbb with hb1|⟨hb1,hb2⟩ <;> cases so
 all_goals
  go_enter Tryz.func196, Tryz.ntmps196
  go_wp2_with fail
  refine (cutByte_any s 45 _ _ rfl (by omega)).mono ?_
  rw [hn.out,hl1.out]
  rintro e w1 ⟨rfl,hb1⟩
  have H1:=hide (HT.out.then hb1)
  clear HT hb1
  obtain ⟨c0,c1,c2,c3,c4,f0,f1,f2,f3,f4⟩:=H1.out.b1.cells
  go_wp2_with fail
  refine (cutDigits_any (mkB l1) _ (by rw [mkB_size];omega)).mono ?_
  rw [bl_mkB,hwh.out,hl2.out,hsB.out]
  rintro e w2 ⟨rfl,hb2⟩
  have H2:Hid (Two5 w w2 false ⟨#[]⟩ ⟨#[]⟩ false ⟨#[]⟩ n ⟨#[]⟩ ⟨#[]⟩ false ⟨#[]⟩):=by
   have h:=H1.out
   have h':Two5 w (w1.setCell ⟨w.heap.size + 1,0,none⟩ (.bool n)) false ⟨#[]⟩ ⟨#[]⟩ false ⟨#[]⟩ n ⟨#[]⟩ ⟨#[]⟩ false ⟨#[]⟩:=⟨below_set h.below (by omega),h.b0.other (by omega),h.b1.set0⟩
   exact h'.then hb2
  clear H1 hb2 c0 c1 c2 c3 c4 f0 f1 f2 f3 f4
  obtain ⟨c0,c1,c2,c3,c4,f0,f1,f2,f3,f4⟩:=H2.out.b1.cells
  obtain ⟨d0,d1,d2,d3,d4,g0,g1,g2,g3,g4⟩:=H2.out.b0.cells
  go_wp2_with fail
  refine (cutByte_any sB 46 _ _ rfl (by omega)).mono ?_
  rw [hblB.out,hpt'.out,tlB_no hpt'.out,hsB.out]
  rintro e w3 ⟨rfl,hb3⟩
  have H3:Hid (Two5 w w3 false ⟨#[]⟩ ⟨#[]⟩ false ⟨#[]⟩ n (mkB wh) ⟨#[]⟩ false ⟨#[]⟩):=by
   have h:=H2.out
   have h':Two5 w (w2.setCell ⟨w.heap.size + 1,1,none⟩ (.string (mkB wh))) false ⟨#[]⟩ ⟨#[]⟩ false ⟨#[]⟩ n (mkB wh) ⟨#[]⟩ false ⟨#[]⟩:=⟨below_set h.below (by omega),h.b0.other (by omega),h.b1.set1⟩
   exact h'.then hb3
  clear H2 hb3 c0 c1 c2 c3 c4 f0 f1 f2 f3 f4 d0 d1 d2 d3 d4 g0 g1 g2 g3 g4
  obtain ⟨c0,c1,c2,c3,c4,f0,f1,f2,f3,f4⟩:=H3.out.b1.cells
  obtain ⟨d0,d1,d2,d3,d4,g0,g1,g2,g3,g4⟩:=H3.out.b0.cells
  have HW:Hid (Two5 w w3.drew false ⟨#[]⟩ ⟨#[]⟩ false ⟨#[]⟩ n (mkB wh) ⟨#[]⟩ false ⟨#[]⟩):=H3.out.drew
  go_wp2_with fail
  go_region_with (go_at_call 222;refine (SP.out _).mono ?_;rw [hext.out,bl_mkB];rintro e w5 ⟨rfl,hb5⟩;have H5:=hide (HW.out.then hb5);clear hb5;obtain ⟨e0,e1,e2,e3,e4,k0,k1,k2,k3,k4⟩:=H5.out.b0.cells;simp only [partsE,if_true,Bool.false_eq_true,if_false])
  all_goals
   go_wp2
   first|refine bodyPost_ret (v:=.tuple #[.agg #[.bool n,.string (mkB wh),.string ⟨#[]⟩,.bool (spPn r),.string (mkB (spL r))],.bool true]) (by simp [results,Tryz.results196,go_sem,e0,e1,e2,e3,e4]) rfl ⟨by rw [hT.out];rfl,?_⟩|refine bodyPost_ret (v:=.tuple #[.agg #[.bool false,.string ⟨#[]⟩,.string ⟨#[]⟩,.bool false,.string ⟨#[]⟩],.bool false]) (by simp [results,Tryz.results196,go_sem,e0,e1,e2,e3,e4]) rfl ⟨by rw [hT.out];rfl,?_⟩
   iterate 5 refine below_set ?_ (by omega)
   exact H5.out.below
set_option maxHeartbeats 4000000 in
theorem split_one_pt_nil (s:ByteArray) (w:World) (hs:s.size≤100000) (hbw:((tlB 45 (bl s)).takeWhile isDig).length=1) (hpt:hdB 46 ((tlB 45 (bl s)).dropWhile isDig)=true) (hfr:((tlB 46 ((tlB 45 (bl s)).dropWhile isDig)).takeWhile isDig).isEmpty=false) (hL:((tlB 46 ((tlB 45 (bl s)).dropWhile isDig)).dropWhile isDig)=[]) :
  Calls Tryz.prog 196 #[.string s] w fun e w'=>e=splitE (splitT (hdB 45 (bl s)) ((tlB 45 (bl s)).takeWhile isDig) ((tlB 46 ((tlB 45 (bl s)).dropWhile isDig)).takeWhile isDig) ((tlB 46 ((tlB 45 (bl s)).dropWhile isDig)).dropWhile isDig))∧Below w.heap.size w w':=by
 have ml:maxLen=2 ^ 63 - 1:=rfl
 have HT:=hide (two5_new w false ⟨#[]⟩ ⟨#[]⟩ false ⟨#[]⟩ false ⟨#[]⟩ ⟨#[]⟩ false ⟨#[]⟩)
 have q1:=tlB_length 45 (bl s)
 rw [bl_length] at q1
 have q2:=takeWhile_len (tlB 45 (bl s))
 have q3:=dropWhile_len (tlB 45 (bl s))
 obtain ⟨n,hn⟩:∃ n,hdB 45 (bl s)=n:=⟨_,rfl⟩
 obtain ⟨l1,hl1⟩:∃ l1,tlB 45 (bl s)=l1:=⟨_,rfl⟩
 rw [hl1] at q1 q2 q3
 obtain ⟨wh,hwh⟩:∃ wh,l1.takeWhile isDig=wh:=⟨_,rfl⟩
 obtain ⟨l2,hl2⟩:∃ l2,l1.dropWhile isDig=l2:=⟨_,rfl⟩
 rw [hwh] at q2
 rw [hl2] at q3
 rw [hl1,hwh] at hbw
 rw [hn,hl1,hwh,hl2]
 rw [hl1,hl2] at hpt hL
 rw [hl1,hl2] at hfr
 have q4:=tlB_length 46 l2
 have q5:=takeWhile_len (tlB 46 l2)
 have q6:=dropWhile_len (tlB 46 l2)
 obtain ⟨l3,hl3⟩:∃ l3,tlB 46 l2=l3:=⟨_,rfl⟩
 obtain ⟨fr,hfr'⟩:∃ fr,(tlB 46 l2).takeWhile isDig=fr:=⟨_,rfl⟩
 obtain ⟨l4,hl4⟩:∃ l4,(tlB 46 l2).dropWhile isDig=l4:=⟨_,rfl⟩
 rw [hfr'] at hfr q5 ⊢
 rw [hl4] at q6 hL ⊢
 rw [hl3] at hfr' hl4 q4 q5 q6
 have hf0:(mkB fr).toList.isEmpty=false:=by rw [mkB_nil];exact hfr
 have hl3:=hide hl3
 have hfr':=hide hfr'
 have hl4:=hide hl4
 have hw0:(mkB wh).toList.isEmpty=false:=by rw [mkB_nil];cases wh with|nil=>simp at hbw|cons _ _=>rfl
 have hw1:¬ (1:Int)<(mkB wh).size:=by rw [mkB_size];omega
 have hw1':decide ((1:Int)<(mkB wh).size)=false:=decide_eq_false hw1
 have hn:=hide hn
 have hl1:=hide hl1
 have hwh:=hide hwh
 have hl2:=hide hl2
 have hpt':=hide hpt
 clear hbw hpt
 obtain ⟨sB,hsB⟩:∃ sB,mkB l4=sB:=⟨_,rfl⟩
 have hsz:sB.size≤100000:=by rw [←hsB,mkB_size];omega
 have hblB:=hide (show bl sB=l4 by rw [←hsB,bl_mkB])
 have hs0:sB.toList.isEmpty=true:=by rw [←hsB,mkB_nil,hL];rfl
 rw [hL]
 have hsB:=hide hsB
 have hL:=hide hL
 go_enter Tryz.func196, Tryz.ntmps196
 go_wp2_with fail
 refine (cutByte_any s 45 _ _ rfl (by omega)).mono ?_
 rw [hn.out,hl1.out]
 rintro e w1 ⟨rfl,hb1⟩
 have H1:=hide (HT.out.then hb1)
 clear HT hb1
 obtain ⟨c0,c1,c2,c3,c4,f0,f1,f2,f3,f4⟩:=H1.out.b1.cells
 go_wp2_with fail
 refine (cutDigits_any (mkB l1) _ (by rw [mkB_size];omega)).mono ?_
 rw [bl_mkB,hwh.out,hl2.out]
 rintro e w2 ⟨rfl,hb2⟩
 have H2:Hid (Two5 w w2 false ⟨#[]⟩ ⟨#[]⟩ false ⟨#[]⟩ n ⟨#[]⟩ ⟨#[]⟩ false ⟨#[]⟩):=by
  have h:=H1.out
  have h':Two5 w (w1.setCell ⟨w.heap.size + 1,0,none⟩ (.bool n)) false ⟨#[]⟩ ⟨#[]⟩ false ⟨#[]⟩ n ⟨#[]⟩ ⟨#[]⟩ false ⟨#[]⟩:=⟨below_set h.below (by omega),h.b0.other (by omega),h.b1.set0⟩
  exact h'.then hb2
 clear H1 hb2 c0 c1 c2 c3 c4 f0 f1 f2 f3 f4
 obtain ⟨c0,c1,c2,c3,c4,f0,f1,f2,f3,f4⟩:=H2.out.b1.cells
 obtain ⟨d0,d1,d2,d3,d4,g0,g1,g2,g3,g4⟩:=H2.out.b0.cells
 go_wp2_with fail
 refine (cutByte_any (mkB l2) 46 _ _ rfl (by rw [mkB_size];omega)).mono ?_
 rw [bl_mkB,hpt'.out,hl3.out]
 rintro e w3 ⟨rfl,hb3⟩
 have H3:Hid (Two5 w w3 false ⟨#[]⟩ ⟨#[]⟩ false ⟨#[]⟩ n (mkB wh) ⟨#[]⟩ false ⟨#[]⟩):=by
  have h:=H2.out
  have h':Two5 w (w2.setCell ⟨w.heap.size + 1,1,none⟩ (.string (mkB wh))) false ⟨#[]⟩ ⟨#[]⟩ false ⟨#[]⟩ n (mkB wh) ⟨#[]⟩ false ⟨#[]⟩:=⟨below_set h.below (by omega),h.b0.other (by omega),h.b1.set1⟩
  exact h'.then hb3
 clear H2 hb3 c0 c1 c2 c3 c4 f0 f1 f2 f3 f4 d0 d1 d2 d3 d4 g0 g1 g2 g3 g4
 obtain ⟨c0,c1,c2,c3,c4,f0,f1,f2,f3,f4⟩:=H3.out.b1.cells
 obtain ⟨d0,d1,d2,d3,d4,g0,g1,g2,g3,g4⟩:=H3.out.b0.cells
 go_wp2_with fail
 refine (cutDigits_any (mkB l3) _ (by rw [mkB_size];omega)).mono ?_
 rw [bl_mkB,hfr'.out,hl4.out,hsB.out]
 rintro e w4 ⟨rfl,hb4⟩
 have H4:=hide (H3.out.then hb4)
 clear H3 hb4 c0 c1 c2 c3 c4 f0 f1 f2 f3 f4 d0 d1 d2 d3 d4 g0 g1 g2 g3 g4
 obtain ⟨c0,c1,c2,c3,c4,f0,f1,f2,f3,f4⟩:=H4.out.b1.cells
 obtain ⟨d0,d1,d2,d3,d4,g0,g1,g2,g3,g4⟩:=H4.out.b0.cells
 go_wp2
 refine bodyPost_ret (v:=.tuple #[.agg #[.bool n,.string (mkB wh),.string (mkB fr),.bool false,.string ⟨#[]⟩],.bool true]) (by simp [results,Tryz.results196,go_sem,d0,d1,d2,d3,d4]) rfl ⟨rfl,?_⟩
 iterate 6 refine below_set ?_ (by omega)
 exact H4.out.below
set_option maxHeartbeats 4000000 in
theorem split_one_pt_bad (s:ByteArray) (w:World) (hs:s.size≤100000) (hbw:((tlB 45 (bl s)).takeWhile isDig).length=1) (hpt:hdB 46 ((tlB 45 (bl s)).dropWhile isDig)=true) (hfr:((tlB 46 ((tlB 45 (bl s)).dropWhile isDig)).takeWhile isDig).isEmpty=false) (c:UInt8) (r:List UInt8) (hL:((tlB 46 ((tlB 45 (bl s)).dropWhile isDig)).dropWhile isDig)=c :: r) (hc1:c≠101) (hc2:c≠69) :
  Calls Tryz.prog 196 #[.string s] w fun e w'=>e=splitE (splitT (hdB 45 (bl s)) ((tlB 45 (bl s)).takeWhile isDig) ((tlB 46 ((tlB 45 (bl s)).dropWhile isDig)).takeWhile isDig) ((tlB 46 ((tlB 45 (bl s)).dropWhile isDig)).dropWhile isDig))∧Below w.heap.size w w':=by
 have ml:maxLen=2 ^ 63 - 1:=rfl
 have HT:=hide (two5_new w false ⟨#[]⟩ ⟨#[]⟩ false ⟨#[]⟩ false ⟨#[]⟩ ⟨#[]⟩ false ⟨#[]⟩)
 have q1:=tlB_length 45 (bl s)
 rw [bl_length] at q1
 have q2:=takeWhile_len (tlB 45 (bl s))
 have q3:=dropWhile_len (tlB 45 (bl s))
 obtain ⟨n,hn⟩:∃ n,hdB 45 (bl s)=n:=⟨_,rfl⟩
 obtain ⟨l1,hl1⟩:∃ l1,tlB 45 (bl s)=l1:=⟨_,rfl⟩
 rw [hl1] at q1 q2 q3
 obtain ⟨wh,hwh⟩:∃ wh,l1.takeWhile isDig=wh:=⟨_,rfl⟩
 obtain ⟨l2,hl2⟩:∃ l2,l1.dropWhile isDig=l2:=⟨_,rfl⟩
 rw [hwh] at q2
 rw [hl2] at q3
 rw [hl1,hwh] at hbw
 rw [hn,hl1,hwh,hl2]
 rw [hl1,hl2] at hpt hL
 rw [hl1,hl2] at hfr
 have q4:=tlB_length 46 l2
 have q5:=takeWhile_len (tlB 46 l2)
 have q6:=dropWhile_len (tlB 46 l2)
 obtain ⟨l3,hl3⟩:∃ l3,tlB 46 l2=l3:=⟨_,rfl⟩
 obtain ⟨fr,hfr'⟩:∃ fr,(tlB 46 l2).takeWhile isDig=fr:=⟨_,rfl⟩
 obtain ⟨l4,hl4⟩:∃ l4,(tlB 46 l2).dropWhile isDig=l4:=⟨_,rfl⟩
 rw [hfr'] at hfr q5 ⊢
 rw [hl4] at q6 hL ⊢
 rw [hl3] at hfr' hl4 q4 q5 q6
 have hf0:(mkB fr).toList.isEmpty=false:=by rw [mkB_nil];exact hfr
 have hl3:=hide hl3
 have hfr':=hide hfr'
 have hl4:=hide hl4
 have hw0:(mkB wh).toList.isEmpty=false:=by rw [mkB_nil];cases wh with|nil=>simp at hbw|cons _ _=>rfl
 have hw1:¬ (1:Int)<(mkB wh).size:=by rw [mkB_size];omega
 have hw1':decide ((1:Int)<(mkB wh).size)=false:=decide_eq_false hw1
 have hn:=hide hn
 have hl1:=hide hl1
 have hwh:=hide hwh
 have hl2:=hide hl2
 have hpt':=hide hpt
 clear hbw hpt
 obtain ⟨sB,hsB⟩:∃ sB,mkB l4=sB:=⟨_,rfl⟩
 have hsz:sB.size≤100000:=by rw [←hsB,mkB_size];omega
 have hblB:=hide (show bl sB=l4 by rw [←hsB,bl_mkB])
 have hs0:sB.toList.isEmpty=false:=by rw [←hsB,mkB_nil,hL];rfl
 have hs1:0<sB.size:=by rw [←hsB,mkB_size,hL];simp
 have hs1':(0:Int)<sB.size:=by omega
 have hs2:(1:Int)≤sB.size:=by omega
 have hc0:sB[0]=c:=by subst hsB;simp only [hL];exact get0_mkB c r (by rw [mkB_size];simp)
 have hrz:r.length≤100000:=by
  have e':l4.length=r.length + 1:=by rw [hL];rfl
  omega
 have hext:=hide (show sB.extract 1 sB.size=mkB r by rw [drop_mkB,←hsB,bl_mkB,hL];rfl)
 have hT:=hide (show splitE (splitT n wh fr l4)=partsE false false ⟨#[]⟩ ⟨#[]⟩ false ⟨#[]⟩ by rw [hL];unfold splitT;simp [hc1,hc2];rfl)
 have hb1:((sB[0].toNat:Int) != 101)=true:=by
  rw [bne_iff_ne,hc0];intro e;exact hc1 (UInt8.toNat_inj.1 (by have:(101:UInt8).toNat=101:=rfl;omega))
 have hb2:((sB[0].toNat:Int) != 69)=true:=by
  rw [bne_iff_ne,hc0];intro e;exact hc2 (UInt8.toNat_inj.1 (by have:(69:UInt8).toNat=69:=rfl;omega))
 clear hc0 hc1 hc2
 have hsB:=hide hsB
 have hL:=hide hL
 go_enter Tryz.func196, Tryz.ntmps196
 go_wp2_with fail
 refine (cutByte_any s 45 _ _ rfl (by omega)).mono ?_
 rw [hn.out,hl1.out]
 rintro e w1 ⟨rfl,hb1⟩
 have H1:=hide (HT.out.then hb1)
 clear HT hb1
 obtain ⟨c0,c1,c2,c3,c4,f0,f1,f2,f3,f4⟩:=H1.out.b1.cells
 go_wp2_with fail
 refine (cutDigits_any (mkB l1) _ (by rw [mkB_size];omega)).mono ?_
 rw [bl_mkB,hwh.out,hl2.out]
 rintro e w2 ⟨rfl,hb2⟩
 have H2:Hid (Two5 w w2 false ⟨#[]⟩ ⟨#[]⟩ false ⟨#[]⟩ n ⟨#[]⟩ ⟨#[]⟩ false ⟨#[]⟩):=by
  have h:=H1.out
  have h':Two5 w (w1.setCell ⟨w.heap.size + 1,0,none⟩ (.bool n)) false ⟨#[]⟩ ⟨#[]⟩ false ⟨#[]⟩ n ⟨#[]⟩ ⟨#[]⟩ false ⟨#[]⟩:=⟨below_set h.below (by omega),h.b0.other (by omega),h.b1.set0⟩
  exact h'.then hb2
 clear H1 hb2 c0 c1 c2 c3 c4 f0 f1 f2 f3 f4
 obtain ⟨c0,c1,c2,c3,c4,f0,f1,f2,f3,f4⟩:=H2.out.b1.cells
 obtain ⟨d0,d1,d2,d3,d4,g0,g1,g2,g3,g4⟩:=H2.out.b0.cells
 go_wp2_with fail
 refine (cutByte_any (mkB l2) 46 _ _ rfl (by rw [mkB_size];omega)).mono ?_
 rw [bl_mkB,hpt'.out,hl3.out]
 rintro e w3 ⟨rfl,hb3⟩
 have H3:Hid (Two5 w w3 false ⟨#[]⟩ ⟨#[]⟩ false ⟨#[]⟩ n (mkB wh) ⟨#[]⟩ false ⟨#[]⟩):=by
  have h:=H2.out
  have h':Two5 w (w2.setCell ⟨w.heap.size + 1,1,none⟩ (.string (mkB wh))) false ⟨#[]⟩ ⟨#[]⟩ false ⟨#[]⟩ n (mkB wh) ⟨#[]⟩ false ⟨#[]⟩:=⟨below_set h.below (by omega),h.b0.other (by omega),h.b1.set1⟩
  exact h'.then hb3
 clear H2 hb3 c0 c1 c2 c3 c4 f0 f1 f2 f3 f4 d0 d1 d2 d3 d4 g0 g1 g2 g3 g4
 obtain ⟨c0,c1,c2,c3,c4,f0,f1,f2,f3,f4⟩:=H3.out.b1.cells
 obtain ⟨d0,d1,d2,d3,d4,g0,g1,g2,g3,g4⟩:=H3.out.b0.cells
 go_wp2_with fail
 refine (cutDigits_any (mkB l3) _ (by rw [mkB_size];omega)).mono ?_
 rw [bl_mkB,hfr'.out,hl4.out,hsB.out]
 rintro e w4 ⟨rfl,hb4⟩
 have H4:=hide (H3.out.then hb4)
 clear H3 hb4 c0 c1 c2 c3 c4 f0 f1 f2 f3 f4 d0 d1 d2 d3 d4 g0 g1 g2 g3 g4
 obtain ⟨c0,c1,c2,c3,c4,f0,f1,f2,f3,f4⟩:=H4.out.b1.cells
 obtain ⟨d0,d1,d2,d3,d4,g0,g1,g2,g3,g4⟩:=H4.out.b0.cells
 go_wp2
 refine bodyPost_ret (v:=.tuple #[.agg #[.bool false,.string ⟨#[]⟩,.string ⟨#[]⟩,.bool false,.string ⟨#[]⟩],.bool false]) (by simp [results,Tryz.results196,go_sem,d0,d1,d2,d3,d4]) rfl ⟨by rw [hT.out];rfl,?_⟩
 iterate 6 refine below_set ?_ (by omega)
 exact H4.out.below
set_option maxHeartbeats 4000000 in
theorem split_one_pt_p (s:ByteArray) (w:World) (hs:s.size≤100000) (hbw:((tlB 45 (bl s)).takeWhile isDig).length=1) (hpt:hdB 46 ((tlB 45 (bl s)).dropWhile isDig)=true) (hfr:((tlB 46 ((tlB 45 (bl s)).dropWhile isDig)).takeWhile isDig).isEmpty=false) (c:UInt8) (r:List UInt8) (hL:((tlB 46 ((tlB 45 (bl s)).dropWhile isDig)).dropWhile isDig)=c :: r) (hc:c=101∨c=69) :
  Calls Tryz.prog 196 #[.string s] w fun e w'=>e=splitE (splitT (hdB 45 (bl s)) ((tlB 45 (bl s)).takeWhile isDig) ((tlB 46 ((tlB 45 (bl s)).dropWhile isDig)).takeWhile isDig) ((tlB 46 ((tlB 45 (bl s)).dropWhile isDig)).dropWhile isDig))∧Below w.heap.size w w':=by
 have ml:maxLen=2 ^ 63 - 1:=rfl
 have HT:=hide (two5_new w false ⟨#[]⟩ ⟨#[]⟩ false ⟨#[]⟩ false ⟨#[]⟩ ⟨#[]⟩ false ⟨#[]⟩)
 have q1:=tlB_length 45 (bl s)
 rw [bl_length] at q1
 have q2:=takeWhile_len (tlB 45 (bl s))
 have q3:=dropWhile_len (tlB 45 (bl s))
 obtain ⟨n,hn⟩:∃ n,hdB 45 (bl s)=n:=⟨_,rfl⟩
 obtain ⟨l1,hl1⟩:∃ l1,tlB 45 (bl s)=l1:=⟨_,rfl⟩
 rw [hl1] at q1 q2 q3
 obtain ⟨wh,hwh⟩:∃ wh,l1.takeWhile isDig=wh:=⟨_,rfl⟩
 obtain ⟨l2,hl2⟩:∃ l2,l1.dropWhile isDig=l2:=⟨_,rfl⟩
 rw [hwh] at q2
 rw [hl2] at q3
 rw [hl1,hwh] at hbw
 rw [hn,hl1,hwh,hl2]
 rw [hl1,hl2] at hpt hL
 rw [hl1,hl2] at hfr
 have q4:=tlB_length 46 l2
 have q5:=takeWhile_len (tlB 46 l2)
 have q6:=dropWhile_len (tlB 46 l2)
 obtain ⟨l3,hl3⟩:∃ l3,tlB 46 l2=l3:=⟨_,rfl⟩
 obtain ⟨fr,hfr'⟩:∃ fr,(tlB 46 l2).takeWhile isDig=fr:=⟨_,rfl⟩
 obtain ⟨l4,hl4⟩:∃ l4,(tlB 46 l2).dropWhile isDig=l4:=⟨_,rfl⟩
 rw [hfr'] at hfr q5 ⊢
 rw [hl4] at q6 hL ⊢
 rw [hl3] at hfr' hl4 q4 q5 q6
 have hf0:(mkB fr).toList.isEmpty=false:=by rw [mkB_nil];exact hfr
 have hl3:=hide hl3
 have hfr':=hide hfr'
 have hl4:=hide hl4
 have hw0:(mkB wh).toList.isEmpty=false:=by rw [mkB_nil];cases wh with|nil=>simp at hbw|cons _ _=>rfl
 have hw1:¬ (1:Int)<(mkB wh).size:=by rw [mkB_size];omega
 have hw1':decide ((1:Int)<(mkB wh).size)=false:=decide_eq_false hw1
 have hn:=hide hn
 have hl1:=hide hl1
 have hwh:=hide hwh
 have hl2:=hide hl2
 have hpt':=hide hpt
 clear hbw hpt
 obtain ⟨sB,hsB⟩:∃ sB,mkB l4=sB:=⟨_,rfl⟩
 have hsz:sB.size≤100000:=by rw [←hsB,mkB_size];omega
 have hblB:=hide (show bl sB=l4 by rw [←hsB,bl_mkB])
 have hs0:sB.toList.isEmpty=false:=by rw [←hsB,mkB_nil,hL];rfl
 have hs1:0<sB.size:=by rw [←hsB,mkB_size,hL];simp
 have hs1':(0:Int)<sB.size:=by omega
 have hs2:(1:Int)≤sB.size:=by omega
 have hc0:sB[0]=c:=by subst hsB;simp only [hL];exact get0_mkB c r (by rw [mkB_size];simp)
 have hrz:r.length≤100000:=by
  have e':l4.length=r.length + 1:=by rw [hL];rfl
  omega
 have hext:=hide (show sB.extract 1 sB.size=mkB r by rw [drop_mkB,←hsB,bl_mkB,hL];rfl)
 obtain ⟨so,hso⟩:∃ so,spOk r=so:=⟨_,rfl⟩
 have hT:=hide (show splitE (splitT n wh fr l4)=(bif so then partsE true n (mkB wh) (mkB fr) (spPn r) (mkB (spL r)) else partsE false false ⟨#[]⟩ ⟨#[]⟩ false ⟨#[]⟩) by
  rw [hL];unfold splitT;rcases hc with q|q <;> cases so <;> simp [q,hso] <;> rfl)
 have hbb:(((sB[0].toNat:Int) != 101)=false)∨(((sB[0].toNat:Int) != 101)=true∧((sB[0].toNat:Int) != 69)=false):=by
  rcases hc with q|q
  ·rw [hc0,q];exact Or.inl rfl
  ·rw [hc0,q];exact Or.inr ⟨rfl,rfl⟩
 clear hc0 hc
 have hso:=hide hso
 have hsB:=hide hsB
 have hL:=hide hL
 have SP:=hide (fun W=>splitPower_any n (mkB wh) (mkB fr) ⟨#[]⟩ (sB.extract 1 sB.size) W (by rw [hext.out,mkB_size];omega) so (by rw [hext.out,bl_mkB];exact hso.out))
 rcases hbb with hb1|⟨hb1,hb2⟩ <;> cases so
 all_goals
  go_enter Tryz.func196, Tryz.ntmps196
  go_wp2_with fail
  refine (cutByte_any s 45 _ _ rfl (by omega)).mono ?_
  rw [hn.out,hl1.out]
  rintro e w1 ⟨rfl,hb1⟩
  have H1:=hide (HT.out.then hb1)
  clear HT hb1
  obtain ⟨c0,c1,c2,c3,c4,f0,f1,f2,f3,f4⟩:=H1.out.b1.cells
  go_wp2_with fail
  refine (cutDigits_any (mkB l1) _ (by rw [mkB_size];omega)).mono ?_
  rw [bl_mkB,hwh.out,hl2.out]
  rintro e w2 ⟨rfl,hb2⟩
  have H2:Hid (Two5 w w2 false ⟨#[]⟩ ⟨#[]⟩ false ⟨#[]⟩ n ⟨#[]⟩ ⟨#[]⟩ false ⟨#[]⟩):=by
   have h:=H1.out
   have h':Two5 w (w1.setCell ⟨w.heap.size + 1,0,none⟩ (.bool n)) false ⟨#[]⟩ ⟨#[]⟩ false ⟨#[]⟩ n ⟨#[]⟩ ⟨#[]⟩ false ⟨#[]⟩:=⟨below_set h.below (by omega),h.b0.other (by omega),h.b1.set0⟩
   exact h'.then hb2
  clear H1 hb2 c0 c1 c2 c3 c4 f0 f1 f2 f3 f4
  obtain ⟨c0,c1,c2,c3,c4,f0,f1,f2,f3,f4⟩:=H2.out.b1.cells
  obtain ⟨d0,d1,d2,d3,d4,g0,g1,g2,g3,g4⟩:=H2.out.b0.cells
  go_wp2_with fail
  refine (cutByte_any (mkB l2) 46 _ _ rfl (by rw [mkB_size];omega)).mono ?_
  rw [bl_mkB,hpt'.out,hl3.out]
  rintro e w3 ⟨rfl,hb3⟩
  have H3:Hid (Two5 w w3 false ⟨#[]⟩ ⟨#[]⟩ false ⟨#[]⟩ n (mkB wh) ⟨#[]⟩ false ⟨#[]⟩):=by
   have h:=H2.out
   have h':Two5 w (w2.setCell ⟨w.heap.size + 1,1,none⟩ (.string (mkB wh))) false ⟨#[]⟩ ⟨#[]⟩ false ⟨#[]⟩ n (mkB wh) ⟨#[]⟩ false ⟨#[]⟩:=⟨below_set h.below (by omega),h.b0.other (by omega),h.b1.set1⟩
   exact h'.then hb3
  clear H2 hb3 c0 c1 c2 c3 c4 f0 f1 f2 f3 f4 d0 d1 d2 d3 d4 g0 g1 g2 g3 g4
  obtain ⟨c0,c1,c2,c3,c4,f0,f1,f2,f3,f4⟩:=H3.out.b1.cells
  obtain ⟨d0,d1,d2,d3,d4,g0,g1,g2,g3,g4⟩:=H3.out.b0.cells
  go_wp2_with fail
  refine (cutDigits_any (mkB l3) _ (by rw [mkB_size];omega)).mono ?_
  rw [bl_mkB,hfr'.out,hl4.out,hsB.out]
  rintro e w4 ⟨rfl,hb4⟩
  have H4:=hide (H3.out.then hb4)
  clear H3 hb4 c0 c1 c2 c3 c4 f0 f1 f2 f3 f4 d0 d1 d2 d3 d4 g0 g1 g2 g3 g4
  obtain ⟨c0,c1,c2,c3,c4,f0,f1,f2,f3,f4⟩:=H4.out.b1.cells
  obtain ⟨d0,d1,d2,d3,d4,g0,g1,g2,g3,g4⟩:=H4.out.b0.cells
  have HW:Hid (Two5 w (w4.setCell ⟨w.heap.size + 1,2,none⟩ (.string (mkB fr))).drew false ⟨#[]⟩ ⟨#[]⟩ false ⟨#[]⟩ n (mkB wh) (mkB fr) false ⟨#[]⟩):=⟨(below_set H4.out.below (by omega)).drew,H4.out.b0.other (by omega),H4.out.b1.set2⟩
  go_wp2_with fail
  go_region_with (go_at_call 222;refine (SP.out _).mono ?_;rw [hext.out,bl_mkB];rintro e w5 ⟨rfl,hb5⟩;have H5:=hide (HW.out.then hb5);clear hb5;obtain ⟨e0,e1,e2,e3,e4,k0,k1,k2,k3,k4⟩:=H5.out.b0.cells;simp only [partsE,if_true,Bool.false_eq_true,if_false])
  all_goals
   go_wp2
   first|refine bodyPost_ret (v:=.tuple #[.agg #[.bool n,.string (mkB wh),.string (mkB fr),.bool (spPn r),.string (mkB (spL r))],.bool true]) (by simp [results,Tryz.results196,go_sem,e0,e1,e2,e3,e4]) rfl ⟨by rw [hT.out];rfl,?_⟩|refine bodyPost_ret (v:=.tuple #[.agg #[.bool false,.string ⟨#[]⟩,.string ⟨#[]⟩,.bool false,.string ⟨#[]⟩],.bool false]) (by simp [results,Tryz.results196,go_sem,e0,e1,e2,e3,e4]) rfl ⟨by rw [hT.out];rfl,?_⟩
   iterate 5 refine below_set ?_ (by omega)
   exact H5.out.below
set_option maxHeartbeats 4000000 in
theorem split_one_pt_none (s:ByteArray) (w:World) (hs:s.size≤100000) (hbw:((tlB 45 (bl s)).takeWhile isDig).length=1) (hpt:hdB 46 ((tlB 45 (bl s)).dropWhile isDig)=true) (hfr:((tlB 46 ((tlB 45 (bl s)).dropWhile isDig)).takeWhile isDig).isEmpty=true) :
  Calls Tryz.prog 196 #[.string s] w fun e w'=>e=partsE false false ⟨#[]⟩ ⟨#[]⟩ false ⟨#[]⟩∧Below w.heap.size w w':=by
 have ml:maxLen=2 ^ 63 - 1:=rfl
 have HT:=hide (two5_new w false ⟨#[]⟩ ⟨#[]⟩ false ⟨#[]⟩ false ⟨#[]⟩ ⟨#[]⟩ false ⟨#[]⟩)
 have q1:=tlB_length 45 (bl s)
 rw [bl_length] at q1
 have q2:=takeWhile_len (tlB 45 (bl s))
 have q3:=dropWhile_len (tlB 45 (bl s))
 obtain ⟨n,hn⟩:∃ n,hdB 45 (bl s)=n:=⟨_,rfl⟩
 obtain ⟨l1,hl1⟩:∃ l1,tlB 45 (bl s)=l1:=⟨_,rfl⟩
 rw [hl1] at q1 q2 q3
 obtain ⟨wh,hwh⟩:∃ wh,l1.takeWhile isDig=wh:=⟨_,rfl⟩
 obtain ⟨l2,hl2⟩:∃ l2,l1.dropWhile isDig=l2:=⟨_,rfl⟩
 rw [hwh] at q2
 rw [hl2] at q3
 rw [hl1,hwh] at hbw
 rw [hl1,hl2] at hpt hfr
 have q4:=tlB_length 46 l2
 obtain ⟨l3,hl3⟩:∃ l3,tlB 46 l2=l3:=⟨_,rfl⟩
 obtain ⟨fr,hfr'⟩:∃ fr,(tlB 46 l2).takeWhile isDig=fr:=⟨_,rfl⟩
 obtain ⟨l4,hl4⟩:∃ l4,(tlB 46 l2).dropWhile isDig=l4:=⟨_,rfl⟩
 rw [hfr'] at hfr
 rw [hl3] at hfr' hl4 q4
 have hf0:(mkB fr).toList.isEmpty=true:=by rw [mkB_nil];exact hfr
 have hl3:=hide hl3
 have hfr':=hide hfr'
 have hl4:=hide hl4
 have hw0:(mkB wh).toList.isEmpty=false:=by rw [mkB_nil];cases wh with|nil=>simp at hbw|cons _ _=>rfl
 have hw1:¬ (1:Int)<(mkB wh).size:=by rw [mkB_size];omega
 have hw1':decide ((1:Int)<(mkB wh).size)=false:=decide_eq_false hw1
 have hn:=hide hn
 have hl1:=hide hl1
 have hwh:=hide hwh
 have hl2:=hide hl2
 have hpt':=hide hpt
 clear hbw hpt hfr
 go_enter Tryz.func196, Tryz.ntmps196
 go_wp2_with fail
 refine (cutByte_any s 45 _ _ rfl (by omega)).mono ?_
 rw [hn.out,hl1.out]
 rintro e w1 ⟨rfl,hb1⟩
 have H1:=hide (HT.out.then hb1)
 clear HT hb1
 obtain ⟨c0,c1,c2,c3,c4,f0,f1,f2,f3,f4⟩:=H1.out.b1.cells
 go_wp2_with fail
 refine (cutDigits_any (mkB l1) _ (by rw [mkB_size];omega)).mono ?_
 rw [bl_mkB,hwh.out,hl2.out]
 rintro e w2 ⟨rfl,hb2⟩
 have H2:Hid (Two5 w w2 false ⟨#[]⟩ ⟨#[]⟩ false ⟨#[]⟩ n ⟨#[]⟩ ⟨#[]⟩ false ⟨#[]⟩):=by
  have h:=H1.out
  have h':Two5 w (w1.setCell ⟨w.heap.size + 1,0,none⟩ (.bool n)) false ⟨#[]⟩ ⟨#[]⟩ false ⟨#[]⟩ n ⟨#[]⟩ ⟨#[]⟩ false ⟨#[]⟩:=⟨below_set h.below (by omega),h.b0.other (by omega),h.b1.set0⟩
  exact h'.then hb2
 clear H1 hb2 c0 c1 c2 c3 c4 f0 f1 f2 f3 f4
 obtain ⟨c0,c1,c2,c3,c4,f0,f1,f2,f3,f4⟩:=H2.out.b1.cells
 obtain ⟨d0,d1,d2,d3,d4,g0,g1,g2,g3,g4⟩:=H2.out.b0.cells
 go_wp2_with fail
 refine (cutByte_any (mkB l2) 46 _ _ rfl (by rw [mkB_size];omega)).mono ?_
 rw [bl_mkB,hpt'.out,hl3.out]
 rintro e w3 ⟨rfl,hb3⟩
 have H3:Hid (Two5 w w3 false ⟨#[]⟩ ⟨#[]⟩ false ⟨#[]⟩ n (mkB wh) ⟨#[]⟩ false ⟨#[]⟩):=by
  have h:=H2.out
  have h':Two5 w (w2.setCell ⟨w.heap.size + 1,1,none⟩ (.string (mkB wh))) false ⟨#[]⟩ ⟨#[]⟩ false ⟨#[]⟩ n (mkB wh) ⟨#[]⟩ false ⟨#[]⟩:=⟨below_set h.below (by omega),h.b0.other (by omega),h.b1.set1⟩
  exact h'.then hb3
 clear H2 hb3 c0 c1 c2 c3 c4 f0 f1 f2 f3 f4 d0 d1 d2 d3 d4 g0 g1 g2 g3 g4
 obtain ⟨c0,c1,c2,c3,c4,f0,f1,f2,f3,f4⟩:=H3.out.b1.cells
 obtain ⟨d0,d1,d2,d3,d4,g0,g1,g2,g3,g4⟩:=H3.out.b0.cells
 go_wp2_with fail
 refine (cutDigits_any (mkB l3) _ (by rw [mkB_size];omega)).mono ?_
 rw [bl_mkB,hfr'.out,hl4.out]
 rintro e w4 ⟨rfl,hb4⟩
 have H4:=hide (H3.out.then hb4)
 clear H3 hb4 c0 c1 c2 c3 c4 f0 f1 f2 f3 f4 d0 d1 d2 d3 d4 g0 g1 g2 g3 g4
 obtain ⟨c0,c1,c2,c3,c4,f0,f1,f2,f3,f4⟩:=H4.out.b1.cells
 obtain ⟨d0,d1,d2,d3,d4,g0,g1,g2,g3,g4⟩:=H4.out.b0.cells
 go_wp2
 refine bodyPost_ret (v:=.tuple #[.agg #[.bool false,.string ⟨#[]⟩,.string ⟨#[]⟩,.bool false,.string ⟨#[]⟩],.bool false]) (by simp [results,Tryz.results196,go_sem,d0,d1,d2,d3,d4]) rfl ⟨rfl,?_⟩
 iterate 6 refine below_set ?_ (by omega)
 exact H4.out.below
end Go.Proofs.YtgicnopppgnjjaaGreatDoor
namespace Go.Proofs.YtgicnopppgnjjaaGreatDoor
open Go.RowKit
def bcs (l:List UInt8):List Value:=l.map fun c=>Value.int .u8 (c.toNat:Int)
theorem bcs_length (l:List UInt8):(bcs l).length=l.length:=by simp [bcs]
theorem bcs_append (a b:List UInt8):bcs (a++b)=bcs a++bcs b:=by simp [bcs]
theorem strCells_bcs (s:ByteArray):Lib.strCells s=bcs (bl s):=rfl
def Own (W:World) (B:Nat) (v:Value) (l:List UInt8):Prop:=W.ownsRow B 5 1 v l.length (bcs l)
theorem own_nil (W:World) (B:Nat):Own W B (.slice none 0 0) []:=World.ownsRow_nil _ _ _ _
theorem Own.alloc {W:World} {B:Nat} {v:Value} {l:List UInt8} (h:Own W B v l) (o:Obj):Own (W.alloc o) B v l:=World.ownsRow.alloc h o
theorem Own.row {W:World} {B:Nat} {v:Value} {l:List UInt8} (h:Own W B v l):∀ k,v.ownBlock=some k→B≤k:=by
 obtain ⟨_,h⟩:=h
 rcases h with ⟨rfl,_⟩|⟨g,cap,cur,rfl,hg,_⟩
 ·intro k hk;cases hk
 ·intro k hk;cases hk;exact hg
theorem info5:(Tryz.prog.info? 5).map (fun i=>(i.zero,i.size,i.bytes))=some (some (.int .u8 0),1,1):=by kernel_rfl
section
variable {w : World} {ops : Array Oper} {rest : List Oper} {o : Oper} {a : Act} {Q : Exit → Act → World → Prop}
theorem app_bytes (hgd:o.guard=none) (s x:Operand) (ho:o.op=.call {callee:=.builtin .append,args:=#[s,x],argTypes:=#[124,124]})
  (B:Nat) (v:Value) (l:List UInt8) (hs:a.eval s=v) (hown:Own w B v l) (ad:Addr) (m c:Nat) (news:List UInt8) (hx:a.eval x=.slice (some ad) m c) (hm:news.length=m)
  (hnews:∀ j u,(bcs news)[j]?=some u→w.cell? (ad.add j)=some u) (hl:l.length + m≤100000) (hB:B≤w.heap.size)
  (h:∀ v' w',Hid (Own w' B v' (l++news))→Hid (Below B w w')→w.heap.size≤w'.heap.size→wpList Tryz.prog ops Q rest (a.put o.dst v') w'):wpList Tryz.prog ops Q (o :: rest) a w:=by
 obtain ⟨i0,hi,hz0,hz1,hz2⟩:=info_parts info5
 refine wpList_append_own w hgd s x 124 ho B 5 i0 (.int .u8 0) 1 1 Tryz.underlying124 hi hz0 hz1 hz2 rfl (by decide) v l.length (bcs l) hs hown ad m c (bcs news) hx (by rw [bcs_length,hm];simp) hnews ?_ ?_ ?_ hB ?_
 ·intro u hu
  simp only [bcs,List.mem_map] at hu
  obtain ⟨c,_,rfl⟩:=hu
  rfl
 ·unfold maxLen;omega
 ·omega
 ·intro v' w' h1 h2 _
  refine h v' w' ?_ ?_ h2.size
  ·show Own _ _ _ _
   unfold Own
   rw [bcs_append,List.length_append,hm];exact h1
  ·exact (Below.refl B w).grown h2 hB hown.row
theorem app_str (hgd:o.guard=none) (sl x:Operand) (ho:o.op=.call {callee:=.builtin .append,args:=#[sl,x],argTypes:=#[124,9]})
  (B:Nat) (v:Value) (l:List UInt8) (hs:a.eval sl=v) (hown:Own w B v l) (s:ByteArray) (hx:a.eval x=.string s) (hl:l.length + s.size≤100000) (hB:B≤w.heap.size)
  (h:∀ v' w',Hid (Own w' B v' (l++bl s))→Hid (Below B w w')→w.heap.size≤w'.heap.size→wpList Tryz.prog ops Q rest (a.put o.dst v') w'):wpList Tryz.prog ops Q (o :: rest) a w:=by
 obtain ⟨i0,hi,hz0,hz1,hz2⟩:=info_parts info5
 refine Lib.wpList_append_own_string w hgd sl x 124 9 ho B 5 i0 Tryz.underlying124 Tryz.underlying9 hi hz0 hz1 hz2 v l.length (bcs l) hs hown s hx (by unfold maxLen;omega) (by omega) hB ?_
 intro v' w' h1 h2 _
 refine h v' w' ?_ ?_ h2.size
 ·show Own _ _ _ _
  unfold Own
  rw [bcs_append,List.length_append,bl_length,←strCells_bcs];exact h1
 ·exact (Below.refl B w).grown h2 hB hown.row
end
theorem news_one (w:World) (c:UInt8) (T:TypeId):∀ j u,(bcs [c])[j]?=some u→(w.alloc (.cells #[.int .u8 (c.toNat:Int)] T)).cell? ((⟨w.heap.size,0,none⟩:Addr).add j)=some u:=cell_one_new _ _ _
set_option maxHeartbeats 400000 in
theorem appendNoughts_any (B:Nat) (v:Value) (l:List UInt8) (k:Int) (w:World) (hown:Own w B v l) (hB:B≤w.heap.size) (hl:l.length≤1000) (hk:k≤1000) :
  Calls Tryz.prog 209 #[v,.int .i64 k] w fun e w'=>∃ v',e=.returned v'∧Hid (Own w' B v' (l++List.replicate k.toNat 48))∧Hid (Below B w w'):=by
 have hown:=hide hown
 go_enter Tryz.func209, Tryz.ntmps209
 go_wp2
 go_loopw [0,6] (fun b i wr=>∃ j:Nat,j≤k.toNat∧i=.int .i64 j∧Hid (Own wr B b (l++List.replicate j 48))∧Hid (Below B w wr)∧B≤wr.heap.size) (fun _ i _=>k.toNat - (intOf i).toNat)
 case atStart=>exact ⟨0,Nat.zero_le _,rfl,by show Own _ _ _ _;simpa using hown.out,Below.refl _ _,hB⟩
 case round =>
  obtain ⟨j,hj,rfl,ho,hb,hBr⟩:=hrel
  by_cases hlt:(j:Int)<k
  ·have hn:=hide (news_one wr 48 5)
   go_wp2_with (at_builtin;refine app_bytes rfl _ _ rfl B _ (l++List.replicate j 48) rfl (ho.out.alloc _) ⟨wr.heap.size,0,none⟩ 1 1 [48] rfl rfl hn.out (by simp;omega) (by simp;omega) ?_;intro v' w' h1 h2 h3)
   refine ⟨⟨j + 1,by omega,by go_num,?_,?_,?_⟩,by simp [intOf];omega⟩
   ·show Own _ _ _ _
    rw [List.replicate_succ',←List.append_assoc];exact h1.out
   ·exact (hb.out.alloc hBr _).trans h2.out
   ·simp at h3;omega
  ·go_wp2
   go_ret
   have e:j=k.toNat:=by omega
   subst e
   exact ⟨_,rfl,ho.out,hb.out⟩
theorem news_two (w:World) (c d:UInt8) (T:TypeId):∀ j u,(bcs [c,d])[j]?=some u→(w.alloc (.cells #[.int .u8 (c.toNat:Int),.int .u8 (d.toNat:Int)] T)).cell? ((⟨w.heap.size,0,none⟩:Addr).add j)=some u:=cell_two_new _ _ _ _
def pointed (l:List UInt8) (bh:Nat):List UInt8 :=
 if l.length≤bh then 48 :: 46 :: (List.replicate (bh - l.length) 48++l) else l.take (l.length - bh)++46 :: l.drop (l.length - bh)
set_option maxHeartbeats 400000 in
theorem appendPointed_le (B:Nat) (v:Value) (l:List UInt8) (s:ByteArray) (bh:Nat) (w:World) (hown:Own w B v l) (hB:B≤w.heap.size) (hl:l.length≤100) (hs:s.size≤bh) (hbh:bh≤100) :
  Calls Tryz.prog 210 #[v,.string s,.int .i64 bh] w fun e w'=>∃ v',e=.returned v'∧Hid (Own w' B v' (l++pointed (bl s) bh))∧Hid (Below B w w'):=by
 have hown:=hide hown
 have hn:=hide (news_two w 48 46 5)
 have hfin:=hide (show l++pointed (bl s) bh=l++[48,46]++List.replicate (bh - s.size) 48++bl s by
  unfold pointed;rw [bl_length,if_pos hs];simp)
 have hc:((s.size:Int) - (bh:Int)≤0):=by omega
 go_enter Tryz.func210, Tryz.ntmps210
 go_wp2_with (at_builtin;refine app_bytes rfl (.tmp 14) (.tmp 15) rfl B _ l rfl (hown.out.alloc _) ⟨w.heap.size,0,none⟩ 2 2 [48,46] rfl rfl hn.out (by omega) (by simp;omega) ?_;intro v1 w1 h1 h2 h3)
 simp at h3
 go_wp2_with fail
 have hneg:-((s.size:Int) - (bh:Int))=((bh - s.size:Nat):Int):=by omega
 refine (appendNoughts_any B v1 (l++[48,46]) _ w1 h1.out (by omega) (by simp;omega) ?_).mono ?_
 ·omega
 rintro e w2 ⟨v2,rfl,h4,h5⟩
 have h6:B≤w2.heap.size:=by have:=h5.out.size;omega
 have hk:((-((s.size:Int) - (bh:Int))).toNat)=bh - s.size:=by omega
 go_wp2_with (at_builtin;refine app_str rfl (.tmp 21) (.tmp 22) rfl B _ _ rfl h4.out s rfl (by simp;omega) h6 ?_;intro v3 w3 h7 h8 h9)
 go_ret
 refine ⟨_,rfl,?_,?_⟩
 ·show Own _ _ _ _
  rw [hfin.out]
  have:=h7.out
  rw [hk] at this
  exact this
 ·exact (((Below.refl B w).alloc hB _).trans h2.out).trans (h5.out.trans h8.out)
end Go.Proofs.YtgicnopppgnjjaaGreatDoor
namespace Go.Proofs.YtgicnopppgnjjaaGreatDoor
open Go.RowKit
def powered (l:List UInt8) (p:List UInt8):List UInt8:=l.take 1++(if 1<l.length then 46 :: l.drop 1 else [])++101 :: p
end Go.Proofs.YtgicnopppgnjjaaGreatDoor
