/- Merged by program: NvSplit. -/
import Derived.Test.YthodiandebahdaaGreatDoorZq03
namespace Go.Proofs.YthodiandebahdaaGreatDoor
open Go.RowKit
set_option linter.unusedSimpArgs false
set_option linter.unusedVariables false
set_option maxHeartbeats 8000000
def badW (l:List UInt8):Bool:=l.isEmpty || (decide (1<l.length) && l.head?==some 48)
def splitT (n:Bool)(wh fr l4:List UInt8):Option (Bool×List UInt8×List UInt8×Bool×List UInt8) :=
 match l4 with
 | []=>some (n,wh,fr,false,[])
 | c :: r=>if c==101 || c==69 then (if spOk r then some (n,wh,fr,spPn r,spL r) else none) else none
def splitL (l:List UInt8):Option (Bool×List UInt8×List UInt8×Bool×List UInt8) :=
 if badW ((tlB 45 l).takeWhile isDig) then none
 else if hdB 46 ((tlB 45 l).dropWhile isDig) then
  if ((tlB 46 ((tlB 45 l).dropWhile isDig)).takeWhile isDig).isEmpty then none
  else splitT (hdB 45 l) ((tlB 45 l).takeWhile isDig) ((tlB 46 ((tlB 45 l).dropWhile isDig)).takeWhile isDig) ((tlB 46 ((tlB 45 l).dropWhile isDig)).dropWhile isDig)
 else splitT (hdB 45 l) ((tlB 45 l).takeWhile isDig) [] ((tlB 45 l).dropWhile isDig)
def splitE:Option (Bool×List UInt8×List UInt8×Bool×List UInt8)→Ending
 | none=>partsE false false ⟨#[]⟩ ⟨#[]⟩ false ⟨#[]⟩
 | some (n,wh,fr,pn,pw)=>partsE true n (mkB wh) (mkB fr) pn (mkB pw)
theorem takeWhile_len (l:List UInt8):(l.takeWhile isDig).length≤l.length:=(List.takeWhile_prefix _).length_le
theorem dropWhile_len (l:List UInt8):(l.dropWhile isDig).length≤l.length:=(List.dropWhile_suffix _).length_le
theorem get0_mkB (c:UInt8)(r:List UInt8)(h:0<(mkB (c :: r)).size):(mkB (c :: r))[0]=c:=by
 rw [←bl_get (mkB (c :: r)) 0 h]
 simp only [bl_mkB,List.getElem_cons_zero]
theorem split_empty (s:ByteArray)(w:World)(hs:s.size≤100000)(hbw:((tlB 45 (bl s)).takeWhile isDig).isEmpty=true) :
  Calls Tryz.prog 175 #[.string s] w fun e w'=>e=partsE false false ⟨#[]⟩ ⟨#[]⟩ false ⟨#[]⟩∧Below w.heap.size w w':=by
 have ml:maxLen=2 ^ 63 - 1:=rfl
 have HT:=hide (two5_new w false ⟨#[]⟩ ⟨#[]⟩ false ⟨#[]⟩ false ⟨#[]⟩ ⟨#[]⟩ false ⟨#[]⟩)
 have q1:=tlB_length 45 (bl s)
 rw [bl_length] at q1
 have q2:=takeWhile_len (tlB 45 (bl s))
 have q3:=dropWhile_len (tlB 45 (bl s))
 obtain ⟨n,hn⟩:∃ n,hdB 45 (bl s)=n:=⟨_,rfl⟩
 obtain ⟨l1,hl1⟩:∃ l1,tlB 45 (bl s)=l1:=⟨_,rfl⟩
 rw [hl1] at q1 q2 q3
 obtain ⟨wh,hwh⟩:∃ wh,l1.takeWhile isDig=wh:=⟨_,rfl⟩
 obtain ⟨l2,hl2⟩:∃ l2,l1.dropWhile isDig=l2:=⟨_,rfl⟩
 rw [hwh] at q2
 rw [hl2] at q3
 rw [hl1,hwh] at hbw
 have hw0:(mkB wh).toList.isEmpty=true:=by rw [mkB_nil];exact hbw
 have hn:=hide hn
 have hl1:=hide hl1
 have hwh:=hide hwh
 have hl2:=hide hl2
 clear hbw
 go_enter Tryz.func175, Tryz.ntmps175
 go_wp2_with fail
 refine (cutByte_any s 45 _ _ rfl (by omega)).mono ?_
 rw [hn.out,hl1.out]
 rintro e w1 ⟨rfl,hb1⟩
 have H1:=hide (HT.out.then hb1)
 clear HT hb1
 obtain ⟨c0,c1,c2,c3,c4,f0,f1,f2,f3,f4⟩:=H1.out.b1.cells
 go_wp2_with fail
 refine (cutDigits_any (mkB l1) _ (by rw [mkB_size];omega)).mono ?_
 rw [bl_mkB,hwh.out,hl2.out]
 rintro e w2 ⟨rfl,hb2⟩
 have H2:Hid (Two5 w w2 false ⟨#[]⟩ ⟨#[]⟩ false ⟨#[]⟩ n ⟨#[]⟩ ⟨#[]⟩ false ⟨#[]⟩):=by
  have h:=H1.out
  have h':Two5 w (w1.setCell ⟨w.heap.size+1,0,none⟩ (.bool n)) false ⟨#[]⟩ ⟨#[]⟩ false ⟨#[]⟩ n ⟨#[]⟩ ⟨#[]⟩ false ⟨#[]⟩:=⟨below_set h.below (by omega),h.b0.other (by omega),h.b1.set0⟩
  exact h'.then hb2
 clear H1 hb2 c0 c1 c2 c3 c4 f0 f1 f2 f3 f4
 obtain ⟨c0,c1,c2,c3,c4,f0,f1,f2,f3,f4⟩:=H2.out.b1.cells
 obtain ⟨d0,d1,d2,d3,d4,g0,g1,g2,g3,g4⟩:=H2.out.b0.cells
 go_wp2
 refine bodyPost_ret (v:=.tuple #[.agg #[.bool false,.string ⟨#[]⟩,.string ⟨#[]⟩,.bool false,.string ⟨#[]⟩],.bool false]) (by simp [results,Tryz.results175,go_sem,d0,d1,d2,d3,d4]) rfl ⟨rfl,?_⟩
 iterate 6 refine below_set ?_ (by omega)
 exact H2.out.below
theorem split_lead (s:ByteArray)(w:World)(hs:s.size≤100000)(hbw:1<((tlB 45 (bl s)).takeWhile isDig).length∧((tlB 45 (bl s)).takeWhile isDig).head?=some 48) :
  Calls Tryz.prog 175 #[.string s] w fun e w'=>e=partsE false false ⟨#[]⟩ ⟨#[]⟩ false ⟨#[]⟩∧Below w.heap.size w w':=by
 have ml:maxLen=2 ^ 63 - 1:=rfl
 have HT:=hide (two5_new w false ⟨#[]⟩ ⟨#[]⟩ false ⟨#[]⟩ false ⟨#[]⟩ ⟨#[]⟩ false ⟨#[]⟩)
 have q1:=tlB_length 45 (bl s)
 rw [bl_length] at q1
 have q2:=takeWhile_len (tlB 45 (bl s))
 have q3:=dropWhile_len (tlB 45 (bl s))
 obtain ⟨n,hn⟩:∃ n,hdB 45 (bl s)=n:=⟨_,rfl⟩
 obtain ⟨l1,hl1⟩:∃ l1,tlB 45 (bl s)=l1:=⟨_,rfl⟩
 rw [hl1] at q1 q2 q3
 obtain ⟨wh,hwh⟩:∃ wh,l1.takeWhile isDig=wh:=⟨_,rfl⟩
 obtain ⟨l2,hl2⟩:∃ l2,l1.dropWhile isDig=l2:=⟨_,rfl⟩
 rw [hwh] at q2
 rw [hl2] at q3
 rw [hl1,hwh] at hbw
 have hw0:(mkB wh).toList.isEmpty=false:=by rw [mkB_nil];cases wh with|nil=>simp at hbw|cons _ _=>rfl
 have hw1:(1:Int)<(mkB wh).size:=by rw [mkB_size];omega
 have hw1':0<(mkB wh).size:=by rw [mkB_size];omega
 have hw2:(((mkB wh)[0].toNat:Int)==48)=true:=by
  have:=head_bl (mkB wh) hw1'
  rw [bl_mkB,hbw.2] at this
  rw [←Option.some.inj this];rfl
 have hn:=hide hn
 have hl1:=hide hl1
 have hwh:=hide hwh
 have hl2:=hide hl2
 clear hbw
 go_enter Tryz.func175, Tryz.ntmps175
 go_wp2_with fail
 refine (cutByte_any s 45 _ _ rfl (by omega)).mono ?_
 rw [hn.out,hl1.out]
 rintro e w1 ⟨rfl,hb1⟩
 have H1:=hide (HT.out.then hb1)
 clear HT hb1
 obtain ⟨c0,c1,c2,c3,c4,f0,f1,f2,f3,f4⟩:=H1.out.b1.cells
 go_wp2_with fail
 refine (cutDigits_any (mkB l1) _ (by rw [mkB_size];omega)).mono ?_
 rw [bl_mkB,hwh.out,hl2.out]
 rintro e w2 ⟨rfl,hb2⟩
 have H2:Hid (Two5 w w2 false ⟨#[]⟩ ⟨#[]⟩ false ⟨#[]⟩ n ⟨#[]⟩ ⟨#[]⟩ false ⟨#[]⟩):=by
  have h:=H1.out
  have h':Two5 w (w1.setCell ⟨w.heap.size+1,0,none⟩ (.bool n)) false ⟨#[]⟩ ⟨#[]⟩ false ⟨#[]⟩ n ⟨#[]⟩ ⟨#[]⟩ false ⟨#[]⟩:=⟨below_set h.below (by omega),h.b0.other (by omega),h.b1.set0⟩
  exact h'.then hb2
 clear H1 hb2 c0 c1 c2 c3 c4 f0 f1 f2 f3 f4
 obtain ⟨c0,c1,c2,c3,c4,f0,f1,f2,f3,f4⟩:=H2.out.b1.cells
 obtain ⟨d0,d1,d2,d3,d4,g0,g1,g2,g3,g4⟩:=H2.out.b0.cells
 go_wp2
 refine bodyPost_ret (v:=.tuple #[.agg #[.bool false,.string ⟨#[]⟩,.string ⟨#[]⟩,.bool false,.string ⟨#[]⟩],.bool false]) (by simp [results,Tryz.results175,go_sem,d0,d1,d2,d3,d4]) rfl ⟨rfl,?_⟩
 iterate 6 refine below_set ?_ (by omega)
 exact H2.out.below
end Go.Proofs.YthodiandebahdaaGreatDoor
