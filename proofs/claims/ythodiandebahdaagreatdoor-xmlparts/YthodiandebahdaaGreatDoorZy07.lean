/- Merged by program: NzParse, NzParseA, NzParseB, NzParseC, PaParse, XcReq. -/
import Derived.Test.YthodiandebahdaaGreatDoorZy06
namespace Go.Proofs.YthodiandebahdaaGreatDoor
open Go.RowKit
set_option linter.unusedSimpArgs false
set_option linter.unusedVariables false
set_option maxHeartbeats 8000000
def dlu (l:List UInt8):List Nat:=l.map fun c=>c.toNat - 48
theorem dlu_mkB (l:List UInt8):dg (mkB l)=dlu l:=by unfold dg dlu;rw [bl_mkB]
def parseF (l:List UInt8):Bool×ByteArray×Int×Int :=
 match splitL l with
 | none=>(false,⟨#[]⟩,0,10)
 | some (n,wh,fr,pn,pw)=>if 512<l.length then (false,⟨#[]⟩,0,2) else formF n (dlu wh++dlu fr) (powF pn pw - fr.length)
theorem layR_nil (p:List Nat) (o:Nat):layR p o []=p:=by unfold layR;simp
theorem layR_two (a b:List Nat) (m:Nat) (h:a.length + b.length≤m) (i:Nat) (hi:i<(a++b).length) (hi':i<(layR (layR (List.replicate m 0) 0 a) a.length b).length):(layR (layR (List.replicate m 0) 0 a) a.length b)[i]=(a++b)[i]:=by
 have e:layR (layR (List.replicate m 0) 0 a) a.length b=a++b++List.replicate (m - a.length - b.length) 0:=by
  unfold layR
  simp [List.take_append,List.drop_append]
 simp only [e]
 rw [List.getElem_append_left hi]
theorem dlu_dgs (l:List UInt8) (h:allD l=true):Dgs (dlu l):=by
 intro d hd
 simp only [dlu,List.mem_map] at hd
 obtain ⟨c,hc,rfl⟩:=hd
 have:=(isDig_iff c).1 ((List.all_eq_true.1 h) c hc)
 omega
structure PSt (w:World) (b:Nat) (n:Bool) (wh fr:ByteArray) (pn:Bool) (pw:ByteArray) (d:List Nat) (W:World):Prop where
 below:Below w.heap.size w W
 hp:PBox W b n wh fr pn pw
 hb:Box W w.heap.size false ⟨#[]⟩ 0
 hz:b + 1<W.heap.size
 hc:∀ i (h:i<d.length),W.cell? ⟨b + 1,0 + i,none⟩=some (.int .u8 (d[i]:Nat))
theorem PSt.drew {w:World} {b:Nat} {n:Bool} {wh fr:ByteArray} {pn:Bool} {pw:ByteArray} {d:List Nat} {W:World} (h:PSt w b n wh fr pn pw d W):PSt w b n wh fr pn pw d W.drew:=⟨h.below.drew,h.hp,h.hb,h.hz,h.hc⟩
theorem PSt.then {w:World} {b:Nat} {n:Bool} {wh fr:ByteArray} {pn:Bool} {pw:ByteArray} {d:List Nat} {W W1:World} (h:PSt w b n wh fr pn pw d W) (hb:Below W.heap.size W W1):PSt w b n wh fr pn pw d W1 :=
 ⟨below_then h.below hb,h.hp.below hb h.hp.lt,h.hb.below hb h.hb.lt,Nat.lt_of_lt_of_le h.hz hb.size,fun i hi=>(hb.cell (p:=⟨b + 1,0 + i,none⟩) h.hz).trans (h.hc i hi)⟩
theorem powF_bounds (pn:Bool) (l:List UInt8) (h:allD l=true):-9129≤powF pn l∧powF pn l≤9129:=by
 have:=pwA_le l 0 h (by omega)
 unfold powF
 split <;> omega
theorem parse_none (s:ByteArray) (w:World) (hs:s.size≤100000) (h:splitL (bl s)=none) :
  Calls Tryz.prog 149 #[.string s] w fun e w'=>e=retF (false,⟨#[]⟩,0,10)∧Below w.heap.size w w':=by
 have hB:=hide (box_new w false ⟨#[]⟩ 0)
 have h:=hide h
 go_enter Tryz.func149, Tryz.ntmps149
 go_wp2_with fail
 refine (split_any s _ hs).mono ?_
 rw [h.out]
 rintro e w1 ⟨rfl,hb1⟩
 have hB1:=hide (hB.out.below hb1 (by simp))
 have hl:=hB1.out.lt
 obtain ⟨c0,c1,c2,f0,f1,f2⟩:=hB1.out.cells
 have hb:=hide (below_alloc hb1)
 clear hb1
 simp only [splitE,partsE,if_true,Bool.false_eq_true,if_false]
 go_wp2
 refine bodyPost_ret (v:=.tuple #[.agg #[.bool false,.string ⟨#[]⟩,.int .i64 0],.int .i64 10]) (by simp [results,Tryz.results149,go_sem,c0,c1,c2,hl]) rfl ⟨rfl,?_⟩
 refine below_al ?_
 iterate 3 refine below_set ?_ (by omega)
 exact hb.out
theorem parse_long (s:ByteArray) (w:World) (hs:s.size≤100000) (n:Bool) (wh fr:List UInt8) (pn:Bool) (pw:List UInt8) (h:splitL (bl s)=some (n,wh,fr,pn,pw)) (hlong:512<s.size) :
  Calls Tryz.prog 149 #[.string s] w fun e w'=>e=retF (false,⟨#[]⟩,0,2)∧Below w.heap.size w w':=by
 have hB:=hide (box_new w false ⟨#[]⟩ 0)
 have h:=hide h
 go_enter Tryz.func149, Tryz.ntmps149
 go_wp2_with fail
 refine (split_any s _ hs).mono ?_
 rw [h.out]
 rintro e w1 ⟨rfl,hb1⟩
 have hB1:=hide (hB.out.below hb1 (by simp))
 have hl:=hB1.out.lt
 obtain ⟨c0,c1,c2,f0,f1,f2⟩:=hB1.out.cells
 have hb:=hide (below_alloc hb1)
 clear hb1
 simp only [splitE,partsE,if_true,Bool.false_eq_true,if_false]
 go_wp2
 refine bodyPost_ret (v:=.tuple #[.agg #[.bool false,.string ⟨#[]⟩,.int .i64 0],.int .i64 2]) (by simp [results,Tryz.results149,go_sem,c0,c1,c2,hl]) rfl ⟨rfl,?_⟩
 refine below_al ?_
 iterate 3 refine below_set ?_ (by omega)
 exact hb.out
set_option maxRecDepth 1000000 in
theorem parse_some_a (s:ByteArray) (w:World) (hs:s.size≤512) (n:Bool) (wh fr:List UInt8) (pn:Bool) (pw:List UInt8) (h:splitL (bl s)=some (n,wh,fr,pn,pw)) (hfr:fr.length=0) (hw5:wh.length<512) :
  Calls Tryz.prog 149 #[.string s] w fun e w'=>e=retF (formF n (dlu wh++dlu fr) (powF pn pw - fr.length))∧Below w.heap.size w w':=by
 obtain ⟨a1,a2,a3,a4,a5,a6⟩:=splitL_facts h
 rw [bl_length] at a5 a6
 have hB:=hide (box_new w false ⟨#[]⟩ 0)
 have h:=hide h
 have a1:=hide a1
 have a2:=hide a2
 have a3:=hide a3
 go_enter Tryz.func149, Tryz.ntmps149
 go_wp2_with fail
 refine (split_any s _ (by omega)).mono ?_
 rw [h.out]
 rintro e w1 ⟨rfl,hb1⟩
 have hB1:=hide (hB.out.below hb1 (by simp))
 have hl:=hB1.out.lt
 have hb:=hide (below_alloc hb1)
 clear hb1
 simp only [splitE,partsE,if_true,Bool.false_eq_true,if_false]
 go_wp2_with fail
 obtain ⟨W2,hW2⟩:∃ W2,(w1.alloc (.cells #[.bool n,.string (mkB wh),.string (mkB fr),.bool pn,.string (mkB pw)] 194)).alloc (.cells Tryz.zeroCells197 197)=W2:=⟨_,rfl⟩
 rw [hW2]
 have hA2:Hid (Arr W2 (w1.heap.size + 1) 197 (List.replicate 512 0)):=by
  show Arr _ _ _ _
  rw [←hW2,show w1.heap.size + 1=(w1.alloc (.cells #[.bool n,.string (mkB wh),.string (mkB fr),.bool pn,.string (mkB pw)] 194)).heap.size from by simp]
  exact arr_new _ _ 512 _ (by kernel_rfl)
 have hP2:Hid (PBox W2 w1.heap.size n (mkB wh) (mkB fr) pn (mkB pw)):=by
  show PBox _ _ _ _ _ _ _
  rw [←hW2];exact (pbox_new w1 n (mkB wh) (mkB fr) pn (mkB pw)).alloc _
 have hB2:Hid (Box W2 w.heap.size false ⟨#[]⟩ 0):=by
  show Box _ _ _ _ _
  rw [←hW2];exact (hB1.out.alloc _).alloc _
 have hb2:Hid (Below w.heap.size w W2):=by
  show Below _ _ _
  rw [←hW2];exact below_al (below_al hb.out)
 clear hW2 hb hB1 hB
 obtain ⟨p0,p1,p2,p3,p4,r0,r1,r2,r3,r4⟩:=hP2.out.cells
 have hdlw:=hide (dlu_mkB wh)
 have hdlf:=hide (dlu_mkB fr)
 have hlw:(dlu wh).length=wh.length:=by simp [dlu]
 have hlf:(dlu fr).length=fr.length:=by simp [dlu]
 have hsw:=mkB_size wh
 have hsf:=mkB_size fr
 go_region_with (go_at_call 176;refine (lay_any (w1.heap.size + 1) 0 512 512 197 (List.replicate 512 0) (mkB wh) W2.drew hA2.out.drew (by omega) (by simp) (by rw [bl_mkB];exact a1.out) (by simp)).mono ?_;rw [hsw,hdlw.out];rintro e W3 ⟨rfl,hA3,hO3⟩;have hA3:=hide hA3;have hO3:=hide hO3)
 have hP3:=hide (hP2.out.drew.only hO3.out (by omega))
 have hB3:Hid (Box W3 w.heap.size false ⟨#[]⟩ 0):=Box.only (W:=W2.drew) hB2.out hO3.out (by omega)
 have hb3:Hid (Below w.heap.size w W3):=hb2.out.drew.trans (hO3.out.below (by omega))
 have hz3:w1.heap.size + 1<W3.heap.size:=hA3.out.lt
 clear p0 p1 p2 p3 p4 r0 r1 r2 r3 r4 hA2 hP2 hB2 hb2 hO3
 obtain ⟨p0,p1,p2,p3,p4,r0,r1,r2,r3,r4⟩:=hP3.out.cells
 have hdgs:Hid (Dgs (dlu wh++dlu fr)):=by
  intro d hd
  rcases List.mem_append.1 hd with h|h
  ·exact dlu_dgs wh a1.out d h
  ·exact dlu_dgs fr a2.out d h
 have hwi:(wh.length:Int)≤512:=by omega
 have hwi0:(0:Int)≤(wh.length:Int):=by omega
 have hwr0:IntKind.i64.wrap (wh.length:Int)=wh.length:=by rw [IntKind.wrap_i64];omega
 have hwr1:IntKind.i64.wrap ((wh.length:Int) + (fr.length:Int))=(wh.length:Int) + (fr.length:Int):=by rw [IntKind.wrap_i64];omega
 have hwr2:IntKind.i64.wrap (powF pn pw - (fr.length:Int))=powF pn pw - (fr.length:Int):=by
  have:=powF_bounds pn pw a3.out
  rw [IntKind.wrap_i64];omega
 obtain ⟨q3,hq3⟩:∃ q3,layR (List.replicate 512 0) 0 (dlu wh)=q3:=⟨_,rfl⟩
 rw [hq3] at hA3
 have hq3l:q3.length=512:=by rw [←hq3,layR_len _ _ _ (by rw [List.length_replicate];omega),List.length_replicate]
 have hq3:=hide hq3
 have hq3l:=hide hq3l
 have hfr0:=hide hfr
 clear hfr
 have hwl:(wh.length:Int)<512:=by omega
 have hwl':¬ 512 - wh.length=0:=by omega
 go_wp2_with fail
 go_region_with (go_at_call 176;go_fit (lay_none _ (mkB fr) W3.drew (by rw [hsf];exact hfr0.out));rintro e W4 ⟨rfl,rfl⟩)
 have hA4:Hid (Arr W3.drew (w1.heap.size + 1) 197 (layR q3 wh.length (dlu fr))):=by
  show Arr _ _ _ _
  rw [List.eq_nil_of_length_eq_zero (hlf.trans hfr0.out),layR_nil];exact hA3.out.drew
 have hP4:=hide hP3.out.drew
 have hB4:Hid (Box W3.drew w.heap.size false ⟨#[]⟩ 0):=hB3.out
 have hb4:=hide hb3.out.drew
 have hz4:w1.heap.size + 1<W3.drew.heap.size:=hA4.out.lt
 clear p0 p1 p2 p3 p4 r0 r1 r2 r3 r4 hA3 hP3 hB3 hb3
 obtain ⟨p0,p1,p2,p3,p4,r0,r1,r2,r3,r4⟩:=hP4.out.cells
 obtain ⟨hpw1,hpw2⟩:=powF_bounds pn pw a3.out
 have hcells:Hid (∀ i (h:i<(dlu wh++dlu fr).length),W3.drew.cell? ⟨w1.heap.size + 1,0 + i,none⟩=some (.int .u8 ((dlu wh++dlu fr)[i]:Nat))):=by
  show ∀ i (h:i<(dlu wh++dlu fr).length),_
  intro i hi
  have hi2:i<wh.length + fr.length:=by rw [List.length_append,hlw,hlf] at hi;exact hi
  have hlen:(layR q3 wh.length (dlu fr)).length=512:=by rw [layR_len _ _ _ (by have:=hq3l.out;omega)];exact hq3l.out
  rw [Nat.zero_add,hA4.out.cell i (by omega)]
  have e:=layR_two (dlu wh) (dlu fr) 512 (by omega) i hi (by rw [hlw,hq3.out];omega)
  simp only [hlw,hq3.out] at e
  rw [e]
 go_wp2_with fail
 have S4:Hid (PSt w w1.heap.size n (mkB wh) (mkB fr) pn (mkB pw) (dlu wh++dlu fr) W3.drew):=⟨hb4.out,hP4.out,hB4.out,hz4,hcells.out⟩
 have hpl:(mkB pw).size≤100000:=by rw [mkB_size];omega
 have hpb:=hide (bl_mkB pw)
 have hpa:=hide (show allD (bl (mkB pw))=true by rw [bl_mkB];exact a3.out)
 have hdl:=hide (show (dlu wh++dlu fr).length=wh.length by rw [List.length_append,hlw,hlf];have:=hfr0.out;omega)
 go_region_with (first|(go_at_call 178;go_fit (powerOf_any n (mkB wh) (mkB fr) pn (mkB pw) W3.drew.drew hpl hpa.out);rw [hpb.out];rintro e W5 ⟨rfl,hb5⟩;have S5:=hide (S4.out.drew.then hb5);clear hb5;obtain ⟨u0,u1,u2,u3,u4,s0,s1,s2,s3,s4⟩:=S5.out.hp.cells)|(go_at_call 177;go_fit (form_any n (w1.heap.size + 1) 0 wh.length 512 (dlu wh++dlu fr) (powF pn pw - fr.length) W5 hdl.out (by omega) (by omega) (by omega) (by omega) S5.out.hz S5.out.hc (by omega) (by omega) hdgs.out);rintro e W6 ⟨rfl,hb6⟩;obtain ⟨fb,fs,fx,fe,hfe⟩:∃ fb fs fx fe,formF n (dlu wh++dlu fr) (powF pn pw - fr.length)=(fb,fs,fx,fe):=⟨_,_,_,_,rfl⟩;rw [hfe];have hfe:=hide hfe;have S6:=hide (S5.out.then hb6);clear hb6;obtain ⟨d20,d21,d22,g20,g21,g22⟩:=S6.out.hb.cells;simp only [retF]))
 all_goals
  go_wp2
  refine bodyPost_ret (v:=.tuple #[.agg #[.bool fb,.string fs,.int .i64 fx],.int .i64 fe]) (by simp [results,Tryz.results149,go_sem,d20,d21,d22]) rfl ⟨by rw [hfe.out];rfl,?_⟩
  exact ((S6.out.below.setCell (Nat.le_refl _) _).setCell (Nat.le_refl _) _).setCell (Nat.le_refl _) _
set_option maxRecDepth 1000000 in
theorem parse_some_b (s:ByteArray) (w:World) (hs:s.size≤512) (n:Bool) (wh fr:List UInt8) (pn:Bool) (pw:List UInt8) (h:splitL (bl s)=some (n,wh,fr,pn,pw)) (hfr:fr.length=0) (hw5:¬ wh.length<512) :
  Calls Tryz.prog 149 #[.string s] w fun e w'=>e=retF (formF n (dlu wh++dlu fr) (powF pn pw - fr.length))∧Below w.heap.size w w':=by
 obtain ⟨a1,a2,a3,a4,a5,a6⟩:=splitL_facts h
 rw [bl_length] at a5 a6
 have hB:=hide (box_new w false ⟨#[]⟩ 0)
 have h:=hide h
 have a1:=hide a1
 have a2:=hide a2
 have a3:=hide a3
 go_enter Tryz.func149, Tryz.ntmps149
 go_wp2_with fail
 refine (split_any s _ (by omega)).mono ?_
 rw [h.out]
 rintro e w1 ⟨rfl,hb1⟩
 have hB1:=hide (hB.out.below hb1 (by simp))
 have hl:=hB1.out.lt
 have hb:=hide (below_alloc hb1)
 clear hb1
 simp only [splitE,partsE,if_true,Bool.false_eq_true,if_false]
 go_wp2_with fail
 obtain ⟨W2,hW2⟩:∃ W2,(w1.alloc (.cells #[.bool n,.string (mkB wh),.string (mkB fr),.bool pn,.string (mkB pw)] 194)).alloc (.cells Tryz.zeroCells197 197)=W2:=⟨_,rfl⟩
 rw [hW2]
 have hA2:Hid (Arr W2 (w1.heap.size + 1) 197 (List.replicate 512 0)):=by
  show Arr _ _ _ _
  rw [←hW2,show w1.heap.size + 1=(w1.alloc (.cells #[.bool n,.string (mkB wh),.string (mkB fr),.bool pn,.string (mkB pw)] 194)).heap.size from by simp]
  exact arr_new _ _ 512 _ (by kernel_rfl)
 have hP2:Hid (PBox W2 w1.heap.size n (mkB wh) (mkB fr) pn (mkB pw)):=by
  show PBox _ _ _ _ _ _ _
  rw [←hW2];exact (pbox_new w1 n (mkB wh) (mkB fr) pn (mkB pw)).alloc _
 have hB2:Hid (Box W2 w.heap.size false ⟨#[]⟩ 0):=by
  show Box _ _ _ _ _
  rw [←hW2];exact (hB1.out.alloc _).alloc _
 have hb2:Hid (Below w.heap.size w W2):=by
  show Below _ _ _
  rw [←hW2];exact below_al (below_al hb.out)
 clear hW2 hb hB1 hB
 obtain ⟨p0,p1,p2,p3,p4,r0,r1,r2,r3,r4⟩:=hP2.out.cells
 have hdlw:=hide (dlu_mkB wh)
 have hdlf:=hide (dlu_mkB fr)
 have hlw:(dlu wh).length=wh.length:=by simp [dlu]
 have hlf:(dlu fr).length=fr.length:=by simp [dlu]
 have hsw:=mkB_size wh
 have hsf:=mkB_size fr
 go_region_with (go_at_call 176;refine (lay_any (w1.heap.size + 1) 0 512 512 197 (List.replicate 512 0) (mkB wh) W2.drew hA2.out.drew (by omega) (by simp) (by rw [bl_mkB];exact a1.out) (by simp)).mono ?_;rw [hsw,hdlw.out];rintro e W3 ⟨rfl,hA3,hO3⟩;have hA3:=hide hA3;have hO3:=hide hO3)
 have hP3:=hide (hP2.out.drew.only hO3.out (by omega))
 have hB3:Hid (Box W3 w.heap.size false ⟨#[]⟩ 0):=Box.only (W:=W2.drew) hB2.out hO3.out (by omega)
 have hb3:Hid (Below w.heap.size w W3):=hb2.out.drew.trans (hO3.out.below (by omega))
 have hz3:w1.heap.size + 1<W3.heap.size:=hA3.out.lt
 clear p0 p1 p2 p3 p4 r0 r1 r2 r3 r4 hA2 hP2 hB2 hb2 hO3
 obtain ⟨p0,p1,p2,p3,p4,r0,r1,r2,r3,r4⟩:=hP3.out.cells
 have hdgs:Hid (Dgs (dlu wh++dlu fr)):=by
  intro d hd
  rcases List.mem_append.1 hd with h|h
  ·exact dlu_dgs wh a1.out d h
  ·exact dlu_dgs fr a2.out d h
 have hwi:(wh.length:Int)≤512:=by omega
 have hwi0:(0:Int)≤(wh.length:Int):=by omega
 have hwr0:IntKind.i64.wrap (wh.length:Int)=wh.length:=by rw [IntKind.wrap_i64];omega
 have hwr1:IntKind.i64.wrap ((wh.length:Int) + (fr.length:Int))=(wh.length:Int) + (fr.length:Int):=by rw [IntKind.wrap_i64];omega
 have hwr2:IntKind.i64.wrap (powF pn pw - (fr.length:Int))=powF pn pw - (fr.length:Int):=by
  have:=powF_bounds pn pw a3.out
  rw [IntKind.wrap_i64];omega
 obtain ⟨q3,hq3⟩:∃ q3,layR (List.replicate 512 0) 0 (dlu wh)=q3:=⟨_,rfl⟩
 rw [hq3] at hA3
 have hq3l:q3.length=512:=by rw [←hq3,layR_len _ _ _ (by rw [List.length_replicate];omega),List.length_replicate]
 have hq3:=hide hq3
 have hq3l:=hide hq3l
 have hfr0:=hide hfr
 clear hfr
 have hwl':512 - wh.length=0:=by omega
 clear hw5
 go_wp2_with fail
 go_region_with (go_at_call 176;go_fit (lay_none _ (mkB fr) W3.drew (by rw [hsf];exact hfr0.out));rintro e W4 ⟨rfl,rfl⟩)
 have hA4:Hid (Arr W3.drew (w1.heap.size + 1) 197 (layR q3 wh.length (dlu fr))):=by
  show Arr _ _ _ _
  rw [List.eq_nil_of_length_eq_zero (hlf.trans hfr0.out),layR_nil];exact hA3.out.drew
 have hP4:=hide hP3.out.drew
 have hB4:Hid (Box W3.drew w.heap.size false ⟨#[]⟩ 0):=hB3.out
 have hb4:=hide hb3.out.drew
 have hz4:w1.heap.size + 1<W3.drew.heap.size:=hA4.out.lt
 clear p0 p1 p2 p3 p4 r0 r1 r2 r3 r4 hA3 hP3 hB3 hb3
 obtain ⟨p0,p1,p2,p3,p4,r0,r1,r2,r3,r4⟩:=hP4.out.cells
 obtain ⟨hpw1,hpw2⟩:=powF_bounds pn pw a3.out
 have hcells:Hid (∀ i (h:i<(dlu wh++dlu fr).length),W3.drew.cell? ⟨w1.heap.size + 1,0 + i,none⟩=some (.int .u8 ((dlu wh++dlu fr)[i]:Nat))):=by
  show ∀ i (h:i<(dlu wh++dlu fr).length),_
  intro i hi
  have hi2:i<wh.length + fr.length:=by rw [List.length_append,hlw,hlf] at hi;exact hi
  have hlen:(layR q3 wh.length (dlu fr)).length=512:=by rw [layR_len _ _ _ (by have:=hq3l.out;omega)];exact hq3l.out
  rw [Nat.zero_add,hA4.out.cell i (by omega)]
  have e:=layR_two (dlu wh) (dlu fr) 512 (by omega) i hi (by rw [hlw,hq3.out];omega)
  simp only [hlw,hq3.out] at e
  rw [e]
 go_wp2_with fail
 have S4:Hid (PSt w w1.heap.size n (mkB wh) (mkB fr) pn (mkB pw) (dlu wh++dlu fr) W3.drew):=⟨hb4.out,hP4.out,hB4.out,hz4,hcells.out⟩
 have hpl:(mkB pw).size≤100000:=by rw [mkB_size];omega
 have hpb:=hide (bl_mkB pw)
 have hpa:=hide (show allD (bl (mkB pw))=true by rw [bl_mkB];exact a3.out)
 have hdl:=hide (show (dlu wh++dlu fr).length=wh.length by rw [List.length_append,hlw,hlf];have:=hfr0.out;omega)
 go_region_with (first|(go_at_call 178;go_fit (powerOf_any n (mkB wh) (mkB fr) pn (mkB pw) W3.drew.drew hpl hpa.out);rw [hpb.out];rintro e W5 ⟨rfl,hb5⟩;have S5:=hide (S4.out.drew.then hb5);clear hb5;obtain ⟨u0,u1,u2,u3,u4,s0,s1,s2,s3,s4⟩:=S5.out.hp.cells)|(go_at_call 177;go_fit (form_any n (w1.heap.size + 1) 0 wh.length wh.length (dlu wh++dlu fr) (powF pn pw - fr.length) W5 hdl.out (by omega) (by omega) (by omega) (by omega) S5.out.hz S5.out.hc (by omega) (by omega) hdgs.out);rintro e W6 ⟨rfl,hb6⟩;obtain ⟨fb,fs,fx,fe,hfe⟩:∃ fb fs fx fe,formF n (dlu wh++dlu fr) (powF pn pw - fr.length)=(fb,fs,fx,fe):=⟨_,_,_,_,rfl⟩;rw [hfe];have hfe:=hide hfe;have S6:=hide (S5.out.then hb6);clear hb6;obtain ⟨d20,d21,d22,g20,g21,g22⟩:=S6.out.hb.cells;simp only [retF]))
 all_goals
  go_wp2
  refine bodyPost_ret (v:=.tuple #[.agg #[.bool fb,.string fs,.int .i64 fx],.int .i64 fe]) (by simp [results,Tryz.results149,go_sem,d20,d21,d22]) rfl ⟨by rw [hfe.out];rfl,?_⟩
  exact ((S6.out.below.setCell (Nat.le_refl _) _).setCell (Nat.le_refl _) _).setCell (Nat.le_refl _) _
set_option maxRecDepth 1000000 in
theorem parse_some_c (s:ByteArray) (w:World) (hs:s.size≤512) (n:Bool) (wh fr:List UInt8) (pn:Bool) (pw:List UInt8) (h:splitL (bl s)=some (n,wh,fr,pn,pw)) (hfr:¬ fr.length=0) :
  Calls Tryz.prog 149 #[.string s] w fun e w'=>e=retF (formF n (dlu wh++dlu fr) (powF pn pw - fr.length))∧Below w.heap.size w w':=by
 obtain ⟨a1,a2,a3,a4,a5,a6⟩:=splitL_facts h
 rw [bl_length] at a5 a6
 have hB:=hide (box_new w false ⟨#[]⟩ 0)
 have h:=hide h
 have a1:=hide a1
 have a2:=hide a2
 have a3:=hide a3
 go_enter Tryz.func149, Tryz.ntmps149
 go_wp2_with fail
 refine (split_any s _ (by omega)).mono ?_
 rw [h.out]
 rintro e w1 ⟨rfl,hb1⟩
 have hB1:=hide (hB.out.below hb1 (by simp))
 have hl:=hB1.out.lt
 have hb:=hide (below_alloc hb1)
 clear hb1
 simp only [splitE,partsE,if_true,Bool.false_eq_true,if_false]
 go_wp2_with fail
 obtain ⟨W2,hW2⟩:∃ W2,(w1.alloc (.cells #[.bool n,.string (mkB wh),.string (mkB fr),.bool pn,.string (mkB pw)] 194)).alloc (.cells Tryz.zeroCells197 197)=W2:=⟨_,rfl⟩
 rw [hW2]
 have hA2:Hid (Arr W2 (w1.heap.size + 1) 197 (List.replicate 512 0)):=by
  show Arr _ _ _ _
  rw [←hW2,show w1.heap.size + 1=(w1.alloc (.cells #[.bool n,.string (mkB wh),.string (mkB fr),.bool pn,.string (mkB pw)] 194)).heap.size from by simp]
  exact arr_new _ _ 512 _ (by kernel_rfl)
 have hP2:Hid (PBox W2 w1.heap.size n (mkB wh) (mkB fr) pn (mkB pw)):=by
  show PBox _ _ _ _ _ _ _
  rw [←hW2];exact (pbox_new w1 n (mkB wh) (mkB fr) pn (mkB pw)).alloc _
 have hB2:Hid (Box W2 w.heap.size false ⟨#[]⟩ 0):=by
  show Box _ _ _ _ _
  rw [←hW2];exact (hB1.out.alloc _).alloc _
 have hb2:Hid (Below w.heap.size w W2):=by
  show Below _ _ _
  rw [←hW2];exact below_al (below_al hb.out)
 clear hW2 hb hB1 hB
 obtain ⟨p0,p1,p2,p3,p4,r0,r1,r2,r3,r4⟩:=hP2.out.cells
 have hdlw:=hide (dlu_mkB wh)
 have hdlf:=hide (dlu_mkB fr)
 have hlw:(dlu wh).length=wh.length:=by simp [dlu]
 have hlf:(dlu fr).length=fr.length:=by simp [dlu]
 have hsw:=mkB_size wh
 have hsf:=mkB_size fr
 go_region_with (go_at_call 176;refine (lay_any (w1.heap.size + 1) 0 512 512 197 (List.replicate 512 0) (mkB wh) W2.drew hA2.out.drew (by omega) (by simp) (by rw [bl_mkB];exact a1.out) (by simp)).mono ?_;rw [hsw,hdlw.out];rintro e W3 ⟨rfl,hA3,hO3⟩;have hA3:=hide hA3;have hO3:=hide hO3)
 have hP3:=hide (hP2.out.drew.only hO3.out (by omega))
 have hB3:Hid (Box W3 w.heap.size false ⟨#[]⟩ 0):=Box.only (W:=W2.drew) hB2.out hO3.out (by omega)
 have hb3:Hid (Below w.heap.size w W3):=hb2.out.drew.trans (hO3.out.below (by omega))
 have hz3:w1.heap.size + 1<W3.heap.size:=hA3.out.lt
 clear p0 p1 p2 p3 p4 r0 r1 r2 r3 r4 hA2 hP2 hB2 hb2 hO3
 obtain ⟨p0,p1,p2,p3,p4,r0,r1,r2,r3,r4⟩:=hP3.out.cells
 have hdgs:Hid (Dgs (dlu wh++dlu fr)):=by
  intro d hd
  rcases List.mem_append.1 hd with h|h
  ·exact dlu_dgs wh a1.out d h
  ·exact dlu_dgs fr a2.out d h
 have hwi:(wh.length:Int)≤512:=by omega
 have hwi0:(0:Int)≤(wh.length:Int):=by omega
 have hwr0:IntKind.i64.wrap (wh.length:Int)=wh.length:=by rw [IntKind.wrap_i64];omega
 have hwr1:IntKind.i64.wrap ((wh.length:Int) + (fr.length:Int))=(wh.length:Int) + (fr.length:Int):=by rw [IntKind.wrap_i64];omega
 have hwr2:IntKind.i64.wrap (powF pn pw - (fr.length:Int))=powF pn pw - (fr.length:Int):=by
  have:=powF_bounds pn pw a3.out
  rw [IntKind.wrap_i64];omega
 obtain ⟨q3,hq3⟩:∃ q3,layR (List.replicate 512 0) 0 (dlu wh)=q3:=⟨_,rfl⟩
 rw [hq3] at hA3
 have hq3l:q3.length=512:=by rw [←hq3,layR_len _ _ _ (by rw [List.length_replicate];omega),List.length_replicate]
 have hq3:=hide hq3
 have hq3l:=hide hq3l
 have hwl:(wh.length:Int)<512:=by omega
 have hwl':¬ 512 - wh.length=0:=by omega
 have f1:(mkB fr).size≤512 - wh.length:=by omega
 have f2:wh.length + (512 - wh.length)≤q3.length:=by have:=hq3l.out;omega
 have f3:q3.length≤100000:=by have:=hq3l.out;omega
 have HC:=hide (lay_any (w1.heap.size + 1) wh.length (512 - wh.length) (512 - wh.length) 197 q3 (mkB fr) W3.drew hA3.out.drew f1 f2 (by rw [bl_mkB];exact a2.out) f3)
 clear f1 f2 f3
 go_wp2_with fail
 go_region_with (go_at_call 176;go_fit HC.out;rw [hsf,hdlf.out];rintro e W4 ⟨rfl,hA4,hO4⟩;have hA4:=hide hA4;have hO4:=hide hO4)
 clear HC
 have hkk:(wh.length:Int) + (fr.length:Int)≤512:=by omega
 have hkk0:(0:Int)≤(wh.length:Int) + (fr.length:Int):=by omega
 have hkt:((wh.length:Int) + (fr.length:Int)).toNat=wh.length + fr.length:=by omega
 have hP4:=hide (hP3.out.drew.only hO4.out (by omega))
 have hB4:Hid (Box W4 w.heap.size false ⟨#[]⟩ 0):=Box.only (W:=W3.drew) hB3.out hO4.out (by omega)
 have hb4:Hid (Below w.heap.size w W4):=hb3.out.drew.trans (hO4.out.below (by omega))
 clear hO4
 have hz4:w1.heap.size + 1<W4.heap.size:=hA4.out.lt
 clear p0 p1 p2 p3 p4 r0 r1 r2 r3 r4 hA3 hP3 hB3 hb3
 obtain ⟨p0,p1,p2,p3,p4,r0,r1,r2,r3,r4⟩:=hP4.out.cells
 obtain ⟨hpw1,hpw2⟩:=powF_bounds pn pw a3.out
 have hcells:Hid (∀ i (h:i<(dlu wh++dlu fr).length),W4.cell? ⟨w1.heap.size + 1,0 + i,none⟩=some (.int .u8 ((dlu wh++dlu fr)[i]:Nat))):=by
  show ∀ i (h:i<(dlu wh++dlu fr).length),_
  intro i hi
  have hi2:i<wh.length + fr.length:=by rw [List.length_append,hlw,hlf] at hi;exact hi
  have hlen:(layR q3 wh.length (dlu fr)).length=512:=by rw [layR_len _ _ _ (by have:=hq3l.out;omega)];exact hq3l.out
  rw [Nat.zero_add,hA4.out.cell i (by omega)]
  have e:=layR_two (dlu wh) (dlu fr) 512 (by omega) i hi (by rw [hlw,hq3.out];omega)
  simp only [hlw,hq3.out] at e
  rw [e]
 go_wp2_with fail
 have S4:Hid (PSt w w1.heap.size n (mkB wh) (mkB fr) pn (mkB pw) (dlu wh++dlu fr) W4):=⟨hb4.out,hP4.out,hB4.out,hz4,hcells.out⟩
 have hpl:(mkB pw).size≤100000:=by rw [mkB_size];omega
 have hpb:=hide (bl_mkB pw)
 have hpa:=hide (show allD (bl (mkB pw))=true by rw [bl_mkB];exact a3.out)
 have hdl:=hide (show (dlu wh++dlu fr).length=(wh.length + fr.length) by rw [List.length_append,hlw,hlf])
 go_region_with (first|(go_at_call 178;go_fit (powerOf_any n (mkB wh) (mkB fr) pn (mkB pw) W4.drew hpl hpa.out);rw [hpb.out];rintro e W5 ⟨rfl,hb5⟩;have S5:=hide (S4.out.drew.then hb5);clear hb5;obtain ⟨u0,u1,u2,u3,u4,s0,s1,s2,s3,s4⟩:=S5.out.hp.cells)|(go_at_call 177;go_fit (form_any n (w1.heap.size + 1) 0 (wh.length + fr.length) 512 (dlu wh++dlu fr) (powF pn pw - fr.length) W5 hdl.out (by omega) (by omega) (by omega) (by omega) S5.out.hz S5.out.hc (by omega) (by omega) hdgs.out);rintro e W6 ⟨rfl,hb6⟩;obtain ⟨fb,fs,fx,fe,hfe⟩:∃ fb fs fx fe,formF n (dlu wh++dlu fr) (powF pn pw - fr.length)=(fb,fs,fx,fe):=⟨_,_,_,_,rfl⟩;rw [hfe];have hfe:=hide hfe;have S6:=hide (S5.out.then hb6);clear hb6;obtain ⟨d20,d21,d22,g20,g21,g22⟩:=S6.out.hb.cells;simp only [retF]))
 all_goals
  go_wp2
  refine bodyPost_ret (v:=.tuple #[.agg #[.bool fb,.string fs,.int .i64 fx],.int .i64 fe]) (by simp [results,Tryz.results149,go_sem,d20,d21,d22]) rfl ⟨by rw [hfe.out];rfl,?_⟩
  exact ((S6.out.below.setCell (Nat.le_refl _) _).setCell (Nat.le_refl _) _).setCell (Nat.le_refl _) _
theorem parse_any (s:ByteArray) (w:World) (hs:s.size≤100000) :
  Calls Tryz.prog 149 #[.string s] w fun e w'=>e=retF (parseF (bl s))∧Below w.heap.size w w':=by
 unfold parseF
 cases h:splitL (bl s) with
 | none=>exact parse_none s w hs h
 | some r =>
  obtain ⟨n,wh,fr,pn,pw⟩:=r
  simp only
  rw [bl_length]
  by_cases hl:512<s.size
  ·rw [if_pos hl];exact parse_long s w hs n wh fr pn pw h hl
  ·rw [if_neg hl]
   by_cases hfr:fr.length=0
   ·by_cases hw:wh.length<512
    ·exact parse_some_a s w (by omega) n wh fr pn pw h hfr hw
    ·exact parse_some_b s w (by omega) n wh fr pn pw h hfr hw
   ·exact parse_some_c s w (by omega) n wh fr pn pw h hfr
theorem formF_isN {neg:Bool} {d:List Nat} {x:Int} (hd:Dgs d) {b:Bool} {s:ByteArray} {y:Int} (h:formF neg d x=(b,s,y,0)):isN b s y=true:=by
 unfold formF at h
 by_cases hz:lz d=d.length
 ·rw [if_pos hz] at h
  simp only [Prod.mk.injEq] at h
  obtain ⟨rfl,rfl,rfl,_⟩:=h
  rfl
 ·rw [if_neg hz] at h
  have hlt:lz d<d.length:=by have:=lz_le d;omega
  obtain ⟨hc,hne⟩:=core_can d hlt hd
  by_cases hf:(core d).length≤40∧-400≤x + tz (dz d)∧x + tz (dz d)≤400
  ·rw [if_pos hf] at h
   simp only [Prod.mk.injEq] at h
   obtain ⟨rfl,rfl,rfl,_⟩:=h
   have ho:=mkS_isO (core d) (x + tz (dz d)) hc hne hf.1 hf.2.1 hf.2.2
   simp [isN,ho]
  ·rw [if_neg hf] at h
   simp only [Prod.mk.injEq] at h
   exact absurd h.2.2.2 (by decide)
theorem parseF_isN {l:List UInt8} {b:Bool} {s:ByteArray} {y:Int} (h:parseF l=(b,s,y,0)):isN b s y=true:=by
 unfold parseF at h
 cases hs:splitL l with
 | none =>
  rw [hs] at h
  simp only [Prod.mk.injEq] at h
  exact absurd h.2.2.2 (by decide)
 | some r =>
  obtain ⟨n,wh,fr,pn,pw⟩:=r
  rw [hs] at h
  simp only at h
  obtain ⟨f1,f2,_⟩:=splitL_facts hs
  split at h
  ·simp only [Prod.mk.injEq] at h
   exact absurd h.2.2.2 (by decide)
  ·refine formF_isN (fun d hd=>?_) h
   rcases List.mem_append.1 hd with q|q
   ·exact dlu_dgs wh f1 d q
   ·exact dlu_dgs fr f2 d q
theorem parseF_size {l:List UInt8} (h:(parseF l).2.2.2≠0):parseF l=(false,⟨#[]⟩,0,(parseF l).2.2.2):=by
 revert h
 unfold parseF
 cases splitL l with
 | none=>intro _;rfl
 | some r =>
  obtain ⟨n,wh,fr,pn,pw⟩:=r
  simp only
  split
  ·intro _;rfl
  ·unfold formF
   split
   ·intro h;exact absurd rfl h
   ·split
    ·intro h;exact absurd rfl h
    ·intro _;rfl
structure EqTwo (w:World) (h g:Hd) (na la nb lb:Value) (W:World):Prop where
 below:Below w.heap.size w W
 ba:Bx W w.heap.size h na la
 bb:Bx W (w.heap.size + 1) g nb lb
theorem EqTwo.then {w:World} {h g:Hd} {na la nb lb:Value} {W W1:World} (k:EqTwo w h g na la nb lb W) (hb:Below W.heap.size W W1):EqTwo w h g na la nb lb W1:=⟨below_then k.below hb,k.ba.below hb,k.bb.below hb⟩
theorem two_new (w:World) (h g:Hd) (na la nb lb:Value):EqTwo w h g na la nb lb ((w.alloc (.cells (vals h na la) 29)).alloc (.cells (vals g nb lb) 29)):=by
 refine ⟨below_al (below_al (Below.refl _ _)),(bx_new w h na la).below (below_al (Below.refl _ _)),?_⟩
 have:=bx_new (w.alloc (.cells (vals h na la) 29)) g nb lb
 rw [show (w.alloc (.cells (vals h na la) 29)).heap.size=w.heap.size + 1 by simp] at this
 exact this
theorem tellsB (p:Prop):∃ b:Bool,b=true↔p:=by
 by_cases h:p
 ·exact ⟨true,by simp [h]⟩
 ·exact ⟨false,by simp [h]⟩
theorem Calls.tbB {f:FuncId} {args:Array Value} {w:World} {p:Prop} {b:Bool} (h:Calls Tryz.prog f args w fun e w'=>TB p w e w') (hb:b=true↔p):Calls Tryz.prog f args w fun e w'=>e=.returned (.bool b)∧Below w.heap.size w w':=by
 refine h.mono ?_
 rintro e w' ⟨c,rfl,hc,hw⟩
 have:c=b:=by rw [Bool.eq_iff_iff];exact Iff.trans hc hb.symm
 rw [this]
 exact ⟨rfl,hw⟩
def REqOk (n:Nat):Prop:=∀ (x y:VT n) (ns ls ns' ls':Value) (w:World),RD n w x ns ls→RD n w y ns' ls' →
  Calls Tryz.prog 13 #[.agg (vals (vhd n x) ns ls),.agg (vals (vhd n y) ns' ls')] w fun e w'=>TB (x=y) w e w'
set_option maxRecDepth 100000 in
theorem requal_any:∀ n,REqOk n:=by
 intro n
 induction n with
 | zero=>intro x;exact Empty.elim x
 | succ n ih =>
  intro x y ns ls ns' ls' w hx hy
  obtain ⟨h,l⟩:=x
  obtain ⟨g,m⟩:=y
  obtain ⟨al,cl,rfl,hl1,hl2⟩:=hx.len
  obtain ⟨an,cn,rfl,hn1,hn2⟩:=hx.1.len
  obtain ⟨bl',dl,rfl,hm1,hm2⟩:=hy.len
  obtain ⟨bn,dn,rfl,ho1,ho2⟩:=hy.1.len
  replace hx:=hide hx
  replace hy:=hide hy
  replace ih:=hide ih
  have P0:=hide (two_new w h g (.slice an h.names.length cn) (.slice al l.length cl) (.slice bn g.names.length dn) (.slice bl' m.length dl))
  show Calls _ _ #[.agg #[.int .i64 h.kind,.bool h.flag,.bool h.neg,.string h.dig,.int .i64 h.exp,.int .u64 h.bits,.string h.text,.slice an h.names.length cn,.slice al l.length cl],.agg #[.int .i64 g.kind,.bool g.flag,.bool g.neg,.string g.dig,.int .i64 g.exp,.int .u64 g.bits,.string g.text,.slice bn g.names.length dn,.slice bl' m.length dl]] _ _
  simp only at hl1 hl2 hn1 hn2 hm1 hm2 ho1 ho2
  have ml:maxLen=9223372036854775807:=rfl
  by_cases e0:h.kind=g.kind
  ·by_cases e1:h.flag=g.flag
   ·by_cases e2:h.neg=g.neg
    ·by_cases e3:h.dig=g.dig
     ·by_cases e4:h.exp=g.exp
      ·by_cases e5:h.bits=g.bits
       ·by_cases e6:h.text=g.text
        ·by_cases e7:(h.names.length:Int)=(g.names.length:Int)
         ·by_cases e8:(l.length:Int)=(m.length:Int)
          ·have hxy:((h,l):VT (n + 1))=(g,m)↔h.names=g.names∧l=m:=by
            constructor
            ·intro e;cases e;exact ⟨rfl,rfl⟩
            ·rintro ⟨e9,rfl⟩
             have:h=g:=by clear e7;cases h;cases g;simp only at e0 e1 e2 e3 e4 e5 e6 e9;subst e0 e1 e2 e3 e4 e5 e6 e9;rfl
             rw [this]
           replace hxy:=hide hxy
           have hnl:=hide (show g.names.length=h.names.length by omega)
           have hml:=hide (show m.length=l.length by omega)
           obtain ⟨nm,rfl⟩:∃ nm,h={g with names:=nm}:=⟨h.names,by cases h;cases g;simp only at e0 e1 e2 e3 e4 e5 e6;subst e0 e1 e2 e3 e4 e5 e6;rfl⟩
           clear e0 e1 e2 e3 e4 e5 e6
           simp only at hnl e7 ⊢
           go_enter Tryz.func13, Tryz.ntmps13
           go_wp2_with fail
           go_loopw [5] (fun i w'=>∃ k:Nat,i=.int .i64 k∧k≤nm.length∧Hid (nm.take k=g.names.take k)∧Hid (EqTwo w {g with names:=nm} g (.slice an nm.length cn) (.slice al l.length cl) (.slice bn g.names.length dn) (.slice bl' m.length dl) w')) (fun i _=>nm.length - (intOf i).toNat)
           case atStart=>exact ⟨0,rfl,Nat.zero_le _,rfl,P0.out⟩
           case round =>
            obtain ⟨k,rfl,hk,hE,hP⟩:=hrel
            have c7:=hP.out.ba.cells.2.2.2.2.2.2.2.1
            have c8:=hP.out.ba.cells.2.2.2.2.2.2.2.2
            have d7:=hP.out.bb.cells.2.2.2.2.2.2.2.1
            have d8:=hP.out.bb.cells.2.2.2.2.2.2.2.2
            by_cases hkl:k<nm.length
            ·have hki:(k:Int)<(nm.length:Int):=by omega
             have hk63:(k:Int)<9223372036854775807:=by omega
             have hkg:k<g.names.length:=by rw [hnl.out];exact hkl
             have hkgi:(k:Int)<(g.names.length:Int):=by omega
             obtain ⟨b,o,c,he,hbl,hlc,hcm,hcell⟩:=hx.out.1.at k hkl
             have he':=Value.slice.inj he
             obtain ⟨rfl,_,rfl⟩:=he'
             clear he
             have hcell:=(hP.out.below.cell (p:=⟨b,o + k,none⟩) hbl).trans hcell
             obtain ⟨b',o',c',he,hbl',hlc',hcm',hcell'⟩:=hy.out.1.at k hkg
             have he':=Value.slice.inj he
             obtain ⟨rfl,_,rfl⟩:=he'
             clear he
             have hcell':=(hP.out.below.cell (p:=⟨b',o' + k,none⟩) hbl').trans hcell'
             obtain ⟨s,hs⟩:∃ s,nm[k]=s:=⟨_,rfl⟩
             obtain ⟨t,ht⟩:∃ t,g.names[k]=t:=⟨_,rfl⟩
             simp only [hs] at hcell
             simp only [ht] at hcell'
             have hs':=hide hs
             have ht':=hide ht
             clear hs ht
             by_cases hst:s=t
             ·subst hst
              go_wp2_with fail
              go_quiet (fail)
              go_wp2_with fail
              exact ⟨⟨k + 1,by go_num,by omega,take_eq hkl hkg hE.out (by rw [hs'.out,ht'.out]),hP.out.then (below_dn (Below.refl _ _) _)⟩,by simp [intOf];omega⟩
             ·have hst2:decide (s=t)=false:=decide_eq_false hst
              have hst3:=ba_ne hst
              have hne:¬ nm=g.names:=by
               intro h
               subst h
               rw [hs'.out] at ht'
               exact hst ht'.out
              have hne':=hide hne
              clear hne
              go_wp2_with fail
              go_quiet (fail)
              go_wp2_with fail
              go_ret
              exact TB.no (fun e=>hne'.out (hxy.out.1 e).1) (below_dn hP.out.below _)
            ·have hki:¬ ((k:Int)<(nm.length:Int)):=by omega
             have hN0:nm=g.names:=by
              have:=hE.out
              rw [List.take_of_length_le (by omega),List.take_of_length_le (by rw [hnl.out];omega)] at this
              exact this
             have hN:=hide hN0
             clear hE hN0
             go_wp2_with fail
             clear c7 c8 d7 d8
             go_loopw [6] (fun i w'=>∃ k:Nat,i=.int .i64 k∧k≤l.length∧Hid (l.take k=m.take k)∧Hid (EqTwo w {g with names:=nm} g (.slice an nm.length cn) (.slice al l.length cl) (.slice bn g.names.length dn) (.slice bl' m.length dl) w')) (fun i _=>l.length - (intOf i).toNat)
             case atStart=>exact ⟨0,rfl,Nat.zero_le _,rfl,hP.out⟩
             case round =>
              obtain ⟨k,rfl,hk,hE,hP⟩:=hrel
              have c8:=hP.out.ba.cells.2.2.2.2.2.2.2.2
              have d8:=hP.out.bb.cells.2.2.2.2.2.2.2.2
              by_cases hkl:k<l.length
              ·have hki:(k:Int)<(l.length:Int):=by omega
               have hk63:(k:Int)<9223372036854775807:=by omega
               have hkm:k<m.length:=by rw [hml.out];exact hkl
               have hkmi:(k:Int)<(m.length:Int):=by omega
               obtain ⟨b,o,c,he,hbl,hlc,hcm,ns1,ls1,hrg,hrd⟩:=hx.out.at k hkl
               have he':=Value.slice.inj he
               obtain ⟨rfl,_,rfl⟩:=he'
               clear he
               obtain ⟨b',o',c',he,hbl',hlc',hcm',ns2,ls2,hrg',hrd'⟩:=hy.out.at k hkm
               have he':=Value.slice.inj he
               obtain ⟨rfl,_,rfl⟩:=he'
               clear he
               obtain ⟨e1,e2,e3,e4,e5,e6,rfl,rfl⟩:=hrd.shape
               obtain ⟨f1,f2,f3,f4,f5,f6,rfl,rfl⟩:=hrd'.shape
               obtain ⟨q,hq'⟩:=tellsB (l[k]=m[k])
               have hcall:=hide (fun W (hb:Below w.heap.size w W)=>Calls.tbB (ih.out l[k] m[k] _ _ _ _ W (hrd.below hb) (hrd'.below hb)) hq')
               obtain ⟨hp,hhp⟩:∃ hp,vhd n l[k]=hp:=⟨_,rfl⟩
               obtain ⟨hq,hhq⟩:∃ hq,vhd n m[k]=hq:=⟨_,rfl⟩
               rw [hhp,hhq] at hcall
               have R1:=rangeAt_below hrg hP.out.below hbl
               have R2:=rangeAt_below hrg' hP.out.below hbl'
               replace R1:wr.rangeAt b (o + k * 9) (vals hp (.slice e1 e2 e3) (.slice e4 e5 e6)).toList:=hhp ▸ R1
               replace R2:wr.rangeAt b' (o' + k * 9) (vals hq (.slice f1 f2 f3) (.slice f4 f5 f6)).toList:=hhq ▸ R2
               obtain ⟨x0,x1,x2,x3,x4,x5,x6,x7,x8⟩:=range9 R1
               obtain ⟨y0,y1,y2,y3,y4,y5,y6,y7,y8⟩:=range9 R2
               have hbw:=hide hP.out.below
               have s1:=hP.out.ba.lt
               have s2:=hP.out.bb.lt
               have s3:b<wr.heap.size:=Nat.lt_of_lt_of_le hbl hbw.out.size
               have s4:b'<wr.heap.size:=Nat.lt_of_lt_of_le hbl' hbw.out.size
               have hqq:=hide hq'
               clear hq' hrg hrg' hrd hrd' R1 R2 hhp hhq
               go_wp2_with fail
               go_region_held3 (fun w'=>w'.cell? ⟨w.heap.size,8,none⟩=some (.slice (some ⟨b,o,none⟩) l.length cl)∧w'.cell? ⟨w.heap.size + 1,8,none⟩=some (.slice (some ⟨b',o',none⟩) m.length dl)∧w'.cell? ⟨b,o + k * 9,none⟩=some (.int .i64 hp.kind)∧w'.cell? ⟨b,o + k * 9 + 1,none⟩=some (.bool hp.flag)∧w'.cell? ⟨b,o + k * 9 + 2,none⟩=some (.bool hp.neg)∧w'.cell? ⟨b,o + k * 9 + 3,none⟩=some (.string hp.dig)∧w'.cell? ⟨b,o + k * 9 + 4,none⟩=some (.int .i64 hp.exp)∧w'.cell? ⟨b,o + k * 9 + 5,none⟩=some (.int .u64 hp.bits)∧w'.cell? ⟨b,o + k * 9 + 6,none⟩=some (.string hp.text)∧w'.cell? ⟨b,o + k * 9 + 7,none⟩=some (.slice e1 e2 e3)∧w'.cell? ⟨b,o + k * 9 + 8,none⟩=some (.slice e4 e5 e6)∧w'.cell? ⟨b',o' + k * 9,none⟩=some (.int .i64 hq.kind)∧w'.cell? ⟨b',o' + k * 9 + 1,none⟩=some (.bool hq.flag)∧w'.cell? ⟨b',o' + k * 9 + 2,none⟩=some (.bool hq.neg)∧w'.cell? ⟨b',o' + k * 9 + 3,none⟩=some (.string hq.dig)∧w'.cell? ⟨b',o' + k * 9 + 4,none⟩=some (.int .i64 hq.exp)∧w'.cell? ⟨b',o' + k * 9 + 5,none⟩=some (.int .u64 hq.bits)∧w'.cell? ⟨b',o' + k * 9 + 6,none⟩=some (.string hq.text)∧w'.cell? ⟨b',o' + k * 9 + 7,none⟩=some (.slice f1 f2 f3)∧w'.cell? ⟨b',o' + k * 9 + 8,none⟩=some (.slice f4 f5 f6)) (first|(simp [go_sem];done)|(simp [go_sem, *];done)|go_keep) (first|(go_at_call 13;refine (hcall.out _ hbw.out.drew).mono ?_;rintro e v1 ⟨rfl,hB1⟩;have K:∀ (i j:Nat) (v:Value),i<wr.heap.size→wr.cell? ⟨i,j,none⟩=some v→v1.cell? ⟨i,j,none⟩=some v:=fun i j v hi hv=>(hB1.cell (p:=⟨i,j,none⟩) hi).trans hv;have z1:=K _ _ _ s1 c8;have z2:=K _ _ _ s2 d8;have zu0:=K _ _ _ s3 x0;have zt0:=K _ _ _ s4 y0;have zu1:=K _ _ _ s3 x1;have zt1:=K _ _ _ s4 y1;have zu2:=K _ _ _ s3 x2;have zt2:=K _ _ _ s4 y2;have zu3:=K _ _ _ s3 x3;have zt3:=K _ _ _ s4 y3;have zu4:=K _ _ _ s3 x4;have zt4:=K _ _ _ s4 y4;have zu5:=K _ _ _ s3 x5;have zt5:=K _ _ _ s4 y5;have zu6:=K _ _ _ s3 x6;have zt6:=K _ _ _ s4 y6;have zu7:=K _ _ _ s3 x7;have zt7:=K _ _ _ s4 y7;have zu8:=K _ _ _ s3 x8;have zt8:=K _ _ _ s4 y8;clear K))
               have hP2:=hide (hP.out.then (below_then (Below.refl _ _).drew hB1))
               have hNo:Hid (q=false→¬ (({g with names:=nm},l):VT (n + 1))=(g,m)):=fun hf e=>by
                have:=(hxy.out.1 e).2
                subst this
                have:=hqq.out.2 rfl
                rw [hf] at this;cases this
               have hYes:Hid (q=true→l.take (k + 1)=m.take (k + 1)):=fun ht=>take_eq hkl hkm hE.out (hqq.out.1 ht)
               clear hcall hx hy ih z1 z2 zu0 zu1 zu2 zu3 zu4 zu5 zu6 zu7 zu8 zt0 zt1 zt2 zt3 zt4 zt5 zt6 zt7 zt8 x0 x1 x2 x3 x4 x5 x6 x7 x8 y0 y1 y2 y3 y4 y5 y6 y7 y8
               clear hqq hE hxy hP hB1 hbw s1 s2 s3 s4 c8 d8 hkmi hkm hml e7 e8 hnl hN P0
               rename_i hHeld
               clear hHeld
               cases q
               ·rw [Bool.not_false]
                go_wp2_with fail
                go_ret
                exact TB.no (hNo.out (by simp)) hP2.out.below
               ·rw [Bool.not_true]
                go_wp2_with fail
                exact ⟨⟨k + 1,by go_num,by omega,hYes.out (by simp),hP2.out⟩,by simp [intOf];omega⟩
              ·have hki:¬ ((k:Int)<(l.length:Int)):=by omega
               have hL:l=m:=by
                have:=hE.out
                rw [List.take_of_length_le (by omega),List.take_of_length_le (by rw [hml.out];omega)] at this
                exact this
               have hR:=hide (hxy.out.2 ⟨hN.out,hL⟩)
               clear hL
               go_wp2_with fail
               go_ret
               exact TB.yes hR.out hP.out.below
          ·go_enter Tryz.func13, Tryz.ntmps13
           go_wp2_with fail
           go_ret
           exact TB.no (fun e=>e8 (by cases e;rfl)) (below_al (below_al (Below.refl _ _)))
         ·go_enter Tryz.func13, Tryz.ntmps13
          go_wp2_with fail
          go_ret
          exact TB.no (fun e=>e7 (by cases e;rfl)) (below_al (below_al (Below.refl _ _)))
        ·have q1:decide (h.text=g.text)=false:=decide_eq_false e6
         have q2:=ba_ne e6
         go_enter Tryz.func13, Tryz.ntmps13
         go_wp2_with fail
         go_ret
         exact TB.no (fun e=>e6 (by cases e;rfl)) (below_al (below_al (Below.refl _ _)))
       ·go_enter Tryz.func13, Tryz.ntmps13
        go_wp2_with fail
        go_ret
        exact TB.no (fun e=>e5 (by cases e;rfl)) (below_al (below_al (Below.refl _ _)))
      ·go_enter Tryz.func13, Tryz.ntmps13
       go_wp2_with fail
       go_ret
       exact TB.no (fun e=>e4 (by cases e;rfl)) (below_al (below_al (Below.refl _ _)))
     ·have q1:decide (h.dig=g.dig)=false:=decide_eq_false e3
      have q2:=ba_ne e3
      go_enter Tryz.func13, Tryz.ntmps13
      go_wp2_with fail
      go_ret
      exact TB.no (fun e=>e3 (by cases e;rfl)) (below_al (below_al (Below.refl _ _)))
    ·go_enter Tryz.func13, Tryz.ntmps13
     go_wp2_with fail
     go_ret
     exact TB.no (fun e=>e2 (by cases e;rfl)) (below_al (below_al (Below.refl _ _)))
   ·go_enter Tryz.func13, Tryz.ntmps13
    go_wp2_with fail
    go_ret
    exact TB.no (fun e=>e1 (by cases e;rfl)) (below_al (below_al (Below.refl _ _)))
  ·go_enter Tryz.func13, Tryz.ntmps13
   go_wp2_with fail
   go_ret
   exact TB.no (fun e=>e0 (by cases e;rfl)) (below_al (below_al (Below.refl _ _)))
end Go.Proofs.YthodiandebahdaaGreatDoor
