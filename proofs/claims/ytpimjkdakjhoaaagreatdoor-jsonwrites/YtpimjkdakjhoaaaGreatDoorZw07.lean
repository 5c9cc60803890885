/- Merged by program: NyParse, NzParse, QoParse, JfSmall, WdEqual. -/
import Derived.Test.YtpimjkdakjhoaaaGreatDoorZw05
import Derived.Test.YtpimjkdakjhoaaaGreatDoorZw06
import Derived.Test.YtpimjkdakjhoaaaGreatDoorZw03
import Derived.BigQuiet
namespace Go.Proofs.YtpimjkdakjhoaaaGreatDoor
open Go.RowKit
set_option linter.unusedSimpArgs false
set_option linter.unusedVariables false
set_option maxHeartbeats 8000000
theorem split_any (s:ByteArray) (w:World) (hs:s.size≤100000) :
  Calls Tryz.prog 150 #[.string s] w fun e w'=>e=splitE (splitL (bl s))∧Below w.heap.size w w':=by
 unfold splitL
 obtain ⟨wh,hwh⟩:∃ wh,(tlB 45 (bl s)).takeWhile isDig=wh:=⟨_,rfl⟩
 cases hbw:badW ((tlB 45 (bl s)).takeWhile isDig)
 ·simp only [Bool.false_eq_true,if_false]
  simp only [badW,Bool.or_eq_false_iff] at hbw
  have hne:1≤((tlB 45 (bl s)).takeWhile isDig).length:=by
   rcases hh:(tlB 45 (bl s)).takeWhile isDig with _|⟨a,l⟩
   ·rw [hh] at hbw;simp at hbw
   ·simp
  by_cases h1:((tlB 45 (bl s)).takeWhile isDig).length=1
  ·cases hpt:hdB 46 ((tlB 45 (bl s)).dropWhile isDig)
   ·simp only [Bool.false_eq_true,if_false]
    cases hL:(tlB 45 (bl s)).dropWhile isDig with
    | nil=>have:=split_one_no_nil s w hs h1 hpt hL;rwa [hL] at this
    | cons c r =>
     by_cases hc1:c=101
     ·have:=split_one_no_p s w hs h1 hpt c r hL (Or.inl hc1);rwa [hL] at this
     ·by_cases hc2:c=69
      ·have:=split_one_no_p s w hs h1 hpt c r hL (Or.inr hc2);rwa [hL] at this
      ·have:=split_one_no_bad s w hs h1 hpt c r hL hc1 hc2;rwa [hL] at this
   ·simp only [if_true]
    cases hfr:((tlB 46 ((tlB 45 (bl s)).dropWhile isDig)).takeWhile isDig).isEmpty
    ·simp only [Bool.false_eq_true,if_false]
     cases hL:(tlB 46 ((tlB 45 (bl s)).dropWhile isDig)).dropWhile isDig with
     | nil=>have:=split_one_pt_nil s w hs h1 hpt hfr hL;rwa [hL] at this
     | cons c r =>
      by_cases hc1:c=101
      ·have:=split_one_pt_p s w hs h1 hpt hfr c r hL (Or.inl hc1);rwa [hL] at this
      ·by_cases hc2:c=69
       ·have:=split_one_pt_p s w hs h1 hpt hfr c r hL (Or.inr hc2);rwa [hL] at this
       ·have:=split_one_pt_bad s w hs h1 hpt hfr c r hL hc1 hc2;rwa [hL] at this
    ·exact split_one_pt_none s w hs h1 hpt hfr
  ·have h1:1<((tlB 45 (bl s)).takeWhile isDig).length∧((tlB 45 (bl s)).takeWhile isDig).head?≠some 48:=by
    have h2:1<((tlB 45 (bl s)).takeWhile isDig).length:=by omega
    refine ⟨h2,?_⟩
    have:=hbw.2
    rw [decide_eq_true h2,Bool.true_and,beq_eq_false_iff_ne] at this
    exact this
   cases hpt:hdB 46 ((tlB 45 (bl s)).dropWhile isDig)
   ·simp only [Bool.false_eq_true,if_false]
    cases hL:(tlB 45 (bl s)).dropWhile isDig with
    | nil=>have:=split_more_no_nil s w hs h1 hpt hL;rwa [hL] at this
    | cons c r =>
     by_cases hc1:c=101
     ·have:=split_more_no_p s w hs h1 hpt c r hL (Or.inl hc1);rwa [hL] at this
     ·by_cases hc2:c=69
      ·have:=split_more_no_p s w hs h1 hpt c r hL (Or.inr hc2);rwa [hL] at this
      ·have:=split_more_no_bad s w hs h1 hpt c r hL hc1 hc2;rwa [hL] at this
   ·simp only [if_true]
    cases hfr:((tlB 46 ((tlB 45 (bl s)).dropWhile isDig)).takeWhile isDig).isEmpty
    ·simp only [Bool.false_eq_true,if_false]
     cases hL:(tlB 46 ((tlB 45 (bl s)).dropWhile isDig)).dropWhile isDig with
     | nil=>have:=split_more_pt_nil s w hs h1 hpt hfr hL;rwa [hL] at this
     | cons c r =>
      by_cases hc1:c=101
      ·have:=split_more_pt_p s w hs h1 hpt hfr c r hL (Or.inl hc1);rwa [hL] at this
      ·by_cases hc2:c=69
       ·have:=split_more_pt_p s w hs h1 hpt hfr c r hL (Or.inr hc2);rwa [hL] at this
       ·have:=split_more_pt_bad s w hs h1 hpt hfr c r hL hc1 hc2;rwa [hL] at this
    ·exact split_more_pt_none s w hs h1 hpt hfr
 ·simp only [if_true]
  simp only [badW,Bool.or_eq_true,Bool.and_eq_true,decide_eq_true_eq,beq_iff_eq] at hbw
  rcases hbw with h|h
  ·exact split_empty s w hs h
  ·exact split_lead s w hs h
theorem allD_tw (l:List UInt8):allD (l.takeWhile isDig)=true:=by
 unfold allD
 induction l with
 | nil=>rfl
 | cons a l ih =>
  by_cases h:isDig a=true
  ·simp [h]
  ·simp [h]
theorem splitL_facts {l:List UInt8} {n:Bool} {wh fr:List UInt8} {pn:Bool} {pw:List UInt8} (h:splitL l=some (n,wh,fr,pn,pw)) :
  allD wh=true∧allD fr=true∧allD pw=true∧1≤wh.length∧wh.length + fr.length≤l.length∧pw.length≤l.length:=by
 have key:∀ (n:Bool) (wh fr l4:List UInt8) (m:Nat),allD wh=true→allD fr=true→1≤wh.length→wh.length + fr.length≤m→l4.length≤m→∀ n' wh' fr' pn' pw',splitT n wh fr l4=some (n',wh',fr',pn',pw')→allD wh'=true∧allD fr'=true∧allD pw'=true∧1≤wh'.length∧wh'.length + fr'.length≤m∧pw'.length≤m:=by
  intro n wh fr l4 m h1 h2 h3 h4 h5 n' wh' fr' pn' pw' h
  unfold splitT at h
  cases l4 with
  | nil =>
   simp only [Option.some.injEq,Prod.mk.injEq] at h
   obtain ⟨_,rfl,rfl,_,rfl⟩:=h
   exact ⟨h1,h2,rfl,h3,h4,Nat.zero_le _⟩
  | cons c r =>
   simp only at h
   by_cases hc:(c==101 || c==69)=true
   ·by_cases hs:spOk r=true
    ·simp only [hc,hs,if_true,Option.some.injEq,Prod.mk.injEq] at h
     obtain ⟨_,rfl,rfl,_,rfl⟩:=h
     simp only [spOk,Bool.and_eq_true] at hs
     refine ⟨h1,h2,hs.2,h3,h4,?_⟩
     have:(spL r).length≤r.length:=by unfold spL;split <;> exact tlB_length _ _
     simp at h5
     omega
    ·simp only [hc,hs,if_true] at h
     cases h
   ·simp only [hc] at h
    cases h
 unfold splitL at h
 have e0:(tlB 45 l).takeWhile isDig++(tlB 45 l).dropWhile isDig=tlB 45 l:=List.takeWhile_append_dropWhile
 have e1:=congrArg List.length e0
 rw [List.length_append] at e1
 have e2:=tlB_length 45 l
 cases hbw:badW ((tlB 45 l).takeWhile isDig)
 ·rw [hbw] at h
  simp only [Bool.false_eq_true,if_false] at h
  have hne:1≤((tlB 45 l).takeWhile isDig).length:=by
   rcases hh:(tlB 45 l).takeWhile isDig with _|⟨a,l⟩
   ·rw [hh] at hbw;simp [badW] at hbw
   ·simp
  by_cases hpt:hdB 46 ((tlB 45 l).dropWhile isDig)=true
  ·rw [if_pos hpt] at h
   by_cases hfr:((tlB 46 ((tlB 45 l).dropWhile isDig)).takeWhile isDig).isEmpty=true
   ·rw [if_pos hfr] at h;cases h
   ·rw [if_neg hfr] at h
    have f0:(tlB 46 ((tlB 45 l).dropWhile isDig)).takeWhile isDig++(tlB 46 ((tlB 45 l).dropWhile isDig)).dropWhile isDig=tlB 46 ((tlB 45 l).dropWhile isDig):=List.takeWhile_append_dropWhile
    have f1:=congrArg List.length f0
    rw [List.length_append] at f1
    have f2:=tlB_length 46 ((tlB 45 l).dropWhile isDig)
    exact key _ _ _ _ l.length (allD_tw _) (allD_tw _) hne (by omega) (by omega) _ _ _ _ _ h
  ·rw [if_neg hpt] at h
   exact key _ _ _ _ l.length (allD_tw _) rfl hne (by simp;omega) (by omega) _ _ _ _ _ h
 ·rw [hbw] at h
  simp only [if_true] at h
  cases h
def dlu (l:List UInt8):List Nat:=l.map fun c=>c.toNat - 48
theorem dlu_mkB (l:List UInt8):dg (mkB l)=dlu l:=by unfold dg dlu;rw [bl_mkB]
def parseF (l:List UInt8):Bool×ByteArray×Int×Int :=
 match splitL l with
 | none=>(false,⟨#[]⟩,0,10)
 | some (n,wh,fr,pn,pw)=>if 512<l.length then (false,⟨#[]⟩,0,2) else formF n (dlu wh++dlu fr) (powF pn pw - fr.length)
theorem layR_nil (p:List Nat) (o:Nat):layR p o []=p:=by unfold layR;simp
theorem layR_two (a b:List Nat) (m:Nat) (h:a.length + b.length≤m) (i:Nat) (hi:i<(a++b).length) (hi':i<(layR (layR (List.replicate m 0) 0 a) a.length b).length):(layR (layR (List.replicate m 0) 0 a) a.length b)[i]=(a++b)[i]:=by
 have e:layR (layR (List.replicate m 0) 0 a) a.length b=a++b++List.replicate (m - a.length - b.length) 0:=by
  unfold layR
  simp [List.take_append,List.drop_append]
 simp only [e]
 rw [List.getElem_append_left hi]
theorem dlu_dgs (l:List UInt8) (h:allD l=true):Dgs (dlu l):=by
 intro d hd
 simp only [dlu,List.mem_map] at hd
 obtain ⟨c,hc,rfl⟩:=hd
 have:=(isDig_iff c).1 ((List.all_eq_true.1 h) c hc)
 omega
structure PSt (w:World) (b:Nat) (n:Bool) (wh fr:ByteArray) (pn:Bool) (pw:ByteArray) (d:List Nat) (W:World):Prop where
 below:Below w.heap.size w W
 hp:PBox W b n wh fr pn pw
 hb:Box W w.heap.size false ⟨#[]⟩ 0
 hz:b + 1<W.heap.size
 hc:∀ i (h:i<d.length),W.cell? ⟨b + 1,0 + i,none⟩=some (.int .u8 (d[i]:Nat))
theorem PSt.drew {w:World} {b:Nat} {n:Bool} {wh fr:ByteArray} {pn:Bool} {pw:ByteArray} {d:List Nat} {W:World} (h:PSt w b n wh fr pn pw d W):PSt w b n wh fr pn pw d W.drew:=⟨h.below.drew,h.hp,h.hb,h.hz,h.hc⟩
theorem PSt.then {w:World} {b:Nat} {n:Bool} {wh fr:ByteArray} {pn:Bool} {pw:ByteArray} {d:List Nat} {W W1:World} (h:PSt w b n wh fr pn pw d W) (hb:Below W.heap.size W W1):PSt w b n wh fr pn pw d W1 :=
 ⟨below_then h.below hb,h.hp.below hb h.hp.lt,h.hb.below hb h.hb.lt,Nat.lt_of_lt_of_le h.hz hb.size,fun i hi=>(hb.cell (p:=⟨b + 1,0 + i,none⟩) h.hz).trans (h.hc i hi)⟩
theorem powF_bounds (pn:Bool) (l:List UInt8) (h:allD l=true):-9129≤powF pn l∧powF pn l≤9129:=by
 have:=pwA_le l 0 h (by omega)
 unfold powF
 split <;> omega
theorem parse_none (s:ByteArray) (w:World) (hs:s.size≤100000) (h:splitL (bl s)=none) :
  Calls Tryz.prog 143 #[.string s] w fun e w'=>e=retF (false,⟨#[]⟩,0,10)∧Below w.heap.size w w':=by
 have hB:=hide (box_new w false ⟨#[]⟩ 0)
 have h:=hide h
 go_enter Tryz.func143, Tryz.ntmps143
 go_wp2_with fail
 refine (split_any s _ hs).mono ?_
 rw [h.out]
 rintro e w1 ⟨rfl,hb1⟩
 have hB1:=hide (hB.out.below hb1 (by simp))
 have hl:=hB1.out.lt
 obtain ⟨c0,c1,c2,f0,f1,f2⟩:=hB1.out.cells
 have hb:=hide (below_alloc hb1)
 clear hb1
 simp only [splitE,partsE,if_true,Bool.false_eq_true,if_false]
 go_wp2
 refine bodyPost_ret (v:=.tuple #[.agg #[.bool false,.string ⟨#[]⟩,.int .i64 0],.int .i64 10]) (by simp [results,Tryz.results143,go_sem,c0,c1,c2,hl]) rfl ⟨rfl,?_⟩
 refine below_al ?_
 iterate 3 refine below_set ?_ (by omega)
 exact hb.out
theorem parse_long (s:ByteArray) (w:World) (hs:s.size≤100000) (n:Bool) (wh fr:List UInt8) (pn:Bool) (pw:List UInt8) (h:splitL (bl s)=some (n,wh,fr,pn,pw)) (hlong:512<s.size) :
  Calls Tryz.prog 143 #[.string s] w fun e w'=>e=retF (false,⟨#[]⟩,0,2)∧Below w.heap.size w w':=by
 have hB:=hide (box_new w false ⟨#[]⟩ 0)
 have h:=hide h
 go_enter Tryz.func143, Tryz.ntmps143
 go_wp2_with fail
 refine (split_any s _ hs).mono ?_
 rw [h.out]
 rintro e w1 ⟨rfl,hb1⟩
 have hB1:=hide (hB.out.below hb1 (by simp))
 have hl:=hB1.out.lt
 obtain ⟨c0,c1,c2,f0,f1,f2⟩:=hB1.out.cells
 have hb:=hide (below_alloc hb1)
 clear hb1
 simp only [splitE,partsE,if_true,Bool.false_eq_true,if_false]
 go_wp2
 refine bodyPost_ret (v:=.tuple #[.agg #[.bool false,.string ⟨#[]⟩,.int .i64 0],.int .i64 2]) (by simp [results,Tryz.results143,go_sem,c0,c1,c2,hl]) rfl ⟨rfl,?_⟩
 refine below_al ?_
 iterate 3 refine below_set ?_ (by omega)
 exact hb.out
structure Fin (w W:World):Prop where
 below:Below w.heap.size w W
 box:Box W w.heap.size false ⟨#[]⟩ 0
def nmd (a b:List UInt8):List UInt8:=[123]++(quo a++([58]++(quo b++[125])))
set_option maxRecDepth 100000 in
theorem named_any (a b:ByteArray) (A:List UInt8) (W:World) (i:Nat) (h:WB W i A) (hA:A.length≤65536) (ha:a.size≤281474976710656) (hb:b.size≤281474976710656) :
  Calls Tryz.prog 44 #[.pointer (some ⟨i,0,none⟩),.string a,.string b] W fun e w'=>WO i A (nmd (bl a) (bl b)) W e w':=by
 have hp:=hide (fun s A W (h:WB W i A) (hA:A.length≤65536) (hs:s.size≤281474976710656)=>put_any s A W i h hA hs)
 have ht:=hide (fun s A W (h:WB W i A) (hA:A.length≤65536) (hs:s.size≤281474976710656)=>text_any s A W i h hA hs)
 have h':=hide h
 have hA':=hide hA
 clear h hA
 have hq:=hide (show nmd (bl a) (bl b)=[123]++(quo (bl a)++([58]++(quo (bl b)++[125]))) from rfl)
 have ha':=hide ha
 have hb':=hide hb
 clear ha hb
 go_enter Tryz.func44, Tryz.ntmps44
 go_wp2_with (go_at_call 41;refine Sto.out ?_)
 refine Sto.mk ((hp.out ⟨#[123]⟩ (A) W h'.out hA'.out (by decide)).mono ?_)
 rintro e w1 hw1
 replace hw1:WO i (A) ([123]) W e w1:=hw1
 rcases hw1 with ⟨hb1,⟨q1,rfl,hW1⟩|⟨q1,rfl⟩⟩
 ·have B1:Hid (FW i W w1):=hb1
  have X1:Hid (WB w1 i (A++([123]))):=hW1
  have L1:Hid ((A++([123])).length≤65536):=by show _≤_;rw [List.length_append];exact q1
  clear hb1 hW1 q1
  go_wp2_with (go_at_call 46;refine Sto.out ?_)
  refine Sto.mk ((ht.out a (A++([123])) w1 X1.out L1.out ha'.out).mono ?_)
  rintro e w2 hw2
  replace hw2:WO i (A++([123])) (quo (bl a)) w1 e w2:=hw2
  rcases hw2 with ⟨hb2,⟨q2,rfl,hW2⟩|⟨q2,rfl⟩⟩
  ·have B2:Hid (FW i W w2):=B1.out.trans hb2
   have X2:Hid (WB w2 i (A++([123])++(quo (bl a)))):=hW2
   have L2:Hid ((A++([123])++(quo (bl a))).length≤65536):=by show _≤_;rw [List.length_append];exact q2
   clear hb2 hW2 q2
   go_wp2_with (go_at_call 41;refine Sto.out ?_)
   refine Sto.mk ((hp.out ⟨#[58]⟩ (A++([123])++(quo (bl a))) w2 X2.out L2.out (by decide)).mono ?_)
   rintro e w3 hw3
   replace hw3:WO i (A++([123])++(quo (bl a))) ([58]) w2 e w3:=hw3
   rcases hw3 with ⟨hb3,⟨q3,rfl,hW3⟩|⟨q3,rfl⟩⟩
   ·have B3:Hid (FW i W w3):=B2.out.trans hb3
    have X3:Hid (WB w3 i (A++([123])++(quo (bl a))++([58]))):=hW3
    have L3:Hid ((A++([123])++(quo (bl a))++([58])).length≤65536):=by show _≤_;rw [List.length_append];exact q3
    clear hb3 hW3 q3
    go_wp2_with (go_at_call 46;refine Sto.out ?_)
    refine Sto.mk ((ht.out b (A++([123])++(quo (bl a))++([58])) w3 X3.out L3.out hb'.out).mono ?_)
    rintro e w4 hw4
    replace hw4:WO i (A++([123])++(quo (bl a))++([58])) (quo (bl b)) w3 e w4:=hw4
    rcases hw4 with ⟨hb4,⟨q4,rfl,hW4⟩|⟨q4,rfl⟩⟩
    ·have B4:Hid (FW i W w4):=B3.out.trans hb4
     have X4:Hid (WB w4 i (A++([123])++(quo (bl a))++([58])++(quo (bl b)))):=hW4
     have L4:Hid ((A++([123])++(quo (bl a))++([58])++(quo (bl b))).length≤65536):=by show _≤_;rw [List.length_append];exact q4
     clear hb4 hW4 q4
     go_wp2_with (go_at_call 41;refine Sto.out ?_)
     refine Sto.mk ((hp.out ⟨#[125]⟩ (A++([123])++(quo (bl a))++([58])++(quo (bl b))) w4 X4.out L4.out (by decide)).mono ?_)
     rintro e w5 hw5
     replace hw5:WO i (A++([123])++(quo (bl a))++([58])++(quo (bl b))) ([125]) w4 e w5:=hw5
     have H:=hide (WO.trans (A:=A) (T:=([123])++(quo (bl a))++([58])++(quo (bl b))) B4.out (by have:=L4.out;simp only [List.length_append] at this ⊢;omega) (by simpa only [List.append_assoc] using hw5))
     rcases hw5 with ⟨_,⟨_,rfl,_⟩|⟨_,rfl⟩⟩
     ·go_wp2_with fail
      go_end0
      rw [hq.out]
      simpa only [List.append_assoc,List.cons_append,List.nil_append] using H.out
     ·go_wp2_with fail
      refine ⟨rfl,?_⟩
      rw [hq.out]
      simpa only [List.append_assoc,List.cons_append,List.nil_append] using H.out
    ·have H:=hide (WO.fail (A:=A) (T:=([123])++(quo (bl a))++([58])++(quo (bl b))) (U:=([125])) (B3.out.trans hb4) (by first|exact q4|(simp only [List.length_append] at q4 ⊢;omega)))
     clear hb4 q4
     go_wp2_with fail
     refine ⟨rfl,?_⟩
     rw [hq.out]
     simpa only [List.append_assoc,List.cons_append,List.nil_append] using H.out
   ·have H:=hide (WO.fail (A:=A) (T:=([123])++(quo (bl a))++([58])) (U:=(quo (bl b))++([125])) (B2.out.trans hb3) (by first|exact q3|(simp only [List.length_append] at q3 ⊢;omega)))
    clear hb3 q3
    go_wp2_with fail
    refine ⟨rfl,?_⟩
    rw [hq.out]
    simpa only [List.append_assoc,List.cons_append,List.nil_append] using H.out
  ·have H:=hide (WO.fail (A:=A) (T:=([123])++(quo (bl a))) (U:=([58])++(quo (bl b))++([125])) (B1.out.trans hb2) (by first|exact q2|(simp only [List.length_append] at q2 ⊢;omega)))
   clear hb2 q2
   go_wp2_with fail
   refine ⟨rfl,?_⟩
   rw [hq.out]
   simpa only [List.append_assoc,List.cons_append,List.nil_append] using H.out
 ·have H:=hide (WO.fail (A:=A) (T:=([123])) (U:=(quo (bl a))++([58])++(quo (bl b))++([125])) hb1 (by first|exact q1|(simp only [List.length_append] at q1 ⊢;omega)))
  clear hb1 q1
  go_wp2_with fail
  refine ⟨rfl,?_⟩
  rw [hq.out]
  simpa only [List.append_assoc,List.cons_append,List.nil_append] using H.out
def flgL (b:Bool):List UInt8:=bif b then [116,114,117,101] else [102,97,108,115,101]
set_option maxRecDepth 100000 in
theorem flag_true (A:List UInt8) (W:World) (i:Nat) (h:WB W i A) (hA:A.length≤65536) :
  Calls Tryz.prog 42 #[.pointer (some ⟨i,0,none⟩),.bool true] W fun e w'=>WO i A (flgL true) W e w':=by
 have hp:=hide (fun s A W (h:WB W i A) (hA:A.length≤65536) (hs:s.size≤281474976710656)=>put_any s A W i h hA hs)
 have ht:=hide (fun s A W (h:WB W i A) (hA:A.length≤65536) (hs:s.size≤281474976710656)=>text_any s A W i h hA hs)
 have h':=hide h
 have hA':=hide hA
 clear h hA
 have hq:=hide (show flgL true=[116,114,117,101] from rfl)
 go_enter Tryz.func42, Tryz.ntmps42
 go_wp2_with (go_at_call 41;refine Sto.out ?_)
 refine Sto.mk ((hp.out ⟨#[116,114,117,101]⟩ (A) W h'.out hA'.out (by decide)).mono ?_)
 rintro e w1 hw1
 replace hw1:WO i (A) ([116,114,117,101]) W e w1:=hw1
 have H:=hide hw1
 rcases hw1 with ⟨_,⟨_,rfl,_⟩|⟨_,rfl⟩⟩
 ·go_wp2_with fail
  go_end0
  rw [hq.out]
  simpa only [List.append_assoc,List.cons_append,List.nil_append] using H.out
 ·go_wp2_with fail
  refine ⟨rfl,?_⟩
  rw [hq.out]
  simpa only [List.append_assoc,List.cons_append,List.nil_append] using H.out
set_option maxRecDepth 100000 in
theorem flag_false (A:List UInt8) (W:World) (i:Nat) (h:WB W i A) (hA:A.length≤65536) :
  Calls Tryz.prog 42 #[.pointer (some ⟨i,0,none⟩),.bool false] W fun e w'=>WO i A (flgL false) W e w':=by
 have hp:=hide (fun s A W (h:WB W i A) (hA:A.length≤65536) (hs:s.size≤281474976710656)=>put_any s A W i h hA hs)
 have ht:=hide (fun s A W (h:WB W i A) (hA:A.length≤65536) (hs:s.size≤281474976710656)=>text_any s A W i h hA hs)
 have h':=hide h
 have hA':=hide hA
 clear h hA
 have hq:=hide (show flgL false=[102,97,108,115,101] from rfl)
 go_enter Tryz.func42, Tryz.ntmps42
 go_wp2_with (go_at_call 41;refine Sto.out ?_)
 refine Sto.mk ((hp.out ⟨#[102,97,108,115,101]⟩ (A) W h'.out hA'.out (by decide)).mono ?_)
 rintro e w1 hw1
 replace hw1:WO i (A) ([102,97,108,115,101]) W e w1:=hw1
 have H:=hide hw1
 rcases hw1 with ⟨_,⟨_,rfl,_⟩|⟨_,rfl⟩⟩
 ·go_wp2_with fail
  go_end0
  rw [hq.out]
  simpa only [List.append_assoc,List.cons_append,List.nil_append] using H.out
 ·go_wp2_with fail
  refine ⟨rfl,?_⟩
  rw [hq.out]
  simpa only [List.append_assoc,List.cons_append,List.nil_append] using H.out
theorem flag_any (b:Bool) (A:List UInt8) (W:World) (i:Nat) (h:WB W i A) (hA:A.length≤65536) :
  Calls Tryz.prog 42 #[.pointer (some ⟨i,0,none⟩),.bool b] W fun e w'=>WO i A (flgL b) W e w':=by
 cases b
 ·exact flag_false A W i h hA
 ·exact flag_true A W i h hA
def cmL (n:Nat):List UInt8:=bif n==0 then [] else [44]
set_option maxRecDepth 100000 in
theorem comma_any (n:Nat) (A:List UInt8) (W:World) (i:Nat) (h:WB W i A) (hA:A.length≤65536) :
  Calls Tryz.prog 76 #[.pointer (some ⟨i,0,none⟩),.int .i64 n] W fun e w'=>WO i A (cmL n) W e w':=by
 have hp:=hide (fun s A W (h:WB W i A) (hA:A.length≤65536) (hs:s.size≤281474976710656)=>put_any s A W i h hA hs)
 have ht:=hide (fun s A W (h:WB W i A) (hA:A.length≤65536) (hs:s.size≤281474976710656)=>text_any s A W i h hA hs)
 have h':=hide h
 have hA':=hide hA
 clear h hA
 by_cases hn:n=0
 ·subst hn
  go_enter Tryz.func76, Tryz.ntmps76
  go_wp2_with fail
  go_end0
  exact ⟨FW.refl _ _,Or.inl ⟨by have:=hA'.out;simp [cmL];omega,rfl,by simpa [cmL] using h'.out⟩⟩
 ·have hq:=hide (show cmL n=[44] by unfold cmL;rw [show (n==0)=false by simpa using hn];rfl)
  have hn1:(0:Int)<(n:Int):=by omega
  have hn':=hide hn
  clear hn
  go_enter Tryz.func76, Tryz.ntmps76
  go_wp2_with (go_at_call 41;refine Sto.out ?_)
  refine Sto.mk ((hp.out ⟨#[44]⟩ (A) W h'.out hA'.out (by decide)).mono ?_)
  rintro e w1 hw1
  replace hw1:WO i (A) ([44]) W e w1:=hw1
  have H:=hide hw1
  rcases hw1 with ⟨_,⟨_,rfl,_⟩|⟨_,rfl⟩⟩
  ·go_wp2_with fail
   go_end0
   rw [hq.out]
   simpa only [List.append_assoc,List.cons_append,List.nil_append] using H.out
  ·go_wp2_with fail
   refine ⟨rfl,?_⟩
   rw [hq.out]
   simpa only [List.append_assoc,List.cons_append,List.nil_append] using H.out
def Tells (b:Bool) (p:Prop):Prop:=Hid (b=true↔p)
def TB (p:Prop) (w:World) (e:Ending) (w':World):Prop:=∃ b,e=.returned (.bool b)∧Tells b p∧Below w.heap.size w w'
theorem TB.yes {p:Prop} {w w':World} (h:p) (hb:Below w.heap.size w w'):TB p w (.returned (.bool true)) w':=⟨true,rfl,(show Hid _ from ⟨(fun _=>h),(fun _=>rfl)⟩),hb⟩
theorem TB.no {p:Prop} {w w':World} (h:¬ p) (hb:Below w.heap.size w w'):TB p w (.returned (.bool false)) w':=⟨false,rfl,(show Hid _ from ⟨(fun h=>by cases h),(fun k=>absurd k h)⟩),hb⟩
theorem take_eq {α:Type} {l m:List α} {k:Nat} (hl:k<l.length) (hm:k<m.length) (h:l.take k=m.take k) (he:l[k]=m[k]):l.take (k + 1)=m.take (k + 1):=by
 rw [List.take_succ_eq_append_getElem hl,List.take_succ_eq_append_getElem hm,h,he]
theorem below_dn {B:Nat} {w W:World} (h:Below B w W) (n:Nat):Below B w (W.drewN n):=⟨h.os,h.tape,h.output,h.size,h.block⟩
set_option maxRecDepth 100000 in
theorem sequal_any (u v:Value) (l m:List ByteArray) (w:World) (hu:NL w u l) (hv:NL w v m) :
  Calls Tryz.prog 129 #[u,v] w fun e w'=>TB (l=m) w e w':=by
 obtain ⟨au,cu,rfl,hu1,hu2⟩:=hu.len
 obtain ⟨av,cv,rfl,hv1,hv2⟩:=hv.len
 have hu:=hide hu
 have hv:=hide hv
 have ml:maxLen=9223372036854775807:=rfl
 by_cases hl:(l.length:Int)=(m.length:Int)
 ·have hml:=hide (show m.length=l.length by omega)
  rw [hml.out] at hv1 ⊢
  clear hl
  go_enter Tryz.func129, Tryz.ntmps129
  go_wp2_with fail
  go_loopw [13] (fun i w'=>∃ k:Nat,i=.int .i64 k∧k≤l.length∧Hid (l.take k=m.take k∧Below w.heap.size w w')) (fun i _=>l.length - (intOf i).toNat)
  case atStart=>exact ⟨0,rfl,Nat.zero_le _,rfl,Below.refl _ _⟩
  case round =>
   obtain ⟨k,rfl,hk,H⟩:=hrel
   by_cases hkl:k<l.length
   ·have hki:(k:Int)<(l.length:Int):=by omega
    have hk63:(k:Int)<9223372036854775807:=by omega
    obtain ⟨b,o,c,he,hbl,hlc,hcm,hcell⟩:=hu.out.at k hkl
    have he':=Value.slice.inj he
    obtain ⟨rfl,_,rfl⟩:=he'
    clear he
    have hcell:=(H.out.2.cell (p:=⟨b,o + k,none⟩) hbl).trans hcell
    obtain ⟨b',o',c',he,hbl',hlc',hcm',hcell'⟩:=hv.out.at k (by rw [hml.out];exact hkl)
    have he':=Value.slice.inj he
    obtain ⟨rfl,_,rfl⟩:=he'
    clear he
    have hcell':=(H.out.2.cell (p:=⟨b',o' + k,none⟩) hbl').trans hcell'
    obtain ⟨s,hs⟩:∃ s,l[k]=s:=⟨_,rfl⟩
    obtain ⟨t,ht⟩:∃ t,m[k]'(by rw [hml.out];exact hkl)=t:=⟨_,rfl⟩
    rw [hs] at hcell
    rw [ht] at hcell'
    have hs':=hide hs
    have ht':=hide ht
    clear hs ht
    by_cases hst:s=t
    ·subst hst
     go_wp2_with fail
     go_quiet (fail)
     go_wp2_with fail
     refine ⟨⟨k + 1,by go_num,by omega,take_eq hkl (by rw [hml.out];exact hkl) H.out.1 (by rw [hs'.out,ht'.out]),?_⟩,by simp [intOf];omega⟩
     exact below_dn H.out.2 _
    ·have hst2:decide (s=t)=false:=decide_eq_false hst
     have hst3:(s.toList==t.toList)=false:=by
      rw [beq_eq_false_iff_ne]
      intro h
      exact hst (ByteArray.ext (Array.toList_inj.1 (by rw [ByteArray.toList_eq,ByteArray.toList_eq] at h;exact h)))
     have hne:l≠m:=by
      intro h
      subst h
      rw [hs'.out] at ht'
      exact hst ht'.out
     have hne':=hide hne
     clear hne
     go_wp2_with fail
     go_quiet (fail)
     go_wp2_with fail
     go_ret
     exact TB.no hne'.out (below_dn H.out.2 _)
   ·have hki:¬ ((k:Int)<(l.length:Int)):=by omega
    have hE:=H.out.1
    rw [List.take_of_length_le (by omega),List.take_of_length_le (by rw [hml.out];omega)] at hE
    have hE':=hide hE
    clear hE
    go_wp2_with fail
    go_ret
    exact TB.yes hE'.out H.out.2
 ·go_enter Tryz.func129, Tryz.ntmps129
  go_wp2_with fail
  go_ret
  exact TB.no (fun h=>by rw [h] at hl;exact absurd rfl hl) (Below.refl _ _)
theorem ba_ne {s t:ByteArray} (h:¬ s=t):(s.toList==t.toList)=false:=by
 rw [beq_eq_false_iff_ne]
 intro e
 exact h (ByteArray.ext (Array.toList_inj.1 (by rw [ByteArray.toList_eq,ByteArray.toList_eq] at e;exact e)))
theorem two_cells {w w1:World} {c1 c2:Array Value} {T1 T2:TypeId} (hb:Below ((w.alloc (.cells c1 T1)).alloc (.cells c2 T2)).heap.size ((w.alloc (.cells c1 T1)).alloc (.cells c2 T2)) w1) (j:Nat):w1.cell? ⟨w.heap.size,j,none⟩=c1[j]?∧w1.cell? ⟨w.heap.size + 1,j,none⟩=c2[j]?:=by
 have h1:((w.alloc (.cells c1 T1)).alloc (.cells c2 T2)).heap=(w.heap.push (.cells c1 T1)).push (.cells c2 T2):=rfl
 have s1:((w.alloc (.cells c1 T1)).alloc (.cells c2 T2)).heap.size=w.heap.size + 2:=by rw [h1];simp
 have b1:=hb.block w.heap.size (by rw [s1];omega)
 have b2:=hb.block (w.heap.size + 1) (by rw [s1];omega)
 rw [h1] at b1 b2
 have g1:((w.heap.push (Obj.cells c1 T1)).push (Obj.cells c2 T2))[w.heap.size]?=some (.cells c1 T1):=by simp [Array.getElem?_push]
 have g2:((w.heap.push (Obj.cells c1 T1)).push (Obj.cells c2 T2))[w.heap.size + 1]?=some (.cells c2 T2):=by rw [show w.heap.size + 1=(w.heap.push (Obj.cells c1 T1)).size by simp,Array.getElem?_push_size]
 rw [g1] at b1
 rw [g2] at b2
 unfold World.cell?
 simp only [b1,b2]
 exact ⟨rfl,rfl⟩
def EqOk (n:Nat):Prop:=∀ (x y:VT n) (ns ls ns' ls':Value) (w:World),RD n w x ns ls→RD n w y ns' ls' →
  Calls Tryz.prog 108 #[.agg (vals (vhd n x) ns ls),.agg (vals (vhd n y) ns' ls')] w fun e w'=>TB (x=y) w e w'
set_option maxRecDepth 100000 in
theorem eqfunc_any (n:Nat) (ih:EqOk n) (x y:VT (n + 1)) (ns ls ns' ls':Value) (w:World) (hu:RD (n + 1) w x ns ls) (hv:RD (n + 1) w y ns' ls') :
  Calls Tryz.prog 130 #[ls,ls',.func (.func 108) #[] #[]] w fun e w'=>TB (x.2=y.2) w e w':=by
 obtain ⟨h,l⟩:=x
 obtain ⟨g,m⟩:=y
 obtain ⟨al,cl,rfl,hl1,hl2⟩:=hu.len
 obtain ⟨bl',dl,rfl,hm1,hm2⟩:=hv.len
 have hu:=hide hu
 have hv:=hide hv
 simp only at hl1 hl2 hm1 hm2 ⊢
 have ml:maxLen=9223372036854775807:=rfl
 by_cases hl:(l.length:Int)=(m.length:Int)
 ·have hml:=hide (show m.length=l.length by omega)
  rw [hml.out] at hm1 ⊢
  clear hl
  go_enter Tryz.func130, Tryz.ntmps130
  go_wp2_with fail
  go_loopw [17] (fun i w'=>∃ k:Nat,i=.int .i64 k∧k≤l.length∧Hid (l.take k=m.take k∧Below w.heap.size w w')) (fun i _=>l.length - (intOf i).toNat)
  case atStart=>exact ⟨0,rfl,Nat.zero_le _,rfl,Below.refl _ _⟩
  case round =>
   obtain ⟨k,rfl,hk,H⟩:=hrel
   by_cases hkl:k<l.length
   ·have hki:(k:Int)<(l.length:Int):=by omega
    have hk63:(k:Int)<9223372036854775807:=by omega
    obtain ⟨b,o,c,he,hbl,hlc,hcm,ns1,ls1,hrg,hrd⟩:=hu.out.at k hkl
    have he':=Value.slice.inj he
    obtain ⟨rfl,_,rfl⟩:=he'
    clear he
    obtain ⟨q0,q1,q2,q3,q4,q5,q6,q7,q8⟩:=range9 (rangeAt_below hrg H.out.2 hbl)
    have hkm:k<m.length:=by rw [hml.out];exact hkl
    obtain ⟨b',o',c',he,hbl',hlc',hcm',ns2,ls2,hrg',hrd'⟩:=hv.out.at k hkm
    have he':=Value.slice.inj he
    obtain ⟨rfl,_,rfl⟩:=he'
    clear he
    have hwr:Hid (∀ o,Below w.heap.size w (wr.alloc o)):=fun o=>below_al H.out.2
    have hwr2:Hid (∀ o o',Below w.heap.size w ((wr.alloc o).alloc o')):=fun o o'=>below_al (below_al H.out.2)
    have R9:=fun ob=>range9 (rangeAt_below hrg' (hwr.out ob) hbl')
    have r0:=fun ob=>(R9 ob).1
    have r1:=fun ob=>(R9 ob).2.1
    have r2:=fun ob=>(R9 ob).2.2.1
    have r3:=fun ob=>(R9 ob).2.2.2.1
    have r4:=fun ob=>(R9 ob).2.2.2.2.1
    have r5:=fun ob=>(R9 ob).2.2.2.2.2.1
    have r6:=fun ob=>(R9 ob).2.2.2.2.2.2.1
    have r7:=fun ob=>(R9 ob).2.2.2.2.2.2.2.1
    have r8:=fun ob=>(R9 ob).2.2.2.2.2.2.2.2
    clear R9
    have hd1:=hide hrd
    have hd2:=hide hrd'
    obtain ⟨a1,m1,d1,a2,m2,d2,rfl,rfl⟩:=hrd.shape
    obtain ⟨a3,m3,d3,a4,m4,d4,rfl,rfl⟩:=hrd'.shape
    clear hrg hrd hrg' hrd'
    have hcall:=hide (fun o o'=>ih l[k] m[k] _ _ _ _ _ (hd1.out.below (hwr2.out o o')) (hd2.out.below (hwr2.out o o')))
    go_wp2_with fail
    refine (hcall.out _ _).mono ?_
    rintro e w2 ⟨b2,rfl,hT,hb1⟩
    have hb2:=hide (below_then (hwr2.out _ _) hb1)
    cases b2
    ·have hne:¬ l=m:=by
      intro e
      have:=hT.2 (by subst e;rfl)
      cases this
     have hne':=hide hne
     clear hne
     go_wp2_with fail
     go_ret
     exact TB.no hne'.out hb2.out
    ·have hEq:=hide (hT.1 rfl)
     go_wp2_with fail
     exact ⟨⟨k + 1,by go_num,by omega,take_eq hkl hkm H.out.1 hEq.out,hb2.out⟩,by simp [intOf];omega⟩
   ·have hki:¬ ((k:Int)<(l.length:Int)):=by omega
    have hE:=H.out.1
    rw [List.take_of_length_le (by omega),List.take_of_length_le (by rw [hml.out];omega)] at hE
    have hE':=hide hE
    clear hE
    go_wp2_with fail
    go_ret
    exact TB.yes hE'.out H.out.2
 ·go_enter Tryz.func130, Tryz.ntmps130
  go_wp2_with fail
  go_ret
  exact TB.no (fun h=>by rw [h] at hl;exact absurd rfl hl) (Below.refl _ _)
set_option maxRecDepth 100000 in
theorem equal_any:∀ n,EqOk n:=by
 intro n
 induction n with
 | zero=>intro x;exact Empty.elim x
 | succ n ih =>
  intro x y ns ls ns' ls' w hx hy
  obtain ⟨h,l⟩:=x
  obtain ⟨g,m⟩:=y
  obtain ⟨al,cl,rfl,hl1,hl2⟩:=hx.len
  obtain ⟨an,cn,rfl,hn1,hn2⟩:=hx.1.len
  obtain ⟨bl',dl,rfl,hm1,hm2⟩:=hy.len
  obtain ⟨bn,dn,rfl,ho1,ho2⟩:=hy.1.len
  have hx:=hide hx
  have hy:=hide hy
  show Calls _ _ #[.agg #[.int .i64 h.kind,.bool h.flag,.bool h.neg,.string h.dig,.int .i64 h.exp,.int .u64 h.bits,.string h.text,.slice an h.names.length cn,.slice al l.length cl],.agg #[.int .i64 g.kind,.bool g.flag,.bool g.neg,.string g.dig,.int .i64 g.exp,.int .u64 g.bits,.string g.text,.slice bn g.names.length dn,.slice bl' m.length dl]] _ _
  by_cases e0:h.kind=g.kind
  ·by_cases e1:h.flag=g.flag
   ·by_cases e2:h.neg=g.neg
    ·by_cases e3:h.dig=g.dig
     ·by_cases e4:h.exp=g.exp
      ·by_cases e5:h.bits=g.bits
       ·by_cases e6:h.text=g.text
        ·have hnm:=hide (fun o o'=>sequal_any (.slice an h.names.length cn) (.slice bn g.names.length dn) h.names g.names ((w.alloc o).alloc o') (hx.out.1.below (below_al (below_al (Below.refl _ _)))) (hy.out.1.below (below_al (below_al (Below.refl _ _)))))
         have hxy:((h,l):VT (n + 1))=(g,m)↔h.names=g.names∧l=m:=by
          constructor
          ·intro e;cases e;exact ⟨rfl,rfl⟩
          ·rintro ⟨e7,rfl⟩
           have:h=g:=by cases h;cases g;simp only at e0 e1 e2 e3 e4 e5 e6 e7;subst e0 e1 e2 e3 e4 e5 e6 e7;rfl
           rw [this]
         have hxy':=hide hxy
         have hlf:=hide (fun W (hb:Below w.heap.size w W)=>eqfunc_any n ih (h,l) (g,m) _ _ _ _ W (hx.out.below hb) (hy.out.below hb))
         clear hxy
         have B1:=hide (bx_new w h (.slice an h.names.length cn) (.slice al l.length cl))
         have B2:=hide (fun o=>bx_new (w.alloc o) g (.slice bn g.names.length dn) (.slice bl' m.length dl))
         go_enter Tryz.func108, Tryz.ntmps108
         go_wp2_with fail
         refine (hnm.out _ _).mono ?_
         rintro e w1 ⟨b,rfl,hT,hb1⟩
         obtain ⟨k1,k2⟩:=two_cells hb1 8
         replace k1:w1.cell? ⟨w.heap.size,8,none⟩=some (.slice al l.length cl):=k1
         replace k2:w1.cell? ⟨w.heap.size + 1,8,none⟩=some (.slice bl' m.length dl):=k2
         have hb2:=hide (below_then (below_al (below_al (Below.refl _ _))) hb1)
         cases b
         ·go_wp2_with fail
          go_ret
          exact TB.no (fun e=>by have:=hT.2 (hxy'.out.1 e).1;cases this) hb2.out
         ·have hcall:=hide (hlf.out w1 hb2.out)
          go_wp2_with (go_at_call 130;refine hcall.out.mono ?_;rintro e w2 ⟨b,rfl,hT2,hb3⟩)
          go_ret
          cases b
          ·exact TB.no (fun e=>by have:=hT2.2 (hxy'.out.1 e).2;cases this) (below_then hb2.out hb3)
          ·exact TB.yes (hxy'.out.2 ⟨hT.1 rfl,hT2.1 rfl⟩) (below_then hb2.out hb3)
        ·have q1:decide (h.text=g.text)=false:=decide_eq_false e6
         have q2:=ba_ne e6
         go_enter Tryz.func108, Tryz.ntmps108
         go_wp2_with fail
         go_ret
         exact TB.no (fun e=>e6 (by cases e;rfl)) (below_al (below_al (Below.refl _ _)))
       ·go_enter Tryz.func108, Tryz.ntmps108
        go_wp2_with fail
        go_ret
        exact TB.no (fun e=>e5 (by cases e;rfl)) (below_al (below_al (Below.refl _ _)))
      ·go_enter Tryz.func108, Tryz.ntmps108
       go_wp2_with fail
       go_ret
       exact TB.no (fun e=>e4 (by cases e;rfl)) (below_al (below_al (Below.refl _ _)))
     ·have q1:decide (h.dig=g.dig)=false:=decide_eq_false e3
      have q2:=ba_ne e3
      go_enter Tryz.func108, Tryz.ntmps108
      go_wp2_with fail
      go_ret
      exact TB.no (fun e=>e3 (by cases e;rfl)) (below_al (below_al (Below.refl _ _)))
    ·go_enter Tryz.func108, Tryz.ntmps108
     go_wp2_with fail
     go_ret
     exact TB.no (fun e=>e2 (by cases e;rfl)) (below_al (below_al (Below.refl _ _)))
   ·go_enter Tryz.func108, Tryz.ntmps108
    go_wp2_with fail
    go_ret
    exact TB.no (fun e=>e1 (by cases e;rfl)) (below_al (below_al (Below.refl _ _)))
  ·go_enter Tryz.func108, Tryz.ntmps108
   go_wp2_with fail
   go_ret
   exact TB.no (fun e=>e0 (by cases e;rfl)) (below_al (below_al (Below.refl _ _)))
end Go.Proofs.YtpimjkdakjhoaaaGreatDoor
