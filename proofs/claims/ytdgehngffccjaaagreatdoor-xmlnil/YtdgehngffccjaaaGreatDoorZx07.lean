/- Merged by program: NxLay, NyParse, NzParse, JfSmall, ReText, YbFmt. -/
import Derived.Test.YtdgehngffccjaaaGreatDoorZx05
import Derived.Test.YtdgehngffccjaaaGreatDoorZx06
namespace Go.Proofs.YtdgehngffccjaaaGreatDoor
open Go.RowKit
set_option linter.unusedSimpArgs false
set_option linter.unusedVariables false
set_option maxHeartbeats 8000000
def pwA (acc:Nat):List UInt8→Nat
 | []=>acc
 | c :: l=>if acc≤912 then pwA (acc * 10 + (c.toNat - 48)) l else acc
theorem pwA_far (acc:Nat) (l:List UInt8) (h:¬ acc≤912):pwA acc l=acc:=by cases l <;> simp [pwA,h]
def powF (pn:Bool) (l:List UInt8):Int:=if pn then -(pwA 0 l:Int) else pwA 0 l
theorem pwA_le:∀ (l:List UInt8) (acc:Nat),allD l=true→acc≤9129→pwA acc l≤9129
 | [],acc,_,h=>h
 | c :: l,acc,hd,h=>by
  simp only [allD,List.all_cons,Bool.and_eq_true] at hd
  have:=(isDig_iff c).1 hd.1
  unfold pwA
  split
  ·exact pwA_le l _ hd.2 (by omega)
  ·exact h
theorem powerOf_any (n:Bool) (wh fr:ByteArray) (pn:Bool) (pw:ByteArray) (w:World) (hs:pw.size≤100000) (hd:allD (bl pw)=true) :
  Calls Tryz.prog 169 #[.agg #[.bool n,.string wh,.string fr,.bool pn,.string pw]] w fun e w'=>e=.returned (.int .i64 (powF pn (bl pw)))∧Below w.heap.size w w':=by
 have hd:=hide hd
 go_enter Tryz.func169, Tryz.ntmps169
 go_wp2
 go_loop [3,4] (fun p i=>∃ k acc:Nat,k≤pw.size∧i=.int .i64 k∧p=.int .i64 acc∧acc≤9129∧Hid (pwA 0 (bl pw)=pwA acc ((bl pw).drop k))) (fun _ i=>pw.size - (intOf i).toNat)
 case atStart=>exact ⟨0,0,Nat.zero_le _,rfl,rfl,by omega,rfl⟩
 case round =>
  obtain ⟨k,acc,hk,rfl,rfl,hacc,hp⟩:=hrel
  by_cases hlt:k<pw.size
  ·have hdrop:(bl pw).drop k=pw[k] :: (bl pw).drop (k + 1):=by
    rw [List.drop_eq_getElem_cons (by rw [bl_length];exact hlt),bl_get pw k hlt]
   have hdg:=allD_get pw hd.out k hlt
   by_cases hf:acc≤912
   ·have hp':Hid (pwA 0 (bl pw)=pwA (acc * 10 + (pw[k].toNat - 48)) ((bl pw).drop (k + 1))):=by
     show _=_
     rw [hp.out,hdrop];simp [pwA,hf]
    clear hdrop
    go_wp2
    go_round
    case rel=>exact ⟨k + 1,acc * 10 + (pw[k].toNat - 48),by omega,by go_num,by
     show Value.int _ _=Value.int _ _
     congr 1
     omega,by omega,hp'.out⟩
    case measure=>simp [intOf];omega
   ·have hp':Hid (pwA 0 (bl pw)=acc):=by
     show _=_
     rw [hp.out,pwA_far acc _ hf]
    have hf':decide ((acc:Int)≤912)=false:=decide_eq_false (by omega)
    clear hdrop
    cases pn
    all_goals
     go_wp2
     go_ret
     refine ⟨ret_int ?_,(Below.refl _ _).alloc (Nat.le_refl _) _⟩
     simp [powF,hp'.out]
  ·have hp':Hid (pwA 0 (bl pw)=acc):=by
    show _=_
    rw [hp.out,List.drop_of_length_le (by rw [bl_length];omega)];rfl
   cases pn
   all_goals
    go_wp2
    go_ret
    refine ⟨ret_int ?_,(Below.refl _ _).alloc (Nat.le_refl _) _⟩
    simp [powF,hp'.out]
def layR (p:List Nat) (o:Nat) (d:List Nat):List Nat:=p.take o++d++p.drop (o + d.length)
theorem layR_len (p:List Nat) (o:Nat) (d:List Nat) (h:o + d.length≤p.length):(layR p o d).length=p.length:=by
 unfold layR;simp;omega
theorem layR_step (p:List Nat) (o k:Nat) (d:List Nat) (hk:k<d.length) (h:o + d.length≤p.length):(layR p o (d.take k)).set (o + k) d[k]=layR p o (d.take (k + 1)):=by
 have hl:(p.take o++d.take k).length=o + k:=by simp;omega
 unfold layR
 rw [List.set_append_right _ _ (by rw [hl];exact Nat.le_refl _),hl,Nat.sub_self]
 have e1:(d.take k).length=k:=by simp;omega
 have e2:(d.take (k + 1)).length=k + 1:=by simp;omega
 rw [e1,e2,List.drop_eq_getElem_cons (by omega),List.set_cons_zero,List.take_succ_eq_append_getElem hk]
 simp only [List.append_assoc,List.cons_append,List.nil_append,Nat.add_assoc]
theorem lay_any (b o n c:Nat) (T:TypeId) (p:List Nat) (s:ByteArray) (w:World) (hA:Arr w b T p) (hsn:s.size≤n) (hon:o + n≤p.length) (hd:allD (bl s)=true) (hn:p.length≤100000) :
  Calls Tryz.prog 167 #[.slice (some ⟨b,o,none⟩) n c,.string s] w fun e w'=>e=.returned (.int .i64 s.size)∧Arr w' b T (layR p o (dg s))∧Only b w w':=by
 have hd:=hide hd
 have hA:=hide hA
 go_enter Tryz.func167, Tryz.ntmps167
 go_wp2
 go_loopw [8] (fun i wr=>∃ k:Nat,k≤s.size∧i=.int .i64 k∧Hid (Arr wr b T (layR p o ((dg s).take k)))∧Hid (Only b w wr)) (fun i _=>s.size - (intOf i).toNat)
 case atStart=>exact ⟨0,Nat.zero_le _,rfl,by show Arr _ _ _ _;simpa [layR] using hA.out,Only.refl _ _⟩
 case round =>
  obtain ⟨k,hk,rfl,hAr,hO⟩:=hrel
  by_cases hlt:k<s.size
  ·have hdg:=allD_get s hd.out k hlt
   have hl:(layR p o ((dg s).take k)).length=p.length:=layR_len _ _ _ (by simp [dg_length];omega)
   have hcl:=hAr.out.cell (o + k) (by omega)
   have hfz:=hAr.out.frozen (o + k)
   have hst:=hide (layR_step p o k (dg s) (by rw [dg_length];exact hlt) (by rw [dg_length];omega))
   have hdk:=hide (dg_get s k hlt)
   go_wp2
   refine ⟨⟨k + 1,by omega,by go_num,?_,?_⟩,by simp [intOf];omega⟩
   ·show Arr _ _ _ _
    rw [←hst.out,hdk.out]
    have:=hAr.out.set (o + k) (s[k].toNat - 48)
    rw [show (((s[k].toNat - 48:Nat):Int))=(s[k].toNat:Int) - 48 by omega] at this
    exact this
   ·exact hO.out.set _ _
  ·have htk:(dg s).take k=dg s:=List.take_of_length_le (by rw [dg_length];omega)
   rw [htk] at hAr
   clear htk
   go_wp2
   go_ret
   exact ⟨rfl,hAr.out,hO.out⟩
theorem lay_none (v:Value) (s:ByteArray) (w:World) (hs:s.size=0) :
  Calls Tryz.prog 167 #[v,.string s] w fun e w'=>e=.returned (.int .i64 0)∧w'=w:=by
 have hs':(s.size:Int)=0:=by omega
 go_enter Tryz.func167, Tryz.ntmps167
 go_wp2
 refine wp_loop_rounds 1 ?_
 rw [rounds_succ]
 go_wp2
 go_ret
 exact ⟨rfl,rfl⟩
theorem split_any (s:ByteArray) (w:World) (hs:s.size≤100000) :
  Calls Tryz.prog 166 #[.string s] w fun e w'=>e=splitE (splitL (bl s))∧Below w.heap.size w w':=by
 unfold splitL
 obtain ⟨wh,hwh⟩:∃ wh,(tlB 45 (bl s)).takeWhile isDig=wh:=⟨_,rfl⟩
 cases hbw:badW ((tlB 45 (bl s)).takeWhile isDig)
 ·simp only [Bool.false_eq_true,if_false]
  simp only [badW,Bool.or_eq_false_iff] at hbw
  have hne:1≤((tlB 45 (bl s)).takeWhile isDig).length:=by
   rcases hh:(tlB 45 (bl s)).takeWhile isDig with _|⟨a,l⟩
   ·rw [hh] at hbw;simp at hbw
   ·simp
  by_cases h1:((tlB 45 (bl s)).takeWhile isDig).length=1
  ·cases hpt:hdB 46 ((tlB 45 (bl s)).dropWhile isDig)
   ·simp only [Bool.false_eq_true,if_false]
    cases hL:(tlB 45 (bl s)).dropWhile isDig with
    | nil=>have:=split_one_no_nil s w hs h1 hpt hL;rwa [hL] at this
    | cons c r =>
     by_cases hc1:c=101
     ·have:=split_one_no_p s w hs h1 hpt c r hL (Or.inl hc1);rwa [hL] at this
     ·by_cases hc2:c=69
      ·have:=split_one_no_p s w hs h1 hpt c r hL (Or.inr hc2);rwa [hL] at this
      ·have:=split_one_no_bad s w hs h1 hpt c r hL hc1 hc2;rwa [hL] at this
   ·simp only [if_true]
    cases hfr:((tlB 46 ((tlB 45 (bl s)).dropWhile isDig)).takeWhile isDig).isEmpty
    ·simp only [Bool.false_eq_true,if_false]
     cases hL:(tlB 46 ((tlB 45 (bl s)).dropWhile isDig)).dropWhile isDig with
     | nil=>have:=split_one_pt_nil s w hs h1 hpt hfr hL;rwa [hL] at this
     | cons c r =>
      by_cases hc1:c=101
      ·have:=split_one_pt_p s w hs h1 hpt hfr c r hL (Or.inl hc1);rwa [hL] at this
      ·by_cases hc2:c=69
       ·have:=split_one_pt_p s w hs h1 hpt hfr c r hL (Or.inr hc2);rwa [hL] at this
       ·have:=split_one_pt_bad s w hs h1 hpt hfr c r hL hc1 hc2;rwa [hL] at this
    ·exact split_one_pt_none s w hs h1 hpt hfr
  ·have h1:1<((tlB 45 (bl s)).takeWhile isDig).length∧((tlB 45 (bl s)).takeWhile isDig).head?≠some 48:=by
    have h2:1<((tlB 45 (bl s)).takeWhile isDig).length:=by omega
    refine ⟨h2,?_⟩
    have:=hbw.2
    rw [decide_eq_true h2,Bool.true_and,beq_eq_false_iff_ne] at this
    exact this
   cases hpt:hdB 46 ((tlB 45 (bl s)).dropWhile isDig)
   ·simp only [Bool.false_eq_true,if_false]
    cases hL:(tlB 45 (bl s)).dropWhile isDig with
    | nil=>have:=split_more_no_nil s w hs h1 hpt hL;rwa [hL] at this
    | cons c r =>
     by_cases hc1:c=101
     ·have:=split_more_no_p s w hs h1 hpt c r hL (Or.inl hc1);rwa [hL] at this
     ·by_cases hc2:c=69
      ·have:=split_more_no_p s w hs h1 hpt c r hL (Or.inr hc2);rwa [hL] at this
      ·have:=split_more_no_bad s w hs h1 hpt c r hL hc1 hc2;rwa [hL] at this
   ·simp only [if_true]
    cases hfr:((tlB 46 ((tlB 45 (bl s)).dropWhile isDig)).takeWhile isDig).isEmpty
    ·simp only [Bool.false_eq_true,if_false]
     cases hL:(tlB 46 ((tlB 45 (bl s)).dropWhile isDig)).dropWhile isDig with
     | nil=>have:=split_more_pt_nil s w hs h1 hpt hfr hL;rwa [hL] at this
     | cons c r =>
      by_cases hc1:c=101
      ·have:=split_more_pt_p s w hs h1 hpt hfr c r hL (Or.inl hc1);rwa [hL] at this
      ·by_cases hc2:c=69
       ·have:=split_more_pt_p s w hs h1 hpt hfr c r hL (Or.inr hc2);rwa [hL] at this
       ·have:=split_more_pt_bad s w hs h1 hpt hfr c r hL hc1 hc2;rwa [hL] at this
    ·exact split_more_pt_none s w hs h1 hpt hfr
 ·simp only [if_true]
  simp only [badW,Bool.or_eq_true,Bool.and_eq_true,decide_eq_true_eq,beq_iff_eq] at hbw
  rcases hbw with h|h
  ·exact split_empty s w hs h
  ·exact split_lead s w hs h
theorem allD_tw (l:List UInt8):allD (l.takeWhile isDig)=true:=by
 unfold allD
 induction l with
 | nil=>rfl
 | cons a l ih =>
  by_cases h:isDig a=true
  ·simp [h]
  ·simp [h]
theorem splitL_facts {l:List UInt8} {n:Bool} {wh fr:List UInt8} {pn:Bool} {pw:List UInt8} (h:splitL l=some (n,wh,fr,pn,pw)) :
  allD wh=true∧allD fr=true∧allD pw=true∧1≤wh.length∧wh.length + fr.length≤l.length∧pw.length≤l.length:=by
 have key:∀ (n:Bool) (wh fr l4:List UInt8) (m:Nat),allD wh=true→allD fr=true→1≤wh.length→wh.length + fr.length≤m→l4.length≤m→∀ n' wh' fr' pn' pw',splitT n wh fr l4=some (n',wh',fr',pn',pw')→allD wh'=true∧allD fr'=true∧allD pw'=true∧1≤wh'.length∧wh'.length + fr'.length≤m∧pw'.length≤m:=by
  intro n wh fr l4 m h1 h2 h3 h4 h5 n' wh' fr' pn' pw' h
  unfold splitT at h
  cases l4 with
  | nil =>
   simp only [Option.some.injEq,Prod.mk.injEq] at h
   obtain ⟨_,rfl,rfl,_,rfl⟩:=h
   exact ⟨h1,h2,rfl,h3,h4,Nat.zero_le _⟩
  | cons c r =>
   simp only at h
   by_cases hc:(c==101 || c==69)=true
   ·by_cases hs:spOk r=true
    ·simp only [hc,hs,if_true,Option.some.injEq,Prod.mk.injEq] at h
     obtain ⟨_,rfl,rfl,_,rfl⟩:=h
     simp only [spOk,Bool.and_eq_true] at hs
     refine ⟨h1,h2,hs.2,h3,h4,?_⟩
     have:(spL r).length≤r.length:=by unfold spL;split <;> exact tlB_length _ _
     simp at h5
     omega
    ·simp only [hc,hs,if_true] at h
     cases h
   ·simp only [hc] at h
    cases h
 unfold splitL at h
 have e0:(tlB 45 l).takeWhile isDig++(tlB 45 l).dropWhile isDig=tlB 45 l:=List.takeWhile_append_dropWhile
 have e1:=congrArg List.length e0
 rw [List.length_append] at e1
 have e2:=tlB_length 45 l
 cases hbw:badW ((tlB 45 l).takeWhile isDig)
 ·rw [hbw] at h
  simp only [Bool.false_eq_true,if_false] at h
  have hne:1≤((tlB 45 l).takeWhile isDig).length:=by
   rcases hh:(tlB 45 l).takeWhile isDig with _|⟨a,l⟩
   ·rw [hh] at hbw;simp [badW] at hbw
   ·simp
  by_cases hpt:hdB 46 ((tlB 45 l).dropWhile isDig)=true
  ·rw [if_pos hpt] at h
   by_cases hfr:((tlB 46 ((tlB 45 l).dropWhile isDig)).takeWhile isDig).isEmpty=true
   ·rw [if_pos hfr] at h;cases h
   ·rw [if_neg hfr] at h
    have f0:(tlB 46 ((tlB 45 l).dropWhile isDig)).takeWhile isDig++(tlB 46 ((tlB 45 l).dropWhile isDig)).dropWhile isDig=tlB 46 ((tlB 45 l).dropWhile isDig):=List.takeWhile_append_dropWhile
    have f1:=congrArg List.length f0
    rw [List.length_append] at f1
    have f2:=tlB_length 46 ((tlB 45 l).dropWhile isDig)
    exact key _ _ _ _ l.length (allD_tw _) (allD_tw _) hne (by omega) (by omega) _ _ _ _ _ h
  ·rw [if_neg hpt] at h
   exact key _ _ _ _ l.length (allD_tw _) rfl hne (by simp;omega) (by omega) _ _ _ _ _ h
 ·rw [hbw] at h
  simp only [if_true] at h
  cases h
def dlu (l:List UInt8):List Nat:=l.map fun c=>c.toNat - 48
theorem dlu_mkB (l:List UInt8):dg (mkB l)=dlu l:=by unfold dg dlu;rw [bl_mkB]
def parseF (l:List UInt8):Bool×ByteArray×Int×Int :=
 match splitL l with
 | none=>(false,⟨#[]⟩,0,10)
 | some (n,wh,fr,pn,pw)=>if 512<l.length then (false,⟨#[]⟩,0,2) else formF n (dlu wh++dlu fr) (powF pn pw - fr.length)
theorem layR_nil (p:List Nat) (o:Nat):layR p o []=p:=by unfold layR;simp
theorem layR_two (a b:List Nat) (m:Nat) (h:a.length + b.length≤m) (i:Nat) (hi:i<(a++b).length) (hi':i<(layR (layR (List.replicate m 0) 0 a) a.length b).length):(layR (layR (List.replicate m 0) 0 a) a.length b)[i]=(a++b)[i]:=by
 have e:layR (layR (List.replicate m 0) 0 a) a.length b=a++b++List.replicate (m - a.length - b.length) 0:=by
  unfold layR
  simp [List.take_append,List.drop_append]
 simp only [e]
 rw [List.getElem_append_left hi]
theorem dlu_dgs (l:List UInt8) (h:allD l=true):Dgs (dlu l):=by
 intro d hd
 simp only [dlu,List.mem_map] at hd
 obtain ⟨c,hc,rfl⟩:=hd
 have:=(isDig_iff c).1 ((List.all_eq_true.1 h) c hc)
 omega
structure PSt (w:World) (b:Nat) (n:Bool) (wh fr:ByteArray) (pn:Bool) (pw:ByteArray) (d:List Nat) (W:World):Prop where
 below:Below w.heap.size w W
 hp:PBox W b n wh fr pn pw
 hb:Box W w.heap.size false ⟨#[]⟩ 0
 hz:b + 1<W.heap.size
 hc:∀ i (h:i<d.length),W.cell? ⟨b + 1,0 + i,none⟩=some (.int .u8 (d[i]:Nat))
theorem PSt.drew {w:World} {b:Nat} {n:Bool} {wh fr:ByteArray} {pn:Bool} {pw:ByteArray} {d:List Nat} {W:World} (h:PSt w b n wh fr pn pw d W):PSt w b n wh fr pn pw d W.drew:=⟨h.below.drew,h.hp,h.hb,h.hz,h.hc⟩
theorem PSt.then {w:World} {b:Nat} {n:Bool} {wh fr:ByteArray} {pn:Bool} {pw:ByteArray} {d:List Nat} {W W1:World} (h:PSt w b n wh fr pn pw d W) (hb:Below W.heap.size W W1):PSt w b n wh fr pn pw d W1 :=
 ⟨below_then h.below hb,h.hp.below hb h.hp.lt,h.hb.below hb h.hb.lt,Nat.lt_of_lt_of_le h.hz hb.size,fun i hi=>(hb.cell (p:=⟨b + 1,0 + i,none⟩) h.hz).trans (h.hc i hi)⟩
theorem powF_bounds (pn:Bool) (l:List UInt8) (h:allD l=true):-9129≤powF pn l∧powF pn l≤9129:=by
 have:=pwA_le l 0 h (by omega)
 unfold powF
 split <;> omega
theorem parse_none (s:ByteArray) (w:World) (hs:s.size≤100000) (h:splitL (bl s)=none) :
  Calls Tryz.prog 143 #[.string s] w fun e w'=>e=retF (false,⟨#[]⟩,0,10)∧Below w.heap.size w w':=by
 have hB:=hide (box_new w false ⟨#[]⟩ 0)
 have h:=hide h
 go_enter Tryz.func143, Tryz.ntmps143
 go_wp2_with fail
 refine (split_any s _ hs).mono ?_
 rw [h.out]
 rintro e w1 ⟨rfl,hb1⟩
 have hB1:=hide (hB.out.below hb1 (by simp))
 have hl:=hB1.out.lt
 obtain ⟨c0,c1,c2,f0,f1,f2⟩:=hB1.out.cells
 have hb:=hide (below_alloc hb1)
 clear hb1
 simp only [splitE,partsE,if_true,Bool.false_eq_true,if_false]
 go_wp2
 refine bodyPost_ret (v:=.tuple #[.agg #[.bool false,.string ⟨#[]⟩,.int .i64 0],.int .i64 10]) (by simp [results,Tryz.results143,go_sem,c0,c1,c2,hl]) rfl ⟨rfl,?_⟩
 refine below_al ?_
 iterate 3 refine below_set ?_ (by omega)
 exact hb.out
theorem parse_long (s:ByteArray) (w:World) (hs:s.size≤100000) (n:Bool) (wh fr:List UInt8) (pn:Bool) (pw:List UInt8) (h:splitL (bl s)=some (n,wh,fr,pn,pw)) (hlong:512<s.size) :
  Calls Tryz.prog 143 #[.string s] w fun e w'=>e=retF (false,⟨#[]⟩,0,2)∧Below w.heap.size w w':=by
 have hB:=hide (box_new w false ⟨#[]⟩ 0)
 have h:=hide h
 go_enter Tryz.func143, Tryz.ntmps143
 go_wp2_with fail
 refine (split_any s _ hs).mono ?_
 rw [h.out]
 rintro e w1 ⟨rfl,hb1⟩
 have hB1:=hide (hB.out.below hb1 (by simp))
 have hl:=hB1.out.lt
 obtain ⟨c0,c1,c2,f0,f1,f2⟩:=hB1.out.cells
 have hb:=hide (below_alloc hb1)
 clear hb1
 simp only [splitE,partsE,if_true,Bool.false_eq_true,if_false]
 go_wp2
 refine bodyPost_ret (v:=.tuple #[.agg #[.bool false,.string ⟨#[]⟩,.int .i64 0],.int .i64 2]) (by simp [results,Tryz.results143,go_sem,c0,c1,c2,hl]) rfl ⟨rfl,?_⟩
 refine below_al ?_
 iterate 3 refine below_set ?_ (by omega)
 exact hb.out
def nmd (a b:List UInt8):List UInt8:=[123]++(quo a++([58]++(quo b++[125])))
def flgL (b:Bool):List UInt8:=bif b then [116,114,117,101] else [102,97,108,115,101]
def cmL (n:Nat):List UInt8:=bif n==0 then [] else [44]
set_option maxRecDepth 100000 in
theorem appendPointed_gt (B:Nat) (v:Value) (l:List UInt8) (s:ByteArray) (bh:Nat) (w:World) (hown:Own w B v l) (hB:B≤w.heap.size) (hl:l.length≤100) (hs:bh<s.size) (hs1:s.size≤100) :
  Calls Tryz.prog 82 #[v,.string s,.int .i64 bh] w fun e w'=>∃ v',e=.returned v'∧Hid (Own w' B v' (l++pointed (bl s) bh))∧Hid (Below B w w'):=by
 have hown:=hide hown
 obtain ⟨k,hk⟩:∃ k:Nat,s.size=bh + k:=⟨s.size - bh,by omega⟩
 have hfin:=hide (show l++pointed (bl s) bh=l++bl (s.extract 0 k)++[46]++bl (s.extract k s.size) by
  unfold pointed;rw [bl_length,if_neg (by omega),drop_mkB,extract_mkB,bl_mkB,bl_mkB,show s.size - bh=k by omega];simp)
 have hx1:=hide (show (s.extract 0 k).size=k by rw [extract_mkB,mkB_size];simp [bl_length];omega)
 have hx2:=hide (show (s.extract k s.size).size=bh by rw [drop_mkB,mkB_size];simp [bl_length];omega)
 have hx1b:=hide (show (bl (s.extract 0 k)).length=k by rw [bl_length];exact hx1.out)
 have hki:(s.size:Int) - (bh:Int)=(k:Int):=by omega
 have hkk:=hide hk
 clear hk
 have hkp:(0:Int)<(k:Int):=by have:=hkk.out;omega
 have hc:¬ ((k:Int)≤0):=by omega
 have hkl:(k:Int)≤s.size:=by have:=hkk.out;omega
 go_enter Tryz.func82, Tryz.ntmps82
 go_wp2_with (first|(at_builtin;refine app_str rfl (.tmp 24) (.tmp 27) rfl B _ l rfl hown.out (s.extract 0 k) rfl (by rw [hx1.out];omega) hB ?_;intro v1 w1 h1 h2 h3;have hn1:=hide (news_one w1 46 5);have hB1:B≤w1.heap.size:=(by omega))|(at_builtin;refine app_bytes rfl (.tmp 29) (.tmp 30) rfl B _ _ rfl (h1.out.alloc _) ⟨w1.heap.size,0,none⟩ 1 1 [46] rfl rfl hn1.out (by rw [List.length_append,hx1b.out];omega) (by simp;omega) ?_;intro v2 w2 h4 h5 h6;simp at h6;have hB2:B≤w2.heap.size:=(by omega))|(at_builtin;refine app_str rfl (.tmp 32) (.tmp 35) rfl B _ _ rfl h4.out (s.extract k s.size) rfl (by rw [hx2.out,List.length_append,List.length_append,hx1b.out,List.length_singleton];omega) hB2 ?_;intro v3 w3 h7 h8 h9))
 go_ret
 refine ⟨_,rfl,?_,?_⟩
 ·show Own _ _ _ _
  rw [hfin.out];exact h7.out
 ·exact (((((Below.refl B w).trans h2.out).alloc hB1 _).trans h5.out).trans h8.out)
theorem appendPointed_any (B:Nat) (v:Value) (l:List UInt8) (s:ByteArray) (bh:Nat) (w:World) (hown:Own w B v l) (hB:B≤w.heap.size) (hl:l.length≤100) (hs1:s.size≤100) (hbh:bh≤100) :
  Calls Tryz.prog 82 #[v,.string s,.int .i64 bh] w fun e w'=>∃ v',e=.returned v'∧Hid (Own w' B v' (l++pointed (bl s) bh))∧Hid (Below B w w'):=by
 by_cases h:s.size≤bh
 ·exact appendPointed_le B v l s bh w hown hB hl h hbh
 ·exact appendPointed_gt B v l s bh w hown hB hl (by omega) hs1
theorem add_at (b o j:Nat):(⟨b,o,none⟩:Addr).add j=⟨b,o + j,none⟩:=by
 unfold Addr.add
 split
 ·rename_i q;rw [q];rfl
 ·rfl
def Gz (w:World):Prop:=∃ c t fr,w.heap[7]?=some (.cells c t fr)∧c[15]?=some (.int .u8 4)
theorem Gz.cell {w:World} (h:Gz w):w.cell? ⟨7,15,none⟩=some (.int .u8 4):=by
 obtain ⟨c,t,fr,h1,h2⟩:=h
 simp [World.cell?,h1,h2]
theorem Gz.low8 {w:World} (h:Gz w):8≤w.heap.size:=by
 obtain ⟨c,t,fr,h1,_⟩:=h
 have:=(Array.getElem?_eq_some_iff.1 h1).1
 omega
theorem Gz.low {w w1:World} {L:Nat} (h:Gz w) (hb:Below L w w1) (hL:8≤L):Gz w1:=by
 obtain ⟨c,t,fr,h1,h2⟩:=h
 exact ⟨c,t,fr,by rw [hb.block _ (by omega)];exact h1,h2⟩
def smH (n:Nat):List UInt8:=if n<16 then [hx n] else [49,hx (n - 16)]
theorem tz64 (w:World) (h:Gz w):Calls Tryz.prog 194 #[.int .u64 16] w fun e w'=>e=.returned (.int .i64 4)∧w'=w:=by
 have c7:=h.cell
 have hb:IntKind.u64.wrap (bits .and .u64 16 (IntKind.u64.wrap (-16)) * 285870213051353865) / 288230376151711744=15:=by kernel_rfl
 clear h
 go_enter Tryz.func194, Tryz.ntmps194
 go_wp2
 go_ret
 exact ⟨rfl,rfl⟩
theorem tz16 (w:World) (h:Gz w):Calls Tryz.prog 179 #[.int .u64 16] w fun e w'=>e=.returned (.int .i64 4)∧w'=w:=by
 have T:=hide (tz64 w h)
 clear h
 go_enter Tryz.func179, Tryz.ntmps179
 go_wp2_with (go_at_call 194;refine T.out.mono ?_;rintro e w1 ⟨rfl,rfl⟩)
 go_ret
 exact ⟨rfl,rfl⟩
theorem ipt16 (w:World):Calls Tryz.prog 178 #[.int .i64 16] w fun e w'=>e=.returned (.bool true)∧w'=w:=by
 have hb:bits .and .i64 16 15=0:=by kernel_rfl
 go_enter Tryz.func178, Tryz.ntmps178
 go_wp2
 go_ret
 exact ⟨rfl,rfl⟩
theorem dg36_get (d:Nat) (h:d<16) (h':d<(⟨#[48,49,50,51,52,53,54,55,56,57,97,98,99,100,101,102,103,104,105,106,107,108,109,110,111,112,113,114,115,116,117,118,119,120,121,122]⟩:ByteArray).size):(⟨#[48,49,50,51,52,53,54,55,56,57,97,98,99,100,101,102,103,104,105,106,107,108,109,110,111,112,113,114,115,116,117,118,119,120,121,122]⟩:ByteArray)[d]=hx d:=by
 have:d=0∨d=1∨d=2∨d=3∨d=4∨d=5∨d=6∨d=7∨d=8∨d=9∨d=10∨d=11∨d=12∨d=13∨d=14∨d=15:=by omega
 rcases this with rfl|rfl|rfl|rfl|rfl|rfl|rfl|rfl|rfl|rfl|rfl|rfl|rfl|rfl|rfl|rfl <;> rfl
def fmA (n k:Nat):List Nat:=if k=0 then List.replicate 65 0 else List.replicate 64 0++[(hx (n % 16)).toNat]
set_option maxRecDepth 100000 in
theorem fbits16 (n:Nat) (hn:n<32) (w:World) (hz:Gz w) :
  Calls Tryz.prog 159 #[.slice none 0 0,.int .u64 n,.int .i64 16,.bool false,.bool false] w fun e w'=>e=.returned (.tuple #[.slice none 0 0,.string (mkB (smH n))])∧Below w.heap.size w w':=by
 have TZ:=hide (fun o=>tz16 (w.alloc o) (hz.low (below_al (Below.refl _ _)) (by obtain ⟨c,t,fr,h1,_⟩:=hz;have:=(Array.getElem?_eq_some_iff.1 h1).1;omega)))
 have IP:=hide (fun w=>ipt16 w)
 clear hz
 go_enter Tryz.func159, Tryz.ntmps159
 go_wp2_with (first|(go_at_call 178;refine (IP.out _).mono ?_;rintro e w1 ⟨rfl,hw1⟩;have hws:=hw1.symm;clear hw1;subst hws)|(go_at_call 179;refine (TZ.out _).mono ?_;rintro e w1 ⟨rfl,hw1⟩;have hws:=hw1.symm;clear hw1;subst hws))
 go_loopw [1,13] (fun u i wr=>∃ k:Nat,k≤1∧i=.int .i64 ((65 - k:Nat):Int)∧u=.int .u64 ((n / 16 ^ k:Nat):Int)∧(k=1→16≤n)∧Hid (Arr wr w.heap.size 204 (fmA n k))∧Hid (Below w.heap.size w wr)) (fun u i _=>(intOf i).toNat)
 case atStart =>
  refine ⟨0,by omega,rfl,by simp,(fun q=>absurd q (by decide)),?_,?_⟩
  ·exact arr_new _ _ 65 _ rfl
  ·exact below_al (Below.refl _ _)
 case round =>
  obtain ⟨k,hk,rfl,rfl,hk1,hAr,hB⟩:=hrel
  have hk2:k=0∨k=1:=by omega
  by_cases h16:16≤n / 16 ^ k
  ·have hk0:k=0:=by
    rcases hk2 with q|q
    ·exact q
    ·subst q;simp at h16;omega
   subst hk0
   simp only [Nat.pow_zero,Nat.div_one] at h16 ⊢
   have h16':(16:Int)≤(n:Int):=by omega
   have hm:bits .and .u64 (n:Int) 15=((n % 16:Nat):Int):=by
    have:=u64_and_nat n 15 (by omega) (by omega)
    rw [nat_mask4] at this
    exact this
   have hcs:wr.cell? ⟨w.heap.size,64,none⟩=some (.int .u8 0):=hAr.out.cell 64 (by simp [fmA])
   have hfz:=hAr.out.frozen 64
   obtain ⟨d,hd⟩:∃ d,n % 16=d:=⟨_,rfl⟩
   have hd':=hide hd
   rw [hd] at hm
   have hdl:d<16:=by omega
   have hds:d<(⟨#[48,49,50,51,52,53,54,55,56,57,97,98,99,100,101,102,103,104,105,106,107,108,109,110,111,112,113,114,115,116,117,118,119,120,121,122]⟩:ByteArray).size:=by show d<36;omega
   have hg:=dg36_get d hdl hds
   have hd36:(d:Int)<36:=by omega
   clear hd hk1 hk2
   go_wp2
   refine ⟨⟨1,by omega,rfl,by simp,fun _=>h16,?_,?_⟩,by simp [intOf]⟩
   ·show Arr _ _ _ _
    have:=hAr.out.set 64 (hx d).toNat
    rw [show (fmA n 0).set 64 (hx d).toNat=fmA n 1 by unfold fmA;rw [←hd'.out];rfl] at this
    exact this
   ·exact hB.out.setCell (Nat.le_refl _) _
  ·obtain ⟨u,hu⟩:∃ u,n / 16 ^ k=u:=⟨_,rfl⟩
   rw [hu] at h16 ⊢
   have hu16:(u:Int)<16:=by omega
   have hun:¬ (16:Int)≤(u:Int):=by omega
   have hds:u<(⟨#[48,49,50,51,52,53,54,55,56,57,97,98,99,100,101,102,103,104,105,106,107,108,109,110,111,112,113,114,115,116,117,118,119,120,121,122]⟩:ByteArray).size:=by show u<36;omega
   have hg:=dg36_get u (by omega) hds
   have hu36:(u:Int)<36:=by omega
   have hfz:=fun j=>hAr.out.frozen j
   have hlen:(fmA n k).length=65:=by rcases hk2 with q|q <;> subst q <;> rfl
   have hfin:Hid (((fmA n k).set (64 - k) (hx u).toNat).drop (64 - k)=(smH n).map UInt8.toNat):=by
    show _=_
    rcases hk2 with q|q
    ·subst q
     have e:u=n:=by rw [←hu];simp
     subst e
     have:smH u=[hx u]:=by unfold smH;rw [if_pos (by omega)]
     rw [this]
     rfl
    ·subst q
     have h16n:=hk1 rfl
     have e:u=1:=by rw [←hu];simp;omega
     subst e
     have:smH n=[49,hx (n - 16)]:=by unfold smH;rw [if_neg (by omega)]
     rw [this,show n - 16=n % 16 by omega]
     rfl
   rcases hk2 with q|q
   ·subst q
    obtain ⟨v0,hcs⟩:∃ v0:Int,wr.cell? ⟨w.heap.size,64,none⟩=some (.int .u8 v0):=⟨_,hAr.out.cell 64 (by rw [hlen];omega)⟩
    have hfz:=hAr.out.frozen 64
    have A2:=hAr.out.set 64 (hx u).toNat
    have hcv:(convert 22 9 (.slice (some ⟨w.heap.size,64,none⟩) 1 1)).run Tryz.prog (wr.setCell ⟨w.heap.size,64,none⟩ (.int .u8 ((hx u).toNat:Int)))=.ok (.string (mkB (smH n))) (wr.setCell ⟨w.heap.size,64,none⟩ (.int .u8 ((hx u).toNat:Int))):=by
     have hsl:(smH n).length=1:=by
      have:=congrArg List.length hfin.out
      rw [List.length_drop,List.length_set,hlen,List.length_map] at this
      omega
     have:=run_convert_bytes_back (P:=Tryz.prog) (wr.setCell ⟨w.heap.size,64,none⟩ (.int .u8 ((hx u).toNat:Int))) 22 9 5 ⟨w.heap.size,64,none⟩ 1 (smH n) Tryz.underlying22 Tryz.underlying5 Tryz.underlying9 (fun j hj=>by
      have hc:=A2.cell (64 + j) (by rw [List.length_set,hlen];omega)
      rw [add_at,hc]
      have e:=congrArg (fun l=>l[j]?) hfin.out
      simp only [List.getElem?_drop,List.getElem?_map] at e
      rw [List.getElem?_eq_getElem (by rw [List.length_set,hlen];omega),List.getElem?_eq_getElem hj] at e
      have e2:=Option.some.inj e
      rw [e2])
     rw [hsl] at this
     exact this
    have A2':=hide A2
    clear A2 hk1 hlen
    go_wp2
    exact bodyPost_ret (v:=.tuple #[.slice none 0 0,.string (mkB (smH n))]) (by simp [results,Tryz.results159,go_sem]) rfl ⟨rfl,hB.out.setCell (Nat.le_refl _) _⟩
   ·subst q
    obtain ⟨v0,hcs⟩:∃ v0:Int,wr.cell? ⟨w.heap.size,63,none⟩=some (.int .u8 v0):=⟨_,hAr.out.cell 63 (by rw [hlen];omega)⟩
    have hfz:=hAr.out.frozen 63
    have A2:=hAr.out.set 63 (hx u).toNat
    have hcv:(convert 22 9 (.slice (some ⟨w.heap.size,63,none⟩) 2 2)).run Tryz.prog (wr.setCell ⟨w.heap.size,63,none⟩ (.int .u8 ((hx u).toNat:Int)))=.ok (.string (mkB (smH n))) (wr.setCell ⟨w.heap.size,63,none⟩ (.int .u8 ((hx u).toNat:Int))):=by
     have hsl:(smH n).length=2:=by
      have:=congrArg List.length hfin.out
      rw [List.length_drop,List.length_set,hlen,List.length_map] at this
      omega
     have:=run_convert_bytes_back (P:=Tryz.prog) (wr.setCell ⟨w.heap.size,63,none⟩ (.int .u8 ((hx u).toNat:Int))) 22 9 5 ⟨w.heap.size,63,none⟩ 2 (smH n) Tryz.underlying22 Tryz.underlying5 Tryz.underlying9 (fun j hj=>by
      have hc:=A2.cell (63 + j) (by rw [List.length_set,hlen];omega)
      rw [add_at,hc]
      have e:=congrArg (fun l=>l[j]?) hfin.out
      simp only [List.getElem?_drop,List.getElem?_map] at e
      rw [List.getElem?_eq_getElem (by rw [List.length_set,hlen];omega),List.getElem?_eq_getElem hj] at e
      have e2:=Option.some.inj e
      rw [e2])
     rw [hsl] at this
     exact this
    have A2':=hide A2
    clear A2 hk1 hlen
    go_wp2
    exact bodyPost_ret (v:=.tuple #[.slice none 0 0,.string (mkB (smH n))]) (by simp [results,Tryz.results159,go_sem]) rfl ⟨rfl,hB.out.setCell (Nat.le_refl _) _⟩
theorem ifmt16 (n:Nat) (hn:n<32) (w:World) (hz:Gz w):Calls Tryz.prog 137 #[.int .i64 n,.int .i64 16] w fun e w'=>e=.returned (.string (mkB (smH n)))∧Below w.heap.size w w':=by
 have FB:=hide (fbits16 n hn w hz)
 clear hz
 have hn':(n:Int)<32:=by omega
 have hw:IntKind.u64.wrap (n:Int)=(n:Int):=by rw [IntKind.wrap_u64] <;> omega
 obtain ⟨S,hS⟩:∃ S,mkB (smH n)=S:=⟨_,rfl⟩
 rw [hS] at FB ⊢
 clear hS
 go_enter Tryz.func137, Tryz.ntmps137
 go_wp2_with (go_at_call 159;refine FB.out.mono ?_;rintro e w1 ⟨rfl,hb⟩;have B1:=hide hb;clear hb)
 go_ret
 exact ⟨rfl,B1.out⟩
theorem fmt16 (n:Nat) (hn:n<32) (w:World) (hz:Gz w):Calls Tryz.prog 115 #[.int .i64 n,.int .i64 16] w fun e w'=>e=.returned (.string (mkB (smH n)))∧Below w.heap.size w w':=by
 have FB:=hide (ifmt16 n hn w hz)
 clear hz
 obtain ⟨S,hS⟩:∃ S,mkB (smH n)=S:=⟨_,rfl⟩
 rw [hS] at FB ⊢
 clear hS
 go_enter Tryz.func115, Tryz.ntmps115
 go_wp2_with (go_at_call 137;refine FB.out.mono ?_;rintro e w1 ⟨rfl,hb⟩;have B1:=hide hb;clear hb)
 go_ret
 exact ⟨rfl,B1.out⟩
end Go.Proofs.YtdgehngffccjaaaGreatDoor
