/- Merged by program: NdCmp, NnSem, NpFormF, NqAdd, NyParse, NzParse, NrSum, OgPrint, ReText, NzParseA, NzParseB, NzParseC, PaParse. -/
import Derived.Test.YtgicnopppgnjjaaGreatDoorZd00
import Derived.WalkKit
import Derived.WalkSpells
import Derived.WalkLawsBesides
import Derived.Deep.RegionWith
import Derived.Deep.RegionHeld3
import Derived.Outline
import Derived.Test.YtgicnopppgnjjaaGreatDoorZd01
import Derived.Test.YtgicnopppgnjjaaGreatDoorZd02
set_option linter.unusedSimpArgs false
set_option linter.unusedVariables false
namespace Go.Proofs.YtgicnopppgnjjaaGreatDoor
open Go.RowKit
theorem isN_len {n:Bool} {s:ByteArray} {x:Int} (h:isN n s x=true):s.size≤40∧-400≤x∧x≤400:=by
 simp [isN,isZ,isO] at h
 rcases h with ⟨⟨_,h1⟩,h2⟩|h
 ·have:=bl_length s;rw [h1] at this;simp at this;omega
 ·rw [bl_length] at h;omega
end Go.Proofs.YtgicnopppgnjjaaGreatDoor
namespace Go.Proofs.YtgicnopppgnjjaaGreatDoor
open Go.RowKit
def mag (s:ByteArray) (x:Int):Nat:=val (dg s) * 10 ^ (x + 400).toNat
def Zv (n:Bool) (s:ByteArray) (x:Int):Int:=if n then -(mag s x:Int) else mag s x
structure Can (l:List Nat):Prop where
 dgs:Dgs l
 first:∀ c,l.head?=some c→c≠0
 last:∀ c,l.getLast?=some c→c≠0
theorem isO_facts {s:ByteArray} {x:Int} (h:isO (bl s) x=true):1≤s.size∧s.size≤40∧-400≤x∧x≤400∧allD (bl s)=true∧Can (dg s)∧dg s≠[]:=by
 simp only [isO,Bool.and_eq_true,decide_eq_true_eq,bne_iff_ne,ne_eq,bl_length] at h
 obtain ⟨⟨⟨⟨⟨h1,h2⟩,h3,h4⟩,h5⟩,h6⟩,h7⟩:=h
 refine ⟨h1,h2,h3,h4,h5,⟨dg_dgs s h5,?_,?_⟩,?_⟩
 ·intro c hc
  have:(dg s).head?=(bl s).head?.map fun c=>c.toNat - 48:=by simp [dg]
  rw [this,head_bl s h1] at hc
  rw [head_bl s h1] at h6
  simp at hc
  have hd:=allD_get s h5 0 h1
  have:s[0].toNat≠48:=fun e=>h6 (by congr 1;exact UInt8.toNat_inj.1 e)
  omega
 ·intro c hc
  have:(dg s).getLast?=(bl s).getLast?.map fun c=>c.toNat - 48:=by simp [dg]
  rw [this,last_bl s h1] at hc
  rw [last_bl s h1] at h7
  simp at hc
  have hd:=allD_get s h5 (s.size - 1) (by omega)
  have:(s[s.size - 1]'(by omega)).toNat≠48:=fun e=>h7 (by congr 1;exact UInt8.toNat_inj.1 e)
  omega
 ·intro e
  have:=dg_length s
  rw [e] at this;simp at this;omega
theorem isZ_facts {n:Bool} {s:ByteArray} {x:Int} (h:isZ n s x=true):n=false∧bl s=[48]∧x=0:=by
 simp [isZ] at h;exact ⟨h.1.1,h.1.2,h.2⟩
theorem isZ_mag {n:Bool} {s:ByteArray} {x:Int} (h:isZ n s x=true):dg s=[0]∧s.size=1∧mag s x=0∧Zv n s x=0:=by
 obtain ⟨rfl,h2,rfl⟩:=isZ_facts h
 have h3:dg s=[0]:=by simp [dg,h2]
 have h4:s.size=1:=by rw [←bl_length,h2];rfl
 have h5:mag s 0=0:=by unfold mag;rw [h3,show val [0]=0 from rfl,Nat.zero_mul]
 exact ⟨h3,h4,h5,by simp [Zv,h5]⟩
end Go.Proofs.YtgicnopppgnjjaaGreatDoor
namespace Go.Proofs.YtgicnopppgnjjaaGreatDoor
open Go.RowKit
def dz (d:List Nat):List Nat:=d.drop (lz d)
def core (d:List Nat):List Nat:=(dz d).take ((dz d).length - tz (dz d))
def formF (neg:Bool) (d:List Nat) (x:Int):Bool×ByteArray×Int×Int :=
 if lz d=d.length then (false,⟨#[48]⟩,0,0)
 else if (core d).length≤40∧-400≤x + tz (dz d)∧x + tz (dz d)≤400 then (neg,mkS (core d),x + tz (dz d),0) else (false,⟨#[]⟩,0,2)
def retF (r:Bool×ByteArray×Int×Int):Ending:=.returned (.tuple #[.agg #[.bool r.1,.string r.2.1,.int .i64 r.2.2.1],.int .i64 r.2.2.2])
theorem lz_le (d:List Nat):lz d≤d.length:=(List.takeWhile_prefix _).length_le
theorem tz_le (d:List Nat):tz d≤d.length:=by have:=lz_le d.reverse;simpa [tz] using this
theorem form_any (neg:Bool) (b o n c:Nat) (d:List Nat) (x:Int) (w:World) (hd:d.length=n) (hn0:0<n) (hn:n≤100000) (hc:n≤c) (hc':c≤100000) (hb:b<w.heap.size)
  (hcell:∀ i (h:i<d.length),w.cell? ⟨b,o + i,none⟩=some (.int .u8 (d[i]:Nat))) (hx:-1000000≤x) (hx':x≤1000000) (hdg:Dgs d) :
  Calls Tryz.prog 198 #[.bool neg,.slice (some ⟨b,o,none⟩) n c,.int .i64 x] w fun e w'=>e=retF (formF neg d x)∧Below w.heap.size w w':=by
 by_cases hz:lz d=n
 ·refine (form_zero neg b o n c d x w hd hn0 hn hc hc' hb hcell hz).mono ?_
  rintro e w' ⟨rfl,hB⟩
  refine ⟨?_,hB⟩
  unfold formF;rw [if_pos (by rw [hd];exact hz)];rfl
 ·have:=lz_le d
  have hl:(dz d).length=n - lz d:=by rw [dz,List.length_drop,hd]
  refine (form_some neg b o n c d (dz d) (core d) (n - lz d) (tz (dz d)) x w hd hn hc hc' hb hcell (by omega) hx hx' rfl rfl rfl (by rw [core,hl]) hdg _ rfl).mono ?_
  rintro e w' ⟨rfl,hB⟩
  refine ⟨?_,hB⟩
  have e1:formF neg d x=if (core d).length≤40∧-400≤x + tz (dz d)∧x + tz (dz d)≤400 then (neg,mkS (core d),x + tz (dz d),0) else (false,⟨#[]⟩,0,2):=by
   unfold formF;rw [if_neg (by rw [hd];exact hz)]
  rw [e1]
  by_cases h:(core d).length≤40∧-400≤x + tz (dz d)∧x + tz (dz d)≤400
  ·rw [if_pos h,decide_eq_true h];rfl
  ·rw [if_neg h,decide_eq_false h];rfl
theorem take_lz (d:List Nat):d.take (lz d)=List.replicate (lz d) 0:=by
 induction d with
 | nil=>rfl
 | cons a d ih =>
  by_cases h:a=0
  ·subst h
   have:lz (0 :: d)=lz d + 1:=by simp [lz]
   rw [this,List.take_succ_cons,ih,List.replicate_succ]
  ·have:lz (a :: d)=0:=by simp [lz,h]
   rw [this];rfl
theorem tz_split (d:List Nat):d=d.take (d.length - tz d)++List.replicate (tz d) 0:=by
 have h:=take_lz d.reverse
 have:=congrArg List.reverse h
 rw [List.reverse_take,List.reverse_reverse,List.length_reverse,List.reverse_replicate] at this
 conv=>lhs;rw [←List.take_append_drop (d.length - tz d) d]
 rw [show d.drop (d.length - tz d)=List.replicate (tz d) 0 from this]
theorem lz_head (d:List Nat) (h:lz d<d.length):∀ c,(dz d).head?=some c→c≠0:=by
 intro c hc
 have:=lz_ne d h
 rw [dz,List.head?_drop,List.getElem?_eq_getElem h] at hc
 rw [←Option.some.inj hc];exact this
theorem tz_lt (d:List Nat) (h:lz d<d.length):tz (dz d)<(dz d).length:=by
 have h1:=tz_le (dz d)
 have hl:0<(dz d).length:=by rw [dz,List.length_drop];omega
 by_cases e:tz (dz d)<(dz d).length
 ·exact e
 ·have h2:=tz_split (dz d)
  rw [show (dz d).length - tz (dz d)=0 by omega,List.take_zero,List.nil_append] at h2
  have h3:(dz d).head?=some 0:=by
   rw [h2,List.head?_replicate,if_neg (by omega)]
  exact absurd rfl (lz_head d h 0 h3)
theorem core_len (d:List Nat):(core d).length=(dz d).length - tz (dz d):=by rw [core,List.length_take];omega
theorem core_can (d:List Nat) (h:lz d<d.length) (hd:Dgs d):Can (core d)∧core d≠[]:=by
 have h1:=tz_lt d h
 have hl:=core_len d
 have hne:core d≠[]:=by intro e;rw [e] at hl;simp at hl;omega
 refine ⟨⟨?_,?_,?_⟩,hne⟩
 ·intro x hx
  exact hd x (List.mem_of_mem_drop (List.mem_of_mem_take hx))
 ·intro c hc
  refine lz_head d h c ?_
  rw [core,List.head?_take,if_neg (by omega)] at hc
  exact hc
 ·intro c hc
  have h2:=lz_ne (dz d).reverse (by simpa [tz] using h1)
  rw [List.getElem_reverse] at h2
  rw [core,List.getLast?_take,if_neg (by omega)] at hc
  rw [List.getElem?_eq_getElem (by omega)] at hc
  simp only [Option.some_or] at hc
  have e:(dz d).length - tz (dz d) - 1=(dz d).length - 1 - lz (dz d).reverse:=by unfold tz;omega
  simp only [e] at hc
  rw [←Option.some.inj hc];exact h2
theorem mkS_size (l:List Nat):(mkS l).size=l.length:=by simp [mkS,strOfNums_size]
theorem mkS_bl (l:List Nat):bl (mkS l)=l.map fun v=>UInt8.ofNat (v + 48):=by
 unfold bl mkS
 rw [strOfNums_data,List.map_map]
 apply List.map_congr_left
 intro v _
 show UInt8.ofNat ((v:Int) + 48).toNat=_
 congr 1
theorem ofNat_toNat (v:Nat) (h:v≤9):(UInt8.ofNat (v + 48)).toNat=v + 48:=by
 rw [UInt8.toNat_ofNat'];omega
theorem mkS_all (l:List Nat) (h:Dgs l):allD (bl (mkS l))=true:=by
 rw [mkS_bl]
 unfold allD
 rw [List.all_eq_true]
 intro c hc
 rw [List.mem_map] at hc
 obtain ⟨v,hv,rfl⟩:=hc
 rw [isDig_iff,ofNat_toNat v (h v hv)]
 have:=h v hv
 omega
theorem mkS_isO (l:List Nat) (x:Int) (h:Can l) (hne:l≠[]) (h40:l.length≤40) (hx:-400≤x) (hx':x≤400):isO (bl (mkS l)) x=true:=by
 have hl:1≤l.length:=List.length_pos_iff.2 hne
 simp only [isO,Bool.and_eq_true,decide_eq_true_eq,bne_iff_ne,ne_eq]
 refine ⟨⟨⟨⟨⟨?_,?_⟩,hx,hx'⟩,mkS_all l h.dgs⟩,?_⟩,?_⟩
 ·rw [bl_length,mkS_size];exact hl
 ·rw [bl_length,mkS_size];exact h40
 ·rw [mkS_bl,List.head?_map]
  intro e
  cases hh:l.head? with
  | none=>rw [hh] at e;cases e
  | some v =>
   rw [hh] at e
   have e1:=Option.some.inj e
   have e2:=congrArg UInt8.toNat e1
   have hm:v∈l:=List.mem_of_head? hh
   have h9:=h.dgs v hm
   rw [ofNat_toNat v h9] at e2
   have:=h.first v hh
   have:(48:UInt8).toNat=48:=rfl
   omega
 ·rw [mkS_bl,List.getLast?_map]
  intro e
  cases hh:l.getLast? with
  | none=>rw [hh] at e;cases e
  | some v =>
   rw [hh] at e
   have e1:=Option.some.inj e
   have e2:=congrArg UInt8.toNat e1
   have hm:v∈l:=List.mem_of_getLast? hh
   have h9:=h.dgs v hm
   rw [ofNat_toNat v h9] at e2
   have:=h.last v hh
   have:(48:UInt8).toNat=48:=rfl
   omega
end Go.Proofs.YtgicnopppgnjjaaGreatDoor
namespace Go.Proofs.YtgicnopppgnjjaaGreatDoor
open Go.RowKit
def Box (W:World) (i:Nat) (n:Bool) (s:ByteArray) (x:Int):Prop:=W.heap[i]?=some (.cells #[.bool n,.string s,.int .i64 x] 27 (0,0))
theorem Box.cells {W:World} {i:Nat} {n:Bool} {s:ByteArray} {x:Int} (h:Box W i n s x) :
  W.cell? ⟨i,0,none⟩=some (.bool n)∧W.cell? ⟨i,1,none⟩=some (.string s)∧W.cell? ⟨i,2,none⟩=some (.int .i64 x)∧W.frozen? ⟨i,0,none⟩=false∧W.frozen? ⟨i,1,none⟩=false∧W.frozen? ⟨i,2,none⟩=false:=by
 unfold Box at h
 simp [World.cell?,World.frozen?,h]
theorem Box.lt {W:World} {i:Nat} {n:Bool} {s:ByteArray} {x:Int} (h:Box W i n s x):i<W.heap.size:=by
 unfold Box at h
 by_cases hlt:i<W.heap.size
 ·exact hlt
 ·have hn:W.heap[i]?=none:=by simp;omega
  rw [hn] at h;cases h
theorem Box.below {W W1:World} {i B:Nat} {n:Bool} {s:ByteArray} {x:Int} (h:Box W i n s x) (hb:Below B W W1) (hi:i<B):Box W1 i n s x:=by
 unfold Box at h ⊢;rw [hb.block i hi];exact h
theorem Box.only {W W1:World} {i b:Nat} {n:Bool} {s:ByteArray} {x:Int} (h:Box W i n s x) (hb:Only b W W1) (hi:i≠b):Box W1 i n s x:=by
 unfold Box at h ⊢;rw [hb.block i hi];exact h
theorem box_new (w:World) (n:Bool) (s:ByteArray) (x:Int):Box (w.alloc (.cells #[.bool n,.string s,.int .i64 x] 27)) w.heap.size n s x:=by
 unfold Box
 show (w.heap.push _)[w.heap.size]?=_
 simp
theorem Box.alloc {W:World} {i:Nat} {n:Bool} {s:ByteArray} {x:Int} (h:Box W i n s x) (o:Obj):Box (W.alloc o) i n s x:=by
 have hl:=h.lt
 unfold Box at h ⊢
 rw [←h]
 exact Below.heap_alloc W o i hl
end Go.Proofs.YtgicnopppgnjjaaGreatDoor
namespace Go.Proofs.YtgicnopppgnjjaaGreatDoor
open Go.RowKit
theorem split_any (s:ByteArray) (w:World) (hs:s.size≤100000) :
  Calls Tryz.prog 196 #[.string s] w fun e w'=>e=splitE (splitL (bl s))∧Below w.heap.size w w':=by
 unfold splitL
 obtain ⟨wh,hwh⟩:∃ wh,(tlB 45 (bl s)).takeWhile isDig=wh:=⟨_,rfl⟩
 cases hbw:badW ((tlB 45 (bl s)).takeWhile isDig)
 ·simp only [Bool.false_eq_true,if_false]
  simp only [badW,Bool.or_eq_false_iff] at hbw
  have hne:1≤((tlB 45 (bl s)).takeWhile isDig).length:=by
   rcases hh:(tlB 45 (bl s)).takeWhile isDig with _|⟨a,l⟩
   ·rw [hh] at hbw;simp at hbw
   ·simp
  by_cases h1:((tlB 45 (bl s)).takeWhile isDig).length=1
  ·cases hpt:hdB 46 ((tlB 45 (bl s)).dropWhile isDig)
   ·simp only [Bool.false_eq_true,if_false]
    cases hL:(tlB 45 (bl s)).dropWhile isDig with
    | nil=>have:=split_one_no_nil s w hs h1 hpt hL;rwa [hL] at this
    | cons c r =>
     by_cases hc1:c=101
     ·have:=split_one_no_p s w hs h1 hpt c r hL (Or.inl hc1);rwa [hL] at this
     ·by_cases hc2:c=69
      ·have:=split_one_no_p s w hs h1 hpt c r hL (Or.inr hc2);rwa [hL] at this
      ·have:=split_one_no_bad s w hs h1 hpt c r hL hc1 hc2;rwa [hL] at this
   ·simp only [if_true]
    cases hfr:((tlB 46 ((tlB 45 (bl s)).dropWhile isDig)).takeWhile isDig).isEmpty
    ·simp only [Bool.false_eq_true,if_false]
     cases hL:(tlB 46 ((tlB 45 (bl s)).dropWhile isDig)).dropWhile isDig with
     | nil=>have:=split_one_pt_nil s w hs h1 hpt hfr hL;rwa [hL] at this
     | cons c r =>
      by_cases hc1:c=101
      ·have:=split_one_pt_p s w hs h1 hpt hfr c r hL (Or.inl hc1);rwa [hL] at this
      ·by_cases hc2:c=69
       ·have:=split_one_pt_p s w hs h1 hpt hfr c r hL (Or.inr hc2);rwa [hL] at this
       ·have:=split_one_pt_bad s w hs h1 hpt hfr c r hL hc1 hc2;rwa [hL] at this
    ·exact split_one_pt_none s w hs h1 hpt hfr
  ·have h1:1<((tlB 45 (bl s)).takeWhile isDig).length∧((tlB 45 (bl s)).takeWhile isDig).head?≠some 48:=by
    have h2:1<((tlB 45 (bl s)).takeWhile isDig).length:=by omega
    refine ⟨h2,?_⟩
    have:=hbw.2
    rw [decide_eq_true h2,Bool.true_and,beq_eq_false_iff_ne] at this
    exact this
   cases hpt:hdB 46 ((tlB 45 (bl s)).dropWhile isDig)
   ·simp only [Bool.false_eq_true,if_false]
    cases hL:(tlB 45 (bl s)).dropWhile isDig with
    | nil=>have:=split_more_no_nil s w hs h1 hpt hL;rwa [hL] at this
    | cons c r =>
     by_cases hc1:c=101
     ·have:=split_more_no_p s w hs h1 hpt c r hL (Or.inl hc1);rwa [hL] at this
     ·by_cases hc2:c=69
      ·have:=split_more_no_p s w hs h1 hpt c r hL (Or.inr hc2);rwa [hL] at this
      ·have:=split_more_no_bad s w hs h1 hpt c r hL hc1 hc2;rwa [hL] at this
   ·simp only [if_true]
    cases hfr:((tlB 46 ((tlB 45 (bl s)).dropWhile isDig)).takeWhile isDig).isEmpty
    ·simp only [Bool.false_eq_true,if_false]
     cases hL:(tlB 46 ((tlB 45 (bl s)).dropWhile isDig)).dropWhile isDig with
     | nil=>have:=split_more_pt_nil s w hs h1 hpt hfr hL;rwa [hL] at this
     | cons c r =>
      by_cases hc1:c=101
      ·have:=split_more_pt_p s w hs h1 hpt hfr c r hL (Or.inl hc1);rwa [hL] at this
      ·by_cases hc2:c=69
       ·have:=split_more_pt_p s w hs h1 hpt hfr c r hL (Or.inr hc2);rwa [hL] at this
       ·have:=split_more_pt_bad s w hs h1 hpt hfr c r hL hc1 hc2;rwa [hL] at this
    ·exact split_more_pt_none s w hs h1 hpt hfr
 ·simp only [if_true]
  simp only [badW,Bool.or_eq_true,Bool.and_eq_true,decide_eq_true_eq,beq_iff_eq] at hbw
  rcases hbw with h|h
  ·exact split_empty s w hs h
  ·exact split_lead s w hs h
theorem allD_tw (l:List UInt8):allD (l.takeWhile isDig)=true:=by
 unfold allD
 induction l with
 | nil=>rfl
 | cons a l ih =>
  by_cases h:isDig a=true
  ·simp [h]
  ·simp [h]
theorem splitL_facts {l:List UInt8} {n:Bool} {wh fr:List UInt8} {pn:Bool} {pw:List UInt8} (h:splitL l=some (n,wh,fr,pn,pw)) :
  allD wh=true∧allD fr=true∧allD pw=true∧1≤wh.length∧wh.length + fr.length≤l.length∧pw.length≤l.length:=by
 have key:∀ (n:Bool) (wh fr l4:List UInt8) (m:Nat),allD wh=true→allD fr=true→1≤wh.length→wh.length + fr.length≤m→l4.length≤m→∀ n' wh' fr' pn' pw',splitT n wh fr l4=some (n',wh',fr',pn',pw')→allD wh'=true∧allD fr'=true∧allD pw'=true∧1≤wh'.length∧wh'.length + fr'.length≤m∧pw'.length≤m:=by
  intro n wh fr l4 m h1 h2 h3 h4 h5 n' wh' fr' pn' pw' h
  unfold splitT at h
  cases l4 with
  | nil =>
   simp only [Option.some.injEq,Prod.mk.injEq] at h
   obtain ⟨_,rfl,rfl,_,rfl⟩:=h
   exact ⟨h1,h2,rfl,h3,h4,Nat.zero_le _⟩
  | cons c r =>
   simp only at h
   by_cases hc:(c==101 || c==69)=true
   ·by_cases hs:spOk r=true
    ·simp only [hc,hs,if_true,Option.some.injEq,Prod.mk.injEq] at h
     obtain ⟨_,rfl,rfl,_,rfl⟩:=h
     simp only [spOk,Bool.and_eq_true] at hs
     refine ⟨h1,h2,hs.2,h3,h4,?_⟩
     have:(spL r).length≤r.length:=by unfold spL;split <;> exact tlB_length _ _
     simp at h5
     omega
    ·simp only [hc,hs,if_true] at h
     cases h
   ·simp only [hc] at h
    cases h
 unfold splitL at h
 have e0:(tlB 45 l).takeWhile isDig++(tlB 45 l).dropWhile isDig=tlB 45 l:=List.takeWhile_append_dropWhile
 have e1:=congrArg List.length e0
 rw [List.length_append] at e1
 have e2:=tlB_length 45 l
 cases hbw:badW ((tlB 45 l).takeWhile isDig)
 ·rw [hbw] at h
  simp only [Bool.false_eq_true,if_false] at h
  have hne:1≤((tlB 45 l).takeWhile isDig).length:=by
   rcases hh:(tlB 45 l).takeWhile isDig with _|⟨a,l⟩
   ·rw [hh] at hbw;simp [badW] at hbw
   ·simp
  by_cases hpt:hdB 46 ((tlB 45 l).dropWhile isDig)=true
  ·rw [if_pos hpt] at h
   by_cases hfr:((tlB 46 ((tlB 45 l).dropWhile isDig)).takeWhile isDig).isEmpty=true
   ·rw [if_pos hfr] at h;cases h
   ·rw [if_neg hfr] at h
    have f0:(tlB 46 ((tlB 45 l).dropWhile isDig)).takeWhile isDig++(tlB 46 ((tlB 45 l).dropWhile isDig)).dropWhile isDig=tlB 46 ((tlB 45 l).dropWhile isDig):=List.takeWhile_append_dropWhile
    have f1:=congrArg List.length f0
    rw [List.length_append] at f1
    have f2:=tlB_length 46 ((tlB 45 l).dropWhile isDig)
    exact key _ _ _ _ l.length (allD_tw _) (allD_tw _) hne (by omega) (by omega) _ _ _ _ _ h
  ·rw [if_neg hpt] at h
   exact key _ _ _ _ l.length (allD_tw _) rfl hne (by simp;omega) (by omega) _ _ _ _ _ h
 ·rw [hbw] at h
  simp only [if_true] at h
  cases h
end Go.Proofs.YtgicnopppgnjjaaGreatDoor
namespace Go.Proofs.YtgicnopppgnjjaaGreatDoor
open Go.RowKit
def dlu (l:List UInt8):List Nat:=l.map fun c=>c.toNat - 48
theorem dlu_mkB (l:List UInt8):dg (mkB l)=dlu l:=by unfold dg dlu;rw [bl_mkB]
def parseF (l:List UInt8):Bool×ByteArray×Int×Int :=
 match splitL l with
 | none=>(false,⟨#[]⟩,0,10)
 | some (n,wh,fr,pn,pw)=>if 512<l.length then (false,⟨#[]⟩,0,2) else formF n (dlu wh++dlu fr) (powF pn pw - fr.length)
theorem layR_nil (p:List Nat) (o:Nat):layR p o []=p:=by unfold layR;simp
theorem layR_two (a b:List Nat) (m:Nat) (h:a.length + b.length≤m) (i:Nat) (hi:i<(a++b).length) (hi':i<(layR (layR (List.replicate m 0) 0 a) a.length b).length):(layR (layR (List.replicate m 0) 0 a) a.length b)[i]=(a++b)[i]:=by
 have e:layR (layR (List.replicate m 0) 0 a) a.length b=a++b++List.replicate (m - a.length - b.length) 0:=by
  unfold layR
  simp [List.take_append,List.drop_append]
 simp only [e]
 rw [List.getElem_append_left hi]
theorem dlu_dgs (l:List UInt8) (h:allD l=true):Dgs (dlu l):=by
 intro d hd
 simp only [dlu,List.mem_map] at hd
 obtain ⟨c,hc,rfl⟩:=hd
 have:=(isDig_iff c).1 ((List.all_eq_true.1 h) c hc)
 omega
structure PSt (w:World) (b:Nat) (n:Bool) (wh fr:ByteArray) (pn:Bool) (pw:ByteArray) (d:List Nat) (W:World):Prop where
 below:Below w.heap.size w W
 hp:PBox W b n wh fr pn pw
 hb:Box W w.heap.size false ⟨#[]⟩ 0
 hz:b + 1<W.heap.size
 hc:∀ i (h:i<d.length),W.cell? ⟨b + 1,0 + i,none⟩=some (.int .u8 (d[i]:Nat))
theorem PSt.drew {w:World} {b:Nat} {n:Bool} {wh fr:ByteArray} {pn:Bool} {pw:ByteArray} {d:List Nat} {W:World} (h:PSt w b n wh fr pn pw d W):PSt w b n wh fr pn pw d W.drew:=⟨h.below.drew,h.hp,h.hb,h.hz,h.hc⟩
theorem PSt.then {w:World} {b:Nat} {n:Bool} {wh fr:ByteArray} {pn:Bool} {pw:ByteArray} {d:List Nat} {W W1:World} (h:PSt w b n wh fr pn pw d W) (hb:Below W.heap.size W W1):PSt w b n wh fr pn pw d W1 :=
 ⟨below_then h.below hb,h.hp.below hb h.hp.lt,h.hb.below hb h.hb.lt,Nat.lt_of_lt_of_le h.hz hb.size,fun i hi=>(hb.cell (p:=⟨b + 1,0 + i,none⟩) h.hz).trans (h.hc i hi)⟩
theorem powF_bounds (pn:Bool) (l:List UInt8) (h:allD l=true):-9129≤powF pn l∧powF pn l≤9129:=by
 have:=pwA_le l 0 h (by omega)
 unfold powF
 split <;> omega
set_option maxHeartbeats 1000000 in
theorem parse_none (s:ByteArray) (w:World) (hs:s.size≤100000) (h:splitL (bl s)=none) :
  Calls Tryz.prog 166 #[.string s] w fun e w'=>e=retF (false,⟨#[]⟩,0,10)∧Below w.heap.size w w':=by
 have hB:=hide (box_new w false ⟨#[]⟩ 0)
 have h:=hide h
 go_enter Tryz.func166, Tryz.ntmps166
 go_wp2_with fail
 refine (split_any s _ hs).mono ?_
 rw [h.out]
 rintro e w1 ⟨rfl,hb1⟩
 have hB1:=hide (hB.out.below hb1 (by simp))
 have hl:=hB1.out.lt
 obtain ⟨c0,c1,c2,f0,f1,f2⟩:=hB1.out.cells
 have hb:=hide (below_alloc hb1)
 clear hb1
 simp only [splitE,partsE,if_true,Bool.false_eq_true,if_false]
 go_wp2
 refine bodyPost_ret (v:=.tuple #[.agg #[.bool false,.string ⟨#[]⟩,.int .i64 0],.int .i64 10]) (by simp [results,Tryz.results166,go_sem,c0,c1,c2,hl]) rfl ⟨rfl,?_⟩
 refine below_al ?_
 iterate 3 refine below_set ?_ (by omega)
 exact hb.out
set_option maxHeartbeats 1000000 in
theorem parse_long (s:ByteArray) (w:World) (hs:s.size≤100000) (n:Bool) (wh fr:List UInt8) (pn:Bool) (pw:List UInt8) (h:splitL (bl s)=some (n,wh,fr,pn,pw)) (hlong:512<s.size) :
  Calls Tryz.prog 166 #[.string s] w fun e w'=>e=retF (false,⟨#[]⟩,0,2)∧Below w.heap.size w w':=by
 have hB:=hide (box_new w false ⟨#[]⟩ 0)
 have h:=hide h
 go_enter Tryz.func166, Tryz.ntmps166
 go_wp2_with fail
 refine (split_any s _ hs).mono ?_
 rw [h.out]
 rintro e w1 ⟨rfl,hb1⟩
 have hB1:=hide (hB.out.below hb1 (by simp))
 have hl:=hB1.out.lt
 obtain ⟨c0,c1,c2,f0,f1,f2⟩:=hB1.out.cells
 have hb:=hide (below_alloc hb1)
 clear hb1
 simp only [splitE,partsE,if_true,Bool.false_eq_true,if_false]
 go_wp2
 refine bodyPost_ret (v:=.tuple #[.agg #[.bool false,.string ⟨#[]⟩,.int .i64 0],.int .i64 2]) (by simp [results,Tryz.results166,go_sem,c0,c1,c2,hl]) rfl ⟨rfl,?_⟩
 refine below_al ?_
 iterate 3 refine below_set ?_ (by omega)
 exact hb.out
end Go.Proofs.YtgicnopppgnjjaaGreatDoor
namespace Go.Proofs.YtgicnopppgnjjaaGreatDoor
open Go.RowKit
theorem isN_all {n:Bool} {s:ByteArray} {x:Int} (h:isN n s x=true):allD (bl s)=true∧1≤s.size∧s.size≤40∧-400≤x∧x≤400∧Dgs (dg s):=by
 cases hz:isZ n s x
 ·have ho:isO (bl s) x=true:=by simpa [isN,hz] using h
  obtain ⟨a1,a2,a3,a4,a5,a6,a7⟩:=isO_facts ho
  exact ⟨a5,a1,a2,a3,a4,a6.dgs⟩
 ·obtain ⟨_,h2,h3⟩:=isZ_facts hz
  have h4:=(isZ_mag hz).2.1
  have h5:allD (bl s)=true:=by rw [h2];rfl
  exact ⟨h5,by omega,by omega,by omega,by omega,dg_dgs s h5⟩
structure Two (na:Bool) (a:ByteArray) (xa:Int) (nb:Bool) (b:ByteArray) (xb y low:Int):Prop where
 n1:isN na a xa=true
 n2:isN nb b xb=true
 le:mag b xb≤mag a xa
 y0:isZ nb b xb=true→y=xa
 y1:isZ nb b xb=false→y=xb
 l0:low=min xa y
end Go.Proofs.YtgicnopppgnjjaaGreatDoor
namespace Go.Proofs.YtgicnopppgnjjaaGreatDoor
open Go.RowKit
theorem own_conv {W:World} {B:Nat} {v:Value} {l:List UInt8} (h:Own W B v l):(convert 124 9 v).run Tryz.prog W=.ok (.string (mkB l)) W:=by
 have hc:=h
 obtain ⟨h0,h⟩:=h
 rcases h with ⟨rfl,hn⟩|⟨g,cap,cur,rfl,hg,hh,h1,h2,h3,h4⟩
 ·have:l=[]:=List.eq_nil_of_length_eq_zero hn
  subst this
  exact run_convert_bytes_nil W 124 5 Tryz.underlying124 Tryz.underlying5 0 0 9 Tryz.underlying9
 ·refine run_convert_bytes_back W 124 9 5 ⟨g,0,none⟩ cap l Tryz.underlying124 Tryz.underlying5 Tryz.underlying9 (fun j hj=>?_)
  have hcells:∀ j u,(bcs l)[j]?=some u→W.cell? ((⟨g,0,none⟩:Addr).add j)=some u:=World.ownsRow.cells hc (g:=g) rfl
  exact hcells j _ (by simp [bcs,List.getElem?_eq_getElem hj])
def sgnB (n:Bool):List UInt8:=if n then [45] else []
end Go.Proofs.YtgicnopppgnjjaaGreatDoor
namespace Go.Proofs.YtgicnopppgnjjaaGreatDoor
open Go.RowKit
set_option maxRecDepth 100000 in
set_option maxHeartbeats 1000000 in
theorem appendPointed_gt (B:Nat) (v:Value) (l:List UInt8) (s:ByteArray) (bh:Nat) (w:World) (hown:Own w B v l) (hB:B≤w.heap.size) (hl:l.length≤100) (hs:bh<s.size) (hs1:s.size≤100) :
  Calls Tryz.prog 210 #[v,.string s,.int .i64 bh] w fun e w'=>∃ v',e=.returned v'∧Hid (Own w' B v' (l++pointed (bl s) bh))∧Hid (Below B w w'):=by
 have hown:=hide hown
 obtain ⟨k,hk⟩:∃ k:Nat,s.size=bh + k:=⟨s.size - bh,by omega⟩
 have hfin:=hide (show l++pointed (bl s) bh=l++bl (s.extract 0 k)++[46]++bl (s.extract k s.size) by
  unfold pointed;rw [bl_length,if_neg (by omega),drop_mkB,extract_mkB,bl_mkB,bl_mkB,show s.size - bh=k by omega];simp)
 have hx1:=hide (show (s.extract 0 k).size=k by rw [extract_mkB,mkB_size];simp [bl_length];omega)
 have hx2:=hide (show (s.extract k s.size).size=bh by rw [drop_mkB,mkB_size];simp [bl_length];omega)
 have hx1b:=hide (show (bl (s.extract 0 k)).length=k by rw [bl_length];exact hx1.out)
 have hki:(s.size:Int) - (bh:Int)=(k:Int):=by omega
 have hkk:=hide hk
 clear hk
 have hkp:(0:Int)<(k:Int):=by have:=hkk.out;omega
 have hc:¬ ((k:Int)≤0):=by omega
 have hkl:(k:Int)≤s.size:=by have:=hkk.out;omega
 go_enter Tryz.func210, Tryz.ntmps210
 go_wp2_with (first|(at_builtin;refine app_str rfl (.tmp 24) (.tmp 27) rfl B _ l rfl hown.out (s.extract 0 k) rfl (by rw [hx1.out];omega) hB ?_;intro v1 w1 h1 h2 h3;have hn1:=hide (news_one w1 46 5);have hB1:B≤w1.heap.size:=(by omega))|(at_builtin;refine app_bytes rfl (.tmp 29) (.tmp 30) rfl B _ _ rfl (h1.out.alloc _) ⟨w1.heap.size,0,none⟩ 1 1 [46] rfl rfl hn1.out (by rw [List.length_append,hx1b.out];omega) (by simp;omega) ?_;intro v2 w2 h4 h5 h6;simp at h6;have hB2:B≤w2.heap.size:=(by omega))|(at_builtin;refine app_str rfl (.tmp 32) (.tmp 35) rfl B _ _ rfl h4.out (s.extract k s.size) rfl (by rw [hx2.out,List.length_append,List.length_append,hx1b.out,List.length_singleton];omega) hB2 ?_;intro v3 w3 h7 h8 h9))
 go_ret
 refine ⟨_,rfl,?_,?_⟩
 ·show Own _ _ _ _
  rw [hfin.out];exact h7.out
 ·exact (((((Below.refl B w).trans h2.out).alloc hB1 _).trans h5.out).trans h8.out)
theorem appendPointed_any (B:Nat) (v:Value) (l:List UInt8) (s:ByteArray) (bh:Nat) (w:World) (hown:Own w B v l) (hB:B≤w.heap.size) (hl:l.length≤100) (hs1:s.size≤100) (hbh:bh≤100) :
  Calls Tryz.prog 210 #[v,.string s,.int .i64 bh] w fun e w'=>∃ v',e=.returned v'∧Hid (Own w' B v' (l++pointed (bl s) bh))∧Hid (Below B w w'):=by
 by_cases h:s.size≤bh
 ·exact appendPointed_le B v l s bh w hown hB hl h hbh
 ·exact appendPointed_gt B v l s bh w hown hB hl (by omega) hs1
end Go.Proofs.YtgicnopppgnjjaaGreatDoor
namespace Go.Proofs.YtgicnopppgnjjaaGreatDoor
open Go.RowKit
set_option maxHeartbeats 2000000 in
set_option maxRecDepth 1000000 in
theorem parse_some_a (s:ByteArray) (w:World) (hs:s.size≤512) (n:Bool) (wh fr:List UInt8) (pn:Bool) (pw:List UInt8) (h:splitL (bl s)=some (n,wh,fr,pn,pw)) (hfr:fr.length=0) (hw5:wh.length<512) :
  Calls Tryz.prog 166 #[.string s] w fun e w'=>e=retF (formF n (dlu wh++dlu fr) (powF pn pw - fr.length))∧Below w.heap.size w w':=by
 obtain ⟨a1,a2,a3,a4,a5,a6⟩:=splitL_facts h
 rw [bl_length] at a5 a6
 have hB:=hide (box_new w false ⟨#[]⟩ 0)
 have h:=hide h
 have a1:=hide a1
 have a2:=hide a2
 have a3:=hide a3
 go_enter Tryz.func166, Tryz.ntmps166
 go_wp2_with fail
 refine (split_any s _ (by omega)).mono ?_
 rw [h.out]
 rintro e w1 ⟨rfl,hb1⟩
 have hB1:=hide (hB.out.below hb1 (by simp))
 have hl:=hB1.out.lt
 have hb:=hide (below_alloc hb1)
 clear hb1
 simp only [splitE,partsE,if_true,Bool.false_eq_true,if_false]
 go_wp2_with fail
 obtain ⟨W2,hW2⟩:∃ W2,(w1.alloc (.cells #[.bool n,.string (mkB wh),.string (mkB fr),.bool pn,.string (mkB pw)] 194)).alloc (.cells Tryz.zeroCells197 197)=W2:=⟨_,rfl⟩
 rw [hW2]
 have hA2:Hid (Arr W2 (w1.heap.size + 1) 197 (List.replicate 512 0)):=by
  show Arr _ _ _ _
  rw [←hW2,show w1.heap.size + 1=(w1.alloc (.cells #[.bool n,.string (mkB wh),.string (mkB fr),.bool pn,.string (mkB pw)] 194)).heap.size from by simp]
  exact arr_new _ _ 512 _ (by kernel_rfl)
 have hP2:Hid (PBox W2 w1.heap.size n (mkB wh) (mkB fr) pn (mkB pw)):=by
  show PBox _ _ _ _ _ _ _
  rw [←hW2];exact (pbox_new w1 n (mkB wh) (mkB fr) pn (mkB pw)).alloc _
 have hB2:Hid (Box W2 w.heap.size false ⟨#[]⟩ 0):=by
  show Box _ _ _ _ _
  rw [←hW2];exact (hB1.out.alloc _).alloc _
 have hb2:Hid (Below w.heap.size w W2):=by
  show Below _ _ _
  rw [←hW2];exact below_al (below_al hb.out)
 clear hW2 hb hB1 hB
 obtain ⟨p0,p1,p2,p3,p4,r0,r1,r2,r3,r4⟩:=hP2.out.cells
 have hdlw:=hide (dlu_mkB wh)
 have hdlf:=hide (dlu_mkB fr)
 have hlw:(dlu wh).length=wh.length:=by simp [dlu]
 have hlf:(dlu fr).length=fr.length:=by simp [dlu]
 have hsw:=mkB_size wh
 have hsf:=mkB_size fr
 go_region_with (go_at_call 197;refine (lay_any (w1.heap.size + 1) 0 512 512 197 (List.replicate 512 0) (mkB wh) W2.drew hA2.out.drew (by omega) (by simp) (by rw [bl_mkB];exact a1.out) (by simp)).mono ?_;rw [hsw,hdlw.out];rintro e W3 ⟨rfl,hA3,hO3⟩;have hA3:=hide hA3;have hO3:=hide hO3)
 have hP3:=hide (hP2.out.drew.only hO3.out (by omega))
 have hB3:Hid (Box W3 w.heap.size false ⟨#[]⟩ 0):=Box.only (W:=W2.drew) hB2.out hO3.out (by omega)
 have hb3:Hid (Below w.heap.size w W3):=hb2.out.drew.trans (hO3.out.below (by omega))
 have hz3:w1.heap.size + 1<W3.heap.size:=hA3.out.lt
 clear p0 p1 p2 p3 p4 r0 r1 r2 r3 r4 hA2 hP2 hB2 hb2 hO3
 obtain ⟨p0,p1,p2,p3,p4,r0,r1,r2,r3,r4⟩:=hP3.out.cells
 have hdgs:Hid (Dgs (dlu wh++dlu fr)):=by
  intro d hd
  rcases List.mem_append.1 hd with h|h
  ·exact dlu_dgs wh a1.out d h
  ·exact dlu_dgs fr a2.out d h
 have hwi:(wh.length:Int)≤512:=by omega
 have hwi0:(0:Int)≤(wh.length:Int):=by omega
 have hwr0:IntKind.i64.wrap (wh.length:Int)=wh.length:=by rw [IntKind.wrap_i64];omega
 have hwr1:IntKind.i64.wrap ((wh.length:Int) + (fr.length:Int))=(wh.length:Int) + (fr.length:Int):=by rw [IntKind.wrap_i64];omega
 have hwr2:IntKind.i64.wrap (powF pn pw - (fr.length:Int))=powF pn pw - (fr.length:Int):=by
  have:=powF_bounds pn pw a3.out
  rw [IntKind.wrap_i64];omega
 obtain ⟨q3,hq3⟩:∃ q3,layR (List.replicate 512 0) 0 (dlu wh)=q3:=⟨_,rfl⟩
 rw [hq3] at hA3
 have hq3l:q3.length=512:=by rw [←hq3,layR_len _ _ _ (by rw [List.length_replicate];omega),List.length_replicate]
 have hq3:=hide hq3
 have hq3l:=hide hq3l
 have hfr0:=hide hfr
 clear hfr
 have hwl:(wh.length:Int)<512:=by omega
 have hwl':¬ 512 - wh.length=0:=by omega
 go_wp2_with fail
 go_region_with (go_at_call 197;go_fit (lay_none _ (mkB fr) W3.drew (by rw [hsf];exact hfr0.out));rintro e W4 ⟨rfl,rfl⟩)
 have hA4:Hid (Arr W3.drew (w1.heap.size + 1) 197 (layR q3 wh.length (dlu fr))):=by
  show Arr _ _ _ _
  rw [List.eq_nil_of_length_eq_zero (hlf.trans hfr0.out),layR_nil];exact hA3.out.drew
 have hP4:=hide hP3.out.drew
 have hB4:Hid (Box W3.drew w.heap.size false ⟨#[]⟩ 0):=hB3.out
 have hb4:=hide hb3.out.drew
 have hz4:w1.heap.size + 1<W3.drew.heap.size:=hA4.out.lt
 clear p0 p1 p2 p3 p4 r0 r1 r2 r3 r4 hA3 hP3 hB3 hb3
 obtain ⟨p0,p1,p2,p3,p4,r0,r1,r2,r3,r4⟩:=hP4.out.cells
 obtain ⟨hpw1,hpw2⟩:=powF_bounds pn pw a3.out
 have hcells:Hid (∀ i (h:i<(dlu wh++dlu fr).length),W3.drew.cell? ⟨w1.heap.size + 1,0 + i,none⟩=some (.int .u8 ((dlu wh++dlu fr)[i]:Nat))):=by
  show ∀ i (h:i<(dlu wh++dlu fr).length),_
  intro i hi
  have hi2:i<wh.length + fr.length:=by rw [List.length_append,hlw,hlf] at hi;exact hi
  have hlen:(layR q3 wh.length (dlu fr)).length=512:=by rw [layR_len _ _ _ (by have:=hq3l.out;omega)];exact hq3l.out
  rw [Nat.zero_add,hA4.out.cell i (by omega)]
  have e:=layR_two (dlu wh) (dlu fr) 512 (by omega) i hi (by rw [hlw,hq3.out];omega)
  simp only [hlw,hq3.out] at e
  rw [e]
 go_wp2_with fail
 have S4:Hid (PSt w w1.heap.size n (mkB wh) (mkB fr) pn (mkB pw) (dlu wh++dlu fr) W3.drew):=⟨hb4.out,hP4.out,hB4.out,hz4,hcells.out⟩
 have hpl:(mkB pw).size≤100000:=by rw [mkB_size];omega
 have hpb:=hide (bl_mkB pw)
 have hpa:=hide (show allD (bl (mkB pw))=true by rw [bl_mkB];exact a3.out)
 have hdl:=hide (show (dlu wh++dlu fr).length=wh.length by rw [List.length_append,hlw,hlf];have:=hfr0.out;omega)
 go_region_with (first|(go_at_call 199;go_fit (powerOf_any n (mkB wh) (mkB fr) pn (mkB pw) W3.drew.drew hpl hpa.out);rw [hpb.out];rintro e W5 ⟨rfl,hb5⟩;have S5:=hide (S4.out.drew.then hb5);clear hb5;obtain ⟨u0,u1,u2,u3,u4,s0,s1,s2,s3,s4⟩:=S5.out.hp.cells)|(go_at_call 198;go_fit (form_any n (w1.heap.size + 1) 0 wh.length 512 (dlu wh++dlu fr) (powF pn pw - fr.length) W5 hdl.out (by omega) (by omega) (by omega) (by omega) S5.out.hz S5.out.hc (by omega) (by omega) hdgs.out);rintro e W6 ⟨rfl,hb6⟩;obtain ⟨fb,fs,fx,fe,hfe⟩:∃ fb fs fx fe,formF n (dlu wh++dlu fr) (powF pn pw - fr.length)=(fb,fs,fx,fe):=⟨_,_,_,_,rfl⟩;rw [hfe];have hfe:=hide hfe;have S6:=hide (S5.out.then hb6);clear hb6;obtain ⟨d20,d21,d22,g20,g21,g22⟩:=S6.out.hb.cells;simp only [retF]))
 all_goals
  go_wp2
  refine bodyPost_ret (v:=.tuple #[.agg #[.bool fb,.string fs,.int .i64 fx],.int .i64 fe]) (by simp [results,Tryz.results166,go_sem,d20,d21,d22]) rfl ⟨by rw [hfe.out];rfl,?_⟩
  exact ((S6.out.below.setCell (Nat.le_refl _) _).setCell (Nat.le_refl _) _).setCell (Nat.le_refl _) _
end Go.Proofs.YtgicnopppgnjjaaGreatDoor
namespace Go.Proofs.YtgicnopppgnjjaaGreatDoor
open Go.RowKit
set_option maxHeartbeats 2000000 in
set_option maxRecDepth 1000000 in
theorem parse_some_b (s:ByteArray) (w:World) (hs:s.size≤512) (n:Bool) (wh fr:List UInt8) (pn:Bool) (pw:List UInt8) (h:splitL (bl s)=some (n,wh,fr,pn,pw)) (hfr:fr.length=0) (hw5:¬ wh.length<512) :
  Calls Tryz.prog 166 #[.string s] w fun e w'=>e=retF (formF n (dlu wh++dlu fr) (powF pn pw - fr.length))∧Below w.heap.size w w':=by
 obtain ⟨a1,a2,a3,a4,a5,a6⟩:=splitL_facts h
 rw [bl_length] at a5 a6
 have hB:=hide (box_new w false ⟨#[]⟩ 0)
 have h:=hide h
 have a1:=hide a1
 have a2:=hide a2
 have a3:=hide a3
 go_enter Tryz.func166, Tryz.ntmps166
 go_wp2_with fail
 refine (split_any s _ (by omega)).mono ?_
 rw [h.out]
 rintro e w1 ⟨rfl,hb1⟩
 have hB1:=hide (hB.out.below hb1 (by simp))
 have hl:=hB1.out.lt
 have hb:=hide (below_alloc hb1)
 clear hb1
 simp only [splitE,partsE,if_true,Bool.false_eq_true,if_false]
 go_wp2_with fail
 obtain ⟨W2,hW2⟩:∃ W2,(w1.alloc (.cells #[.bool n,.string (mkB wh),.string (mkB fr),.bool pn,.string (mkB pw)] 194)).alloc (.cells Tryz.zeroCells197 197)=W2:=⟨_,rfl⟩
 rw [hW2]
 have hA2:Hid (Arr W2 (w1.heap.size + 1) 197 (List.replicate 512 0)):=by
  show Arr _ _ _ _
  rw [←hW2,show w1.heap.size + 1=(w1.alloc (.cells #[.bool n,.string (mkB wh),.string (mkB fr),.bool pn,.string (mkB pw)] 194)).heap.size from by simp]
  exact arr_new _ _ 512 _ (by kernel_rfl)
 have hP2:Hid (PBox W2 w1.heap.size n (mkB wh) (mkB fr) pn (mkB pw)):=by
  show PBox _ _ _ _ _ _ _
  rw [←hW2];exact (pbox_new w1 n (mkB wh) (mkB fr) pn (mkB pw)).alloc _
 have hB2:Hid (Box W2 w.heap.size false ⟨#[]⟩ 0):=by
  show Box _ _ _ _ _
  rw [←hW2];exact (hB1.out.alloc _).alloc _
 have hb2:Hid (Below w.heap.size w W2):=by
  show Below _ _ _
  rw [←hW2];exact below_al (below_al hb.out)
 clear hW2 hb hB1 hB
 obtain ⟨p0,p1,p2,p3,p4,r0,r1,r2,r3,r4⟩:=hP2.out.cells
 have hdlw:=hide (dlu_mkB wh)
 have hdlf:=hide (dlu_mkB fr)
 have hlw:(dlu wh).length=wh.length:=by simp [dlu]
 have hlf:(dlu fr).length=fr.length:=by simp [dlu]
 have hsw:=mkB_size wh
 have hsf:=mkB_size fr
 go_region_with (go_at_call 197;refine (lay_any (w1.heap.size + 1) 0 512 512 197 (List.replicate 512 0) (mkB wh) W2.drew hA2.out.drew (by omega) (by simp) (by rw [bl_mkB];exact a1.out) (by simp)).mono ?_;rw [hsw,hdlw.out];rintro e W3 ⟨rfl,hA3,hO3⟩;have hA3:=hide hA3;have hO3:=hide hO3)
 have hP3:=hide (hP2.out.drew.only hO3.out (by omega))
 have hB3:Hid (Box W3 w.heap.size false ⟨#[]⟩ 0):=Box.only (W:=W2.drew) hB2.out hO3.out (by omega)
 have hb3:Hid (Below w.heap.size w W3):=hb2.out.drew.trans (hO3.out.below (by omega))
 have hz3:w1.heap.size + 1<W3.heap.size:=hA3.out.lt
 clear p0 p1 p2 p3 p4 r0 r1 r2 r3 r4 hA2 hP2 hB2 hb2 hO3
 obtain ⟨p0,p1,p2,p3,p4,r0,r1,r2,r3,r4⟩:=hP3.out.cells
 have hdgs:Hid (Dgs (dlu wh++dlu fr)):=by
  intro d hd
  rcases List.mem_append.1 hd with h|h
  ·exact dlu_dgs wh a1.out d h
  ·exact dlu_dgs fr a2.out d h
 have hwi:(wh.length:Int)≤512:=by omega
 have hwi0:(0:Int)≤(wh.length:Int):=by omega
 have hwr0:IntKind.i64.wrap (wh.length:Int)=wh.length:=by rw [IntKind.wrap_i64];omega
 have hwr1:IntKind.i64.wrap ((wh.length:Int) + (fr.length:Int))=(wh.length:Int) + (fr.length:Int):=by rw [IntKind.wrap_i64];omega
 have hwr2:IntKind.i64.wrap (powF pn pw - (fr.length:Int))=powF pn pw - (fr.length:Int):=by
  have:=powF_bounds pn pw a3.out
  rw [IntKind.wrap_i64];omega
 obtain ⟨q3,hq3⟩:∃ q3,layR (List.replicate 512 0) 0 (dlu wh)=q3:=⟨_,rfl⟩
 rw [hq3] at hA3
 have hq3l:q3.length=512:=by rw [←hq3,layR_len _ _ _ (by rw [List.length_replicate];omega),List.length_replicate]
 have hq3:=hide hq3
 have hq3l:=hide hq3l
 have hfr0:=hide hfr
 clear hfr
 have hwl':512 - wh.length=0:=by omega
 clear hw5
 go_wp2_with fail
 go_region_with (go_at_call 197;go_fit (lay_none _ (mkB fr) W3.drew (by rw [hsf];exact hfr0.out));rintro e W4 ⟨rfl,rfl⟩)
 have hA4:Hid (Arr W3.drew (w1.heap.size + 1) 197 (layR q3 wh.length (dlu fr))):=by
  show Arr _ _ _ _
  rw [List.eq_nil_of_length_eq_zero (hlf.trans hfr0.out),layR_nil];exact hA3.out.drew
 have hP4:=hide hP3.out.drew
 have hB4:Hid (Box W3.drew w.heap.size false ⟨#[]⟩ 0):=hB3.out
 have hb4:=hide hb3.out.drew
 have hz4:w1.heap.size + 1<W3.drew.heap.size:=hA4.out.lt
 clear p0 p1 p2 p3 p4 r0 r1 r2 r3 r4 hA3 hP3 hB3 hb3
 obtain ⟨p0,p1,p2,p3,p4,r0,r1,r2,r3,r4⟩:=hP4.out.cells
 obtain ⟨hpw1,hpw2⟩:=powF_bounds pn pw a3.out
 have hcells:Hid (∀ i (h:i<(dlu wh++dlu fr).length),W3.drew.cell? ⟨w1.heap.size + 1,0 + i,none⟩=some (.int .u8 ((dlu wh++dlu fr)[i]:Nat))):=by
  show ∀ i (h:i<(dlu wh++dlu fr).length),_
  intro i hi
  have hi2:i<wh.length + fr.length:=by rw [List.length_append,hlw,hlf] at hi;exact hi
  have hlen:(layR q3 wh.length (dlu fr)).length=512:=by rw [layR_len _ _ _ (by have:=hq3l.out;omega)];exact hq3l.out
  rw [Nat.zero_add,hA4.out.cell i (by omega)]
  have e:=layR_two (dlu wh) (dlu fr) 512 (by omega) i hi (by rw [hlw,hq3.out];omega)
  simp only [hlw,hq3.out] at e
  rw [e]
 go_wp2_with fail
 have S4:Hid (PSt w w1.heap.size n (mkB wh) (mkB fr) pn (mkB pw) (dlu wh++dlu fr) W3.drew):=⟨hb4.out,hP4.out,hB4.out,hz4,hcells.out⟩
 have hpl:(mkB pw).size≤100000:=by rw [mkB_size];omega
 have hpb:=hide (bl_mkB pw)
 have hpa:=hide (show allD (bl (mkB pw))=true by rw [bl_mkB];exact a3.out)
 have hdl:=hide (show (dlu wh++dlu fr).length=wh.length by rw [List.length_append,hlw,hlf];have:=hfr0.out;omega)
 go_region_with (first|(go_at_call 199;go_fit (powerOf_any n (mkB wh) (mkB fr) pn (mkB pw) W3.drew.drew hpl hpa.out);rw [hpb.out];rintro e W5 ⟨rfl,hb5⟩;have S5:=hide (S4.out.drew.then hb5);clear hb5;obtain ⟨u0,u1,u2,u3,u4,s0,s1,s2,s3,s4⟩:=S5.out.hp.cells)|(go_at_call 198;go_fit (form_any n (w1.heap.size + 1) 0 wh.length wh.length (dlu wh++dlu fr) (powF pn pw - fr.length) W5 hdl.out (by omega) (by omega) (by omega) (by omega) S5.out.hz S5.out.hc (by omega) (by omega) hdgs.out);rintro e W6 ⟨rfl,hb6⟩;obtain ⟨fb,fs,fx,fe,hfe⟩:∃ fb fs fx fe,formF n (dlu wh++dlu fr) (powF pn pw - fr.length)=(fb,fs,fx,fe):=⟨_,_,_,_,rfl⟩;rw [hfe];have hfe:=hide hfe;have S6:=hide (S5.out.then hb6);clear hb6;obtain ⟨d20,d21,d22,g20,g21,g22⟩:=S6.out.hb.cells;simp only [retF]))
 all_goals
  go_wp2
  refine bodyPost_ret (v:=.tuple #[.agg #[.bool fb,.string fs,.int .i64 fx],.int .i64 fe]) (by simp [results,Tryz.results166,go_sem,d20,d21,d22]) rfl ⟨by rw [hfe.out];rfl,?_⟩
  exact ((S6.out.below.setCell (Nat.le_refl _) _).setCell (Nat.le_refl _) _).setCell (Nat.le_refl _) _
end Go.Proofs.YtgicnopppgnjjaaGreatDoor
namespace Go.Proofs.YtgicnopppgnjjaaGreatDoor
open Go.RowKit
set_option maxHeartbeats 2000000 in
set_option maxRecDepth 1000000 in
theorem parse_some_c (s:ByteArray) (w:World) (hs:s.size≤512) (n:Bool) (wh fr:List UInt8) (pn:Bool) (pw:List UInt8) (h:splitL (bl s)=some (n,wh,fr,pn,pw)) (hfr:¬ fr.length=0) :
  Calls Tryz.prog 166 #[.string s] w fun e w'=>e=retF (formF n (dlu wh++dlu fr) (powF pn pw - fr.length))∧Below w.heap.size w w':=by
 obtain ⟨a1,a2,a3,a4,a5,a6⟩:=splitL_facts h
 rw [bl_length] at a5 a6
 have hB:=hide (box_new w false ⟨#[]⟩ 0)
 have h:=hide h
 have a1:=hide a1
 have a2:=hide a2
 have a3:=hide a3
 go_enter Tryz.func166, Tryz.ntmps166
 go_wp2_with fail
 refine (split_any s _ (by omega)).mono ?_
 rw [h.out]
 rintro e w1 ⟨rfl,hb1⟩
 have hB1:=hide (hB.out.below hb1 (by simp))
 have hl:=hB1.out.lt
 have hb:=hide (below_alloc hb1)
 clear hb1
 simp only [splitE,partsE,if_true,Bool.false_eq_true,if_false]
 go_wp2_with fail
 obtain ⟨W2,hW2⟩:∃ W2,(w1.alloc (.cells #[.bool n,.string (mkB wh),.string (mkB fr),.bool pn,.string (mkB pw)] 194)).alloc (.cells Tryz.zeroCells197 197)=W2:=⟨_,rfl⟩
 rw [hW2]
 have hA2:Hid (Arr W2 (w1.heap.size + 1) 197 (List.replicate 512 0)):=by
  show Arr _ _ _ _
  rw [←hW2,show w1.heap.size + 1=(w1.alloc (.cells #[.bool n,.string (mkB wh),.string (mkB fr),.bool pn,.string (mkB pw)] 194)).heap.size from by simp]
  exact arr_new _ _ 512 _ (by kernel_rfl)
 have hP2:Hid (PBox W2 w1.heap.size n (mkB wh) (mkB fr) pn (mkB pw)):=by
  show PBox _ _ _ _ _ _ _
  rw [←hW2];exact (pbox_new w1 n (mkB wh) (mkB fr) pn (mkB pw)).alloc _
 have hB2:Hid (Box W2 w.heap.size false ⟨#[]⟩ 0):=by
  show Box _ _ _ _ _
  rw [←hW2];exact (hB1.out.alloc _).alloc _
 have hb2:Hid (Below w.heap.size w W2):=by
  show Below _ _ _
  rw [←hW2];exact below_al (below_al hb.out)
 clear hW2 hb hB1 hB
 obtain ⟨p0,p1,p2,p3,p4,r0,r1,r2,r3,r4⟩:=hP2.out.cells
 have hdlw:=hide (dlu_mkB wh)
 have hdlf:=hide (dlu_mkB fr)
 have hlw:(dlu wh).length=wh.length:=by simp [dlu]
 have hlf:(dlu fr).length=fr.length:=by simp [dlu]
 have hsw:=mkB_size wh
 have hsf:=mkB_size fr
 go_region_with (go_at_call 197;refine (lay_any (w1.heap.size + 1) 0 512 512 197 (List.replicate 512 0) (mkB wh) W2.drew hA2.out.drew (by omega) (by simp) (by rw [bl_mkB];exact a1.out) (by simp)).mono ?_;rw [hsw,hdlw.out];rintro e W3 ⟨rfl,hA3,hO3⟩;have hA3:=hide hA3;have hO3:=hide hO3)
 have hP3:=hide (hP2.out.drew.only hO3.out (by omega))
 have hB3:Hid (Box W3 w.heap.size false ⟨#[]⟩ 0):=Box.only (W:=W2.drew) hB2.out hO3.out (by omega)
 have hb3:Hid (Below w.heap.size w W3):=hb2.out.drew.trans (hO3.out.below (by omega))
 have hz3:w1.heap.size + 1<W3.heap.size:=hA3.out.lt
 clear p0 p1 p2 p3 p4 r0 r1 r2 r3 r4 hA2 hP2 hB2 hb2 hO3
 obtain ⟨p0,p1,p2,p3,p4,r0,r1,r2,r3,r4⟩:=hP3.out.cells
 have hdgs:Hid (Dgs (dlu wh++dlu fr)):=by
  intro d hd
  rcases List.mem_append.1 hd with h|h
  ·exact dlu_dgs wh a1.out d h
  ·exact dlu_dgs fr a2.out d h
 have hwi:(wh.length:Int)≤512:=by omega
 have hwi0:(0:Int)≤(wh.length:Int):=by omega
 have hwr0:IntKind.i64.wrap (wh.length:Int)=wh.length:=by rw [IntKind.wrap_i64];omega
 have hwr1:IntKind.i64.wrap ((wh.length:Int) + (fr.length:Int))=(wh.length:Int) + (fr.length:Int):=by rw [IntKind.wrap_i64];omega
 have hwr2:IntKind.i64.wrap (powF pn pw - (fr.length:Int))=powF pn pw - (fr.length:Int):=by
  have:=powF_bounds pn pw a3.out
  rw [IntKind.wrap_i64];omega
 obtain ⟨q3,hq3⟩:∃ q3,layR (List.replicate 512 0) 0 (dlu wh)=q3:=⟨_,rfl⟩
 rw [hq3] at hA3
 have hq3l:q3.length=512:=by rw [←hq3,layR_len _ _ _ (by rw [List.length_replicate];omega),List.length_replicate]
 have hq3:=hide hq3
 have hq3l:=hide hq3l
 have hwl:(wh.length:Int)<512:=by omega
 have hwl':¬ 512 - wh.length=0:=by omega
 have f1:(mkB fr).size≤512 - wh.length:=by omega
 have f2:wh.length + (512 - wh.length)≤q3.length:=by have:=hq3l.out;omega
 have f3:q3.length≤100000:=by have:=hq3l.out;omega
 have HC:=hide (lay_any (w1.heap.size + 1) wh.length (512 - wh.length) (512 - wh.length) 197 q3 (mkB fr) W3.drew hA3.out.drew f1 f2 (by rw [bl_mkB];exact a2.out) f3)
 clear f1 f2 f3
 go_wp2_with fail
 go_region_with (go_at_call 197;go_fit HC.out;rw [hsf,hdlf.out];rintro e W4 ⟨rfl,hA4,hO4⟩;have hA4:=hide hA4;have hO4:=hide hO4)
 clear HC
 have hkk:(wh.length:Int) + (fr.length:Int)≤512:=by omega
 have hkk0:(0:Int)≤(wh.length:Int) + (fr.length:Int):=by omega
 have hkt:((wh.length:Int) + (fr.length:Int)).toNat=wh.length + fr.length:=by omega
 have hP4:=hide (hP3.out.drew.only hO4.out (by omega))
 have hB4:Hid (Box W4 w.heap.size false ⟨#[]⟩ 0):=Box.only (W:=W3.drew) hB3.out hO4.out (by omega)
 have hb4:Hid (Below w.heap.size w W4):=hb3.out.drew.trans (hO4.out.below (by omega))
 clear hO4
 have hz4:w1.heap.size + 1<W4.heap.size:=hA4.out.lt
 clear p0 p1 p2 p3 p4 r0 r1 r2 r3 r4 hA3 hP3 hB3 hb3
 obtain ⟨p0,p1,p2,p3,p4,r0,r1,r2,r3,r4⟩:=hP4.out.cells
 obtain ⟨hpw1,hpw2⟩:=powF_bounds pn pw a3.out
 have hcells:Hid (∀ i (h:i<(dlu wh++dlu fr).length),W4.cell? ⟨w1.heap.size + 1,0 + i,none⟩=some (.int .u8 ((dlu wh++dlu fr)[i]:Nat))):=by
  show ∀ i (h:i<(dlu wh++dlu fr).length),_
  intro i hi
  have hi2:i<wh.length + fr.length:=by rw [List.length_append,hlw,hlf] at hi;exact hi
  have hlen:(layR q3 wh.length (dlu fr)).length=512:=by rw [layR_len _ _ _ (by have:=hq3l.out;omega)];exact hq3l.out
  rw [Nat.zero_add,hA4.out.cell i (by omega)]
  have e:=layR_two (dlu wh) (dlu fr) 512 (by omega) i hi (by rw [hlw,hq3.out];omega)
  simp only [hlw,hq3.out] at e
  rw [e]
 go_wp2_with fail
 have S4:Hid (PSt w w1.heap.size n (mkB wh) (mkB fr) pn (mkB pw) (dlu wh++dlu fr) W4):=⟨hb4.out,hP4.out,hB4.out,hz4,hcells.out⟩
 have hpl:(mkB pw).size≤100000:=by rw [mkB_size];omega
 have hpb:=hide (bl_mkB pw)
 have hpa:=hide (show allD (bl (mkB pw))=true by rw [bl_mkB];exact a3.out)
 have hdl:=hide (show (dlu wh++dlu fr).length=(wh.length + fr.length) by rw [List.length_append,hlw,hlf])
 go_region_with (first|(go_at_call 199;go_fit (powerOf_any n (mkB wh) (mkB fr) pn (mkB pw) W4.drew hpl hpa.out);rw [hpb.out];rintro e W5 ⟨rfl,hb5⟩;have S5:=hide (S4.out.drew.then hb5);clear hb5;obtain ⟨u0,u1,u2,u3,u4,s0,s1,s2,s3,s4⟩:=S5.out.hp.cells)|(go_at_call 198;go_fit (form_any n (w1.heap.size + 1) 0 (wh.length + fr.length) 512 (dlu wh++dlu fr) (powF pn pw - fr.length) W5 hdl.out (by omega) (by omega) (by omega) (by omega) S5.out.hz S5.out.hc (by omega) (by omega) hdgs.out);rintro e W6 ⟨rfl,hb6⟩;obtain ⟨fb,fs,fx,fe,hfe⟩:∃ fb fs fx fe,formF n (dlu wh++dlu fr) (powF pn pw - fr.length)=(fb,fs,fx,fe):=⟨_,_,_,_,rfl⟩;rw [hfe];have hfe:=hide hfe;have S6:=hide (S5.out.then hb6);clear hb6;obtain ⟨d20,d21,d22,g20,g21,g22⟩:=S6.out.hb.cells;simp only [retF]))
 all_goals
  go_wp2
  refine bodyPost_ret (v:=.tuple #[.agg #[.bool fb,.string fs,.int .i64 fx],.int .i64 fe]) (by simp [results,Tryz.results166,go_sem,d20,d21,d22]) rfl ⟨by rw [hfe.out];rfl,?_⟩
  exact ((S6.out.below.setCell (Nat.le_refl _) _).setCell (Nat.le_refl _) _).setCell (Nat.le_refl _) _
end Go.Proofs.YtgicnopppgnjjaaGreatDoor
namespace Go.Proofs.YtgicnopppgnjjaaGreatDoor
open Go.RowKit
theorem parse_any (s:ByteArray) (w:World) (hs:s.size≤100000) :
  Calls Tryz.prog 166 #[.string s] w fun e w'=>e=retF (parseF (bl s))∧Below w.heap.size w w':=by
 unfold parseF
 cases h:splitL (bl s) with
 | none=>exact parse_none s w hs h
 | some r =>
  obtain ⟨n,wh,fr,pn,pw⟩:=r
  simp only
  rw [bl_length]
  by_cases hl:512<s.size
  ·rw [if_pos hl];exact parse_long s w hs n wh fr pn pw h hl
  ·rw [if_neg hl]
   by_cases hfr:fr.length=0
   ·by_cases hw:wh.length<512
    ·exact parse_some_a s w (by omega) n wh fr pn pw h hfr hw
    ·exact parse_some_b s w (by omega) n wh fr pn pw h hfr hw
   ·exact parse_some_c s w (by omega) n wh fr pn pw h hfr
theorem formF_isN {neg:Bool} {d:List Nat} {x:Int} (hd:Dgs d) {b:Bool} {s:ByteArray} {y:Int} (h:formF neg d x=(b,s,y,0)):isN b s y=true:=by
 unfold formF at h
 by_cases hz:lz d=d.length
 ·rw [if_pos hz] at h
  simp only [Prod.mk.injEq] at h
  obtain ⟨rfl,rfl,rfl,_⟩:=h
  rfl
 ·rw [if_neg hz] at h
  have hlt:lz d<d.length:=by have:=lz_le d;omega
  obtain ⟨hc,hne⟩:=core_can d hlt hd
  by_cases hf:(core d).length≤40∧-400≤x + tz (dz d)∧x + tz (dz d)≤400
  ·rw [if_pos hf] at h
   simp only [Prod.mk.injEq] at h
   obtain ⟨rfl,rfl,rfl,_⟩:=h
   have ho:=mkS_isO (core d) (x + tz (dz d)) hc hne hf.1 hf.2.1 hf.2.2
   simp [isN,ho]
  ·rw [if_neg hf] at h
   simp only [Prod.mk.injEq] at h
   exact absurd h.2.2.2 (by decide)
theorem parseF_isN {l:List UInt8} {b:Bool} {s:ByteArray} {y:Int} (h:parseF l=(b,s,y,0)):isN b s y=true:=by
 unfold parseF at h
 cases hs:splitL l with
 | none =>
  rw [hs] at h
  simp only [Prod.mk.injEq] at h
  exact absurd h.2.2.2 (by decide)
 | some r =>
  obtain ⟨n,wh,fr,pn,pw⟩:=r
  rw [hs] at h
  simp only at h
  obtain ⟨f1,f2,_⟩:=splitL_facts hs
  split at h
  ·simp only [Prod.mk.injEq] at h
   exact absurd h.2.2.2 (by decide)
  ·refine formF_isN (fun d hd=>?_) h
   rcases List.mem_append.1 hd with q|q
   ·exact dlu_dgs wh f1 d q
   ·exact dlu_dgs fr f2 d q
theorem parseF_size {l:List UInt8} (h:(parseF l).2.2.2≠0):parseF l=(false,⟨#[]⟩,0,(parseF l).2.2.2):=by
 revert h
 unfold parseF
 cases splitL l with
 | none=>intro _;rfl
 | some r =>
  obtain ⟨n,wh,fr,pn,pw⟩:=r
  simp only
  split
  ·intro _;rfl
  ·unfold formF
   split
   ·intro h;exact absurd rfl h
   ·split
    ·intro h;exact absurd rfl h
    ·intro _;rfl
end Go.Proofs.YtgicnopppgnjjaaGreatDoor
