/- Merged by program: NyParse, NzParse, KgUnhex, NzParseA, NzParseB, NzParseC, PaParse. -/
import Derived.Test.YthodiandebahdaaGreatDoorZq06
import Derived.Test.YthodiandebahdaaGreatDoorZq07
namespace Go.Proofs.YthodiandebahdaaGreatDoor
open Go.RowKit
set_option linter.unusedSimpArgs false
set_option linter.unusedVariables false
set_option maxHeartbeats 8000000
theorem split_any (s:ByteArray)(w:World)(hs:s.size≤100000) :
  Calls Tryz.prog 175 #[.string s] w fun e w'=>e=splitE (splitL (bl s))∧Below w.heap.size w w':=by
 unfold splitL
 obtain ⟨wh,hwh⟩:∃ wh,(tlB 45 (bl s)).takeWhile isDig=wh:=⟨_,rfl⟩
 cases hbw:badW ((tlB 45 (bl s)).takeWhile isDig)
 ·simp only [Bool.false_eq_true,if_false]
  simp only [badW,Bool.or_eq_false_iff] at hbw
  have hne:1≤((tlB 45 (bl s)).takeWhile isDig).length:=by
   rcases hh:(tlB 45 (bl s)).takeWhile isDig with _|⟨a,l⟩
   ·rw [hh] at hbw;simp at hbw
   ·simp
  by_cases h1:((tlB 45 (bl s)).takeWhile isDig).length=1
  ·cases hpt:hdB 46 ((tlB 45 (bl s)).dropWhile isDig)
   ·simp only [Bool.false_eq_true,if_false]
    cases hL:(tlB 45 (bl s)).dropWhile isDig with
    | nil=>have:=split_one_no_nil s w hs h1 hpt hL;rwa [hL] at this
    | cons c r =>
     by_cases hc1:c=101
     ·have:=split_one_no_p s w hs h1 hpt c r hL (Or.inl hc1);rwa [hL] at this
     ·by_cases hc2:c=69
      ·have:=split_one_no_p s w hs h1 hpt c r hL (Or.inr hc2);rwa [hL] at this
      ·have:=split_one_no_bad s w hs h1 hpt c r hL hc1 hc2;rwa [hL] at this
   ·simp only [if_true]
    cases hfr:((tlB 46 ((tlB 45 (bl s)).dropWhile isDig)).takeWhile isDig).isEmpty
    ·simp only [Bool.false_eq_true,if_false]
     cases hL:(tlB 46 ((tlB 45 (bl s)).dropWhile isDig)).dropWhile isDig with
     | nil=>have:=split_one_pt_nil s w hs h1 hpt hfr hL;rwa [hL] at this
     | cons c r =>
      by_cases hc1:c=101
      ·have:=split_one_pt_p s w hs h1 hpt hfr c r hL (Or.inl hc1);rwa [hL] at this
      ·by_cases hc2:c=69
       ·have:=split_one_pt_p s w hs h1 hpt hfr c r hL (Or.inr hc2);rwa [hL] at this
       ·have:=split_one_pt_bad s w hs h1 hpt hfr c r hL hc1 hc2;rwa [hL] at this
    ·exact split_one_pt_none s w hs h1 hpt hfr
  ·have h1:1<((tlB 45 (bl s)).takeWhile isDig).length∧((tlB 45 (bl s)).takeWhile isDig).head?≠some 48:=by
    have h2:1<((tlB 45 (bl s)).takeWhile isDig).length:=by omega
    refine ⟨h2,?_⟩
    have:=hbw.2
    rw [decide_eq_true h2,Bool.true_and,beq_eq_false_iff_ne] at this
    exact this
   cases hpt:hdB 46 ((tlB 45 (bl s)).dropWhile isDig)
   ·simp only [Bool.false_eq_true,if_false]
    cases hL:(tlB 45 (bl s)).dropWhile isDig with
    | nil=>have:=split_more_no_nil s w hs h1 hpt hL;rwa [hL] at this
    | cons c r =>
     by_cases hc1:c=101
     ·have:=split_more_no_p s w hs h1 hpt c r hL (Or.inl hc1);rwa [hL] at this
     ·by_cases hc2:c=69
      ·have:=split_more_no_p s w hs h1 hpt c r hL (Or.inr hc2);rwa [hL] at this
      ·have:=split_more_no_bad s w hs h1 hpt c r hL hc1 hc2;rwa [hL] at this
   ·simp only [if_true]
    cases hfr:((tlB 46 ((tlB 45 (bl s)).dropWhile isDig)).takeWhile isDig).isEmpty
    ·simp only [Bool.false_eq_true,if_false]
     cases hL:(tlB 46 ((tlB 45 (bl s)).dropWhile isDig)).dropWhile isDig with
     | nil=>have:=split_more_pt_nil s w hs h1 hpt hfr hL;rwa [hL] at this
     | cons c r =>
      by_cases hc1:c=101
      ·have:=split_more_pt_p s w hs h1 hpt hfr c r hL (Or.inl hc1);rwa [hL] at this
      ·by_cases hc2:c=69
       ·have:=split_more_pt_p s w hs h1 hpt hfr c r hL (Or.inr hc2);rwa [hL] at this
       ·have:=split_more_pt_bad s w hs h1 hpt hfr c r hL hc1 hc2;rwa [hL] at this
    ·exact split_more_pt_none s w hs h1 hpt hfr
 ·simp only [if_true]
  simp only [badW,Bool.or_eq_true,Bool.and_eq_true,decide_eq_true_eq,beq_iff_eq] at hbw
  rcases hbw with h|h
  ·exact split_empty s w hs h
  ·exact split_lead s w hs h
theorem allD_tw (l:List UInt8):allD (l.takeWhile isDig)=true:=by
 unfold allD
 induction l with
 | nil=>rfl
 | cons a l ih =>
  by_cases h:isDig a=true
  ·simp [h]
  ·simp [h]
theorem splitL_facts {l:List UInt8} {n:Bool} {wh fr:List UInt8} {pn:Bool} {pw:List UInt8} (h:splitL l=some (n,wh,fr,pn,pw)) :
  allD wh=true∧allD fr=true∧allD pw=true∧1≤wh.length∧wh.length+fr.length≤l.length∧pw.length≤l.length:=by
 have key:∀ (n:Bool)(wh fr l4:List UInt8) (m:Nat),allD wh=true→allD fr=true→1≤wh.length→wh.length+fr.length≤m→l4.length≤m→∀ n' wh' fr' pn' pw',splitT n wh fr l4=some (n',wh',fr',pn',pw')→allD wh'=true∧allD fr'=true∧allD pw'=true∧1≤wh'.length∧wh'.length+fr'.length≤m∧pw'.length≤m:=by
  intro n wh fr l4 m h1 h2 h3 h4 h5 n' wh' fr' pn' pw' h
  unfold splitT at h
  cases l4 with
  | nil =>
   simp only [Option.some.injEq,Prod.mk.injEq] at h
   obtain ⟨_,rfl,rfl,_,rfl⟩:=h
   exact ⟨h1,h2,rfl,h3,h4,Nat.zero_le _⟩
  | cons c r =>
   simp only at h
   by_cases hc:(c==101 || c==69)=true
   ·by_cases hs:spOk r=true
    ·simp only [hc,hs,if_true,Option.some.injEq,Prod.mk.injEq] at h
     obtain ⟨_,rfl,rfl,_,rfl⟩:=h
     simp only [spOk,Bool.and_eq_true] at hs
     refine ⟨h1,h2,hs.2,h3,h4,?_⟩
     have:(spL r).length≤r.length:=by unfold spL;split <;> exact tlB_length _ _
     simp at h5
     omega
    ·simp only [hc,hs,if_true] at h
     cases h
   ·simp only [hc] at h
    cases h
 unfold splitL at h
 have e0:(tlB 45 l).takeWhile isDig++(tlB 45 l).dropWhile isDig=tlB 45 l:=List.takeWhile_append_dropWhile
 have e1:=congrArg List.length e0
 rw [List.length_append] at e1
 have e2:=tlB_length 45 l
 cases hbw:badW ((tlB 45 l).takeWhile isDig)
 ·rw [hbw] at h
  simp only [Bool.false_eq_true,if_false] at h
  have hne:1≤((tlB 45 l).takeWhile isDig).length:=by
   rcases hh:(tlB 45 l).takeWhile isDig with _|⟨a,l⟩
   ·rw [hh] at hbw;simp [badW] at hbw
   ·simp
  by_cases hpt:hdB 46 ((tlB 45 l).dropWhile isDig)=true
  ·rw [if_pos hpt] at h
   by_cases hfr:((tlB 46 ((tlB 45 l).dropWhile isDig)).takeWhile isDig).isEmpty=true
   ·rw [if_pos hfr] at h;cases h
   ·rw [if_neg hfr] at h
    have f0:(tlB 46 ((tlB 45 l).dropWhile isDig)).takeWhile isDig++(tlB 46 ((tlB 45 l).dropWhile isDig)).dropWhile isDig=tlB 46 ((tlB 45 l).dropWhile isDig):=List.takeWhile_append_dropWhile
    have f1:=congrArg List.length f0
    rw [List.length_append] at f1
    have f2:=tlB_length 46 ((tlB 45 l).dropWhile isDig)
    exact key _ _ _ _ l.length (allD_tw _) (allD_tw _) hne (by omega) (by omega) _ _ _ _ _ h
  ·rw [if_neg hpt] at h
   exact key _ _ _ _ l.length (allD_tw _) rfl hne (by simp;omega) (by omega) _ _ _ _ _ h
 ·rw [hbw] at h
  simp only [if_true] at h
  cases h
def dlu (l:List UInt8):List Nat:=l.map fun c=>c.toNat - 48
theorem dlu_mkB (l:List UInt8):dg (mkB l)=dlu l:=by unfold dg dlu;rw [bl_mkB]
def parseF (l:List UInt8):Bool×ByteArray×Int×Int :=
 match splitL l with
 | none=>(false,⟨#[]⟩,0,10)
 | some (n,wh,fr,pn,pw)=>if 512<l.length then (false,⟨#[]⟩,0,2) else formF n (dlu wh++dlu fr) (powF pn pw - fr.length)
theorem layR_nil (p:List Nat)(o:Nat):layR p o []=p:=by unfold layR;simp
theorem layR_two (a b:List Nat)(m:Nat)(h:a.length+b.length≤m)(i:Nat)(hi:i<(a++b).length)(hi':i<(layR (layR (List.replicate m 0) 0 a) a.length b).length):(layR (layR (List.replicate m 0) 0 a) a.length b)[i]=(a++b)[i]:=by
 have e:layR (layR (List.replicate m 0) 0 a) a.length b=a++b++List.replicate (m - a.length - b.length) 0:=by
  unfold layR
  simp [List.take_append,List.drop_append]
 simp only [e]
 rw [List.getElem_append_left hi]
theorem dlu_dgs (l:List UInt8)(h:allD l=true):Dgs (dlu l):=by
 intro d hd
 simp only [dlu,List.mem_map] at hd
 obtain ⟨c,hc,rfl⟩:=hd
 have:=(isDig_iff c).1 ((List.all_eq_true.1 h) c hc)
 omega
structure PSt (w:World)(b:Nat)(n:Bool)(wh fr:ByteArray)(pn:Bool)(pw:ByteArray)(d:List Nat)(W:World):Prop where
 below:Below w.heap.size w W
 hp:PBox W b n wh fr pn pw
 hb:Box W w.heap.size false ⟨#[]⟩ 0
 hz:b+1<W.heap.size
 hc:∀ i (h:i<d.length),W.cell? ⟨b+1,0+i,none⟩=some (.int .u8 (d[i]:Nat))
theorem PSt.drew {w:World} {b:Nat} {n:Bool} {wh fr:ByteArray} {pn:Bool} {pw:ByteArray} {d:List Nat} {W:World} (h:PSt w b n wh fr pn pw d W):PSt w b n wh fr pn pw d W.drew:=⟨h.below.drew,h.hp,h.hb,h.hz,h.hc⟩
theorem PSt.then {w:World} {b:Nat} {n:Bool} {wh fr:ByteArray} {pn:Bool} {pw:ByteArray} {d:List Nat} {W W1:World} (h:PSt w b n wh fr pn pw d W)(hb:Below W.heap.size W W1):PSt w b n wh fr pn pw d W1 :=
 ⟨below_then h.below hb,h.hp.below hb h.hp.lt,h.hb.below hb h.hb.lt,Nat.lt_of_lt_of_le h.hz hb.size,fun i hi=>(hb.cell (p:=⟨b+1,0+i,none⟩) h.hz).trans (h.hc i hi)⟩
theorem powF_bounds (pn:Bool)(l:List UInt8)(h:allD l=true):-9129≤powF pn l∧powF pn l≤9129:=by
 have:=pwA_le l 0 h (by omega)
 unfold powF
 split <;> omega
theorem parse_none (s:ByteArray)(w:World)(hs:s.size≤100000)(h:splitL (bl s)=none) :
  Calls Tryz.prog 149 #[.string s] w fun e w'=>e=retF (false,⟨#[]⟩,0,10)∧Below w.heap.size w w':=by
 have hB:=hide (box_new w false ⟨#[]⟩ 0)
 have h:=hide h
 go_enter Tryz.func149, Tryz.ntmps149
 go_wp2_with fail
 refine (split_any s _ hs).mono ?_
 rw [h.out]
 rintro e w1 ⟨rfl,hb1⟩
 have hB1:=hide (hB.out.below hb1 (by simp))
 have hl:=hB1.out.lt
 obtain ⟨c0,c1,c2,f0,f1,f2⟩:=hB1.out.cells
 have hb:=hide (below_alloc hb1)
 clear hb1
 simp only [splitE,partsE,if_true,Bool.false_eq_true,if_false]
 go_wp2
 refine bodyPost_ret (v:=.tuple #[.agg #[.bool false,.string ⟨#[]⟩,.int .i64 0],.int .i64 10]) (by simp [results,Tryz.results149,go_sem,c0,c1,c2,hl]) rfl ⟨rfl,?_⟩
 refine below_al ?_
 iterate 3 refine below_set ?_ (by omega)
 exact hb.out
theorem parse_long (s:ByteArray)(w:World)(hs:s.size≤100000)(n:Bool)(wh fr:List UInt8)(pn:Bool)(pw:List UInt8)(h:splitL (bl s)=some (n,wh,fr,pn,pw))(hlong:512<s.size) :
  Calls Tryz.prog 149 #[.string s] w fun e w'=>e=retF (false,⟨#[]⟩,0,2)∧Below w.heap.size w w':=by
 have hB:=hide (box_new w false ⟨#[]⟩ 0)
 have h:=hide h
 go_enter Tryz.func149, Tryz.ntmps149
 go_wp2_with fail
 refine (split_any s _ hs).mono ?_
 rw [h.out]
 rintro e w1 ⟨rfl,hb1⟩
 have hB1:=hide (hB.out.below hb1 (by simp))
 have hl:=hB1.out.lt
 obtain ⟨c0,c1,c2,f0,f1,f2⟩:=hB1.out.cells
 have hb:=hide (below_alloc hb1)
 clear hb1
 simp only [splitE,partsE,if_true,Bool.false_eq_true,if_false]
 go_wp2
 refine bodyPost_ret (v:=.tuple #[.agg #[.bool false,.string ⟨#[]⟩,.int .i64 0],.int .i64 2]) (by simp [results,Tryz.results149,go_sem,c0,c1,c2,hl]) rfl ⟨rfl,?_⟩
 refine below_al ?_
 iterate 3 refine below_set ?_ (by omega)
 exact hb.out
def fhv (c:UInt8):Option Nat:=if 48≤c.toNat∧c.toNat≤57 then some (c.toNat - 48) else if 97≤c.toNat∧c.toNat≤102 then some (c.toNat - 87) else none
theorem fhv_lt {c:UInt8} {d:Nat} (h:fhv c=some d):d<16:=by
 unfold fhv at h
 split at h
 ·have:=Option.some.inj h;omega
 ·split at h
  ·have:=Option.some.inj h;omega
  ·cases h
theorem fhexDigit_some (c:UInt8)(d:Nat)(w:World)(h:fhv c=some d) :
  Calls Tryz.prog 179 #[.int .u8 c.toNat] w fun e w'=>e=.returned (.tuple #[.int .u64 d,.bool true])∧w'=w:=by
 unfold fhv at h
 by_cases c1:48≤c.toNat∧c.toNat≤57
 ·rw [if_pos c1] at h
  have hd:=hide (Option.some.inj h)
  obtain ⟨c1,c2⟩:=c1
  have c1':(48:Int)≤c.toNat:=by omega
  have c2':(c.toNat:Int)≤57:=by omega
  clear h
  go_enter Tryz.func179, Tryz.ntmps179
  go_wp2
  exact bodyPost_ret (v:=.tuple #[.int .u64 ((c.toNat:Int) - 48),.bool true]) (by simp [results,Tryz.results179,go_sem]) rfl ⟨by rw [←hd.out,show (c.toNat:Int) - 48=((c.toNat - 48:Nat):Int) by omega],rfl⟩
 ·rw [if_neg c1] at h
  by_cases c3:97≤c.toNat∧c.toNat≤102
  ·rw [if_pos c3] at h
   have hd:=hide (Option.some.inj h)
   obtain ⟨c3,c4⟩:=c3
   have c3':(97:Int)≤c.toNat:=by omega
   have c4':(c.toNat:Int)≤102:=by omega
   clear h
   go_enter Tryz.func179, Tryz.ntmps179
   go_wp2
   exact bodyPost_ret (v:=.tuple #[.int .u64 ((c.toNat:Int) - 97+10),.bool true]) (by simp [results,Tryz.results179,go_sem]) rfl ⟨by rw [←hd.out,show (c.toNat:Int) - 97+10=((c.toNat - 87:Nat):Int) by omega],rfl⟩
  ·rw [if_neg c3] at h;cases h
theorem fhexDigit_none (c:UInt8)(w:World)(h:fhv c=none) :
  Calls Tryz.prog 179 #[.int .u8 c.toNat] w fun e w'=>e=.returned (.tuple #[.int .u64 0,.bool false])∧w'=w:=by
 unfold fhv at h
 have c1:¬ (48≤c.toNat∧c.toNat≤57):=by intro q;rw [if_pos q] at h;cases h
 rw [if_neg c1] at h
 have c3:¬ (97≤c.toNat∧c.toNat≤102):=by intro q;rw [if_pos q] at h;cases h
 clear h
 by_cases a1:c.toNat<48
 ·go_enter Tryz.func179, Tryz.ntmps179
  go_wp2
  exact bodyPost_ret (v:=.tuple #[.int .u64 0,.bool false]) (by simp [results,Tryz.results179,go_sem]) rfl ⟨rfl,rfl⟩
 ·by_cases a2:c.toNat<97
  ·have a1':(48:Int)≤c.toNat:=by omega
   have a3:¬ ((c.toNat:Int)≤57):=by omega
   have a2':¬ (97:Int)≤c.toNat:=by omega
   go_enter Tryz.func179, Tryz.ntmps179
   go_wp2
   exact bodyPost_ret (v:=.tuple #[.int .u64 0,.bool false]) (by simp [results,Tryz.results179,go_sem]) rfl ⟨rfl,rfl⟩
  ·have a3:¬ ((c.toNat:Int)≤57):=by omega
   have a2':(97:Int)≤c.toNat:=by omega
   have a4:¬ ((c.toNat:Int)≤102):=by omega
   go_enter Tryz.func179, Tryz.ntmps179
   go_wp2
   exact bodyPost_ret (v:=.tuple #[.int .u64 0,.bool false]) (by simp [results,Tryz.results179,go_sem]) rfl ⟨rfl,rfl⟩
def fuhS (o:Option Nat)(c:UInt8):Option Nat:=match o,fhv c with
 | some a,some d=>some (a * 16+d)
 | _,_=>none
def fuh (l:List UInt8):Option Nat:=l.foldl fuhS (some 0)
theorem fuh_snoc (l:List UInt8)(c:UInt8):fuh (l++[c])=fuhS (fuh l) c:=by simp [fuh]
theorem fuh_none (l m:List UInt8)(h:fuh l=none):fuh (l++m)=none:=by
 unfold fuh at h ⊢
 rw [List.foldl_append,h]
 induction m with
 | nil=>rfl
 | cons a m ih=>exact ih
theorem fuh_take (s:ByteArray)(k:Nat)(h:k<s.size):fuh ((bl s).take (k+1))=fuhS (fuh ((bl s).take k)) s[k]:=by
 rw [List.take_succ_eq_append_getElem (by rw [bl_length];exact h),fuh_snoc,bl_get s k h]
def funh (s:ByteArray):Nat×Nat:=if s.size=16 then (match fuh (bl s) with|some b=>(b,0)|none=>(0,20)) else (0,20)
theorem funh_len (s:ByteArray)(h:s.size≠16):funh s=(0,20):=by unfold funh;rw [if_neg h]
theorem funh_some (s:ByteArray)(h:s.size=16)(b:Nat)(hb:fuh (bl s)=some b):funh s=(b,0):=by unfold funh;rw [if_pos h,hb]
theorem funh_none (s:ByteArray)(h:s.size=16)(hb:fuh (bl s)=none):funh s=(0,20):=by unfold funh;rw [if_pos h,hb]
theorem funhex_any (s:ByteArray)(w:World)(hs:s.size≤maxLen) :
  Calls Tryz.prog 150 #[.string s] w fun e w'=>e=.returned (.tuple #[.int .u64 (funh s).1,.int .i64 (funh s).2])∧w'=w:=by
 unfold maxLen at hs
 by_cases h16:s.size=16
 ·have H16:=hide h16
  go_enter Tryz.func150, Tryz.ntmps150
  go_wp2
  go_loop [4,13] (fun b i=>∃ k a:Nat,k≤16∧a<16 ^ k∧i=.int .i64 k∧b=.int .u64 a∧Hid (fuh ((bl s).take k)=some a)) (fun b i=>16 - (intOf i).toNat)
  case atStart=>exact ⟨0,0,by omega,by omega,rfl,rfl,rfl⟩
  case round =>
   obtain ⟨k,a,hk,ha,rfl,rfl,hu⟩:=hrel
   by_cases hlt:k<16
   ·have hks:k<s.size:=by omega
    have hks':(k:Int)<s.size:=by omega
    have ht:=hide (fuh_take s k hks)
    rw [hu.out] at ht
    cases hc:fhv s[k] with
    | none =>
     have hr:=hide (show funh s=(0,20) by
      refine funh_none s h16 ?_
      have:=fuh_none ((bl s).take (k+1)) ((bl s).drop (k+1)) (by rw [ht.out];unfold fuhS;rw [hc])
      rw [List.take_append_drop] at this
      exact this)
     go_wp2_with (go_at_call 179;refine (fhexDigit_none s[k] _ hc).mono ?_;rintro e w' ⟨rfl,rfl⟩)
     exact bodyPost_ret (v:=.tuple #[.int .u64 0,.int .i64 20]) (by simp [results,Tryz.results150,go_sem]) rfl ⟨by rw [hr.out];rfl,rfl⟩
    | some d =>
     have hd:=fhv_lt hc
     have hp:16 ^ k≤16 ^ 15:=Nat.pow_le_pow_right (by decide) (by omega)
     have hp2:=hide (show 16 ^ (k+1)=16 ^ k * 16 from Nat.pow_succ ..)
     have hv16:(16:Nat) ^ 15=1152921504606846976:=rfl
     rw [hv16] at hp
     have ha':a<1152921504606846976:=by omega
     have hor:bits .or .u64 ((a:Int) * 16) (d:Int)=((a * 16+d:Nat):Int):=by
      have:=u64_or_nat (a * 16) d (by omega) (by omega)
      rw [nat_join 4 (a * 16) d (by show _ % 16=0;omega) (by show _<16;omega)] at this
      rw [←this];rfl
     have hn:=hide (show fuh ((bl s).take (k+1))=some (a * 16+d) by rw [ht.out];unfold fuhS;rw [hc])
     have hA:=hide ha
     clear hp hv16 ha
     go_wp2_with (go_at_call 179;refine (fhexDigit_some s[k] d _ hc).mono ?_;rintro e w' ⟨rfl,rfl⟩)
     refine ⟨⟨k+1,a * 16+d,by omega,?_,by go_num,rfl,hn.out⟩,by simp [intOf];omega⟩
     rw [hp2.out]
     have:=hA.out
     omega
   ·have hke:k=16:=by omega
    subst hke
    have hr:=hide (show funh s=(a,0) by
     refine funh_some s h16 a ?_
     have:=hu.out
     rw [List.take_of_length_le (by rw [bl_length,h16];exact Nat.le_refl _)] at this
     exact this)
    go_wp2
    exact bodyPost_ret (v:=.tuple #[.int .u64 a,.int .i64 0]) (by simp [results,Tryz.results150,go_sem]) rfl ⟨by rw [hr.out];rfl,rfl⟩
 ·have hr:=hide (funh_len s h16)
  have h16':¬ ((s.size:Int)=16):=by omega
  go_enter Tryz.func150, Tryz.ntmps150
  go_wp2
  exact bodyPost_ret (v:=.tuple #[.int .u64 0,.int .i64 20]) (by simp [results,Tryz.results150,go_sem]) rfl ⟨by rw [hr.out];rfl,rfl⟩
set_option maxRecDepth 1000000 in
theorem parse_some_a (s:ByteArray)(w:World)(hs:s.size≤512)(n:Bool)(wh fr:List UInt8)(pn:Bool)(pw:List UInt8)(h:splitL (bl s)=some (n,wh,fr,pn,pw))(hfr:fr.length=0)(hw5:wh.length<512) :
  Calls Tryz.prog 149 #[.string s] w fun e w'=>e=retF (formF n (dlu wh++dlu fr) (powF pn pw - fr.length))∧Below w.heap.size w w':=by
 obtain ⟨a1,a2,a3,a4,a5,a6⟩:=splitL_facts h
 rw [bl_length] at a5 a6
 have hB:=hide (box_new w false ⟨#[]⟩ 0)
 have h:=hide h
 have a1:=hide a1
 have a2:=hide a2
 have a3:=hide a3
 go_enter Tryz.func149, Tryz.ntmps149
 go_wp2_with fail
 refine (split_any s _ (by omega)).mono ?_
 rw [h.out]
 rintro e w1 ⟨rfl,hb1⟩
 have hB1:=hide (hB.out.below hb1 (by simp))
 have hl:=hB1.out.lt
 have hb:=hide (below_alloc hb1)
 clear hb1
 simp only [splitE,partsE,if_true,Bool.false_eq_true,if_false]
 go_wp2_with fail
 obtain ⟨W2,hW2⟩:∃ W2,(w1.alloc (.cells #[.bool n,.string (mkB wh),.string (mkB fr),.bool pn,.string (mkB pw)] 194)).alloc (.cells Tryz.zeroCells197 197)=W2:=⟨_,rfl⟩
 rw [hW2]
 have hA2:Hid (Arr W2 (w1.heap.size+1) 197 (List.replicate 512 0)):=by
  show Arr _ _ _ _
  rw [←hW2,show w1.heap.size+1=(w1.alloc (.cells #[.bool n,.string (mkB wh),.string (mkB fr),.bool pn,.string (mkB pw)] 194)).heap.size from by simp]
  exact arr_new _ _ 512 _ (by kernel_rfl)
 have hP2:Hid (PBox W2 w1.heap.size n (mkB wh) (mkB fr) pn (mkB pw)):=by
  show PBox _ _ _ _ _ _ _
  rw [←hW2];exact (pbox_new w1 n (mkB wh) (mkB fr) pn (mkB pw)).alloc _
 have hB2:Hid (Box W2 w.heap.size false ⟨#[]⟩ 0):=by
  show Box _ _ _ _ _
  rw [←hW2];exact (hB1.out.alloc _).alloc _
 have hb2:Hid (Below w.heap.size w W2):=by
  show Below _ _ _
  rw [←hW2];exact below_al (below_al hb.out)
 clear hW2 hb hB1 hB
 obtain ⟨p0,p1,p2,p3,p4,r0,r1,r2,r3,r4⟩:=hP2.out.cells
 have hdlw:=hide (dlu_mkB wh)
 have hdlf:=hide (dlu_mkB fr)
 have hlw:(dlu wh).length=wh.length:=by simp [dlu]
 have hlf:(dlu fr).length=fr.length:=by simp [dlu]
 have hsw:=mkB_size wh
 have hsf:=mkB_size fr
 go_region_with (go_at_call 176;refine (lay_any (w1.heap.size+1) 0 512 512 197 (List.replicate 512 0) (mkB wh) W2.drew hA2.out.drew (by omega) (by simp) (by rw [bl_mkB];exact a1.out) (by simp)).mono ?_;rw [hsw,hdlw.out];rintro e W3 ⟨rfl,hA3,hO3⟩;have hA3:=hide hA3;have hO3:=hide hO3)
 have hP3:=hide (hP2.out.drew.only hO3.out (by omega))
 have hB3:Hid (Box W3 w.heap.size false ⟨#[]⟩ 0):=Box.only (W:=W2.drew) hB2.out hO3.out (by omega)
 have hb3:Hid (Below w.heap.size w W3):=hb2.out.drew.trans (hO3.out.below (by omega))
 have hz3:w1.heap.size+1<W3.heap.size:=hA3.out.lt
 clear p0 p1 p2 p3 p4 r0 r1 r2 r3 r4 hA2 hP2 hB2 hb2 hO3
 obtain ⟨p0,p1,p2,p3,p4,r0,r1,r2,r3,r4⟩:=hP3.out.cells
 have hdgs:Hid (Dgs (dlu wh++dlu fr)):=by
  intro d hd
  rcases List.mem_append.1 hd with h|h
  ·exact dlu_dgs wh a1.out d h
  ·exact dlu_dgs fr a2.out d h
 have hwi:(wh.length:Int)≤512:=by omega
 have hwi0:(0:Int)≤(wh.length:Int):=by omega
 have hwr0:IntKind.i64.wrap (wh.length:Int)=wh.length:=by rw [IntKind.wrap_i64];omega
 have hwr1:IntKind.i64.wrap ((wh.length:Int)+(fr.length:Int))=(wh.length:Int)+(fr.length:Int):=by rw [IntKind.wrap_i64];omega
 have hwr2:IntKind.i64.wrap (powF pn pw - (fr.length:Int))=powF pn pw - (fr.length:Int):=by
  have:=powF_bounds pn pw a3.out
  rw [IntKind.wrap_i64];omega
 obtain ⟨q3,hq3⟩:∃ q3,layR (List.replicate 512 0) 0 (dlu wh)=q3:=⟨_,rfl⟩
 rw [hq3] at hA3
 have hq3l:q3.length=512:=by rw [←hq3,layR_len _ _ _ (by rw [List.length_replicate];omega),List.length_replicate]
 have hq3:=hide hq3
 have hq3l:=hide hq3l
 have hfr0:=hide hfr
 clear hfr
 have hwl:(wh.length:Int)<512:=by omega
 have hwl':¬ 512 - wh.length=0:=by omega
 go_wp2_with fail
 go_region_with (go_at_call 176;go_fit (lay_none _ (mkB fr) W3.drew (by rw [hsf];exact hfr0.out));rintro e W4 ⟨rfl,rfl⟩)
 have hA4:Hid (Arr W3.drew (w1.heap.size+1) 197 (layR q3 wh.length (dlu fr))):=by
  show Arr _ _ _ _
  rw [List.eq_nil_of_length_eq_zero (hlf.trans hfr0.out),layR_nil];exact hA3.out.drew
 have hP4:=hide hP3.out.drew
 have hB4:Hid (Box W3.drew w.heap.size false ⟨#[]⟩ 0):=hB3.out
 have hb4:=hide hb3.out.drew
 have hz4:w1.heap.size+1<W3.drew.heap.size:=hA4.out.lt
 clear p0 p1 p2 p3 p4 r0 r1 r2 r3 r4 hA3 hP3 hB3 hb3
 obtain ⟨p0,p1,p2,p3,p4,r0,r1,r2,r3,r4⟩:=hP4.out.cells
 obtain ⟨hpw1,hpw2⟩:=powF_bounds pn pw a3.out
 have hcells:Hid (∀ i (h:i<(dlu wh++dlu fr).length),W3.drew.cell? ⟨w1.heap.size+1,0+i,none⟩=some (.int .u8 ((dlu wh++dlu fr)[i]:Nat))):=by
  show ∀ i (h:i<(dlu wh++dlu fr).length),_
  intro i hi
  have hi2:i<wh.length+fr.length:=by rw [List.length_append,hlw,hlf] at hi;exact hi
  have hlen:(layR q3 wh.length (dlu fr)).length=512:=by rw [layR_len _ _ _ (by have:=hq3l.out;omega)];exact hq3l.out
  rw [Nat.zero_add,hA4.out.cell i (by omega)]
  have e:=layR_two (dlu wh) (dlu fr) 512 (by omega) i hi (by rw [hlw,hq3.out];omega)
  simp only [hlw,hq3.out] at e
  rw [e]
 go_wp2_with fail
 have S4:Hid (PSt w w1.heap.size n (mkB wh) (mkB fr) pn (mkB pw) (dlu wh++dlu fr) W3.drew):=⟨hb4.out,hP4.out,hB4.out,hz4,hcells.out⟩
 have hpl:(mkB pw).size≤100000:=by rw [mkB_size];omega
 have hpb:=hide (bl_mkB pw)
 have hpa:=hide (show allD (bl (mkB pw))=true by rw [bl_mkB];exact a3.out)
 have hdl:=hide (show (dlu wh++dlu fr).length=wh.length by rw [List.length_append,hlw,hlf];have:=hfr0.out;omega)
 go_region_with (first|(go_at_call 178;go_fit (powerOf_any n (mkB wh) (mkB fr) pn (mkB pw) W3.drew.drew hpl hpa.out);rw [hpb.out];rintro e W5 ⟨rfl,hb5⟩;have S5:=hide (S4.out.drew.then hb5);clear hb5;obtain ⟨u0,u1,u2,u3,u4,s0,s1,s2,s3,s4⟩:=S5.out.hp.cells)|(go_at_call 177;go_fit (form_any n (w1.heap.size+1) 0 wh.length 512 (dlu wh++dlu fr) (powF pn pw - fr.length) W5 hdl.out (by omega) (by omega) (by omega) (by omega) S5.out.hz S5.out.hc (by omega) (by omega) hdgs.out);rintro e W6 ⟨rfl,hb6⟩;obtain ⟨fb,fs,fx,fe,hfe⟩:∃ fb fs fx fe,formF n (dlu wh++dlu fr) (powF pn pw - fr.length)=(fb,fs,fx,fe):=⟨_,_,_,_,rfl⟩;rw [hfe];have hfe:=hide hfe;have S6:=hide (S5.out.then hb6);clear hb6;obtain ⟨d20,d21,d22,g20,g21,g22⟩:=S6.out.hb.cells;simp only [retF]))
 all_goals
  go_wp2
  refine bodyPost_ret (v:=.tuple #[.agg #[.bool fb,.string fs,.int .i64 fx],.int .i64 fe]) (by simp [results,Tryz.results149,go_sem,d20,d21,d22]) rfl ⟨by rw [hfe.out];rfl,?_⟩
  exact ((S6.out.below.setCell (Nat.le_refl _) _).setCell (Nat.le_refl _) _).setCell (Nat.le_refl _) _
set_option maxRecDepth 1000000 in
theorem parse_some_b (s:ByteArray)(w:World)(hs:s.size≤512)(n:Bool)(wh fr:List UInt8)(pn:Bool)(pw:List UInt8)(h:splitL (bl s)=some (n,wh,fr,pn,pw))(hfr:fr.length=0)(hw5:¬ wh.length<512) :
  Calls Tryz.prog 149 #[.string s] w fun e w'=>e=retF (formF n (dlu wh++dlu fr) (powF pn pw - fr.length))∧Below w.heap.size w w':=by
 obtain ⟨a1,a2,a3,a4,a5,a6⟩:=splitL_facts h
 rw [bl_length] at a5 a6
 have hB:=hide (box_new w false ⟨#[]⟩ 0)
 have h:=hide h
 have a1:=hide a1
 have a2:=hide a2
 have a3:=hide a3
 go_enter Tryz.func149, Tryz.ntmps149
 go_wp2_with fail
 refine (split_any s _ (by omega)).mono ?_
 rw [h.out]
 rintro e w1 ⟨rfl,hb1⟩
 have hB1:=hide (hB.out.below hb1 (by simp))
 have hl:=hB1.out.lt
 have hb:=hide (below_alloc hb1)
 clear hb1
 simp only [splitE,partsE,if_true,Bool.false_eq_true,if_false]
 go_wp2_with fail
 obtain ⟨W2,hW2⟩:∃ W2,(w1.alloc (.cells #[.bool n,.string (mkB wh),.string (mkB fr),.bool pn,.string (mkB pw)] 194)).alloc (.cells Tryz.zeroCells197 197)=W2:=⟨_,rfl⟩
 rw [hW2]
 have hA2:Hid (Arr W2 (w1.heap.size+1) 197 (List.replicate 512 0)):=by
  show Arr _ _ _ _
  rw [←hW2,show w1.heap.size+1=(w1.alloc (.cells #[.bool n,.string (mkB wh),.string (mkB fr),.bool pn,.string (mkB pw)] 194)).heap.size from by simp]
  exact arr_new _ _ 512 _ (by kernel_rfl)
 have hP2:Hid (PBox W2 w1.heap.size n (mkB wh) (mkB fr) pn (mkB pw)):=by
  show PBox _ _ _ _ _ _ _
  rw [←hW2];exact (pbox_new w1 n (mkB wh) (mkB fr) pn (mkB pw)).alloc _
 have hB2:Hid (Box W2 w.heap.size false ⟨#[]⟩ 0):=by
  show Box _ _ _ _ _
  rw [←hW2];exact (hB1.out.alloc _).alloc _
 have hb2:Hid (Below w.heap.size w W2):=by
  show Below _ _ _
  rw [←hW2];exact below_al (below_al hb.out)
 clear hW2 hb hB1 hB
 obtain ⟨p0,p1,p2,p3,p4,r0,r1,r2,r3,r4⟩:=hP2.out.cells
 have hdlw:=hide (dlu_mkB wh)
 have hdlf:=hide (dlu_mkB fr)
 have hlw:(dlu wh).length=wh.length:=by simp [dlu]
 have hlf:(dlu fr).length=fr.length:=by simp [dlu]
 have hsw:=mkB_size wh
 have hsf:=mkB_size fr
 go_region_with (go_at_call 176;refine (lay_any (w1.heap.size+1) 0 512 512 197 (List.replicate 512 0) (mkB wh) W2.drew hA2.out.drew (by omega) (by simp) (by rw [bl_mkB];exact a1.out) (by simp)).mono ?_;rw [hsw,hdlw.out];rintro e W3 ⟨rfl,hA3,hO3⟩;have hA3:=hide hA3;have hO3:=hide hO3)
 have hP3:=hide (hP2.out.drew.only hO3.out (by omega))
 have hB3:Hid (Box W3 w.heap.size false ⟨#[]⟩ 0):=Box.only (W:=W2.drew) hB2.out hO3.out (by omega)
 have hb3:Hid (Below w.heap.size w W3):=hb2.out.drew.trans (hO3.out.below (by omega))
 have hz3:w1.heap.size+1<W3.heap.size:=hA3.out.lt
 clear p0 p1 p2 p3 p4 r0 r1 r2 r3 r4 hA2 hP2 hB2 hb2 hO3
 obtain ⟨p0,p1,p2,p3,p4,r0,r1,r2,r3,r4⟩:=hP3.out.cells
 have hdgs:Hid (Dgs (dlu wh++dlu fr)):=by
  intro d hd
  rcases List.mem_append.1 hd with h|h
  ·exact dlu_dgs wh a1.out d h
  ·exact dlu_dgs fr a2.out d h
 have hwi:(wh.length:Int)≤512:=by omega
 have hwi0:(0:Int)≤(wh.length:Int):=by omega
 have hwr0:IntKind.i64.wrap (wh.length:Int)=wh.length:=by rw [IntKind.wrap_i64];omega
 have hwr1:IntKind.i64.wrap ((wh.length:Int)+(fr.length:Int))=(wh.length:Int)+(fr.length:Int):=by rw [IntKind.wrap_i64];omega
 have hwr2:IntKind.i64.wrap (powF pn pw - (fr.length:Int))=powF pn pw - (fr.length:Int):=by
  have:=powF_bounds pn pw a3.out
  rw [IntKind.wrap_i64];omega
 obtain ⟨q3,hq3⟩:∃ q3,layR (List.replicate 512 0) 0 (dlu wh)=q3:=⟨_,rfl⟩
 rw [hq3] at hA3
 have hq3l:q3.length=512:=by rw [←hq3,layR_len _ _ _ (by rw [List.length_replicate];omega),List.length_replicate]
 have hq3:=hide hq3
 have hq3l:=hide hq3l
 have hfr0:=hide hfr
 clear hfr
 have hwl':512 - wh.length=0:=by omega
 clear hw5
 go_wp2_with fail
 go_region_with (go_at_call 176;go_fit (lay_none _ (mkB fr) W3.drew (by rw [hsf];exact hfr0.out));rintro e W4 ⟨rfl,rfl⟩)
 have hA4:Hid (Arr W3.drew (w1.heap.size+1) 197 (layR q3 wh.length (dlu fr))):=by
  show Arr _ _ _ _
  rw [List.eq_nil_of_length_eq_zero (hlf.trans hfr0.out),layR_nil];exact hA3.out.drew
 have hP4:=hide hP3.out.drew
 have hB4:Hid (Box W3.drew w.heap.size false ⟨#[]⟩ 0):=hB3.out
 have hb4:=hide hb3.out.drew
 have hz4:w1.heap.size+1<W3.drew.heap.size:=hA4.out.lt
 clear p0 p1 p2 p3 p4 r0 r1 r2 r3 r4 hA3 hP3 hB3 hb3
 obtain ⟨p0,p1,p2,p3,p4,r0,r1,r2,r3,r4⟩:=hP4.out.cells
 obtain ⟨hpw1,hpw2⟩:=powF_bounds pn pw a3.out
 have hcells:Hid (∀ i (h:i<(dlu wh++dlu fr).length),W3.drew.cell? ⟨w1.heap.size+1,0+i,none⟩=some (.int .u8 ((dlu wh++dlu fr)[i]:Nat))):=by
  show ∀ i (h:i<(dlu wh++dlu fr).length),_
  intro i hi
  have hi2:i<wh.length+fr.length:=by rw [List.length_append,hlw,hlf] at hi;exact hi
  have hlen:(layR q3 wh.length (dlu fr)).length=512:=by rw [layR_len _ _ _ (by have:=hq3l.out;omega)];exact hq3l.out
  rw [Nat.zero_add,hA4.out.cell i (by omega)]
  have e:=layR_two (dlu wh) (dlu fr) 512 (by omega) i hi (by rw [hlw,hq3.out];omega)
  simp only [hlw,hq3.out] at e
  rw [e]
 go_wp2_with fail
 have S4:Hid (PSt w w1.heap.size n (mkB wh) (mkB fr) pn (mkB pw) (dlu wh++dlu fr) W3.drew):=⟨hb4.out,hP4.out,hB4.out,hz4,hcells.out⟩
 have hpl:(mkB pw).size≤100000:=by rw [mkB_size];omega
 have hpb:=hide (bl_mkB pw)
 have hpa:=hide (show allD (bl (mkB pw))=true by rw [bl_mkB];exact a3.out)
 have hdl:=hide (show (dlu wh++dlu fr).length=wh.length by rw [List.length_append,hlw,hlf];have:=hfr0.out;omega)
 go_region_with (first|(go_at_call 178;go_fit (powerOf_any n (mkB wh) (mkB fr) pn (mkB pw) W3.drew.drew hpl hpa.out);rw [hpb.out];rintro e W5 ⟨rfl,hb5⟩;have S5:=hide (S4.out.drew.then hb5);clear hb5;obtain ⟨u0,u1,u2,u3,u4,s0,s1,s2,s3,s4⟩:=S5.out.hp.cells)|(go_at_call 177;go_fit (form_any n (w1.heap.size+1) 0 wh.length wh.length (dlu wh++dlu fr) (powF pn pw - fr.length) W5 hdl.out (by omega) (by omega) (by omega) (by omega) S5.out.hz S5.out.hc (by omega) (by omega) hdgs.out);rintro e W6 ⟨rfl,hb6⟩;obtain ⟨fb,fs,fx,fe,hfe⟩:∃ fb fs fx fe,formF n (dlu wh++dlu fr) (powF pn pw - fr.length)=(fb,fs,fx,fe):=⟨_,_,_,_,rfl⟩;rw [hfe];have hfe:=hide hfe;have S6:=hide (S5.out.then hb6);clear hb6;obtain ⟨d20,d21,d22,g20,g21,g22⟩:=S6.out.hb.cells;simp only [retF]))
 all_goals
  go_wp2
  refine bodyPost_ret (v:=.tuple #[.agg #[.bool fb,.string fs,.int .i64 fx],.int .i64 fe]) (by simp [results,Tryz.results149,go_sem,d20,d21,d22]) rfl ⟨by rw [hfe.out];rfl,?_⟩
  exact ((S6.out.below.setCell (Nat.le_refl _) _).setCell (Nat.le_refl _) _).setCell (Nat.le_refl _) _
set_option maxRecDepth 1000000 in
theorem parse_some_c (s:ByteArray)(w:World)(hs:s.size≤512)(n:Bool)(wh fr:List UInt8)(pn:Bool)(pw:List UInt8)(h:splitL (bl s)=some (n,wh,fr,pn,pw))(hfr:¬ fr.length=0) :
  Calls Tryz.prog 149 #[.string s] w fun e w'=>e=retF (formF n (dlu wh++dlu fr) (powF pn pw - fr.length))∧Below w.heap.size w w':=by
 obtain ⟨a1,a2,a3,a4,a5,a6⟩:=splitL_facts h
 rw [bl_length] at a5 a6
 have hB:=hide (box_new w false ⟨#[]⟩ 0)
 have h:=hide h
 have a1:=hide a1
 have a2:=hide a2
 have a3:=hide a3
 go_enter Tryz.func149, Tryz.ntmps149
 go_wp2_with fail
 refine (split_any s _ (by omega)).mono ?_
 rw [h.out]
 rintro e w1 ⟨rfl,hb1⟩
 have hB1:=hide (hB.out.below hb1 (by simp))
 have hl:=hB1.out.lt
 have hb:=hide (below_alloc hb1)
 clear hb1
 simp only [splitE,partsE,if_true,Bool.false_eq_true,if_false]
 go_wp2_with fail
 obtain ⟨W2,hW2⟩:∃ W2,(w1.alloc (.cells #[.bool n,.string (mkB wh),.string (mkB fr),.bool pn,.string (mkB pw)] 194)).alloc (.cells Tryz.zeroCells197 197)=W2:=⟨_,rfl⟩
 rw [hW2]
 have hA2:Hid (Arr W2 (w1.heap.size+1) 197 (List.replicate 512 0)):=by
  show Arr _ _ _ _
  rw [←hW2,show w1.heap.size+1=(w1.alloc (.cells #[.bool n,.string (mkB wh),.string (mkB fr),.bool pn,.string (mkB pw)] 194)).heap.size from by simp]
  exact arr_new _ _ 512 _ (by kernel_rfl)
 have hP2:Hid (PBox W2 w1.heap.size n (mkB wh) (mkB fr) pn (mkB pw)):=by
  show PBox _ _ _ _ _ _ _
  rw [←hW2];exact (pbox_new w1 n (mkB wh) (mkB fr) pn (mkB pw)).alloc _
 have hB2:Hid (Box W2 w.heap.size false ⟨#[]⟩ 0):=by
  show Box _ _ _ _ _
  rw [←hW2];exact (hB1.out.alloc _).alloc _
 have hb2:Hid (Below w.heap.size w W2):=by
  show Below _ _ _
  rw [←hW2];exact below_al (below_al hb.out)
 clear hW2 hb hB1 hB
 obtain ⟨p0,p1,p2,p3,p4,r0,r1,r2,r3,r4⟩:=hP2.out.cells
 have hdlw:=hide (dlu_mkB wh)
 have hdlf:=hide (dlu_mkB fr)
 have hlw:(dlu wh).length=wh.length:=by simp [dlu]
 have hlf:(dlu fr).length=fr.length:=by simp [dlu]
 have hsw:=mkB_size wh
 have hsf:=mkB_size fr
 go_region_with (go_at_call 176;refine (lay_any (w1.heap.size+1) 0 512 512 197 (List.replicate 512 0) (mkB wh) W2.drew hA2.out.drew (by omega) (by simp) (by rw [bl_mkB];exact a1.out) (by simp)).mono ?_;rw [hsw,hdlw.out];rintro e W3 ⟨rfl,hA3,hO3⟩;have hA3:=hide hA3;have hO3:=hide hO3)
 have hP3:=hide (hP2.out.drew.only hO3.out (by omega))
 have hB3:Hid (Box W3 w.heap.size false ⟨#[]⟩ 0):=Box.only (W:=W2.drew) hB2.out hO3.out (by omega)
 have hb3:Hid (Below w.heap.size w W3):=hb2.out.drew.trans (hO3.out.below (by omega))
 have hz3:w1.heap.size+1<W3.heap.size:=hA3.out.lt
 clear p0 p1 p2 p3 p4 r0 r1 r2 r3 r4 hA2 hP2 hB2 hb2 hO3
 obtain ⟨p0,p1,p2,p3,p4,r0,r1,r2,r3,r4⟩:=hP3.out.cells
 have hdgs:Hid (Dgs (dlu wh++dlu fr)):=by
  intro d hd
  rcases List.mem_append.1 hd with h|h
  ·exact dlu_dgs wh a1.out d h
  ·exact dlu_dgs fr a2.out d h
 have hwi:(wh.length:Int)≤512:=by omega
 have hwi0:(0:Int)≤(wh.length:Int):=by omega
 have hwr0:IntKind.i64.wrap (wh.length:Int)=wh.length:=by rw [IntKind.wrap_i64];omega
 have hwr1:IntKind.i64.wrap ((wh.length:Int)+(fr.length:Int))=(wh.length:Int)+(fr.length:Int):=by rw [IntKind.wrap_i64];omega
 have hwr2:IntKind.i64.wrap (powF pn pw - (fr.length:Int))=powF pn pw - (fr.length:Int):=by
  have:=powF_bounds pn pw a3.out
  rw [IntKind.wrap_i64];omega
 obtain ⟨q3,hq3⟩:∃ q3,layR (List.replicate 512 0) 0 (dlu wh)=q3:=⟨_,rfl⟩
 rw [hq3] at hA3
 have hq3l:q3.length=512:=by rw [←hq3,layR_len _ _ _ (by rw [List.length_replicate];omega),List.length_replicate]
 have hq3:=hide hq3
 have hq3l:=hide hq3l
 have hwl:(wh.length:Int)<512:=by omega
 have hwl':¬ 512 - wh.length=0:=by omega
 have f1:(mkB fr).size≤512 - wh.length:=by omega
 have f2:wh.length+(512 - wh.length)≤q3.length:=by have:=hq3l.out;omega
 have f3:q3.length≤100000:=by have:=hq3l.out;omega
 have HC:=hide (lay_any (w1.heap.size+1) wh.length (512 - wh.length) (512 - wh.length) 197 q3 (mkB fr) W3.drew hA3.out.drew f1 f2 (by rw [bl_mkB];exact a2.out) f3)
 clear f1 f2 f3
 go_wp2_with fail
 go_region_with (go_at_call 176;go_fit HC.out;rw [hsf,hdlf.out];rintro e W4 ⟨rfl,hA4,hO4⟩;have hA4:=hide hA4;have hO4:=hide hO4)
 clear HC
 have hkk:(wh.length:Int)+(fr.length:Int)≤512:=by omega
 have hkk0:(0:Int)≤(wh.length:Int)+(fr.length:Int):=by omega
 have hkt:((wh.length:Int)+(fr.length:Int)).toNat=wh.length+fr.length:=by omega
 have hP4:=hide (hP3.out.drew.only hO4.out (by omega))
 have hB4:Hid (Box W4 w.heap.size false ⟨#[]⟩ 0):=Box.only (W:=W3.drew) hB3.out hO4.out (by omega)
 have hb4:Hid (Below w.heap.size w W4):=hb3.out.drew.trans (hO4.out.below (by omega))
 clear hO4
 have hz4:w1.heap.size+1<W4.heap.size:=hA4.out.lt
 clear p0 p1 p2 p3 p4 r0 r1 r2 r3 r4 hA3 hP3 hB3 hb3
 obtain ⟨p0,p1,p2,p3,p4,r0,r1,r2,r3,r4⟩:=hP4.out.cells
 obtain ⟨hpw1,hpw2⟩:=powF_bounds pn pw a3.out
 have hcells:Hid (∀ i (h:i<(dlu wh++dlu fr).length),W4.cell? ⟨w1.heap.size+1,0+i,none⟩=some (.int .u8 ((dlu wh++dlu fr)[i]:Nat))):=by
  show ∀ i (h:i<(dlu wh++dlu fr).length),_
  intro i hi
  have hi2:i<wh.length+fr.length:=by rw [List.length_append,hlw,hlf] at hi;exact hi
  have hlen:(layR q3 wh.length (dlu fr)).length=512:=by rw [layR_len _ _ _ (by have:=hq3l.out;omega)];exact hq3l.out
  rw [Nat.zero_add,hA4.out.cell i (by omega)]
  have e:=layR_two (dlu wh) (dlu fr) 512 (by omega) i hi (by rw [hlw,hq3.out];omega)
  simp only [hlw,hq3.out] at e
  rw [e]
 go_wp2_with fail
 have S4:Hid (PSt w w1.heap.size n (mkB wh) (mkB fr) pn (mkB pw) (dlu wh++dlu fr) W4):=⟨hb4.out,hP4.out,hB4.out,hz4,hcells.out⟩
 have hpl:(mkB pw).size≤100000:=by rw [mkB_size];omega
 have hpb:=hide (bl_mkB pw)
 have hpa:=hide (show allD (bl (mkB pw))=true by rw [bl_mkB];exact a3.out)
 have hdl:=hide (show (dlu wh++dlu fr).length=(wh.length+fr.length) by rw [List.length_append,hlw,hlf])
 go_region_with (first|(go_at_call 178;go_fit (powerOf_any n (mkB wh) (mkB fr) pn (mkB pw) W4.drew hpl hpa.out);rw [hpb.out];rintro e W5 ⟨rfl,hb5⟩;have S5:=hide (S4.out.drew.then hb5);clear hb5;obtain ⟨u0,u1,u2,u3,u4,s0,s1,s2,s3,s4⟩:=S5.out.hp.cells)|(go_at_call 177;go_fit (form_any n (w1.heap.size+1) 0 (wh.length+fr.length) 512 (dlu wh++dlu fr) (powF pn pw - fr.length) W5 hdl.out (by omega) (by omega) (by omega) (by omega) S5.out.hz S5.out.hc (by omega) (by omega) hdgs.out);rintro e W6 ⟨rfl,hb6⟩;obtain ⟨fb,fs,fx,fe,hfe⟩:∃ fb fs fx fe,formF n (dlu wh++dlu fr) (powF pn pw - fr.length)=(fb,fs,fx,fe):=⟨_,_,_,_,rfl⟩;rw [hfe];have hfe:=hide hfe;have S6:=hide (S5.out.then hb6);clear hb6;obtain ⟨d20,d21,d22,g20,g21,g22⟩:=S6.out.hb.cells;simp only [retF]))
 all_goals
  go_wp2
  refine bodyPost_ret (v:=.tuple #[.agg #[.bool fb,.string fs,.int .i64 fx],.int .i64 fe]) (by simp [results,Tryz.results149,go_sem,d20,d21,d22]) rfl ⟨by rw [hfe.out];rfl,?_⟩
  exact ((S6.out.below.setCell (Nat.le_refl _) _).setCell (Nat.le_refl _) _).setCell (Nat.le_refl _) _
theorem parse_any (s:ByteArray)(w:World)(hs:s.size≤100000) :
  Calls Tryz.prog 149 #[.string s] w fun e w'=>e=retF (parseF (bl s))∧Below w.heap.size w w':=by
 unfold parseF
 cases h:splitL (bl s) with
 | none=>exact parse_none s w hs h
 | some r =>
  obtain ⟨n,wh,fr,pn,pw⟩:=r
  simp only
  rw [bl_length]
  by_cases hl:512<s.size
  ·rw [if_pos hl];exact parse_long s w hs n wh fr pn pw h hl
  ·rw [if_neg hl]
   by_cases hfr:fr.length=0
   ·by_cases hw:wh.length<512
    ·exact parse_some_a s w (by omega) n wh fr pn pw h hfr hw
    ·exact parse_some_b s w (by omega) n wh fr pn pw h hfr hw
   ·exact parse_some_c s w (by omega) n wh fr pn pw h hfr
theorem formF_isN {neg:Bool} {d:List Nat} {x:Int} (hd:Dgs d) {b:Bool} {s:ByteArray} {y:Int} (h:formF neg d x=(b,s,y,0)):isN b s y=true:=by
 unfold formF at h
 by_cases hz:lz d=d.length
 ·rw [if_pos hz] at h
  simp only [Prod.mk.injEq] at h
  obtain ⟨rfl,rfl,rfl,_⟩:=h
  rfl
 ·rw [if_neg hz] at h
  have hlt:lz d<d.length:=by have:=lz_le d;omega
  obtain ⟨hc,hne⟩:=core_can d hlt hd
  by_cases hf:(core d).length≤40∧-400≤x+tz (dz d)∧x+tz (dz d)≤400
  ·rw [if_pos hf] at h
   simp only [Prod.mk.injEq] at h
   obtain ⟨rfl,rfl,rfl,_⟩:=h
   have ho:=mkS_isO (core d) (x+tz (dz d)) hc hne hf.1 hf.2.1 hf.2.2
   simp [isN,ho]
  ·rw [if_neg hf] at h
   simp only [Prod.mk.injEq] at h
   exact absurd h.2.2.2 (by decide)
theorem parseF_isN {l:List UInt8} {b:Bool} {s:ByteArray} {y:Int} (h:parseF l=(b,s,y,0)):isN b s y=true:=by
 unfold parseF at h
 cases hs:splitL l with
 | none =>
  rw [hs] at h
  simp only [Prod.mk.injEq] at h
  exact absurd h.2.2.2 (by decide)
 | some r =>
  obtain ⟨n,wh,fr,pn,pw⟩:=r
  rw [hs] at h
  simp only at h
  obtain ⟨f1,f2,_⟩:=splitL_facts hs
  split at h
  ·simp only [Prod.mk.injEq] at h
   exact absurd h.2.2.2 (by decide)
  ·refine formF_isN (fun d hd=>?_) h
   rcases List.mem_append.1 hd with q|q
   ·exact dlu_dgs wh f1 d q
   ·exact dlu_dgs fr f2 d q
theorem parseF_size {l:List UInt8} (h:(parseF l).2.2.2≠0):parseF l=(false,⟨#[]⟩,0,(parseF l).2.2.2):=by
 revert h
 unfold parseF
 cases splitL l with
 | none=>intro _;rfl
 | some r =>
  obtain ⟨n,wh,fr,pn,pw⟩:=r
  simp only
  split
  ·intro _;rfl
  ·unfold formF
   split
   ·intro h;exact absurd rfl h
   ·split
    ·intro h;exact absurd rfl h
    ·intro _;rfl
end Go.Proofs.YthodiandebahdaaGreatDoor
